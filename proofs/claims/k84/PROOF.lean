import PyProof.Rows.All
import Wide.FinOn
import OpenK.KSplit
import KE.KSortTup
import KE.KDictOf
import KE.RegKIsAll
import KE.KEqDict
import KE.KRevIter
import KE.KDictList
import PySem.Challenge.RW_lotledger_k84_reports
set_option Elab.async false
set_option linter.all false
set_option compiler.extract_closed false
set_option maxRecDepth 100000
set_option maxHeartbeats 4000000
local macro_rules | `(tactic| walk_at "o") => `(tactic| first | exact Or.inl rfl | exact Or.inr (Or.inl rfl) | exact Or.inr (Or.inr rfl))
local macro_rules | `(tactic| walk_at "p") => `(tactic| first | exact .inl rfl | exact .inr rfl | assumption)
noncomputable section
abbrev Fg_:=PySem.W.Frag
def za:= @List.length_map
def zb:= @List.mem_map
def zc:= @PySem.wpAny_bind
def zd:= @PySem.Heap.get?_push_of_some
def ze:= @if_neg
def zf:= @List.not_mem_nil
def zg:= @List.mem_cons_self
def zh:= @List.mem_of_getElem?
def zi:= @List.map_cons
def zj:= @List.map_append
def zk:= @List.mem_cons_of_mem
def zl:= @if_pos
def zm:= @List.getElem?_map
def zn:= @PySem.sizeLine_eq
def zo:= @Nat.le_refl
def zp:= @List.getElem?_eq_some_iff
def zq:= @List.map_map
def zr:= @List.getElem?_eq_getElem
def zt:= @List.mem_cons
def zu:= @List.mem_singleton
def zv:= @PySem.Heap.lt_size
def zw:= @List.size_toArray
def zx:= @PySem.wpAny_pure
def zy:= @Option.some.inj
def zA:= @List.mem_append
def zB:= @List.length_append
def zC:= @PySem.Heap.get?_push_size
def zD:= @Nat.ne_of_lt
def zE:= @List.length_cons
def zF:= @List.sum_cons
def zG:= @List.mem_append_right
def zH:= @Nat.lt_of_lt_of_le
def zI:= @List.take_add_one
def zK:= @Nat.zero_le
def zL:= @PySem.F.plainAttrs_list
def zM:= @decide_eq_true
def zN:= @Nat.le_trans
def zO:= @List.length_take
def zP:= @Bool.false_ne_true
def zQ:= @decide_eq_false
def zR:= @List.nodup_cons
def zS:= @Int.emod_lt_of_pos
def zT:= @List.take_length
def zU:= @PySem.F.slot_list_append
def zV:= @PySem.F.type_list_append
def zW:= @PySem.PassesOwn.never
def zX:= @Int.emod_nonneg
def zY:= @List.getElem?_eq_none
def zZ:= @List.map_congr_left
def z3:= @List.take_of_length_le
def z4:= @List.getElem?_append_right
def z5:= @List.getElem?_append_left
def z6:= @List.mem_filter
def z7:= @PySem.Paired.length
def z8:= @PySem.wpAny_holding
def z9:= @List.getElem_of_mem
def ya:= @PySem.wpAny_mono
def yb:= @PySem.F.plainAttrs_dict
def yc:= @List.filter_cons_of_pos
def yd:= @List.filter_cons_of_neg
def ye:= @List.mem_of_mem_take
def yf:= @PySem.wpAny_Call_Name_kw
def yg:= @PySem.W.kia_one
def yh:= @List.foldl_cons
def yj:= @List.sum_append
def yk:= @Array.length_toList
def ym:= @of_decide_eq_true
def yn:= @List.length_filter_le
def yo:= @List.append_nil
def yp:= @Nat.lt_of_le_of_lt
def yq:= @List.filter_append
def yr:= @Nat.pow_le_pow_right
def yt:= @Nat.lt_irrefl
def yu:= @Nat.ne_of_gt
def yv:= @List.pairwise_map
def yw:= @PySem.wpAny_truthy_bool
def yx:= @List.replicate_succ
def yy:= @Nat.mul_le_mul_left
def yz:= @Nat.le_succ
def yA:= @PySem.F.slot_dict_get
def yB:= @List.length_drop
def yC:= @Bool.false_eq_true
def yD:= @Nat.le_add_right
def yE:= @List.any_eq_true
def yF:= @Option.isSome_iff_exists
def yG:= @List.mem_append_left
def yH:= @List.mem_range
def yI:= @PySem.Heap.get?_update_other
def yJ:= @Bool.and_eq_true
def yK:= @Array.getElem?_toList
def yL:= @Sum.inr.inj
def yM:= @PySem.wpAny_pyIter_list
def yN:= @PySem.wpAny_newObj_type
def yO:= @PySem.mem_of_lookup
def yQ:= @PySem.Heap.get?_update_ne
def yR:= @List.length_pos_iff
def yS:= @Int.mul_ediv_cancel
def yT:= @List.getElem_mem
def yU:= @Int.mul_le_mul_of_nonneg_left
def yV:= @PySem.F.entry_dict_get
def yW:= @PySem.call_meetsIn
def yX:= @Bool.eq_iff_iff
def yY:= @List.nil_append
def yZ:= @List.find?_cons
def y0:= @List.cons.inj
def y4:= @List.length_singleton
def y6:= @PySem.F.slot_dict_pop
def y9:= @List.take_append_drop
def zza:= @List.append_assoc
def zzb:= @List.ext_getElem?
def zzc:= @List.nodup_append
def zzd:= @Int.mul_nonneg
def zze:= @Int.le_refl
def zzf:= @PySem.wpAny_tryCatch
def zzg:= @PySem.wpAny_FormattedValue_plain
def zzh:= @List.drop_eq_getElem_cons
def zzi:= @Array.getElem?_eq_getElem
def zzj:= @List.pairwise_iff_getElem
def zzk:= @List.filter_eq_self
def zzl:= @List.length_nil
def zzm:= @PySem.wpAny_passesOwn
def zzn:= @PySem.W.callWith_K
def zzo:= @List.Nodup.sublist
def zzp:= @PySem.F.slot_dict_items
def zzq:= @List.length_eq_zero_iff
def zzr:= @List.pairwise_singleton
def zzs:= @Nat.le_of_lt
def zzt:= @List.getElem?_set_self
def zzu:= @List.map_nil
def zzv:= @List.flatten_cons
def zzw:= @Option.map_eq_some_iff
def zzx:= @List.foldl_append
def zzy:= @List.drop_of_length_le
def zzz:= @PySem.wpAny_pyNext_list_item
def zzA:= @PySem.wpAny_Call_method
def zzB:= @List.length_replicate
def zzC:= @PySem.W.methodCall_KW
def zzD:= @List.eq_nil_or_concat
def zzE:= @List.concat_eq_append
def zzF:= @PySem.wpAny_pyNext_list_end
def zzG:= @PySem.wpAny_formatField_int
def zzH:= @List.filter_cons
def zzI:= @List.ext_getElem
def zzJ:= @Int.ediv_le_ediv
def zzK:= @PySem.wpAny_call_entry
def zzL:= @PySem.call_meets
def zzM:= @List.map_take
def zzN:= @List.getElem?_set_ne
def zzO:= @Array.toArray_toList
def zzP:= @List.take_append_of_le_length
def zzQ:= @Option.map_some
def zzR:= @Int.ediv_nonneg
def zzS:= @PySem.wpAny_execs_nil
def zzT:= @PySem.wpAny_specialOf
def zzU:= @List.filterMap_cons
def zzV:= @PySem.W.plainGet_of
def zzW:= @List.getElem?_range
def zzX:= @Nat.lt_trans
def zzY:= @Array.append_assoc
def zzZ:= @Bool.false_and
def zz0:= @PySem.Heap.size_push
def zz1:= @Array.perm_iff_toList_perm
def zz2:= @List.zip_cons_cons
def zz3:= @List.getD_eq_getElem?_getD
def zz4:= @List.take_zero
def zz5:= @PySem.wpAny_seqItems
def zz6:= @Sum.inl.inj
def zz7:= @Int.toNat_natCast
def zz8:= @List.getElem?_inj
def zz9:= @List.Sublist.refl
def yya:= @PySem.wpAny_letGo
def yyb:= @PySem.wpAny_standAt
def yyc:= @PySem.wpAny_newList
def yyd:= @List.getElem_inj
def yye:= @PySem.W.makes_of
def yyf:= @Nat.lt_succ_self
def yyg:= @List.lookup_cons
def yyh:= @List.getElem_map
def yyi:= @Nat.le_of_eq
def yyj:= @Int.lt_trans
def yyk:= @PySem.wpAny_call
def yyl:= @PySem.wpAny_typeOf
def yym:= @List.of_mem_zip
def yyn:= @Int.natCast_add
def yyo:= @PySem.wpAny_updateSeq
def yyp:= @List.map_id
namespace L2
open PySem PySem.Spec PyProof.Rows
abbrev Key:=Sum Int Str
noncomputable def Vo:Key->Value->Bool
 |.inl k,v=>Value.isInt k v
 |.inr x,v=>Value.isStrOf x v
noncomputable def amQ(w:World):Key->Int
 |.inl k=>hashInt k
 |.inr x=>hashStr w x
def lG:∀{k:Key}{v:Value},Vo k v=true->(∃i t,k=Sum.inl i/\v=Value.int i t)\/(∃x t,k=Sum.inr x/\v=Value.str x t)
 |.inl i,v,h=>by
  obtain⟨t,e⟩:=Value.isInt_shape (k:=i) (v:=v) h;exact .inl ⟨i,t,rfl,e⟩
 |.inr x,v,h=>by
  obtain⟨t,e⟩:=Value.isStrOf_shape (x:=x) (v:=v) h;exact .inr ⟨x,t,rfl,e⟩
def Xu(i:Int)(t:Tok):Vo (.inl i) (.int i t)=true:=by simp[Vo,Value.isInt]
def Xz(x:Str)(t:Tok):Vo (.inr x) (.str x t)=true:=by simp[Vo,Value.isStrOf]
def akW(a b:Int):decide ((Sum.inl a:Key)=Sum.inl b)=(a==b):=by
 by_cases e:a=b
 ·subst e;simp
 ·have h:¬(Sum.inl a:Key)=Sum.inl b:=λq=>e (zz6 q)
  rw[zQ h];exact(beq_eq_false_iff_ne.mpr e).symm
def akK(a b:Str):decide ((Sum.inr a:Key)=Sum.inr b)=decide (a=b):=by
 by_cases e:a=b
 ·subst e;simp
 ·have h:¬(Sum.inr a:Key)=Sum.inr b:=λq=>e (yL q)
  rw[zQ h,zQ e]
def alk(a:Int)(b:Str):decide ((Sum.inl a:Key)=Sum.inr b)=false:=zQ (λq=>nomatch q)
def ala(a:Str)(b:Int):decide ((Sum.inr a:Key)=Sum.inl b)=false:=zQ (λq=>nomatch q)
noncomputable def jK(prog:Program)(w:World):PySem.KeyKind prog w Key where
 is:=Vo
 hash:=amQ w
 inj:=λv a b ha hb=>by
  rcases lG ha with⟨i,t,rfl,rfl⟩|⟨x,t,rfl,rfl⟩
  ·rcases lG hb with⟨j,u,rfl,e⟩|⟨y,u,rfl,e⟩
   ·injection e with e1 _;rw[e1]
   ·exact nomatch e
  ·rcases lG hb with⟨j,u,rfl,e⟩|⟨y,u,rfl,e⟩
   ·exact nomatch e
   ·injection e with e1 _;rw[e1]
 byValue:=λk v h=>by
  rcases lG h with⟨i,t,rfl,rfl⟩|⟨x,t,rfl,rfl⟩<;>rfl
 pyHash:=λhv h=>by
  rcases lG hv with⟨i,t,rfl,rfl⟩|⟨x,t,rfl,rfl⟩
  ·exact wpAny_pyHash_int h
  ·exact wpAny_pyHash_str h
 eqBool:=λhu hv h=>by
  rcases lG hu with⟨i,t,rfl,rfl⟩|⟨x,t,rfl,rfl⟩
  ·rcases lG hv with⟨j,u,rfl,rfl⟩|⟨y,u,rfl,rfl⟩
   ·rw[akW]at h;exact wpAny_eqBool_int h
   ·rw[alk]at h;exact SeqAt.EqAt.int_str i t y u _ _ _ _ h
  ·rcases lG hv with⟨j,u,rfl,rfl⟩|⟨y,u,rfl,rfl⟩
   ·rw[ala]at h;exact SeqAt.EqAt.str_int x t j u _ _ _ _ h
   ·rw[akK]at h;exact wpAny_eqBool_str h
 «strs»:=λk x t v h=>by
  rcases lG h with⟨i,u,rfl,e⟩|⟨y,u,rfl,e⟩
  ·exact nomatch e
  ·injection e with e1 _
   subst e1;cases v<;>rfl
def Rt(prog:Program)(w:World)(i:Int)(t:Tok):(jK prog w).is (.inl i) (.int i t)=true:=Xu i t
def RG(prog:Program)(w:World)(x:Str)(t:Tok):(jK prog w).is (.inr x) (.str x t)=true:=Xz x t
end L2
namespace L2
open PySem PySem.Spec PyProof.Rows
inductive V where
 |non|bl (b:Bool)|int (i:Int)|str (x:Str)|byt (b:Array UInt8)|flt (b:UInt64)|ref (a:Addr)|ty (n:String)
 deriving DecidableEq
noncomputable def RelV:V->Value->Prop
 |.non,u=>u=Value.none
 |.bl b,u=>u=Value.bool b
 |.int i,u=>∃t,u=Value.int i t
 |.str x,u=>∃t,u=Value.str x t
 |.byt b,u=>∃t,u=Value.bytes b t
 |.flt b,u=>∃t,u=Value.float b t
 |.ref a,u=>u=Value.ref a
 |.ty n,u=>u=Value.type n
abbrev Vals:List V->List Value->Prop:=Paired RelV
theorem Vals.length{xs:List V}{us:List Value}(r:Vals xs us):xs.length=us.length:=z7 r
theorem Vals.get:∀{xs:List V}{us:List Value}{i:Nat}{x:V},Vals xs us->xs[i]? =some x->∃u,us[i]? =some u/\RelV x u
 |_,_,_,_,.nil,e=>by simp at e
 |_,_,0,_,.cons r _,e=>by simp at e;subst e;exact⟨_,rfl,r⟩
 |_,_,i+1,x,.cons _ t,e=>by
  obtain⟨u,h1,h2⟩:=Vals.get (i:=i) (x:=x) t (by simpa using e);exact⟨u,by simpa using h1,h2⟩
theorem Vals.append:∀{xs ys:List V}{us ws:List Value},Vals xs us->Vals ys ws->Vals (xs++ys) (us++ws)
 |_,_,_,_,.nil,s=>s
 |_,_,_,_,.cons r t,s=> .cons r (Vals.append t s)
theorem Vals.take:∀{xs:List V}{us:List Value}(n:Nat),Vals xs us->Vals (xs.take n) (us.take n)
 |_,_,0,_=> .nil
 |_,_,_+1,.nil=> .nil
 |_,_,n+1,.cons r t=> .cons r (Vals.take n t)
theorem Vals.drop:∀{xs:List V}{us:List Value}(n:Nat),Vals xs us->Vals (xs.drop n) (us.drop n)
 |_,_,0,r=>r
 |_,_,_+1,.nil=> .nil
 |_,_,n+1,.cons _ t=>Vals.drop n t
noncomputable def Ly:Option V->Option Value->Prop
 |some v,some u=>RelV v u
 |none,none=>True
 |_,_=>False
noncomputable def KV{κ:Type}:List (κ×V)->List (κ×Value)->Prop:=Paired fun(p:κ×V)(q:κ×Value)=>p.1=q.1/\RelV p.2 q.2
noncomputable def kV:Key->V
 |.inl i=> .int i
 |.inr x=> .str x
inductive HO where
 |lst (xs:List V)
 |tup (xs:List V)
 |dK (kvs:List (Key×V))|dT (kvs:List (List Key×V))
 |set (S:Int->Bool) (n:Nat)
 |ins (C dx:Addr) (fs:List (Str×V))
 |own (x:Addr)
 |xd (fs:List (Str×V))
 |met (f x:Addr)
 |rng (lo hi:Int)
 |frz (o:Obj) (u:HO)
 |tbl (ps:Array Value)
 |ext (φ:Heap->Prop)
abbrev Hp:=Addr->Option HO
noncomputable def upd(H:Hp)(a:Addr)(o:HO):Hp:=λb=>if b=a then some o else H b
def iK{H:Hp}{a:Addr}{o:HO}:upd H a o a=some o:=by unfold upd;rw[zl rfl]
def iZ{H:Hp}{a b:Addr}{o:HO}(h:b≠a):upd H a o b=H b:=by unfold upd;rw[ze h]
def alO{H:Hp}{a b:Addr}{o u:HO}(h:H a=some o)(h':H b=some u)(d:o≠u):a≠b:=by
 intro e;subst e;rw[h]at h';exact d (zy h')
def jT{H:Hp}{a b:Addr}{o:HO}(h:H a=some o)(h':H b=none):a≠b:=by
 intro e;subst e;rw[h]at h';cases h'
section
variable(P:Program)(w:World)
noncomputable def mj(H:Hp)(h:Heap)(a:Addr):HO->Prop
 |.lst xs=>xs.length<=sizeLine/\∃(its:List Value)(n:Nat),Vals xs its/\h.get? a=some {cls:=.type "list",data:=.seq its.toArray n}
 |.tup xs=>xs.length<=sizeLine/\∃its:List Value,Vals xs its/\IsTup h a its.toArray
 |.dK kvs=>kvs.length<=sizeLine/\(a==sysModules)=false/\∃vs,KV kvs vs/\h.DictOf (jK P w) a vs
 | .dT kvs=>kvs.length<=sizeLine/\(a==sysModules)=false/\∃xs:List (List Key×Addr×Value),
   Paired (fun(p:List Key×V)(q:List Key×Addr×Value)=>p.1=q.1/\H q.2.1=some (.tup (p.1.map kV))/\RelV p.2 q.2.2) kvs xs/\
   ∃o es ep,h.get? a=some o/\o.ExactDict/\o.data=.dict es ep/\es.toList=xs.map (entryOfKey (tupleKind (jK P w)))/\(xs.map (·.1)).Nodup
 |.set S n=>h.SetOf (intKind P w) a S n
 | .ins C dx fs=>H dx=some (.own a)/\fs.length<=1000/\dx≠a/\h.get? a=some (PySem.W.instObj C dx)/\
   ∃mA,h.Ns1 dx mA/\(∀f,Ly (fs.lookup f) (mA f))/\PySem.Within mA (fs.map (·.1))
 |.own _=>∃o,h.get? a=some o
 |.xd fs=>∃mA,h.Ns1 a mA/\∀f,Ly (fs.lookup f) (mA f)
 |.rng lo hi=>∃t u v,h.get? a=some {cls:=.type "range",data:=.fields #[.int lo t,.int hi u,.int 1 v]}
 |.frz o u=>h.get? a=some o/\mj H h a u
 |.tbl ps=>h.get? a=some {cls:=.none,data:=.fields ps}
 |.met f x=>h.get? a=some (PySem.W.methodObj (.ref f) (.ref x))
 |.ext φ=>φ h/\(∃o,h.get? a=some o)/\∀h1 h2:Heap,φ h1->(∀o,h1.get? a=some o->h2.get? a=some o)->φ h2
noncomputable def HOk(H:Hp)(h:Heap):Prop:=∀a o,H a=some o->mj P w H h a o
end
section
variable{P:Program}{w:World}{H H':Hp}{h h':Heap}{a:Addr}{o:HO}
theorem mj.lt(x:mj P w H h a o):a<h.objs.size:=by
 cases o with
 |lst xs=>obtain⟨_,_,_,_,e⟩:=x;exact zv e
 |tup xs=>obtain⟨_,_,_,p⟩:=x;exact p.lt
 |dK kvs=>obtain⟨_,_,_,_,o,_,_,e,_⟩:=x;exact zv e
 |dT kvs=>obtain⟨_,_,_,_,o,_,_,e,_⟩:=x;exact zv e
 |set S n=>obtain⟨o,_,_,_,e,_⟩:=x;exact zv e
 |ins C dx fs=>obtain⟨_,_,_,e,_⟩:=x;exact zv e
 |own y=>obtain⟨_,e⟩:=x;exact zv e
 |xd fs=>obtain⟨_,⟨_,_,_,e,_⟩,_⟩:=x;exact zv e
 |rng lo hi=>obtain⟨_,_,_,e⟩:=x;exact zv e
 |frz ob u=>obtain⟨e,_⟩:=x;exact zv e
 |tbl ps=>exact zv (show h.get? a=some _ from x)
 |met f y=>exact zv (show h.get? a=some _ from x)
 |ext φ=>obtain⟨_,⟨_,e⟩,_⟩:=x;exact zv e
theorem Paired.mapP{α β:Type}{F G:α->β->Prop}:∀{l₁:List α}{l₂:List β},Paired F l₁ l₂->(∀a b,F a b->G a b)->Paired G l₁ l₂
 |_,_,.nil,_=> .nil
 |_,_,.cons r t,f=> .cons (f _ _ r) (Paired.mapP t f)
def mj.stay(x:mj P w H h a o)(k:∀b u,(b=a\/H b=some (.own a))->h.get? b=some u->h'.get? b=some u)
  (ho:∀b,H b=some (.own a)->H' b=some (.own a)) (ht:∀b xs,H b=some (.tup xs)->H' b=some (.tup xs)):mj P w H' h' a o:=by
 induction o with
 |lst xs=>obtain⟨z,its,n,r,e⟩:=x;exact⟨z,its,n,r,k _ _ (.inl rfl) e⟩
 |tup xs=>obtain⟨z,its,r,ob,e,c⟩:=x;exact⟨z,its,r,ob,k _ _ (.inl rfl) e,c⟩
 |dK kvs=>obtain⟨z,y,vs,r,ob,es,ep,e,c⟩:=x;exact⟨z,y,vs,r,ob,es,ep,k _ _ (.inl rfl) e,c⟩
 |dT kvs=>
  obtain⟨z,y,xs,r,ob,es,ep,e,c⟩:=x;exact⟨z,y,xs,Paired.mapP r λp q z=>⟨z.1,ht _ _ z.2.1,z.2.2⟩,ob,es,ep,k _ _ (.inl rfl) e,c⟩
 |set S n=>obtain⟨ob,es,ep,t,e,c⟩:=x;exact⟨ob,es,ep,t,k _ _ (.inl rfl) e,c⟩
 |ins C dx fs=>
  obtain⟨d,z,ne,e,mA,⟨od,es,ep,e2,c⟩,r⟩:=x;exact⟨ho _ d,z,ne,k _ _ (.inl rfl) e,mA,⟨od,es,ep,k _ _ (.inr d) e2,c⟩,r⟩
 |own y=>obtain⟨ob,e⟩:=x;exact⟨ob,k _ _ (.inl rfl) e⟩
 |xd fs=>obtain⟨mA,⟨od,es,ep,e,c⟩,r⟩:=x;exact⟨mA,⟨od,es,ep,k _ _ (.inl rfl) e,c⟩,r⟩
 |rng lo hi=>obtain⟨t,u,v,e⟩:=x;exact⟨t,u,v,k _ _ (.inl rfl) e⟩
 |frz ob u ih=>obtain⟨e,q⟩:=x;exact⟨k _ _ (.inl rfl) e,ih q⟩
 |tbl ps=>
  have e:h.get? a=some {cls:=.none,data:=.fields ps}:=x;show h'.get? a=some {cls:=.none,data:=.fields ps};exact k a _ (.inl rfl) e
 |met f y=>
  have e:h.get? a=some (PySem.W.methodObj (.ref f) (.ref y)):=x;show h'.get? a=some (PySem.W.methodObj (.ref f) (.ref y));exact k a _ (.inl rfl) e
 |ext φ=>obtain⟨p,⟨o,e⟩,st⟩:=x;exact⟨st _ _ p λo q=>k _ _ (.inl rfl) q,⟨o,k _ _ (.inl rfl) e⟩,st⟩
theorem HOk.lt(x:HOk P w H h)(e:H a=some o):a<h.objs.size:=(x a o e).lt
def HOk.fresh(x:HOk P w H h)(e:h.objs.size<=a):H a=none:=by
 cases q:H a with
 |none=>rfl
 |some u=>exact absurd (zH (x.lt q) e) (yt _)
def HOk.kept(x:HOk P w H h)(k:∀b u,h.get? b=some u->h'.get? b=some u):HOk P w H h':=λa o e=>
 (x a o e).stay (λb u _ q=>k b u q) (λ_ q=>q) λ_ _ q=>q
def HOk.laid(x:HOk P w H h)(k:∀b u,h.get? b=some u->h'.get? b=some u)(hp:h.objs.size<=a)(z:mj P w (upd H a o) h' a o):HOk P w (upd H a o) h':=λb u e=>by
 have hn:=x.fresh hp;by_cases hb:b=a
 ·subst hb;rw[iK]at e;cases e;exact z
 ·rw[iZ hb]at e
  exact(x b u e).stay (λc v _ q=>k c v q) (λc q=>by rw[iZ (jT q hn)];exact q) λc xs q=>by rw[iZ (jT q hn)];exact q
end
noncomputable def Rd(H:Hp)(a:Addr)(u:HO):Prop:=H a=some u\/∃o,H a=some (.frz o u)
def Rd.of{H:Hp}{a:Addr}{u:HO}(h:H a=some u):Rd H a u:=.inl h
def Rd.ok{P:Program}{w:World}{H:Hp}{h:Heap}{a:Addr}{u:HO}(r:Rd H a u)(x:HOk P w H h):mj P w H h a u:=by
 rcases r with r|⟨o,r⟩
 ·exact x a u r
 ·obtain⟨_,q⟩:=x a _ r
  exact q
noncomputable def Mut:Option HO->Prop
 |some (.lst _)=>True
 |some (.dK _)=>True
 |some (.dT _)=>True
 |some (.set _ _)=>True
 |some (.ins _ _ _)=>True
 |some (.ext _)=>True
 |_=>False
section
variable{P:Program}{w:World}{H:Hp}{h h':Heap}{x e:Addr}{o':HO}
def HOk.write(ok:HOk P w H h)(mu:Mut (H x))(he:e=x\/H e=some (.own x))(k:∀b u,b≠e->h.get? b=some u->h'.get? b=some u)(ae:∃u,h'.get? e=some u)
  (ad:mj P w (upd H x o') h' x o'):HOk P w (upd H x o') h':=λb u q=>by
 have ab:∀c y,H c=some (.own y)->c≠x:=λc y r z=>by subst z;rw[r]at mu;exact mu
 have ac:∀c xs,H c=some (.tup xs)->c≠x:=λc xs r z=>by subst z;rw[r]at mu;exact mu
 by_cases hb:b=x
 ·subst hb;rw[iK]at q;cases q;exact ad
 ·rw[iZ hb]at q
  by_cases aa:b=e
  ·have q':H b=some (.own x):=by
    rcases he with z|z
    ·exact absurd (aa.trans z) hb
    ·rw[aa];exact z
   rw[q]at q';cases q';obtain⟨v,hv⟩:=ae;exact⟨v,by rw[aa];exact hv⟩
  ·refine(ok b u q).stay (λc v hc r=>k c v ?_ r) (λc r=>by rw[iZ (ab c b r)];exact r) λc xs r=>by rw[iZ (ac c xs r)];exact r
   rcases hc with rfl|hc
   ·exact aa
   ·rintro rfl
    rcases he with z|z
    ·exact ab c b hc z
    ·rw[hc]at z;cases z;exact hb rfl
end
structure Un(fs ex:List Addr)(H H':Hp)(h h':Heap):Prop where
 keep:∀b o,h.get? b=some o->H b=none->b∉fs->b∉ex->h'.get? b=some o
 slot:∀b o,h.get? b=some o->H b=none->b∈fs->b∉ex->∃sl,h'.get? b=some {o with slots:=sl}
 free:∀b o,h.get? b=some o->H b=none->b∉ex->H' b=none
 there:∀b o,h.get? b=some o->b∉ex->∃o',h'.get? b=some o'
 tups:∀b xs,H b=some (.tup xs)->H' b=some (.tup xs)
 frzs:∀b o u,H b=some (.frz o u)->H' b=some (.frz o u)
 tbls:∀b ps,H b=some (.tbl ps)->∃more,H' b=some (.tbl (ps++more))
section
variable{fs fs' ex ex':List Addr}{H H1 H2:Hp}{h h1 h2 h':Heap}{a x e:Addr}{o:HO}
def Un.any(u:Un fs ex H H1 h h1){b:Addr}{z:Obj}(q:h.get? b=some z)(n:H b=none)(hx:b∉ex):∃sl,h1.get? b=some {z with slots:=sl}:=by
 by_cases hb:b∈fs
 ·exact u.slot b z q n hb hx
 ·exact⟨z.slots,u.keep b z q n hb hx⟩
def Un.trans(a:Un fs ex H H1 h h1)(b:Un fs ex H1 H2 h1 h2):Un fs ex H H2 h h2 where
 keep:=λc ob q n hc z=>b.keep c ob (a.keep c ob q n hc z) (a.free c ob q n z) hc z
 slot:=λc ob q n hc z=>by
  obtain⟨sl,e1⟩:=a.slot c ob q n hc z;obtain⟨aa,e2⟩:=b.slot c _ e1 (a.free c ob q n z) hc z;exact⟨aa,e2⟩
 free:=λc ob q n z=>by
  obtain⟨o',e1⟩:=a.there c ob q z;exact b.free c o' e1 (a.free c ob q n z) z
 there:=λc ob q z=>by
  obtain⟨o',e1⟩:=a.there c ob q z;exact b.there c o' e1 z
 tups:=λc xs q=>b.tups c xs (a.tups c xs q)
 frzs:=λc ob xs q=>b.frzs c ob xs (a.frzs c ob xs q)
 tbls:=λc ps q=>by
  obtain⟨m1,e1⟩:=a.tbls c ps q;obtain⟨m2,e2⟩:=b.tbls c _ e1;exact⟨m1++m2,by rw[e2,zzY]⟩
def Un.kept(k:∀b u,h.get? b=some u->h'.get? b=some u):Un fs ex H H h h':=
 ⟨λb z q _ _ _=>k b z q,λb z q _ _ _=>⟨z.slots,k b z q⟩,λ_ _ _ n _=>n,λb z q _=>⟨z,k b z q⟩,λ_ _ q=>q,λ_ _ _ q=>q,λ_ ps q=>⟨#[],by rw[q];simp⟩⟩
def Un.refl:Un fs ex H H h h:=Un.kept λ_ _ q=>q
def Un.laid(k:∀b u,h.get? b=some u->h'.get? b=some u)(z:h.objs.size<=a)(hn:H a=none):Un fs ex H (upd H a o) h h' where
 keep:=λb u q _ _ _=>k b u q
 slot:=λb u q _ _ _=>⟨u.slots,k b u q⟩
 free:=λb u q n _=>by rw[iZ (zD (zH (zv q) z))];exact n
 there:=λb u q _=>⟨u,k b u q⟩
 tups:=λb xs q=>by rw[iZ (jT q hn)];exact q
 frzs:=λb u xs q=>by rw[iZ (jT q hn)];exact q
 tbls:=λb ps q=>⟨#[],by rw[iZ (jT q hn),q];simp⟩
def Un.write(mu:Mut (H x))(he:e=x\/H e=some (.own x))(k:∀b u,b≠e->h.get? b=some u->h'.get? b=some u)(ab:∃u,h'.get? e=some u):Un fs ex H (upd H x o) h h':=by
 have hx:∀b,H b=none->b≠x:=λb n z=>by subst z;rw[n]at mu;exact mu
 have hb:∀b,H b=none->b≠e:=λb n z=>by
  subst z;rcases he with r|r
  ·exact hx b n r
  ·rw[n]at r;cases r
 have hm:∀b u,H b=some u->¬Mut (some u)->b≠x:=λb u q nm z=>by subst z;rw[q]at mu;exact nm mu
 refine ⟨λb u q n _ _=>k b u (hb b n) q,λb u q n _ _=>⟨u.slots,k b u (hb b n) q⟩,λb u q n _=>by rw[iZ (hx b n)];exact n,λb u q _=>?_,
  λb xs q=>by rw[iZ (hm b _ q λz=>z)];exact q,λb u xs q=>by rw[iZ (hm b _ q λz=>z)];exact q,λb ps q=>⟨#[],by rw[iZ (hm b _ q λz=>z),q];simp⟩⟩
 by_cases aa:b=e
 ·subst aa;exact ab
 ·exact⟨u,k b u aa q⟩
end
noncomputable def trk(h:Heap)(H:Hp):List Addr:=(List.range h.objs.size).filter λa=>(H a).isSome
noncomputable def aau(h:Heap)(H:Hp):Heap:=PySem.W.hideAll h (trk h H)
def ZC(h:Heap)(H:Hp):(aau h H).objs.size=h.objs.size:=PySem.W.hideAll_size _ _
def aax{h:Heap}{H:Hp}{b:Addr}{o:Obj}(e:h.get? b=some o)(n:H b=none):(aau h H).get? b=some o:=
 PySem.W.hideAll_get _ e λhm=>by
  have q:(H b).isSome=true:=(z6.mp hm).2;rw[n]at q;simp at q
def aiT{h:Heap}{H:Hp}{b:Addr}{o:Obj}(e:(aau h H).get? b=some o):h.get? b=some o/\H b=none:=by
 have e':h.get? b=some o:=PySem.W.of_hideAll (trk h H) e;refine⟨e',?_⟩
 cases q:H b with
 |none=>rfl
 |some x=>
  have hm:b∈trk h H:=z6.mpr ⟨yH.mpr (zv e'),by simp[q]⟩;have z:(aau h H).get? b=none:=PySem.W.hideAll_none (trk h H) hm;rw[z]at e;cases e
noncomputable def aiN(g h:Heap)(L:Addr):List (Addr×Obj):=(List.range h.objs.size).filterMap λa=>if a=L\/(g.get? a).isSome=true then none else(h.get? a).map λo=>(a,o)
noncomputable def rest(g h:Heap)(L d:Addr):List (Addr×Obj):=(aiN g h L).filter λp=>decide (p.1≠d)
end L2
namespace L2
open PySem PySem.Spec PyProof.Rows
structure Mod(K:Fg_)(mg:Str->Option Value)(base:Heap):Prop where
 kin:K.In base
 glob:base.Ns mainGlobals mg
 blt:∃mb,base.Ns builtinsNs mb/\∀x:Str,x≠ "__name__" ->mb x=bootBuiltins x
 nolimit:base.NoLimit
structure Cx where
 prog:Program
 w:World
 K:Fg_
 mg:Str->Option Value
 base:Heap
 A:Around
 N:List Str
 s₀:Shared
 H₀:Hp
 env:Env
 outer:List Env
 stack:List Env
 ex:List Addr
 fn:Str->Bool
 calm:Bool
 pn:List (Addr×Obj)
 xe:Value->Shared->Prop
noncomputable def frs(l:List Env):List Addr:=l.filterMap (·.frame)
abbrev Cx.fs(X:Cx):List Addr:=frs X.outer
noncomputable def Vis(sc:Scope)(x:Str):Prop:=sc.names.lookup x=some .local\/sc.names.lookup x=some .cell\/sc.names.lookup x=some .free
noncomputable def Loc(sc:Scope)(x:Str):Prop:=sc.names.lookup x=some .local\/sc.names.lookup x=some .cell
noncomputable def Look(env:Env)(h:Heap)(m:Str->Option Value)(x:Str)(u:Value):Prop:=
 (env.kindOf x=some .local/\m x=some u)\/((env.kindOf x=some .cell\/env.kindOf x=some .free)/\∃c,env.cells.lookup x=some c/\h.IsCell c (some u))
structure Cx.Ok(X:Cx):Prop where
 mod:Mod X.K X.mg X.base
 kind:X.env.scope.kind=.function
 glob:X.env.globals=mainGlobals
 blt:X.env.builtins=builtinsNs
 above:X.s₀.heap.objs.size<=X.env.locals
 inj:∀x y c,X.env.cells.lookup x=some c->X.env.cells.lookup y=some c->x=y
 has:∀x,(X.env.kindOf x=some .cell\/X.env.kindOf x=some .free)->∃c,X.env.cells.lookup x=some c
 cab:∀x c,X.fn x=true->X.env.cells.lookup x=some c->X.s₀.heap.objs.size<=c
 hd:X.calm=true->X.A.handled=none
 frames:X.A.frames=some X.stack
 stk:X.stack=X.outer\/(X.stack=X.env::X.outer/\X.env.frame=some X.env.locals)
 exf:∀b∈X.ex,b≠X.env.locals/\∀x c,X.env.cells.lookup x=some c->c≠b
 bs:∀b o,X.base.get? b=some o->X.s₀.heap.get? b=some o/\X.H₀ b=none
 bsz:X.base.objs.size<=X.s₀.heap.objs.size
 noex:∀b o,X.base.get? b=some o->b∉X.ex
 exfs:∀b∈X.ex,b∉X.fs
 funs:X.s₀.heap.FunFrames X.base X.outer
 frf:∀b∈X.fs,X.H₀ b=none
structure Inv(X:Cx)(pins:List (Addr×Obj))(σ:List (Option V))(H:Hp)(s:Shared):Prop where
 ok:X.Ok
 os:s.os=X.s₀.os
 bare:AllBare s.gens
 base:Un X.fs X.ex X.H₀ H X.s₀.heap s.heap
 loc:∃m,s.heap.Ns X.env.locals m/\∀(i:Nat)(x:Str)(v:V),X.N[i]? =some x->σ[i]? =some (some v)->Vis X.env.scope x->∃u,RelV v u/\Look X.env s.heap m x u
 cell:∀x c,X.env.cells.lookup x=some c->∃v,s.heap.IsCell c v
 free:H X.env.locals=none
 freeC:∀x c,X.env.cells.lookup x=some c->H c=none
 pin:∀p∈X.pn++pins,s.heap.get? p.1=some p.2/\H p.1=none/\p.1≠X.env.locals/\p.1∉X.fs/\∀v,p.2.data≠.cell v
 hok:HOk X.prog X.w H s.heap
 len:σ.length=X.N.length
section
variable{X:Cx}{pins:List (Addr×Obj)}{σ:List (Option V)}{H H':Hp}{s:Shared}{h':Heap}
def Cx.Ok.nofr(ok:X.Ok){b:Addr}{o:Obj}(e:X.base.get? b=some o):b∉X.fs:=λq=>by
 have:=(ok.funs.mem q).1;rw[e]at this;cases this
theorem Inv.bs(I:Inv X pins σ H s):∀b o,X.base.get? b=some o->s.heap.get? b=some o/\H b=none:=λb o e=>
 ⟨I.base.keep b o (I.ok.bs b o e).1 (I.ok.bs b o e).2 (I.ok.nofr e) (I.ok.noex b o e),I.base.free b o (I.ok.bs b o e).1 (I.ok.bs b o e).2 (I.ok.noex b o e)⟩
def Inv.bk(I:Inv X pins σ H s):∀b o,X.base.get? b=some o->s.heap.get? b=some o:=λb o e=>(I.bs b o e).1
theorem Inv.mod(I:Inv X pins σ H s):Mod X.K X.mg X.base:=I.ok.mod
def Inv.kIn(I:Inv X pins σ H s):X.K.In s.heap:=I.ok.mod.kin.keeps I.bk
theorem Inv.lt(I:Inv X pins σ H s):X.env.locals<s.heap.objs.size:=let⟨_,hn,_⟩:=I.loc;hn.lt
def Inv.sz(I:Inv X pins σ H s):X.s₀.heap.objs.size<=s.heap.objs.size:=zN I.ok.above (zzs I.lt)
def Inv.nofs(I:Inv X pins σ H s){a:Addr}(h:s.heap.objs.size<=a):a∉X.fs:=λz=>by
 obtain⟨_,o,q,_⟩:=I.ok.funs.mem z;exact absurd (zH (zv q) (zN I.sz h)) (yt _)
def Inv.cne(I:Inv X pins σ H s):∀x c,X.env.cells.lookup x=some c->c≠X.env.locals:=λx c e z=>by
 obtain⟨v,o,ho,hd⟩:=I.cell x c e;obtain⟨m,⟨o',es,ep,aa,q,_⟩,_⟩:=I.loc;rw[z,aa]at ho;cases ho;rw[q]at hd;cases hd
theorem Inv.funs(I:Inv X pins σ H s):s.heap.FunFrames X.base X.outer:=by
 have q:∀(l:List Env),(∀b∈frs l,b∈X.fs)->X.s₀.heap.FunFrames X.base l->s.heap.FunFrames X.base l:=by
  intro l
  induction l with
  |nil=>intro _ _;trivial
  |cons env r ih=>
   intro hs hl;obtain⟨hk,⟨L,o,hf,hn,ho,hd⟩,hr⟩:=hl;have hL:L∈X.fs:=hs L (by unfold frs;rw[zzU,hf];exact zg);obtain⟨sl,e⟩:=I.base.slot L o ho (I.ok.frf L hL) hL λz=>I.ok.exfs L z hL;exact⟨hk,⟨L,_,hf,hn,e,hd⟩,ih (λb hb=>hs b (by unfold frs;rw[zzU,hf];exact zk _ hb)) hr⟩
 exact q X.outer (λ_ hb=>hb) I.ok.funs
theorem Inv.stack(I:Inv X pins σ H s):s.heap.FunFrames X.base X.stack:=by
 rcases I.ok.stk with e|⟨e,q⟩
 ·rw[e];exact I.funs
 ·rw[e]
  obtain⟨m,hn,_⟩:=I.loc;refine .cons (by rw[I.ok.kind];decide) q hn ?_ I.funs;exact Heap.get?_none_of_le (zN I.ok.bsz I.ok.above)
def Inv.stkSub(I:Inv X pins σ H s):∀b∈frs X.stack,b∈X.env.locals::X.fs:=λb q=>by
 rcases I.ok.stk with e|⟨e,z⟩
 ·rw[e]at q;exact zk _ q
 ·rw[e]at q
  unfold frs at q;rw[zzU,z]at q;exact q
def Inv.stkFree(I:Inv X pins σ H s):∀b∈frs X.stack,H b=none:=λb q=>by
 rcases zt.mp (I.stkSub b q)with e|q
 ·rw[e];exact I.free
 ·obtain⟨_,o,ho,_⟩:=I.ok.funs.mem q
  exact I.base.free b o ho (I.ok.frf b q) λz=>I.ok.exfs b z q
def Inv.step{g':Array GenState}{t':Nat}{d':Drawn}{ch:List Addr}(I:Inv X pins σ H s)
  (ab:∀b∈ch,(b∈X.ex\/X.s₀.heap.objs.size<=b)/\b≠X.env.locals/\(∀x c,X.env.cells.lookup x=some c->c≠b)/\∀p∈X.pn++pins,p.1≠b)
  (keep:∀b o,b≠X.env.locals->b∉X.fs->b∉ch->s.heap.get? b=some o->H b=none->h'.get? b=some o)
  (slot:∀b o,b≠X.env.locals->b∈X.fs->b∉ch->s.heap.get? b=some o->H b=none->∃sl,h'.get? b=some {o with slots:=sl}) (free:∀b o,b∉ch->s.heap.get? b=some o->H b=none->H' b=none)
  (there:∀b o,b∉ch->s.heap.get? b=some o->∃o',h'.get? b=some o')
  (tups:∀b xs,H b=some (.tup xs)->H' b=some (.tup xs)) (frzs:∀b o u,H b=some (.frz o u)->H' b=some (.frz o u)) (tbls:∀b ps,H b=some (.tbl ps)->∃ae,H' b=some (.tbl (ps++ae)))
  (ns:∀m,s.heap.Ns X.env.locals m->h'.Ns X.env.locals m) (hok:HOk X.prog X.w H' h') (hg:AllBare g'):
  Inv X pins σ H' {s with heap:=h',gens:=g',drawn:=d',toks:=t'}:=by
 have af:∀b o,X.s₀.heap.get? b=some o->b≠X.env.locals:=λb o e=>zD (zH (zv e) I.ok.above)
 have ad:∀b o,X.s₀.heap.get? b=some o->b∉X.ex->b∉ch:=λb o e hx hb=>by
  rcases(ab b hb).1 with z|z
  ·exact hx z
  ·exact absurd (zH (zv e) z) (yt _)
 have aa:∀x c,X.env.cells.lookup x=some c->∀v,s.heap.IsCell c v->h'.IsCell c v:=λx c e v ⟨o,ho,hd⟩=>by
  have ac:c∉ch:=λz=>(ab c z).2.2.1 x c e rfl;by_cases hc:c∈X.fs
  ·obtain⟨sl,q⟩:=slot c o (I.cne x c e) hc ac ho (I.freeC x c e)
   exact⟨_,q,hd⟩
  ·exact⟨o,keep c o (I.cne x c e) hc ac ho (I.freeC x c e),hd⟩
 refine⟨I.ok,I.os,hg,⟨λb o e n hb hx=>?_,λb o e n hb hx=>?_,λb o e n hx=>?_,λb o e hx=>?_,λb xs e=>tups b xs (I.base.tups b xs e),λb o xs e=>frzs b o xs (I.base.frzs b o xs e),λb ps e=>?_⟩,?_,λx c e=>?_,?_,λx c e=>?_,λp hp=>?_,hok,I.len⟩
 ·exact keep b o (af b o e) hb (ad b o e hx) (I.base.keep b o e n hb hx) (I.base.free b o e n hx)
 ·obtain⟨sl,e1⟩:=I.base.slot b o e n hb hx
  obtain⟨ag,e2⟩:=slot b _ (af b o e) hb (ad b o e hx) e1 (I.base.free b o e n hx);exact⟨ag,e2⟩
 ·obtain⟨o',e1⟩:=I.base.there b o e hx
  exact free b o' (ad b o e hx) e1 (I.base.free b o e n hx)
 ·obtain⟨o',e1⟩:=I.base.there b o e hx
  exact there b o' (ad b o e hx) e1
 ·obtain⟨m1,e1⟩:=I.base.tbls b ps e
  obtain⟨m2,e2⟩:=tbls b _ e1;exact⟨m1++m2,by rw[e2,zzY]⟩
 ·obtain⟨m,hn,hl⟩:=I.loc
  refine⟨m,ns m hn,λi x v e1 e2 e3=>?_⟩;obtain⟨u,r,l⟩:=hl i x v e1 e2 e3;refine⟨u,r,?_⟩;rcases l with l|⟨k,c,e,z⟩
  ·exact .inl l
  ·exact .inr ⟨k,c,e,aa x c e _ z⟩
 ·obtain⟨v,z⟩:=I.cell x c e
  exact⟨v,aa x c e v z⟩
 ·obtain⟨m,⟨o,_,_,ho,_⟩,_⟩:=I.loc
  exact free _ o (λz=>(ab _ z).2.1 rfl) ho I.free
 ·obtain⟨v,o,ho,hd⟩:=I.cell x c e
  exact free c o (λz=>(ab c z).2.2.1 x c e rfl) ho (I.freeC x c e)
 ·obtain⟨e,n,ne,nf,d⟩:=I.pin p hp
  have ac:p.1∉ch:=λz=>(ab p.1 z).2.2.2 p hp rfl;exact⟨keep p.1 p.2 ne nf ac e n,free p.1 p.2 ac e n,ne,nf,d⟩
def Inv.un{t':Nat}(I:Inv X pins σ H s)(u:Un X.fs [] H H' s.heap h')(hok:HOk X.prog X.w H' h'):Inv X pins σ H' {s with heap:=h',toks:=t'}:=by
 obtain⟨m,⟨o,es,ep,ho,r⟩,_⟩:=id I.loc;obtain⟨sl,hL⟩:=u.any ho I.free (by simp)
 exact I.step (g':=s.gens) (d':=s.drawn) (ch:=[]) (λ_ z=>nomatch z) (λb o _ hb _ e n=>u.keep b o e n hb (by simp)) (λb o _ hb _ e n=>u.slot b o e n hb (by simp)) (λb o _ e n=>u.free b o e n (by simp)) (λb o _ e=>u.there b o e (by simp)) u.tups u.frzs u.tbls (λm' hm=>by
  obtain⟨o',aa,ab,q,r'⟩:=hm;rw[ho]at q;cases q;exact⟨_,aa,ab,hL,r'⟩) hok I.bare
def Inv.call{g':Array GenState}{t':Nat}{d':Drawn}{ch:List Addr}(I:Inv X pins σ H s)(u:Un (frs X.stack) ch H H' s.heap h')(hok:HOk X.prog X.w H' h')(hg:AllBare g')
  (aa:∀b∈ch,(b∈X.ex\/X.s₀.heap.objs.size<=b)/\b≠X.env.locals/\(∀x c,X.env.cells.lookup x=some c->c≠b)/\∀p∈X.pn++pins,p.1≠b):
  Inv X pins σ H' {s with heap:=h',gens:=g',drawn:=d',toks:=t'}:=by
 obtain⟨m,⟨o,es,ep,ho,r⟩,_⟩:=id I.loc;obtain⟨sl,hL⟩:=u.any ho I.free λz=>(aa _ z).2.1 rfl
 exact I.step (ch:=ch) aa (λb o hL hb q e n=>u.keep b o e n (λz=>(zt.mp (I.stkSub b z)).elim hL hb) q) (λb o _ _ q e n=>u.any e n q) (λb o q e n=>u.free b o e n q) (λb o q e=>u.there b o e q) u.tups u.frzs u.tbls (λm' hm=>by
  obtain⟨o',ac,ad,ab,r'⟩:=hm;rw[ho]at ab;cases ab;exact⟨_,ac,ad,hL,r'⟩) hok hg
def Inv.turned{t':Nat}{it:Addr}(I:Inv X pins σ H s)(k:∀b o,b≠it->s.heap.get? b=some o->h'.get? b=some o)(hn:H it=none)(hL:it≠X.env.locals)
  (h1:it∈X.ex\/X.s₀.heap.objs.size<=it) (h2:∀x c,X.env.cells.lookup x=some c->c≠it) (h3:∀p∈X.pn++pins,p.1≠it):Inv X pins σ H {s with heap:=h',toks:=t'}:=by
 have aa:∀b u,H b=some u->b≠it:=λb u e z=>by rw[z,hn]at e;cases e
 refine I.step (g':=s.gens) (d':=s.drawn) (ch:=[it]) (λb hb=>?_) (λb o _ _ hc e _=>k b o (λz=>hc (by simp[z])) e) (λb o _ _ hc e _=>⟨o.slots,k b o (λz=>hc (by simp[z])) e⟩) (λ_ _ _ _ n=>n)
  (λb o hc e=>⟨o,k b o (λz=>hc (by simp[z])) e⟩) (λ_ _ e=>e) (λ_ _ _ e=>e) (λb ps e=>⟨#[],by rw[e];simp⟩) (λm hm=>?_) (λb u e=>?_) I.bare
 ·have e:b=it:=by simpa using hb
  subst e;exact⟨h1,hL,h2,h3⟩
 ·obtain⟨o,es,ep,ho,r⟩:=hm
  exact⟨o,es,ep,k _ o (Ne.symm hL) ho,r⟩
 ·refine(I.hok b u e).stay (λc v hc q=>k c v ?_ q) (λ_ q=>q) λ_ _ q=>q
  rcases hc with z|z
  ·rw[z];exact aa b u e
  ·exact aa c _ z
def Inv.tok(I:Inv X pins σ H s)(t:Nat):Inv X pins σ H {s with toks:=t}:=I.un (h':=s.heap) (t':=t) Un.refl I.hok
theorem Inv.kept{t':Nat}(I:Inv X pins σ H s)(k:∀b u,s.heap.get? b=some u->h'.get? b=some u):Inv X pins σ H {s with heap:=h',toks:=t'}:=I.un (Un.kept k) (I.hok.kept k)
theorem Inv.laid{a:Addr}{o:HO}{t':Nat}(I:Inv X pins σ H s)(k:∀b u,s.heap.get? b=some u->h'.get? b=some u)(q:s.heap.objs.size<=a)(z:mj X.prog X.w (upd H a o) h' a o):
  Inv X pins σ (upd H a o) {s with heap:=h',toks:=t'}:=I.un (Un.laid k q (I.hok.fresh q)) (I.hok.laid k q z)
theorem Inv.write{x e:Addr}{o:HO}{t':Nat}(I:Inv X pins σ H s)(mu:Mut (H x))(he:e=x\/H e=some (.own x))(k:∀b u,b≠e->s.heap.get? b=some u->h'.get? b=some u)(q:∃u,h'.get? e=some u)
  (z:mj X.prog X.w (upd H x o) h' x o):Inv X pins σ (upd H x o) {s with heap:=h',toks:=t'}:=I.un (Un.write mu he k q) (I.hok.write mu he k q z)
def Inv.pins_of{q:List (Addr×Obj)}(I:Inv X pins σ H s)(h:∀p∈q,s.heap.get? p.1=some p.2/\H p.1=none/\p.1≠X.env.locals/\p.1∉X.fs/\∀v,p.2.data≠.cell v):Inv X q σ H s:=
 ⟨I.ok,I.os,I.bare,I.base,I.loc,I.cell,I.free,I.freeC,λp hp=>(zA.mp hp).elim (λz=>I.pin p (yG _ z)) (h p),I.hok,I.len⟩
def Ux{N:List Str}(hN:N.Nodup){i j:Nat}{x:Str}(a:N[i]? =some x)(b:N[j]? =some x):i=j:=by
 obtain⟨h1,q⟩:=zp.mp a;obtain⟨h2,z⟩:=zp.mp b;exact(yyd hN).mp (q.trans z.symm)
def Ou{M:Model}{A:Around}{E:Value->Shared->Prop}{i:Nat}{x:Str}{v:V}{u:Value}{Q:Unit->Shared->Prop}(I:Inv X pins σ H s)(hN:X.N.Nodup)(hi:X.N[i]? =some x)(hx:Loc X.env.scope x)(r:RelV v u)
  (h:∀s',Inv X pins (σ.set i (some v)) H s'->(∃a,Heap.SameBut a s.heap s'.heap/\(a=X.env.locals\/X.env.cells.lookup x=some a))->Q () s') (hf:X.fn x=true\/X.env.scope.names.lookup x=some .local:=by walk_at "p"):wpAny M A (storeName X.env x u) Q E s:=by
 obtain⟨m,hn,hl⟩:=id I.loc;have ag:(X.env.scope.kind==.class||(X.env.scope.kind==.module && X.env.locals !=X.env.globals))=false:=by rw[I.ok.kind];rfl
 have af:i<σ.length:=by rw[I.len];exact(zp.mp hi).1
 have ac:=I.cne
 have aa:∀{a:Addr}{h':Heap},(∃o,s.heap.get? a=some o/\H a=none)->Heap.SameBut a s.heap h'->HOk X.prog X.w H h':=fun{a h'} ha hs b ob e=>by
  obtain⟨_,_,ab⟩:=ha;refine(I.hok b ob e).stay (λc w' hc q=>(hs.2 c ?_).trans q) (λ_ q=>q) λ_ _ q=>q;rintro rfl;rcases hc with rfl|hc
  ·rw[ab]at e;cases e
  ·rw[ab]at hc;cases hc
 rcases hx with hk|hk
 ·refine wpAny_storeName_local hk hn (λh' al hs=>?_) ag
  obtain⟨oL,_,_,ak,_⟩:=id hn;refine h _ ⟨I.ok,I.os,I.bare,⟨λb o e n hb hx=>?_,λb o e n hb hx=>?_,I.base.free,λb o e hx=>?_,I.base.tups,I.base.frzs,I.base.tbls⟩,⟨_,al,λj y v' e1 e2 e3=>?_⟩,λy c e=>?_,I.free,I.freeC,λp hp=>?_,aa ⟨oL,ak,I.free⟩ hs,by simpa using I.len⟩ ⟨_,hs,.inl rfl⟩
  ·exact(hs.2 b (zD (zH (zv e) I.ok.above))).trans (I.base.keep b o e n hb hx)
  ·obtain⟨sl,e1⟩:=I.base.slot b o e n hb hx
   exact⟨sl,(hs.2 b (zD (zH (zv e) I.ok.above))).trans e1⟩
  ·obtain⟨o',e1⟩:=I.base.there b o e hx
   exact⟨o',(hs.2 b (zD (zH (zv e) I.ok.above))).trans e1⟩
  ·by_cases hj:j=i
   ·subst hj
    rw[hi]at e1;cases e1;rw[zzt af]at e2;cases e2;exact⟨u,r,.inl ⟨hk,by simp⟩⟩
   ·rw[zzN (Ne.symm hj)]at e2
    obtain⟨u',r',q⟩:=hl j y v' e1 e2 e3;refine⟨u',r',?_⟩;rcases q with⟨k,e⟩|⟨k,c,e,z⟩
    ·refine .inl ⟨k,?_⟩
     have:y≠x:=λe=>hj (Ux hN e1 (e▸hi));simp[this,e]
    ·exact .inr ⟨k,c,e,z.sameBut hs (ac y c e)⟩
  ·obtain⟨w',z⟩:=I.cell y c e
   exact⟨w',z.sameBut hs (ac y c e)⟩
  ·obtain⟨e,n,ne,nf,d⟩:=I.pin p hp
   exact⟨(hs.2 p.1 ne).trans e,n,ne,nf,d⟩
 ·have ad:X.fn x=true:=by
   rcases hf with z|z
   ·exact z
   ·rw[z]at hk;cases hk
  obtain⟨c,hc⟩:=I.ok.has x (.inl hk);obtain⟨w',z⟩:=I.cell x c hc;refine wpAny_storeName_cell I.ok.kind hk hc z (λh' ah hs=>?_);obtain⟨oc,ai,ae⟩:=id z;refine h {s with heap:=h'} ⟨I.ok,I.os,I.bare,⟨λb o e n hb hx=>?_,λb o e n hb hx=>?_,I.base.free,λb o e hx=>?_,I.base.tups,I.base.frzs,I.base.tbls⟩,⟨m,hn.sameBut hs (Ne.symm (ac x c hc)),λj y v' e1 e2 e3=>?_⟩,λy c' e=>?_,I.free,I.freeC,λp hp=>?_,aa ⟨oc,ai,I.freeC x c hc⟩ hs,by simpa using I.len⟩ ⟨c,hs,.inr hc⟩
  ·exact(hs.2 b (zD (zH (zv e) (I.ok.cab x c ad hc)))).trans (I.base.keep b o e n hb hx)
  ·obtain⟨sl,e1⟩:=I.base.slot b o e n hb hx
   exact⟨sl,(hs.2 b (zD (zH (zv e) (I.ok.cab x c ad hc)))).trans e1⟩
  ·obtain⟨o',e1⟩:=I.base.there b o e hx
   exact⟨o',(hs.2 b (zD (zH (zv e) (I.ok.cab x c ad hc)))).trans e1⟩
  ·by_cases hj:j=i
   ·subst hj
    rw[hi]at e1;cases e1;rw[zzt af]at e2;cases e2;exact⟨u,r,.inr ⟨.inl hk,c,hc,ah⟩⟩
   ·rw[zzN (Ne.symm hj)]at e2
    obtain⟨u',r',q⟩:=hl j y v' e1 e2 e3;refine⟨u',r',?_⟩;rcases q with q|⟨k,c',e,z'⟩
    ·exact .inl q
    ·refine .inr ⟨k,c',e,z'.sameBut hs ?_⟩
     rintro rfl;exact hj (Ux hN e1 (I.ok.inj _ _ _ e hc▸hi))
  ·by_cases aj:c'=c
   ·subst aj;exact⟨_,ah⟩
   ·obtain⟨w2,z2⟩:=I.cell y c' e
    exact⟨w2,z2.sameBut hs aj⟩
  ·obtain⟨e,n,ne,nf,d⟩:=I.pin p hp
   refine⟨(hs.2 p.1 ?_).trans e,n,ne,nf,d⟩;intro q;rw[q,ai]at e;have q':oc=p.2:=zy e;exact d w' (by rw[<-q'];exact ae)
def Um{M:Model}{A:Around}{E:Value->Shared->Prop}{i:Nat}{x:Str}{v:V}{u:Value}{Q:Unit->Shared->Prop}(I:Inv X pins σ H s)(z:X.N.Nodup)(hi:X.N[i]? =some x)(q:Loc X.env.scope x)(r:RelV v u)
  (h:∀s',Inv X pins (σ.set i (some v)) H s'->Q () s') (hf:X.fn x=true\/X.env.scope.names.lookup x=some .local:=by walk_at "p"):wpAny M A (storeName X.env x u) Q E s:=
 Ou I z hi q r (λs' I' _=>h s' I') hf
def Inv.call'{s':Shared}{ch:List Addr}(I:Inv X pins σ H s)(ho:s'.os=s.os)(u:Un (frs X.stack) ch H H' s.heap s'.heap)(hok:HOk X.prog X.w H' s'.heap)(z:AllBare s'.gens)
  (q:∀b∈ch,(b∈X.ex\/X.s₀.heap.objs.size<=b)/\b≠X.env.locals/\(∀x c,X.env.cells.lookup x=some c->c≠b)/\∀p∈X.pn++pins,p.1≠b):Inv X pins σ H' s':=by
 obtain⟨h',g',d',t',o'⟩:=s';have e:o'=s.os:=ho;subst e;exact I.call (g':=g') (t':=t') (d':=d') u hok z q
end
abbrev XK:=Value->Option Addr->Hp->Prop
abbrev St:=List (Option V)
abbrev VK:=V->Hp->Prop
abbrev TE:=St->Hp->VK->Prop
abbrev TT:=St->Hp->(Bool->Hp->Prop)->Prop
abbrev TA:=St->Hp->(List V->Hp->Prop)->Prop
structure Ends where
 nx:St->Hp->Prop
 rt:VK
 bk:St->Hp->Prop:=λ_ _=>False
 ct:St->Hp->Prop:=λ_ _=>False
abbrev TS:=Ends->St->Hp->Prop
noncomputable def EP(X:Cx)(pins:List (Addr×Obj))(σ:St)(Q:VK)(u:Value)(s':Shared):Prop:=∃v H',Inv X pins σ H' s'/\RelV v u/\Q v H'
noncomputable def TP(X:Cx)(pins:List (Addr×Obj))(σ:St)(Q:Bool->Hp->Prop)(b:Bool)(s':Shared):Prop:=∃H',Inv X pins σ H' s'/\Q b H'
noncomputable def AP(X:Cx)(pins:List (Addr×Obj))(σ:St)(Q:List V->Hp->Prop)(us:List Value)(s':Shared):Prop:=∃vs H',Inv X pins σ H' s'/\Vals vs us/\Q vs H'
noncomputable def SP(X:Cx)(pins:List (Addr×Obj))(D:Ends)(f:Flow)(s':Shared):Prop:=
 match f with
 |.next=>∃σ' H',Inv X pins σ' H' s'/\D.nx σ' H'
 |.brk=>∃σ' H',Inv X pins σ' H' s'/\D.bk σ' H'
 |.cont=>∃σ' H',Inv X pins σ' H' s'/\D.ct σ' H'
 |.ret u=>∃v σ' H',Inv X pins σ' H' s'/\RelV v u/\D.rt v H'
noncomputable def PE(X:Cx)(e:Expr)(t:TE):Prop:=
 ∀(pins:List (Addr×Obj))(s:Shared)(σ:St)(H:Hp)(Q:VK),Inv X pins σ H s->t σ H Q->wpAny (model X.prog X.w) X.A (eval e X.env) (EP X pins σ Q) X.xe s
noncomputable def PT(X:Cx)(e:Expr)(t:TT):Prop:=
 ∀(pins:List (Addr×Obj))(s:Shared)(σ:St)(H:Hp)(Q:Bool->Hp->Prop),Inv X pins σ H s->t σ H Q->wpAny (model X.prog X.w) X.A (isTrue e X.env (eval e X.env)) (TP X pins σ Q) X.xe s
noncomputable def PW(X:Cx)(e:Expr)(t:TT):Prop:=
 ∀(whole:Sem Value)(pins:List (Addr×Obj))(s:Shared)(σ:St)(H:Hp)(Q:Bool->Hp->Prop),Inv X pins σ H s->t σ H Q->wpAny (model X.prog X.w) X.A (isTrue e X.env whole) (TP X pins σ Q) X.xe s
def PW.pt{X:Cx}{e:Expr}{t:TT}(h:PW X e t):PT X e t:=h _
noncomputable def PA(X:Cx)(es:List Expr)(t:TA):Prop:=
 ∀(pos:Pos)(pins:List (Addr×Obj))(s:Shared)(σ:St)(H:Hp)(Q:List V->Hp->Prop),Inv X pins σ H s->t σ H Q->wpAny (model X.prog X.w) X.A (spliced (backTo pos (starEach es X.env))) (AP X pins σ Q) X.xe s
noncomputable def PS(X:Cx)(st:Stmt)(t:TS):Prop:=
 ∀(pins:List (Addr×Obj))(s:Shared)(σ:St)(H:Hp)(D:Ends),Inv X pins σ H s->t D σ H->wpAny (model X.prog X.w) X.A (exec st X.env) (SP X pins D) X.xe s
noncomputable def PSs(X:Cx)(st:List Stmt)(t:TS):Prop:=
 ∀(pins:List (Addr×Obj))(s:Shared)(σ:St)(H:Hp)(D:Ends),Inv X pins σ H s->t D σ H->wpAny (model X.prog X.w) X.A (execs st X.env) (SP X pins D) X.xe s
def thn{α:Type}{t:Sem α}{Q Q':α->Shared->Prop}{M:Model}{A:Around}{E:Value->Shared->Prop}{s:Shared}(h:wpAny M A t Q E s)(q:∀a s,Q a s->Q' a s):wpAny M A t Q' E s:=ya h q λ_ _ x=>x
end L2
namespace L2
open PySem PySem.Spec PyProof.Rows
section
variable{X:Cx}
noncomputable def OD(i:Nat):TE:=λσ H Q=>∃v,σ[i]? =some (some v)/\Q v H
noncomputable def tC(v:V):TE:=λ_ H Q=>Q v H
def alm{i:Nat}{x:Str}{pos:Pos}(hN:X.N[i]? =some x)(hv:Vis X.env.scope x)(hd:(x==("__debug__" :Str))=false:=by decide) (hcd:(x==("__classdict__" :Str))=false:=by decide):PE X (.Name x pos) (OD i):=by
 intro pins s σ H Q I h;obtain⟨v,e,h⟩:=h;obtain⟨m,hn,hl⟩:=I.loc;obtain⟨u,r,l⟩:=hl i x v hN e hv;have aa:EP X pins σ Q u s:=⟨v,H,I,r,h⟩;rcases l with⟨z,hm⟩|⟨z,c,hc,q⟩
 ·exact wpAny_Name (wpAny_loadName_local I.ok.kind z hn hm aa) hd
 ·rcases z with z|z
  ·exact wpAny_Name (wpAny_loadName_cell I.ok.kind z hc q aa) hd
  ·exact wpAny_Name (wpAny_loadName_free I.ok.kind z hc q aa hcd) hd
def iM{i j pos}:PE X (.Constant (.int i) j pos) (tC (.int i)):=λ_ _ _ H _ I h=>wpAny_Constant_int ⟨.int i,H,I.tok _,⟨_,rfl⟩,h⟩
def aiU{b j pos}:PE X (.Constant (.bool b) j pos) (tC (.bl b)):=λ_ _ _ H _ I h=>Constant_bool ⟨.bl b,H,I,rfl,h⟩
def mF{j pos}:PE X (.Constant .none j pos) (tC .non):=λ_ _ _ H _ I h=>Constant_none ⟨.non,H,I,rfl,h⟩
def jj{x j pos}:PE X (.Constant (.str x) j pos) (tC (.str x)):=λ_ _ _ H _ I h=>Calls.Constant_str ⟨.str x,H,I.tok _,⟨_,rfl⟩,h⟩
noncomputable def Gl(X:Cx)(x:Str):Prop:=X.env.kindOf x=some .globalImplicit
def HD{E:Value->Shared->Prop}{pins:List (Addr×Obj)}{s:Shared}{σ:St}{H:Hp}{x:Str}{u:Value}{pos:Pos}{Q:Value->Shared->Prop}(I:Inv X pins σ H s)(q:Gl X x)(hm:X.mg x=some u)(h:Q u s)
  (hd:(x==("__debug__" :Str))=false:=by decide):wpAny (model X.prog X.w) X.A (eval (.Name x pos) X.env) Q E s:=
 Calls.Name_function_global I.ok.kind q (Calls.loadGlobal_global (by rw[I.ok.glob];exact I.mod.glob.keeps I.bk) hm h) hd
def Bb{E:Value->Shared->Prop}{pins:List (Addr×Obj)}{s:Shared}{σ:St}{H:Hp}{x:Str}{u:Value}{pos:Pos}{Q:Value->Shared->Prop}(I:Inv X pins σ H s)(z:Gl X x)(hm:X.mg x=none)(q:bootBuiltins x=some u)(h:Q u s)
  (hn:x≠ "__name__" :=by decide) (hd:(x==("__debug__" :Str))=false:=by decide):wpAny (model X.prog X.w) X.A (eval (.Name x pos) X.env) Q E s:=by
 obtain⟨mb,h1,h2⟩:=I.mod.blt;exact Calls.Name_function_global I.ok.kind z (Calls.loadGlobal_builtin (by rw[I.ok.glob];exact I.mod.glob.keeps I.bk) hm (by rw[I.ok.blt];exact h1.keeps I.bk) ((h2 x hn).trans q) h) hd
def lQ{x:Str}{v:V}{u:Value}{pos:Pos}(q:Gl X x)(hm:X.mg x=some u)(r:RelV v u)(hd:(x==("__debug__" :Str))=false:=by decide):PE X (.Name x pos) (tC v):=
 λ_ _ _ H _ I h=>HD I q hm ⟨v,H,I,r,h⟩ hd
def aiI{x:Str}{v:V}{u:Value}{pos:Pos}(z:Gl X x)(hm:X.mg x=none)(q:bootBuiltins x=some u)(r:RelV v u)(hn:x≠ "__name__" :=by decide) (hd:(x==("__debug__" :Str))=false:=by decide):PE X (.Name x pos) (tC v):=
 λ_ _ _ H _ I h=>Bb I z hm q ⟨v,H,I,r,h⟩ hn hd
variable{a b:Expr}{ta tb:TE}{pos:Pos}
noncomputable def tB(t:TE):TT:=λσ H Q=>t σ H λx H1=>∃c,x=.bl c/\Q c H1
def qw{e:Expr}{t:TE}(h:PE X e t)(he:∀z,isTrue e X.env z=(do let v<-z;standAt e.pos;holding [v] (truthy v)):=by intro _;rfl):PT X e (tB t):=by
 intro pins s σ H Q I hw;refine isTrue_plain (thn (h pins s σ H _ I hw) λv s1 ⟨x,H1,I1,r1,q1⟩=>?_) (he _);obtain⟨d,rfl,q⟩:=q1;cases r1;exact yw ⟨H1,I1,q⟩
variable{tA tB':TT}{rest:List Expr}
noncomputable def amD(t u:TT):TT:=λσ H Q=>t σ H λc H1=>if c=true then u σ H1 Q else Q false H1
noncomputable def tOr(t u:TT):TT:=λσ H Q=>t σ H λc H1=>if c=true then Q true H1 else u σ H1 Q
noncomputable def amw(t:TT):TT:=λσ H Q=>t σ H λc H1=>Q (!c) H1
def Ep(ha:PT X a tA):PW X (.BoolOp .And [a] pos) tA:=by
 intro z pins s σ H Q I h;refine isTrue_and (thn (ha pins s σ H Q I h) λc q e=>?_)
 cases c with
 |true=>exact isTrue_and_nil e
 |false=>exact e
def Cr(ha:PT X a tA):PW X (.BoolOp .Or [a] pos) tA:=by
 intro z pins s σ H Q I h;refine isTrue_or (thn (ha pins s σ H Q I h) λc q e=>?_)
 cases c with
 |false=>exact isTrue_or_nil e
 |true=>exact e
def Ff(ha:PT X a tA)(hb:PW X (.BoolOp .And (b::rest) pos) tB'):PW X (.BoolOp .And (a::b::rest) pos) (amD tA tB'):=by
 intro wh pins s σ H Q I h;refine isTrue_and (thn (ha pins s σ H _ I h) λc s1 ⟨H1,q,z⟩=>?_)
 cases c with
 |true=>exact hb wh pins s1 σ H1 Q q z
 |false=>exact⟨H1,q,z⟩
def JQ(ha:PT X a tA)(hb:PW X (.BoolOp .Or (b::rest) pos) tB'):PW X (.BoolOp .Or (a::b::rest) pos) (tOr tA tB'):=by
 intro wh pins s σ H Q I h;refine isTrue_or (thn (ha pins s σ H _ I h) λc s1 ⟨H1,q,z⟩=>?_)
 cases c with
 |true=>exact⟨H1,q,z⟩
 |false=>exact hb wh pins s1 σ H1 Q q z
def Uo(ha:PT X a tA):PT X (.UnaryOp .Not a pos) (amw tA):=by
 intro pins s σ H Q I h;exact isTrue_not (ha pins s σ H (λc H1=>Q (!c) H1) I h)
noncomputable def alo(ta tb:TE):TE:=λσ H Q=>ta σ H λx H1=>∃c,x=.bl c/\if c=true then tb σ H1 Q else Q (.bl false) H1
noncomputable def akv(ta:TE):TE:=λσ H Q=>ta σ H λx H1=>∃c,x=.bl c/\Q (.bl (!c)) H1
def WD{op}{t:TE}(h:PE X a t):PE X (.BoolOp op [a] pos) t:=λpins s σ H Q I q=>BoolOp_one (h pins s σ H Q I q)
def Ul(ha:PE X a ta)(hb:PE X (.BoolOp .And (b::rest) pos) tb):PE X (.BoolOp .And (a::b::rest) pos) (alo ta tb):=by
 intro pins s σ H Q I h;refine BoolOp_and (thn (ha pins s σ H _ I h) λv s1 ⟨x,H1,z,r1,q⟩=>?_);obtain⟨c,rfl,q⟩:=q;cases r1;refine yw ?_
 cases c with
 |true=>exact hb pins s1 σ H1 Q z q
 |false=>exact⟨.bl false,H1,z,rfl,q⟩
def akE(ha:PE X a ta):PE X (.UnaryOp .Not a pos) (akv ta):=by
 intro pins s σ H Q I h;refine UnaryOp_ (thn (ha pins s σ H _ I h) λv s1 ⟨x,H1,z,r1,q⟩=>?_);obtain⟨c,rfl,q⟩:=q;cases r1;exact not_of (yw ⟨.bl (!c),H1,z,rfl,q⟩)
noncomputable def tIf(t:TT)(ta tb:TE):TE:=λσ H Q=>t σ H λc H1=>if c=true then ta σ H1 Q else tb σ H1 Q
def xY{c:Expr}(hc:PT X c tA)(ha:PE X a ta)(hb:PE X b tb):PE X (.IfExp c a b pos) (tIf tA ta tb):=by
 intro pins s σ H Q I h;refine wpAny_IfExp (thn (hc pins s σ H _ I h) λd s1 ⟨H1,q,z⟩=>?_)
 cases d with
 |true=>exact ha pins s1 σ H1 Q q z
 |false=>exact hb pins s1 σ H1 Q q z
end
end L2
namespace L2
open PySem PySem.Spec PyProof.Rows
noncomputable def SqL(K:Fg_)(H:Hp)(a:Addr)(xs:List V):Prop:=
 Rd H a (.lst xs)\/
  ∃(o:Obj)(its:Array Value)(n:Nat),K.lookup a=some o/\o.cls=.type "list" /\o.dict=none/\o.data=.seq its n/\its.size<=sizeLine/\Vals xs its.toList
noncomputable def SqT(K:Fg_)(H:Hp)(a:Addr)(xs:List V):Prop:=
 Rd H a (.tup xs)\/
  ∃(o:Obj)(its:Array Value)(n:Nat),K.lookup a=some o/\o.cls=.type "tuple" /\o.data=.seq its n/\its.size<=sizeLine/\Vals xs its.toList
noncomputable def amV:Value->Option V
 |.none=>some .non
 |.bool b=>some (.bl b)
 |.int i _=>some (.int i)
 |.str x _=>some (.str x)
 |.bytes b _=>some (.byt b)
 |.float b _=>some (.flt b)
 |.ref a=>some (.ref a)
 |.type n=>some (.ty n)
 |_=>none
def RelV.abs{x:V}{u:Value}(r:RelV x u):amV u=some x:=by
 cases x with
 |non=>cases r;rfl
 |bl _=>cases r;rfl
 |int _=>obtain⟨t,rfl⟩:=r;rfl
 |str _=>obtain⟨t,rfl⟩:=r;rfl
 |byt _=>obtain⟨t,rfl⟩:=r;rfl
 |flt _=>obtain⟨t,rfl⟩:=r;rfl
 |ref _=>cases r;rfl
 |ty _=>cases r;rfl
def RelV.inj{x y:V}{u:Value}(r:RelV x u)(q:RelV y u):x=y:=zy (r.abs.symm.trans q.abs)
theorem Vals.inj:∀{xs ys:List V}{us:List Value},Vals xs us->Vals ys us->xs=ys
 |_,_,_,.nil,.nil=>rfl
 |_,_,_,.cons r t,.cons r' t'=>by rw[r.inj r',Vals.inj t t']
section
variable{X:Cx}{pins:List (Addr×Obj)}{σ:St}{H:Hp}{s:Shared}{a:Addr}{xs ys:List V}
def iT{K:Fg_}(h:H a=some (.lst xs)):SqL K H a xs:=.inl (.inl h)
def jH{K:Fg_}(h:H a=some (.tup xs)):SqT K H a xs:=.inl (.inl h)
def Inv.list(I:Inv X pins σ H s)(h:SqL X.K H a xs):∃its:List Value,Vals xs its/\PlainL s.heap a its.toArray/\xs.length<=sizeLine:=by
 rcases h with h|⟨o,its,n,q,hc,hd,hs,hz,r⟩
 ·obtain⟨z,its,n,r,e⟩:=h.ok I.hok
  exact⟨its,r,⟨_,n,e,rfl,rfl,rfl⟩,z⟩
 ·refine⟨its.toList,r,⟨o,n,I.kIn a o q,hc,hd,by simpa using hs⟩,?_⟩
  have e:=r.length;simp only[yk]at e;omega
def Inv.tuple(I:Inv X pins σ H s)(h:SqT X.K H a xs):∃its:List Value,Vals xs its/\IsTup s.heap a its.toArray/\xs.length<=sizeLine:=by
 rcases h with h|⟨o,its,n,q,hc,hs,hz,r⟩
 ·obtain⟨z,its,r,p⟩:=h.ok I.hok
  exact⟨its,r,p,z⟩
 ·refine⟨its.toList,r,⟨o,I.kIn a o q,hc,n,by simpa using hs⟩,?_⟩
  have e:=r.length;simp only[yk]at e;omega
def Inv.list_inj(I:Inv X pins σ H s)(h:SqL X.K H a xs)(h':SqL X.K H a ys):xs=ys:=by
 obtain⟨its,r,⟨o,n,e,_,_,d⟩,_⟩:=I.list h;obtain⟨its',z,⟨o',n',q,_,_,d'⟩,_⟩:=I.list h';rw[e]at q;cases q;rw[d]at d';injection d' with d1 _
 have:its=its':=by simpa using congrArg Array.toList d1
 subst this;exact r.inj z
end
abbrev Cx.wish(X:Cx)(E:Value->Shared->Prop):Cx:={X with xe:=E}
abbrev Cx.nox(X:Cx):Cx:=X.wish λ_ _=>False
theorem Cx.Ok.wish{X:Cx}(ok:X.Ok)(E:Value->Shared->Prop):(X.wish E).Ok:=
 ⟨ok.mod,ok.kind,ok.glob,ok.blt,ok.above,ok.inj,ok.has,ok.cab,ok.hd,ok.frames,ok.stk,ok.exf,ok.bs,ok.bsz,ok.noex,ok.exfs,ok.funs,ok.frf⟩
def Cx.Ok.unwish{X:Cx}{E:Value->Shared->Prop}(ok:(X.wish E).Ok):X.Ok:=
 ⟨ok.mod,ok.kind,ok.glob,ok.blt,ok.above,ok.inj,ok.has,ok.cab,ok.hd,ok.frames,ok.stk,ok.exf,ok.bs,ok.bsz,ok.noex,ok.exfs,ok.funs,ok.frf⟩
section
variable{X:Cx}{pins:List (Addr×Obj)}{σ:St}{H:Hp}{s:Shared}{E:Value->Shared->Prop}
theorem Inv.wish(I:Inv X pins σ H s)(E:Value->Shared->Prop):Inv (X.wish E) pins σ H s:=⟨I.ok.wish E,I.os,I.bare,I.base,I.loc,I.cell,I.free,I.freeC,I.pin,I.hok,I.len⟩
theorem Inv.unwish(I:Inv (X.wish E) pins σ H s):Inv X pins σ H s:=⟨I.ok.unwish,I.os,I.bare,I.base,I.loc,I.cell,I.free,I.freeC,I.pin,I.hok,I.len⟩
theorem SP.unwish{D:Ends}{f:Flow}{s':Shared}(h:SP (X.wish E) pins D f s'):SP X pins D f s':=by
 cases f with
 |next=>obtain⟨z,H',I,q⟩:=h;exact⟨z,H',I.unwish,q⟩
 |brk=>obtain⟨z,H',I,q⟩:=h;exact⟨z,H',I.unwish,q⟩
 |cont=>obtain⟨z,H',I,q⟩:=h;exact⟨z,H',I.unwish,q⟩
 |ret u=>obtain⟨v,z,H',I,r,q⟩:=h;exact⟨v,z,H',I.unwish,r,q⟩
theorem PSs.nox{st:List Stmt}{t:TS}(h:PSs X.nox st t):PSs X st t:=λpins s σ H D I hw=>
 ya (h pins s σ H D (I.wish _) hw) (λ_ _ q=>q.unwish) λ_ _ z=>False.elim z
end
section
variable{X:Cx}{st:Stmt}{rest:List Stmt}{t u:TS}{e:Expr}{te:TE}{pos:Pos}
noncomputable def YD:TS:=λD σ H=>D.nx σ H
noncomputable def ZG(t u:TS):TS:=λD σ H=>t {D with nx:=u D} σ H
def jn:PSs X [] YD:=λ_ _ σ H _ I h=>zzS ⟨σ,H,I,h⟩
def iH(h1:PS X st t)(h2:PSs X rest u):PSs X (st::rest) (ZG t u):=by
 intro pins s σ H D I h;refine wpAny_execs_cons (thn (h1 pins s σ H {D with nx:=u D} I h) λf z q=>?_)
 cases f with
 |next=>
  obtain⟨σ',H',I',q⟩:=q;exact h2 pins z σ' H' D I' q
 |ret v=>exact q
 |brk=>exact q
 |cont=>exact q
def iJ(h1:PS X st t):PSs X [st] t:=by
 intro pins s σ H D I h;refine wpAny_execs_cons (thn (h1 pins s σ H D I h) λf z q=>?_)
 cases f with
 |next=>exact zzS q
 |ret v=>exact q
 |brk=>exact q
 |cont=>exact q
noncomputable def ahU:TS:=λD σ H=>D.bk σ H
def ZZ:PS X (.Break pos) ahU:=λ_ _ σ H _ I h=>wpAny_Break ⟨σ,H,I,h⟩
def Inv.quiet{pins:List (Addr×Obj)}{σ:St}{H:Hp}{s:Shared}(I:Inv X pins σ H s):interactive X.env=false:=by simp[interactive,I.ok.kind]
noncomputable def ajV(te:TE):TS:=λD σ H=>te σ H λ_ H1=>D.nx σ H1
def jh(he:PE X e te)(hs:swapsWith e none pos.line X.env=pure false:=by rfl):PS X (.Expr e pos) (ajV te):=by
 intro pins s σ H D I h;exact wpAny_Expr_any (thn (he pins s σ H _ I h) λv s1 ⟨x,H1,q,r1,z⟩=>⟨σ,H1,q,z⟩) I.quiet hs
noncomputable def amh(te:TE):TS:=λD σ H=>te σ H D.rt
def jb(he:PE X e te):PS X (.Return (some e) pos) (amh te):=by
 intro pins s σ H D I h;exact wpAny_Return_some (thn (he pins s σ H _ I h) λv s1 ⟨x,H1,q,z,q1⟩=>⟨x,σ,H1,q,z,q1⟩)
noncomputable def alB:TS:=λD _ H=>D.rt .non H
def ajX:PS X (.Return none pos) alB:=λ_ _ σ H _ I h=>wpAny_Return_none ⟨.non,σ,H,I,rfl,h⟩
noncomputable def Zg(c:TT)(t u:TS):TS:=λD σ H=>c σ H λb H1=>if b=true then t D σ H1 else u D σ H1
def kE{c:Expr}{a b:List Stmt}{tc:TT}(hc:PT X c tc)(ha:PSs X a t)(hb:PSs X b u):PS X (.If c a b pos) (Zg tc t u):=by
 intro pins s σ H D I h;refine wpAny_If (thn (hc pins s σ H _ I h) λd s1 ⟨H1,q,z⟩=>?_)
 cases d with
 |true=>exact ha pins s1 σ H1 D q z
 |false=>exact hb pins s1 σ H1 D q z
noncomputable def alA:TS:=λ_ _ _=>False
def lO:PS X st alA:=λ_ _ _ _ _ _ h=>h.elim
end
abbrev TG:=V->St->Hp->(St->Hp->Prop)->Prop
abbrev TGs:=List V->St->Hp->(St->Hp->Prop)->Prop
noncomputable def PG(X:Cx)(target:Expr)(t:TG):Prop:=
 ∀(pins:List (Addr×Obj)) (s:Shared) (σ:St) (H:Hp) (v:V) (u:Value) (Q:St->Hp->Prop),Inv X pins σ H s->RelV v u->t v σ H Q->
  wpAny (model X.prog X.w) X.A (assign target X.env u) (λ_ s'=>∃σ' H',Inv X pins σ' H' s'/\Q σ' H') X.xe s
noncomputable def PGs(X:Cx)(ts:List Expr)(t:TGs):Prop:=
 ∀(pins:List (Addr×Obj)) (s:Shared) (σ:St) (H:Hp) (vs:List V) (us:List Value) (Q:St->Hp->Prop),Inv X pins σ H s->Vals vs us->t vs σ H Q->
  wpAny (model X.prog X.w) X.A (assignInOrder ((assignEach ts X.env).map (·.2)) us) (λ_ s'=>∃σ' H',Inv X pins σ' H' s'/\Q σ' H') X.xe s
section
variable{X:Cx}{pos:Pos}
noncomputable def Sw(i:Nat):TG:=λv σ H Q=>Q (σ.set i (some v)) H
def iW{i:Nat}{x:Str}(z:X.N.Nodup)(hi:X.N[i]? =some x)(q:Loc X.env.scope x)(hf:X.fn x=true\/X.env.scope.names.lookup x=some .local:=by walk_at "p"):PG X (.Name x pos) (Sw i):=by
 intro pins s σ H v u Q I r h;exact wpAny_assign_Name (Um I z hi q r (λs' I'=>⟨_,H,I',h⟩) hf)
noncomputable def amA:TGs:=λvs σ H Q=>vs=[]/\Q σ H
noncomputable def akR(t:TG)(u:TGs):TGs:=λvs σ H Q=>∃v r,vs=v::r/\t v σ H λσ' H'=>u r σ' H' Q
def nQ:PGs X [] amA:=by
 intro pins s σ H vs us Q I r h;obtain⟨e,h⟩:=h;subst e;cases r;exact assignInOrder_nil ⟨σ,H,I,h⟩
def jw{e:Expr}{es:List Expr}{t:TG}{u:TGs}(h1:PG X e t)(h2:PGs X es u)
  (hs:(assignEach (e::es) X.env).map (·.2)=assign e X.env::(assignEach es X.env).map (·.2):=by rfl):PGs X (e::es) (akR t u):=by
 intro pins s σ H vs us Q I r h;obtain⟨v,vr,z,h⟩:=h;subst z
 cases r with
 |cons r rr=>
  rw[hs];refine assignInOrder_cons (thn (h1 pins s σ H _ _ _ I r h) λ_ s1 ⟨σ1,H1,q,q1⟩=>?_);exact h2 pins s1 σ1 H1 _ _ Q q rr q1
noncomputable def amb(K:Fg_)(n:Nat)(t:TGs):TG:=λv σ H Q=>∃a xs,v=.ref a/\SqT K H a xs/\xs.length=n/\t xs σ H Q
def akT{es:List Expr}{k:Nat}{t:TGs}{n:Nat}(hc:X.calm=true)(h:PGs X es t)
  (hn:(assignEach es X.env).length=n:=by rfl) (hst:(assignEach es X.env).findIdx? (·.1)=none:=by rfl):PG X (.Tuple es k pos) (amb X.K n t):=by
 intro pins s σ H v u Q I r q;obtain⟨a,xs,e1,hq,hl,q⟩:=q;subst e1;cases r;obtain⟨its,z,ht,hz⟩:=I.tuple hq;refine assign_Tuple_tuple (I.ok.hd hc) ht (by simp[hn,<-hl,z.length]) hst λh' hx=>?_;have I1:Inv X pins σ H {s with heap:=h'}:=I.kept (t':=s.toks) λb o e=>hx b o (zD (zv e)) e;exact h pins _ σ H xs _ Q I1 (by simpa using z) q
noncomputable def alI(te:TE)(g:TG):TS:=λD σ H=>te σ H λx H1=>g x σ H1 D.nx
def aiD{tg e:Expr}{te:TE}{g:TG}(he:PE X e te)(hg:PG X tg g)(hs:swapsWithSole [tg] e pos.line X.env=pure false:=by rfl)(hw:swappedStores [tg] e X.env=pure none:=by rfl)
  (h1:(assignEach [tg] X.env).map (·.2)=[assign tg X.env]:=by rfl):PS X (.Assign [tg] e pos) (alI te g):=by
 intro pins s σ H D I h;refine wpAny_Assign_stores (thn (he pins s σ H _ I h) λv s1 ⟨x,H1,z,r1,q1⟩=>?_) hs hw;rw[h1];exact thn (hg pins s1 σ H1 x v _ z r1 q1) λ_ s2 q=>q
def iY{i:Nat}{x:Str}{e:Expr}{te:TE}{pos':Pos}(hN:X.N.Nodup)(hi:X.N[i]? =some x)(z:Loc X.env.scope x)(he:PE X e te)(hs:swapsWith e (some (.Name x pos')) pos.line X.env=pure false:=by rfl)(hf:X.fn x=true\/X.env.scope.names.lookup x=some .local:=by walk_at "p"):
  PS X (.Assign [.Name x pos'] e pos) (alI te (Sw i)):=by
 intro pins s σ H D I h;refine wpAny_Assign_Name (thn (he pins s σ H _ I h) λv s1 ⟨y,H1,q,r1,q1⟩=>?_) hs;exact Um q hN hi z r1 (λs2 I2=>⟨_,H1,I2,q1⟩) hf
end
structure It where
 go:Nat->Hp->Prop
 yld:Nat->Hp->V->Hp->Prop
 stop:Nat->Hp->Prop
noncomputable def Ss(X:Cx)(pins:List (Addr×Obj))(H:Hp)(b:Addr):Prop:=
 H b=none/\b≠X.env.locals/\b∉X.fs/\(b∈X.ex\/X.s₀.heap.objs.size<=b)/\(∀x c,X.env.cells.lookup x=some c->c≠b)/\∀p∈X.pn++pins,p.1≠b
def Inv.fpOk{X:Cx}{pins:List (Addr×Obj)}{σ:St}{H H':Hp}{s:Shared}{b:Addr}(I:Inv X pins σ H s)(hb:s.heap.objs.size<=b)(hn:H' b=none):Ss X pins H' b:=by
 refine⟨hn,yu (zH I.lt hb),I.nofs hb,.inr (zN I.sz hb),λx c e z=>?_,λp hp z=>?_⟩
 ·obtain⟨v,q⟩:=I.cell x c e
  exact absurd (zH q.lt (by rw[z];exact hb)) (yt _)
 ·exact absurd (zH (zv (I.pin p hp).1) (by rw[z];exact hb)) (yt _)
structure Turn(P:Program)(w:World)(K:Fg_)(tg:Expr)(J:It)(fp:List Addr)(it:Addr)(tn:Nat->Heap->Prop):Prop where
 mem:it∈fp
 obj:∀i h,tn i h->∀b∈fp,∃o,h.get? b=some o/\∀v,o.data≠.cell v
 keep:∀i h h',tn i h->(∀b∈fp,∀o,h.get? b=some o->h'.get? b=some o)->tn i h'
 item:∀(X:Cx),X.prog=P->X.w=w->X.K=K->X.calm=true->∀(i:Nat)(pins:List (Addr×Obj))(s:Shared)(σ:St)(H:Hp)(E:Value->Shared->Prop),Inv X pins σ H s->(∀b∈fp,Ss X pins H b)->tn i s.heap->J.go i H->
  wpAny (model P w) X.A (pyNext (.ref it)) (λr s1=>∃u,r=some u/\
   wpAny (model P w) X.A (letOwnedTupleGo tg (.ref it) u) (λ_ s2=>∃x H',Inv X pins σ H' s2/\RelV x u/\J.yld i H x H'/\tn (i+1) s2.heap/\∀b∈fp,H' b=none) E s1) E s
 done:∀(X:Cx),X.prog=P->X.w=w->X.K=K->X.calm=true->∀(i:Nat)(pins:List (Addr×Obj))(s:Shared)(σ:St)(H:Hp)(E:Value->Shared->Prop),Inv X pins σ H s->(∀b∈fp,Ss X pins H b)->tn i s.heap->J.stop i H->
  wpAny (model P w) X.A (pyNext (.ref it)) (λr s1=>r=none/\Inv X pins σ H s1) E s
 self:∀(A:Around)(i:Nat)(s:Shared)(Q:Value->Shared->Prop)(E:Value->Shared->Prop),tn i s.heap->Q (.ref it) s->wpAny (model P w) A (pyIter (.ref it)) Q E s
abbrev TI:=St->Hp->(It->Hp->Prop)->Prop
noncomputable def PIE(X:Cx)(pins:List (Addr×Obj))(σ:St)(tg:Expr)(R:It->Hp->Prop)(itv:Value)(s2:Shared):Prop:=
 ∃(it:Addr)(fp:List Addr)(tn:Nat->Heap->Prop)(J:It)(H':Hp),itv=.ref it/\Inv X pins σ H' s2/\Turn X.prog X.w X.K tg J fp it tn/\tn 0 s2.heap/\(∀b∈fp,Ss X pins H' b)/\R J H'
noncomputable def PI(X:Cx)(tg iter:Expr)(wi:TI):Prop:=
 ∀(pins:List (Addr×Obj)) (s:Shared) (σ:St) (H:Hp) (R:It->Hp->Prop),Inv X pins σ H s->wi σ H R->
  wpAny (model X.prog X.w) X.A (eval iter X.env) (λv s1=>wpAny (model X.prog X.w) X.A (pyIter v) (PIE X pins σ tg R) X.xe s1) X.xe s
def Zw{M:Model}{A:Around}{E:Value->Shared->Prop}{s:Shared}{tg:Expr}{it:Addr}{u:Value}{o:Obj}{n:String}{vs:Array Value}{Q:Unit->Shared->Prop}(z:s.heap.get? it=some o)(hc:o.cls=.type n)(hd:o.data=.fields vs)
  (hn:["enumerate", "zip", "dict_itemiterator", "dict_reverseitemiterator", "odict_iterator", "itertools.zip_longest", "itertools.pairwise"].contains n=false) (q:Q () s):wpAny M A (letOwnedTupleGo tg (.ref it) u) Q E s:=by
 unfold letOwnedTupleGo
 cases tg<;>first
  |exact zx q
  | (cases u<;>first
    |exact zx q
    | (refine zc (wpAny_load z ?_)
       rw[hc,hd];show wpAny M A (if(["enumerate", "zip", "dict_itemiterator", "dict_reverseitemiterator", "odict_iterator", "itertools.zip_longest", "itertools.pairwise"].contains n && vs[0]? ==some (rawInt _))=true then _ else _) Q E s;rw[ze (by intro h;rw[hn,zzZ]at h;cases h)];exact zx q))
noncomputable def Itl(K:Fg_)(a:Addr):It:=
 ⟨λi H=>∃xs x,SqL K H a xs/\xs[i]? =some x,λi H x H'=>H'=H/\∀xs,SqL K H a xs->xs[i]? =some x,λi H=>∃xs,SqL K H a xs/\xs.length<=i⟩
noncomputable def Itr(lo:Int)(n:Nat):It:=⟨λi _=>i<n,λi H x H'=>H'=H/\x=.int (lo+i),λi _=>n<=i⟩
def Zq{P:Program}{w:World}{K:Fg_}{tg:Expr}(a it:Addr):Turn P w K tg (Itl K a) [it] it (λi h=>h.IsListIter it a i) where
 mem:=by simp
 obj:=λi h st b q=>by
  have e:b=it:=by simpa using q
  subst e;obtain⟨o,e,c,d⟩:=st;exact⟨o,e,λv z=>by rw[d]at z;cases z⟩
 keep:=λi h h' st k=>st.at λo e=>k it (by simp) o e
 item:=by
  intro X hP hw hK hc i pins s σ H E I hf st hg;subst hP hw hK;obtain⟨xs,x,hq,hx⟩:=hg;obtain⟨its,rv,p,hz⟩:=I.list hq;obtain⟨u,hu,ru⟩:=rv.get hx;obtain⟨f0,f1,f2,f3,f4,f5⟩:=hf it (by simp);refine zzz st p.isList (x:=u) (by simpa using hu) λh' aa sb=>?_;have I1:Inv X pins σ H {s with heap:=h'}:=I.turned (t':=s.toks) (λb o q e=>(sb.2 b q).trans e) f0 f1 f3 f4 f5;obtain⟨o,e,c,d⟩:=id aa;exact⟨u,rfl,Zw (s:={s with heap:=h'}) e c d (by decide) ⟨x,H,I1,ru,⟨rfl,λys hy=>by rw[I.list_inj hy hq];exact hx⟩,aa,λb q=>(hf b q).1⟩⟩
 done:=by
  intro X hP hw hK hc i pins s σ H E I hf st hg;subst hP hw hK;obtain⟨xs,hq,hx⟩:=hg;obtain⟨its,rv,p,hz⟩:=I.list hq;obtain⟨f0,f1,f2,f3,f4,f5⟩:=hf it (by simp);have hl:=rv.length;exact zzF (I.ok.hd hc) st p.isList (by simp;omega) λh' eb=>⟨rfl,I.turned (t':=s.toks) (λb o q e=>eb b o q e) f0 f1 f3 f4 f5⟩
 self:=λ_ _ _ _ _ st h=>wpAny_pyIter_listiter st h
def Wk{P:Program}{w:World}{K:Fg_}{tg:Expr}(it:Addr)(lo:Int)(n:Nat):Turn P w K tg (Itr lo n) [it] it (λi h=>IsRangeIter h it (lo+(i:Nat)*1) ((n:Int) - (i:Nat)) 1) where
 mem:=by simp
 obj:=λi h st b q=>by
  have e:b=it:=by simpa using q
  subst e
  exact ⟨_,st,λv z=>by
   have z':Data.fields _=Data.cell v:=z;cases z'⟩
 keep:=λi h h' st k=>k it (by simp) _ st
 item:=by
  intro X hP hw hK hc i pins s σ H E I hf st hg;subst hP hw hK;obtain⟨f0,f1,f2,f3,f4,f5⟩:=hf it (by simp);have W:=Walks.range (prog:=X.prog) (w:=X.w) (I.ok.hd hc) it lo 1 n;refine W.item i s _ _ hg st λv h' tk hv aa kk=>?_;obtain⟨t,rfl⟩:=hv;have I1:Inv X pins σ H {s with heap:=h',toks:=tk}:=I.turned (λb o q e=>kk b o (by simpa using q) e) f0 f1 f3 f4 f5;refine⟨_,rfl,Zw (s:={s with heap:=h',toks:=tk}) (n:= "range_iterator") aa rfl rfl (by decide) ⟨.int (lo+i),H,I1,⟨t,?_⟩,⟨rfl,rfl⟩,aa,λb q=>(hf b q).1⟩⟩;rw[Int.mul_one]
 done:=by
  intro X hP hw hK hc i pins s σ H E I hf st hg;subst hP hw hK;obtain⟨f0,f1,f2,f3,f4,f5⟩:=hf it (by simp);exact wpAny_pyNext_range_end (I.ok.hd hc) st (by have:n<=i:=hg;omega) λh' eb=>⟨rfl,I.turned (t':=s.toks) (λb o q e=>eb b o q e) f0 f1 f3 f4 f5⟩
 self:=λ_ _ _ _ _ st h=>wpAny_pyIter_rangeiter st h
end L2
namespace L2
open PySem PySem.Spec PyProof.Rows
section
variable{X:Cx}{tg:Expr}
noncomputable def YJ(K:Fg_)(tl:TE):TI:=λσ H R=>tl σ H λx H1=>∃a,x=.ref a/\(∃xs,SqL K H1 a xs)/\R (Itl K a) H1
def ajM{l:Expr}{tl:TE}(hl:PE X l tl):PI X tg l (YJ X.K tl):=by
 intro pins s σ H R I h;refine thn (hl pins s σ H _ I h) λv s1 ⟨x,H1,z,r1,q1⟩=>?_;obtain⟨a,e,⟨xs,hq⟩,q⟩:=q1;subst e;cases r1;obtain⟨its,rv,p,hz⟩:=z.list hq;refine yM p.isList ?_;refine⟨s1.heap.objs.size,[s1.heap.objs.size],_,_,H1,rfl,z.kept (t':=s1.toks) λb o e=>zd _ e,Zq a _,⟨_,zC _ rfl,rfl,rfl⟩,λb hb=>?_,q⟩;have e:b=s1.heap.objs.size:=by simpa using hb
 subst e;exact z.fpOk (zo _) (z.hok.fresh (zo _))
def ahP{pins:List (Addr×Obj)}{σ:St}{H:Hp}{s:Shared}{R:It->Hp->Prop}{E:Value->Shared->Prop}{lo hi:Int}{t u v:Tok}{tk:Nat}(I:Inv X pins σ H s)(h1: -(2^62)<=lo)(h2:lo<2^62)(h3: -(2^62)<=hi)(h4:hi<2^62)
  (q:R (Itr lo (hi - lo).toNat) H):wpAny (model X.prog X.w) X.A (pyIter (.ref s.heap.objs.size)) (PIE X pins σ tg R) E {s with heap:=s.heap.push {cls:=.type "range",data:=.fields #[.int lo t,.int hi u,.int 1 v]},toks:=tk}:=by
 refine wpAny_pyIter_range (IsRange.new ..) (small_one h1 h2 h3 h4) ?_;have z:Inv X pins σ H {s with heap:=s.heap.push {cls:=.type "range",data:=.fields #[.int lo t,.int hi u,.int 1 v]},toks:=tk}:=I.kept λb o e=>zd _ e
 refine ⟨(s.heap.push {cls:=.type "range",data:=.fields #[.int lo t,.int hi u,.int 1 v]}).objs.size,[(s.heap.push {cls:=.type "range",data:=.fields #[.int lo t,.int hi u,.int 1 v]}).objs.size],_,_,H,rfl,
  z.kept (t':=tk) λb o e=>zd _ e,Wk _ lo (hi - lo).toNat,?_,λb hb=>?_,q⟩
 ·have e1:lo+((0:Nat):Int)*1=lo:=by simp
  have e2:(((hi - lo).toNat:Nat):Int) - ((0:Nat):Int)=Builtin.Range.rangeSize lo hi 1:=by rw[rangeSize_one];split<;>omega
  show IsRangeIter _ _ (lo+((0:Nat):Int)*1) ((((hi - lo).toNat:Nat):Int) - ((0:Nat):Int)) 1;rw[e1,e2];exact zC _ rfl
 ·have e:b=(s.heap.push {cls:=.type "range",data:=.fields #[.int lo t,.int hi u,.int 1 v]}).objs.size:=by simpa using hb
  subst e;exact z.fpOk (zo _) (z.hok.fresh (zo _))
noncomputable def aln(ta:TA):TI:=λσ H R=>ta σ H λvs H1=>∃j:Int,vs=[.int j]/\ -(2^62)<=j/\j<2^62/\R (Itr 0 j.toNat) H1
def Zb{a:Expr}{ta:TA}{p pos:Pos}(hg:Gl X "range") (hm:X.mg "range" =none) (ha:PA X [a] ta) (hs:starEach [a] X.env=[(false,eval a X.env)]:=by rfl):PI X tg (.Call (.Name "range" p) [a] [] pos) (aln ta):=by
 intro pins s σ H R I h;refine Call_ (Bb I hg hm boot_range (PyProof.Rows.callWith_type1 (thn (ha pos pins s σ H _ I h) λus s1 ⟨vs,H1,I1,r1,z⟩=>?_) hs rfl));obtain⟨j,e,z,q2,q⟩:=z;subst e
 cases r1 with
 |cons r rr=>
  cases rr;obtain⟨t,rfl⟩:=r;exact call_range_1 (ahP I1 (by omega) (by omega) z q2 (by simpa using q))
noncomputable def alJ(wi:TI)(g:TG)(tb:TS):TS:=λD σ H=>wi σ H λJ H1=>∃W:Nat->Nat->St->Hp->Prop,(∃m,W 0 m σ H1)/\∀i m σ H,W i m σ H->
 (J.stop i H/\D.nx σ H)\/(J.go i H/\∃N:St->Hp->Prop,(∀σ' H',N σ' H'->∃m',m'<m/\W (i+1) m' σ' H')/\∀x H',J.yld i H x H'->g x σ H' λσ2 H2=>tb {D with nx:=N,ct:=N,bk:=D.nx} σ2 H2)
noncomputable def Ql(fp:List Addr)(h:Heap):List (Addr×Obj):=fp.filterMap λb=>(h.get? b).map λo=>(b,o)
def xQ{fp:List Addr}{h:Heap}{b:Addr}{o:Obj}(q:b∈fp)(e:h.get? b=some o):(b,o)∈Ql fp h:=List.mem_filterMap.mpr ⟨b,q,by rw[e];rfl⟩
def WN{fp:List Addr}{h:Heap}{p:Addr×Obj}(z:p∈Ql fp h):p.1∈fp/\h.get? p.1=some p.2:=by
 obtain⟨b,hb,e⟩:=List.mem_filterMap.mp z
 cases q:h.get? b with
 |none=>rw[q]at e;cases e
 |some o=>
  rw[q]at e;have e':(b,o)=p:=zy e;subst e';exact⟨hb,q⟩
def Inv.pinned{pins:List (Addr×Obj)}{σ:St}{H:Hp}{s:Shared}{fp:List Addr}(I:Inv X pins σ H s)(hf:∀b∈fp,Ss X pins H b)(ho:∀b∈fp,∃o,s.heap.get? b=some o/\∀v,o.data≠.cell v):Inv X (pins++Ql fp s.heap) σ H s:=
 I.pins_of λp hp=>(zA.mp hp).elim (λz=>I.pin p (zG _ z)) λz=>by
  obtain⟨q,e⟩:=WN z;obtain⟨f0,f1,f2,_⟩:=hf p.1 q;obtain⟨o,e',d⟩:=ho p.1 q;rw[e]at e';cases e';exact⟨e,f0,f1,f2,d⟩
def Inv.unpinned{pins pl:List (Addr×Obj)}{σ:St}{H:Hp}{s:Shared}(I:Inv X (pins++pl) σ H s):Inv X pins σ H s:=I.pins_of λp q=>I.pin p (zG _ (yG _ q))
def oh{iter:Expr}{ac:List Stmt}{wi:TI}{g:TG}{tb:TS}{pos:Pos}(hp:PassesOwn (model X.prog X.w) X.A X.env X.xe)(hc:X.calm=true)(hi:PI X tg iter wi)(hg:PG X tg g)(z:PSs X ac tb)
  (hs:∀x,foldedSetIterable iter X.env x=pure x:=by intro _;rfl):PS X (.For tg iter ac [] pos) (alJ wi g tb):=by
 intro pins s σ H D I h;refine wpAny_For (thn (hi pins s σ H _ I h) λv s1 h1=>thn h1 λak s2 h2=>?_) hs;obtain⟨it,fp,tn,J,H2,e,I2,T,aj,f2,W,⟨m0,w0⟩,ae⟩:=h2;subst e;have ab:∀{H':Hp},(∀b∈fp,H' b=none)->∀b∈fp,Ss X pins H' b:=λhn b z=>⟨hn b z,(f2 b z).2⟩;refine codeAny_forLoop_any (λn s'=>∃i σ' H',Inv X pins σ' H' s'/\tn i s'.heap/\(∀b∈fp,H' b=none)/\W i n σ' H') ?_ m0 ⟨0,σ,H2,I2,aj,λb z=>(f2 b z).1,w0⟩;rintro n s3 ⟨i,σ3,H3,I3,ah,ag,w3⟩;rcases ae i n σ3 H3 w3 with⟨stop,qn⟩|⟨go,N,hN,af⟩
 ·refine zzm hp (thn (T.done X rfl rfl rfl hc i pins s3 σ3 H3 X.xe I3 (ab ag) ah stop) λr s4 ⟨hr,I4⟩=>?_)
  subst hr;exact zzS ⟨σ3,H3,I4,qn⟩
 ·refine zzm hp (thn (T.item X rfl rfl rfl hc i pins s3 σ3 H3 X.xe I3 (ab ag) ah go) λr s4 ⟨u,hr,h4⟩=>?_)
  subst hr;refine zzm hp (thn h4 λ_ s5 ⟨x,H5,I5,r5,y5,ad,ai⟩=>?_);have I5':=I5.pinned (ab ai) (T.obj _ _ ad);refine zzm hp (thn (hg _ s5 σ3 H5 x u _ I5' r5 (af x H5 y5)) λ_ s6 ⟨σ6,H6,I6,q6⟩=>?_);refine zzm hp (thn (z _ s6 σ6 H6 _ I6 q6) λf s7 q7=>?_)
  have aa:∀{σ7:St}{q:Hp},Inv X (pins++Ql fp s5.heap) σ7 q s7->N σ7 q->∃m,m<n/\∃i σ' H',Inv X pins σ' H' s7/\tn i s7.heap/\(∀b∈fp,H' b=none)/\W i m σ' H':=fun{σ7 q} I7 n7=>by
   obtain⟨m',hm,w7⟩:=hN σ7 q n7;refine⟨m',hm,i+1,σ7,q,I7.unpinned,T.keep _ _ _ ad λb z o e=>(I7.pin (b,o) (zG _ (zG _ (xQ z e)))).1,λb z=>?_,w7⟩;obtain⟨o,e,d⟩:=T.obj _ _ ad b z;exact(I7.pin (b,o) (zG _ (zG _ (xQ z e)))).2.1
  cases f with
  |next=>obtain⟨σ7,q,I7,n7⟩:=q7;exact aa I7 n7
  |cont=>obtain⟨σ7,q,I7,n7⟩:=q7;exact aa I7 n7
  |brk=>obtain⟨σ7,q,I7,q7⟩:=q7;exact⟨σ7,q,I7.unpinned,q7⟩
  |ret v=>obtain⟨x7,σ7,q,I7,r7,q7⟩:=q7;exact⟨x7,σ7,q,I7.unpinned,r7,q7⟩
end
def ZR{K:Fg_}{a:Addr}{xs:List V}{g:TG}{tb:TS}{D:Ends}{σ:St}{H:Hp}(z:Nat->St->Hp->Prop)(h0:z 0 σ H)(hl:∀i σ H,i<=xs.length->z i σ H->SqL K H a xs)
  (hs:∀i x σ H,xs[i]? =some x->z i σ H->g x σ H λσ2 H2=>tb {D with nx:=z (i+1),ct:=z (i+1),bk:=D.nx} σ2 H2) (hd:∀σ H,z xs.length σ H->D.nx σ H):
  ∃W:Nat->Nat->St->Hp->Prop,(∃m,W 0 m σ H)/\∀i m σ H,W i m σ H->
   ((Itl K a).stop i H/\D.nx σ H)\/((Itl K a).go i H/\∃N:St->Hp->Prop,(∀σ' H',N σ' H'->∃m',m'<m/\W (i+1) m' σ' H')/\∀x H',(Itl K a).yld i H x H'->g x σ H' λσ2 H2=>tb {D with nx:=N,ct:=N,bk:=D.nx} σ2 H2):=by
 refine⟨λi m σ H=>m=xs.length - i/\i<=xs.length/\z i σ H,⟨xs.length,by simp,zK _,h0⟩,?_⟩;rintro i m σ H ⟨rfl,hi,p⟩;have q:=hl i σ H hi p;by_cases aa:i<xs.length
 ·refine .inr ⟨⟨xs,xs[i],q,by simp[aa]⟩,z (i+1),λσ' H' p'=>⟨xs.length - (i+1),by omega,rfl,aa,p'⟩,λx H' y=>?_⟩
  obtain⟨e,y⟩:=y;subst e;exact hs i x σ _ (y xs q) p
 ·have e:i=xs.length:=by omega
  subst e;exact .inl ⟨⟨xs,q,zo _⟩,hd σ H p⟩
def YB{lo:Int}{n:Nat}{g:TG}{tb:TS}{D:Ends}{σ:St}{H:Hp}(z:Nat->St->Hp->Prop)(h0:z 0 σ H)
  (hs:∀i σ H,i<n->z i σ H->g (.int (lo+i)) σ H λσ2 H2=>tb {D with nx:=z (i+1),ct:=z (i+1),bk:=D.nx} σ2 H2) (hd:∀σ H,z n σ H->D.nx σ H):
  ∃W:Nat->Nat->St->Hp->Prop,(∃m,W 0 m σ H)/\∀i m σ H,W i m σ H->
   ((Itr lo n).stop i H/\D.nx σ H)\/((Itr lo n).go i H/\∃N:St->Hp->Prop,(∀σ' H',N σ' H'->∃m',m'<m/\W (i+1) m' σ' H')/\∀x H',(Itr lo n).yld i H x H'->g x σ H' λσ2 H2=>tb {D with nx:=N,ct:=N,bk:=D.nx} σ2 H2):=by
 refine⟨λi m σ H=>m=n - i/\i<=n/\z i σ H,⟨n,by simp,zK _,h0⟩,?_⟩;rintro i m σ H ⟨rfl,hi,p⟩;by_cases q:i<n
 ·refine .inr ⟨q,z (i+1),λσ' H' p'=>⟨n - (i+1),by omega,rfl,q,p'⟩,λx H' y=>?_⟩
  obtain⟨e,y⟩:=y;subst e y;exact hs i σ _ q p
 ·have e:i=n:=by omega
  subst e;exact .inl ⟨zo _,hd σ H p⟩
end L2
namespace L2
open PySem PySem.Spec PyProof.Rows
abbrev R2:=V->V->Hp->VK->Prop
noncomputable def OpR(X:Cx)(f:Value->Value->Sem Value)(r:R2):Prop:=
 ∀(pins:List (Addr×Obj)) (s:Shared) (σ:St) (H:Hp) (x y:V) (v u:Value) (Q:VK),Inv X pins σ H s->RelV x v->RelV y u->r x y H Q->
  wpAny (model X.prog X.w) X.A (f v u) (EP X pins σ Q) X.xe s
noncomputable def UnR(X:Cx)(f:Value->Sem Value)(r:V->Hp->VK->Prop):Prop:=
 ∀(pins:List (Addr×Obj)) (s:Shared) (σ:St) (H:Hp) (x:V) (v:Value) (Q:VK),Inv X pins σ H s->RelV x v->r x H Q->
  wpAny (model X.prog X.w) X.A (f v) (EP X pins σ Q) X.xe s
noncomputable def nD(X:Cx)(f:Value)(r:List V->Hp->VK->Prop):Prop:=
 ∀(pins:List (Addr×Obj)) (s:Shared) (σ:St) (H:Hp) (xs:List V) (us:List Value) (Q:VK),Inv X pins σ H s->Vals xs us->r xs H Q->
  wpAny (model X.prog X.w) X.A (call f us) (EP X pins σ Q) X.xe s
noncomputable def tOp(r:R2)(ta tb:TE):TE:=λσ H Q=>ta σ H λx H1=>tb σ H1 λy H2=>r x y H2 Q
noncomputable def tUn(r:V->Hp->VK->Prop)(ta:TE):TE:=λσ H Q=>ta σ H λx H1=>r x H1 Q
noncomputable def rI(C:Int->Int->Prop)(g:Int->Int->V):R2:=λx y H Q=>∃i j,x=.int i/\y=.int j/\C i j/\Q (g i j) H
noncomputable def rI0(g:Int->Int->V):R2:=λx y H Q=>∃i j,x=.int i/\y=.int j/\Q (g i j) H
noncomputable def rU(g:Int->V):V->Hp->VK->Prop:=λx H Q=>∃i,x=.int i/\Q (g i) H
section
variable{X:Cx}{a b c:Expr}{ta tb tc:TE}{pos:Pos}
def alN(ha:PE X a ta)(hb:PE X b tb){pins:List (Addr×Obj)}{s:Shared}{σ:St}{H:Hp}{R:V->V->Hp->Prop}(I:Inv X pins σ H s)
  (h:ta σ H λx H1=>tb σ H1 λy H2=>R x y H2) {Q:Value->Shared->Prop} {f:Value->Value->Sem Value}
  (hf:∀v u q x y H2,Inv X pins σ H2 q->RelV x v->RelV y u->R x y H2->wpAny (model X.prog X.w) X.A (f v u) Q X.xe q):
  wpAny (model X.prog X.w) X.A (eval a X.env) (λv z=>wpAny (model X.prog X.w) X.A (eval b X.env) (λu s₂=>wpAny (model X.prog X.w) X.A (f v u) Q X.xe s₂) X.xe z) X.xe s:=by
 refine thn (ha pins s σ H _ I h) λv s1 ⟨x,H1,I1,r1,q1⟩=>?_;refine thn (hb pins s1 σ H1 _ I1 q1) λu q ⟨y,H2,I2,r2,q2⟩=>?_;exact hf v u q x y H2 I2 r1 r2 q2
def jc{op:Operator}{r:R2}(ho:OpR X (binaryOp op) r)(ha:PE X a ta)(hb:PE X b tb):PE X (.BinOp a op b pos) (tOp r ta tb):=by
 intro pins s σ H Q I h;exact wpAny_BinOp (alN ha hb I h λv u s2 x y H2 z rx ry q=>ho pins s2 σ H2 x y v u Q z rx ry q)
def ajZ{op:UnaryOp}{r:V->Hp->VK->Prop}(ho:UnR X (unaryOp op) r)(ha:PE X a ta):PE X (.UnaryOp op a pos) (tUn r ta):=by
 intro pins s σ H Q I h;exact UnaryOp_ (thn (ha pins s σ H _ I h) λv s1 ⟨x,H1,q,z,q1⟩=>ho pins s1 σ H1 x v Q q z q1)
def opI{f:Value->Value->Sem Value}{C:Int->Int->Prop}{g:Int->Int->Int}
  (z:∀(i j:Int)(t u:Tok)(s:Shared)(Q:Value->Shared->Prop)(E:Value->Shared->Prop),C i j->Q (.int (g i j) s.toks) {s with toks:=s.toks+1}->wpAny (model X.prog X.w) X.A (f (.int i t) (.int j u)) Q E s):
  OpR X f (rI C λi j=> .int (g i j)):=by
 intro pins s σ H x y v u Q I rx ry h;obtain⟨i,j,rfl,rfl,hc,q⟩:=h;obtain⟨t,rfl⟩:=rx;obtain⟨t',rfl⟩:=ry;exact z i j t t' s _ _ hc ⟨.int (g i j),H,I.tok _,⟨_,rfl⟩,q⟩
def amC{f:Value->Value->Sem Value}{g:Int->Int->Int}
  (z:∀(i j:Int)(t u:Tok)(s:Shared)(Q:Value->Shared->Prop)(E:Value->Shared->Prop),Q (.int (g i j) s.toks) {s with toks:=s.toks+1}->wpAny (model X.prog X.w) X.A (f (.int i t) (.int j u)) Q E s):
  OpR X f (rI0 λi j=> .int (g i j)):=by
 intro pins s σ H x y v u Q I rx ry h;obtain⟨i,j,rfl,rfl,q⟩:=h;obtain⟨t,rfl⟩:=rx;obtain⟨t',rfl⟩:=ry;exact z i j t t' s _ _ ⟨.int (g i j),H,I.tok _,⟨_,rfl⟩,q⟩
def alT{f:Value->Value->Sem Value}{g:Int->Int->Bool}
  (z:∀(i j:Int)(t u:Tok)(s:Shared)(Q:Value->Shared->Prop)(E:Value->Shared->Prop),Q (.bool (g i j)) s->wpAny (model X.prog X.w) X.A (f (.int i t) (.int j u)) Q E s):
  OpR X f (rI0 λi j=> .bl (g i j)):=by
 intro pins s σ H x y v u Q I rx ry h;obtain⟨i,j,rfl,rfl,q⟩:=h;obtain⟨t,rfl⟩:=rx;obtain⟨t',rfl⟩:=ry;exact z i j t t' s _ _ ⟨.bl (g i j),H,I,rfl,q⟩
noncomputable def amK(i j:Int):Prop:=0<=j/\j<=1000000/\i.natAbs<2^64
noncomputable def alV(i j:Int):Prop:=(-(2^64)<i/\i<2^64)\/(-(2^64)<j/\j<2^64)
def alV.ok{i j:Int}(h:alV i j):IntMulOk i j:=by
 rcases h with⟨h1,h2⟩|⟨h1,h2⟩
 ·exact .of_left (intBits_le_64 h1 h2)
 ·exact .of_right (intBits_le_64 h1 h2)
def kh:OpR X (binaryOp .Add) (rI0 λi j=> .int (i+j)):=amC λ_ _ _ _ _ _ _ q=>add_int q
def uf:OpR X (binaryOp .Sub) (rI0 λi j=> .int (i - j)):=amC λ_ _ _ _ _ _ _ q=>sub_int q
def lq:OpR X (binaryOp .Mod) (rI (λ_ j=>0<j) λi j=> .int (i%j)):=opI λi j _ _ _ _ _ z q=>by
 have h1:(0:Int)<j:=z;exact mod_int' (by omega) (by rw[Int.fmod_eq_emod_of_nonneg i (by omega)];exact q)
def Lw:OpR X (binaryOp .Pow) (rI amK λi j=> .int (i^j.toNat)):=opI λ_ _ _ _ _ _ _ z q=>pow_int_small z.1 z.2.1 z.2.2 q
def unI{f:Value->Sem Value}{g:Int->Int}
  (z:∀(i:Int)(t:Tok)(s:Shared)(Q:Value->Shared->Prop)(E:Value->Shared->Prop),Q (.int (g i) s.toks) {s with toks:=s.toks+1}->wpAny (model X.prog X.w) X.A (f (.int i t)) Q E s):
  UnR X f (rU λi=> .int (g i)):=by
 intro pins s σ H x v Q I rx h;obtain⟨i,rfl,q⟩:=h;obtain⟨t,rfl⟩:=rx;exact z i t s _ _ ⟨.int (g i),H,I.tok _,⟨_,rfl⟩,q⟩
def Yz:UnR X (unaryOp .USub) (rU λi=> .int (-i)):=unI λ_ _ _ _ _ q=>neg_int q
end
noncomputable def ajd:V->V->Bool
 |.non,.non=>true|.non,.int _=>true|.int _,.non=>true|.non,.bl _=>true|.bl _,.non=>true|.non,.str _=>true|.str _,.non=>true
 |.int _,.int _=>true|.bl _,.bl _=>true|.str _,.str _=>true|.byt _,.byt _=>true
 |.int _,.str _=>true|.str _,.int _=>true|.bl _,.str _=>true|.str _,.bl _=>true
 |_,_=>false
noncomputable def rEq:R2:=λx y H Q=>ajd x y=true/\Q (.bl (decide (x=y))) H
noncomputable def rNe:R2:=λx y H Q=>ajd x y=true/\Q (.bl (!decide (x=y))) H
def Yb{i j:Int}:decide (V.int i=V.int j)=(i==j):=by
 rw[yX];simp
def aiB{i j:Bool}:decide (V.bl i=V.bl j)=(i==j):=by
 rw[yX];simp
def YW{i j:Str}:decide (V.str i=V.str j)=(i==j):=by
 rw[yX];simp
def Xx{i j:Array UInt8}:decide (V.byt i=V.byt j)=(i.toList==j.toList):=by
 rw[yX];cases i;cases j;simp
section
variable{X:Cx}{a b c:Expr}{ta tb tc:TE}{pos:Pos}
def kY{pins:List (Addr×Obj)}{σ:St}{H:Hp}{s:Shared}{Q:VK}{k z:Bool}(I:Inv X pins σ H s)(q:Q (.bl k) H)(e:k=z):EP X pins σ Q (.bool z) s:=by
 subst e;exact⟨.bl k,H,I,rfl,q⟩
def mR:OpR X (compareOp .Eq) rEq:=by
 intro pins s σ H x y v u Q I rx z h;obtain⟨hs,q⟩:=h
 cases x with
 |non=>
  cases rx
  cases y with
  |non=>cases z;exact PySem.EqNone.eq_none_none (kY I q (by simp))
  |bl j=>cases z;exact PySem.EqNone.eq_none_bool (kY I q (by simp))
  |int j=>obtain⟨t',rfl⟩:=z;exact PySem.EqNone.eq_none_int (kY I q (by simp))
  |str j=>obtain⟨t',rfl⟩:=z;exact PySem.EqNone.eq_none_str (kY I q (by simp))
  |_=>exact absurd (show false=true from hs) zP
 |bl i=>
  cases rx
  cases y with
  |non=>cases z;exact PySem.EqNone.eq_bool_none (kY I q (by simp))
  |bl j=>cases z;exact eq_bool (kY I q aiB)
  |str j=>obtain⟨t',rfl⟩:=z;exact PySem.EqMixed.eq_bool_str (kY I q (by simp))
  |_=>exact absurd (show false=true from hs) zP
 |int i=>
  obtain⟨t,rfl⟩:=rx
  cases y with
  |non=>cases z;exact PySem.EqNone.eq_int_none (kY I q (by simp))
  |int j=>obtain⟨t',rfl⟩:=z;exact eq_int (kY I q Yb)
  |str j=>obtain⟨t',rfl⟩:=z;exact PySem.EqMixed.eq_int_str (kY I q (by simp))
  |_=>exact absurd (show false=true from hs) zP
 |str i=>
  obtain⟨t,rfl⟩:=rx
  cases y with
  |non=>cases z;exact PySem.EqNone.eq_str_none (kY I q (by simp))
  |bl j=>cases z;exact PySem.EqMixed.eq_str_bool (kY I q (by simp))
  |int j=>obtain⟨t',rfl⟩:=z;exact PySem.EqMixed.eq_str_int (kY I q (by simp))
  |str j=>obtain⟨t',rfl⟩:=z;exact eq_str (kY I q YW)
  |_=>exact absurd (show false=true from hs) zP
 |byt i=>
  obtain⟨t,rfl⟩:=rx
  cases y with
  |byt j=>obtain⟨t',rfl⟩:=z;exact PySem.W.eq_bytes (kY I q Xx)
  |_=>exact absurd (show false=true from hs) zP
 |_=>cases y<;>exact absurd (show false=true from hs) zP
def ZM:OpR X (compareOp .NotEq) rNe:=by
 intro pins s σ H x y v u Q I rx z h;obtain⟨hs,q⟩:=h
 cases x with
 |non=>
  cases rx
  cases y with
  |non=>cases z;exact PySem.EqNone.ne_none_none (kY I q (by simp))
  |bl j=>cases z;exact PySem.EqNone.ne_none_bool (kY I q (by simp))
  |int j=>obtain⟨t',rfl⟩:=z;exact PySem.EqNone.ne_none_int (kY I q (by simp))
  |str j=>obtain⟨t',rfl⟩:=z;exact PySem.EqNone.ne_none_str (kY I q (by simp))
  |_=>exact absurd (show false=true from hs) zP
 |bl i=>
  cases rx
  cases y with
  |non=>cases z;exact PySem.EqNone.ne_bool_none (kY I q (by simp))
  |bl j=>cases z;exact ne_bool (kY I q (congrArg not aiB))
  |str j=>obtain⟨t',rfl⟩:=z;exact PySem.EqMixed.ne_bool_str (kY I q (by simp))
  |_=>exact absurd (show false=true from hs) zP
 |int i=>
  obtain⟨t,rfl⟩:=rx
  cases y with
  |non=>cases z;exact PySem.EqNone.ne_int_none (kY I q (by simp))
  |int j=>obtain⟨t',rfl⟩:=z;exact ne_int (kY I q (congrArg not Yb))
  |str j=>obtain⟨t',rfl⟩:=z;exact PySem.EqMixed.ne_int_str (kY I q (by simp))
  |_=>exact absurd (show false=true from hs) zP
 |str i=>
  obtain⟨t,rfl⟩:=rx
  cases y with
  |non=>cases z;exact PySem.EqNone.ne_str_none (kY I q (by simp))
  |bl j=>cases z;exact PySem.EqMixed.ne_str_bool (kY I q (by simp))
  |int j=>obtain⟨t',rfl⟩:=z;exact PySem.EqMixed.ne_str_int (kY I q (by simp))
  |str j=>obtain⟨t',rfl⟩:=z;exact ne_str (kY I q (congrArg not YW))
  |_=>exact absurd (show false=true from hs) zP
 |byt i=>
  obtain⟨t,rfl⟩:=rx
  cases y with
  |byt j=>obtain⟨t',rfl⟩:=z;exact PySem.W.ne_bytes (kY I q (congrArg not Xx))
  |_=>exact absurd (show false=true from hs) zP
 |_=>cases y<;>exact absurd (show false=true from hs) zP
def Ik:OpR X (compareOp .Lt) (rI0 λi j=> .bl (decide (i<j))):=alT λ_ _ _ _ _ _ _ q=>lt_int q
def aku:OpR X (compareOp .LtE) (rI0 λi j=> .bl (decide (i<=j))):=alT λ_ _ _ _ _ _ _ q=>le_int q
def Gf:OpR X (compareOp .Gt) (rI0 λi j=> .bl (decide (j<i))):=alT λ_ _ _ _ _ _ _ q=>gt_int q
def Fi:OpR X (compareOp .Is) (λx y H Q=>y=.non/\Q (.bl (decide (x=.non))) H):=by
 intro pins s σ H x y v u Q I z ry h;obtain⟨rfl,q⟩:=h;cases ry;refine is_none_gen (kY I q ?_)
 cases x<;>first
  |(cases z;rfl)
  |(obtain⟨t,rfl⟩:=z;rfl)
def HX:OpR X (compareOp .IsNot) (λx y H Q=>y=.non/\Q (.bl (!decide (x=.non))) H):=by
 intro pins s σ H x y v u Q I z ry h;obtain⟨rfl,q⟩:=h;cases ry;refine isnot_none_gen (kY I q ?_)
 cases x<;>first
  |(cases z;rfl)
  |(obtain⟨t,rfl⟩:=z;rfl)
def ji(b:Expr){op:CmpOp}(h:op≠.In:=by decide)(h2:op≠.NotIn:=by decide):behindInMarks op b=false:=by
 have q:(op==CmpOp.In)=false:=by cases op<;>first|rfl|exact absurd rfl h
 have z:(op==CmpOp.NotIn)=false:=by cases op<;>first|rfl|exact absurd rfl h2
 cases b<;>simp[behindInMarks,q,z]
def uK{op:CmpOp}{r:R2}(ho:OpR X (compareOp op) r)(ha:PE X a ta)(hb:PE X b tb)(hm:behindInMarks op b=false):PE X (.Compare a [op] [b] pos) (tOp r ta tb):=by
 intro pins s σ H Q I h;exact wpAny_Compare1 (alN ha hb I h λv u s2 x y H2 z rx ry q=>ho pins s2 σ H2 x y v u Q z rx ry q) hm
noncomputable def RV(t:TE):TT:=λσ H Q=>t σ H λx H'=>∃k,x=.bl k/\Q k H'
def je{op:CmpOp}{r:R2}(ho:OpR X (compareOp op) r)(ha:PE X a ta)(hb:PE X b tb)(hm:behindInMarks op b=false):PT X (.Compare a [op] [b] pos) (RV (tOp r ta tb)):=by
 intro pins s σ H Q I h
 refine wpAny_isTrue_Compare1 (thn (ha pins s σ H _ I h) λv s1 ⟨x,H1,q,r1,q1⟩=>thn (hb pins s1 σ H1 _ q q1) λu s2 ⟨y,H2,I2,r2,q2⟩=>
  thn (ho pins s2 σ H2 x y v u _ I2 r1 r2 q2) λc s3 ⟨z,H3,I3,r3,k,e,q3⟩=>?_) hm
 subst e;cases r3;exact yw ⟨H3,I3,q3⟩
noncomputable def ahZ(r r':R2)(ta tb tc:TE):TE:=λσ H Q=>ta σ H λx H1=>tb σ H1 λy H2=>r x y H2 λz H3=>∃k,z=.bl k/\
 (if k=true then tc σ H3 λw' H4=>r' y w' H4 Q else Q (.bl false) H3)
def aag{op q:CmpOp}{r r':R2}(ho:OpR X (compareOp op) r)(aa:OpR X (compareOp q) r')(ha:PE X a ta)(hb:PE X b tb)(hc:PE X c tc)
  (hm:lastMarks [op,q] [b,c]=false:=by with_unfolding_all rfl):PE X (.Compare a [op,q] [b,c] pos) (ahZ r r' ta tb tc):=by
 intro pins s σ H Q I h
 refine Compare_chain (thn (ha pins s σ H _ I h) λv s1 ⟨x,H1,I1,r1,q1⟩=>chain_link (thn (hb pins s1 σ H1 _ I1 q1) λu s2 ⟨y,H2,I2,r2,q2⟩=>
  thn (ho pins s2 σ H2 x y v u _ I2 r1 r2 q2) λd s3 ⟨z,H3,I3,r3,k,e,q3⟩=>?_)) hm
 subst e;cases r3;refine yw ?_
 cases k with
 |false=>exact ite_ff ⟨.bl false,H3,I3,rfl,q3⟩
 |true=>exact ite_tt (chain_last (thn (hc pins s3 σ H3 _ I3 q3) λw' s4 ⟨z',H4,I4,r4,q4⟩=>aa pins s4 σ H4 y z' u w' Q I4 r2 r4 q4))
def Ri:(sizeLine:Nat)<2^63:=by rw[zn];decide
def ju:OpR X (binaryOp .Add) (λx y H Q=>∃i j,x=.str i/\y=.str j/\i.length+j.length<=sizeLine/\Q (.str (i++j)) H):=by
 intro pins s σ H x y v u Q I rx ry h;obtain⟨i,j,rfl,rfl,z,q⟩:=h;obtain⟨t,rfl⟩:=rx;obtain⟨t',rfl⟩:=ry;exact add_str (λt' tk=>⟨.str (i++j),H,I.tok _,⟨_,rfl⟩,q⟩) z
def vals1{x:V}{us:List Value}(r:Vals [x] us):∃u,us=[u]/\RelV x u:=by
 cases r with
 |cons r1 r2=>cases r2;exact⟨_,rfl,r1⟩
def vals2{x y:V}{us:List Value}(r:Vals [x,y] us):∃u q,us=[u,q]/\RelV x u/\RelV y q:=by
 cases r with
 |cons r1 r2=>
  cases r2 with
  |cons r3 r4=>cases r4;exact⟨_,_,rfl,r1,r3⟩
def Xm(hc:X.calm=true):nD X (.builtin "max") (λxs H Q=>∃i j,xs=[.int i,.int j]/\Q (.int (if j>i then j else i)) H):=by
 intro pins s σ H xs us Q I r h;obtain⟨i,j,rfl,q⟩:=h;obtain⟨u,w',rfl,⟨t,rfl⟩,⟨t',rfl⟩⟩:=vals2 r;refine max_two_ints (I.ok.hd hc) λh' tk k=>⟨_,H,I.kept k,?_,q⟩;by_cases z:j>i
 ·rw[zl z,zl z];exact⟨_,rfl⟩
 ·rw[ze z,ze z];exact⟨_,rfl⟩
def Xa(hc:X.calm=true):nD X (.builtin "min") (λxs H Q=>∃i j,xs=[.int i,.int j]/\Q (.int (if j<i then j else i)) H):=by
 intro pins s σ H xs us Q I r h;obtain⟨i,j,rfl,q⟩:=h;obtain⟨u,w',rfl,⟨t,rfl⟩,⟨t',rfl⟩⟩:=vals2 r;refine min_two_ints (I.ok.hd hc) λh' tk k=>⟨_,H,I.kept k,?_,q⟩;by_cases z:j<i
 ·rw[zl z,zl z];exact⟨_,rfl⟩
 ·rw[ze z,ze z];exact⟨_,rfl⟩
def Za:nD X (.type "int") (λxs H Q=>(∃i,xs=[.int i]/\Q (.int i) H)\/∃k,xs=[.bl k]/\Q (.int (if k then 1 else 0)) H):=by
 intro pins s σ H xs us Q I r h;rcases h with⟨i,rfl,q⟩|⟨k,rfl,q⟩
 ·obtain⟨u,rfl,t,rfl⟩:=vals1 r
  exact call_int_int ⟨.int i,H,I,⟨_,rfl⟩,q⟩
 ·obtain⟨u,rfl,z⟩:=vals1 r
  cases z;exact call_int_bool ⟨.int (if k then 1 else 0),H,I.tok _,⟨_,rfl⟩,q⟩
def Rc:nD X (.type "str") (λxs H Q=>∃i,xs=[.int i]/\i.natAbs.log2<1920/\Q (.str (toString i)) H):=by
 intro pins s σ H xs us Q I r h;obtain⟨i,rfl,z,q⟩:=h;obtain⟨u,rfl,t,rfl⟩:=vals1 r;exact PySem.P.str_of_int z ⟨.str _,H,I.tok _,⟨_,rfl⟩,q⟩
end
end L2
namespace L2
open PySem PySem.Spec PyProof.Rows
structure ajl(h:Heap)(x dx C:Addr)(mA:Str->Option Value):Prop where
 obj:h.get? x=some (PySem.W.instObj C dx)
 ns:h.Ns1 dx mA
 ne:dx≠x
def YX{h:Heap}{dx:Addr}{mA:Str->Option Value}(n:h.Ns1 dx mA):∃od,h.get? dx=some od/\∀name,PySem.W.lookIn name od=some (mA name):=by
 obtain⟨o,es,ep,ho,hd,hk,_,hm⟩:=n;refine⟨o,ho,λname=>?_⟩;have e:=hm name;unfold nsFind findBy at e;rw[<-Array.find?_toList]at e;unfold PySem.W.lookIn;rw[hd];dsimp only;split
 ·rename_i y q
  rw[q]at e;exact congrArg some e
 ·rename_i q
  rw[q]at e
  have a:es.toList.any (·.refKey)=false:=by
   rw[List.any_eq_false];intro y hy;obtain⟨z,t,aa⟩:=hk y (Array.mem_toList_iff.mp hy);simp[DictEntry.refKey,aa]
  have a':¬es.toList.any (·.refKey)=true:=by rw[a];exact zP
  rw[ze a'];exact congrArg some e
def ajl.look{h:Heap}{x dx C:Addr}{mA:Str->Option Value}(I:ajl h x dx C mA):∃q,PySem.W.InstAt h x (PySem.W.instObj C dx) C (some q)/\∀name,PySem.W.lookIn name q=some (mA name):=
 let⟨q,ho,hl⟩:=YX I.ns
 ⟨q,⟨I.obj,rfl,rfl,ho⟩,hl⟩
section
variable{prog:Program}{w:World}{A:Around}{E:Value->Shared->Prop}{s:Shared}{K:Fg_}{x dx C f:Addr}{mA:Str->Option Value}{name:Str}{v:Value}
def get_map{q:Bool}{Q:Value->Shared->Prop}(X:K.In s.heap)(I:ajl s.heap x dx C mA)(hg:PySem.W.plainGet K C name=true)(hh:PySem.W.hasDictIn K C=true)
  (ha:PySem.W.findIn K (.ref C) name=some none) (hv:mA name=some v) (z:PySem.W.handedIn v=true) (h:Q v {s with toks:=s.toks+1}):
  wpAny (model prog w) A (getAttr (.ref x) name q) Q E s:=by
 obtain⟨od,J,hl⟩:=I.look;exact PySem.W.get_value X J (zzV hg).1 (PySem.W.findObj_own hh ha rfl (by rw[hl,hv])) z h
def ahB{pl:Sem Bool}{Q:Value×List Value->Shared->Prop}(X:K.In s.heap)(I:ajl s.heap x dx C mA)(q:PySem.W.plainGet K C name=true)
  (hf:PySem.W.findIn K (.ref C) name=some (some (.ref f))) (ht:PySem.W.isFn K (.ref f)=true) (hv:mA name=none) (h:Q (.ref f,[.ref x]) s):
  wpAny (model prog w) A (getMethod (.ref x) name pl) Q E s:=by
 obtain⟨od,J,z⟩:=I.look;exact PySem.W.method_fn X J (zzV q).1 (zzV q).2 hf (beq_iff_eq.mp ht) (by show(PySem.W.lookIn name od).map (·.isSome)=some false;rw[z,hv];rfl) h
def ajN{ns:List Str}{Q:Unit->Shared->Prop}(X:K.In s.heap)(I:ajl s.heap x dx C mA)
  (hs:PySem.W.findIn K (.ref C) "__setattr__" =some (some (.builtin "object.__setattr__"))) (hp:PySem.W.plainOver K C=true) (ht:PySem.W.takerIn K C name=some none) (hh:PySem.W.hasDictIn K C=true)
  (hw:PySem.Within mA ns) (hsz:ns.length<=sizeLine)
  (h:∀h',ajl h' x dx C (λy=>if y=name then some v else mA y)->Heap.SameBut dx s.heap h'->Q () {s with heap:=h',toks:=s.toks+2}):
  wpAny (model prog w) A (setAttr (.ref x) name v) Q E s:=by
 obtain⟨od,J,hl⟩:=I.look;refine PySem.W.set_plain X J hs (PySem.W.osa_open (s:={s with toks:=s.toks+1}) (r:=none) X J hp ht λb=>?_);obtain⟨cd,hc,ac⟩:=PySem.W.any_some hh;have hx:s.heap.get? x=some ⟨.ref C,some dx,.plain, #[]⟩:=I.obj;refine zc (zx (zc (zc (wpAny_loadPart hx (zc (PySem.W.Looks.here (s:={s with toks:=s.toks+1}) (PySem.W.looks_clsIn X hc) ?_))))));rw[ac];refine zx (a:=some dx) (zc (zx (zc ?_)));refine wpAny_nsSet1 (s:={s with toks:=s.toks+1}) I.ns λh' z q=>?_;obtain⟨oD,ae,af,ad,ab,aa⟩:=z.count (PySem.Within.cons name v hw);refine zc (wpAny_lookBehind ad (by rw[ab];exact pastItsLine_dict (zN aa (by rw[zE];omega))) ?_);exact zx (h _ ⟨(q.2 _ (Ne.symm I.ne)).trans I.obj,z,I.ne⟩ q)
def ahA{R:Result->Shared->Prop}{vs:List Value}{q:List (Str×Value)}(X:K.In s.heap)(hm:PySem.W.makesIn K C=true)
  (hi:PySem.W.findIn K (.ref C) "__init__" =some (some (.ref f))) (z:PySem.W.typeIn K (.ref f)=some (.type "function"))
  (h:codeAny (model prog w) (A.under (.builtin "type.__call__" ⟨.ref C::vs,q⟩)) (.call (.ref f) ⟨.ref (s.heap.objs.size+1)::vs,q⟩) (PySem.W.InitBack (s.heap.objs.size+1) R)
   {s with heap:=(s.heap.push PySem.W.emptyDict).push (PySem.W.instObj C s.heap.objs.size)}):
  codeAny (model prog w) A (.call (.ref C) ⟨vs,q⟩) R s:=by
 obtain⟨hh,g,d,t,os⟩:=s;exact PySem.W.make_core (yye X hm) (PySem.W.looks_findIn X hi) (λself=>PySem.W.bind_fn X self z) (.inl rfl) h
def YL{R:Result->Shared->Prop}(X:K.In s.heap)(hm:PySem.W.makesIn K C=true)
  (hi:PySem.W.findIn K (.ref C) "__init__" =some (some (.builtin "object.__init__")))
  (q:∀self,PySem.W.Looks (model prog w) s.heap (bindSpecial (.builtin "object.__init__") self) (.builtin "object.__init__",[self]))
  (h:codeAny (model prog w) (A.under (.builtin "type.__call__" ⟨[.ref C],[]⟩)) (.call (.builtin "object.__init__") ⟨[.ref (s.heap.objs.size+1)],[]⟩) (PySem.W.InitBack (s.heap.objs.size+1) R)
   {s with heap:=(s.heap.push PySem.W.emptyDict).push (PySem.W.instObj C s.heap.objs.size)}):
  codeAny (model prog w) A (.call (.ref C) ⟨[],[]⟩) R s:=by
 obtain⟨z,g,d,t,os⟩:=s;exact PySem.W.make_core (yye X hm) (PySem.W.looks_findIn X hi) q (.inr ⟨rfl,rfl⟩) h
end
noncomputable def Ef(f:Str)(v:V):List (Str×V)->List (Str×V)
 |[]=>[(f,v)]
 |(g,x)::r=>if g=f then(g,v)::r else(g,x)::Ef f v r
theorem JW(f g:Str)(v:V):∀fs:List (Str×V),(Ef f v fs).lookup g=if g=f then some v else fs.lookup g
 |[]=>by
  show List.lookup g [(f,v)]=_;by_cases h:g=f
  ·have q:(g==f)=true:=beq_iff_eq.mpr h
   simp only[List.lookup,q,zl h]
  ·have q:(g==f)=false:=beq_eq_false_iff_ne.mpr h
   simp only[List.lookup,q,ze h]
 |(k,x)::r=>by
  have ih:=JW f g v r;rw[show Ef f v ((k,x)::r)=(if k=f then(k,v)::r else(k,x)::Ef f v r)from rfl];by_cases z:k=f
  ·rw[zl z]
   by_cases h:g=k
   ·have q:(g==k)=true:=beq_iff_eq.mpr h
    simp only[List.lookup,q,zl (h.trans z)]
   ·have q:(g==k)=false:=beq_eq_false_iff_ne.mpr h
    simp only[List.lookup,q,ze (λe:g=f=>h (e.trans z.symm))]
  ·rw[ze z]
   by_cases h:g=k
   ·have q:(g==k)=true:=beq_iff_eq.mpr h
    simp only[List.lookup,q,ze (λe:g=f=>z (h.symm.trans e))]
   ·have q:(g==k)=false:=beq_eq_false_iff_ne.mpr h
    simp only[List.lookup,q];exact ih
theorem Hw(f:Str)(v:V):∀fs:List (Str×V),f∈(Ef f v fs).map (·.1)/\∀g,g∈fs.map (·.1)->g∈(Ef f v fs).map (·.1)
 |[]=>⟨by simp[Ef],λg h=>by simp at h⟩
 |(k,x)::r=>by
  obtain⟨z,i2⟩:=Hw f v r;rw[show Ef f v ((k,x)::r)=(if k=f then(k,v)::r else(k,x)::Ef f v r)from rfl];by_cases q:k=f
  ·rw[zl q]
   subst q;exact⟨by simp,λg h=>by simpa using h⟩
  ·rw[ze q]
   refine⟨?_,λg h=>?_⟩
   ·rw[zi]
    exact zk _ z
   ·rw[zi]at h⊢
    rcases zt.mp h with e|e
    ·exact zt.mpr (.inl e)
    ·exact zk _ (i2 g e)
theorem Jq(f:Str)(v:V):∀fs:List (Str×V),(Ef f v fs).length<=fs.length+1
 |[]=>by simp[Ef]
 |(k,x)::r=>by
  have z:=Jq f v r;rw[show Ef f v ((k,x)::r)=(if k=f then(k,v)::r else(k,x)::Ef f v r)from rfl];by_cases q:k=f
  ·rw[zl q,zE,zE];omega
  ·rw[ze q,zE,zE];omega
def Ly.some_of{v:V}{o:Option Value}(r:Ly (some v) o):∃u,o=some u/\RelV v u:=by
 cases o with
 |none=>exact(show False from r).elim
 |some u=>exact⟨u,rfl,r⟩
def Ly.none_of{o:Option Value}(r:Ly none o):o=none:=by
 cases o with
 |none=>rfl
 |some u=>exact(show False from r).elim
def YT{v:V}{u:Value}(r:RelV v u):PySem.W.handedIn u=true:=by
 cases v with
 |non=>cases (show u=Value.none from r);rfl
 |bl b=>cases (show u=Value.bool b from r);rfl
 |int i=>obtain⟨t,e⟩:=(show∃t,u=Value.int i t from r);cases e;rfl
 |str x=>obtain⟨t,e⟩:=(show∃t,u=Value.str x t from r);cases e;rfl
 |byt b=>obtain⟨t,e⟩:=(show∃t,u=Value.bytes b t from r);cases e;rfl
 |flt b=>obtain⟨t,e⟩:=(show∃t,u=Value.float b t from r);cases e;rfl
 |ref a=>cases (show u=Value.ref a from r);rfl
 |ty n=>cases (show u=Value.type n from r);rfl
section
variable{P:Program}{w:World}{H H':Hp}{h h':Heap}{a C dx:Addr}{fs fs':List (Str×V)}
def Mj(hok:HOk P w H h)(e:H a=some (.ins C dx fs)):∃mA,ajl h a dx C mA/\(∀f,Ly (fs.lookup f) (mA f))/\PySem.Within mA (fs.map (·.1))/\fs.length<=1000/\H dx=some (.own a):=by
 obtain⟨d,z,ne,ob,mA,n,r,q⟩:=(show mj P w H h a (.ins C dx fs)from hok a _ e);exact⟨mA,⟨ob,n,ne⟩,r,q,z,d⟩
end
structure Cls(K:Fg_)(C:Addr):Prop where
 pg:PySem.W.plainGet K C Str.empty=true
 hd:PySem.W.hasDictIn K C=true
 po:PySem.W.plainOver K C=true
 sa:PySem.W.findIn K (.ref C) "__setattr__" =some (some (.builtin "object.__setattr__"))
def Cls.get{K:Fg_}{C:Addr}(c:Cls K C)(f:Str):PySem.W.plainGet K C f=true:=c.pg
noncomputable def jd(K:Fg_)(C:Addr)(f:Str):Prop:=PySem.W.findIn K (.ref C) f=some none
def jd.taker{K:Fg_}{C:Addr}{f:Str}(n:jd K C f):PySem.W.takerIn K C f=some none:=by
 unfold PySem.W.takerIn;rw[show PySem.W.findIn K (.ref C) f=some none from n];rfl
structure Con(K:Fg_)(C:Addr)(f:Str)(v:V)(u:Value):Prop where
 at_:PySem.W.findIn K (.ref C) f=some (some u)
 rel:RelV v u
 get:PySem.W.specialIn K u "__get__" =some none
 cp:PySem.W.copiedNames.contains f=false
structure Meth(K:Fg_)(C:Addr)(m:Str)(f:Addr):Prop where
 at_:PySem.W.findIn K (.ref C) m=some (some (.ref f))
 fn:PySem.W.isFn K (.ref f)=true
 kp:PySem.W.keepIn K (.ref f)=true
section
variable{X:Cx}{pins:List (Addr×Obj)}{σ:St}{H:Hp}{s:Shared}{a C dx:Addr}{fs:List (Str×V)}{f:Str}{v:V}{A:Around}{E:Value->Shared->Prop}
def Vw{b:Bool}{Q:Value->Shared->Prop}(I:Inv X pins σ H s)(e:H a=some (.ins C dx fs))(c:Cls X.K C)(n:jd X.K C f)(l:fs.lookup f=some v)
  (h:∀u s',Inv X pins σ H s'->RelV v u->Q u s'):wpAny (model X.prog X.w) A (getAttr (.ref a) f b) Q E s:=by
 obtain⟨mA,O,r,_,_,_⟩:=Mj I.hok e;obtain⟨u,z,q⟩:=Ly.some_of (v:=v) (o:=mA f) (by rw[<-l];exact r f);exact get_map I.kIn O (c.get f) c.hd n z (YT q) (h u _ (I.tok _) q)
def Lj{m:Str}{g:Addr}{pl:Sem Bool}{Q:Value×List Value->Shared->Prop}(I:Inv X pins σ H s)(e:H a=some (.ins C dx fs))(c:Cls X.K C)(k:Meth X.K C m g)(l:fs.lookup m=none)
  (h:Q (.ref g,[.ref a]) s):wpAny (model X.prog X.w) A (getMethod (.ref a) m pl) Q E s:=by
 obtain⟨mA,O,r,_,_,_⟩:=Mj I.hok e;have hn:mA m=none:=Ly.none_of (by rw[<-l];exact r m);exact ahB I.kIn O (c.get m) k.at_ k.fn hn h
def Ws{y:V}{u:Value}{Q:Unit->Shared->Prop}(I:Inv X pins σ H s)(e:H a=some (.ins C dx fs))(c:Cls X.K C)(n:jd X.K C f)(hl:fs.length<1000)(ry:RelV y u)
  (h:∀s',Inv X pins σ (upd H a (.ins C dx (Ef f y fs))) s'->Q () s'):wpAny (model X.prog X.w) A (setAttr (.ref a) f u) Q E s:=by
 obtain⟨mA,O,r,wi,_,ho⟩:=Mj I.hok e;have hz:(fs.map (·.1)).length<=sizeLine:=by rw[za,zn];omega
 refine ajN I.kIn O c.sa c.po n.taker c.hd wi hz λh' O' sb=>h _ ?_;have hd:∃o,h'.get? dx=some o:=let⟨o,_,_,e',_⟩:=O'.ns;⟨o,e'⟩
 refine I.write (x:=a) (e:=dx) (by rw[e];exact True.intro) (.inr ho) (λb q hb z=>(sb.2 b hb).trans z) hd ?_;refine⟨by rw[iZ O.ne];exact ho,?_,O.ne,O'.obj,_,O'.ns,λg=>?_,λg hg=>?_⟩
 ·have:=Jq f y fs;omega
 ·show Ly ((Ef f y fs).lookup g) (if g=f then some u else mA g)
  rw[JW];by_cases q:g=f
  ·rw[zl q,zl q];exact ry
  ·rw[ze q,ze q];exact r g
 ·by_cases q:g=f
  ·rw[q];exact(Hw f y fs).1
  ·refine(Hw f y fs).2 g (wi g λz=>hg ?_)
   show(if g=f then some u else mA g)=none;rw[ze q];exact z
def Inv.made(I:Inv X pins σ H s):Inv X pins σ (upd (upd H s.heap.objs.size (.own (s.heap.objs.size+1))) (s.heap.objs.size+1) (.ins C s.heap.objs.size []))
  {s with heap:=(s.heap.push PySem.W.emptyDict).push (PySem.W.instObj C s.heap.objs.size)}:=by
 have z:(s.heap.push PySem.W.emptyDict).get? s.heap.objs.size=some PySem.W.emptyDict:=zC s.heap rfl
 have e2:((s.heap.push PySem.W.emptyDict).push (PySem.W.instObj C s.heap.objs.size)).get? (s.heap.objs.size+1)=some (PySem.W.instObj C s.heap.objs.size):=by
  have:=zC (s.heap.push PySem.W.emptyDict) (o:=PySem.W.instObj C s.heap.objs.size) rfl
  rwa [zz0]at this
 have e3:(s.heap.push PySem.W.emptyDict).Ns s.heap.objs.size (λ_=>none):=⟨PySem.W.emptyDict, #[],_,z,rfl,(λe he=>absurd he (by simp)),λ_=>rfl⟩;have I1:=I.laid (a:=s.heap.objs.size) (o:=.own (s.heap.objs.size+1)) (h':=s.heap.push PySem.W.emptyDict) (t':=s.toks) (λb u q=>zd _ q) (zo _) ⟨_,z⟩;refine I1.laid (a:=s.heap.objs.size+1) (o:=.ins C s.heap.objs.size []) (t':=s.toks) (λb u q=>zd _ q) (yyi (zz0 _ _)) ?_;have ne:s.heap.objs.size≠s.heap.objs.size+1:=zD (yyf _);refine⟨by rw[iZ ne,iK],zK _,ne,e2,λ_=>none,(Heap.Ns1.of_empty e3).at λo q=>zd _ q,λ_=>True.intro,λy hy=>absurd rfl hy⟩
def ajb{prog:Program}{w:World}{env:Env}{e:Expr}{f:Str}{pos:Pos}{s:Shared}{Q:Value->Shared->Prop}(z:attributeBase e f env (eval e env)=eval e env)
  (h:wpAny (model prog w) A (eval e env) (λo q=>wpAny (model prog w) A (getAttr o f true) Q E q) E s):wpAny (model prog w) A (eval (.Attribute e f pos) env) Q E s:=
 Attribute_any_ h (by rw[arm_eval_Attribute,z])
end
noncomputable def akF(K:Fg_)(ta:TE)(f:Str):TE:=λσ H Q=>ta σ H λx H1=>∃a C dx fs v,x=.ref a/\H1 a=some (.ins C dx fs)/\Cls K C/\jd K C f/\fs.lookup f=some v/\Q v H1
noncomputable def akQ(K:Fg_)(ta tv:TE)(f:Str):TS:=λD σ H=>tv σ H λy H1=>ta σ H1 λx H2=>∃a C dx fs,x=.ref a/\H2 a=some (.ins C dx fs)/\Cls K C/\jd K C f/\fs.length<1000/\
 D.nx σ (upd H2 a (.ins C dx (Ef f y fs)))
section
variable{X:Cx}{o e value:Expr}{f:Str}{pos pos' tpos:Pos}{ta tv:TE}
def ald(he:PE X e ta)(hb:attributeBase e f X.env (eval e X.env)=eval e X.env):PE X (.Attribute e f pos) (akF X.K ta f):=by
 intro pins s σ H Q I h;refine ajb hb (thn (he pins s σ H _ I h) λu s1 ⟨x,H1,z,rx,a,C,dx,fs,v,ex,ea,c,n,l,q⟩=>?_);subst ex;obtain rfl:u=Value.ref a:=rx;exact Vw z ea c n l λu' s2 I2 ru=>⟨v,H1,I2,ru,q⟩
def akB(ha:PE X o ta)(z:PE X value tv)(hs:swapsWith value (some (.Attribute o f pos')) pos.line X.env=pure false):PS X (.Assign [.Attribute o f pos'] value pos) (akQ X.K ta tv f):=by
 intro pins s σ H D I h;refine plainObj_wpAny_Assign_Attribute (thn (z pins s σ H _ I h) λu s1 ⟨y,H1,I1,ry,q⟩=>thn (ha pins s1 σ H1 _ I1 q) λov s2 ⟨x,H2,I2,rx,a,C,dx,fs,ex,ea,c,n,l,q2⟩=>?_) hs;subst ex;obtain rfl:ov=Value.ref a:=rx;exact Ws I2 ea c n l ry λs3 I3=>⟨σ,_,I3,q2⟩
end
section
variable{X:Cx}{pins:List (Addr×Obj)}{σ:St}{H:Hp}{s:Shared}{A:Around}{E:Value->Shared->Prop}{Q:Value->Shared->Prop}{c:Value}{b:Bool}
inductive Kf(K:Fg_)(H:Hp):V->Value->Prop where
 |non:Kf K H .non (.type "NoneType")
 |bl (x:Bool):Kf K H (.bl x) (.type "bool")
 |int (i:Int):Kf K H (.int i) (.type "int")
 |str (x:Str):Kf K H (.str x) (.type "str")
 |flt (x:UInt64):Kf K H (.flt x) (.type "float")
 |lst {a:Addr} {xs:List V} (e:H a=some (.lst xs)):Kf K H (.ref a) (.type "list")
 |frz {a:Addr} {o:Obj} {xs:List V} (e:H a=some (.frz o (.lst xs))):Kf K H (.ref a) (.type "list")
 |tup {a:Addr} {xs:List V} (e:H a=some (.tup xs)):Kf K H (.ref a) (.type "tuple")
 |dK {a:Addr} {kvs:List (Key×V)} (e:H a=some (.dK kvs)):Kf K H (.ref a) (.type "dict")
 |dT {a:Addr} {kvs:List (List Key×V)} (e:H a=some (.dT kvs)):Kf K H (.ref a) (.type "dict")
 | ins {a C dx:Addr} {fs:List (Str×V)} (e:H a=some (.ins C dx fs)) (cl:Cls K C) (ha:PySem.W.findIn K (.ref C) "__class__" =some (some (.builtin "object.__class__")))
   (hn:PySem.W.specialIn K (.builtin "object.__class__") "__get__" =some (some (.builtin "getset_descriptor.__get__"))) (htk:PySem.W.takesIn K (.builtin "object.__class__")=some true)
   (hm:PySem.W.mroIn K C (.type "object")=some true):Kf K H (.ref a) (.ref C)
def Ov{x:V}{u t:Value}(I:Inv X pins σ H s)(rx:RelV x u)(ty:Kf X.K H x t)(e:PySem.W.kitOne X.K t c=some b)(h:∀tk,Q (.bool b) {s with toks:=tk}):
  wpAny (model X.prog X.w) A (call (.builtin "isinstance") [u,c]) Q E s:=by
 cases ty with
 |non=>cases (show u=Value.none from rx);exact yg PySem.W.kitx_none I.kIn True.intro e (λz=>nomatch z) h
 |bl y=>cases (show u=Value.bool y from rx);exact yg PySem.W.kitx_bool I.kIn True.intro e (λz=>nomatch z) h
 |int i=>obtain⟨t,q⟩:=(show∃t,u=Value.int i t from rx);cases q;exact yg PySem.W.kitx_int I.kIn True.intro e (λz=>nomatch z) h
 |str y=>obtain⟨t,q⟩:=(show∃t,u=Value.str y t from rx);cases q;exact yg PySem.W.kitx_str I.kIn True.intro e (λz=>nomatch z) h
 |flt y=>obtain⟨t,q⟩:=(show∃t,u=Value.float y t from rx);cases q;exact yg PySem.W.kitx_float I.kIn True.intro e (λz=>nomatch z) h
 | @lst a xs ea=>
  cases (show u=Value.ref a from rx);obtain⟨_,_,n,_,h1⟩:=(show mj X.prog X.w H s.heap a (.lst xs)from I.hok a _ ea);exact yg PySem.W.kitx_list I.kIn ⟨_,h1,rfl⟩ e (λz=>nomatch z) h
 | @frz a ob xs ea=>
  cases (show u=Value.ref a from rx);obtain⟨_,_,_,n,_,h1⟩:=(show mj X.prog X.w H s.heap a (.frz ob (.lst xs))from I.hok a _ ea);exact yg PySem.W.kitx_list I.kIn ⟨_,h1,rfl⟩ e (λz=>nomatch z) h
 | @tup a xs ea=>
  cases (show u=Value.ref a from rx);obtain⟨_,_,_,p⟩:=(show mj X.prog X.w H s.heap a (.tup xs)from I.hok a _ ea);obtain⟨o,h1,h2,_⟩:=p;exact yg PySem.W.kitx_tuple I.kIn ⟨o,h1,h2⟩ e (λz=>nomatch z) h
 | @dK a kvs ea=>
  cases (show u=Value.ref a from rx);obtain⟨_,_,vs,_,p⟩:=(show mj X.prog X.w H s.heap a (.dK kvs)from I.hok a _ ea);obtain⟨o,es,ep,h1,h2,_⟩:=p;exact yg PySem.W.kitx_dict I.kIn ⟨o,h1,h2.1⟩ e (λz=>nomatch z) h
 | @dT a kvs ea=>
  cases (show u=Value.ref a from rx);obtain⟨_,_,xs,_,o,es,ep,h1,h2,_⟩:=(show mj X.prog X.w H s.heap a (.dT kvs)from I.hok a _ ea);exact yg PySem.W.kitx_dict I.kIn ⟨o,h1,h2.1⟩ e (λz=>nomatch z) h
 | @ins a C dx fs ea cl ha hn htk hm=>
  cases (show u=Value.ref a from rx);obtain⟨mA,O,_⟩:=Mj I.hok ea;obtain⟨od,J,_⟩:=O.look;exact yg (PySem.W.kitx_own (cl.get _) cl.hd ha hn htk hm) I.kIn J e (λz=>nomatch z) h
end
end L2
namespace L2
open PySem PySem.Spec PyProof.Rows
structure um(k:Nat)(A:Around):Prop where
 hd:A.handled=none
 dp:A.depth+3*k+5<recursionLimit
 un:A.units+16*k+200<cLine
def um.mono{j k:Nat}{A:Around}(r:um k A)(h:j<=k):um j A:=⟨r.hd,by have:=r.dp;omega,by have:=r.un;omega⟩
theorem um.deeper{k:Nat}{A:Around}(r:um (k+1) A)(env:Env):um k (A.deeper env):=
 ⟨r.hd,by have:=r.dp;show A.depth+1+3*k+5<_;omega,by have:=r.un;show A.units+3+16*k+200<_;omega⟩
theorem um.in1{k:Nat}{A:Around}(r:um (k+1) A):um k A.in1:=
 ⟨r.hd,by have:=r.dp;show A.depth+3*k+5<_;omega,by have:=r.un;show A.units+1+16*k+200<_;omega⟩
def VR{A:Around}{C:Addr}{us:List Value}{q:List (Str×Value)}:(A.under (.builtin "type.__call__" ⟨.ref C::us,q⟩)).depth=A.depth+1:=by
 first|rfl|simp[Around.under,Code.weight,Code.isCreation,Code.isGuard,Code.isCaller,Code.frames,Code.isFrame,guardIds]
def VF{A:Around}{C:Addr}{us:List Value}{q:List (Str×Value)}:(A.under (.builtin "type.__call__" ⟨.ref C::us,q⟩)).units=A.units+1:=by
 first|rfl|simp[Around.under,Code.cUnits,Code.frames,Code.isFrame]
def um.make{k:Nat}{A:Around}(r:um (k+1) A)(C:Addr)(us:List Value)(q:List (Str×Value)):um k (A.under (.builtin "type.__call__" ⟨.ref C::us,q⟩)):=
 ⟨r.hd,by have:=r.dp;rw[VR];omega,by have:=r.un;rw[VF];omega⟩
theorem um.depth{k:Nat}{A:Around}(r:um k A):A.depth<recursionLimit:=by have:=r.dp;omega
theorem um.units{k:Nat}{A:Around}(r:um k A):A.units+64<cLine:=by have:=r.un;omega
def um.units0{k:Nat}{A:Around}(r:um k A):A.units<cLine:=by have:=r.un;omega
noncomputable def Uu:TA:=λ_ H Q=>Q [] H
noncomputable def pB(ta:TE)(tr:TA):TA:=λσ H Q=>ta σ H λx H1=>tr σ H1 λxs H2=>Q (x::xs) H2
section
variable{X:Cx}{e:Expr}{es:List Expr}{te:TE}{t:TA}{pos:Pos}
def iI:PA X [] Uu:=λ_ _ _ _ H Q I h=>Calls.spliced_nil ⟨[],H,I,.nil,h⟩
def iG(ha:PE X e te)(hr:PA X es t)(hs:starEach (e::es) X.env=(false,eval e X.env)::starEach es X.env:=by rfl):PA X (e::es) (pB te t):=by
 intro pos pins s σ H Q I h;rw[hs];show wpAny _ _ (spliced ((false,eval e X.env)::backTo pos (starEach es X.env))) _ _ s;refine Calls.spliced_cons (thn (ha pins s σ H _ I h) λu s1 ⟨x,H1,q,r1,q1⟩=>?_);exact thn (hr pos pins s1 σ H1 _ q q1) λus s2 ⟨xs,H2,I2,z,q2⟩=>⟨x::xs,H2,I2,.cons r1 z,q2⟩
noncomputable def amM(t:TA):TE:=λσ H Q=>t σ H λxs H1=>xs.length<=sizeLine/\∀p,H1 p=none->Q (.ref p) (upd H1 p (.tup xs))
noncomputable def akA(t:TA):TE:=λσ H Q=>t σ H λxs H1=>xs.length<=sizeLine/\∀p,H1 p=none->Q (.ref p) (upd H1 p (.lst xs))
def nP{x1}(h:PA X es t):PE X (.Tuple es x1 pos) (amM t):=by
 intro pins s σ H Q I hq;refine wpAny_Tuple_spliced (thn (h pos pins s σ H _ I hq) λus s1 ⟨xs,H1,I1,r,z,q⟩=>⟨by rw[<-r.length];exact z,?_⟩);have hf:H1 s1.heap.objs.size=none:=I1.hok.fresh (zo _);refine⟨.ref s1.heap.objs.size,upd H1 s1.heap.objs.size (.tup xs),I1.laid (t':=s1.toks) (λb u e=>zd _ e) (zo _) ?_,rfl,q _ hf⟩;exact⟨z,us,r,⟨_,zC _ rfl,rfl,_,rfl⟩⟩
def jV(h:PA X es t):PE X (.List es pos) (akA t):=by
 intro pins s σ H Q I hq;refine wpAny_List_spliced (thn (h pos pins s σ H _ I hq) λus s1 ⟨xs,H1,I1,r,z,q⟩=>⟨by rw[<-r.length];exact z,?_⟩);have hf:H1 s1.heap.objs.size=none:=I1.hok.fresh (zo _);refine⟨.ref s1.heap.objs.size,upd H1 s1.heap.objs.size (.lst xs),I1.laid (t':=s1.toks) (λb u e=>zd _ e) (zo _) ?_,rfl,q _ hf⟩;exact⟨z,us,0,r,zC _ rfl⟩
end
abbrev Sp:=List V->Hp->VK->XK->Prop
abbrev CXT:=List Env->Hp->Shared->XK->Value->Shared->Prop
structure ZF(P:Program)(w:World)(K:Fg_)(mg:Str->Option Value)(base:Heap)(A:Around)(outer:List Env)(s:Shared)(H:Hp):Prop where
 frames:A.frames=some outer
 mod:Mod K mg base
 bs:∀b o,base.get? b=some o->s.heap.get? b=some o/\H b=none
 bsz:base.objs.size<=s.heap.objs.size
 funs:s.heap.FunFrames base outer
 frf:∀b∈frs outer,H b=none
 hok:HOk P w H s.heap
 bare:AllBare s.gens
noncomputable def CE(outer:List Env)(P:Program)(w:World)(H:Hp)(s:Shared)(Q:VK)(u:Value)(s':Shared):Prop:=
 ∃v H',s'.os=s.os/\AllBare s'.gens/\Un (frs outer) [] H H' s.heap s'.heap/\HOk P w H' s'.heap/\RelV v u/\Q v H'
noncomputable def CR(CX:CXT)(outer:List Env)(P:Program)(w:World)(H:Hp)(s:Shared)(Q:VK)(E:XK)(r:Result)(s':Shared):Prop:=
 match r with
 |.ok (.ret u)=>CE outer P w H s Q u s'
 |.ok _=>False
 |.error e=>CX outer H s E e s'
structure jQ(P:Program)(w:World)(K:Fg_)(mg:Str->Option Value)(base:Heap)(CX:CXT)(k:Nat)(f:Addr)(fd:FuncData)(ps:List Str)(sp:Sp):Prop where
 len:∀vs H Q E,sp vs H Q E->vs.length=ps.length
 run:∀(A:Around)(outer:List Env)(s:Shared)(H:Hp)(args:Args)(us:List Value)(vs:List V)(Q:VK)(E:XK),um k A->ZF P w K mg base A outer s H->BindsTo s fd args (ps.zip us)->Vals vs us->sp vs H Q E->
  codeAny (model P w) A (.call (.ref f) args) (CR CX outer P w H s Q E) s
def ZF.make{P:Program}{w:World}{K:Fg_}{mg:Str->Option Value}{base:Heap}{A:Around}{outer:List Env}{s:Shared}{H:Hp}(e:ZF P w K mg base A outer s H)(C:Addr)(us:List Value)(q:List (Str×Value)):
  ZF P w K mg base (A.under (.builtin "type.__call__" ⟨.ref C::us,q⟩)) outer s H:=⟨by first|exact e.frames|(simpa [Around.under,Code.envs,Code.isFrame,pushEnvs] using e.frames),e.mod,e.bs,e.bsz,e.funs,e.frf,e.hok,e.bare⟩
theorem ZF.in1{P:Program}{w:World}{K:Fg_}{mg:Str->Option Value}{base:Heap}{A:Around}{outer:List Env}{s:Shared}{H:Hp}(e:ZF P w K mg base A outer s H):
  ZF P w K mg base A.in1 outer s H:=⟨e.frames,e.mod,e.bs,e.bsz,e.funs,e.frf,e.hok,e.bare⟩
section
variable{X:Cx}{pins:List (Addr×Obj)}{σ:St}{H:Hp}{s s':Shared}
def Inv.env0(I:Inv X pins σ H s):ZF X.prog X.w X.K X.mg X.base X.A X.stack s H:=
 ⟨I.ok.frames,I.ok.mod,I.bs,zN I.ok.bsz I.sz,I.stack,I.stkFree,I.hok,I.bare⟩
def Inv.after{Q:VK}{u:Value}(I:Inv X pins σ H s)(h:CE X.stack X.prog X.w H s Q u s'):EP X pins σ Q u s':=by
 obtain⟨v,H',os,bare,un,hok,r,q⟩:=h;obtain⟨hh,g,d,t,aa⟩:=s';obtain rfl:aa=s.os:=os;exact⟨v,H',I.call (h':=hh) (g':=g) (d':=d) (t':=t) (ch:=[]) un hok bare (λb z=>absurd z (by simp)),r,q⟩
end
noncomputable def ahv(sp:Sp)(dvs:List V)(E:XK)(t:TA):TE:=λσ H Q=>t σ H λvs H1=>sp (vs++dvs) H1 Q E
noncomputable def alr(C:Addr)(sp:Sp)(dvs:List V)(E:XK)(t:TA):TE:=λσ H Q=>t σ H λvs H1=>∀x dx,H1 x=none->H1 dx=none->dx≠x->
 sp (.ref x::(vs++dvs)) (upd (upd H1 dx (.own x)) x (.ins C dx [])) (λv H2=>v=.non/\Q (.ref x) H2) E
noncomputable def Binds(K:Fg_)(fd:FuncData)(ps:List Str)(ds:List Value):Prop:=
 ∀(s:Shared)(us:List Value),K.In s.heap->(us++ds).length=ps.length->BindsTo s fd ⟨us,[]⟩ (ps.zip (us++ds))
def Binds.all{K:Fg_}{fd:FuncData}{ps:List Str}(h:∀us:List Value,us.length=ps.length->bindArgs fd ⟨us,[]⟩=pure (ps.zip us)):Binds K fd ps []:=λs us _ q=>by
 rw[yo]at q⊢;exact .of_eq (h us q)
noncomputable def Ay(CX:CXT)(X:Cx)(E:XK):Prop:=∀(pins:List (Addr×Obj))(σ:St)(H:Hp)(s:Shared)(e:Value)(s':Shared),Inv X pins σ H s->CX X.stack H s E e s'->X.xe e s'
section
variable{X:Cx}{CX:CXT}{k:Nat}{f C:Addr}{fd:FuncData}{ps:List Str}{sp:Sp}{dvs:List V}{ds:List Value}{E:XK}{x m:Str}{p pos apos:Pos}{e o:Expr}{es:List Expr}{ta:TE}{t:TA}
def Vf{pins:List (Addr×Obj)}{σ:St}{H:Hp}{s:Shared}{Q:VK}{us:List Value}{vs:List V}(F:jQ X.prog X.w X.K X.mg X.base CX k f fd ps sp)(hr:um k X.A)(hb:Binds X.K fd ps ds)(hd:Vals dvs ds)(hx:Ay CX X E)
  (I:Inv X pins σ H s) (r:Vals vs us) (h:sp (vs++dvs) H Q E):wpAny (model X.prog X.w) X.A (call (.ref f) us) (EP X pins σ Q) X.xe s:=by
 have z:Vals (vs++dvs) (us++ds):=r.append hd;have hl:(us++ds).length=ps.length:=by rw[<-z.length];exact F.len _ _ _ _ h
 refine yyk (codeAny_mono (F.run X.A X.stack s H ⟨us,[]⟩ (us++ds) (vs++dvs) Q E hr I.env0 (hb s us I.kIn hl) z h) λr s' q=>?_)
 cases r with
 |error e=>exact hx pins σ H s e s' I q
 |ok fl=>
  cases fl with
  |ret u=>exact I.after q
  |next=>exact False.elim q
  |brk=>exact False.elim q
  |cont=>exact False.elim q
def aiK(F:jQ X.prog X.w X.K X.mg X.base CX k f fd ps sp)(hr:um k X.A)(hg:Gl X x)(hm:X.mg x=some (.ref f))(hk:PySem.W.keepIn X.K (.ref f)=true)(hb:Binds X.K fd ps ds)(hd:Vals dvs ds)(hx:Ay CX X E)
  (ha:PA X (e::es) t) (z:(x==("__debug__" :Str))=false:=by decide) (he:starEach (e::es) X.env=(false,eval e X.env)::starEach es X.env:=by rfl) (hpl:(backTo pos (starEach es X.env)).any (·.1)=false:=by rfl):
  PE X (.Call (.Name x p) (e::es) [] pos) (ahv sp dvs E t):=by
 intro pins s σ H Q I h;refine yf (HD I hg hm ?_ z);refine zzn (h₀:=X.base) I.ok.mod.kin hk (thn (ha pos pins s σ H _ I h) λus s1 ⟨vs,H1,I1,r,q⟩=>⟨I1.kIn,?_⟩) he hpl;exact Vf F hr hb hd hx I1 r q
structure Mk(K:Fg_)(C f:Addr):Prop where
 makes:PySem.W.makesIn K C=true
 init:PySem.W.findIn K (.ref C) "__init__" =some (some (.ref f))
 fn:PySem.W.isFn K (.ref f)=true
 kp:PySem.W.keepIn K (.ref C)=true
def ahu{pins:List (Addr×Obj)}{σ:St}{H:Hp}{s:Shared}{Q:VK}{us:List Value}{vs:List V}(M:Mk X.K C f)(F:jQ X.prog X.w X.K X.mg X.base CX k f fd ps sp)(hr:um (k+1) X.A)(hb:Binds X.K fd ps ds)(hd:Vals dvs ds)
  (hx:Ay CX X E) (I:Inv X pins σ H s) (r:Vals vs us)
  (h:∀x dx,H x=none->H dx=none->dx≠x->sp (.ref x::(vs++dvs)) (upd (upd H dx (.own x)) x (.ins C dx [])) (λv H2=>v=.non/\Q (.ref x) H2) E):
  wpAny (model X.prog X.w) X.A (call (.ref C) us) (EP X pins σ Q) X.xe s:=by
 have hq:=h (s.heap.objs.size+1) s.heap.objs.size (I.hok.fresh (yz _)) (I.hok.fresh (zo _)) (zD (yyf _));have z:=Inv.made (C:=C) I;have r2:Vals (V.ref (s.heap.objs.size+1)::(vs++dvs)) (Value.ref (s.heap.objs.size+1)::(us++ds)):=.cons rfl (r.append hd)
 have hl:(Value.ref (s.heap.objs.size+1)::us++ds).length=ps.length:=by
  have e:=r2.length;rw[F.len _ _ _ _ hq]at e;exact e.symm
 refine yyk (ahA (f:=f) I.kIn M.makes M.init (beq_iff_eq.mp M.fn) (codeAny_mono (F.run _ X.stack _ _ ⟨Value.ref (s.heap.objs.size+1)::us,[]⟩ (Value.ref (s.heap.objs.size+1)::(us++ds)) _ _ E (hr.make C us [])
  (z.env0.make C us []) (hb _ (Value.ref (s.heap.objs.size+1)::us) z.kIn hl) r2 hq) λr s' q=>?_))
 cases r with
 |error e=>exact hx pins σ _ _ e s' z q
 |ok fl=>
  cases fl with
  |ret u=>
   obtain⟨v,H',I3,rv,ev,q3⟩:=z.after q;subst ev;exact⟨rv,⟨V.ref (s.heap.objs.size+1),H',I3,rfl,q3⟩⟩
  |next=>exact False.elim q
  |brk=>exact False.elim q
  |cont=>exact False.elim q
def lK(M:Mk X.K C f)(F:jQ X.prog X.w X.K X.mg X.base CX k f fd ps sp)(hr:um (k+1) X.A)(hg:Gl X x)(hm:X.mg x=some (.ref C))(hb:Binds X.K fd ps ds)(hd:Vals dvs ds)(hx:Ay CX X E)
  (ha:PA X (e::es) t) (z:(x==("__debug__" :Str))=false:=by decide) (he:starEach (e::es) X.env=(false,eval e X.env)::starEach es X.env:=by rfl) (hpl:(backTo pos (starEach es X.env)).any (·.1)=false:=by rfl):
  PE X (.Call (.Name x p) (e::es) [] pos) (alr C sp dvs E t):=by
 intro pins s σ H Q I h;refine yf (HD I hg hm ?_ z);refine zzn (h₀:=X.base) I.ok.mod.kin M.kp (thn (ha pos pins s σ H _ I h) λus s1 ⟨vs,H1,I1,r,q⟩=>⟨I1.kIn,?_⟩) he hpl;exact ahu M F hr hb hd hx I1 r q
end
noncomputable def PK(X:Cx)(kws:List Keyword)(t:TA):Prop:=
 ∀(pos:Pos)(pins:List (Addr×Obj))(s:Shared)(σ:St)(H:Hp)(Q:List V->Hp->Prop),Inv X pins σ H s->t σ H Q->wpAny (model X.prog X.w) X.A (evalAll ((backToKw pos (keywordEach kws X.env)).map (·.2))) (AP X pins σ Q) X.xe s
section
variable{X:Cx}{CX:CXT}{k:Nat}{f C:Addr}{fd:FuncData}{ps ks:List Str}{sp:Sp}{E:XK}{x m:Str}{p pos apos kpos:Pos}{e o:Expr}{es:List Expr}{kws:List Keyword}{te ta:TE}{t tk:TA}{nm:Option Str}
def aiw:PK X [] Uu:=λ_ _ _ _ H Q I h=>wpAny_evalAll_nil ⟨[],H,I,.nil,h⟩
def XS(ha:PE X e te)(hr:PK X kws t):PK X (⟨nm,e,kpos⟩::kws) (pB te t):=by
 intro pos pins s σ H Q I h;show wpAny _ _ (evalAll ((do let v<-eval e X.env;standAt pos;pure v)::(backToKw pos (keywordEach kws X.env)).map (·.2))) _ _ s;refine wpAny_evalAll_cons (zc (thn (ha pins s σ H _ I h) λu s1 ⟨x,H1,q,r1,q1⟩=>zc (yyb (zx ?_))));exact thn (hr pos pins s1 σ H1 _ q q1) λus s2 ⟨xs,H2,I2,r2,z⟩=>⟨x::xs,H2,I2,.cons r1 r2,z⟩
structure amN(K:Fg_)(fd:FuncData)(ps ks:List Str)(g:List Value->List Value->List Value)(gV:List V->List V->List V):Prop where
 to:∀(s:Shared)(us ws:List Value),K.In s.heap->(g us ws).length=ps.length->BindsTo s fd ⟨us,ks.zip ws⟩ (ps.zip (g us ws))
 rel:∀{vs:List V}{us:List Value}{zs:List V}{ws:List Value},Vals vs us->Vals zs ws->Vals (gV vs zs) (g us ws)
variable{g:List Value->List Value->List Value}{gV:List V->List V->List V}
end
structure iU(N P:List Str)(sc:Scope):Prop where
 kind:sc.kind=.function
 co:sc.isCoroutine=false
 gen:sc.isGenerator=false
 nd:N.Nodup
 pre:N.take P.length=P
 par:∀x∈P,sc.names.lookup x=some .local\/sc.names.lookup x=some .cell
 nofree:∀y∈sc.names,y.2≠.free
theorem QK{q:Str->Option NameKind}{x:Str}:∀{binds:List (Str×Value)}{m:Str->Option Value},(∀v,(x,v)∉binds)->bindL q binds m x=m x
 |[],_,_=>rfl
 |(n,v)::r,m,h=>by
  unfold bindL;rw[QK λw z=>h w (zk _ z)];split
  ·have:x≠n:=by rintro rfl;exact h v zg
   simp[this]
  ·rfl
theorem Rj{q:Str->Option NameKind}{x:Str}:∀{binds:List (Str×Value)}{m:Str->Option Value},(∀v,(x,v)∉binds)->bindC q binds m x=m x
 |[],_,_=>rfl
 |(n,v)::r,m,h=>by
  unfold bindC;rw[Rj λw z=>h w (zk _ z)];split
  ·rfl
  ·have:x≠n:=by rintro rfl;exact h v zg
   simp[this]
theorem Rb{q:Str->Option NameKind}{x:Str}{v:Value}:∀{P:List Str}{vs:List Value}{i:Nat}{m:Str->Option Value},P.Nodup->P[i]? =some x->vs[i]? =some v->q x=some .local->
  bindL q (P.zip vs) m x=some v
 |[],_,_,_,_,h,_,_=>by simp at h
 |_::_,[],_,_,_,_,h,_=>by simp at h
 |p::P,w::vs,0,m,nd,h1,h2,hk=>by
  simp at h1 h2;subst h1;subst h2;show bindL q ((p,w)::P.zip vs) m p=_;unfold bindL;rw[QK λv z=>(zR.mp nd).1 (yym z).1,zl hk];simp
 |p::P,w::vs,i+1,m,nd,h1,h2,hk=>by
  show bindL q ((p,w)::P.zip vs) m x=_;unfold bindL;exact Rb (i:=i) (zR.mp nd).2 (by simpa using h1) (by simpa using h2) hk
theorem Qx{q:Str->Option NameKind}{x:Str}{v:Value}:∀{P:List Str}{vs:List Value}{i:Nat}{m:Str->Option Value},P.Nodup->P[i]? =some x->vs[i]? =some v->q x≠some .local->
  bindC q (P.zip vs) m x=some v
 |[],_,_,_,_,h,_,_=>by simp at h
 |_::_,[],_,_,_,_,h,_=>by simp at h
 |p::P,w::vs,0,m,nd,h1,h2,hk=>by
  simp at h1 h2;subst h1;subst h2;show bindC q ((p,w)::P.zip vs) m p=_;unfold bindC;rw[Rj λv z=>(zR.mp nd).1 (yym z).1,ze hk];simp
 |p::P,w::vs,i+1,m,nd,h1,h2,hk=>by
  show bindC q ((p,w)::P.zip vs) m x=_;unfold bindC;exact Qx (i:=i) (zR.mp nd).2 (by simpa using h1) (by simpa using h2) hk
noncomputable def start(N:List Str)(vs:List V):St:=vs.map some++List.replicate (N.length - vs.length) none
noncomputable def ZX(CX:CXT)(P:Program)(w:World)(K:Fg_)(mg:Str->Option Value)(base:Heap)(N:List Str)(qual:Str)(scope:Scope)(f:Addr)(cd:Value)(A:Around)(outer:List Env)(s:Shared)(H:Hp)(E:XK):Cx where
 prog:=P
 w:=w
 K:=K
 mg:=mg
 base:=base
 A:=A.deeper (envOfC qual scope s.heap.objs.size f cd)
 N:=N
 s₀:=s
 H₀:=H
 env:=envOfC qual scope s.heap.objs.size f cd
 outer:=outer
 stack:=envOfC qual scope s.heap.objs.size f cd::outer
 ex:=[]
 calm:=true
 fn:=λ_=>true
 pn:=[]
 xe:=λe s'=>wpAny (model P w) (A.deeper (envOfC qual scope s.heap.objs.size f cd)) (leaving (envOfC qual scope s.heap.objs.size f cd) e) (λ_ s''=>CX outer H s E e s'') (λe' s''=>CX outer H s E e' s'') s'
def Tq{z:Scope}{n:Nat}{x:Str}(h:z.names.lookup x=some .cell):∃c,(cellsFrom n z.names []).lookup x=some c:=by
 have q:=PySem.W.cellsFrom_some z.names n [] (.inl h);exact yF.mp q
def Xq{CX:CXT}{P:Program}{w:World}{K:Fg_}{mg:Str->Option Value}{base:Heap}{N ps:List Str}{aa:Str}{scope:Scope}{f:Addr}{cd:Value}{A:Around}{outer:List Env}{s s1:Shared}{H:Hp}{E:XK}{us:List Value}{vs:List V}
  (S:iU N ps scope) (hd:A.handled=none) (e0:ZF P w K mg base A outer s H) (hl:vs.length=ps.length) (r:Vals vs us)
  (x:InCallC s s.heap.objs.size (bindL (envOfC aa scope s.heap.objs.size f cd).kindOf (ps.zip us) λ_=>none) (cellsFrom (s.heap.objs.size+1) scope.names []) (bindC (envOfC aa scope s.heap.objs.size f cd).kindOf (ps.zip us) λ_=>none) s1):
  Inv (ZX CX P w K mg base N aa scope f cd A outer s H E) [] (start N vs) H s1:=by
 have ad:ps.length<=N.length:=by have:=congrArg List.length S.pre;rw[zO]at this;omega
 obtain⟨h1,tk,rfl,hk⟩:=x.done;have ab:∀b:Addr,b∉(ZX CX P w K mg base N aa scope f cd A outer s H E).ex:=λb z=>absurd (show b∈([]:List Addr)from z) (by simp)
 refine ⟨⟨e0.mod,S.kind,rfl,rfl,zo _,λy z c h1 h2=>?_,λy hy=>?_,λy c _ h=>?_,λ_=>hd,Around.frames_deeper e0.frames,.inr ⟨rfl,rfl⟩,λb z=>absurd z (ab b),e0.bs,e0.bsz,λb _ _=>ab b,λb z=>absurd z (ab b),e0.funs,e0.frf⟩,
  rfl,e0.bare,Un.kept hk,⟨_,x.toInCall.ns,λi y v h1 h2 h3=>?_⟩,λy c h=>⟨_,x.cell y c h⟩,e0.hok.fresh (zo _),λy c h=>?_,λp hp=>absurd (show p∈([]:List (Addr×Obj))from hp) (by simp),e0.hok.kept hk,?_⟩
 ·exact name_of_addr x.apart (yO h1) (yO h2)
 ·have hy:scope.names.lookup y=some .cell\/scope.names.lookup y=some .free:=hy
  rcases hy with hy|hy
  ·exact Tq hy
  ·exact absurd rfl (S.nofree _ (yO hy))
 ·exact zzs (x.above y c (yO h))
 ·have hi:i<vs.length:=by
   unfold start at h2;by_cases hi:i<vs.length
   ·exact hi
   ·rw[z4 (by simpa using hi)]at h2
    rw[List.getElem?_replicate]at h2;split at h2<;>cases h2
  have ha:vs[i]? =some v:=by
   unfold start at h2;rw[z5 (by simpa using hi),zm]at h2
   cases e:vs[i]? with
   |none=>rw[e]at h2;cases h2
   |some a=>rw[e]at h2;cases h2;rfl
  obtain⟨u,hu,rv⟩:=r.get ha
  have hp:ps[i]? =some y:=by
   rw[<-S.pre,List.getElem?_take_of_lt (by omega)];exact h1
  have ac:ps.Nodup:=by rw[<-S.pre];exact S.nd.sublist (List.take_sublist _ _)
  refine⟨u,rv,?_⟩;rcases S.par y (zh hp)with k|k
  ·exact .inl ⟨k,Rb ac hp hu k⟩
  ·obtain⟨c,e⟩:=Tq (n:=s.heap.objs.size+1) k
   refine .inr ⟨.inl k,c,e,?_⟩;have q:=x.cell y c e;rw[Qx ac hp hu (by show scope.names.lookup y≠_;rw[k];decide)]at q;exact q
 ·exact e0.hok.fresh (zzs (x.above y c (yO h)))
 ·unfold start
  show _=N.length;rw[zB,za,zzB];omega
def akk{CX:CXT}{P:Program}{w:World}{K:Fg_}{mg:Str->Option Value}{base:Heap}{k:Nat}{f:Addr}{name z:Str}{ab:Arguments}{ac:List Stmt}{scope:Scope}{dV kV ah pm aa ct oc:Value}{an od:Option Addr}
  {aj:Array (Option Value)} {N ps:List Str} {sp:Sp} (lk:K.lookup f=some ⟨oc,od,.func (PySem.W.fnOf name z ab ac scope dV kV ah pm an aa ct),aj⟩) (ai:PySem.W.codeIn K aa z=true) (S:iU N ps scope)
  (len:∀vs H Q E,sp vs H Q E->vs.length=ps.length)
  (ad:∀(A:Around)(outer:List Env)(s:Shared)(H:Hp)(vs:List V)(Q:VK)(E:XK),um k (A.deeper (envOfC z scope s.heap.objs.size f aa))->sp vs H Q E->
   ∃t,PSs (ZX CX P w K mg base N z scope f aa A outer s H E) ac t/\t {nx:=λ_ H'=>Q .non H',rt:=Q} (start N vs) H):
  jQ P w K mg base CX (k+1) f (PySem.W.fnOf name z ab ac scope dV kV ah pm an aa ct) ps sp:=by
 refine⟨len,λA outer s H args us vs Q E hr e0 hb r ag=>?_⟩;have hl:=len _ _ _ _ ag;have KX:K.In s.heap:=e0.mod.kin.keeps λb o e=>(e0.bs b o e).1;have ak:s.heap.NoLimit:=e0.mod.nolimit.keeps λb o e=>(e0.bs b o e).1
 have ae:∀y∈ps.zip us,scope.names.lookup y.1=some .local\/(scope.names.lookup y.1=some .cell/\((cellsFrom (s.heap.objs.size+1) scope.names []).lookup y.1).isSome=true):=fun⟨n,v⟩ hy=>by
  rcases S.par n (yym hy).1 with q|q
  ·exact .inl q
  ·exact .inr ⟨q,PySem.W.cellsFrom_some _ _ _ (.inl q)⟩
 refine codeAny_call_function hr.depth (KX _ _ lk) rfl S.co S.gen rfl (PySem.W.codeRec_of KX ai) (hb _ _ _ _ ?_);refine wpAny_newFunctionEnv_cells S.kind ae λenv he s1 x=>?_;subst he;refine⟨ak.keeps x.toInCall.keep,codeAny_func ?_⟩;obtain⟨t,ht,hq⟩:=ad A outer s H vs Q E (hr.deeper _) ag;have I:Inv (ZX CX P w K mg base N z scope f aa A outer s H E) [] (start N vs) H s1:=Xq S hr.hd e0 hl r x;refine ya (ht [] s1 (start N vs) H _ I hq) (λfl s' hs=>?_) λe s' hs=>hs
 have af:∀{σ':St}{H':Hp}{v:V}{u:Value},Inv (ZX CX P w K mg base N z scope f aa A outer s H E) [] σ' H' s'->RelV v u->Q v H'->CE outer P w H s Q u s':=
  fun{σ' H' v u} J rv q=>⟨v,H',J.os,J.bare,J.base,J.hok,rv,q⟩
 cases fl with
 |ret u=>
  obtain⟨v,σ',H',J,rv,q⟩:=hs;exact af J rv q
 |next=>
  obtain⟨σ',H',J,q⟩:=hs;exact af (v:=V.non) (u:=Value.none) J rfl q
 |brk=>
  obtain⟨_,_,_,q⟩:=hs;exact False.elim q
 |cont=>
  obtain⟨_,_,_,q⟩:=hs;exact False.elim q
end L2
namespace L2
open PySem PySem.Spec PyProof.Rows
section
variable{X:Cx}{x:Str}{p pos:Pos}{e:Expr}{es:List Expr}{t:TA}{id T:String}{r:List V->Hp->VK->Prop}
noncomputable def tCB(r:List V->Hp->VK->Prop)(t:TA):TE:=λσ H Q=>t σ H λvs H1=>r vs H1 Q
def jl(hc:nD X (.builtin id) r)(hg:Gl X x)(hm:X.mg x=none)(q:bootBuiltins x=some (.builtin id))(ha:PA X (e::es) t)(hn:x≠ "__name__" :=by decide) (hdb:(x==("__debug__" :Str))=false:=by decide)
  (he:starEach (e::es) X.env=(false,eval e X.env)::starEach es X.env:=by rfl) (hpl:(backTo pos (starEach es X.env)).any (·.1)=false:=by rfl):PE X (.Call (.Name x p) (e::es) [] pos) (tCB r t):=by
 intro pins s σ H Q I h;refine yf (Bb I hg hm q ?_ hn hdb);exact PyProof.Rows.callWith_builtin1 (thn (ha pos pins s σ H _ I h) λus s1 ⟨vs,H1,z,r1,q1⟩=>hc pins s1 σ H1 vs us Q z r1 q1) he hpl
def jJ(hc:nD X (.type T) r)(hg:Gl X x)(hm:X.mg x=none)(q:bootBuiltins x=some (.type T))(ha:PA X (e::es) t)(hn:x≠ "__name__" :=by decide) (hdb:(x==("__debug__" :Str))=false:=by decide)
  (he:starEach (e::es) X.env=(false,eval e X.env)::starEach es X.env:=by rfl) (hpl:(backTo pos (starEach es X.env)).any (·.1)=false:=by rfl):PE X (.Call (.Name x p) (e::es) [] pos) (tCB r t):=by
 intro pins s σ H Q I h;refine yf (Bb I hg hm q ?_ hn hdb);exact PyProof.Rows.callWith_type1 (thn (ha pos pins s σ H _ I h) λus s1 ⟨vs,H1,z,r1,q1⟩=>hc pins s1 σ H1 vs us Q z r1 q1) he hpl
end
end L2
namespace HT
open PySem PyProof.Rows
def aaw(A:Around)(s:Shared)(a:Int)(t:Tok)(c:Int)(u:Tok):∃e,SeqAt.EqAt A s (.int a t) (.int c u) e/\(e=true↔a=c):=
 ⟨(a==c),SeqAt.EqAt.int_int a t c u,by simp⟩
section
open PySem.SeqAt
open PySem.AutoSeq1 (wpAny_loadPart')
open PySem.MeetsSeq PySem.MeetsSeq2 PySem.MeetsSeq3
end
section
variable{prog:Program}{w:World}{A:Around}{E:Value->Shared->Prop}{s:Shared}
noncomputable def sIx(n d:Nat):Option Int->Nat
 |none=>d
 |some v=>if v<0 then(v+(n:Int)).toNat else min v.toNat n
def sIx_none(n d:Nat):sIx n d none=d:=rfl
def sIx_nat(n d k:Nat):sIx n d (some (k:Int))=min k n:=by
 show(if(k:Int)<0 then((k:Int)+(n:Int)).toNat else min (k:Int).toNat n)=min k n;rw[ze (by omega),zz7]
def akV(n d:Nat)(hd:d<=n)(o:Option Int):sIx n d o<=n:=by
 cases o with
 |none=>exact hd
 |some v=>
  show(if v<0 then(v+(n:Int)).toNat else min v.toNat n)<=n;by_cases q:v<0
  ·rw[zl q];omega
  ·rw[ze q];exact Nat.min_le_right _ _
def Wy(v:Int)(n d:Nat):(if v<0 then max (v+(n:Int)) 0 else min v (n:Int))=((sIx n d (some v):Nat):Int):=by
 show(if v<0 then max (v+(n:Int)) 0 else min v (n:Int))=(((if v<0 then(v+(n:Int)).toNat else min v.toNat n):Nat):Int);by_cases q:v<0
 ·simp only[zl q];omega
 ·simp only[ze q];omega
def Vu(lo hi:Option Int)(n:Nat):Builtin.Slice.sliceAdjust lo hi 1 (n:Int)=(((sIx n 0 lo:Nat):Int),((sIx n n hi:Nat):Int)):=by
 have h1:¬((1:Int)<0):=by omega
 unfold Builtin.Slice.sliceAdjust;simp only[h1,if_false];refine Prod.ext ?_ ?_
 ·cases lo with
  |none=>rfl
  |some v=>exact Wy v n 0
 ·cases hi with
  |none=>rfl
  |some v=>exact Wy v n n
def Wf(i j:Nat):Builtin.Slice.slicePlaces (i:Int) (j:Int) 1=j - i:=by
 unfold Builtin.Slice.slicePlaces;have h1:(1:Int)>0:=by omega
 simp only[h1,if_true,Int.ediv_one];split<;>omega
def Ma{v:Value}{o:Option Int}{Q:Option Int->Shared->Prop}(p:IsPart v o)(h:Q o s):wpAny (model prog w) A (Builtin.Slice.slicePartIndex v) Q E s:=by
 cases p with
 |none=>exact slicePart_none h
 |int i t=>exact slicePart_int h
def Gk{sl:Addr}{vl vu:Value}{lo hi:Option Int}{n:Nat}{Q:Int×Int×Nat->Shared->Prop}(hs:s.heap.IsSliceOf sl vl vu .none)(pl:IsPart vl lo)(pu:IsPart vu hi)
  (h:Q (((sIx n 0 lo:Nat):Int),1,sIx n n hi - sIx n 0 lo) s):wpAny (model prog w) A (Builtin.Slice.sliceApplied (.ref sl) (pure (n:Int))) Q E s:=by
 obtain⟨os,z,aa,q⟩:=id hs;unfold Builtin.Slice.sliceApplied Builtin.Slice.sliceFields;refine zc (zc (wpAny_field z q (x:=vl) rfl (zc (wpAny_field z q (x:=vu) rfl (zc (wpAny_field z q (x:=.none) rfl (zx ?_)))))));refine zc (slicePart_none ?_);show wpAny _ _ (if((1:Int)==0)=true then _ else _) _ _ s;rw[ze (by decide)];refine zc (Ma pl (zc (Ma pu (zc (zx ?_)))));show wpAny _ _ (match Builtin.Slice.sliceAdjust lo hi 1 (n:Int)with|(lo,hi)=>pure (lo,(1:Int),Builtin.Slice.slicePlaces lo hi 1)) _ _ s;rw[Vu lo hi n];show wpAny _ _ (pure (((sIx n 0 lo:Nat):Int),(1:Int),Builtin.Slice.slicePlaces ((sIx n 0 lo:Nat):Int) ((sIx n n hi:Nat):Int) 1)) _ _ s;rw[Wf];exact zx h
def aaz(xs:Array Value)(i k:Nat):((List.range k).filterMap fun(m:Nat)=>xs[((i:Int)+(m:Int)*1).toNat]?).toArray=((xs.toList.drop i).take k).toArray:=by
 have e:(fun(m:Nat)=>xs[((i:Int)+(m:Int)*1).toNat]?)=λm=>xs[i+m]? :=by
  funext m;have:((i:Int)+(m:Int)*1).toNat=i+m:=by omega
  rw[this]
 rw[e];have:=pick_run xs i k;rw[List.filterMap_map]at this;have q:((λx=>xs[x]?)∘λx=>i+x)=λm=>xs[i+m]? :=rfl;rw[q]at this;rw[this]
def getItem_tuple_cut{t sl:Addr}{items:Array Value}{vl vu:Value}{lo hi:Option Int}{Q:Value->Shared->Prop}(ht:IsTup s.heap t items)(hs:s.heap.IsSliceOf sl vl vu .none)(pl:IsPart vl lo)(pu:IsPart vu hi)
  (hw:¬(sIx items.size 0 lo=0/\sIx items.size items.size hi=items.size))
  (h:Q (.ref s.heap.objs.size) {s with heap:=s.heap.push {cls:=.type "tuple",data:=.seq ((items.toList.drop (sIx items.size 0 lo)).take (sIx items.size items.size hi - sIx items.size 0 lo)).toArray}})
  (hsz:items.size<=sizeLine):wpAny (model prog w) A (getItem (.ref t) (.ref sl)) Q E s:=by
 have z:sizeOk (.seq ((items.toList.drop (sIx items.size 0 lo)).take (sIx items.size items.size hi - sIx items.size 0 lo)).toArray):=by
  show((items.toList.drop (sIx items.size 0 lo)).take (sIx items.size items.size hi - sIx items.size 0 lo)).toArray.size<=sizeLine;rw[zw,zO,yB,yk];omega
 have hj:sIx items.size items.size hi<=items.size:=akV _ _ (zo _) hi;obtain⟨os,ac,aa,ae⟩:=id hs;have ad:s.TypeIs (.ref sl) "slice" :=⟨os,ac,aa⟩;unfold getItem
 try with_reducible refine z8 ?_
 first|refine zc (zx ?_)|skip
 refine zc (wpAny_sequenceKey ht.typeIs (by decide) ?_)
 refine zc (wpAny_callSpecial?_slot (name:=Str.ofString "__getitem__") ht.typeIs PyProof.Rows.slot_tuple_getitem
  (zzK PyProof.Rows.slot_tuple_getitem ht.typeIs entry_tuple_getitem ?_ (args_tuple_getitem _ _)))
 show wpAny _ _ (Builtin.Tuple.tupleItemsOf (.ref t)>>=_) _ _ s;refine zc (tupleItemsOf_ ht ?_);refine zc (yyl ad ?_);rw[zl (by decide)];refine zc (Gk hs pl pu ?_)
 have ab:¬((((sIx items.size 0 lo:Nat):Int)==0 && (1:Int)==1 && (sIx items.size items.size hi - sIx items.size 0 lo)==items.size)=true):=by
  intro q;rw[yJ,yJ]at q;have q1:((sIx items.size 0 lo:Nat):Int)=0:=eq_of_beq q.1.1;have q2:sIx items.size items.size hi - sIx items.size 0 lo=items.size:=eq_of_beq q.2;exact hw ⟨by omega,by omega⟩
 show wpAny _ _ (if(((sIx items.size 0 lo:Nat):Int)==0 && (1:Int)==1 && (sIx items.size items.size hi - sIx items.size 0 lo)==items.size)=true then _ else _) _ _ s;rw[ze ab,aaz]
 first
  |exact zc (m:=Builtin.Tuple.tupleExact _) (yN (zx ⟨_,rfl,zx h⟩) z)
  |exact zc (m:=Builtin.Tuple.tupleExact _) (yN (zc (zx (zx ⟨_,rfl,zx h⟩))) z)
  |exact zc (zc (m:=Builtin.Tuple.tupleExact _) (yN (zx (zx ⟨_,rfl,zx h⟩)) z))
  |exact zc (zc (m:=Builtin.Tuple.tupleExact _) (yN (zx ⟨_,rfl,zx h⟩) z))
end
end HT
namespace L2
open PySem PySem.Spec PyProof.Rows
abbrev TO:=St->Hp->(Option Int->Hp->Prop)->Prop
noncomputable def PO(X:Cx)(e:Option Expr)(t:TO):Prop:=
 ∀(pins:List (Addr×Obj)) (s:Shared) (σ:St) (H:Hp) (Q:Option Int->Hp->Prop),Inv X pins σ H s->t σ H Q->
  wpAny (model X.prog X.w) X.A (evalPart e X.env) (λu s'=>∃o H',Inv X pins σ H' s'/\IsPart u o/\Q o H') X.xe s
noncomputable def Zv:TO:=λ_ H Q=>Q none H
noncomputable def alx(t:TE):TO:=λσ H Q=>t σ H λx H1=>∃i,x=.int i/\Q (some i) H1
def intsAre_of{ns:List Int}:∀{us:List Value},Vals (ns.map V.int) us->IntsAre us ns:=by
 induction ns with
 |nil=>intro us r;rw[zzu]at r;cases r;exact .nil
 |cons n ns ih=>
  intro us r;rw[zi]at r
  cases r with
  |cons r1 r2=>
   obtain⟨t,e⟩:=r1;subst e;exact .cons n t (ih r2)
section
variable{X:Cx}{e:Expr}{te:TE}{lo hi:Option Expr}{tl th:TO}{pos p2:Pos}
def Kc:PO X none Zv:=by
 intro pins s σ H Q I h;rw[evalPart_none];exact zx ⟨none,H,I,.none,h⟩
def BZ(h:PE X e te):PO X (some e) (alx te):=by
 intro pins s σ H Q I hw;rw[evalPart_some];refine thn (h pins s σ H _ I hw) λu s1 ⟨x,H1,z,r1,q1⟩=>?_;obtain⟨i,rfl,q⟩:=q1;obtain⟨t,rfl⟩:=r1;exact⟨some i,H1,z,.int i t,q⟩
noncomputable def SlR(X:Cx)(r:V->Option Int->Option Int->Hp->VK->Prop):Prop:=
 ∀(pins:List (Addr×Obj)) (s:Shared) (σ:St) (H:Hp) (x:V) (v vl vu:Value) (lo hi:Option Int) (sl:Addr) (Q:VK),Inv X pins σ H s->RelV x v->s.heap.IsSliceOf sl vl vu .none->IsPart vl lo->IsPart vu hi->r x lo hi H Q->
  ∃T id,typeLookup (.type T) "__getitem__" =pure (some (.builtin id))/\s.TypeIs v T/\wpAny (model X.prog X.w) X.A (getItem v (.ref sl)) (EP X pins σ Q) X.xe s
noncomputable def tSl(r:V->Option Int->Option Int->Hp->VK->Prop)(te:TE)(tl th:TO):TE:=λσ H Q=>te σ H λx H1=>tl σ H1 λl H2=>th σ H2 λu H3=>r x l u H3 Q
def Ac{r:V->Option Int->Option Int->Hp->VK->Prop}(hr:SlR X r)(he:PE X e te)(hl:PO X lo tl)(hu:PO X hi th):PE X (.Subscript e (.Slice lo hi none p2) pos) (tSl r te tl th):=by
 intro pins s σ H Q I h;refine Subscript_ (thn (he pins s σ H _ I h) λv s1 ⟨x,H1,I1,r1,q1⟩=>?_);refine wpAny_Slice (thn (hl pins s1 σ H1 _ I1 q1) λvl s2 ⟨l,H2,I2,pl,q2⟩=>thn (hu pins s2 σ H2 _ I2 q2) λvu z ⟨u,H3,I3,pu,q3⟩=>?_);rw[evalPart_none];refine zx ?_;have I4:Inv X pins σ H3 {z with heap:=z.heap.push {cls:=.type "slice",data:=.fields #[vl,vu,.none]}}:=I3.kept (t':=z.toks) λb ob q=>zd _ q;obtain⟨T,id,hT,ht,hg⟩:=hr pins {z with heap:=z.heap.push {cls:=.type "slice",data:=.fields #[vl,vu,.none]}} σ H3 x v vl vu l u z.heap.objs.size Q I4 r1 (Heap.IsSliceOf.new ..) pl pu q3;show wpAny (model X.prog X.w) X.A (subscriptTail e (.Slice lo hi none p2) v (.ref z.heap.objs.size)) (EP X pins σ Q) X.xe {z with heap:=z.heap.push {cls:=.type "slice",data:=.fields #[vl,vu,.none]}};exact tail_any (ops:=[.ref z.heap.objs.size,v]) ht hT hg (by with_unfolding_all rfl)
noncomputable def NZ(xs:List V)(lo hi:Option Int):List V:=(xs.drop (HT.sIx xs.length 0 lo)).take (HT.sIx xs.length xs.length hi - HT.sIx xs.length 0 lo)
def Im(xs:List V)(lo hi:Option Int):(NZ xs lo hi).length<=xs.length:=by
 unfold NZ;rw[zO,yB];omega
noncomputable def amt(K:Fg_):V->Option Int->Option Int->Hp->VK->Prop:=λx lo hi H Q=>∃a xs,x=.ref a/\SqT K H a xs/\
 ¬(HT.sIx xs.length 0 lo=0/\HT.sIx xs.length xs.length hi=xs.length)/\∀p,H p=none->Q (.ref p) (upd H p (.tup (NZ xs lo hi)))
def akq:SlR X (amt X.K):=by
 intro pins s σ H x v vl vu lo hi sl Q I rx hs pl pu h;obtain⟨a,xs,rfl,hx,hw,q⟩:=h;cases rx;obtain⟨its,r,ht,hz⟩:=I.tuple hx;have z:its.toArray.size=xs.length:=by rw[zw];exact r.length.symm
 refine⟨"tuple",_,PyProof.Rows.slot_tuple_getitem.lookup,ht.typeIs,?_⟩;refine HT.getItem_tuple_cut ht hs pl pu (by rw[z];exact hw) ?_ (by rw[z];exact hz);rw[z];refine⟨.ref s.heap.objs.size,_,I.laid (t':=s.toks) (o:=.tup (NZ xs lo hi)) (λb ob q=>zd _ q) (zo _) ?_,rfl,q _ (I.hok.fresh (zo _))⟩;exact⟨zN (Im xs lo hi) hz,_,(r.drop (HT.sIx xs.length 0 lo)).take (HT.sIx xs.length xs.length hi - HT.sIx xs.length 0 lo),IsTup.new _ _⟩
end
end L2
namespace L2
open PySem PySem.Spec PyProof.Rows
noncomputable def ixN(n:Nat)(i:Int):Option Nat:=if 0<=i then(if i<n then some i.toNat else none)else if -(n:Int)<=i then some (i+n).toNat else none
noncomputable def atI{α:Type}(xs:List α)(i:Int):Option α:=(ixN xs.length i).bind λj=>xs[j]?
def ajz{n:Nat}{i:Int}{j:Nat}(h:ixN n i=some j):seqIndex? i n=some j/\j<n/\ -(n:Int)<=i/\i<n:=by
 unfold ixN at h;by_cases q:0<=i
 ·rw[zl q]at h
  by_cases h1:i<n
  ·rw[zl h1]at h
   have e:i.toNat=j:=zy h;exact⟨by rw[seqIndex_of q h1,e],by omega,by omega,h1⟩
  ·rw[ze h1]at h;cases h
 ·rw[ze q]at h
  by_cases h1: -(n:Int)<=i
  ·rw[zl h1]at h
   have e:(i+n).toNat=j:=zy h;exact⟨by rw[seqIndex_neg (by omega) h1,e],by omega,h1,by omega⟩
  ·rw[ze h1]at h;cases h
def RQ{α:Type}{xs:List α}{i:Int}{v:α}(h:atI xs i=some v):∃j,seqIndex? i xs.length=some j/\xs[j]? =some v/\j<xs.length/\ -(xs.length:Int)<=i/\i<xs.length:=by
 unfold atI at h
 cases e:ixN xs.length i with
 |none=>rw[e]at h;cases h
 |some j=>
  rw[e]at h;obtain⟨h1,h2,z,q⟩:=ajz e;exact⟨j,h1,h,h2,z,q⟩
def Hq{α:Type}{xs:List α}{j:Nat}{v:α}(h:xs[j]? =some v):atI xs (j:Int)=some v:=by
 have q:j<xs.length:=(zp.mp h).1
 have e:ixN xs.length (j:Int)=some j:=by
  unfold ixN;rw[zl (by omega),zl (by omega)];simp
 unfold atI;rw[e];exact h
noncomputable def ajE(b:Expr):Prop:=∀o i,subscripted b false o i=operate [o,i] (getItem o i)
noncomputable def IxR(X:Cx)(r:R2):Prop:=
 ∀(value slice:Expr) (pins:List (Addr×Obj)) (s:Shared) (σ:St) (H:Hp) (x y:V) (v u:Value) (Q:VK),Inv X pins σ H s->RelV x v->RelV y u->r x y H Q->
  subscripted slice false v u=operate [v,u] (getItem v u)->wpAny (model X.prog X.w) X.A (subscriptTail value slice v u) (EP X pins σ Q) X.xe s
noncomputable def MtR(X:Cx)(id:String)(r:V->List V->Hp->VK->Prop):Prop:=
 ∀(pins:List (Addr×Obj)) (s:Shared) (σ:St) (H:Hp) (x:V) (xs:List V) (v:Value) (us:List Value) (Q:VK),Inv X pins σ H s->RelV x v->Vals xs us->r x xs H Q->
  wpAny (model X.prog X.w) X.A (call (.builtin id) (v::us)) (EP X pins σ Q) X.xe s
section
variable{X:Cx}{a b:Expr}{ta tb:TE}{pos:Pos}
def jC{r:R2}(hr:IxR X r)(ha:PE X a ta)(hb:PE X b tb)(hs:ajE b):PE X (.Subscript a b pos) (tOp r ta tb):=by
 intro pins s σ H Q I h;exact Subscript_ (alN ha hb I h λv u s2 x y H2 z rx ry q=>hr a b pins s2 σ H2 x y v u Q z rx ry q (hs _ _))
noncomputable def akd(K:Fg_):R2:=λx y H Q=>∃p xs i v,x=.ref p/\y=.int i/\SqL K H p xs/\atI xs i=some v/\Q v H
noncomputable def aiy(K:Fg_):R2:=λx y H Q=>∃p xs i v,x=.ref p/\y=.int i/\SqT K H p xs/\atI xs i=some v/\Q v H
noncomputable def amu:R2:=λx y H Q=>∃z i c,x=.str z/\y=.int i/\z.length<=sizeLine/\atI z.cps.toList i=some c/\Q (.str ⟨#[c]⟩) H
def ajY:IxR X (akd X.K):=by
 intro value ab pins s σ H x y v u Q I rx ry h hs;obtain⟨p,xs,i,z,rfl,rfl,hq,he,q⟩:=h;cases rx;obtain⟨t,rfl⟩:=ry;obtain⟨its,r,pl,hz⟩:=I.list hq;obtain⟨j,h1,h2,h3,h4,h5⟩:=RQ he;obtain⟨w,ew,ac⟩:=r.get h2;have hl:=r.length;have hn:=Ri;have aa:EP X pins σ Q w s:=⟨z,H,I,ac,q⟩;by_cases h0:0<=i
 ·have hj:i.toNat=j:=by
   rw[seqIndex_of h0 h5]at h1;exact zy h1
  exact item_listR pl.isList h0 (by omega) (by rw[hj];simpa using ew) aa hs
 ·have hj:(i+(its.toArray.size:Int)).toNat=j:=by
   rw[seqIndex_neg (by omega) h4]at h1;rw[zw,<-hl];exact zy h1
  exact subscriptTail_builtinR (x:=w) pl.isList.typeIs slot_list_getitem.lookup
   (wpAny_getItem_list_neg (Q:=λr s'=>r=w/\EP X pins σ Q r s') pl.isList (by omega) (by rw[zw]<;>omega) (by omega) (by rw[hj];simpa using ew) ⟨rfl,aa⟩) hs
def akZ:IxR X (aiy X.K):=by
 intro value aa pins s σ H x y v u Q I rx ry h hs;obtain⟨p,xs,i,z,rfl,rfl,hq,he,q⟩:=h;cases rx;obtain⟨t,rfl⟩:=ry;obtain⟨its,r,pl,hz⟩:=I.tuple hq;obtain⟨j,h1,h2,h3,h4,h5⟩:=RQ he;obtain⟨w,ew,ab⟩:=r.get h2;have hl:=r.length;have hn:=Ri;have ac:EP X pins σ Q w s:=⟨z,H,I,ab,q⟩
 exact subscriptTail_builtinR (x:=w) pl.typeIs slot_tuple_getitem.lookup
  (getItem_tuple (j:=j) (Q:=λr s'=>r=w/\EP X pins σ Q r s') pl (by omega) (by omega) (by rw[zw,<-hl];exact h1) (by simpa using ew) ⟨rfl,ac⟩) hs
def akJ:IxR X amu:=by
 intro value aa pins s σ H x y v u Q I rx ry h hs;obtain⟨z,i,c,rfl,rfl,hz,he,q⟩:=h;obtain⟨t,rfl⟩:=rx;obtain⟨t',rfl⟩:=ry;obtain⟨j,h1,h2,h3,h4,h5⟩:=RQ he;have hl:z.cps.toList.length=z.length:=by simp[Str.length]
 rw[hl]at h1 h4 h5;have hn:=Ri
 exact tail_any (typeIs_str s z t) slot_str_getitem.lookup (getItem_str (c:=c) (by
  have e1:decide (i< -(2^63:Int))=false:=zQ (by omega);have e2:decide (i>=2^63)=false:=zQ (by omega);rw[e1,e2,Bool.or_false]) (by rw[h1];simpa using h2) ⟨.str ⟨#[c]⟩,H,I.tok _,⟨_,rfl⟩,q⟩) hs
theorem Inv.lst{pins:List (Addr×Obj)}{σ:St}{H:Hp}{s:Shared}{p:Addr}{xs:List V}(I:Inv X pins σ H s)(h:H p=some (.lst xs)):
  ∃(its:List Value)(n:Nat),Vals xs its/\s.heap.get? p=some {cls:=.type "list",data:=.seq its.toArray n}/\xs.length<=sizeLine:=by
 obtain⟨z,its,n,r,e⟩:=I.hok p _ h;exact⟨its,n,r,e,z⟩
def Qf(lo hi:Option Int)(n:Nat):(sliceBounds lo hi none n).1=((HT.sIx n 0 lo:Nat):Int)/\(sliceBounds lo hi none n).2.1=((HT.sIx n n hi:Nat):Int)/\(sliceBounds lo hi none n).2.2=1:=by
 refine⟨?_,?_,rfl⟩
 ·cases lo with
  |none=>simp[sliceBounds,HT.sIx]
  |some i=>
   simp only[sliceBounds,HT.sIx,Option.getD_none,show(1:Int)>0 by decide,if_true];by_cases h:i<0
   ·simp only[h,if_true]<;>omega
   ·simp only[h,if_false]<;>omega
 ·cases hi with
  |none=>simp[sliceBounds,HT.sIx]
  |some i=>
   simp only[sliceBounds,HT.sIx,Option.getD_none,show(1:Int)>0 by decide,if_true];by_cases h:i<0
   ·simp only[h,if_true]<;>omega
   ·simp only[h,if_false]<;>omega
def Ni(its:List Value)(lo hi:Option Int):slicePick its.toArray lo hi none=((its.drop (HT.sIx its.length 0 lo)).take (HT.sIx its.length its.length hi - HT.sIx its.length 0 lo)).toArray:=by
 obtain⟨h1,h2,q⟩:=Qf lo hi its.toArray.size;unfold slicePick;rw[h1,h2,q];simp only[sliceRange_one,pick_run,zw]<;>rfl
noncomputable def amq(K:Fg_):V->Option Int->Option Int->Hp->VK->Prop:=λx lo hi H Q=>∃a xs,x=.ref a/\SqL K H a xs/\∀p,H p=none->Q (.ref p) (upd H p (.lst (NZ xs lo hi)))
def aiM:SlR X (amq X.K):=by
 intro pins s σ H x v vl vu lo hi sl Q I rx hs pl pu h;obtain⟨a,xs,rfl,hx,q⟩:=h;cases rx;obtain⟨its,r,ht,hz⟩:=I.list hx;have z:=r.length;refine⟨"list",_,slot_list_getitem.lookup,ht.isList.typeIs,?_⟩;refine wpAny_getItem_list_slice ht.isList hs pl pu .none (by simp) ?_ (by rw[zw]<;>omega);rw[Ni,<-z];refine⟨.ref s.heap.objs.size,_,I.laid (t':=s.toks) (o:=.lst (NZ xs lo hi)) (λb ob q=>zd _ q) (zo _) ?_,rfl,q _ (I.hok.fresh (zo _))⟩;exact⟨zN (Im xs lo hi) hz,_,0,(r.drop (HT.sIx xs.length 0 lo)).take (HT.sIx xs.length xs.length hi - HT.sIx xs.length 0 lo),zC _ rfl⟩
def PJ:nD X (.builtin "len") (λxs H Q=>∃p ys,xs=[.ref p]/\(SqL X.K H p ys\/SqT X.K H p ys)/\Q (.int ys.length) H):=by
 intro pins s σ H xs us Q I r h;obtain⟨p,ys,rfl,hq,q⟩:=h;obtain⟨u,rfl,rx⟩:=vals1 r;cases rx;have hn:=Ri;rcases hq with hq|hq
 ·obtain⟨its,r',pl,hz⟩:=I.list hq
  have z:=r'.length;exact Calls.call_len_list pl.isList (by simp only[zw]<;>omega) ⟨.int ys.length,H,I.tok _,⟨s.toks+1,by rw[zw,z]⟩,q⟩
 ·obtain⟨its,r',pl,hz⟩:=I.tuple hq
  have z:=r'.length;exact len_tuple pl (by simp only[zw]<;>omega) ⟨.int ys.length,H,I.tok _,⟨s.toks+1,by rw[zw,z]⟩,q⟩
def Fl:nD X (.builtin "len") (λxs H Q=>∃z,xs=[.str z]/\z.length<=sizeLine/\Q (.int z.length) H):=by
 intro pins s σ H xs us Q I r h;obtain⟨z,rfl,hz,q⟩:=h;obtain⟨u,rfl,t,rfl⟩:=vals1 r;have hn:=Ri;exact len_str (by omega) ⟨.int z.length,H,I.tok _,⟨_,rfl⟩,q⟩
def Oz:nD X (.type "list") (λxs H Q=>∃p ys,xs=[.ref p]/\(SqL X.K H p ys\/SqT X.K H p ys)/\∀l,H l=none->Q (.ref l) (upd H l (.lst ys))):=by
 intro pins s σ H xs us Q I r h;obtain⟨p,ys,rfl,hq,q⟩:=h;obtain⟨u,rfl,rx⟩:=vals1 r;cases rx
 have aa:∀(its:List Value),Vals ys its->ys.length<=sizeLine->∀(h':Heap)(z:Nat),(∀b o',s.heap.get? b=some o'->h'.get? b=some o')->
   h'.get? s.heap.objs.size=some {cls:=.type "list",dict:=none,data:=.seq its.toArray z,slots:= #[]}->EP X pins σ Q (.ref s.heap.objs.size) {s with heap:=h'}:=λits r' hz h' z kp e=>
  ⟨.ref s.heap.objs.size,_,I.laid (t':=s.toks) kp (zo _) (show mj X.prog X.w _ h' _ (.lst ys)from⟨hz,its,z,r',e⟩),rfl,q _ (I.hok.fresh (zo _))⟩
 rcases hq with hq|hq
 ·obtain⟨its,r',pl,hz⟩:=I.list hq
  have ab:=r'.length;obtain⟨o,ho,hc,n,hd⟩:=pl.isList;exact call_list_seq p (.inl rfl) ho hc hd (λh' z kp e=>aa its r' hz h' z kp e) (by simp only[zw]<;>omega)
 ·obtain⟨its,r',pl,hz⟩:=I.tuple hq
  have ab:=r'.length;obtain⟨o,ho,hc,n,hd⟩:=pl;exact call_list_seq p (.inr rfl) ho hc hd (λh' z kp e=>aa its r' hz h' z kp e) (by simp only[zw]<;>omega)
noncomputable def tyV(K:Fg_)(T:String)(x:V)(H:Hp):Prop:=match x with
 |.str _=>T= "str"
 |.int _=>T= "int"
 | .ref p=>(T= "list" /\∃xs,SqL K H p xs)\/(T= "tuple" /\∃o,K.lookup p=some o/\o.cls=.type "tuple" /\o.dict=none)\/
   (T= "dict" /\((∃kvs,H p=some (.dK kvs))\/∃kvs,H p=some (.dT kvs)))\/(T= "set" /\∃S n,H p=some (.set S n))
 |_=>False
def ahW{pins:List (Addr×Obj)}{σ:St}{H:Hp}{s:Shared}{T:String}{x:V}{v:Value}(I:Inv X pins σ H s)(r:RelV x v)(ty:tyV X.K T x H):
  s.TypeIs v T/\∀a,v=.ref a->∃ob,s.heap.get? a=some ob/\ob.dict=none:=by
 cases x with
 |str z=>
  obtain⟨t,rfl⟩:=r;cases (show T= "str" from ty);exact⟨typeIs_str s z t,λ_ e=>nomatch e⟩
 |int i=>
  obtain⟨t,rfl⟩:=r;cases (show T= "int" from ty);exact⟨typeIs_int s i t,λ_ e=>nomatch e⟩
 |ref p=>
  cases r;rcases ty with⟨rfl,xs,hq⟩|⟨rfl,o,q,hc,hd⟩|⟨rfl,q⟩|⟨rfl,S,n,q⟩
  ·obtain⟨its,_,pl,_⟩:=I.list hq
   refine⟨pl.isList.typeIs,λa e=>?_⟩;cases e;obtain⟨o,n,e,c,hd,_⟩:=pl;exact⟨o,e,hd⟩
  ·refine⟨⟨o,I.kIn p o q,hc⟩,λa e=>?_⟩
   cases e;exact⟨o,I.kIn _ o q,hd⟩
  ·have z:∃o,s.heap.get? p=some o/\o.ExactDict:=by
    rcases q with⟨kvs,q⟩|⟨kvs,q⟩
    ·obtain⟨_,_,_,_,o,_,_,e,ex,_⟩:=I.hok p _ q
     exact⟨o,e,ex⟩
    ·obtain⟨_,_,_,_,o,_,_,e,ex,_⟩:=I.hok p _ q
     exact⟨o,e,ex⟩
   obtain⟨o,e,ex⟩:=z;refine⟨⟨o,e,ex.1⟩,λa e2=>?_⟩;cases e2;exact⟨o,e,ex.2.1⟩
  ·obtain⟨o,_,_,_,e,ex,_⟩:=I.hok p _ q
   refine⟨⟨o,e,ex.1⟩,λa e2=>?_⟩;cases e2;exact⟨o,e,ex.2.1⟩
 |_=>exact False.elim ty
noncomputable def alX(K:Fg_)(T:String)(r:V->List V->Hp->VK->Prop)(to:TE):TE:=λσ H Q=>to σ H λx H1=>tyV K T x H1/\r x [] H1 Q
noncomputable def tBM(K:Fg_)(T:String)(r:V->List V->Hp->VK->Prop)(to:TE)(t:TA):TE:=λσ H Q=>to σ H λx H1=>tyV K T x H1/\t σ H1 λxs H2=>r x xs H2 Q
variable{o e:Expr}{es:List Expr}{to:TE}{t:TA}{name:Str}{apos cpos:Pos}{T id:String}{r:V->List V->Hp->VK->Prop}
def akC(pa:PlainAttrs T)(slot:Slot T name id)(z:typeOf (.builtin id)=pure (.type "method_descriptor")) (hm:MtR X id r) (ho:PE X o to)
  (q:attributeBase o name X.env (eval o X.env)=eval o X.env:=by rfl) (hline:(apos.endLine==cpos.line)=true:=by rfl):PE X (.Call (.Attribute o name apos) [] [] cpos) (alX X.K T r to):=by
 intro pins s σ H Q I h;refine wpAny_Call_method0_late q hline (thn (ho pins s σ H _ I h) λv s1 ⟨x,H1,I1,r1,ty,q1⟩=>?_);obtain⟨h1,h2⟩:=ahW I1 r1 ty;exact⟨T,id,pa,slot,z,h1,h2,Calls.callWith_builtin rfl (PySem.evalArgs_none (hm pins s1 σ H1 x [] v [] Q I1 r1 .nil q1))⟩
def amj(pa:PlainAttrs T)(slot:Slot T name id)(z:typeOf (.builtin id)=pure (.type "method_descriptor")) (hm:MtR X id r) (ho:PE X o to) (ha:PA X (e::es) t)
  (q:attributeBase o name X.env (eval o X.env)=eval o X.env:=by rfl)
  (hfew:((backTo cpos (starEach (e::es) X.env)).all (λx=>!x.1) && (backToKw cpos (keywordEach [] X.env)).all (λx=>x.1.isSome)
   && decide ((e::es).length+([]:List Keyword).length+(if([]:List Keyword).isEmpty then 0 else 1)<30))=true:=by rfl)
  (hline:(apos.endLine==cpos.line)=true:=by rfl) (hs:starEach (e::es) X.env=(false,eval e X.env)::starEach es X.env:=by rfl) (hplain:(backTo cpos (starEach es X.env)).any (·.1)=false:=by rfl):
  PE X (.Call (.Attribute o name apos) (e::es) [] cpos) (tBM X.K T r to t):=by
 intro pins s σ H Q I h;refine wpAny_Call_method_late q hfew hline rfl (thn (ho pins s σ H _ I h) λv s1 ⟨x,H1,I1,r1,ty,q1⟩=>?_);obtain⟨h1,h2⟩:=ahW I1 r1 ty;refine⟨T,id,pa,slot,z,h1,h2,?_⟩;have hA:=ha cpos pins s1 σ H1 _ I1 q1;rw[hs]at hA⊢;refine Calls.callWith_builtin (by show(false||(backTo cpos (starEach es X.env)).any (·.1))=false;rw[hplain]<;>rfl) (Calls.evalArgs_plain ?_);exact thn hA λus s2 ⟨vs,H2,I2,r2,q2⟩=>hm pins s2 σ H2 x vs v us Q I2 r1 r2 q2
end
end L2
namespace L2
open PySem PySem.Spec PyProof.Rows
noncomputable def MtM(X:Cx)(id:String)(r:V->List V->Hp->VK->Prop):Prop:=
 ∀(pins:List (Addr×Obj)) (s:Shared) (σ:St) (H:Hp) (x:V) (xs:List V) (v:Value) (us:List Value) (Q:VK),Inv X pins σ H s->RelV x v->Vals xs us->r x xs H Q->
  wpAny (model X.prog X.w) X.A (call (.builtin id) (v::us)) (EP X pins σ Q) X.xe s
def Vals.one{x:V}{us:List Value}(h:Vals [x] us):∃u,us=[u]/\RelV x u:=by
 cases h with|cons r q=>cases q;exact⟨_,rfl,r⟩
def Vals.two{x y:V}{us:List Value}(h:Vals [x,y] us):∃u v,us=[u,v]/\RelV x u/\RelV y v:=by
 cases h with|cons r q=>cases q with|cons r2 q2=>cases q2;exact⟨_,_,rfl,r,r2⟩
def Vals.zero:∀{us:List Value},Vals [] us->us=[]
 |_,.nil=>rfl
theorem Vals.dropLast{xs:List V}{us:List Value}(h:Vals xs us):Vals xs.dropLast us.dropLast:=by
 induction h with
 |nil=>exact .nil
 |cons r t ih=>
  cases t with
  |nil=>exact .nil
  |cons q t'=>exact .cons r ih
theorem Vals.rep{xs:List V}{us:List Value}(h:Vals xs us):∀k:Nat,Vals (List.replicate k xs).flatten (List.replicate k us).flatten
 |0=> .nil
 |k+1=>by
  rw[yx,yx,zzv,zzv];exact Vals.append h (Vals.rep h k)
def VG{α:Type}(l:List α):l.eraseIdx (l.length - 1)=l.dropLast:=by
 induction l with
 |nil=>rfl
 |cons a r ih=>
  cases r with
  |nil=>rfl
  |cons b r=>
   have e:(a::b::r).length - 1=((b::r).length - 1)+1:=by
    have h1:(a::b::r).length=r.length+2:=rfl;have h2:(b::r).length=r.length+1:=rfl;omega
   rw[e,List.eraseIdx_cons_succ,ih]
   all_goals rfl
theorem foldl_rep(its:List Value):∀(k:Nat)(acc:List Value),
  List.foldl (λx1 q=>x1++q) acc.toArray (List.replicate k its.toArray)=(acc++(List.replicate k its).flatten).toArray
 |0,acc=>by simp
 |k+1,acc=>by
  have e:acc.toArray++its.toArray=(acc++its).toArray:=by simp
  have z:(acc++its)++(List.replicate k its).flatten=acc++(List.replicate (k+1) its).flatten:=by
   rw[yx,zzv,zza]
  rw[<-z,<-foldl_rep its k (acc++its),<-e,yx,yh]
section
variable{X:Cx}{pins:List (Addr×Obj)}{σ:St}{H:Hp}{s:Shared}{l b:Addr}{xs ys zs:List V}
def Inv.lset{its its':List Value}{n:Nat}{f:Array Value->Array Value}{t':Nat}(I:Inv X pins σ H s)(hH:H l=some (.lst xs))
  (e:s.heap.get? l=some {cls:=.type "list",data:=.seq its.toArray n}) (hf:f its.toArray=its'.toArray) (hv:Vals ys its') (hz:ys.length<=sizeLine):
  Inv X pins σ (upd H l (.lst ys)) {s with heap:=s.heap.update l (Obj.mapSeq f),toks:=t'}:=by
 have q:=PySem.IsL.update e f;rw[hf]at q;refine I.write (x:=l) (e:=l) (by rw[hH];exact trivial) (.inl rfl) (λb' u hb z=>(yI s.heap (Obj.mapSeq f) (Ne.symm hb)).trans z) ⟨_,q⟩ ?_;exact⟨hz,its',_,hv,q⟩
def Inv.lnew{its:List Value}{t':Nat}(I:Inv X pins σ H s)(hv:Vals ys its)(z:ys.length<=sizeLine):
  Inv X pins σ (upd H s.heap.objs.size (.lst ys)) {s with heap:=s.heap.push {cls:=.type "list",data:=.seq its.toArray},toks:=t'}:=
 I.laid (λ_ _ q=>zd _ q) (zo _) ⟨z,its,0,hv,zC _ rfl⟩
theorem Inv.fresh(I:Inv X pins σ H s):H s.heap.objs.size=none:=I.hok.fresh (zo _)
def Inv.lstM(I:Inv X pins σ H s)(q:H l=some (.lst xs)):xs.length<=sizeLine/\∃(its:List Value)(n:Nat),Vals xs its/\xs.length=its.length/\s.heap.get? l=some {cls:=.type "list",data:=.seq its.toArray n}:=by
 obtain⟨z,its,n,r,e⟩:=I.hok l _ q;exact⟨z,its,n,r,r.length,e⟩
def Ve{n:Nat}(h:n<=sizeLine):Builtin.List.listTooLong n=false:=by
 unfold Builtin.List.listTooLong;exact zQ (by omega)
end
section
variable{X:Cx}
noncomputable def Jo:V->List V->Hp->VK->Prop:=λx vs H Q=>∃l xs y,x=.ref l/\vs=[y]/\H l=some (.lst xs)/\xs.length<sizeLine/\Q .non (upd H l (.lst (xs++[y])))
def lW:MtM X "list.append" Jo:=by
 intro pins s σ H x vs v us Q I rx rv h;obtain⟨l,xs,y,rfl,rfl,hH,hz,q⟩:=h;cases rx;obtain⟨u,rfl,ru⟩:=rv.one;obtain⟨z,its,n,r,hl,e⟩:=I.lstM hH;refine zzL F.slot_list_append ⟨_,e,rfl⟩ F.entry_list_append (F.args_list_append_2 _ _) (PySem.list_append l its.toArray n u (by rw[zw];omega)) ⟨e,?_⟩;refine⟨.non,_,I.lset (its':=its++[u]) hH e (by simp) (r.append (.cons ru .nil)) ?_,rfl,q⟩;rw[zB,y4];omega
noncomputable def ajT:V->List V->Hp->VK->Prop:=λx vs H Q=>∃l b xs zs,x=.ref l/\vs=[.ref b]/\H l=some (.lst xs)/\H b=some (.lst zs)/\xs.length+zs.length<=sizeLine/\Q .non (upd H l (.lst (xs++zs)))
def Oq:MtM X "list.extend" ajT:=by
 intro pins s σ H x vs v us Q I rx rv h;obtain⟨l,b,xs,zs,rfl,rfl,hH,hB,hz,q⟩:=h;cases rx;obtain⟨u,rfl,ru⟩:=rv.one;cases ru;obtain⟨z,its,n,r,hl,e⟩:=I.lstM hH;obtain⟨z2,aa,n2,r2,ac,e2⟩:=I.lstM hB;have hsz:its.toArray.size+aa.toArray.size<=sizeLine:=by rw[zw,zw];omega
 have ab:¬(!its.toArray.isEmpty && Builtin.List.listTooLong (its.toArray.size+aa.toArray.size))=true:=by
  rw[Ve hsz,Bool.and_false];exact zP
 refine zzL F.slot_list_extend ⟨_,e,rfl⟩ F.entry_list_extend (F.args_list_extend_2 _ _)
  (AutoSeq1.list_extend_list_list_0 l its.toArray n b aa.toArray n2 ab (by rw[zw];omega) (by omega)) ⟨e,e2,?_⟩
 refine⟨.non,_,I.lset (its':=its++aa) hH e (by simp) (r.append r2) ?_,rfl,q⟩;rw[zB];omega
noncomputable def amT:V->List V->Hp->VK->Prop:=λx vs H Q=>∃l xs y,x=.ref l/\vs=[]/\H l=some (.lst xs)/\xs[xs.length - 1]? =some y/\Q y (upd H l (.lst xs.dropLast))
def akt:MtM X "list.pop" amT:=by
 intro pins s σ H x vs v us Q I rx rv h;obtain⟨l,xs,y,rfl,rfl,hH,hy,q⟩:=h;cases rx;have aa:=rv.zero;subst aa;obtain⟨z,its,n,r,hl,e⟩:=I.lstM hH;obtain⟨u,hu,ru⟩:=r.get hy
 have hy':its.toArray[its.toArray.size - 1]? =some u:=by
  show its.toArray[its.length - 1]? =some u;rw[<-yK,<-hl];exact hu
 refine zzL F.slot_list_pop ⟨_,e,rfl⟩ F.entry_list_pop (F.args_list_pop_1 _) (MeetsSeq.list_pop_last l its.toArray n u hy' (by rw[zw];omega)) ⟨e,?_⟩;refine⟨y,_,I.lset (its':=its.dropLast) hH e ?_ r.dropLast ?_,ru,q⟩
 ·show its.toArray.eraseIdxIfInBounds (its.toArray.size - 1)=its.dropLast.toArray
  rw[zw,List.eraseIdxIfInBounds_toArray,VG]
 ·rw[List.length_dropLast]
  omega
noncomputable def alU:R2:=λx y H Q=>∃l b xs zs,x=.ref l/\y=.ref b/\H l=some (.lst xs)/\H b=some (.lst zs)/\xs.length+zs.length<=sizeLine/\∀p,H p=none->Q (.ref p) (upd H p (.lst (xs++zs)))
def Tj:OpR X (binaryOp .Add) alU:=by
 intro pins s σ H x y v u Q I rx ry h;obtain⟨l,b,xs,zs,rfl,rfl,hH,hB,hz,q⟩:=h;cases rx;cases ry;obtain⟨z,its,n,r,hl,e⟩:=I.lstM hH;obtain⟨z2,aa,n2,r2,ab,e2⟩:=I.lstM hB;refine PySem.P.add_list e e2 ?_ (by rw[zw,zw];omega);have ea:its.toArray++aa.toArray=(its++aa).toArray:=by simp
 rw[ea];exact⟨.ref _,_,I.lnew (t':=s.toks) (r.append r2) (by rw[zB];omega),rfl,q _ I.fresh⟩
noncomputable def alM:R2:=λx y H Q=>∃l k xs,x=.ref l/\y=.int k/\H l=some (.lst xs)/\ -(2^63)<=k/\k<2^63/\xs.length*k.toNat<=sizeLine/\
 ∀p,H p=none->Q (.ref p) (upd H p (.lst (List.replicate k.toNat xs).flatten))
def len_rep{α:Type}(xs:List α)(k:Nat):(List.replicate k xs).flatten.length=k*xs.length:=by
 induction k with
 |zero=>simp
 |succ k ih=>rw[yx,zzv,zB,ih,Nat.succ_mul,Nat.add_comm]
def alh:OpR X (binaryOp .Mult) alM:=by
 intro pins s σ H x y v u Q I rx ry h;obtain⟨l,k,xs,rfl,rfl,hH,h1,h2,hz,q⟩:=h;cases rx;obtain⟨t,rfl⟩:=ry;obtain⟨z,its,n,r,hl,e⟩:=I.lstM hH;have ad:its.toArray.size*k.toNat<=sizeLine:=by rw[zw,<-hl];exact hz
 have ac:¬its.toArray.size*k.toNat>(2^63 - 1)/8:=by
  have:(sizeLine:Nat)<=(2^63 - 1)/8:=by decide
  omega
 have ab:¬(!Builtin.List.listFitsIndex k)=true:=by
  rw[fitsIndex_both h1 h2];exact zP
 have aa:¬Builtin.List.listTooLong (its.toArray.size*k.toNat)=true:=by
  rw[Ve ad];exact zP
 have ae:List.foldl (λx1 x2=>x1++x2) #[] (List.replicate (if its.toArray.isEmpty=true then 0 else k.toNat) its.toArray)=(List.replicate k.toNat its).flatten.toArray:=by
  have f0:∀m:Nat,List.foldl (λx1 x2=>x1++x2) #[] (List.replicate m its.toArray)=(List.replicate m its).flatten.toArray:=λm=>by
   have:=foldl_rep its m [];rw[yY]at this;exact this
  rw[f0]
  cases its with
  |nil=>simp
  |cons a r'=>rw[ze (by simp)]
 refine wpAny_binaryOp_repeat_ref (T:= "list") (U:= "int") (by decide) ⟨_,e,rfl⟩ (λs'=>typeIs_int s' k t) noFill_list_mul F.fills_int_mul F.slot_int_rmul repeat_list F.slot_int_index.lookup
  (zzL F.slot_int_rmul (typeIs_int s k t) F.entry_int_rmul (F.args_int_rmul_2 _ _) (int___rmul___int_list k t l its.toArray n)
   ⟨e,rfl,⟨_,e,rfl⟩,zzL F.slot_list_mul ⟨_,e,rfl⟩ F.entry_list_mul (F.args_list_mul_2 _ _) (AutoListH.list___mul___list_int_3 l its.toArray n k t ab ac aa) ⟨e,?_⟩⟩)
 rw[ae];exact⟨.ref _,_,I.lnew (t':=s.toks) (r.rep k.toNat) (by rw[len_rep,Nat.mul_comm];exact hz),rfl,q _ I.fresh⟩
end
section
variable{prog:Program}{w:World}{A:Around}{E:Value->Shared->Prop}{s:Shared}
set_option maxRecDepth 100000 in
end
end L2
namespace Att
open PySem PySem.W PySem.Calls PyProof.Rows
def JT{P:Params}{h:Heap}:∀(ns:List Int)(vs:List Value),WellAll P h vs (ns.map WData.int)->IntsAre vs ns:=by
 intro ns
 induction ns with
 |nil=>
  intro vs w;rw[zzu]at w;cases w;exact .nil
 |cons n ns ih=>
  intro vs w;rw[zi]at w
  cases w with
  |cons a b=>
   cases a;exact .cons _ _ (ih _ b)
def Xr{l:OpenLaw}{n:Nat}(hn:l.most=some n){P:Params}{h:Heap}{args:List WData}{aa:List Value}
  (z:l.row.toRowW.claim.pre args=true) (ac:WellAll P h aa args):
  ∃a vs ns,aa=[Value.ref a]/\args=[WData.list (ns.map WData.int)]/\h.get? a=some {cls:=.type "list",data:=.seq vs.toArray}/\IntsAre vs ns/\ns.length<=n:=by
 have ad:WShape.hasAll [] args [.list .int]=true:=(pre_splitW z).1;have hc:l.pre.holds [] {args:=args}=true:=(pre_splitW z).2;obtain⟨d,r,rfl,h1,h2⟩:=hasAllW_cons ad;obtain rfl:=hasAllW_nil h2;obtain⟨xs,rfl,h3⟩:=hasW_list h1;obtain⟨ns,rfl⟩:=items_int h3
 have ab:ns.length<=n:=by
  unfold OpenLaw.pre at hc
  have h4:(WTm.not (.lt (.lit (.int (n:Int))) (.len (.arg 0)))).holds [] {args:=[.list (ns.map .int)]}=true:=by
   have h4:=(holds_andW hc).1;rw[hn]at h4;exact h4
  have h5:=condW_of h4 (w_not (w_lt w_lit (w_len_list (w_arg rfl))));rw[za]at h5;refine Nat.le_of_not_lt λq=>?_;have q':(n:Int)<((ns.length:Nat):Int):=by omega
  first
   |(rw[zM q']at h5;exact absurd h5 (by decide))
   |(simp at h5;omega)
 cases ac with
 |cons w1 w2=>
  cases w2
  cases w1 with
  |list ho hall=>exact⟨_,_,ns,rfl,rfl,ho,JT ns _ hall,ab⟩
def Xp(l:OpenLaw)(args:List WData):l.row.toRowW.claim.post args (.bool true) args=true:=
 postW_of (r:=l.row.toRowW) (X:=(true==true))
  (show WShape.has [] (.bool true) .bool=true by first|rfl|decide|simp[WShape.has,WShape.arms,WShape.armsAll])
  (show(WTm.eq .res (.lit (.bool true))).value [] {args:=args,res:=some (.bool true),after:=args}=some (.bool (true==true))from w_eq_bool (w_res rfl) w_lit) rfl
def attach_call{l:OpenLaw}{n:Nat}{q:Program}{aa:List Str}{XP:(Str->Option Value)->Heap->Prop}{YP:World->Heap->Prop}{d:DefRec}
  (hn:l.most=some n) (ak:d.params.defaults=[])
  (ad:∀(w:World)(s₀ z:Shared)(mg mb:Str->Option Value)(fa:Addr)(o:Obj)(pm cd ab:Value)(a:Addr)(vs:List Value)(ns:List Int),
   Ground q aa [] XP w s₀ mg mb z.heap->YP w z.heap->
   z.heap.get? fa=some o->o.data=.func (docDef d.name d.params d.body d.scope pm cd ab)->z.heap.CodeRec cd d.name->mg d.name=some (.ref fa)->
   z.heap.get? a=some {cls:=.type "list",data:=.seq vs.toArray}->IntsAre vs ns->ns.length<=n->z.gens= #[]->
   codeAny (model l.prog w) callerA (.call (.ref fa) ⟨[.ref a],[]⟩) (λr s'=>r=.ok (.ret (.bool true))/\OldK z.heap s'.heap/\s'.os=z.os/\AllBare s'.gens) z):
  WalkO q aa XP YP l.row.toRowW d [] (λf vs=>PySem.call f vs):=by
 intro w s₀ z mg mb G Y fa o pm cd ab dV kV ho hd ah hD aj hg args al as af am an ai ao;obtain rfl:dV=.none:=Dflts.none hD ak;obtain rfl:kV=.none:=Dflts.noKw hD;obtain⟨a,vs,ns,rfl,rfl,ae,ac,ag⟩:=Xr hn af ai;refine enter_call (codeAny_mono (ad w s₀ z mg mb fa o pm cd ab a vs ns G Y ho (fd_plain hd) ah aj ae ac ag hg) λr s' hq=>?_);obtain⟨rfl,h2,h3,h4⟩:=hq;exact⟨.inl ⟨.bool true,.bool true,[],rfl,λ_=>rfl,.bool true,Xp l _,λ_=>⟨List.Pairwise.nil,λ_ hm=>(nomatch hm)⟩⟩,h2,h3,h4⟩
end Att
namespace L2
open PySem PySem.Spec PyProof.Rows
theorem wG:∀{vs:List Value}{ns:List Int},IntsAre vs ns->Vals (ns.map V.int) vs
 |_,_,.nil=> .nil
 |_,_,.cons n t h=> .cons ⟨t,rfl⟩ (wG h)
noncomputable def Only(H:Hp):Prop:=∀b,H b=none\/∃o xs,H b=some (.frz o (.lst xs))
def aas{P:Program}{w:World}{K:Fg_}{mg mb:Str->Option Value}{CX:CXT}{k:Nat}{fa a:Addr}{fd:FuncData}{x:Str}{sp:Sp}{s₁:Shared}{vs:List Value}{ns:List Int}
  (KX:K.In s₁.heap) (af:s₁.heap.Ns mainGlobals mg) (hb:s₁.heap.Ns builtinsNs mb) (aj:∀x:Str,x≠ "__name__" ->mb x=bootBuiltins x) (ad:s₁.heap.NoLimit) (hg:s₁.gens= #[])
  (ha:s₁.heap.get? a=some {cls:=.type "list",data:=.seq vs.toArray}) (hi:IntsAre vs ns) (hl:ns.length<=sizeLine) (hr:um k callerA)
  (F:∀base:Heap,K.In base->base.Ns mainGlobals mg->jQ P w K mg base CX k fa fd [x] sp) (hbind:∀(s:Shared)(u:Value),BindsTo s fd ⟨[u],[]⟩ [(x,u)])
  (hsp:∀H:Hp,Only H->SqL K H a (ns.map V.int)->sp [.ref a] H (λv _=>v=.bl true) λ_ _ _=>False)
  (hCX:∀H e s',CX [] H s₁ (λ_ _ _=>False) e s'->False):
  codeAny (model P w) callerA (.call (.ref fa) ⟨[.ref a],[]⟩) (λr s'=>r=.ok (.ret (.bool true))/\OldK s₁.heap s'.heap/\s'.os=s₁.os/\AllBare s'.gens) s₁:=by
 have rv:=wG hi;have ah:=hi.length
 have ac:∀H:Hp,Only H->SqL K H a (ns.map V.int)->HOk P w H s₁.heap->(∀b,H b≠none->b=a)->(H a≠none->K.lookup a=none)->
   codeAny (model P w) callerA (.call (.ref fa) ⟨[.ref a],[]⟩) (λr s'=>r=.ok (.ret (.bool true))/\OldK s₁.heap s'.heap/\s'.os=s₁.os/\AllBare s'.gens) s₁:=by
  intro H hO hS hok hA hK;have aa:∀{b:Addr}{o:Obj},s₁.heap.get? b=some o->H b=none->(aau s₁.heap H).get? b=some o:=λe n=>aax e n
  have ai:∀{b:Addr}{o:Obj}{es:Array DictEntry}{ep:Nat},s₁.heap.get? b=some o->o.data=.dict es ep->H b=none:=fun{b o es ep} e d=>by
   cases q:H b with
   |none=>rfl
   |some u=>
    have e':b=a:=hA b (by rw[q];simp);subst e';rw[ha]at e;cases e;have d':Data.seq vs.toArray _=Data.dict es ep:=d;cases d'
  have ab:∀{b:Addr}{m:Str->Option Value},s₁.heap.Ns b m->(aau s₁.heap H).Ns b m:=fun{b m}⟨o,es,ep,e,d,r⟩=>⟨o,es,ep,aa e (ai e d),d,r⟩
  have ag:K.In (aau s₁.heap H):=λb o e=>aa (KX b o e) (by
   cases q:H b with
   |none=>rfl
   |some u=>
    have e':b=a:=hA b (by rw[q];simp);subst e';rw[hK (by rw[q];simp)]at e;cases e)
  have hM:Mod K mg (aau s₁.heap H):=⟨ag,ab af,⟨mb,ab hb,aj⟩,let⟨mc,h1,h2⟩:=ad;⟨mc,ab h1,h2⟩⟩;have e0:ZF P w K mg (aau s₁.heap H) callerA [] s₁ H:=⟨rfl,hM,λb o e=>aiT e,yyi (ZC _ _),trivial,λb hb=>absurd (show b∈([]:List Addr)from hb) (by simp),hok,.of_eq hg⟩;refine codeAny_mono ((F _ ag (ab af)).run callerA [] s₁ H ⟨[.ref a],[]⟩ [.ref a] [.ref a] _ _ hr e0 (hbind s₁ (.ref a)) (.cons rfl .nil) (hsp H hO hS)) λr s' h=>?_
  cases r with
  |error e=>exact(hCX H e s' h).elim
  |ok fl=>
   cases fl with
   |next=>exact False.elim h
   |brk=>exact False.elim h
   |cont=>exact False.elim h
   |ret u=>
    obtain⟨v,H',os,bare,un,ae,r',q⟩:=h;have q':v=.bl true:=q;subst q';obtain rfl:u=Value.bool true:=r';refine⟨rfl,OldK.of_keep λb o e=>?_,os,bare⟩
    cases q:H b with
    |none=>exact un.keep b o e q (by intro z;exact absurd (show b∈([]:List Addr)from z) (by simp)) (by simp)
    |some u=>
     rcases hO b with z|⟨ob,xs,z⟩
     ·rw[q]at z;cases z
     ·have z2:=un.frzs b ob _ z
      obtain⟨e1,_⟩:=hok b _ z;obtain⟨e2,_⟩:=ae b _ z2;rw[e]at e1;cases e1;exact e2
 cases hk:K.lookup a with
 |some o=>
  have e:=KX a o hk;rw[ha]at e;cases e;refine ac (λ_=>none) (λ_=> .inl rfl) (.inr ⟨_,vs.toArray,_,hk,rfl,rfl,rfl,by rw[zw,ah];exact hl,by simpa using rv⟩) (λb u z=>by have z':(none:Option HO)=some u:=z;cases z') (λb z=>absurd rfl z) λz=>absurd rfl z
 |none=>
  refine ac (λb=>if b=a then some (.frz {cls:=.type "list",data:=.seq vs.toArray} (.lst (ns.map V.int)))else none) (λb=>?_) (.inl (.inr ⟨{cls:=.type "list",data:=.seq vs.toArray},zl rfl⟩)) (λb u z=>?_) (λb z=>?_) λ_=>hk
  ·by_cases hb:b=a
   ·exact .inr ⟨_,_,zl hb⟩
   ·exact .inl (ze hb)
  ·by_cases hb:b=a
   ·have z':=(zl hb).symm.trans z
    cases z';subst hb;exact⟨ha,by rw[za];exact hl,vs,_,rv,ha⟩
   ·have z':=(ze hb).symm.trans z
    cases z'
  ·by_cases hb:b=a
   ·exact hb
   ·exact absurd (ze hb) z
end L2
namespace L2
open PySem PySem.Spec PyProof.Rows
def walk_of{l:PySem.W.OpenLaw}{n k:Nat}{q:Program}{ab:List Str}{XP:(Str->Option Value)->Heap->Prop}{YP:World->Heap->Prop}{d:DefRec}{K:Params->Fg_}{CX:World->CXT}{sp:World->Sp}{x:Str}
  (hn:l.most=some n) (af:n<=sizeLine) (ah:d.params.defaults=[]) (hr:um k callerA)
  (hY:∀(w:World)(h:Heap),YP w h->(K w.params).In h)
  (F:∀(w:World)(mg:Str->Option Value)(fa:Addr)(h:Heap),(K w.params).In h->h.Ns mainGlobals mg->mg d.name=some (.ref fa)->
   ∃fd:FuncData,(∀(s:Shared)(u:Value),BindsTo s fd ⟨[u],[]⟩ [(x,u)])/\
    ∀base:Heap,(K w.params).In base->base.Ns mainGlobals mg->jQ l.prog w (K w.params) mg base (CX w) k fa fd [x] (sp w))
  (ad:∀(w:World)(H:Hp)(a:Addr)(ns:List Int),ns.length<=n->Only H->SqL (K w.params) H a (ns.map V.int)->sp w [.ref a] H (λv _=>v=.bl true) λ_ _ _=>False)
  (ag:∀(w:World)(H:Hp)(s:Shared)(e:Value)(s':Shared),CX w [] H s (λ_ _ _=>False) e s'->False):
  PySem.W.WalkO q ab XP YP l.row.toRowW d [] (λf vs=>PySem.call f vs):=by
 refine Att.attach_call hn ah λw s₀ s₁ mg mb fa o pm cd aj a vs ns G Y ho hd ai ae ac aa z hg=>?_;have KX:=hY w _ Y;obtain⟨fd,hb,hF⟩:=F w mg fa _ KX G.T.g ae;exact aas KX G.T.g G.T.b G.T.builtins G.T.nolimit hg ac aa (zN z af) hr hF hb (λH hO hS=>ad w H a ns z hO hS) λH e s'=>ag w H s₁ e s'
end L2
namespace L2
open PySem PySem.Spec PyProof.Rows
noncomputable def inClass(s:Stmt)(j:Nat):Stmt:=match s with
 |.ClassDef _ _ _ body _ _ _ _ _ _ _=>body.getD j (.Pass ⟨0,0,0,0⟩)
 |_=> .Pass ⟨0,0,0,0⟩
noncomputable def nq(s:Stmt):Arguments:=match s with
 |.FunctionDef _ a _ _ _ _ _ _ _ _=>a
 |_=>{posonlyargs:=[],args:=[],vararg:=none,kwonlyargs:=[],kw_defaults:=[],kwarg:=none,defaults:=[]}
noncomputable def lV(s:Stmt):List Stmt:=match s with
 |.FunctionDef _ _ b _ _ _ _ _ _ _=>b
 |_=>[]
noncomputable def iQ(s:Stmt):Scope:=match s with
 |.FunctionDef _ _ _ _ _ _ sc _ _ _=>sc
 |_=>{kind:=.function,names:=[],isGenerator:=false,isCoroutine:=false}
abbrev CX0:CXT:=λ_ _ _ _ _ _=>False
abbrev E0:XK:=λ_ _ _=>False
def jB{X:Cx}:Ay CX0 X E0:=λ_ _ _ _ _ _ _ h=>h.elim
structure Fun(K:Fg_)(x qual:Str)(st:Stmt)(f:Addr)(fd:FuncData):Prop where
 ex:∃(oc:Value)(od:Option Addr)(kV doc pm:Value)(an:Option Addr)(cdv ct:Value)(osl:Array (Option Value)),
  fd=PySem.W.fnOf x qual (nq st) (lV st) (iQ st) .none kV doc pm an cdv ct/\K.lookup f=some ⟨oc,od,.func fd,osl⟩/\PySem.W.codeIn K cdv qual=true
 kp:PySem.W.keepIn K (.ref f)=true
section
variable{P:Program}{w:World}{K:Fg_}{mg:Str->Option Value}{base:Heap}
def Fun.ok{x z:Str}{st:Stmt}{f:Addr}{fd:FuncData}{N ps:List Str}{k:Nat}{sp:Sp}(F:Fun K x z st f fd)(S:iU N ps (iQ st))(len:∀vs H Q E,sp vs H Q E->vs.length=ps.length)
  (ab:∀(aa:Value)(A:Around)(outer:List Env)(s:Shared)(H:Hp)(vs:List V)(Q:VK)(E:XK),um k (A.deeper (envOfC z (iQ st) s.heap.objs.size f aa))->sp vs H Q E->
   ∃t,PSs (ZX CX0 P w K mg base N z (iQ st) f aa A outer s H E).nox (lV st) t/\t {nx:=λ_ H'=>Q .non H',rt:=Q} (start N vs) H):jQ P w K mg base CX0 (k+1) f fd ps sp:=by
 obtain⟨oc,od,kV,ae,pm,an,aa,ct,af,rfl,lk,ac⟩:=F.ex;refine akk lk ac S len λA outer s H vs Q E hr ad=>?_;obtain⟨t,h,q⟩:=ab aa A outer s H vs Q E hr ad;exact⟨t,h.nox,q⟩
def Fun.binds{x q:Str}{st:Stmt}{f:Addr}{fd:FuncData}{ps:List Str}(F:Fun K x q st f fd)
  (h:∀(kV aa pm:Value)(an:Option Addr)(z ct:Value)(us:List Value),us.length=ps.length->bindArgs (PySem.W.fnOf x q (nq st) (lV st) (iQ st) .none kV aa pm an z ct) ⟨us,[]⟩=pure (ps.zip us)):Binds K fd ps []:=by
 obtain⟨oc,od,kV,aa,pm,an,z,ct,ac,rfl,lk,ab⟩:=F.ex;exact .all (h kV aa pm an z ct)
def Xh{x q:Str}{st:Stmt}{f:Addr}{oc:Value}{od an:Option Addr}{ab:Array (Option Value)}{kV aa pm z ct:Value}(l:K.lookup f=some ⟨oc,od,.func (PySem.W.fnOf x q (nq st) (lV st) (iQ st) .none kV aa pm an z ct),ab⟩)
  (c:PySem.W.codeIn K z q=true) (k:PySem.W.keepIn K (.ref f)=true):Fun K x q st f (PySem.W.fnOf x q (nq st) (lV st) (iQ st) .none kV aa pm an z ct):=⟨⟨oc,od,kV,aa,pm,an,z,ct,ab,rfl,l,c⟩,k⟩
end
def Cm{A:Around}{k:Nat}(q:um k A):A.units+1<cLine:=yp (Nat.add_le_add_left (by decide:1<=64) _) q.units
def Qo{n:Nat}(h:n<=1000):n<sizeLine:=yp h (by decide)
section
variable{X:Cx}
def pv(i:Nat){x:Str}{pos:Pos}(q:X.N[i]? =some x:=by rfl)(hv:Vis X.env.scope x:=by walk_at "o") (hd:(x==("__debug__" :Str))=false:=by decide)
  (hcd:(x==("__classdict__" :Str))=false:=by decide):PE X (.Name x pos) (OD i):=alm q hv hd hcd
end
noncomputable def Same(H H':Hp):Prop:=∀b o,H b=some o->H' b=some o
def same_refl(H:Hp):Same H H:=λ_ _ h=>h
def Same.trans{H H1 H2:Hp}(a:Same H H1)(b:Same H1 H2):Same H H2:=λc o h=>b c o (a c o h)
def Same.free{H H':Hp}(e:Same H H'){l:Addr}(h:H' l=Option.none):H l=Option.none:=by
 cases q:H l with
 |none=>rfl
 |some o=>
  rw[e l o q]at h;cases h
def Same.seq{K:Fg_}{H H':Hp}{a:Addr}{xs:List V}(e:Same H H')(h:SqL K H a xs):SqL K H' a xs:=by
 rcases h with(h|⟨o,h⟩)|h
 ·exact .inl (.inl (e _ _ h))
 ·exact .inl (.inr ⟨o,e _ _ h⟩)
 ·exact .inr h
end L2
namespace L2
open PySem PySem.Spec PyProof.Rows
noncomputable def AllIn:List (Str×Addr)->List (Str×Addr)->Prop
 |[],_=>True
 |(x,c)::r,cells=>cells.lookup x=some c/\AllIn r cells
theorem AllIn.look{aa:List (Str×Addr)}:∀{cl:List (Str×Addr)},AllIn cl aa->∀{x:Str}{c:Addr},cl.lookup x=some c->aa.lookup x=some c
 |[],_,x,c,e=>by simp at e
 |(y,d)::r,h,x,c,e=>by
  rw[yyg]at e
  cases q:x==y with
  |true=>
   rw[q]at e;have z:d=c:=zy e;have z2:x=y:=beq_iff_eq.mp q;subst z z2;exact h.1
  |false=>
   rw[q]at e;exact AllIn.look h.2 e
noncomputable def Gy(cells:List (Str×Addr)):List (Str×NameKind)->List (Str×Addr)->List (Str×Addr)
 |[],cs=>cs
 |(n,k)::r,cs=>Gy cells r (match k with
  |.free=>match cells.lookup n with
   |some c=>(n,c)::cs
   |Option.none=>cs
  |_=>cs)
abbrev Ez(scope:Scope)(env:Env):List (Str×Addr):=Gy env.cells scope.names []
theorem Jk(z:List (Str×Addr)):∀(names:List (Str×NameKind))(cs:List (Str×Addr)),AllIn cs z->AllIn (Gy z names cs) z
 |[],_,h=>h
 |(n,k)::r,cs,h=>by
  unfold Gy;refine Jk z r _ ?_
  cases k with
  |free=>
   cases q:z.lookup n with
   |none=>exact h
   |some c=>exact⟨q,h⟩
  |_=>exact h
def uv(scope:Scope)(env:Env):AllIn (Ez scope env) env.cells:=Jk _ _ _ trivial
noncomputable def CapOk(X:Cx)(sc:Scope)(cl:List (Str×Addr)):List Str->List (Option Nat)->Prop
 |[],[]=>True
 |_::N,Option.none::r=>CapOk X sc cl N r
 |x::N,some j::r=>X.N[j]? =some x/\(X.env.kindOf x=some .cell\/X.env.kindOf x=some .free)/\(sc.names.lookup x=some .cell\/sc.names.lookup x=some .free)/\(∃c,cl.lookup x=some c)/\CapOk X sc cl N r
 |_,_=>False
noncomputable def qY(σ:St)(cap:List (Option Nat)):St:=cap.map λo=>match o with
 |Option.none=>Option.none
 |some j=>match σ[j]? with
  |some v=>v
  |Option.none=>Option.none
def CapOk.nil{X:Cx}{q:Scope}{cl:List (Str×Addr)}:CapOk X q cl [] []:=trivial
def CapOk.own{X:Cx}{q:Scope}{cl:List (Str×Addr)}{x:Str}{N:List Str}{r:List (Option Nat)}(h:CapOk X q cl N r):CapOk X q cl (x::N) (Option.none::r):=h
def CapOk.take{X:Cx}{q:Scope}{cl:List (Str×Addr)}{x:Str}{N:List Str}{j:Nat}{r:List (Option Nat)}(h1:X.N[j]? =some x)(h2:X.env.kindOf x=some .cell\/X.env.kindOf x=some .free)
  (h3:q.names.lookup x=some .cell\/q.names.lookup x=some .free) (z:(cl.lookup x).isSome=true) (h:CapOk X q cl N r):CapOk X q cl (x::N) (some j::r):=⟨h1,h2,h3,yF.mp z,h⟩
theorem CapOk.len{X:Cx}{q:Scope}{cl:List (Str×Addr)}:∀{N:List Str}{cap:List (Option Nat)},CapOk X q cl N cap->cap.length=N.length
 |[],[],_=>rfl
 |_::N,Option.none::r,h=>congrArg (·+1) (CapOk.len (N:=N) (cap:=r) h)
 |_::N,some _::r,h=>congrArg (·+1) (CapOk.len (N:=N) (cap:=r) h.2.2.2.2)
 |[],_::_,h=>h.elim
 |_::_,[],h=>h.elim
theorem CapOk.get{X:Cx}{sc:Scope}{cl:List (Str×Addr)}{σ:St}:∀{N:List Str}{cap:List (Option Nat)}{i:Nat}{x:Str}{v:V},CapOk X sc cl N cap->N[i]? =some x->(qY σ cap)[i]? =some (some v)->
  ∃j:Nat,X.N[j]? =some x/\σ[j]? =some (some v)/\(X.env.kindOf x=some .cell\/X.env.kindOf x=some .free)/\(sc.names.lookup x=some .cell\/sc.names.lookup x=some .free)/\∃c,cl.lookup x=some c
 |[],[],i,x,v,_,e,_=>by simp at e
 |y::N,Option.none::r,0,x,v,h,e1,e2=>by
  have z:(some (Option.none:Option V))=some (some v):=e2;cases z
 |y::N,Option.none::r,i+1,x,v,h,e1,e2=>CapOk.get (N:=N) (cap:=r) (i:=i) h (by simpa using e1) (by simpa [qY] using e2)
 |y::N,some j::r,0,x,v,h,e1,e2=>by
  have z:y=x:=by simpa using e1
  subst z;obtain⟨h1,h2,h3,h4,_⟩:=h;refine⟨j,h1,?_,h2,h3,h4⟩;have z2:some (match σ[j]? with|some v=>v|Option.none=>Option.none)=some (some v):=e2
  cases q:σ[j]? with
  |none=>rw[q]at z2;cases z2
  |some o=>rw[q]at z2;exact z2
 |y::N,some j::r,i+1,x,v,h,e1,e2=>CapOk.get (N:=N) (cap:=r) (i:=i) h.2.2.2.2 (by simpa using e1) (by simpa [qY] using e2)
 |[],_::_,_,_,_,h,_,_=>h.elim
 |_::_,[],_,_,_,h,_,_=>h.elim
noncomputable def cxC(X:Cx)(N':List Str)(scope:Scope)(s:Shared)(H:Hp)(fp:List Addr)(xe:Value->Shared->Prop):Cx:=
 {X with N:=N',s₀:=s,H₀:=H,env:=compEnvC scope (Ez scope X.env) s.heap.objs.size X.env,outer:=X.stack,ex:=fp,fn:=λ_=>false,pn:=[],xe:=xe}
noncomputable def PTs(X:Cx)(ifs:List Expr)(t:TT):Prop:=
 ∀(pins:List (Addr×Obj)) (s:Shared) (σ:St) (H:Hp) (Q:Bool->Hp->Prop),Inv X pins σ H s->t σ H Q->
  wpAny (model X.prog X.w) X.A (forIn ifs true λc r=>if r=true then do let ok<-isTrue c X.env (eval c X.env);pure (ForInStep.yield ok)else pure (ForInStep.yield r)) (TP X pins σ Q) X.xe s
noncomputable def NK:TT:=λ_ H Q=>Q true H
def jO{X:Cx}:PTs X [] NK:=λ_ _ _ H _ I h=>wpAny_tests_nil ⟨H,I,h⟩
def JD{X:Cx}{c:Expr}{t:TT}(h:PT X c t):PTs X [c] t:=λpins s σ H Q I q=>wpAny_tests_one (h pins s σ H Q I q)
noncomputable def ajA(cap:List (Option Nat))(wi:TI)(g:TG)(tt:TT)(te:TE):TE:=λσ H Q=>wi σ H λJ H1=>∀D,H1 D=Option.none->
 ∃W:Nat->Nat->List V->St->Hp->Prop,(∃m,W 0 m [] (qY σ cap) (upd H1 D (.lst [])))/\∀i m acc σ1 H2,W i m acc σ1 H2->H2 D=some (.lst acc)->
  (J.stop i H2/\Q (.ref D) H2)\/(J.go i H2/\∀x H3,J.yld i H2 x H3->g x σ1 H3 λσ4 H4=>tt σ4 H4 λb H5=>
   if b=true then te σ4 H5 λv H6=>∃acc',H6 D=some (.lst acc')/\acc'.length<sizeLine/\∃m',m'<m/\W (i+1) m' (acc'++[v]) σ4 (upd H6 D (.lst (acc'++[v])))
   else∃m',m'<m/\∃acc',H5 D=some (.lst acc')/\W (i+1) m' acc' σ4 H5)
section
variable{X:Cx}{elt tg iter:Expr}{ifs:List Expr}{scope:Scope}{pos:Pos}{cap:List (Option Nat)}{N':List Str}{wi:TI}{g:TG}{tt:TT}{te:TE}
structure XM(X:Cx)(iter:Expr)(scope:Scope)(N':List Str)(cap:List (Option Nat)):Prop where
 clos:closureFor scope X.env=pure (Ez scope X.env)
 cap:CapOk X (relabel scope X.env) (Ez scope X.env) N' cap
 kind:scope.kind=.function
 nocell:∀y∈scope.names,y.2≠.cell
 names:∀y∈scope.names,y.2=.local->scope.names.lookup y.1=some .local
 has:(scope.names.all λy=>y.2 !=.free||((Ez scope X.env).lookup y.1).isSome)=true
 fold:∀x,foldedSetIterable iter X.env x=pure x
theorem Yp{f:Str×NameKind->Str×NameKind}(h1:∀y,(f y).1=y.1)(h2:∀y,y.2≠NameKind.cell->((f y).2=NameKind.cell\/(f y).2=NameKind.free)->y.2=NameKind.free){cl:List (Str×Addr)}:
  ∀{names:List (Str×NameKind)}{x:Str},(∀y∈names,y.2≠NameKind.cell)->(names.all λy=>y.2 !=NameKind.free||(cl.lookup y.1).isSome)=true->((names.map f).lookup x=some NameKind.cell\/(names.map f).lookup x=some NameKind.free)->∃c,cl.lookup x=some c
 |[],x,_,_,h=>by rcases h with h|h<;>simp at h
 |y::r,x,hc,ha,h=>by
  rw[List.all_cons,yJ]at ha;rw[zi]at h;have e0:f y=(y.1,(f y).2):=by rw[<-h1 y]
  rw[e0,yyg]at h
  cases q:x==y.1 with
  |true=>
   rw[q]at h;have e:x=y.1:=beq_iff_eq.mp q
   have hf:y.2=NameKind.free:=h2 y (hc y zg) (by
    rcases h with h|h
    ·exact .inl (zy h)
    ·exact .inr (zy h))
   have h3:(cl.lookup y.1).isSome=true:=by
    have:=ha.1;rw[hf]at this
    simpa using this
   rw[e];exact yF.mp h3
  |false=>
   rw[q]at h;exact Yp h1 h2 (λz hz=>hc z (zk _ hz)) ha.2 h
def akN{env:Env}{scope:Scope}{cl:List (Str×Addr)}{x:Str}(hc:∀y∈scope.names,y.2≠NameKind.cell)(ha:(scope.names.all λy=>y.2 !=NameKind.free||(cl.lookup y.1).isSome)=true)
  (h:(relabel scope env).names.lookup x=some NameKind.cell\/(relabel scope env).names.lookup x=some NameKind.free):∃c,cl.lookup x=some c:=by
 refine Yp (f:=fun(n,k)=>if(k==NameKind.free && env.scope.kind==.function && env.kindOf n==some .cell)then(n,NameKind.cell)else(n,k)) (λy=>?_) (λy hy q=>?_) hc ha h
 ·obtain⟨n,k⟩:=y
  dsimp only;split<;>rfl
 ·obtain⟨n,k⟩:=y
  dsimp only at q⊢hy;by_cases z:(k==NameKind.free && env.scope.kind==.function && env.kindOf n==some .cell)=true
  ·simp only[yJ]at z
   exact beq_iff_eq.mp z.1.1
  ·rw[ze z]at q
   rcases q with q|q
   ·exact absurd q hy
   ·exact q
def Od{P:Program}{w:World}{A:Around}{R:Result->Shared->Prop}{s:Shared}{it acc:Value}{env:Env}(I:Nat->Shared->Prop)
  (z:∀n s,I n s->wpAny (model P w) A (pyNext it) (λr s₁=>match r with
   |none=>R (.ok .next) s₁
   | some v=>wpAny (model P w) A (letOwnedTupleGo tg it v) (λ_ q=>wpAny (model P w) A (assign tg env v) (λ_ s₂=>
     wpAny (model P w) A (forIn ifs true λc r=>if r=true then do let ok<-isTrue c env (eval c env);pure (ForInStep.yield ok)else pure (ForInStep.yield r)) (λok s₃=>
      if ok=true then wpAny (model P w) A (eval elt env) (λx s₄=>
       wpAny (model P w) A (call (.builtin "list.append") [acc,x]) (λ_ s₅=>∃m,m<n/\I m s₅) (notedBy (model P w) A env λe s'=>R (.error e) s') s₄) (notedBy (model P w) A env λe s'=>R (.error e) s') s₃
      else∃m,m<n/\I m s₃) (notedBy (model P w) A env λe s'=>R (.error e) s') s₂) (notedBy (model P w) A env λe s'=>R (.error e) s') q) (notedBy (model P w) A env λe s'=>R (.error e) s') s₁)
    (notedBy (model P w) A env λe s'=>R (.error e) s') s)
  (n:Nat) (h:I n s):
  codeAny (model P w) A (.compLoop (.ListComp elt [⟨tg,iter,ifs,0⟩] scope pos) 0 it acc env) R s:=by
 refine codeAny_loop rfl I (λn s hI=>?_) n h;show wpAny _ A ((compTurn (.ListComp elt [⟨tg,iter,ifs,0⟩] scope pos) 0 it acc env).onRaise (λx=>do noteFrame x env;theTreesLotGoes x)) _ _ s;refine wpAny_noted ?_;rw[compTurn_list];refine zc (yyb (zc (ya (z n s hI) (λr s₁ h₁=>?_) λ_ _ h'=>h')))
 cases r with
 |none=>exact zx h₁
 |some v=>
  refine zc (ya h₁ (λ_ q h₁=>?_) λ_ _ h'=>h');refine zc (ya h₁ (λ_ s₂ h₂=>zc (ya h₂ (λok s₃ h₃=>?_) λ_ _ h'=>h')) λ_ _ h'=>h')
  cases ok with
  |false=>exact zx ⟨rfl,h₃⟩
  |true=>
   exact zc (zc (ya h₃ (λx s₄ h₄=>zc (ya h₄ (λ_ s₅ h₅=>zx (zx ⟨rfl,h₅⟩)) λ_ _ h'=>h')) λ_ _ h'=>h'))
def Qp{pins:List (Addr×Obj)}{σ:St}{H2:Hp}{s2:Shared}{Q:VK}{it:Addr}{fp:List Addr}{tn:Nat->Heap->Prop}{J:It}{R:Value->Addr->Result->Shared->Prop}{E:Value->Shared->Prop}
  (hc:X.calm=true) (C:XM X iter scope N' cap)
  (hg:∀s H fp xe,PG (cxC X N' scope s H fp xe) tg g) (ht:∀s H fp xe,PTs (cxC X N' scope s H fp xe) ifs tt) (he:∀s H fp xe,PE (cxC X N' scope s H fp xe) elt te)
  (I2:Inv X pins σ H2 s2) (T:Turn X.prog X.w X.K tg J fp it tn) (ag:tn 0 s2.heap) (f2:∀b∈fp,Ss X pins H2 b)
  (hR:∀D Cl H' s',Inv X pins σ H' s'->(∃m,s'.heap.Ns Cl m)->H' Cl=Option.none->Cl≠X.env.locals->X.s₀.heap.objs.size<=Cl->(∀x c,X.env.cells.lookup x=some c->c≠Cl)->(∀p∈X.pn++pins,p.1≠Cl)->Q (.ref D) H'->R (.ref D) Cl (.ok .next) s')
  (hw:∀D,H2 D=Option.none->∃W:Nat->Nat->List V->St->Hp->Prop,(∃m,W 0 m [] (qY σ cap) (upd H2 D (.lst [])))/\∀i m acc σ1 H2,W i m acc σ1 H2->H2 D=some (.lst acc)->
   (J.stop i H2/\Q (.ref D) H2)\/(J.go i H2/\∀x H3,J.yld i H2 x H3->g x σ1 H3 λσ4 H4=>tt σ4 H4 λb H5=>
    if b=true then te σ4 H5 λv H6=>∃aa,H6 D=some (.lst aa)/\aa.length<sizeLine/\∃m',m'<m/\W (i+1) m' (aa++[v]) σ4 (upd H6 D (.lst (aa++[v])))
    else∃m',m'<m/\∃aa,H5 D=some (.lst aa)/\W (i+1) m' aa σ4 H5)):
  wpAny (model X.prog X.w) X.A (newList []) (λacc s₃=>wpAny (model X.prog X.w) X.A (newFunctionEnv scope X.env.globals (Ez scope X.env) [] X.env.qual none .none (some X.env)) (λal s₄=>
   codeAny (model X.prog X.w) X.A (.compStart (.ListComp elt [⟨tg,iter,ifs,0⟩] scope pos) 0 (.ref it) acc {al with scope:=relabel scope X.env}) (R acc al.locals) s₄) E s₃) E s2:=by
 refine yN (wpAny_newFunctionEnv C.nocell (by intro y hy;simp at hy) (λh₁ aj ak=>?_) C.kind);obtain⟨W,⟨m0,w0⟩,ah⟩:=hw s2.heap.objs.size I2.fresh;have I3:Inv X pins σ (upd H2 s2.heap.objs.size (.lst [])) {s2 with heap:=s2.heap.push {cls:=.type "list",data:=.seq ([]:List Value).toArray}}:=I2.lnew (t':=s2.toks) .nil (zK _);generalize am:({s2 with heap:=s2.heap.push {cls:=.type "list",data:=.seq ([]:List Value).toArray}}:Shared)=s3 at I3 aj ak⊢;generalize hD:s2.heap.objs.size=D at I3 w0 ah⊢;have bh:H2 D=Option.none:=by rw[<-hD];exact I2.fresh
 have au:s3.os=s2.os:=by rw[<-am]
 have aq:Un (frs X.stack) fp H2 (upd H2 D (.lst [])) s2.heap s3.heap:=by
  rw[<-am,<-hD];exact Un.laid (λb u q=>zd _ q) (zo _) I2.fresh
 have ab:∀b o,s3.heap.get? b=some o->h₁.get? b=some o:=λb o e=>(ak.2 b (zD (zv e))).trans (zd _ e);have ad:∀b o,s2.heap.get? b=some o->s3.heap.get? b=some o:=λb o e=>by rw[<-am];exact zd _ e
 have hR':∀(r:Result)(s':Shared),R (.ref D) s3.heap.objs.size r s'->R (.ref D) s3.heap.objs.size r s':=λ_ _ h=>h
 have f3:∀b∈fp,Ss X pins (upd H2 D (.lst [])) b:=λb hb=>by
  obtain⟨q0,q1⟩:=f2 b hb;refine⟨?_,q1⟩;obtain⟨o,e,_⟩:=T.obj _ _ ag b hb;rw[iZ (by rw[<-hD];exact zD (zv e))];exact q0
 let XC:Cx:=cxC X N' scope s3 (upd H2 D (.lst [])) fp (notedBy (model X.prog X.w) X.A (compEnvC scope (Ez scope X.env) s3.heap.objs.size X.env) λe s'=>R (.ref D) s3.heap.objs.size (.error e) s')
 have ok:XC.Ok:=by
  refine⟨I3.ok.mod,C.kind,I3.ok.glob,I3.ok.blt,zo _,λx y c e1 e2=>I3.ok.inj x y c ((uv scope X.env).look e1) ((uv scope X.env).look e2),λx hx=>akN C.nocell C.has hx,λx c hf=>(nomatch hf),λ_=>I3.ok.hd hc,I3.ok.frames,.inl rfl,λb hb=>?_,I3.bs,zN I3.ok.bsz I3.sz,λb o e hb=>?_,λb hb hf=>?_,I3.stack,I3.stkFree⟩
  ·obtain⟨q0,q1,q2,q3,q4,q5⟩:=f3 b hb
   refine⟨?_,λx c e=>q4 x c ((uv scope X.env).look e)⟩;obtain⟨o,e,_⟩:=T.obj _ _ ag b hb;exact zD (zv (ad _ _ e))
  ·obtain⟨q0,q1,q2,q3,q4,q5⟩:=f3 b hb
   rcases q3 with q3|q3
   ·exact I3.ok.noex b o e q3
   ·exact absurd (zH (zv e) (zN I3.ok.bsz q3)) (yt _)
  ·obtain⟨q0,q1,q2,q3,q4,q5⟩:=f3 b hb
   rcases zt.mp (I3.stkSub b hf)with z|z
   ·exact q1 z
   ·exact q2 z
 have I4:Inv XC [] (qY σ cap) (upd H2 D (.lst [])) {s3 with heap:=h₁,toks:=s3.toks+([]:List (Str×Value)).length}:=by
  refine⟨ok,rfl,I3.bare,Un.kept ab,⟨_,aj,λi x v e1 e2 e3=>?_⟩,λx c e=>?_,I3.hok.fresh (zo _),λx c e=>I3.freeC x c ((uv scope X.env).look e),λp hp=>absurd (show p∈([]:List (Addr×Obj))from hp) (by simp),I3.hok.kept ab,by rw[show(qY σ cap).length=cap.length from by simp[qY]];exact C.cap.len⟩
  ·obtain⟨j,g1,g2,g3,g4,c,g5⟩:=C.cap.get e1 e2
   obtain⟨m,_,hl⟩:=I3.loc
   obtain ⟨u,r,l⟩:=hl j x v g1 g2 (by
    rcases g3 with z|z
    ·exact .inr (.inl z)
    ·exact .inr (.inr z))
   refine⟨u,r,.inr ⟨g4,c,g5,?_⟩⟩;rcases l with⟨k,_⟩|⟨_,c',e,z⟩
   ·rcases g3 with q|q
    ·rw[k]at q;cases q
    ·rw[k]at q;cases q
   ·have e':=(uv scope X.env).look g5
    rw[e]at e';cases e';obtain⟨o,ho,hd⟩:=z;exact⟨o,ab _ _ ho,hd⟩
  ·obtain⟨v,o,ho,hd⟩:=I3.cell x c ((uv scope X.env).look e)
   exact⟨v,o,ab _ _ ho,hd⟩
 have aw:tn 0 h₁:=T.keep _ _ _ ag λb _ o e=>ab b o (ad b o e)
 have ao:∀{ac:List (Addr×Obj)}{H':Hp},(∀b∈fp,H' b=Option.none)->(∀p∈ac,p.1∉fp)->∀b∈fp,Ss XC ac H' b:=fun{ac H'} hn hp b hb=>by
  obtain⟨q1,q2⟩:=ok.exf b hb;exact⟨hn b hb,q1,ok.exfs b hb,.inl hb,q2,λp ay z=>hp p (by simpa [XC,cxC] using ay) (by rw[z];exact hb)⟩
 have bf:D∉fp:=λhb=>by
  obtain⟨o,e,_⟩:=T.obj _ _ ag D hb;rw[<-hD]at e;exact absurd (zv e) (yt _)
 have out:∀{σ':St}{H':Hp}{s':Shared},Inv XC [] σ' H' s'->Inv X pins σ H' s':=fun{σ' H' s'} J'=>
  I2.call' (ch:=fp) (J'.os.trans au) (aq.trans J'.base) J'.hok J'.bare λb hb=>by
   obtain⟨q0,q1,q2,q3,q4,q5⟩:=f2 b hb;exact⟨q3,q1,q4,q5⟩
 have ai:∀s₄:Shared,s₄={s3 with heap:=h₁,toks:=s3.toks+([]:List (Str×Value)).length}->
   codeAny (model X.prog X.w) X.A (.compLoop (.ListComp elt [⟨tg,iter,ifs,0⟩] scope pos) 0 (.ref it) (.ref D) (compEnvC scope (Ez scope X.env) s3.heap.objs.size X.env)) (R (.ref D) s3.heap.objs.size) s₄:=by
  rintro s₄ rfl
  refine Od (λn s'=>∃i acc σ' H',Inv XC [] σ' H' s'/\tn i s'.heap/\(∀b∈fp,H' b=Option.none)/\H' D=some (.lst acc)/\W i n acc σ' H') ?_ m0
   ⟨0,[],qY σ cap,upd H2 D (.lst []),I4,aw,λb hb=>(f3 b hb).1,iK,w0⟩
  rintro n s5 ⟨i,acc,σ5,H5,I5,av,as,hA,w5⟩;rcases ah i n acc σ5 H5 w5 hA with⟨stop,q⟩|⟨go,ar⟩
  ·refine thn (T.done XC rfl rfl rfl hc i [] s5 σ5 H5 _ I5 (ao as (by simp)) av stop) λr s6 ⟨hr,I6⟩=>?_
   subst hr;obtain⟨m,hn,_⟩:=I6.loc
   exact hR D s3.heap.objs.size H5 s6 (out I6) ⟨m,hn⟩ I6.free (yu I3.lt) I3.sz (λx c e z=>by
    obtain⟨v,o,ho,_⟩:=I3.cell x c e;rw[z]at ho;exact absurd (zv ho) (yt _)) (λp hp z=>by
    have e:=(I3.pin p hp).1;rw[z]at e;exact absurd (zv e) (yt _)) q
  ·refine thn (T.item XC rfl rfl rfl hc i [] s5 σ5 H5 _ I5 (ao as (by simp)) av go) λr s6 ⟨u,hr,h6⟩=>?_
   subst hr;refine thn h6 λ_ s7 ⟨x,H7,I7,r7,y7,an,az⟩=>?_;have I7':=I7.pinned (ao az (by simp)) (T.obj _ _ an)
   have af:∀{σ8:St}{H8:Hp}{s8:Shared},Inv XC ([]++Ql fp s7.heap) σ8 H8 s8->(∃aa,H8 D=some (.lst aa)/\∃m',m'<n/\W (i+1) m' aa σ8 H8)->
     ∃m,m<n/\∃i acc σ' H',Inv XC [] σ' H' s8/\tn i s8.heap/\(∀b∈fp,H' b=Option.none)/\H' D=some (.lst acc)/\W i m acc σ' H':=fun{σ8 H8 s8} I8⟨aa,ae,m',hm,w8⟩=>by
    refine⟨m',hm,i+1,aa,σ8,H8,I8.unpinned,T.keep _ _ _ an λb hb o e=>(I8.pin (b,o) (zG _ (zG _ (xQ hb e)))).1,λb hb=>?_,ae,w8⟩;obtain⟨o,e,d⟩:=T.obj _ _ an b hb;exact(I8.pin (b,o) (zG _ (zG _ (xQ hb e)))).2.1
   refine thn (hg s3 _ fp _ _ s7 σ5 H7 x u _ I7' r7 (ar x H7 y7)) λ_ s8 ⟨σ8,H8,I8,q8⟩=>?_;refine thn (ht s3 _ fp _ _ s8 σ8 H8 _ I8 q8) λb s9 ⟨H9,I9,q9⟩=>?_
   cases b with
   |false=>
    rw[ze zP]at q9⊢;obtain⟨m',hm,aa,ae,w9⟩:=q9;exact af I9 ⟨aa,ae,m',hm,w9⟩
   |true=>
    rw[zl rfl]at q9⊢;refine thn (he s3 _ fp _ _ s9 σ8 H9 _ I9 q9) λv bb ⟨y,ap,bc,ax,aa,ae,hz,m',hm,be⟩=>?_;refine thn (lW (X:=XC) _ bb σ8 ap (.ref D) [y] (.ref D) [v] (λ_ Hz=>Hz=upd ap D (.lst (aa++[y]))) bc rfl (.cons ax .nil) ⟨D,aa,y,rfl,rfl,ae,hz,rfl⟩) λ_ bg ⟨_,bi,bd,_,ba⟩=>?_;subst ba;exact af bd ⟨aa++[y],iK,m',hm,be⟩
 exact codeAny_compStart_list (ai _ rfl) (T.self _ 0 _ _ _ aw (ai _ rfl))
def jW(hc:X.calm=true)(C:XM X iter scope N' cap)(hi:PI X tg iter wi)
  (hg:∀s H fp xe,PG (cxC X N' scope s H fp xe) tg g) (ht:∀s H fp xe,PTs (cxC X N' scope s H fp xe) ifs tt) (he:∀s H fp xe,PE (cxC X N' scope s H fp xe) elt te):
  PE X (.ListComp elt [⟨tg,iter,ifs,0⟩] scope pos) (ajA cap wi g tt te):=by
 intro pins s σ H Q I h;rw[eval_ListComp];refine wpAny_comprehension_free (use:=none) rfl C.fold C.clos C.kind C.names (thn (hi pins s σ H _ I h) λv s1 h1=>thn h1 λab s2 h2=>?_);obtain⟨it,fp,tn,J,H2,e,I2,T,aa,f2,hw⟩:=h2;subst e;refine Qp (R:=λacc Cl=>compPost (model X.prog X.w) X.A X.xe none (EP X pins σ Q) acc Cl) hc C hg ht he I2 T aa f2 ?_ hw;intro D Cl H' s' I' ⟨m,hn⟩ hf h1 h2 h3 h4 q;exact⟨m,hn,λh' z=>⟨.ref D,H',I'.turned (t':=s'.toks) (λb o hb e=>(z.2 b hb).trans e) hf h1 (.inr h2) h3 h4,rfl,q⟩⟩
def nC{i:Nat}{y:Str}{py aa:Pos}(hN:X.N.Nodup)(ae:X.N[i]? =some y)(hy:X.env.scope.names.lookup y=some .local)
  (hc:X.calm=true) (C:XM X iter scope N' cap) (hi:PI X tg iter wi)
  (hg:∀s H fp xe,PG (cxC X N' scope s H fp xe) tg g) (ht:∀s H fp xe,PTs (cxC X N' scope s H fp xe) ifs tt) (he:∀s H fp xe,PE (cxC X N' scope s H fp xe) elt te)
  (ag:swapsWith (.ListComp elt [⟨tg,iter,ifs,0⟩] scope pos) (some (.Name y py)) aa.line X.env=pure true:=by rfl):
  PS X (.Assign [.Name y py] (.ListComp elt [⟨tg,iter,ifs,0⟩] scope pos) aa) (alI (ajA cap wi g tt te) (Sw i)):=by
 intro pins s σ H D I h;rw[exec_Assign_Name_used _ _ _ _ ag];refine zc (yyb (zc ?_));show wpAny _ X.A (do let _<-comprehension (.ListComp elt [⟨tg,iter,ifs,0⟩] scope pos) scope X.env _ (newList []) false (eval iter X.env) (some (assign (.Name y py) X.env))) _ _ s
 refine zc (ya (wpAny_comprehension_free (use:=some (assign (.Name y py) X.env)) (Q:=λ_ s'=>SP X pins D .next s') rfl C.fold C.clos C.kind C.names (thn (hi pins s σ H _ I h) λv s1 h1=>thn h1 λai s2 h2=>?_))
  (λ_ s' hq=>zx (zx hq)) λ_ _ e=>e)
 obtain⟨it,fp,tn,J,H2,e,I2,T,ad,f2,hw⟩:=h2;subst e;refine Qp (Q:=λx H1=>Sw i x σ H1 D.nx) (R:=λacc Cl=>compPost (model X.prog X.w) X.A X.xe (some (assign (.Name y py) X.env)) (λ_ s'=>SP X pins D .next s') acc Cl) hc C hg ht he I2 T ad f2 ?_ hw;intro Da Cl H' s' I' ⟨m,hn⟩ hf h1 h2 h3 h4 q;show wpAny _ _ (assign (.Name y py) X.env (.ref Da)) _ _ s';refine wpAny_assign_Name (Ou I' hN ae (.inl hy) (v:=.ref Da) rfl (λaf I'' ⟨a,ah,ha⟩=>?_) (.inr hy))
 have ab:Cl≠a:=by
  rcases ha with z|z
  ·rw[z];exact h1
  ·exact Ne.symm (h3 y a z)
 exact⟨m,hn.sameBut ah ab,λh' ac=>⟨_,H',I''.turned (t':=af.toks) (λb o hb e=>(ac.2 b hb).trans e) hf h1 (.inr h2) h3 h4,q⟩⟩
end
end L2
namespace L2
open PySem PySem.Spec PyProof.Rows
section
variable{X:Cx}{a b c:Expr}{ta tb tc:TE}{pos:Pos}
noncomputable def aiJ(i j:Int):Prop:=i.natAbs<2^2000/\j.natAbs<2^2000
def aiJ.ok{i j:Int}(h:aiJ i j):IntMulOk i j:=
 IntMulOk.of_bits (zN (intBits_le h.1) (by decide)) (zN (intBits_le h.2) (by decide))
noncomputable def FW(_ j:Int):Prop:=0<j/\j.natAbs<2^2000
def mK:OpR X (binaryOp .FloorDiv) (rI FW λi j=> .int (i/j)):=opI λi j _ _ _ _ _ z q=>by
 have h1:(0:Int)<j:=z.1;have h0:j.natAbs≠0:=by omega
 have h2:j.natAbs.log2<2000:=(Nat.log2_lt h0).mpr z.2;exact floordiv_int (by omega) (by rw[Int.fdiv_eq_ediv_of_nonneg i (by omega)];exact q) (.inl (PyProof.noPylong_of_log2 (by omega)))
def Zn(hc:X.calm=true):nD X (.builtin "sum") (λxs H Q=>∃(a:Addr)(ns:List Int),xs=[.ref a]/\SqL X.K H a (ns.map V.int)/\Q (.int ns.sum) H):=by
 intro pins s σ H xs us Q I r h;obtain⟨a,ns,rfl,hq,q⟩:=h;obtain⟨u,rfl,r1⟩:=vals1 r;cases r1;obtain⟨its,rv,pl,hz⟩:=I.list hq;have hi:IntsAre its ns:=intsAre_of rv;obtain⟨xs,e⟩:=hi.allInts.items;have z:=pl.isList;rw[e]at z;refine sum_intListG (I.ok.hd hc) z λh' tk t' hk=>?_;have e1:its=(intItems xs).toList:=by rw[<-e]
 have e2:xs.toList.map (·.1)=ns:=by rw[<-nums_intItems,<-e1,hi.numsOf]
 have es:preSum (numAt xs) xs.size=ns.sum:=by rw[preSum_eq,z3 (by simp),e2]
 rw[es];exact⟨.int ns.sum,H,I.kept hk,⟨_,rfl⟩,q⟩
def Ls{pins:List (Addr×Obj)}{σ:St}{H:Hp}{s:Shared}{l:Addr}{bs:List Bool}(I:Inv X pins σ H s)(hq:SqL X.K H l (bs.map V.bl)):
  ∃its:List Value,its.length=bs.length/\s.heap.IsList l its.toArray/\l≠s.heap.objs.size/\∀(i:Nat)(v:Value),its.toArray[i]? =some v->v=.bool (bs.getD i false):=by
 obtain⟨its,q,pl,hz⟩:=I.list hq;refine⟨its,by rw[<-q.length,za],pl.isList,?_,λi v e=>?_⟩
 ·obtain⟨o,n,e,_⟩:=pl
  exact zD (zv e)
 ·have e':its[i]? =some v:=by simpa using e
  have hi:i<its.length:=(zp.mp e').1;have hb:i<bs.length:=by have:=q.length;rw[za]at this;omega
  obtain⟨u,z,ru⟩:=q.get (i:=i) (x:=.bl bs[i]) (by simp[hb]);rw[e']at z;cases z;have:v=Value.bool bs[i]:=ru;rw[this];simp[List.getD,hb]
def range_any(bs:List Bool):(List.range bs.length).any (λi=>bs.getD i false)=bs.any id:=by
 rw[yX];simp only[yE,yH,id];constructor
 ·rintro⟨i,hi,e⟩
  refine⟨bs[i],yT hi,?_⟩
  simpa [List.getD,hi] using e
 ·rintro⟨x,q,e⟩
  obtain⟨i,hi,rfl⟩:=List.mem_iff_getElem.mp q;exact⟨i,hi,by simpa [List.getD,hi] using e⟩
def range_all(bs:List Bool):(List.range bs.length).all (λi=>bs.getD i false)=bs.all id:=by
 rw[yX];simp only[List.all_eq_true,yH,id];constructor
 ·intro h x q
  obtain⟨i,hi,rfl⟩:=List.mem_iff_getElem.mp q
  simpa [List.getD,hi] using h i hi
 ·intro h i hi
  have:=h bs[i] (yT hi)
  simpa [List.getD,hi] using this
def Yy(hc:X.calm=true):nD X (.builtin "any") (λxs H Q=>∃(a:Addr)(bs:List Bool),xs=[.ref a]/\SqL X.K H a (bs.map V.bl)/\Q (.bl (bs.any id)) H):=by
 intro pins s σ H xs us Q I r h;obtain⟨a,bs,rfl,hq,q⟩:=h;obtain⟨u,rfl,r1⟩:=vals1 r;cases r1;obtain⟨its,aa,hl,ab,ac⟩:=Ls I hq;refine call_any_walk (yM hl ?_);refine⟨s.heap.objs.size,_,_,_,_,_,λi=>bs.getD i false,rfl,Walks.list (A:=X.A.in1) (I.ok.hd hc) s.heap.objs.size a ab its.toArray,⟨⟨_,zC _ rfl,rfl,rfl⟩,hl.at λo e=>zd _ e⟩,λi v s' Q' E' e hQ=>?_,λh' tk hk=>?_⟩
 ·rw[ac i v e]
  exact yw hQ
 ·have e:(List.range its.toArray.size).any (λi=>bs.getD i false)=bs.any id:=by rw[zw,aa];exact range_any bs
  rw[e];refine⟨.bl (bs.any id),H,I.kept λb o e=>hk b o ?_ (zd _ e),rfl,q⟩;intro z;have z':b=s.heap.objs.size:=by simpa using z
  rw[z']at e;exact absurd (zv e) (yt _)
def YM(hc:X.calm=true):nD X (.builtin "all") (λxs H Q=>∃(a:Addr)(bs:List Bool),xs=[.ref a]/\SqL X.K H a (bs.map V.bl)/\Q (.bl (bs.all id)) H):=by
 intro pins s σ H xs us Q I r h;obtain⟨a,bs,rfl,hq,q⟩:=h;obtain⟨u,rfl,r1⟩:=vals1 r;cases r1;obtain⟨its,aa,hl,ab,ac⟩:=Ls I hq;refine call_all_walk (yM hl ?_);refine⟨s.heap.objs.size,_,_,_,_,_,λi=>bs.getD i false,rfl,Walks.list (A:=X.A.in1) (I.ok.hd hc) s.heap.objs.size a ab its.toArray,⟨⟨_,zC _ rfl,rfl,rfl⟩,hl.at λo e=>zd _ e⟩,λi v s' Q' E' e hQ=>?_,λh' tk hk=>?_⟩
 ·rw[ac i v e]
  exact yw hQ
 ·have e:(List.range its.toArray.size).all (λi=>bs.getD i false)=bs.all id:=by rw[zw,aa];exact range_all bs
  rw[e];refine⟨.bl (bs.all id),H,I.kept λb o e=>hk b o ?_ (zd _ e),rfl,q⟩;intro z;have z':b=s.heap.objs.size:=by simpa using z
  rw[z']at e;exact absurd (zv e) (yt _)
end
section
variable{prog:Program}{w:World}{A:Around}{E:Value->Shared->Prop}
theorem QL{it t:Addr}{items:Array Value}(z:t≠it):∀(n i:Nat)(s:Shared)(Q:List Value->Shared->Prop),s.heap.IsListIter it t i->s.heap.IsList t items->i+n<=items.size->
  (∀h',h'.IsListIter it t (i+n)->Heap.SameBut it s.heap h'->Q ((items.toList.drop i).take n) {s with heap:=h'})->wpAny (model prog w) A (draw (.ref it) n) Q E s
 |0,i,s,Q,hit,_,_,hQ=>by
  show wpAny _ _ (pure []) Q E s;exact zx (by simpa using hQ s.heap hit (Heap.SameBut.refl ..))
 |n+1,i,s,Q,hit,ht,hle,hQ=>by
  have q:i<items.size:=by omega
  show wpAny _ _ (pyNext (.ref it)>>=_) Q E s;refine zc (zzz hit ht (x:=items[i]) (by simp[q]) λh₁ aa ab=>?_);refine zc (z8 (QL z n (i+1) _ _ aa (ht.extBut ab.extBut z) (by omega) λh₂ ac ad=>zx ?_));have hd:items.toList.drop i=items[i]::items.toList.drop (i+1):=by simp[zzh,q]
  have:=hQ h₂ (by rw[show i+(n+1)=i+1+n by omega];exact ac) (ab.trans ad);rw[hd,List.take_succ_cons]at this;exact this
def Gg{s:Shared}{t:Addr}{items:Array Value}{Q:List Value->Shared->Prop}(hh:A.handled=none)(ht:s.heap.IsList t items)
  (hQ:∀h',Heap.ExtBut s.heap.objs.size s.heap h'->Q items.toList {s with heap:=h'}):wpAny (model prog w) A (unpackItems (.ref t) items.size none) Q E s:=by
 have q:t≠s.heap.objs.size:=by obtain⟨o,ho,_⟩:=ht;exact zD (zv ho)
 unfold unpackItems;refine zc ?_
 ·unfold notIterableAtAll
  refine zc (zzT ht.typeIs slot_list_iter.lookup ?_);refine zx ?_;simp only[yC,if_false];refine zc (z8 (yM ht ?_));have aa:(s.heap.push {cls:=.type "list_iterator",data:=.fields #[.ref t,.int 0 0]}).IsList t items:=ht.at λo e=>zd _ e;refine zc (z8 (QL q items.size 0 _ _ ⟨_,zC _ rfl,rfl,rfl⟩ aa (by omega) λh₁ ab ac=>?_))
  have z:List.take items.size (List.drop 0 items.toList)=items.toList:=by
   rw[List.drop_zero];exact z3 (by simp)
  rw[z];rw[ze (by simp)];have ad:h₁.IsList t items:=aa.extBut ac.extBut q;refine zc (z8 (zzF hh ab ad (by simp) λh₂ ae=>?_));simp only[Option.isSome_none,yC,if_false];refine zx (hQ h₂ λb o hb e=>ae b o hb (ac.extBut b o hb (zd _ e)))
def Er{env:Env}{elts:List Expr}{x1}{pos:Pos}{s:Shared}{t:Addr}{items:Array Value}{Q:Unit->Shared->Prop}(z:A.handled=none)(ht:s.heap.IsList t items)
  (hn:(assignEach elts env).length=items.size) (q:(assignEach elts env).findIdx? (·.1)=none)
  (h:∀h',Heap.ExtBut s.heap.objs.size s.heap h'->wpAny (model prog w) A (assignInOrder ((assignEach elts env).map (·.2)) items.toList) Q E {s with heap:=h'}):
  wpAny (model prog w) A (assign (.Tuple elts x1 pos) env (.ref t)) Q E s:=by
 rw[assign_Tuple];refine zc (yyb ?_);unfold unpack;rw[hn,q];exact zc (z8 (Gg z ht h))
end
section
variable{X:Cx}{pos:Pos}
noncomputable def amm(K:Fg_)(n:Nat)(t:TGs):TG:=λv σ H Q=>∃a xs,v=.ref a/\SqL K H a xs/\xs.length=n/\t xs σ H Q
def alf{es:List Expr}{k:Nat}{t:TGs}{n:Nat}(hc:X.calm=true)(h:PGs X es t)
  (hn:(assignEach es X.env).length=n:=by rfl) (hst:(assignEach es X.env).findIdx? (·.1)=none:=by rfl):PG X (.Tuple es k pos) (amm X.K n t):=by
 intro pins s σ H v u Q I r q;obtain⟨a,xs,e1,hq,hl,q⟩:=q;subst e1;cases r;obtain⟨its,z,ht,hz⟩:=I.list hq;refine Er (I.ok.hd hc) ht.isList (by simp[hn,<-hl,z.length]) hst λh' hx=>?_;have I1:Inv X pins σ H {s with heap:=h'}:=I.kept (t':=s.toks) λb o e=>hx b o (zD (zv e)) e;exact h pins _ σ H xs _ Q I1 (by simpa using z) q
end
end L2
namespace L2
open PySem PySem.Spec PyProof.Rows
section
variable{X:Cx}{a b c:Expr}{ta tb tc:TE}{pos:Pos}
noncomputable def Bu(i j:Int):Prop:=alV i j\/aiJ i j
def mQ:OpR X (binaryOp .Mult) (rI Bu λi j=> .int (i*j)):=opI λ_ _ _ _ _ _ _ z q=>mul_int q (z.elim (λh=>h.ok) λh=>h.ok)
def Rh{i j:Int}(h1: -(2^64)<i)(h2:i<2^64):Bu i j:=.inl (.inl ⟨h1,h2⟩)
def Ja{i j:Int}(h1: -(2^64)<j)(h2:j<2^64):Bu i j:=.inl (.inr ⟨h1,h2⟩)
def Bu.big{i j:Int}(h1:i.natAbs<2^2000)(h2:j.natAbs<2^2000):Bu i j:=.inr ⟨h1,h2⟩
def QD:nD X (.builtin "isinstance") (λxs H Q=>∃x n t k,xs=[x,.ty n]/\Kf X.K H x t/\PySem.W.kitOne X.K t (.type n)=some k/\Q (.bl k) H):=by
 intro pins s σ H xs us Q I r h;obtain⟨x,n,t,k,rfl,ty,e,q⟩:=h;obtain⟨u,w',rfl,rx,z⟩:=vals2 r;cases z;exact Ov I rx ty e λtk=>⟨.bl k,H,I.tok _,rfl,q⟩
def Qk:nD X (.builtin "isinstance") (λxs H Q=>∃x C t k,xs=[x,.ref C]/\Kf X.K H x t/\PySem.W.kitOne X.K t (.ref C)=some k/\Q (.bl k) H):=by
 intro pins s σ H xs us Q I r h;obtain⟨x,C,t,k,rfl,ty,e,q⟩:=h;obtain⟨u,w',rfl,rx,z⟩:=vals2 r;cases z;exact Ov I rx ty e λtk=>⟨.bl k,H,I.tok _,rfl,q⟩
def aan{x:Str}(T:String)(z:Gl X x)(hm:X.mg x=none)(q:bootBuiltins x=some (.type T))(hn:x≠ "__name__" :=by decide) (hd:(x==("__debug__" :Str))=false:=by decide):PE X (.Name x pos) (tC (.ty T)):=aiI z hm q rfl hn hd
end
section
variable{D:Ends}{σ:St}{H:Hp}{t u:TS}{te ta tb tc:TE}{tt tu:TT}{Q:VK}{QB:Bool->Hp->Prop}{QA:List V->Hp->Prop}{QG:St->Hp->Prop}{v x y:V}{vs:List V}{i j:Nat}{g:TG}{gs:TGs}{A:TA}{K:Fg_}
def ap_seq:ZG t u D σ H=t {D with nx:=u D} σ H:=rfl
def ap_next:YD D σ H=D.nx σ H:=rfl
def ap_asg:alI te g D σ H=te σ H λx H1=>g x σ H1 D.nx:=rfl
def ap_name:Sw i v σ H QG=QG (σ.set i (some v)) H:=rfl
def ap_var:OD i σ H Q=∃v,σ[i]? =some (some v)/\Q v H:=rfl
def ap_c:tC v σ H Q=Q v H:=rfl
def ap_op{r:R2}:tOp r ta tb σ H Q=ta σ H λx H1=>tb σ H1 λy H2=>r x y H2 Q:=rfl
def ap_un{r:V->Hp->VK->Prop}:tUn r ta σ H Q=ta σ H λx H1=>r x H1 Q:=rfl
def ap_rI{C:Int->Int->Prop}{f:Int->Int->V}:rI C f x y H Q=∃i j,x=.int i/\y=.int j/\C i j/\Q (f i j) H:=rfl
def ap_rI0{f:Int->Int->V}:rI0 f x y H Q=∃i j,x=.int i/\y=.int j/\Q (f i j) H:=rfl
def ap_rU{f:Int->V}:rU f x H Q=∃i,x=.int i/\Q (f i) H:=rfl
def ap_rEq:rEq x y H Q=(ajd x y=true/\Q (.bl (decide (x=y))) H):=rfl
def ap_rNe:rNe x y H Q=(ajd x y=true/\Q (.bl (!decide (x=y))) H):=rfl
def ap_ret:amh te D σ H=te σ H D.rt:=rfl
def ap_retN:alB D σ H=D.rt .non H:=rfl
def ap_drop:ajV te D σ H=te σ H λ_ H1=>D.nx σ H1:=rfl
def ap_if:Zg tt t u D σ H=tt σ H λb H1=>if b=true then t D σ H1 else u D σ H1:=rfl
def ap_test:RV te σ H QB=te σ H λx H'=>∃k,x=.bl k/\QB k H':=rfl
def ap_tB:tB te σ H QB=te σ H λx H1=>∃c,x=.bl c/\QB c H1:=rfl
def ap_and:amD tt tu σ H QB=tt σ H λc H1=>if c=true then tu σ H1 QB else QB false H1:=rfl
def ap_or:tOr tt tu σ H QB=tt σ H λc H1=>if c=true then QB true H1 else tu σ H1 QB:=rfl
def ap_not:amw tt σ H QB=tt σ H λc H1=>QB (!c) H1:=rfl
def ap_andV:alo ta tb σ H Q=ta σ H λx H1=>∃c,x=.bl c/\if c=true then tb σ H1 Q else Q (.bl false) H1:=rfl
def ap_notV:akv ta σ H Q=ta σ H λx H1=>∃c,x=.bl c/\Q (.bl (!c)) H1:=rfl
def ap_ifE:tIf tt ta tb σ H Q=tt σ H λc H1=>if c=true then ta σ H1 Q else tb σ H1 Q:=rfl
def ap_call{sp:Sp}{dvs:List V}{E:XK}:ahv sp dvs E A σ H Q=A σ H λvs H1=>sp (vs++dvs) H1 Q E:=rfl
def ap_nil:Uu σ H QA=QA [] H:=rfl
def ap_cons:pB ta A σ H QA=ta σ H λx H1=>A σ H1 λxs H2=>QA (x::xs) H2:=rfl
def ap_cb{r:List V->Hp->VK->Prop}:tCB r A σ H Q=A σ H λvs H1=>r vs H1 Q:=rfl
def ap_lst:akA A σ H Q=A σ H λxs H1=>xs.length<=sizeLine/\∀p,H1 p=none->Q (.ref p) (upd H1 p (.lst xs)):=rfl
def ap_tup:amM A σ H Q=A σ H λxs H1=>xs.length<=sizeLine/\∀p,H1 p=none->Q (.ref p) (upd H1 p (.tup xs)):=rfl
def ap_chain{r q:R2}:ahZ r q ta tb tc σ H Q=ta σ H λx H1=>tb σ H1 λy H2=>r x y H2 λz H3=>∃k,z=.bl k/\(if k=true then tc σ H3 λw' H4=>q y w' H4 Q else Q (.bl false) H3):=rfl
def ap_sl{r:V->Option Int->Option Int->Hp->VK->Prop}{tl th:TO}:tSl r te tl th σ H Q=te σ H λx H1=>tl σ H1 λl H2=>th σ H2 λu q=>r x l u q Q:=rfl
def ap_noPart{QO:Option Int->Hp->Prop}:Zv σ H QO=QO none H:=rfl
def ap_part{QO:Option Int->Hp->Prop}:alx te σ H QO=te σ H λx H1=>∃i,x=.int i/\QO (some i) H1:=rfl
def ap_gNil:amA vs σ H QG=(vs=[]/\QG σ H):=rfl
def ap_gCons{u:TGs}:akR g u vs σ H QG=∃v r,vs=v::r/\g v σ H λq H'=>u r q H' QG:=rfl
def ap_gLst{n:Nat}:amm K n gs v σ H QG=∃a xs,v=.ref a/\SqL K H a xs/\xs.length=n/\gs xs σ H QG:=rfl
def ap_gTup{n:Nat}:amb K n gs v σ H QG=∃a xs,v=.ref a/\SqT K H a xs/\xs.length=n/\gs xs σ H QG:=rfl
def ap_bm{T:String}{r:V->List V->Hp->VK->Prop}:tBM K T r te A σ H Q=te σ H λx H1=>tyV K T x H1/\A σ H1 λxs H2=>r x xs H2 Q:=rfl
def ap_bm0{T:String}{r:V->List V->Hp->VK->Prop}:alX K T r te σ H Q=te σ H λx H1=>tyV K T x H1/\r x [] H1 Q:=rfl
def ap_ixL{x y:V}:akd K x y H Q=∃p xs i v,x=.ref p/\y=.int i/\SqL K H p xs/\atI xs i=some v/\Q v H:=rfl
def ap_slL{lo hi:Option Int}:amq K x lo hi H Q=∃a xs,x=.ref a/\SqL K H a xs/\∀p,H p=none->Q (.ref p) (upd H p (.lst (NZ xs lo hi))):=rfl
def scal_int(i j:Int):ajd (.int i) (.int j)=true:=rfl
def scal_str(i j:Str):ajd (.str i) (.str j)=true:=rfl
def scal_bl(i j:Bool):ajd (.bl i) (.bl j)=true:=rfl
def start_eq(N:List Str)(vs:List V):start N vs=vs.map some++List.replicate (N.length - vs.length) none:=rfl
end
end L2
namespace L2
open PySem PySem.Spec PyProof.Rows
def JX{α:Type}(l:List α):l.filter (λ_=>true)=l:=by simp
theorem Same.upd{H H':Hp}{a:Addr}{o:HO}(h:Same H H')(hn:H a=Option.none):Same H (upd H' a o):=λb u e=>by
 rw[iZ (jT e hn)];exact h b u e
def iR{H:Hp}{a:Addr}{o:HO}(hn:H a=Option.none):Same H (L2.upd H a o):=Same.upd (same_refl H) hn
section
variable{K:Fg_}{a D:Addr}{xs:List V}{g:TG}{tt:TT}{te:TE}{σ0:St}{H1:Hp}{Q:VK}
def Cu{xs:List V}(J:It)(Sσ:St->Prop)(p:V->Bool)(F:V->V)(hD:H1 D=Option.none)(h0:Sσ σ0)(hz:xs.length<=sizeLine)
  (ae:∀(i:Nat) x H,xs[i]? =some x->Same H1 H->J.go i H/\∀y H',J.yld i H y H'->y=x/\H'=H) (ad:∀H,Same H1 H->J.stop xs.length H)
  (hs:∀x∈xs,∀(σ:St)(H:Hp)(R1:St->VK)(R2:St->Hp->Prop),Sσ σ->Same H1 H->(p x=true->∀z H6,Sσ z->Same H H6->R1 z (F x) H6)->(p x=false->∀z H6,Sσ z->Same H H6->R2 z H6)->
   g x σ H λz H4=>tt z H4 λb H5=>if b=true then te z H5 (R1 z)else R2 z H5)
  (k:∀H',Same H1 H'->H' D=some (.lst ((xs.filter p).map F))->Q (.ref D) H'):
  ∃W:Nat->Nat->List V->St->Hp->Prop,(∃m,W 0 m [] σ0 (upd H1 D (.lst [])))/\∀i m acc σ1 H2,W i m acc σ1 H2->H2 D=some (.lst acc)->
   (J.stop i H2/\Q (.ref D) H2)\/(J.go i H2/\∀x H3,J.yld i H2 x H3->g x σ1 H3 λz H4=>tt z H4 λb H5=>
    if b=true then te z H5 λv H6=>∃q,H6 D=some (.lst q)/\q.length<sizeLine/\∃m',m'<m/\W (i+1) m' (q++[v]) z (upd H6 D (.lst (q++[v])))
    else∃m',m'<m/\∃q,H5 D=some (.lst q)/\W (i+1) m' q z H5):=by
 refine⟨λi m acc σ H=>m=xs.length - i/\i<=xs.length/\Sσ σ/\Same H1 H/\acc=((xs.take i).filter p).map F,⟨xs.length,rfl,zK _,h0,iR hD,by simp⟩,?_⟩;rintro i m acc σ H ⟨rfl,hi,hσ,sm,rfl⟩ hA;by_cases ab:i<xs.length
 ·have hx:xs[i]? =some xs[i]:=by simp[ab]
  obtain⟨go,yl⟩:=ae i xs[i] H hx sm;refine .inr ⟨go,λy H' hy=>?_⟩;obtain⟨rfl,rfl⟩:=yl y H' hy;have aa:xs.take (i+1)=xs.take i++[xs[i]]:=by rw[zI,hx];rfl
  have af:(((xs.take i).filter p).map F).length<=i:=by
   rw[za];exact zN (yn _ _) (by rw[zO];exact Nat.min_le_left _ _)
  refine hs xs[i] (yT ab) σ H' _ _ hσ sm (λhp z H6 ac s6=>?_) (λhp z H6 ac s6=>?_)
  ·refine⟨_,s6 _ _ hA,by omega,xs.length - (i+1),by omega,rfl,ab,ac,(sm.trans s6).upd hD,?_⟩
   rw[aa,yq,zj];simp[hp]
  ·refine⟨xs.length - (i+1),by omega,_,s6 _ _ hA,rfl,ab,ac,sm.trans s6,?_⟩
   rw[aa,yq,zj];simp[hp]
 ·have e:i=xs.length:=by omega
  subst e;refine .inl ⟨ad H sm,k H sm ?_⟩;rw[hA,zT]
def Zh(Sσ:St->Prop)(p:V->Bool)(F:V->V)(hS:SqL K H1 a xs)(hD:H1 D=Option.none)(h0:Sσ σ0)(hz:xs.length<=sizeLine)
  (hs:∀x∈xs,∀(σ:St)(H:Hp)(R1:St->VK)(R2:St->Hp->Prop),Sσ σ->Same H1 H->(p x=true->∀z H6,Sσ z->Same H H6->R1 z (F x) H6)->(p x=false->∀z H6,Sσ z->Same H H6->R2 z H6)->
   g x σ H λz H4=>tt z H4 λb H5=>if b=true then te z H5 (R1 z)else R2 z H5)
  (k:∀H',Same H1 H'->H' D=some (.lst ((xs.filter p).map F))->Q (.ref D) H'):
  ∃W:Nat->Nat->List V->St->Hp->Prop,(∃m,W 0 m [] σ0 (upd H1 D (.lst [])))/\∀i m acc σ1 H2,W i m acc σ1 H2->H2 D=some (.lst acc)->
   ((Itl K a).stop i H2/\Q (.ref D) H2)\/((Itl K a).go i H2/\∀x H3,(Itl K a).yld i H2 x H3->g x σ1 H3 λz H4=>tt z H4 λb H5=>
    if b=true then te z H5 λv H6=>∃q,H6 D=some (.lst q)/\q.length<sizeLine/\∃m',m'<m/\W (i+1) m' (q++[v]) z (upd H6 D (.lst (q++[v])))
    else∃m',m'<m/\∃q,H5 D=some (.lst q)/\W (i+1) m' q z H5):=
 Cu (Itl K a) Sσ p F hD h0 hz (λi x H hx sm=>⟨⟨xs,x,sm.seq hS,hx⟩,λy H' hy=>⟨zy ((hy.2 xs (sm.seq hS)).symm.trans hx),hy.1⟩⟩) (λH sm=>⟨xs,sm.seq hS,zo _⟩) hs k
def Vq{lo:Int}{n:Nat}(Sσ:St->Prop)(p:V->Bool)(F:V->V)(hD:H1 D=Option.none)(h0:Sσ σ0)(hz:n<=sizeLine)
  (hs:∀i:Nat,i<n->∀(σ:St)(H:Hp)(R1:St->VK)(R2:St->Hp->Prop),Sσ σ->Same H1 H->(p (.int (lo+i))=true->∀z H6,Sσ z->Same H H6->R1 z (F (.int (lo+i))) H6)->(p (.int (lo+i))=false->∀z H6,Sσ z->Same H H6->R2 z H6)->
   g (.int (lo+i)) σ H λz H4=>tt z H4 λb H5=>if b=true then te z H5 (R1 z)else R2 z H5)
  (k:∀H',Same H1 H'->H' D=some (.lst ((((List.range n).map fun(i:Nat)=>V.int (lo+i)).filter p).map F))->Q (.ref D) H'):
  ∃W:Nat->Nat->List V->St->Hp->Prop,(∃m,W 0 m [] σ0 (upd H1 D (.lst [])))/\∀i m acc σ1 H2,W i m acc σ1 H2->H2 D=some (.lst acc)->
   ((Itr lo n).stop i H2/\Q (.ref D) H2)\/((Itr lo n).go i H2/\∀x H3,(Itr lo n).yld i H2 x H3->g x σ1 H3 λz H4=>tt z H4 λb H5=>
    if b=true then te z H5 λv H6=>∃q,H6 D=some (.lst q)/\q.length<sizeLine/\∃m',m'<m/\W (i+1) m' (q++[v]) z (upd H6 D (.lst (q++[v])))
    else∃m',m'<m/\∃q,H5 D=some (.lst q)/\W (i+1) m' q z H5):=by
 refine Cu (xs:=(List.range n).map fun(i:Nat)=>V.int (lo+i)) (Itr lo n) Sσ p F hD h0 (by simpa using hz) (λi x H hx sm=>?_) (λH sm=>?_) (λx hx σ H R1 R2 h1 h2 h3 h4=>?_) k
 ·have hi:i<n:=by simpa using (zp.mp hx).1
  have e:x=.int (lo+i):=by
   rw[zm,zzW hi]at hx;exact(zy hx).symm
  exact⟨hi,λy H' hy=>⟨hy.2.trans e.symm,hy.1⟩⟩
 ·show n<=_
  simp
 ·obtain⟨i,hi,rfl⟩:=zb.mp hx
  exact hs i (yH.mp hi) σ H R1 R2 h1 h2 h3 h4
end
end L2
namespace L2
open PySem PySem.Spec PyProof.Rows
inductive DV where
 |non|bl (b:Bool)|int (i:Int)|str (x:Str)|lst (xs:List DV)|tup (xs:List DV)
mutual
inductive ajc(K:Fg_)(H:Hp):V->DV->Prop
 |non:ajc K H .non .non
 |bl (b:Bool):ajc K H (.bl b) (.bl b)
 |int (i:Int):ajc K H (.int i) (.int i)
 |str (x:Str):ajc K H (.str x) (.str x)
 |lst {a:Addr} {vs:List V} {ds:List DV} (h:SqL K H a vs) (hs:YG K H vs ds):ajc K H (.ref a) (.lst ds)
 |tup {a:Addr} {vs:List V} {ds:List DV} (h:SqT K H a vs) (hs:YG K H vs ds):ajc K H (.ref a) (.tup ds)
inductive YG(K:Fg_)(H:Hp):List V->List DV->Prop
 |nil:YG K H [] []
 |cons {v:V} {d:DV} {vs:List V} {ds:List DV} (h:ajc K H v d) (hs:YG K H vs ds):YG K H (v::vs) (d::ds)
end
end L2
namespace L2
open PySem PySem.Spec PyProof.Rows
section
variable{X:Cx}{K:Fg_}{a b o e:Expr}{ta tb to te:TE}{pos:Pos}{tg:Expr}
def mz(q:X.K=K:=by rfl):IxR X (akd K):=q▸ajY
def jg(q:X.K=K:=by rfl):IxR X (aiy K):=q▸akZ
def Dz(q:X.K=K:=by rfl):SlR X (amq K):=q▸aiM
def aiX(q:X.K=K:=by rfl):SlR X (amt K):=q▸akq
noncomputable def amd(K:Fg_):List V->Hp->VK->Prop:=λxs H Q=>∃p ys,xs=[.ref p]/\(SqL K H p ys\/SqT K H p ys)/\Q (.int ys.length) H
def mV(q:X.K=K:=by rfl):nD X (.builtin "len") (amd K):=q▸PJ
noncomputable def amc(K:Fg_):List V->Hp->VK->Prop:=λxs H Q=>∃(a:Addr)(ns:List Int),xs=[.ref a]/\SqL K H a (ns.map V.int)/\Q (.int ns.sum) H
def qC(q:X.calm=true)(z:X.K=K:=by rfl):nD X (.builtin "sum") (amc K):=z▸Zn q
noncomputable def amg(K:Fg_):List V->Hp->VK->Prop:=λxs H Q=>∃(a:Addr)(bs:List Bool),xs=[.ref a]/\SqL K H a (bs.map V.bl)/\Q (.bl (bs.any id)) H
def QM(q:X.calm=true)(z:X.K=K:=by rfl):nD X (.builtin "any") (amg K):=z▸Yy q
noncomputable def amk(K:Fg_):List V->Hp->VK->Prop:=λxs H Q=>∃(a:Addr)(bs:List Bool),xs=[.ref a]/\SqL K H a (bs.map V.bl)/\Q (.bl (bs.all id)) H
def Zf(q:X.calm=true)(z:X.K=K:=by rfl):nD X (.builtin "all") (amk K):=z▸YM q
noncomputable def GQ(K:Fg_):List V->Hp->VK->Prop:=λxs H Q=>∃p ys,xs=[.ref p]/\(SqL K H p ys\/SqT K H p ys)/\∀l,H l=none->Q (.ref l) (upd H l (.lst ys))
def tY(q:X.K=K:=by rfl):nD X (.type "list") (GQ K):=q▸Oz
noncomputable def amG(K:Fg_):List V->Hp->VK->Prop:=λxs H Q=>∃x n t k,xs=[x,.ty n]/\Kf K H x t/\PySem.W.kitOne K t (.type n)=some k/\Q (.bl k) H
def Dp(q:X.K=K:=by rfl):nD X (.builtin "isinstance") (amG K):=q▸QD
noncomputable def akc(K:Fg_):List V->Hp->VK->Prop:=λxs H Q=>∃x C t k,xs=[x,.ref C]/\Kf K H x t/\PySem.W.kitOne K t (.ref C)=some k/\Q (.bl k) H
def ug(q:X.K=K:=by rfl):nD X (.builtin "isinstance") (akc K):=q▸Qk
noncomputable def amL:List V->Hp->VK->Prop:=λxs H Q=>∃i j,xs=[.int i,.int j]/\Q (.int (if j>i then j else i)) H
def WW(q:X.calm=true):nD X (.builtin "max") amL:=Xm q
noncomputable def amH:List V->Hp->VK->Prop:=λxs H Q=>∃i j,xs=[.int i,.int j]/\Q (.int (if j<i then j else i)) H
def Jz(q:X.calm=true):nD X (.builtin "min") amH:=Xa q
def mC(z:PE X o to)(q:X.K=K:=by rfl):PI X tg o (YJ K to):=q▸ajM z
def XF{es:List Expr}{k:Nat}{t:TGs}{n:Nat}(q:X.calm=true)(h:PGs X es t)(hn:(assignEach es X.env).length=n:=by rfl)(hst:(assignEach es X.env).findIdx? (·.1)=none:=by rfl)(hK:X.K=K:=by rfl):PG X (.Tuple es k pos) (amm K n t):=hK▸alf q h hn hst
def pN{es:List Expr}{k:Nat}{t:TGs}{n:Nat}(q:X.calm=true)(h:PGs X es t)(hn:(assignEach es X.env).length=n:=by rfl)(hst:(assignEach es X.env).findIdx? (·.1)=none:=by rfl)(hK:X.K=K:=by rfl):PG X (.Tuple es k pos) (amb K n t):=hK▸akT q h hn hst
def ajC{f:Str}(q:PE X e ta)(z:attributeBase e f X.env (eval e X.env)=eval e X.env)(hK:X.K=K:=by rfl):PE X (.Attribute e f pos) (akF K ta f):=hK▸ald q z
def pW{T:String}{name:Str}{id:String}{r:V->List V->Hp->VK->Prop}{es:List Expr}{t:TA}{apos cpos:Pos}(pa:PlainAttrs T)(slot:Slot T name id)(z:typeOf (.builtin id)=pure (.type "method_descriptor")) (hm:MtR X id r) (ho:PE X o to) (ha:PA X (e::es) t)
  (q:attributeBase o name X.env (eval o X.env)=eval o X.env:=by rfl)
  (hfew:((backTo cpos (starEach (e::es) X.env)).all (λx=>!x.1) && (backToKw cpos (keywordEach [] X.env)).all (λx=>x.1.isSome)
   && decide ((e::es).length+([]:List Keyword).length+(if([]:List Keyword).isEmpty then 0 else 1)<30))=true:=by rfl)
  (hline:(apos.endLine==cpos.line)=true:=by rfl) (hs:starEach (e::es) X.env=(false,eval e X.env)::starEach es X.env:=by rfl) (hplain:(backTo cpos (starEach es X.env)).any (·.1)=false:=by rfl) (hK:X.K=K:=by rfl):
  PE X (.Call (.Attribute o name apos) (e::es) [] cpos) (tBM K T r to t):=hK▸amj pa slot z hm ho ha q hfew hline hs hplain
def Nx{T:String}{name:Str}{id:String}{r:V->List V->Hp->VK->Prop}{apos cpos:Pos}(pa:PlainAttrs T)(slot:Slot T name id)(z:typeOf (.builtin id)=pure (.type "method_descriptor")) (hm:MtR X id r) (ho:PE X o to)
  (q:attributeBase o name X.env (eval o X.env)=eval o X.env:=by rfl) (hline:(apos.endLine==cpos.line)=true:=by rfl) (hK:X.K=K:=by rfl):PE X (.Call (.Attribute o name apos) [] [] cpos) (alX K T r to):=hK▸akC pa slot z hm ho q hline
end
section
variable{K:Fg_}{H:Hp}{Q:VK}{p:Addr}{x y:V}
def ap_noIf{σ:St}{QB:Bool->Hp->Prop}:NK σ H QB=QB true H:=rfl
def ap_rLen:amd K [.ref p] H Q=∃ys,(SqL K H p ys\/SqT K H p ys)/\Q (.int (ys.length:Int)) H:=by simp[amd]
def ap_rSum:amc K [.ref p] H Q=∃ns:List Int,SqL K H p (ns.map V.int)/\Q (.int ns.sum) H:=by simp[amc]
def ap_rAny:amg K [.ref p] H Q=∃bs:List Bool,SqL K H p (bs.map V.bl)/\Q (.bl (bs.any id)) H:=by simp[amg]
def ap_rAll:amk K [.ref p] H Q=∃bs:List Bool,SqL K H p (bs.map V.bl)/\Q (.bl (bs.all id)) H:=by simp[amk]
def ap_rListOf:GQ K [.ref p] H Q=∃ys,(SqL K H p ys\/SqT K H p ys)/\∀l,H l=none->Q (.ref l) (upd H l (.lst ys)):=by simp[GQ]
def ap_rIsT{n:String}:amG K [x,.ty n] H Q=∃t k,Kf K H x t/\PySem.W.kitOne K t (.type n)=some k/\Q (.bl k) H:=propext ⟨fun⟨z,q,t,k,e,h⟩=>by
  injection e with e1 e2
  injection e2 with e2 _
  injection e2 with e2
  subst e1 e2;exact⟨t,k,h⟩,fun⟨t,k,h⟩=>⟨x,n,t,k,rfl,h⟩⟩
def ap_append:Jo (.ref p) [y] H Q=∃xs,H p=some (.lst xs)/\xs.length<sizeLine/\Q .non (upd H p (.lst (xs++[y]))):=by simp[Jo]
def ap_rCat{l b:Addr}:alU (.ref l) (.ref b) H Q=∃xs zs,H l=some (.lst xs)/\H b=some (.lst zs)/\xs.length+zs.length<=sizeLine/\∀p,H p=none->Q (.ref p) (upd H p (.lst (xs++zs))):=by simp[alU]
def ap_rMax{i j:Int}:amL [.int i,.int j] H Q=Q (.int (if j>i then j else i)) H:=propext ⟨fun⟨q,z,e,h⟩=>by cases e;exact h,λh=>⟨i,j,rfl,h⟩⟩
def ap_rMin{i j:Int}:amH [.int i,.int j] H Q=Q (.int (if j<i then j else i)) H:=propext ⟨fun⟨q,z,e,h⟩=>by cases e;exact h,λh=>⟨i,j,rfl,h⟩⟩
end
end L2
namespace L2
open PySem PySem.Spec PyProof.Rows
section
variable{K:Fg_}{a:Addr}{xs:List V}{g:TG}{tb:TS}{D:Ends}{σ:St}{H:Hp}{wi:TI}{cap:List (Option Nat)}{tt:TT}{te tl:TE}{Q:VK}{ta:TA}{R:It->Hp->Prop}
noncomputable def Kr(J:It)(g:TG)(tb:TS)(D:Ends)(σ:St)(H1:Hp):Prop:=∃W:Nat->Nat->St->Hp->Prop,(∃m,W 0 m σ H1)/\∀i m σ H,W i m σ H->
 (J.stop i H/\D.nx σ H)\/(J.go i H/\∃N:St->Hp->Prop,(∀σ' H',N σ' H'->∃m',m'<m/\W (i+1) m' σ' H')/\∀x H',J.yld i H x H'->g x σ H' λσ2 H2=>tb {D with nx:=N,ct:=N,bk:=D.nx} σ2 H2)
def ap_for:alJ wi g tb D σ H=wi σ H λJ H1=>Kr J g tb D σ H1:=rfl
def pG(q:Nat->St->Hp->Prop)(h0:q 0 σ H)(z:∀i σ H,i<=xs.length->q i σ H->SqL K H a xs)
  (hs:∀i x σ H,xs[i]? =some x->q i σ H->g x σ H λσ2 H2=>tb {D with nx:=q (i+1),ct:=q (i+1),bk:=D.nx} σ2 H2) (hd:∀σ H,q xs.length σ H->D.nx σ H):Kr (Itl K a) g tb D σ H:=ZR q h0 z hs hd
def Kr.range{lo:Int}{n:Nat}(q:Nat->St->Hp->Prop)(z:q 0 σ H)
  (hs:∀i σ H,i<n->q i σ H->g (.int (lo+i)) σ H λσ2 H2=>tb {D with nx:=q (i+1),ct:=q (i+1),bk:=D.nx} σ2 H2) (hd:∀σ H,q n σ H->D.nx σ H):Kr (Itr lo n) g tb D σ H:=YB q z hs hd
def ap_iList:YJ K tl σ H R=tl σ H λx H1=>∃a,x=.ref a/\(∃xs,SqL K H1 a xs)/\R (Itl K a) H1:=rfl
def ap_iRng1:aln ta σ H R=ta σ H λvs H1=>∃j:Int,vs=[.int j]/\ -(2^62)<=j/\j<2^62/\R (Itr 0 j.toNat) H1:=rfl
noncomputable def kI(cap:List (Option Nat))(J:It)(g:TG)(tt:TT)(te:TE)(σ:St)(H1:Hp)(Q:VK):Prop:=∀D,H1 D=Option.none->
 ∃W:Nat->Nat->List V->St->Hp->Prop,(∃m,W 0 m [] (qY σ cap) (upd H1 D (.lst [])))/\∀i m acc σ1 H2,W i m acc σ1 H2->H2 D=some (.lst acc)->
  (J.stop i H2/\Q (.ref D) H2)\/(J.go i H2/\∀x H3,J.yld i H2 x H3->g x σ1 H3 λσ4 H4=>tt σ4 H4 λb H5=>
   if b=true then te σ4 H5 λv H6=>∃acc',H6 D=some (.lst acc')/\acc'.length<sizeLine/\∃m',m'<m/\W (i+1) m' (acc'++[v]) σ4 (upd H6 D (.lst (acc'++[v])))
   else∃m',m'<m/\∃acc',H5 D=some (.lst acc')/\W (i+1) m' acc' σ4 H5)
def ap_comp:ajA cap wi g tt te σ H Q=wi σ H λJ H1=>kI cap J g tt te σ H1 Q:=rfl
def kI.list(Sσ:St->Prop)(p:V->Bool)(F:V->V)(hS:SqL K H a xs)(h0:Sσ (qY σ cap))(hz:xs.length<=sizeLine)
  (hs:∀x∈xs,∀(σ:St)(z:Hp)(R1:St->VK)(R2:St->Hp->Prop),Sσ σ->Same H z->(p x=true->∀q H6,Sσ q->Same z H6->R1 q (F x) H6)->(p x=false->∀q H6,Sσ q->Same z H6->R2 q H6)->
   g x σ z λq H4=>tt q H4 λb z=>if b=true then te q z (R1 q)else R2 q z)
  (k:∀D H',H D=Option.none->Same H H'->H' D=some (.lst ((xs.filter p).map F))->Q (.ref D) H'):kI cap (Itl K a) g tt te σ H Q:=
 λD hD=>Zh Sσ p F hS hD h0 hz hs λH' s e=>k D H' hD s e
theorem kI.range{lo:Int}{n:Nat}(Sσ:St->Prop)(p:V->Bool)(F:V->V)(h0:Sσ (qY σ cap))(hz:n<=sizeLine)
  (hs:∀i:Nat,i<n->∀(σ:St)(z:Hp)(R1:St->VK)(R2:St->Hp->Prop),Sσ σ->Same H z->(p (.int (lo+i))=true->∀q H6,Sσ q->Same z H6->R1 q (F (.int (lo+i))) H6)->(p (.int (lo+i))=false->∀q H6,Sσ q->Same z H6->R2 q H6)->
   g (.int (lo+i)) σ z λq H4=>tt q H4 λb z=>if b=true then te q z (R1 q)else R2 q z)
  (k:∀D H',H D=Option.none->Same H H'->H' D=some (.lst ((((List.range n).map fun(i:Nat)=>V.int (lo+i)).filter p).map F))->Q (.ref D) H'):kI cap (Itr lo n) g tt te σ H Q:=
 λD hD=>Vq Sσ p F hD h0 hz hs λH' s e=>k D H' hD s e
def Mr(xs:List V)(n:Nat):NZ xs none (some (n:Int))=xs.take n:=by
 unfold NZ;rw[HT.sIx_none,HT.sIx_nat,List.drop_zero,Nat.sub_zero];rcases Nat.le_total n xs.length with h|h
 ·rw[Nat.min_eq_left h]
 ·rw[Nat.min_eq_right h,z3 h,z3 (zo _)]
end
end L2
namespace L2
open PySem PySem.Spec PyProof.Rows
structure LeE(D D':Ends):Prop where
 nx:∀σ H,D.nx σ H->D'.nx σ H
 rt:∀v H,D.rt v H->D'.rt v H
 bk:∀σ H,D.bk σ H->D'.bk σ H
 ct:∀σ H,D.ct σ H->D'.ct σ H
end L2
namespace L2
open PySem PySem.Spec PyProof.Rows
section
variable{X:Cx}{pins:List (Addr×Obj)}{σ:St}{H:Hp}{s:Shared}{h':Heap}
def Inv.turnedN{t':Nat}{fp:List Addr}(I:Inv X pins σ H s)(hf:∀b∈fp,Ss X pins H b)(k:∀b o,b∉fp->s.heap.get? b=some o->h'.get? b=some o):Inv X pins σ H {s with heap:=h',toks:=t'}:=by
 have aa:∀b u,H b=some u->b∉fp:=λb u e z=>by rw[(hf b z).1]at e;cases e
 refine I.step (g':=s.gens) (d':=s.drawn) (ch:=fp) (λb hb=>⟨(hf b hb).2.2.2.1,(hf b hb).2.1,(hf b hb).2.2.2.2.1,(hf b hb).2.2.2.2.2⟩) (λb o _ _ hc e _=>k b o hc e) (λb o _ _ hc e _=>⟨o.slots,k b o hc e⟩) (λ_ _ _ _ n=>n)
  (λb o hc e=>⟨o,k b o hc e⟩) (λ_ _ e=>e) (λ_ _ _ e=>e) (λb ps e=>⟨#[],by rw[e];simp⟩) (λm hm=>?_) (λb u e=>?_) I.bare
 ·obtain⟨o,es,ep,ho,r⟩:=hm
  exact⟨o,es,ep,k _ o (λz=>(hf _ z).2.1 rfl) ho,r⟩
 ·refine(I.hok b u e).stay (λc v hc q=>k c v ?_ q) (λ_ q=>q) λ_ _ q=>q
  rcases hc with z|z
  ·rw[z];exact aa b u e
  ·exact aa c _ z
def Inv.turnedT{t':Nat}{fp:List Addr}{T:Addr}{o:HO}(I:Inv X pins σ H s)(hf:∀b∈fp,Ss X pins H b)(hT:s.heap.objs.size<=T)(k:∀b o,b∉fp->s.heap.get? b=some o->h'.get? b=some o)
  (ab:mj X.prog X.w (upd H T o) h' T o):Inv X pins σ (upd H T o) {s with heap:=h',toks:=t'}:=by
 have aa:∀b u,H b=some u->b∉fp:=λb u e z=>by rw[(hf b z).1]at e;cases e
 have hn:H T=none:=I.hok.fresh hT
 refine I.step (g':=s.gens) (d':=s.drawn) (ch:=fp) (λb hb=>⟨(hf b hb).2.2.2.1,(hf b hb).2.1,(hf b hb).2.2.2.2.1,(hf b hb).2.2.2.2.2⟩) (λb o _ _ hc e _=>k b o hc e) (λb o _ _ hc e _=>⟨o.slots,k b o hc e⟩)
  (λb o _ e n=>by rw[iZ (zD (zH (zv e) hT))];exact n)
  (λb o hc e=>⟨o,k b o hc e⟩) (λb xs e=>by rw[iZ (jT e hn)];exact e) (λb o xs e=>by rw[iZ (jT e hn)];exact e) (λb ps e=>⟨#[],by rw[iZ (jT e hn),e];simp⟩) (λm hm=>?_) (λb u e=>?_) I.bare
 ·obtain⟨o,es,ep,ho,r⟩:=hm
  exact⟨o,es,ep,k _ o (λz=>(hf _ z).2.1 rfl) ho,r⟩
 ·by_cases hb:b=T
  ·subst hb;rw[iK]at e;cases e;exact ab
  ·rw[iZ hb]at e
   refine(I.hok b u e).stay (λc v hc q=>k c v ?_ q) (λc q=>by rw[iZ (jT q hn)];exact q) λc xs q=>by rw[iZ (jT q hn)];exact q
   rcases hc with z|z
   ·rw[z];exact aa b u e
   ·exact aa c _ z
end
def pY{h:Heap}{a b:Addr}{q ob:Obj}{z cb:Value}(ha:h.get? a=some q)(hb:h.get? b=some ob)(ea:q.cls=z)(eb:ob.cls=cb)(hc:z≠cb):a≠b:=by
 intro e;subst e;rw[ha]at hb;cases hb;exact hc (ea.symm.trans eb)
noncomputable def Itz(K:Fg_)(a b:Addr):It:=
 ⟨λi H=>∃xs ys x y,SqL K H a xs/\SqL K H b ys/\xs[i]? =some x/\ys[i]? =some y,
   λi H v H'=>∃p x y,H p=none/\v=.ref p/\H'=upd H p (.tup [x,y])/\(∀xs,SqL K H a xs->xs[i]? =some x)/\∀ys,SqL K H b ys->ys[i]? =some y,
   λi H=>∃xs ys,SqL K H a xs/\SqL K H b ys/\(xs.length<=i\/ys.length<=i)⟩
def Jd{h:Heap}{z TI TO i1 i2 a b:Addr}{f0 u v:Value}{xs ys:Array Value}{j1 j2:Nat}(ac:TI≠TO)(ab:i1≠i2)(hz:IsZip h z TI TO f0)(aa:IsPair h TI (.ref i1) (.ref i2))(q:IsPair h TO u v)
  (h1:h.IsListIter i1 a j1) (h2:h.IsListIter i2 b j2) (p1:h.IsList a xs) (p2:h.IsList b ys):ZipApart z TI TO i1 i2 a b:=by
 obtain⟨o1,e1,c1,_⟩:=h1;obtain⟨o2,e2,c2,_⟩:=h2;obtain⟨l1,f1,d1,_⟩:=p1;obtain⟨l2,f2,d2,_⟩:=p2
 exact ⟨pY aa hz rfl rfl (by simp),pY q hz rfl rfl (by simp),pY e1 hz c1 rfl (by simp),pY e2 hz c2 rfl (by simp),ac,pY aa e1 rfl c1 (by simp),pY aa e2 rfl c2 (by simp),pY q e1 rfl c1 (by simp),pY q e2 rfl c2 (by simp),ab,
  pY f1 hz d1 rfl (by simp),pY f1 q d1 rfl (by simp),pY f1 e1 d1 c1 (by simp),pY f1 e2 d1 c2 (by simp),pY f2 hz d2 rfl (by simp),pY f2 q d2 rfl (by simp),pY f2 e1 d2 c1 (by simp),pY f2 e2 d2 c2 (by simp)⟩
def aam{P:Program}{w:World}{K:Fg_}{elts:List Expr}{x1:Nat}{pos:Pos}(a b z TI TO i1 i2:Addr)(ah:TI≠TO)(ak:i1≠i2):
  Turn P w K (.Tuple elts x1 pos) (Itz K a b) [z,TI,TO,i1,i2] z (λi h=>IsZip h z TI TO .none/\IsPair h TI (.ref i1) (.ref i2)/\(∃u v,IsPair h TO u v)/\h.IsListIter i1 a i/\h.IsListIter i2 b i) where
 mem:=by simp
 obj:=λi h st c hb=>by
  obtain⟨hz,aa,⟨u,v,ab⟩,⟨o1,e1,c1,d1⟩,⟨o2,e2,c2,d2⟩⟩:=st;simp only[zt,zf,or_false]at hb;rcases hb with rfl|rfl|rfl|rfl|rfl
  ·exact⟨_,hz,λv z=>by cases z⟩
  ·exact⟨_,aa,λv z=>by cases z⟩
  ·exact⟨_,ab,λv z=>by cases z⟩
  ·exact⟨_,e1,λv z=>by rw[d1]at z;cases z⟩
  ·exact⟨_,e2,λv z=>by rw[d2]at z;cases z⟩
 keep:=λi h h' st k=>by
  obtain⟨hz,aa,⟨u,v,ab⟩,h1,h2⟩:=st;exact⟨k _ (by simp) _ hz,k _ (by simp) _ aa,⟨u,v,k _ (by simp) _ ab⟩,h1.at λo e=>k _ (by simp) o e,h2.at λo e=>k _ (by simp) o e⟩
 item:=by
  intro X hP hw hK hc i pins s σ H E I hf st hg;subst hP hw hK;obtain⟨xs,ys,x,y,ad,ac,hx,hy⟩:=hg;obtain⟨al,af,p1,_⟩:=I.list ad;obtain⟨ag,ae,p2,_⟩:=I.list ac;obtain⟨u1,an,am⟩:=af.get hx;obtain⟨u2,ap,ao⟩:=ae.get hy;obtain⟨hz,aa,⟨ua,ub,ab⟩,h1,h2⟩:=st;have D:=Jd ah ak hz aa ab h1 h2 p1.isList p2.isList;refine wpAny_pyNext_zip_item D hz aa ab h1 h2 p1.isList p2.isList (x:=u1) (y:=u2) (by simpa using an) (by simpa using ap) λh' a1 a2 a3 a4 a5 a6 a7=>?_;refine⟨_,rfl,wpAny_letOwnedTupleGo_zip (s:={s with heap:=h'}) a1 λai b1 b2=>?_⟩;have nz:s.heap.objs.size≠z:=yu (zv hz)
  have k:∀c o,c∉[z,TI,TO,i1,i2]->s.heap.get? c=some o->ai.get? c=some o:=λc o hc e=>by
   simp only[zt,zf,or_false,not_or]at hc;exact(b2.2 c hc.1).trans (a7 c o hc.1 hc.2.2.1 hc.2.2.2.1 hc.2.2.2.2 e)
  have aj:ai.get? s.heap.objs.size=some {cls:=.type "tuple",data:=.seq #[u1,u2]}:=(b2.2 _ nz).trans a5
  refine ⟨.ref s.heap.objs.size,upd H s.heap.objs.size (.tup [x,y]),I.turnedT (t':=s.toks) hf (zo _) k ⟨by rw[zn];simp,[u1,u2],.cons am (.cons ao .nil),_,aj,rfl,_,rfl⟩,rfl,
   ⟨_,x,y,I.hok.fresh (zo _),rfl,rfl,λaq q=>by rw[I.list_inj q ad];exact hx,λar q=>by rw[I.list_inj q ac];exact hy⟩,?_,λc hb=>?_⟩
  ·exact⟨b1,(b2.2 _ D.TIz).trans (a7 _ _ D.TIz D.TITO D.TIi1 D.TIi2 aa),⟨_,_,(b2.2 _ D.TOz).trans a2⟩,a3.at λo e=>(b2.2 _ D.i1z).trans e,a4.at λo e=>(b2.2 _ D.i2z).trans e⟩
  ·obtain ⟨o,e⟩:∃o,s.heap.get? c=some o:=by
    simp only[zt,zf,or_false]at hb;rcases hb with rfl|rfl|rfl|rfl|rfl
    ·exact⟨_,hz⟩
    ·exact⟨_,aa⟩
    ·exact⟨_,ab⟩
    ·obtain⟨o,e,_⟩:=h1;exact⟨o,e⟩
    ·obtain⟨o,e,_⟩:=h2;exact⟨o,e⟩
   rw[iZ (zD (zv e))];exact(hf c hb).1
 done:=by
  intro X hP hw hK hc i pins s σ H E I hf st hg;subst hP hw hK;obtain⟨xs,ys,ad,ac,hx⟩:=hg;obtain⟨al,af,p1,_⟩:=I.list ad;obtain⟨ag,ae,p2,_⟩:=I.list ac;obtain⟨hz,aa,⟨ua,ub,ab⟩,h1,h2⟩:=st;have D:=Jd ah ak hz aa ab h1 h2 p1.isList p2.isList;have l1:=af.length;have l2:=ae.length;refine wpAny_pyNext_zip_end (I.ok.hd hc) D hz aa ab h1 h2 p1.isList p2.isList (hx.elim (λh=> .inl (by simp;omega)) λh=> .inr (by simp;omega)) λh' k=>⟨rfl,I.turnedN (t':=s.toks) hf λc o hc e=>?_⟩;simp only[zt,zf,or_false,not_or]at hc;exact k c o hc.1 hc.2.2.1 hc.2.2.2.1 hc.2.2.2.2 e
 self:=λ_ _ _ _ _ st h=>wpAny_pyIter_zip st.1 h
noncomputable def Ite(K:Fg_)(a:Addr):It:=
 ⟨λi H=>∃xs x,SqL K H a xs/\xs[i]? =some x,
   λi H v H'=>∃p x,H p=none/\v=.ref p/\H'=upd H p (.tup [.int i,x])/\∀xs,SqL K H a xs->xs[i]? =some x,
   λi H=>∃xs,SqL K H a xs/\xs.length<=i⟩
def WY{P:Program}{w:World}{K:Fg_}{elts:List Expr}{x1:Nat}{pos:Pos}(a e it:Addr)(af:e≠it):
  Turn P w K (.Tuple elts x1 pos) (Ite K a) [e,it] e (λi h=>(∃aa,IsEnum h e it i aa)/\h.IsListIter it a i) where
 mem:=by simp
 obj:=λi h st c hb=>by
  obtain⟨⟨aa,he⟩,⟨o1,e1,c1,d1⟩⟩:=st;simp only[zt,zf,or_false]at hb;rcases hb with rfl|rfl
  ·exact⟨_,he,λv z=>by cases z⟩
  ·exact⟨_,e1,λv z=>by rw[d1]at z;cases z⟩
 keep:=λi h h' st k=>by
  obtain⟨⟨aa,he⟩,h1⟩:=st;exact⟨⟨aa,k _ (by simp) _ he⟩,h1.at λo e=>k _ (by simp) o e⟩
 item:=by
  intro X hP hw hK hc i pins s σ H E I hf st hg;subst hP hw hK;obtain⟨xs,x,ab,hx⟩:=hg;obtain⟨ag,ac,p1,_⟩:=I.list ab;obtain⟨u1,ai,ah⟩:=ac.get hx;obtain⟨⟨aa,he⟩,h1⟩:=st;refine wpAny_pyNext_enum_item he h1 p1.isList (x:=u1) (by simpa using ai) af λh' a1 a2 a3 a4 a5=>?_;refine⟨_,rfl,wpAny_letOwnedTupleGo_enum (s:={s with heap:=h',toks:=s.toks+1}) a1 λad b1 b2=>?_⟩;have ne:s.heap.objs.size≠e:=yu (zv he)
  have k:∀c o,c∉[e,it]->s.heap.get? c=some o->ad.get? c=some o:=λc o hc q=>by
   simp only[zt,zf,or_false,not_or]at hc;exact(b2.2 c hc.1).trans (a5 c o hc.1 hc.2 q)
  have ae:ad.get? s.heap.objs.size=some {cls:=.type "tuple",data:=.seq #[.int i s.toks,u1]}:=(b2.2 _ ne).trans a3
  refine ⟨.ref s.heap.objs.size,upd H s.heap.objs.size (.tup [.int i,x]),I.turnedT (t':=s.toks+1) hf (zo _) k ⟨by rw[zn];simp,[.int i s.toks,u1],.cons ⟨_,rfl⟩ (.cons ah .nil),_,ae,rfl,_,rfl⟩,rfl,
   ⟨_,x,I.hok.fresh (zo _),rfl,rfl,λaj q=>by rw[I.list_inj q ab];exact hx⟩,⟨⟨u1,by simpa using b1⟩,a2.at λo q=>(b2.2 _ (Ne.symm af)).trans q⟩,λc hb=>?_⟩
  obtain ⟨o,q⟩:∃o,s.heap.get? c=some o:=by
   simp only[zt,zf,or_false]at hb;rcases hb with rfl|rfl
   ·exact⟨_,he⟩
   ·obtain⟨o,q,_⟩:=h1;exact⟨o,q⟩
  rw[iZ (zD (zv q))];exact(hf c hb).1
 done:=by
  intro X hP hw hK hc i pins s σ H E I hf st hg;subst hP hw hK;obtain⟨xs,ab,hx⟩:=hg;obtain⟨ag,ac,p1,_⟩:=I.list ab;obtain⟨⟨aa,he⟩,h1⟩:=st;have l1:=ac.length;refine wpAny_pyNext_enum_end (I.ok.hd hc) he h1 p1.isList (by simp;omega) λh' k=>⟨rfl,I.turnedN (t':=s.toks) hf λc o hc q=>?_⟩;simp only[zt,zf,or_false,not_or]at hc;exact k c o hc.2 q
 self:=λ_ _ _ _ _ st h=>by
  obtain⟨⟨aa,he⟩,_⟩:=st;exact wpAny_pyIter_enum he h
section
variable{X:Cx}{K:Fg_}{ta:TA}{elts:List Expr}{x1:Nat}{tpos:Pos}
noncomputable def amx(K:Fg_)(ta:TA):TI:=λσ H R=>ta σ H λvs H1=>∃a b,vs=[.ref a,.ref b]/\(∃xs,SqL K H1 a xs)/\(∃ys,SqL K H1 b ys)/\R (Itz K a b) H1
noncomputable def akp(K:Fg_)(ta:TA):TI:=λσ H R=>ta σ H λvs H1=>∃a,vs=[.ref a]/\(∃xs,SqL K H1 a xs)/\R (Ite K a) H1
def Mg{a b:Expr}{p pos:Pos}(hg:Gl X "zip") (hm:X.mg "zip" =none) (ha:PA X [a,b] ta) (hs:starEach [a,b] X.env=[(false,eval a X.env),(false,eval b X.env)]:=by rfl) (hs2:starEach [b] X.env=[(false,eval b X.env)]:=by rfl) (hK:X.K=K:=by rfl):
  PI X (.Tuple elts x1 tpos) (.Call (.Name "zip" p) [a,b] [] pos) (amx K ta):=by
 subst hK;intro pins s σ H R I h;refine Call_ (Bb I hg hm (by decide+kernel) (PyProof.Rows.callWith_type1 (T:= "zip") (thn (ha pos pins s σ H _ I h) λus z ⟨vs,H1,I1,r1,q1⟩=>?_) (by rw[hs,hs2]) (by rw[hs2];rfl)));obtain⟨l1,l2,e,⟨xs,hx⟩,⟨ys,hy⟩,q⟩:=q1;subst e;obtain⟨u,v,rfl,ru,rv⟩:=vals2 r1;cases ru;cases rv;obtain⟨ac,_,p1,_⟩:=I1.list hx;obtain⟨ab,_,p2,_⟩:=I1.list hy;refine call_zip_2 p1.isList p2.isList λh' g1 g2 g3 g4 g5 g6 k=>?_;have I2:Inv X pins σ H1 {z with heap:=h'}:=I1.kept (t':=z.toks) k;refine wpAny_pyIter_zip (s:={z with heap:=h'}) g1 ⟨_,[z.heap.objs.size+4,z.heap.objs.size+2,z.heap.objs.size+3,z.heap.objs.size,z.heap.objs.size+1],_,_,H1,rfl,I2,aam l1 l2 _ _ _ _ _ (show((z.heap.objs.size:Nat)+2≠z.heap.objs.size+3) by omega) (show((z.heap.objs.size:Nat)≠z.heap.objs.size+1) by omega),⟨g1,g2,⟨_,_,g3⟩,g4,g5⟩,λc hc=>?_,q⟩
 have hc':z.heap.objs.size<=c:=by
  simp only[zt,zf,or_false]at hc
  have aa:∃k:Nat,c=z.heap.objs.size+k:=by
   rcases hc with rfl|rfl|rfl|rfl|rfl
   ·exact⟨4,rfl⟩
   ·exact⟨2,rfl⟩
   ·exact⟨3,rfl⟩
   ·exact⟨0,rfl⟩
   ·exact⟨1,rfl⟩
  obtain⟨k,rfl⟩:=aa;exact yD _ k
 exact I1.fpOk hc' (I1.hok.fresh hc')
def Xg{a:Expr}{p pos:Pos}(hg:Gl X "enumerate") (hm:X.mg "enumerate" =none) (ha:PA X [a] ta) (hs:starEach [a] X.env=[(false,eval a X.env)]:=by rfl) (hK:X.K=K:=by rfl):
  PI X (.Tuple elts x1 tpos) (.Call (.Name "enumerate" p) [a] [] pos) (akp K ta):=by
 subst hK;intro pins s σ H R I h;refine Call_ (Bb I hg hm (by decide+kernel) (PyProof.Rows.callWith_type1 (T:= "enumerate") (thn (ha pos pins s σ H _ I h) λus z ⟨vs,H1,I1,r1,q1⟩=>?_) (by rw[hs];rfl) rfl));obtain⟨l1,e,⟨xs,hx⟩,q⟩:=q1;subst e;obtain⟨u,rfl,ru⟩:=vals1 r1;cases ru;obtain⟨ab,_,p1,_⟩:=I1.list hx;refine call_enumerate_list p1.isList λh' g1 g2 g3 k=>?_;have I2:Inv X pins σ H1 {z with heap:=h'}:=I1.kept (t':=z.toks) k;refine wpAny_pyIter_enum (s:={z with heap:=h'}) g1 ⟨_,[z.heap.objs.size+1,z.heap.objs.size],_,_,H1,rfl,I2,WY l1 _ _ (show((z.heap.objs.size:Nat)+1≠z.heap.objs.size) by omega),⟨⟨_,g1⟩,g2⟩,λc hc=>?_,q⟩
 have hc':z.heap.objs.size<=c:=by
  simp only[zt,zf,or_false]at hc
  have aa:∃k:Nat,c=z.heap.objs.size+k:=by
   rcases hc with rfl|rfl
   ·exact⟨1,rfl⟩
   ·exact⟨0,rfl⟩
  obtain⟨k,rfl⟩:=aa;exact yD _ k
 exact I1.fpOk hc' (I1.hok.fresh hc')
variable{σ:St}{H:Hp}{R:It->Hp->Prop}{g:TG}{tb:TS}{D:Ends}{a b:Addr}{xs ys:List V}
def ap_iZip:amx K ta σ H R=ta σ H λvs H1=>∃a b,vs=[.ref a,.ref b]/\(∃xs,SqL K H1 a xs)/\(∃ys,SqL K H1 b ys)/\R (Itz K a b) H1:=rfl
def ap_iEnum:akp K ta σ H R=ta σ H λvs H1=>∃a,vs=[.ref a]/\(∃xs,SqL K H1 a xs)/\R (Ite K a) H1:=rfl
def Kr.zip(q:Nat->St->Hp->Prop)(aa:xs.length=ys.length)(h0:q 0 σ H)(hl:∀i σ H,i<=xs.length->q i σ H->SqL K H a xs/\SqL K H b ys)
  (hs:∀i x y σ H p,xs[i]? =some x->ys[i]? =some y->q i σ H->H p=none->g (.ref p) σ (upd H p (.tup [x,y])) λσ2 H2=>tb {D with nx:=q (i+1),ct:=q (i+1),bk:=D.nx} σ2 H2) (hd:∀σ H,q xs.length σ H->D.nx σ H):Kr (Itz K a b) g tb D σ H:=by
 refine⟨λi m σ H=>m=xs.length - i/\i<=xs.length/\q i σ H,⟨xs.length,by simp,zK _,h0⟩,?_⟩;rintro i m σ H ⟨rfl,hi,p⟩;obtain⟨q1,q2⟩:=hl i σ H hi p;by_cases z:i<xs.length
 ·refine .inr ⟨⟨xs,ys,xs[i],ys[i],q1,q2,by simp[z],by simp[aa▸z]⟩,q (i+1),λσ' H' p'=>⟨xs.length - (i+1),by omega,rfl,z,p'⟩,λv H' y=>?_⟩
  obtain⟨pp,x,y,hp,rfl,rfl,e1,e2⟩:=y;exact hs i x y σ _ pp (e1 xs q1) (e2 ys q2) p hp
 ·have e:i=xs.length:=by omega
  subst e;exact .inl ⟨⟨xs,ys,q1,q2,.inl (zo _)⟩,hd σ H p⟩
def Kr.enum(q:Nat->St->Hp->Prop)(h0:q 0 σ H)(hl:∀i σ H,i<=xs.length->q i σ H->SqL K H a xs)
  (hs:∀i x σ H p,xs[i]? =some x->q i σ H->H p=none->g (.ref p) σ (upd H p (.tup [.int i,x])) λσ2 H2=>tb {D with nx:=q (i+1),ct:=q (i+1),bk:=D.nx} σ2 H2) (hd:∀σ H,q xs.length σ H->D.nx σ H):Kr (Ite K a) g tb D σ H:=by
 refine⟨λi m σ H=>m=xs.length - i/\i<=xs.length/\q i σ H,⟨xs.length,by simp,zK _,h0⟩,?_⟩;rintro i m σ H ⟨rfl,hi,p⟩;have q1:=hl i σ H hi p;by_cases z:i<xs.length
 ·refine .inr ⟨⟨xs,xs[i],q1,by simp[z]⟩,q (i+1),λσ' H' p'=>⟨xs.length - (i+1),by omega,rfl,z,p'⟩,λv H' y=>?_⟩
  obtain⟨pp,x,hp,rfl,rfl,e1⟩:=y;exact hs i x σ _ pp (e1 xs q1) p hp
 ·have e:i=xs.length:=by omega
  subst e;exact .inl ⟨⟨xs,q1,zo _⟩,hd σ H p⟩
end
end L2
namespace L2
open PySem PySem.Spec PyProof.Rows
noncomputable def DK(h h':Heap):Prop:=∀b o,h.get? b=some o->∃o',h'.get? b=some o'/\o'.dict=o.dict
theorem DK.trans{h h1 h2:Heap}(a:DK h h1)(b:DK h1 h2):DK h h2:=λc o e=>by
 obtain⟨z,q,d1⟩:=a c o e;obtain⟨o2,e2,d2⟩:=b c z q;exact⟨o2,e2,d2.trans d1⟩
structure KD{α:Type}(t:Sem α):Prop where
 out:∀(M:Model)(Γ:PySem.Ctx)(P:α->Pos->Shared->Prop)(E:Value->Pos->Shared->Prop)(p:Pos)(s:Shared),Sem.wp M Γ t P E p s->Sem.wp M Γ t (λa p' s'=>P a p' s'/\DK s.heap s'.heap) E p s
end L2
namespace L2
open PySem PySem.Spec PyProof.Rows
structure amZ(K:Fg_)(C:Addr):Prop where
 ex:PySem.W.excIn K C [.type "ValueError",.type "Exception",.type "BaseException",.type "object"] "ValueError.__new__" =true
end L2
namespace L2
open PySem PySem.Spec PyProof.Rows
section
variable{prog:Program}{w:World}{A:Around}{E:Value->Shared->Prop}{h:Heap}{g:Array GenState}{d:Drawn}{t:Nat}{os:OsState}{a:Addr}{o:Obj}
 {nm q:Str} {C N:Addr} {bs bm:List Value} {hdct:Bool} {sn:List Str} {sub:List Value} {ab:Bool} {col:Option Bool} {dd:Option Addr} {k0 k1 k2 k3 k5:Option Value} {newId:String} {K:Fg_}
structure amY(K:Fg_)(C:Addr):Prop where
 cl:PySem.W.findIn K (.ref C) "__class__" =some (some (.builtin "object.__class__"))
 ga:PySem.W.findIn K (.ref C) "__getattribute__" =some (some (.builtin "BaseException.__getattribute__"))
 gh:PySem.W.findIn K (.ref C) "__getattr__" =some none
end
end L2
namespace L2
open PySem PySem.Spec PyProof.Rows
abbrev TX:=St->Hp->VK->XK->Prop
end L2
namespace L2
open PySem PySem.Spec PyProof.Rows
section
variable{κ:Type} [DecidableEq κ]
noncomputable def pF(kvs:List (κ×V))(k:κ):Option V:=(kvs.find? λkv=>decide (kv.1=k)).map (·.2)
noncomputable def putK(kvs:List (κ×V))(k:κ)(v:V):List (κ×V):=
 if(kvs.any λkv=>decide (kv.1=k))=true then kvs.map (λkv=>if kv.1=k then(kv.1,v)else kv)else kvs++[(k,v)]
noncomputable def Dv(kvs:List (κ×V))(k:κ):List (κ×V):=kvs.filter λkv=>decide (kv.1≠k)
def lu{p:κ×V}{r:List (κ×V)}{k:κ}(e:p.1=k):pF (p::r) k=some p.2:=by simp[pF,yZ,e]
def kJ{p:κ×V}{r:List (κ×V)}{k:κ}(e:¬p.1=k):pF (p::r) k=pF r k:=by simp[pF,yZ,e]
theorem oU(k:κ):∀kvs:List (κ×V),(kvs.any λq=>decide (q.1=k))=(pF kvs k).isSome
 |[]=>rfl
 |p::r=>by
  rw[List.any_cons];by_cases e:p.1=k
  ·simp only[lu e,zM e,Bool.true_or,Option.isSome_some]
  ·rw[kJ e,zQ e,Bool.false_or];exact oU k r
theorem Ui(k j:κ)(y:V):∀kvs:List (κ×V),pF (kvs.map λq=>if q.1=k then(q.1,y)else q) j=(pF kvs j).map λx=>if j=k then y else x
 |[]=>rfl
 |p::r=>by
  have ih:=Ui k j y r;rw[zi];by_cases h:p.1=k
  ·rw[zl h]
   by_cases e:p.1=j
   ·rw[lu (p:=(p.1,y)) e,lu e,zzQ,zl (e.symm.trans h)]
   ·rw[kJ (p:=(p.1,y)) e,kJ e,ih]
  ·rw[ze h]
   by_cases e:p.1=j
   ·rw[lu (p:=p) e,lu e,zzQ,ze (λz=>h (e.trans z))]
   ·rw[kJ (p:=p) e,kJ e,ih]
theorem QJ(k j:κ)(y:V):∀kvs:List (κ×V),pF kvs k=none->pF (kvs++[(k,y)]) j=if j=k then some y else pF kvs j
 |[],_=>by
  by_cases e:k=j
  ·rw[zl e.symm];exact lu (p:=(k,y)) e
  ·rw[ze (λz=>e z.symm)];exact kJ (p:=(k,y)) e
 |p::r,hn=>by
  rw[List.cons_append];have q:¬p.1=k:=λz=>by rw[lu z]at hn;cases hn
  rw[kJ q]at hn;have ih:=QJ k j y r hn;by_cases e:p.1=j
  ·rw[lu e,lu e,ze (λz=>q (e.trans z))]
  ·rw[kJ e,kJ e,ih]
def MN(kvs:List (κ×V))(k j:κ)(y:V):pF (putK kvs k y) j=if j=k then some y else pF kvs j:=by
 unfold putK;by_cases a:(kvs.any λz=>decide (z.1=k))=true
 ·rw[zl a,Ui]
  rw[oU]at a;by_cases e:j=k
  ·obtain⟨x,hx⟩:=yF.mp a
   rw[zl e,e,hx,zzQ,zl rfl]
  ·rw[ze e]
   cases pF kvs j with
   |none=>rfl
   |some x=>rw[zzQ,ze e]
 ·rw[ze a]
  refine QJ k j y kvs ?_;rw[oU]at a
  cases q:pF kvs k with
  |none=>rfl
  |some x=>rw[q]at a;exact(a rfl).elim
def Jj(kvs:List (κ×V))(k:κ)(v:V):(putK kvs k v).length<=kvs.length+1:=by
 unfold putK;split
 ·rw[za];omega
 ·rw[zB,zE,zzl];omega
def aac{kvs:List (κ×V)}{k:κ}(v:V)(h:pF kvs k=none):putK kvs k v=kvs++[(k,v)]:=by
 unfold putK;rw[oU,h];exact ze (by decide)
def Ly.isSome_eq{o:Option V}{u:Option Value}(r:Ly o u):o.isSome=u.isSome:=by
 cases o with
 |none=>cases u with
  |none=>rfl
  |some _=>exact(show False from r).elim
 |some _=>cases u with
  |none=>exact(show False from r).elim
  |some _=>rfl
theorem Ly.getD{o:Option V}{u:Option Value}{d:V}{d':Value}(r:Ly o u)(rd:RelV d d'):RelV (o.getD d) (u.getD d'):=by
 cases o with
 |none=>cases u with
  |none=>exact rd
  |some _=>exact(show False from r).elim
 |some _=>cases u with
  |none=>exact(show False from r).elim
  |some _=>exact r
def KV.val{kvs:List (κ×V)}{vs:List (κ×Value)}(r:KV kvs vs)(k:κ):Ly (pF kvs k) (valueAt vs k):=by
 unfold KV at r
 induction r with
 |nil=>exact True.intro
 | @cons p q ps qs h t ih=>
  obtain⟨h1,h2⟩:=h;by_cases e:p.1=k
  ·have e':q.1=k:=h1.symm.trans e
   have b:valueAt (q::qs) k=some q.2:=by simp[valueAt,yZ,e']
   rw[lu e,b];exact h2
  ·have e':¬q.1=k:=λz=>e (h1.trans z)
   have b:valueAt (q::qs) k=valueAt qs k:=by simp[valueAt,yZ,e']
   rw[kJ e,b];exact ih
theorem KV.any{kvs:List (κ×V)}{vs:List (κ×Value)}(r:KV kvs vs)(k:κ):(kvs.any λq=>decide (q.1=k))=vs.any λq=>decide (q.1=k):=by
 unfold KV at r
 induction r with
 |nil=>rfl
 |cons h t ih=>rw[List.any_cons,List.any_cons,ih,h.1]
def KV.repl{kvs:List (κ×V)}{vs:List (κ×Value)}(r:KV kvs vs)(k:κ){y:V}{u:Value}(ry:RelV y u):
  KV (kvs.map λkv=>if kv.1=k then(kv.1,y)else kv) (vs.map λkv=>if kv.1=k then(kv.1,u)else kv):=by
 unfold KV at r⊢
 induction r with
 |nil=>exact .nil
 | @cons p q ps qs h t ih=>
  rw[zi,zi];refine .cons ?_ ih;obtain⟨h1,h2⟩:=h;by_cases e:p.1=k
  ·rw[zl e,zl (h1.symm.trans e)];exact⟨h1,ry⟩
  ·rw[ze e,ze (λz=>e (h1.trans z))];exact⟨h1,h2⟩
def KV.put{kvs:List (κ×V)}{vs:List (κ×Value)}(r:KV kvs vs)(k:κ){y:V}{u:Value}(q:RelV y u):KV (putK kvs k y) (stored vs k u):=by
 unfold putK stored;rw[r.any k];by_cases e:(vs.any λz=>decide (z.1=k))=true
 ·rw[zl e,zl e];exact r.repl k q
 ·rw[ze e,ze e];exact Paired.snoc r ⟨rfl,q⟩
def KV.drop{kvs:List (κ×V)}{vs:List (κ×Value)}(r:KV kvs vs)(k:κ):KV (Dv kvs k) (without vs k):=by
 unfold KV at r⊢;unfold Dv without
 induction r with
 |nil=>exact .nil
 | @cons p q ps qs h t ih=>
  obtain⟨h1,h2⟩:=h;rw[zzH,zzH];by_cases e:p.1=k
  ·have a:¬decide (p.1≠k)=true:=by simp[e]
   have b:¬decide (q.1≠k)=true:=by simp[h1.symm.trans e]
   rw[ze a,ze b];exact ih
  ·have e':¬q.1=k:=λz=>e (h1.trans z)
   have a:decide (p.1≠k)=true:=by simp[e]
   have b:decide (q.1≠k)=true:=by simp[e']
   rw[zl a,zl b];exact .cons ⟨h1,h2⟩ ih
def KV.keys{kvs:List (κ×V)}{vs:List (κ×Value)}(r:KV kvs vs):kvs.map (·.1)=vs.map (·.1):=by
 unfold KV at r
 induction r with
 |nil=>rfl
 |cons h t ih=>rw[zi,zi,ih,h.1]
theorem KV.length{kvs:List (κ×V)}{vs:List (κ×Value)}(r:KV kvs vs):kvs.length=vs.length:=z7 r
def Tu(kvs:List (κ×V))(k:κ):(Dv kvs k).length<=kvs.length:=yn _ _
end
def OJ{P:Program}{w:World}{k:Key}{u:Value}(r:RelV (kV k) u):(jK P w).is k u=true:=by
 cases k with
 |inl i=>obtain⟨t,e⟩:=(show∃t,u=Value.int i t from r);subst e;exact Rt P w i t
 |inr x=>obtain⟨t,e⟩:=(show∃t,u=Value.str x t from r);subst e;exact RG P w x t
theorem Rn{P:Program}{w:World}:∀{ks:List Key}{us:List Value},Vals (ks.map kV) us->ItemsAre (jK P w) ks us
 |[],_,r=>by rw[zzu]at r;cases r;exact .nil
 |k::ks,_,r=>by
  rw[zi]at r
  cases r with
  |cons h t=>exact .cons (OJ h) (Rn t)
abbrev KT(H:Hp):List (List Key×V)->List (List Key×Addr×Value)->Prop:=Paired λp q=>p.1=q.1/\H q.2.1=some (.tup (p.1.map kV))/\RelV p.2 q.2.2
def KT.val{H:Hp}{kvs:List (List Key×V)}{xs:List (List Key×Addr×Value)}(r:KT H kvs xs)(k:List Key):Ly (pF kvs k) ((atKey xs k).map (·.2)):=by
 induction r with
 |nil=>exact True.intro
 | @cons p q ps qs h t ih=>
  obtain⟨h1,_,h2⟩:=h;by_cases e:p.1=k
  ·have e':q.1=k:=h1.symm.trans e
   have b:atKey (q::qs) k=some q.2:=by simp[atKey,yZ,e']
   rw[lu e,b];exact h2
  ·have e':¬q.1=k:=λz=>e (h1.trans z)
   have b:atKey (q::qs) k=atKey qs k:=by simp[atKey,yZ,e']
   rw[kJ e,b];exact ih
def KT.repl{H:Hp}{kvs:List (List Key×V)}{xs:List (List Key×Addr×Value)}(r:KT H kvs xs)(k:List Key){y:V}{u:Value}(ry:RelV y u):
  KT H (kvs.map λkv=>if kv.1=k then(kv.1,y)else kv) (xs.map (putAt k u)):=by
 induction r with
 |nil=>exact .nil
 | @cons p q ps qs h t ih=>
  rw[zi,zi];refine .cons ?_ ih;obtain⟨h1,h2,h3⟩:=h;unfold putAt;by_cases e:p.1=k
  ·rw[zl e,zl (h1.symm.trans e)];exact⟨h1,h2,ry⟩
  ·rw[ze e,ze (λz=>e (h1.trans z))];exact⟨h1,h2,h3⟩
def KT.put{H:Hp}{kvs:List (List Key×V)}{xs:List (List Key×Addr×Value)}(r:KT H kvs xs)(k:List Key){b:Addr}{y:V}{u:Value}(hb:H b=some (.tup (k.map kV)))(z:RelV y u):
  KT H (putK kvs k y) (storedH xs k b u):=by
 have e:(kvs.any λkv=>decide (kv.1=k))=(atKey xs k).isSome:=by
  rw[oU,(r.val k).isSome_eq,Option.isSome_map]
 unfold putK storedH;rw[e];by_cases q:(atKey xs k).isSome=true
 ·rw[zl q,zl q];exact r.repl k z
 ·rw[ze q,ze q];exact Paired.snoc r ⟨rfl,hb,z⟩
def KT.keeps{H H':Hp}{kvs:List (List Key×V)}{xs:List (List Key×Addr×Value)}(r:KT H kvs xs)(q:∀b ys,H b=some (.tup ys)->H' b=some (.tup ys)):KT H' kvs xs:=
 Paired.mapP r λ_ _ z=>⟨z.1,q _ _ z.2.1,z.2.2⟩
section
variable{P:Program}{w:World}{H:Hp}{h:Heap}{a:Addr}
def akY{u:HO}(ok:HOk P w H h)(e:Rd H a u):mj P w H h a u:=e.ok ok
def Th{kvs:List (Key×V)}(ok:HOk P w H h)(e:Rd H a (.dK kvs)):kvs.length<=sizeLine/\(a==sysModules)=false/\∃vs,KV kvs vs/\h.DictOf (jK P w) a vs:=
 show mj P w H h a (.dK kvs)from akY ok e
def YS{kvs:List (Key×V)}(ok:HOk P w H h)(e:H a=some (.dK kvs)):kvs.length<=sizeLine/\(a==sysModules)=false/\∃vs,KV kvs vs/\h.DictOf (jK P w) a vs:=Th ok (.inl e)
def PQ{ks:List Key}(ok:HOk P w H h)(e:H a=some (.tup (ks.map kV))):(tupleKind (jK P w)).is h ks a:=by
 obtain⟨_,its,r,o,h1,h2,n,q⟩:=(show mj P w H h a (.tup (ks.map kV))from ok a _ e);exact⟨o,its.toArray,n,h1,h2,q,by simpa using Rn r⟩
def VN{kvs:List (List Key×V)}(ok:HOk P w H h)(e:Rd H a (.dT kvs)):kvs.length<=sizeLine/\(a==sysModules)=false/\
  ∃xs,KT H kvs xs/\h.DictOfH (tupleKind (jK P w)) a xs:=by
 obtain⟨z,y,xs,r,o,es,ep,h1,h2,h3,h4,h5⟩:=(show mj P w H h a (.dT kvs)from akY ok e);refine⟨z,y,xs,r,o,es,ep,h1,h2,h3,h4,λx hx=>?_,h5⟩
 have aa:∀{l:List (List Key×V)}{m:List (List Key×Addr×Value)},KT H l m->∀x∈m,(tupleKind (jK P w)).is h x.1 x.2.1:=by
  intro l m q
  induction q with
  |nil=>intro x hx;exact nomatch hx
  | @cons p q ps qs hq t ih=>
   intro x hx;rcases zt.mp hx with e|hx
   ·subst e
    exact PQ ok (by rw[<-hq.1];exact hq.2.1)
   ·exact ih x hx
 exact aa r x hx
def aml{kvs:List (List Key×V)}(ok:HOk P w H h)(e:H a=some (.dT kvs)):kvs.length<=sizeLine/\(a==sysModules)=false/\
  ∃xs,KT H kvs xs/\h.DictOfH (tupleKind (jK P w)) a xs:=VN ok (.inl e)
end
noncomputable def Yr(H:Hp)(a:Addr)(y:V)(r:Option V):Prop:=
 (∃kvs k,Rd H a (.dK kvs)/\y=kV k/\r=pF kvs k)\/∃kvs k b,Rd H a (.dT kvs)/\y=.ref b/\H b=some (.tup (k.map kV))/\r=pF kvs k
noncomputable def alK(H:Hp)(a:Addr)(y v:V)(H':Hp):Prop:=
 (∃kvs k,H a=some (.dK kvs)/\y=kV k/\kvs.length<sizeLine/\H'=upd H a (.dK (putK kvs k v)))\/
 ∃kvs k b,H a=some (.dT kvs)/\y=.ref b/\H b=some (.tup (k.map kV))/\kvs.length<sizeLine/\H'=upd H a (.dT (putK kvs k v))
def aif{H:Hp}{a:Addr}{kvs:List (Key×V)}{k:Key}(e:H a=some (.dK kvs)):Yr H a (kV k) (pF kvs k):=.inl ⟨kvs,k,.inl e,rfl,rfl⟩
def Ud{H:Hp}{a:Addr}{kvs:List (Key×V)}{k:Key}{v:V}(e:H a=some (.dK kvs))(q:kvs.length<sizeLine):alK H a (kV k) v (upd H a (.dK (putK kvs k v))):=.inl ⟨kvs,k,e,rfl,q,rfl⟩
section
variable{X:Cx}{pins:List (Addr×Obj)}{σ:St}{H:Hp}{s:Shared}{a:Addr}{y v:V}{u r:Value}{o:Option V}{A:Around}{E:Value->Shared->Prop}
def Inv.big(I:Inv X pins σ H s):sysModules<s.heap.objs.size:=by
 have h:mainGlobals<s.heap.objs.size:=(I.mod.glob.keeps I.bk).lt;exact zzX (by decide) h
def Zy{Q:Value->Shared->Prop}(hu:A.units+1<cLine)(I:Inv X pins σ H s)(g:Yr H a y (some v))(ry:RelV y u)(h:∀w' s',Inv X pins σ H s'->RelV v w'->Q w' s'):
  wpAny (model X.prog X.w) A (getItem (.ref a) u) Q E s:=by
 rcases g with⟨kvs,k,e,ey,l⟩|⟨kvs,k,b,e,ey,eb,l⟩
 ·subst ey
  obtain⟨z,hd,vs,rel,dd⟩:=Th I.hok e;obtain⟨w',hw,q⟩:=Ly.some_of (v:=v) (o:=valueAt vs k) (by rw[l];exact rel.val k);exact wpAny_getItem_of (OJ ry) dd.mapOf hw (h w' _ (I.tok _) q)
 ·subst ey
  cases (show u=Value.ref b from ry);obtain⟨z,hd,xs,rel,dd⟩:=VN I.hok e;obtain⟨w',hw,q⟩:=Ly.some_of (v:=v) (o:=(atKey xs k).map (·.2)) (by rw[l];exact rel.val k);obtain⟨p,hp,aa⟩:=zzw.mp hw;refine wpAny_getItem_heap (tupleKind_room_in1 hu) (PQ I.hok eb) dd hp ?_;rw[aa];exact h w' _ (I.tok _) q
def RD{h':Heap}{t':Nat}{ob:HO}(I:Inv X pins σ H s)(mu:Mut (H a))(hs:Heap.SameBut a s.heap h')(he:∃q,h'.get? a=some q)(aa:mj X.prog X.w (upd H a ob) h' a ob):
  Inv X pins σ (upd H a ob) {s with heap:=h',toks:=t'}:=
 I.write (x:=a) (e:=a) mu (.inl rfl) (λb q hb z=>(hs.2 b hb).trans z) he aa
def UJ{P:Program}{w:World}{H':Hp}{h':Heap}{kvs:List (Key×V)}{vs:List (Key×Value)}(z:kvs.length<=sizeLine)(hd:(a==sysModules)=false)(rel:KV kvs vs)(q:h'.DictOf (jK P w) a vs):
  mj P w H' h' a (.dK kvs):=⟨z,hd,vs,rel,q⟩
def ZD{H':Hp}{Q:Unit->Shared->Prop}(hu:A.units+1<cLine)(I:Inv X pins σ H s)(g:alK H a y v H')(ry:RelV y u)(rv:RelV v r)(h:∀s',Inv X pins σ H' s'->Q () s'):
  wpAny (model X.prog X.w) A (setItem (.ref a) u r) Q E s:=by
 rcases g with⟨kvs,k,e,ey,l,eH⟩|⟨kvs,k,b,e,ey,eb,l,eH⟩
 ·subst ey eH
  obtain⟨z,hd,vs,rel,dd⟩:=YS I.hok e;have hz:vs.length<=sizeLine:=by rw[<-rel.length];exact z
  have hl:(putK kvs k v).length<=sizeLine:=by have:=Jj kvs k v;omega
  refine wpAny_setItem_pairs (hsz:=hz) (OJ ry) dd λh' aa hs=>h _ ?_;have he:∃q,h'.get? a=some q:=let⟨q,_,_,hq,_⟩:=aa;⟨q,hq⟩
  exact RD I (by rw[e];exact True.intro) hs he (UJ hl hd (rel.put k rv) aa)
 ·subst ey eH
  cases (show u=Value.ref b from ry);obtain⟨z,hd,xs,rel,dd⟩:=aml I.hok e;have hz:xs.length<=sizeLine:=by rw[<-z7 rel];exact z
  have hl:(putK kvs k v).length<=sizeLine:=by have:=Jj kvs k v;omega
  refine wpAny_setItem_heap (hsz:=hz) (tupleKind_room_in1 hu) (PQ I.hok eb) dd λh' aa hs=>h _ ?_;obtain⟨q,es,ep,hq,h2,h3,h4,_,h5⟩:=aa;refine RD I (by rw[e];exact True.intro) hs ⟨q,hq⟩ ⟨hl,hd,_,(rel.put k eb rv).keeps λc ys ec=>?_,q,es,ep,hq,h2,h3,h4,h5⟩;rw[iZ (alO ec e (λz=>nomatch z))];exact ec
end
section
variable{X:Cx}{pins:List (Addr×Obj)}{σ:St}{H:Hp}{s:Shared}{a:Addr}{kvs:List (Key×V)}{k:Key}{u:Value}{A:Around}{E:Value->Shared->Prop}
def alv{v:V}{aa:List Value}{Q:Value->Shared->Prop}(I:Inv X pins σ H s)(e:H a=some (.dK kvs))(ry:RelV (kV k) u)(l:pF kvs k=some v)(hm:aa=[]\/∃x,aa=[x])
  (h:∀w' s',Inv X pins σ (upd H a (.dK (Dv kvs k))) s'->RelV v w'->Q w' s'):wpAny (model X.prog X.w) A (call (.builtin "dict.pop") (.ref a::u::aa)) Q E s:=by
 obtain⟨z,hd,vs,rel,dd⟩:=YS I.hok e;obtain⟨w',hw,ac⟩:=Ly.some_of (v:=v) (o:=valueAt vs k) (by rw[<-l];exact rel.val k)
 have hp:(keyPart u).isSome=true:=by
  cases k with
  |inl i=>obtain⟨t,q⟩:=(show∃t,u=Value.int i t from ry);subst q;rfl
  |inr x=>obtain⟨t,q⟩:=(show∃t,u=Value.str x t from ry);subst q;rfl
 have ha:argsOk "dict.pop" ⟨.ref a::u::aa,[]⟩:=by
  rcases hm with q|⟨x,q⟩
  ·subst q;exact PySem.F.args_dict_pop_2 _ _
  ·subst q;exact PySem.F.args_dict_pop_3 _ _ _
 refine yW y6 dd.typeIs PySem.F.entry_dict_pop ha (meets_dict_pop_there (jK X.prog X.w) a (OJ ry) aa hm hp)
  ⟨vs,w',dd,by rw[<-rel.length];exact z,hw,λh' ab hs=>h w' _ ?_ ac⟩
 have he:∃q,h'.get? a=some q:=let⟨q,_,_,hq,_⟩:=ab;⟨q,hq⟩
 exact RD I (by rw[e];exact True.intro) hs he (UJ (zN (Tu kvs k) z) hd (rel.drop k) ab)
def akS{r:Value}{Q:Value->Shared->Prop}(I:Inv X pins σ H s)(e:H a=some (.dK kvs))(ry:RelV (kV k) u)(l:pF kvs k=none)(h:∀s',Inv X pins σ H s'->Q r s'):
  wpAny (model X.prog X.w) A (call (.builtin "dict.pop") [.ref a,u,r]) Q E s:=by
 obtain⟨z,hd,vs,rel,dd⟩:=YS I.hok e;have hn:valueAt vs k=none:=Ly.none_of (by rw[<-l];exact rel.val k)
 have hp:(keyPart u).isSome=true:=by
  cases k with
  |inl i=>obtain⟨t,q⟩:=(show∃t,u=Value.int i t from ry);subst q;rfl
  |inr x=>obtain⟨t,q⟩:=(show∃t,u=Value.str x t from ry);subst q;rfl
 exact yW y6 dd.typeIs PySem.F.entry_dict_pop (PySem.F.args_dict_pop_3 _ _ _) (meets_dict_pop_default (jK X.prog X.w) a (OJ ry) hd hp r) ⟨vs,dd,hn,h _ (I.tok _)⟩
end
noncomputable def amB(i:Expr):Prop:=∀ov iv,subscripted i false ov iv=operate [ov,iv] (getItem ov iv)
def ajF{prog:Program}{w:World}{A:Around}{E:Value->Shared->Prop}{s:Shared}{env:Env}{value q:Expr}{pos:Pos}{T id:String}{Q:Value->Shared->Prop}
  (hl:typeLookup (.type T) "__getitem__" =pure (some (.builtin id))) (hs:amB q)
  (h:wpAny (model prog w) A (eval value env) (λo s₁=>wpAny (model prog w) A (eval q env) (λi s₂=>s₂.TypeIs o T/\wpAny (model prog w) A (getItem o i) Q E s₂) E s₁) E s):
  wpAny (model prog w) A (eval (.Subscript value q pos) env) Q E s:=by
 refine Subscript_ (ya h (λo s₁ h₁=>ya h₁ (λi s₂ h₂=>?_) λ_ _ x=>x) λ_ _ x=>x);obtain⟨hT,h₂⟩:=h₂;unfold subscriptTail;refine zc ?_;rw[getitemInPython_of_ne hT.not_modules];refine zc (zzT hT hl ?_)
 have z:wpAny (model prog w) A (subscripted q false o i) (λr s₃=>wpAny (model prog w) A (letTemporaryGo value o r>>=λ_=>pure r) Q E s₃) E s₂:=by
  rw[hs o i];exact wpAny_operating (ya h₂ (λr s₃ h₃=>zc (wpAny_letTemporaryGo (zx h₃))) λ_ _ x=>x)
 first
  |exact zx (zc z)
  |exact zc (zx (zc z))
  |exact zc z
def Sv{X:Cx}{pins:List (Addr×Obj)}{σ:St}{H:Hp}{s:Shared}{a:Addr}{y:V}{o:Option V}(I:Inv X pins σ H s)(g:Yr H a y o):s.TypeIs (.ref a) "dict" :=by
 rcases g with⟨kvs,k,e,_,_⟩|⟨kvs,k,b,e,_,_,_⟩
 ·obtain⟨_,_,vs,_,q⟩:=Th I.hok e
  exact q.typeIs
 ·obtain⟨_,_,xs,_,q⟩:=VN I.hok e
  exact q.typeIs
noncomputable def akL(td ty:TE):TE:=λσ H Q=>td σ H λx H1=>ty σ H1 λy H2=>∃a v,x=.ref a/\Yr H2 a y (some v)/\Q v H2
noncomputable def ajf(td ty tv:TE):TS:=λD σ H=>tv σ H λv H1=>td σ H1 λx H2=>ty σ H2 λy H3=>∃a H4,x=.ref a/\alK H3 a y v H4/\D.nx σ H4
section
variable{X:Cx}{o i e value:Expr}{pos pos' tpos:Pos}{td ty tv:TE}
def ajP(hu:X.A.units+1<cLine)(ho:PE X o td)(hi:PE X i ty)(hs:amB i):PE X (.Subscript o i pos) (akL td ty):=by
 intro pins s σ H Q I h;refine ajF PySem.F.slot_dict_getitem.lookup hs (thn (ho pins s σ H _ I h) λu s1 ⟨x,H1,I1,rx,q1⟩=>thn (hi pins s1 σ H1 _ I1 q1) λiv s2 ⟨y,H2,z,ry,a,v,ex,g,q2⟩=>?_);subst ex;obtain rfl:u=Value.ref a:=rx;exact⟨Sv z g,Zy hu z g ry λw' s3 I3 q=>⟨v,H2,I3,q,q2⟩⟩
def JS(hu:X.A.units+1<cLine)(ho:PE X o td)(hi:PE X i ty)(q:PE X value tv)(hs:swapsWith value (some (.Subscript o i pos')) pos.line X.env=pure false):
  PS X (.Assign [.Subscript o i pos'] value pos) (ajf td ty tv):=by
 intro pins s σ H D I h;refine wpAny_Assign_Subscript (thn (q pins s σ H _ I h) λr s1 ⟨v,H1,z,rv,q1⟩=>thn (ho pins s1 σ H1 _ z q1) λu s2 ⟨x,H2,I2,rx,q2⟩=>thn (hi pins s2 σ H2 _ I2 q2) λiv s3 ⟨y,H3,I3,ry,a,H4,ex,g,q3⟩=>?_) hs;subst ex;obtain rfl:u=Value.ref a:=rx;exact ZD hu I3 g ry rv λs4 I4=>⟨σ,H4,I4,q3⟩
end
def ahN{P:Program}{w:World}{H:Hp}(h:Heap)(q:sysModules<h.objs.size):mj P w H (h.push {cls:=.type "dict",data:=.dict #[]}) h.objs.size (.dK []):=
 ⟨zK _,beq_eq_false_iff_ne.mpr (Ne.symm (zD q)),[],.nil,Heap.DictOf.new h⟩
noncomputable def aia:TE:=λ_ H Q=>∀p,H p=none->Q (.ref p) (upd H p (.dK []))
section
variable{X:Cx}{pos:Pos}
def Uy:PE X (.Dict [] [] pos) aia:=λpins s σ H Q I h=>
 wpAny_Dict_empty ⟨.ref s.heap.objs.size,_,I.laid (a:=s.heap.objs.size) (o:=.dK []) (t':=s.toks) (λ_ _ q=>zd _ q) (zo _) (ahN s.heap I.big),rfl,h _ (I.hok.fresh (zo _))⟩
end
structure M1(X:Cx)(o:Expr)(m:Str)(apos:Pos)(e:Expr)(cpos:Pos):Prop where
 base:attributeBase o m X.env (eval o X.env)=eval o X.env
 few:((backTo cpos (starEach [e] X.env)).all (λx=>!x.1) && (backToKw cpos (keywordEach [] X.env)).all (λx=>x.1.isSome)
  && decide (([e]:List Expr).length+([]:List Keyword).length+(if([]:List Keyword).isEmpty then 0 else 1)<30))=true
 line:(apos.endLine==cpos.line)=true
 trees:backTo cpos (starEach [e] X.env)=[(false,eval e X.env)]
structure M2(X:Cx)(o:Expr)(m:Str)(apos:Pos)(e f:Expr)(cpos:Pos):Prop where
 base:attributeBase o m X.env (eval o X.env)=eval o X.env
 few:((backTo cpos (starEach [e,f] X.env)).all (λx=>!x.1) && (backToKw cpos (keywordEach [] X.env)).all (λx=>x.1.isSome)
  && decide (([e,f]:List Expr).length+([]:List Keyword).length+(if([]:List Keyword).isEmpty then 0 else 1)<30))=true
 line:(apos.endLine==cpos.line)=true
 trees:backTo cpos (starEach [e,f] X.env)=[(false,eval e X.env),(false,eval f X.env)]
noncomputable def IsD(H:Hp)(a:Addr):Prop:=(∃kvs,Rd H a (.dK kvs))\/∃kvs,Rd H a (.dT kvs)
def Vd{X:Cx}{pins:List (Addr×Obj)}{σ:St}{H:Hp}{s:Shared}{a:Addr}(I:Inv X pins σ H s)(d:IsD H a):
  s.TypeIs (.ref a) "dict" /\(∀b,Value.ref a=.ref b->∃z,s.heap.get? b=some z/\z.dict=none)/\(a==sysModules)=false:=by
 rcases d with⟨kvs,e⟩|⟨kvs,e⟩
 ·obtain⟨_,hd,vs,_,dd⟩:=Th I.hok e
  refine⟨dd.typeIs,λb q=>?_,hd⟩;cases q;obtain⟨z,_,_,h1,h2,_⟩:=dd;exact⟨z,h1,h2.2.1⟩
 ·obtain⟨_,hd,xs,_,dd⟩:=VN I.hok e
  refine⟨dd.typeIs,λb q=>?_,hd⟩;cases q;obtain⟨z,_,_,h1,h2,_⟩:=dd;exact⟨z,h1,h2.2.1⟩
section
variable{X:Cx}{pins:List (Addr×Obj)}{σ:St}{H:Hp}{s:Shared}{a:Addr}{y d:V}{u r:Value}{o:Option V}{A:Around}{E:Value->Shared->Prop}
def aly{Q:Value->Shared->Prop}(hu:A.units+1<cLine)(I:Inv X pins σ H s)(g:Yr H a y o)(ry:RelV y u)(h:∀w' s',Inv X pins σ H s'->RelV (o.getD .non) w'->Q w' s'):
  wpAny (model X.prog X.w) A (call (.builtin "dict.get") [.ref a,u]) Q E s:=by
 rcases g with⟨kvs,k,e,ey,l⟩|⟨kvs,k,b,e,ey,eb,l⟩
 ·subst ey
  obtain⟨z,hd,vs,rel,q⟩:=Th I.hok e;refine yW yA q.typeIs yV (PySem.F.args_dict_get_2 _ _) (meets_dict_get (jK X.prog X.w) a (OJ ry) hd) ⟨_,q.mapOf,h _ _ (I.tok _) ?_⟩;rw[l];exact(rel.val k).getD rfl
 ·subst ey
  cases (show u=Value.ref b from ry);obtain⟨z,hd,xs,rel,q⟩:=VN I.hok e;refine yW yA q.typeIs yV (PySem.F.args_dict_get_2 _ _) (meetsH_dict_get (tupleKind (jK X.prog X.w)) a b hd) ⟨tupleKind_room_in1 hu,k,xs,PQ I.hok eb,q,h _ _ (I.tok _) ?_⟩;rw[l];exact(rel.val k).getD rfl
def akP{Q:Value->Shared->Prop}(hu:A.units+1<cLine)(I:Inv X pins σ H s)(g:Yr H a y o)(ry:RelV y u)(rd:RelV d r)(h:∀w' s',Inv X pins σ H s'->RelV (o.getD d) w'->Q w' s'):
  wpAny (model X.prog X.w) A (call (.builtin "dict.get") [.ref a,u,r]) Q E s:=by
 rcases g with⟨kvs,k,e,ey,l⟩|⟨kvs,k,b,e,ey,eb,l⟩
 ·subst ey
  obtain⟨z,hd,vs,rel,q⟩:=Th I.hok e;refine yW yA q.typeIs yV (PySem.F.args_dict_get_3 _ _ _) (meets_dict_get_default (jK X.prog X.w) a (OJ ry) hd r) ⟨_,q.mapOf,h _ _ (I.tok _) ?_⟩;rw[l];exact(rel.val k).getD rd
 ·subst ey
  cases (show u=Value.ref b from ry);obtain⟨z,hd,xs,rel,q⟩:=VN I.hok e;refine yW yA q.typeIs yV (PySem.F.args_dict_get_3 _ _ _) (meetsH_dict_get_default (tupleKind (jK X.prog X.w)) a b hd r) ⟨tupleKind_room_in1 hu,k,xs,PQ I.hok eb,q,h _ _ (I.tok _) ?_⟩;rw[l];exact(rel.val k).getD rd
end
noncomputable def aib(td ty:TE):TE:=λσ H Q=>td σ H λx H1=>∃a,x=.ref a/\IsD H1 a/\ty σ H1 λy H2=>∃o,Yr H2 a y o/\Q (o.getD .non) H2
noncomputable def ahY(td ty tx:TE):TE:=λσ H Q=>td σ H λx H1=>∃a,x=.ref a/\IsD H1 a/\ty σ H1 λy H2=>tx σ H2 λz H3=>∃o,Yr H3 a y o/\Q (o.getD z) H3
noncomputable def Zz(td ty:TE):TE:=λσ H Q=>td σ H λx H1=>∃a,x=.ref a/\IsD H1 a/\ty σ H1 λy H2=>∃kvs k v,H2 a=some (.dK kvs)/\y=kV k/\pF kvs k=some v/\Q v (upd H2 a (.dK (Dv kvs k)))
noncomputable def aij(td ty tx:TE):TE:=λσ H Q=>td σ H λx H1=>∃a,x=.ref a/\IsD H1 a/\ty σ H1 λy H2=>tx σ H2 λz H3=>∃kvs k,H3 a=some (.dK kvs)/\y=kV k/\
 (∀v,pF kvs k=some v->Q v (upd H3 a (.dK (Dv kvs k))))/\(pF kvs k=none->Q z H3)
section
variable{X:Cx}{o e f:Expr}{apos cpos:Pos}{td ty tx:TE}
def ahD(hu:X.A.units+1<cLine)(ho:PE X o td)(he:PE X e ty)(m:M1 X o "get" apos e cpos):PE X (.Call (.Attribute o "get" apos) [e] [] cpos) (aib td ty):=by
 intro pins s σ H Q I h;refine zzA m.base m.few m.line yb yA PySem.F.type_dict_get (thn (ho pins s σ H _ I h) λu s1 ⟨x,H1,z,rx,a,ex,d,q1⟩=>?_);subst ex;obtain rfl:u=Value.ref a:=rx;obtain⟨t1,t2,_⟩:=Vd z d;refine⟨t1,t2,?_⟩;rw[m.trees];refine Calls.callWith_builtin rfl (Calls.evalArgs_plain (Calls.spliced_cons (thn (he pins s1 σ H1 _ z q1) λiv s2 ⟨y,H2,I2,ry,ov,g,q2⟩=>Calls.spliced_nil ?_)));exact aly hu I2 g ry λw' s3 I3 q=>⟨_,H2,I3,q,q2⟩
def rm(hu:X.A.units+1<cLine)(ho:PE X o td)(he:PE X e ty)(hf:PE X f tx)(m:M2 X o "get" apos e f cpos):PE X (.Call (.Attribute o "get" apos) [e,f] [] cpos) (ahY td ty tx):=by
 intro pins s σ H Q I h;refine zzA m.base m.few m.line yb yA PySem.F.type_dict_get (thn (ho pins s σ H _ I h) λu s1 ⟨x,H1,I1,rx,a,ex,d,q1⟩=>?_);subst ex;obtain rfl:u=Value.ref a:=rx;obtain⟨t1,t2,_⟩:=Vd I1 d;refine⟨t1,t2,?_⟩;rw[m.trees]
 refine Calls.callWith_builtin rfl (Calls.evalArgs_plain (Calls.spliced_cons (thn (he pins s1 σ H1 _ I1 q1) λiv s2 ⟨y,H2,I2,ry,q2⟩=>
  Calls.spliced_cons (thn (hf pins s2 σ H2 _ I2 q2) λfv s3 ⟨z,H3,I3,rz,ov,g,q3⟩=>Calls.spliced_nil ?_))))
 exact akP hu I3 g ry rz λw' s4 I4 q=>⟨_,H3,I4,q,q3⟩
def aar(ho:PE X o td)(he:PE X e ty)(m:M1 X o "pop" apos e cpos):PE X (.Call (.Attribute o "pop" apos) [e] [] cpos) (Zz td ty):=by
 intro pins s σ H Q I h;refine zzA m.base m.few m.line yb y6 PySem.F.type_dict_pop (thn (ho pins s σ H _ I h) λu s1 ⟨x,H1,z,rx,a,ex,d,q1⟩=>?_);subst ex;obtain rfl:u=Value.ref a:=rx;obtain⟨t1,t2,_⟩:=Vd z d;refine⟨t1,t2,?_⟩;rw[m.trees];refine Calls.callWith_builtin rfl (Calls.evalArgs_plain (Calls.spliced_cons (thn (he pins s1 σ H1 _ z q1) λiv s2 ⟨y,H2,I2,ry,kvs,k,v,ea,ey,l,q2⟩=>Calls.spliced_nil ?_)));subst ey;exact alv I2 ea ry l (.inl rfl) λw' s3 I3 q=>⟨v,_,I3,q,q2⟩
def ZS(ho:PE X o td)(he:PE X e ty)(hf:PE X f tx)(m:M2 X o "pop" apos e f cpos):PE X (.Call (.Attribute o "pop" apos) [e,f] [] cpos) (aij td ty tx):=by
 intro pins s σ H Q I h;refine zzA m.base m.few m.line yb y6 PySem.F.type_dict_pop (thn (ho pins s σ H _ I h) λu s1 ⟨x,H1,I1,rx,a,ex,d,q1⟩=>?_);subst ex;obtain rfl:u=Value.ref a:=rx;obtain⟨t1,t2,_⟩:=Vd I1 d;refine⟨t1,t2,?_⟩;rw[m.trees]
 refine Calls.callWith_builtin rfl (Calls.evalArgs_plain (Calls.spliced_cons (thn (he pins s1 σ H1 _ I1 q1) λiv s2 ⟨y,H2,I2,ry,q2⟩=>
  Calls.spliced_cons (thn (hf pins s2 σ H2 _ I2 q2) λfv s3 ⟨z,H3,I3,rz,kvs,k,ea,ey,q3,q4⟩=>Calls.spliced_nil ?_))))
 subst ey
 cases l:pF kvs k with
 |some v=>exact alv I3 ea ry l (.inr ⟨fv,rfl⟩) λw' s4 I4 q=>⟨v,_,I4,q,q3 v l⟩
 |none=>exact akS I3 ea ry l λs4 I4=>⟨z,H3,I4,rz,q4 l⟩
end
section
variable{X:Cx}{pins:List (Addr×Obj)}{σ:St}{H:Hp}{s:Shared}{a:Addr}{kvs:List (Key×V)}{A:Around}{E:Value->Shared->Prop}
def ahQ{Q:Value->Shared->Prop}(I:Inv X pins σ H s)(e:Rd H a (.dK kvs))(h:∀p s',H p=none->Inv X pins σ (upd H p (.dK kvs)) s'->Q (.ref p) s'):wpAny (model X.prog X.w) A (call (.type "dict") [.ref a]) Q E s:=by
 obtain⟨z,hd,vs,rel,dd⟩:=Th I.hok e;refine kt_call_dict hd dd (by rw[<-rel.length];exact z) λh' aa hs=>?_;refine h _ _ (I.hok.fresh (zo _)) (I.laid (a:=s.heap.objs.size) (o:=.dK kvs) (t':=s.toks) (λb q hq=>?_) (zo _) (UJ z (beq_eq_false_iff_ne.mpr (Ne.symm (zD I.big))) rel aa));exact(hs.2 b (zD (zv hq))).trans (zd _ hq)
end
end L2
namespace L2
open PySem PySem.Spec PyProof.Rows
section
variable{κ:Type} [DecidableEq κ]
def aay{kvs:List (κ×V)}{k:κ}(h:pF kvs k=none):¬k∈kvs.map (·.1):=by
 intro m;obtain⟨p,hp,e⟩:=zb.mp m;have q:(kvs.any λz=>decide (z.1=k))=true:=yE.mpr ⟨p,hp,zM e⟩;rw[oU,h]at q;exact absurd q (by simp)
theorem Ye:∀{l:List κ}{k:κ},l.Nodup->¬k∈l->(l++[k]).Nodup
 |[],k,_,_=>by simp
 |a::r,k,h,hk=>by
  obtain⟨h1,h2⟩:=zR.mp h;show(a::(r++[k])).Nodup;refine zR.mpr ⟨λm=>?_,Ye h2 λm=>hk (zt.mpr (Or.inr m))⟩;rcases zA.mp m with q|q
  ·exact h1 q
  ·exact hk (zt.mpr (Or.inl (zu.mp q).symm))
def ajw{kvs:List (κ×V)}{k:κ}(v:V)(hn:(kvs.map (·.1)).Nodup)(h:pF kvs k=none):((putK kvs k v).map (·.1)).Nodup:=by
 rw[aac v h,zj];exact Ye hn (aay h)
end
end L2
namespace L2
open PySem PySem.Spec PyProof.Rows
structure ZJ(K:Fg_)(x qual:Str)(st:Stmt)(f:Addr)(fd:FuncData)(dvs:List V):Prop where
 ex:∃(oc:Value)(od:Option Addr)(Td:Addr)(kV doc pm:Value)(an:Option Addr)(cdv ct:Value)(osl:Array (Option Value))(ot:Obj)(its:List Value)(nt:Nat),
  fd=PySem.W.fnOf x qual (nq st) (lV st) (iQ st) (.ref Td) kV doc pm an cdv ct/\K.lookup f=some ⟨oc,od,.func fd,osl⟩/\PySem.W.codeIn K cdv qual=true/\K.lookup Td=some ot/\ot.data=.seq its.toArray nt/\Vals dvs its
 kp:PySem.W.keepIn K (.ref f)=true
section
variable{P:Program}{w:World}{K:Fg_}{mg:Str->Option Value}{base:Heap}
def ZJ.ok{x z:Str}{st:Stmt}{f:Addr}{fd:FuncData}{N ps:List Str}{k:Nat}{sp:Sp}{dvs:List V}(F:ZJ K x z st f fd dvs)(S:iU N ps (iQ st))(len:∀vs H Q E,sp vs H Q E->vs.length=ps.length)
  (ab:∀(aa:Value)(A:Around)(outer:List Env)(s:Shared)(H:Hp)(vs:List V)(Q:VK)(E:XK),um k (A.deeper (envOfC z (iQ st) s.heap.objs.size f aa))->sp vs H Q E->
   ∃t,PSs (ZX CX0 P w K mg base N z (iQ st) f aa A outer s H E).nox (lV st) t/\t {nx:=λ_ H'=>Q .non H',rt:=Q} (start N vs) H):jQ P w K mg base CX0 (k+1) f fd ps sp:=by
 obtain⟨oc,od,Td,kV,ae,pm,an,aa,ct,af,ot,its,nt,rfl,lk,ac,_⟩:=F.ex;refine akk lk ac S len λA outer s H vs Q E hr ad=>?_;obtain⟨t,h,q⟩:=ab aa A outer s H vs Q E hr ad;exact⟨t,h.nox,q⟩
def Fun.okv{x q:Str}{st:Stmt}{f:Addr}{fd:FuncData}{N ps:List Str}{k:Nat}{sp:Sp}(F:Fun K x q st f fd)(S:iU N ps (iQ st))
  (z:∀(cdv:Value)(A:Around)(outer:List Env)(s:Shared)(H:Hp)(vs:List V)(Q:VK)(E:XK),um k (A.deeper (envOfC q (iQ st) s.heap.objs.size f cdv))->sp vs H Q E->
   ∃t,PSs (ZX CX0 P w K mg base N q (iQ st) f cdv A outer s H E).nox (lV st) t/\t {nx:=λ_ H'=>Q .non H',rt:=Q} (start N vs) H) (len:∀vs H Q E,sp vs H Q E->vs.length=ps.length:=by walk_at "v"):jQ P w K mg base CX0 (k+1) f fd ps sp:=F.ok S len z
def ZJ.okv{x q:Str}{st:Stmt}{f:Addr}{fd:FuncData}{N ps:List Str}{k:Nat}{sp:Sp}{dvs:List V}(F:ZJ K x q st f fd dvs)(S:iU N ps (iQ st))
  (z:∀(cdv:Value)(A:Around)(outer:List Env)(s:Shared)(H:Hp)(vs:List V)(Q:VK)(E:XK),um k (A.deeper (envOfC q (iQ st) s.heap.objs.size f cdv))->sp vs H Q E->
   ∃t,PSs (ZX CX0 P w K mg base N q (iQ st) f cdv A outer s H E).nox (lV st) t/\t {nx:=λ_ H'=>Q .non H',rt:=Q} (start N vs) H) (len:∀vs H Q E,sp vs H Q E->vs.length=ps.length:=by walk_at "v"):jQ P w K mg base CX0 (k+1) f fd ps sp:=F.ok S len z
def ZJ.binds{x q:Str}{st:Stmt}{f:Addr}{fd:FuncData}{ps:List Str}{dvs:List V}(F:ZJ K x q st f fd dvs)(n:Nat)
  (h:∀(Td:Addr)(kV aa pm:Value)(an:Option Addr)(z ct:Value)(its us:List Value),its.length=dvs.length->(us++its.drop n).length=ps.length->
   ∃k,bindArgs (PySem.W.fnOf x q (nq st) (lV st) (iQ st) (.ref Td) kV aa pm an z ct) ⟨us,[]⟩=(seqItems? (.ref Td)>>=k)/\k (some its.toArray)=pure (ps.zip (us++its.drop n))):∃ds,Binds K fd ps ds/\Vals (dvs.drop n) ds:=by
 obtain⟨oc,od,Td,kV,aa,pm,an,z,ct,ad,ot,its,nt,rfl,lk,ac,lt,ab,hv⟩:=F.ex;refine⟨its.drop n,λs us X hl=>?_,hv.drop n⟩;obtain⟨k,e1,e2⟩:=h Td kV aa pm an z ct its us hv.length.symm hl;exact PySem.W.binds_K X rfl lt ab e1 e2
def SN{x q:Str}{st:Stmt}{f Td:Addr}{oc:Value}{od an:Option Addr}{ab:Array (Option Value)}{kV aa pm z ct:Value}{dvs:List V}{ot:Obj}{its:List Value}{nt:Nat}(l:K.lookup f=some ⟨oc,od,.func (PySem.W.fnOf x q (nq st) (lV st) (iQ st) (.ref Td) kV aa pm an z ct),ab⟩)
  (c:PySem.W.codeIn K z q=true) (k:PySem.W.keepIn K (.ref f)=true) (lt:K.lookup Td=some ot) (hd:ot.data=.seq its.toArray nt) (hv:Vals dvs its):ZJ K x q st f (PySem.W.fnOf x q (nq st) (lV st) (iQ st) (.ref Td) kV aa pm an z ct) dvs:=
 ⟨⟨oc,od,Td,kV,aa,pm,an,z,ct,ab,ot,its,nt,rfl,l,c,lt,hd,hv⟩,k⟩
end
structure ajv(K:Fg_)(C:Addr)(m:Str)(f:Addr):Prop where
 ga:PySem.W.specialIn K (.ref C) "__getattribute__" =some (some (.builtin "type.__getattribute__"))
 rd:PySem.W.readsIn K C (.type "type")=true
 fi:PySem.W.findCls K (.ref C) (.type "type") m=some (.val (.ref f))
section
variable{X:Cx}{CX:CXT}{k:Nat}{f C:Addr}{fd:FuncData}{ps ks:List Str}{sp:Sp}{dvs:List V}{ds:List Value}{E:XK}{x m:Str}{p pos apos:Pos}{e o:Expr}{es:List Expr}{ta:TE}{t tk:TA}{kws:List Keyword}
def oH{pl:Sem Bool}(Z:ajv X.K C m f)(F:jQ X.prog X.w X.K X.mg X.base CX k f fd ps sp)(hr:um k X.A)(hg:Gl X x)(hm:X.mg x=some (.ref C))(hk:PySem.W.keepIn X.K (.ref f)=true)(hb:Binds X.K fd ps ds)(hd:Vals dvs ds)(hx:Ay CX X E)
  (ha:PA X (e::es) t) (z:(x==("__debug__" :Str))=false:=by decide) (he:starEach (e::es) X.env=(false,eval e X.env)::starEach es X.env:=by rfl) (hpl:(backTo pos (starEach es X.env)).any (·.1)=false:=by rfl)
  (ht:eval (.Call (.Attribute (.Name x p) m apos) (e::es) [] pos) X.env=(do
   let ov<-eval (.Name x p) X.env
   standAt apos.atName
   let(f,first)<-holding [ov] (getMethod ov m pl)
   callWith pos f first (backTo pos (starEach (e::es) X.env)) (backToKw pos (keywordEach [] X.env))):=by rfl):
  PE X (.Call (.Attribute (.Name x p) m apos) (e::es) [] pos) (ahv sp dvs E t):=by
 intro pins s σ H Q I h;refine zzC (pl:=pl) (HD I hg hm ?_ z) ht;refine PySem.W.method_cls I.kIn Z.ga (PySem.W.cls_value I.kIn Z.rd Z.fi rfl ?_);have I':Inv X pins σ H {s with toks:=s.toks+1}:=I.tok _;refine zzn (first:=[]) (h₀:=X.base) I.ok.mod.kin hk (thn (ha pos pins _ σ H _ I' h) λus s1 ⟨vs,H1,I1,r,q⟩=>⟨I1.kIn,?_⟩) he hpl;exact Vf F hr hb hd hx I1 r q
inductive Zk(X:Cx)(CX:CXT)(m:Str):List (Addr×Sp)->Prop
 |nil:Zk X CX m []
 |cons {C f:Addr} {fd:FuncData} {ps:List Str} {sp:Sp} {k:Nat} {r:List (Addr×Sp)} (c:Cls X.K C) (hm:Meth X.K C m f) (F:jQ X.prog X.w X.K X.mg X.base CX k f fd ps sp) (hr:um k X.A) (hb:Binds X.K fd ps []) (t:Zk X CX m r):Zk X CX m ((C,sp)::r)
def Zk.get{tab:List (Addr×Sp)}(T:Zk X CX m tab){C:Addr}{sp:Sp}(h:(C,sp)∈tab):∃f fd ps k,Cls X.K C/\Meth X.K C m f/\jQ X.prog X.w X.K X.mg X.base CX k f fd ps sp/\um k X.A/\Binds X.K fd ps []:=by
 induction T with
 |nil=>cases h
 |cons c hm F hr hb t ih=>
  rcases zt.mp h with z|z
  ·cases z
   exact⟨_,_,_,_,c,hm,F,hr,hb⟩
  ·exact ih z
noncomputable def Qz(tab:List (Addr×Sp))(m:Str)(E:XK)(ta:TE)(t:TA):TE:=λσ H Q=>ta σ H λx H1=>∃a C dx fs sp,x=.ref a/\H1 a=some (.ins C dx fs)/\(C,sp)∈tab/\fs.lookup m=none/\t σ H1 λvs H2=>sp (x::vs) H2 Q E
def aaq{pl:Sem Bool}{tab:List (Addr×Sp)}(he:PE X o ta)(T:Zk X CX m tab)(hx:Ay CX X E)(ha:PA X (e::es) t)
  (aa:starEach (e::es) X.env=(false,eval e X.env)::starEach es X.env:=by rfl) (hpl:(backTo pos (starEach es X.env)).any (·.1)=false:=by rfl)
  (ht:eval (.Call (.Attribute o m apos) (e::es) [] pos) X.env=(do
   let ov<-eval o X.env
   standAt apos.atName
   let(f,first)<-holding [ov] (getMethod ov m pl)
   callWith pos f first (backTo pos (starEach (e::es) X.env)) (backToKw pos (keywordEach [] X.env))):=by rfl):
  PE X (.Call (.Attribute o m apos) (e::es) [] pos) (Qz tab m E ta t):=by
 intro pins s σ H Q I h;refine zzC (pl:=pl) (thn (he pins s σ H _ I h) λu s1 ⟨y,H1,I1,rx,a,C,dx,fs,sp,ex,ea,z,l,q⟩=>?_) ht;subst ex;obtain rfl:u=Value.ref a:=rx;obtain⟨f,fd,ps,k,c,hm,F,hr,hb⟩:=T.get z;refine Lj I1 ea c hm l ?_;refine zzn (first:=[.ref a]) (h₀:=X.base) I.ok.mod.kin hm.kp (thn (ha pos pins s1 σ H1 _ I1 q) λus s2 ⟨vs,H2,I2,r,q2⟩=>⟨I2.kIn,?_⟩) aa hpl;exact Vf (us:=.ref a::us) (vs:=.ref a::vs) (dvs:=[]) (ds:=[]) F hr hb .nil hx I2 (.cons rfl r) (by rw[yo];exact q2)
def XJ{pl:Sem Bool}{tab:List (Addr×Sp)}(he:PE X o ta)(T:Zk X CX m tab)(hx:Ay CX X E)
  (ht:eval (.Call (.Attribute o m apos) [] [] pos) X.env=(do
   let ov<-eval o X.env
   standAt apos.atName
   let(f,first)<-holding [ov] (getMethod ov m pl)
   callWith pos f first (backTo pos (starEach [] X.env)) (backToKw pos (keywordEach [] X.env))):=by rfl):
  PE X (.Call (.Attribute o m apos) [] [] pos) (Qz tab m E ta Uu):=by
 intro pins s σ H Q I h;refine zzC (pl:=pl) (thn (he pins s σ H _ I h) λu s1 ⟨y,H1,I1,rx,a,C,dx,fs,sp,ex,ea,z,l,q⟩=>?_) ht;subst ex;obtain rfl:u=Value.ref a:=rx;obtain⟨f,fd,ps,k,c,hm,F,hr,hb⟩:=T.get z;refine Lj I1 ea c hm l ?_;exact PySem.W.callWith_K0 (first:=[.ref a]) I1.kIn hm.kp (Vf (us:=[.ref a]) (vs:=[.ref a]) (dvs:=[]) (ds:=[]) F hr hb .nil hx I1 (.cons rfl .nil) q)
variable{g:List Value->List Value->List Value}{gV:List V->List V->List V}
end
theorem xZ(f:Str)(v:V):∀{fs:List (Str×V)},(fs.map (·.1)).contains f=false->Ef f v fs=fs++[(f,v)]
 |[],_=>rfl
 |(g,x)::r,h=>by
  rw[zi,List.contains_cons]at h;have h1:¬g=f:=λe=>by rw[e]at h;simp at h
  have h2:(r.map (·.1)).contains f=false:=(Bool.or_eq_false_iff.mp h).2;show(if g=f then(g,v)::r else(g,x)::Ef f v r)=_;rw[ze h1,xZ f v h2];rfl
structure Ra(K:Fg_)(C:Addr):Prop where
 cl:Cls K C
 ha:PySem.W.findIn K (.ref C) "__class__" =some (some (.builtin "object.__class__"))
 hn:PySem.W.specialIn K (.builtin "object.__class__") "__get__" =some (some (.builtin "getset_descriptor.__get__"))
 htk:PySem.W.takesIn K (.builtin "object.__class__")=some true
 hm:PySem.W.mroIn K C (.type "object")=some true
def Ra.of{K:Fg_}{C a dx:Addr}{H:Hp}{fs:List (Str×V)}(z:Ra K C)(h:H a=some (.ins C dx fs)):Kf K H (.ref a) (.ref C):=.ins h z.cl z.ha z.hn z.htk z.hm
end L2
namespace L2
open PySem PySem.Spec PyProof.Rows
noncomputable def signs(x:Str):List V:=x.cps.toList.map λc=>V.str ⟨#[c]⟩
noncomputable def akU(x:Str):It:=⟨λi _=>i<x.cps.size,λi H v H'=>H'=H/\(signs x)[i]? =some v,λi _=>x.cps.size<=i⟩
def ahJ{P:Program}{w:World}{K:Fg_}{tg:Expr}{ty:String}(ab:ty= "str_ascii_iterator" \/ty= "str_iterator") (it:Addr) (x:Str) (t:Tok):Turn P w K tg (akU x) [it] it (λi h=>h.IsStrIter it ty x t i) where
 mem:=by simp
 obj:=λi h st b hb=>by
  have e:b=it:=by simpa using hb
  subst e;obtain⟨o,e,c,d⟩:=st;exact⟨o,e,λv z=>by rw[d]at z;cases z⟩
 keep:=λi h h' st k=>by
  obtain⟨o,e,r⟩:=st;exact⟨o,k it (by simp) o e,r⟩
 item:=by
  intro X hP hw hK hc i pins s σ H E I hf st hg;subst hP hw hK;have hi:i<x.cps.size:=hg;have hx:x.cps[i]? =some x.cps[i]:=zzi hi
  have hs:(signs x)[i]? =some (.str ⟨#[x.cps[i]]⟩):=by
   unfold signs;rw[zm,yK,hx];rfl
  rcases ab with rfl|rfl
  ·refine wpAny_pyNext_ascii_item st hx λh' aa sb=>?_
   obtain⟨o,e,c,d⟩:=id aa;exact⟨_,rfl,Zw (s:={s with heap:=h',toks:=s.toks+1}) e c d (by decide) ⟨.str ⟨#[x.cps[i]]⟩,H,I.turnedN hf λb o hb q=>(sb.2 b (by simpa using hb)).trans q,⟨_,rfl⟩,⟨rfl,hs⟩,aa,λb hb=>(hf b hb).1⟩⟩
  ·refine wpAny_pyNext_wide_item st hx λh' aa sb=>?_
   obtain⟨o,e,c,d⟩:=id aa;exact⟨_,rfl,Zw (s:={s with heap:=h',toks:=s.toks+1}) e c d (by decide) ⟨.str ⟨#[x.cps[i]]⟩,H,I.turnedN hf λb o hb q=>(sb.2 b (by simpa using hb)).trans q,⟨_,rfl⟩,⟨rfl,hs⟩,aa,λb hb=>(hf b hb).1⟩⟩
 done:=by
  intro X hP hw hK hc i pins s σ H E I hf st hg;subst hP hw hK;have hx:x.cps[i]? =none:=Array.getElem?_eq_none hg;rcases ab with rfl|rfl
  ·exact wpAny_pyNext_ascii_end (I.ok.hd hc) st hx λh' eb=>⟨rfl,I.turnedN (t':=s.toks) hf λb o hb q=>eb b o (by simpa using hb) q⟩
  ·exact wpAny_pyNext_wide_end (I.ok.hd hc) st hx λh' eb=>⟨rfl,I.turnedN (t':=s.toks) hf λb o hb q=>eb b o (by simpa using hb) q⟩
 self:=λ_ _ _ _ _ st h=>by
  rcases ab with rfl|rfl
  ·exact wpAny_pyIter_striter_ascii st h
  ·exact wpAny_pyIter_striter_wide st h
section
variable{X:Cx}{K:Fg_}{tg:Expr}
noncomputable def amz(tl:TE):TI:=λσ H R=>tl σ H λx H1=>∃z,x=.str z/\R (akU z) H1
def alE{l:Expr}{tl:TE}(hl:PE X l tl):PI X tg l (amz tl):=by
 intro pins s σ H R I h;refine thn (hl pins s σ H _ I h) λv s1 ⟨x,H1,I1,r1,q1⟩=>?_;obtain⟨z,e,q⟩:=q1;subst e;obtain⟨t,rfl⟩:=r1
 have aa:∀(ty:String)(ab:ty= "str_ascii_iterator" \/ty= "str_iterator"),PIE X pins σ tg R (.ref s1.heap.objs.size) {s1 with heap:=s1.heap.push {cls:=.type ty,data:=.fields #[.str z t,.int 0 0]}}:=λty ab=>by
  refine⟨s1.heap.objs.size,[s1.heap.objs.size],_,_,H1,rfl,I1.kept (t':=s1.toks) λb o e=>zd _ e,ahJ ab _ z t,⟨_,zC _ rfl,rfl,rfl⟩,λb hb=>?_,q⟩;have e:b=s1.heap.objs.size:=by simpa using hb
  subst e;exact I1.fpOk (zo _) (I1.hok.fresh (zo _))
 cases ha:z.cps.all (·<128)
 ·exact wpAny_pyIter_wide ha (aa _ (.inr rfl))
 ·exact wpAny_pyIter_ascii ha (aa _ (.inl rfl))
variable{σ:St}{H:Hp}{R:It->Hp->Prop}{tl:TE}{cap:List (Option Nat)}{g:TG}{tt:TT}{te:TE}{Q:VK}{x:Str}
def ap_iStr:amz tl σ H R=tl σ H λx H1=>∃z,x=.str z/\R (akU z) H1:=rfl
def kI.str(Sσ:St->Prop)(p:V->Bool)(F:V->V)(h0:Sσ (qY σ cap))(hz:x.cps.size<=sizeLine)
  (hs:∀y∈signs x,∀(σ:St)(H5:Hp)(R1:St->VK)(R2:St->Hp->Prop),Sσ σ->Same H H5->(p y=true->∀q H6,Sσ q->Same H5 H6->R1 q (F y) H6)->(p y=false->∀q H6,Sσ q->Same H5 H6->R2 q H6)->
   g y σ H5 λq H4=>tt q H4 λb H5=>if b=true then te q H5 (R1 q)else R2 q H5)
  (k:∀D H',H D=Option.none->Same H H'->H' D=some (.lst (((signs x).filter p).map F))->Q (.ref D) H'):kI cap (akU x) g tt te σ H Q:=λD hD=>by
 have hl:(signs x).length=x.cps.size:=by simp[signs]
 refine Cu (xs:=signs x) (akU x) Sσ p F hD h0 (by omega) (λi y H' hy sm=>?_) (λH' sm=>?_) hs λH' s e=>k D H' hD s e
 ·have hi:i<(signs x).length:=(zp.mp hy).1
  exact⟨by show i<x.cps.size;omega,λz H2 hz=>⟨zy (hz.2.symm.trans hy),hz.1⟩⟩
 ·show x.cps.size<=_
  omega
noncomputable def amJ:R2:=λx y H Q=>∃i j,x=.str i/\y=.str j/\Q (.bl (!decide (j.cps.toList<i.cps.toList))) H
def Oh:OpR X (compareOp .LtE) amJ:=by
 intro pins s σ H x y v u Q I rx z h;obtain⟨i,j,rfl,rfl,q⟩:=h;obtain⟨t,rfl⟩:=rx;obtain⟨t',rfl⟩:=z;exact PySem.P.le_str ⟨.bl _,H,I,rfl,q⟩
noncomputable def Sq:List V->Hp->VK->Prop:=λxs H Q=>∃a kvs,xs=[.ref a]/\Rd H a (.dK kvs)/\∀p,H p=none->Q (.ref p) (upd H p (.dK kvs))
def HF:nD X (.type "dict") Sq:=by
 intro pins s σ H xs us Q I r h;obtain⟨a,kvs,rfl,e,q⟩:=h;obtain⟨u,rfl,ru⟩:=vals1 r;cases ru;exact ahQ I e λp s' z I'=>⟨.ref p,_,I',rfl,q p z⟩
def aiZ{o value:Expr}{f:Str}{ta tv:TE}{pos pos':Pos}(ha:PE X o ta)(q:PE X value tv)(hs:swapsWith value (some (.Attribute o f pos')) pos.line X.env=pure false)(z:X.K=K:=by rfl):PS X (.Assign [.Attribute o f pos'] value pos) (akQ K ta tv f):=z▸akB ha q hs
variable{ta tv ty td tx:TE}{f:Str}{D:Ends}{C:Addr}{tab:List (Addr×Sp)}{m:Str}{E:XK}{t tk:TA}{sp:Sp}{dvs:List V}{gV:List V->List V->List V}
def ap_fldK:akF K ta f σ H Q=ta σ H λx H1=>∃a C dx fs v,x=.ref a/\H1 a=some (.ins C dx fs)/\Cls K C/\jd K C f/\fs.lookup f=some v/\Q v H1:=rfl
def ap_sFld:akQ K ta tv f D σ H=tv σ H λy H1=>ta σ H1 λx H2=>∃a C dx fs,x=.ref a/\H2 a=some (.ins C dx fs)/\Cls K C/\jd K C f/\fs.length<1000/\D.nx σ (upd H2 a (.ins C dx (Ef f y fs))):=rfl
def ap_methD:Qz tab m E ta t σ H Q=ta σ H λx H1=>∃a C dx fs sp,x=.ref a/\H1 a=some (.ins C dx fs)/\(C,sp)∈tab/\fs.lookup m=none/\t σ H1 λvs H2=>sp (x::vs) H2 Q E:=rfl
def ap_make:alr C sp dvs E t σ H Q=t σ H λvs H1=>∀x dx,H1 x=none->H1 dx=none->dx≠x->sp (.ref x::(vs++dvs)) (upd (upd H1 dx (.own x)) x (.ins C dx [])) (λv H2=>v=.non/\Q (.ref x) H2) E:=rfl
def ap_dget2:ahY td ty tx σ H Q=td σ H λx H1=>∃a,x=.ref a/\IsD H1 a/\ty σ H1 λy H2=>tx σ H2 λz q=>∃o,Yr q a y o/\Q (o.getD z) q:=rfl
def ap_dget:akL td ty σ H Q=td σ H λx H1=>ty σ H1 λy H2=>∃a v,x=.ref a/\Yr H2 a y (some v)/\Q v H2:=rfl
def ap_dput:ajf td ty tv D σ H=tv σ H λv H1=>td σ H1 λx H2=>ty σ H2 λy z=>∃a q,x=.ref a/\alK z a y v q/\D.nx σ q:=rfl
def ap_dnewK:aia σ H Q=∀p,H p=none->Q (.ref p) (upd H p (.dK [])):=rfl
def ap_dpop1:Zz td ty σ H Q=td σ H λx H1=>∃a,x=.ref a/\IsD H1 a/\ty σ H1 λy H2=>∃kvs k v,H2 a=some (.dK kvs)/\y=kV k/\pF kvs k=some v/\Q v (upd H2 a (.dK (Dv kvs k))):=rfl
def ap_dictOf{p:Addr}:Sq [.ref p] H Q=∃kvs,Rd H p (.dK kvs)/\∀q,H q=none->Q (.ref q) (upd H q (.dK kvs)):=by simp[Sq]
def ap_leS{i j:Str}:amJ (.str i) (.str j) H Q=Q (.bl (!decide (j.cps.toList<i.cps.toList))) H:=propext ⟨fun⟨i',j',z,e2,q⟩=>by cases z;cases e2;exact q,λq=>⟨i,j,rfl,rfl,q⟩⟩
def ap_rIsC{y:V}:akc K [y,.ref C] H Q=∃t k,Kf K H y t/\PySem.W.kitOne K t (.ref C)=some k/\Q (.bl k) H:=propext ⟨fun⟨q,C',t,k,e,r⟩=>by cases e;exact⟨t,k,r⟩,fun⟨t,k,r⟩=>⟨y,C,t,k,rfl,r⟩⟩
def ap_ixT{x y:V}:aiy K x y H Q=∃p xs i v,x=.ref p/\y=.int i/\SqT K H p xs/\atI xs i=some v/\Q v H:=rfl
def ap_ixS{x y:V}:amu x y H Q=∃z i c,x=.str z/\y=.int i/\z.length<=sizeLine/\atI z.cps.toList i=some c/\Q (.str ⟨#[c]⟩) H:=rfl
def ap_slT{x:V}{lo hi:Option Int}:amt K x lo hi H Q=∃a xs,x=.ref a/\SqT K H a xs/\¬(HT.sIx xs.length 0 lo=0/\HT.sIx xs.length xs.length hi=xs.length)/\∀p,H p=none->Q (.ref p) (upd H p (.tup (NZ xs lo hi))):=rfl
def ap_lenS{z:Str}:(fun(xs:List V)(H:Hp)(Q:VK)=>∃z,xs=[V.str z]/\z.length<=sizeLine/\Q (.int z.length) H) [.str z] H Q=(z.length<=sizeLine/\Q (.int z.length) H):=propext ⟨fun⟨q,e,r⟩=>by cases e;exact r,λr=>⟨z,rfl,r⟩⟩
end
end L2
namespace L2
open PySem PySem.W PySem.Spec PyProof.Rows
section
variable{α β:Type}{lt:Nat->Nat->Bool}{n:Nat}
noncomputable def Kok(lt:Nat->Nat->Bool)(n:Nat)(R:α->Prop):KasT α->Prop
 |.ret a=>R a
 |.ask i j k=>i<n/\j<n/\Kok lt n R (k (lt i j))
theorem Kok.bind{R:α->Prop}{S:β->Prop}{f:α->KasT β}:∀{t:KasT α},Kok lt n R t->(∀a,R a->Kok lt n S (f a))->Kok lt n S (t.bind f)
 |.ret a,h,k=>k a h
 |.ask i j q,h,k=>⟨h.1,h.2.1,Kok.bind (t:=q (lt i j)) h.2.2 k⟩
theorem Kok.wp{R:α->Prop}{z:Nat->Nat->(Bool->Shared->Prop)->Shared->Prop}{s:Shared}{Q:α->Shared->Prop}(hc:∀i j (C:Bool->Shared->Prop),i<n->j<n->C (lt i j) s->z i j C s):
  ∀{t:KasT α},Kok lt n R t->(∀a,R a->Q a s)->t.kasWp z Q s
 |.ret a,h,k=>k a h
 |.ask i j q,h,k=>hc i j _ h.1 h.2.1 (Kok.wp hc (t:=q (lt i j)) h.2.2 k)
noncomputable def Prm(n:Nat)(p:Array Nat):Prop:=p.toList.Perm (List.range n)
def Prm.ltn{p:Array Nat}(h:Prm n p)(hn:0<n)(i:Nat):p.getD i 0<n:=by
 by_cases hi:i<p.size
 ·have hm:p.getD i 0∈p.toList:=by simp[Array.getD,hi]
  exact yH.mp (h.mem_iff.mp hm)
 ·simp[Array.getD,hi,hn]
def Prm.rev{p:Array Nat}(h:Prm n p)(i j:Nat):Prm n (kas_rev p i j):=(zz1.mp (mirror_perm p i j _)).trans h
def Prm.bub{p:Array Nat}(h:Prm n p)(k d:Nat):Prm n (bubble p k d):=(zz1.mp (bubble_perm p k d)).trans h
theorem SM{p:Array Nat}(h:Prm n p)(hn:0<n):∀f m,Kok lt n (λ_=>True) (kas_asc p f m)
 |0,_=>trivial
 |f+1,m=>⟨Prm.ltn h hn _,Prm.ltn h hn _,by
  dsimp only;by_cases q:lt (p.getD m 0) (p.getD (m - 1) 0)=true
  ·rw[zl q];trivial
  ·rw[ze q];exact SM h hn f (m+1)⟩
theorem GK(hn:0<n):∀f {p:Array Nat} m q,Prm n p->Kok lt n (λr:Array Nat×Nat×Nat=>Prm n r.1) (kas_desc f p m q)
 |0,_,_,_,h=>h
 |f+1,p,m,q,h=>⟨Prm.ltn h hn _,Prm.ltn h hn _,by
  dsimp only;by_cases hc:lt (p.getD m 0) (p.getD (m - 1) 0)=true
  ·rw[zl hc]
   by_cases z:q>0
   ·rw[zl z];exact GK hn f _ _ (h.rev _ _)
   ·rw[ze z];exact GK hn f _ _ h
  ·rw[ze hc]
   refine⟨Prm.ltn h hn _,Prm.ltn h hn _,?_⟩;dsimp only;by_cases hd:lt (p.getD (m - 1) 0) (p.getD m 0)=true
   ·rw[zl hd];exact h
   ·rw[ze hd];exact GK hn f _ _ h⟩
def Tz{p:Array Nat}(h:Prm n p)(hn:0<n)(m r:Nat):Kok lt n (λr:Nat×Array Nat=>Prm n r.2) (kas_tail3 m r p):=
 Kok.bind (SM (h.rev _ _) hn _ _) λ_ _=>h.rev 0 m
def Vm{p:Array Nat}(h:Prm n p)(hn:0<n)(m r:Nat):Kok lt n (λr:Nat×Array Nat=>Prm n r.2) (kas_descPart m r p):=
 Kok.bind (GK hn _ _ _ h) λa ha=>by
  by_cases q:a.2.2>0
  ·rw[zl q];exact Tz (ha.rev _ _) hn _ _
  ·rw[ze q];exact Tz ha hn _ _
def Zj{p:Array Nat}(h:Prm n p)(hn:0<n)(r:Nat):Kok lt n (λr:Nat×Array Nat=>Prm n r.2) (kas_count r p):=
 Kok.bind (SM h hn _ _) λm _=>by
  by_cases h1:(m==r)=true
  ·rw[zl h1];exact h
  ·rw[ze h1]
   by_cases h2:m>1
   ·rw[zl h2]
    refine⟨Prm.ltn h hn _,Prm.ltn h hn _,?_⟩;dsimp only;by_cases q:lt (p.getD 0 0) (p.getD (m - 1) 0)=true
    ·rw[zl q];exact h
    ·rw[ze q];exact Vm (h.rev _ _) hn _ _
   ·rw[ze h2];exact Vm h hn _ _
theorem Ir{p:Array Nat}(h:Prm n p)(hn:0<n)(k:Nat):∀f l r,Kok lt n (λ_=>True) (kas_place p k f l r)
 |0,_,_=>trivial
 |f+1,l,r=>by
  show Kok lt n _ (if l>=r then _ else _);by_cases h1:l>=r
  ·rw[zl h1];trivial
  ·rw[ze h1]
   refine⟨Prm.ltn h hn _,Prm.ltn h hn _,?_⟩;dsimp only;by_cases q:lt (p.getD k 0) (p.getD ((l+r)/2) 0)=true
   ·rw[zl q];exact Ir h hn k f _ _
   ·rw[ze q];exact Ir h hn k f _ _
theorem YH(hn:0<n):∀f {p:Array Nat} k,Prm n p->Kok lt n (Prm n) (kas_bin f p k)
 |0,_,_,h=>h
 |f+1,p,k,h=>Kok.bind (Ir h hn k k 0 k) λl _=>YH hn f _ (h.bub _ _)
def ahx(hn:0<n):Kok lt n (Prm n) (kas_sort n):=
 Kok.bind (Zj (p:=(List.range n).toArray) (by unfold Prm;simp) hn n) λa ha=>by
  by_cases h1:a.1<n
  ·rw[zl h1];exact YH hn _ _ ha
  ·rw[ze h1];exact ha
end
section
variable{key:Nat->Int}{n:Nat}
noncomputable def Up(key:Nat->Int)(p:Array Nat)(m:Nat):Prop:=∀a b,a<b->b<m->key (p.getD a 0)<key (p.getD b 0)
noncomputable def Dn(key:Nat->Int)(p:Array Nat)(m:Nat):Prop:=∀a b,a<b->b<m->key (p.getD b 0)<key (p.getD a 0)
def uP(p:Array Nat)(k:Nat):p.getD k 0=(p[k]?).getD 0:=by
 by_cases h:k<p.size
 ·simp[Array.getD,h]
 ·simp[Array.getD,h]
theorem Prm.size{p:Array Nat}(h:Prm n p):p.size=n:=by
 have:=h.length_eq
 simpa using this
def Prm.unlike{p:Array Nat}(h:Prm n p)(hk:∀i j,i<n->j<n->key i=key j->i=j){a b:Nat}(ha:a<n)(hb:b<n)(z:a≠b):key (p.getD a 0)≠key (p.getD b 0):=λe=>by
 have q:=h.size;have hn:0<n:=by omega
 have e1:=hk _ _ (h.ltn hn a) (h.ltn hn b) e;have aa:p.toList.Nodup:=h.nodup_iff.mpr List.nodup_range
 have e2:p.toList[a]'(by simpa [q] using ha)=p.toList[b]'(by simpa [q] using hb):=by
  have q1:p.getD a 0=p[a]'(by omega):=by simp[Array.getD,q,ha]
  have q2:p.getD b 0=p[b]'(by omega):=by simp[Array.getD,q,hb]
  rw[q1,q2]at e1
  simpa using e1
 exact z ((yyd aa).mp e2)
def Wz{p:Array Nat}{i j:Nat}(q:j<=p.size)(k:Nat):(kas_rev p i j).getD k 0=if i<=k/\k<j then p.getD (i+j - 1 - k) 0 else p.getD k 0:=by
 unfold kas_rev;rw[uP,getElem?_mirror_all q];by_cases c:i<=k/\k<j
 ·rw[zl c,zl c,uP]
 ·rw[ze c,ze c,uP]
def Zx{p:Array Nat}{k l:Nat}(hk:k<p.size)(hl:l<=k)(a:Nat):(bubble p k (k - l)).getD a 0=if a=l then p.getD k 0 else if l<a/\a<=k then p.getD (a - 1) 0 else p.getD a 0:=by
 rw[uP,getElem?_bubble hk (k - l) (by omega),show k - (k - l)=l by omega];by_cases z:a=l
 ·rw[zl z,zl z,uP]
 ·rw[ze z,ze z]
  by_cases q:l<a/\a<=k
  ·rw[zl q,zl q,uP]
  ·rw[ze q,ze q,uP]
theorem Kok.mono{α:Type}{lt:Nat->Nat->Bool}{R S:α->Prop}(h:∀a,R a->S a):∀{t:KasT α},Kok lt n R t->Kok lt n S t
 |.ret a,q=>h a q
 |.ask i j k,q=>⟨q.1,q.2.1,Kok.mono h q.2.2⟩
def Up.snoc{p:Array Nat}{m:Nat}(h:Up key p m)(h1:1<=m)(z:key (p.getD (m - 1) 0)<key (p.getD m 0)):Up key p (m+1):=λa b q hb=>by
 by_cases e:b=m
 ·subst e
  by_cases e2:a=b - 1
  ·subst e2;exact z
  ·exact yyj (h a (b - 1) (by omega) (by omega)) z
 ·exact h a b q (by omega)
def Dn.snoc{p:Array Nat}{m:Nat}(h:Dn key p m)(h1:1<=m)(z:key (p.getD m 0)<key (p.getD (m - 1) 0)):Dn key p (m+1):=λa b q hb=>by
 by_cases e:b=m
 ·subst e
  by_cases e2:a=b - 1
  ·subst e2;exact z
  ·exact yyj z (h a (b - 1) (by omega) (by omega))
 ·exact h a b q (by omega)
theorem ajO(hk:∀i j,i<n->j<n->key i=key j->i=j){p:Array Nat}(h:Prm n p):∀f m,1<=m->m+f<=n->Up key p m->
  Kok (λi j=>decide (key i<key j)) n (λr=>m<=r/\r<=m+f/\Up key p r/\(r<m+f->key (p.getD r 0)<key (p.getD (r - 1) 0))) (kas_asc p f m)
 |0,m,h1,h2,hu=>⟨zo _,zo _,hu,λz=>absurd z (by omega)⟩
 |f+1,m,h1,h2,hu=>⟨Prm.ltn h (by omega) _,Prm.ltn h (by omega) _,by
  dsimp only;by_cases q:key (p.getD m 0)<key (p.getD (m - 1) 0)
  ·rw[zl (by simpa using q)]
   exact⟨zo _,by omega,hu,λ_=>q⟩
  ·rw[ze (by simpa using q)]
   have aa:=h.unlike hk (show m - 1<n by omega) (show m<n by omega) (by omega);refine Kok.mono (λr hr=>?_) (ajO hk h f (m+1) (by omega) (by omega) (hu.snoc h1 (by omega)));exact⟨by omega,by omega,hr.2.2.1,λz=>hr.2.2.2 (by omega)⟩⟩
theorem ahX(hk:∀i j,i<n->j<n->key i=key j->i=j){p:Array Nat}(h:Prm n p):∀f m,1<=m->m+f<=n->Dn key p m->
  Kok (λi j=>decide (key i<key j)) n (λr:Array Nat×Nat×Nat=>r.1=p/\r.2.2=0/\m<=r.2.1/\r.2.1<=m+f/\Dn key p r.2.1) (kas_desc f p m 0)
 |0,m,h1,h2,hu=>⟨rfl,rfl,zo _,zo _,hu⟩
 |f+1,m,h1,h2,hu=>⟨Prm.ltn h (by omega) _,Prm.ltn h (by omega) _,by
  dsimp only;by_cases q:key (p.getD m 0)<key (p.getD (m - 1) 0)
  ·rw[zl (by simpa using q),ze (by omega)]
   refine Kok.mono (λr z=>?_) (ahX hk h f (m+1) (by omega) (by omega) (hu.snoc h1 q));exact⟨z.1,z.2.1,by omega,by omega,z.2.2.2.2⟩
  ·rw[ze (by simpa using q)]
   have aa:=h.unlike hk (show m - 1<n by omega) (show m<n by omega) (by omega);refine⟨Prm.ltn h (by omega) _,Prm.ltn h (by omega) _,?_⟩;dsimp only;rw[zl (zM (by omega))];exact⟨rfl,rfl,zo _,by show m<=_;omega,hu⟩⟩
def ali(z:∀i j,i<n->j<n->key i=key j->i=j){p:Array Nat}(h:Prm n p){m:Nat}(h1:1<=m)(h2:m<=n)(hd:Dn key p m):
  Kok (λi j=>decide (key i<key j)) n (λr:Nat×Array Nat=>Prm n r.2/\1<=r.1/\r.1<=n/\Up key r.2 r.1) (kas_tail3 m n p):=by
 have hs:=h.size
 have q:Up key (kas_rev p 0 m) m:=λa b aa hb=>by
  rw[Wz (by omega),Wz (by omega),zl (by omega),zl (by omega)];exact hd _ _ (by omega) (by omega)
 refine Kok.bind (ajO z (h.rev 0 m) (n - m) m h1 (by omega) q) λr hr=>?_;exact⟨h.rev 0 m,by show 1<=r;omega,by show r<=n;omega,hr.2.2.1⟩
def alp(q:∀i j,i<n->j<n->key i=key j->i=j){p:Array Nat}(h:Prm n p){m:Nat}(h2:m+1<=n)(hd:Dn key p (m+1)):
  Kok (λi j=>decide (key i<key j)) n (λr:Nat×Array Nat=>Prm n r.2/\1<=r.1/\r.1<=n/\Up key r.2 r.1) (kas_descPart m n p):=by
 refine Kok.bind (ahX q h (n - (m+1)) (m+1) (by omega) (by omega) hd) λr hr=>?_;obtain⟨r1,r2,r3⟩:=r;obtain⟨z,e2,e3,e4,e5⟩:=hr;dsimp only at z e2 e3 e4 e5⊢;subst z e2;rw[ze (by omega)];exact ali q h (by omega) (by omega) e5
def ajr(z:∀i j,i<n->j<n->key i=key j->i=j){p:Array Nat}(h:Prm n p)(hn:1<=n):
  Kok (λi j=>decide (key i<key j)) n (λr:Nat×Array Nat=>Prm n r.2/\1<=r.1/\r.1<=n/\Up key r.2 r.1) (kas_count n p):=by
 refine Kok.bind (ajO z h (n - 1) 1 (by omega) (by omega) λa b h1 h2=>absurd h1 (by omega)) λm hm=>?_;obtain⟨m1,m2,q,m4⟩:=hm;by_cases h1:(m==n)=true
 ·rw[zl h1]
  exact⟨h,m1,by show m<=n;omega,q⟩
 ·rw[ze h1]
  have h1:m≠n:=by simpa using h1
  by_cases h2:m>1
  ·rw[zl h2]
   refine⟨Prm.ltn h (by omega) _,Prm.ltn h (by omega) _,?_⟩;dsimp only;have:=q 0 (m - 1) (by omega) (by omega);rw[zl (by simpa using this)];exact⟨h,m1,by show m<=n;omega,q⟩
  ·rw[ze h2]
   have e:m=1:=by omega
   subst e
   exact alp z h (by omega) λa b aa hb=>by
    have:a=0:=by omega
    have:b=1:=by omega
    subst a b;exact m4 (by omega)
theorem RX{p:Array Nat}(h:Prm n p){k:Nat}(q:k<n)(hu:Up key p k):∀f l r,l<=r->r<=k->r - l<=f->(∀a,a<l->key (p.getD a 0)<=key (p.getD k 0))->(∀a,r<=a->a<k->key (p.getD k 0)<key (p.getD a 0))->
  Kok (λi j=>decide (key i<key j)) n (λl'=>l'<=k/\(∀a,a<l'->key (p.getD a 0)<=key (p.getD k 0))/\(∀a,l'<=a->a<k->key (p.getD k 0)<key (p.getD a 0))) (kas_place p k f l r)
 |0,l,r,h1,h2,h3,ha,hb=>⟨by omega,ha,λa q1 z=>hb a (by omega) z⟩
 |f+1,l,r,h1,h2,h3,ha,hb=>by
  show Kok _ n _ (if l>=r then _ else _);by_cases hc:l>=r
  ·rw[zl hc]
   exact⟨by omega,ha,λa q1 z=>hb a (by omega) z⟩
  ·rw[ze hc]
   refine⟨Prm.ltn h (by omega) _,Prm.ltn h (by omega) _,?_⟩;dsimp only;by_cases hd:key (p.getD k 0)<key (p.getD ((l+r)/2) 0)
   ·rw[zl (by simpa using hd)]
    refine RX h q hu f _ _ (by omega) (by omega) (by omega) ha λa q1 z=>?_;by_cases e:a=(l+r)/2
    ·rw[e];exact hd
    ·exact yyj hd (hu _ _ (by omega) z)
   ·rw[ze (by simpa using hd)]
    refine RX h q hu f _ _ (by omega) (by omega) (by omega) (λa q1=>?_) hb;by_cases e:a=(l+r)/2
    ·rw[e];omega
    ·have:=hu a ((l+r)/2) (by omega) (by omega)
     omega
theorem akr(hk:∀i j,i<n->j<n->key i=key j->i=j):∀f {p:Array Nat} k,Prm n p->k+f=n->Up key p k->Kok (λi j=>decide (key i<key j)) n (λp'=>Prm n p'/\Up key p' n) (kas_bin f p k)
 |0,p,k,h,e,hu=>⟨h,by rwa [<-e]⟩
 |f+1,p,k,h,e,hu=>by
  refine Kok.bind (RX h (by omega) hu k 0 k (by omega) (by omega) (by omega) (λa q=>absurd q (by omega)) (λa q1 q2=>absurd q2 (by omega))) λl hl=>?_;obtain⟨l1,l2,l3⟩:=hl;have hs:=h.size;refine akr hk f (k+1) (h.bub _ _) (by omega) λa b aa hb=>?_
  have z:∀x,x<l->key (p.getD x 0)<key (p.getD k 0):=λx hx=>by
   have:=l2 x hx;have:=h.unlike hk (show x<n by omega) (show k<n by omega) (by omega);omega
  rw[Zx (by omega) l1,Zx (by omega) l1];by_cases c1:a=l
  ·rw[zl c1,ze (by omega),zl (by omega)]
   exact l3 _ (by omega) (by omega)
  ·rw[ze c1]
   by_cases c2:b=l
   ·rw[ze (by omega),zl c2]
    exact z _ (by omega)
   ·rw[ze c2]
    by_cases c3:l<a
    ·rw[zl (by omega),zl (by omega)]
     exact hu _ _ (by omega) (by omega)
    ·rw[ze (by omega)]
     by_cases c4:l<b
     ·rw[zl (by omega)]
      by_cases c5:b - 1=a
      ·omega
      ·exact hu _ _ (by omega) (by omega)
     ·rw[ze (by omega)]
      exact hu _ _ aa (by omega)
def akI(q:∀i j,i<n->j<n->key i=key j->i=j)(hn:1<=n):Kok (λi j=>decide (key i<key j)) n (λp=>Prm n p/\Up key p n) (kas_sort n):=
 Kok.bind (ajr q (p:=(List.range n).toArray) (by unfold Prm;simp) hn) λa ha=>by
  obtain⟨a1,a2,a3,a4⟩:=ha;by_cases h1:a.1<n
  ·rw[zl h1,show max a.1 1=a.1 by omega]
   exact akr q _ _ a1 (by omega) a4
  ·rw[ze h1]
   have e:a.1=n:=by omega
   exact⟨a1,by rwa [e]at a4⟩
end
section
variable{n:Nat}{lt:Nat->Nat->Bool}
theorem Tt{p q:Nat->Bool}:∀{l:List Nat}{i:Nat},i∈l->(∀x∈l,p x=true->q x=true)->p i=false->q i=true->l.countP p<l.countP q
 |[],_,h,_,_,_=>by cases h
 |a::l,i,h,hpq,hp,hq=>by
  rw[List.countP_cons,List.countP_cons];have hm:l.countP p<=l.countP q:=List.countP_mono_left λx hx=>hpq x (zk _ hx);rcases zt.mp h with rfl|h
  ·rw[hp,hq]
   simp;omega
  ·have ih:=Tt h (λx hx=>hpq x (zk _ hx)) hp hq
   have:=hpq a zg
   cases z:p a with
   |true=>rw[this z];simp;exact ih
   |false=>simp;split<;>omega
theorem Kok.congr{α:Type}{z:Nat->Nat->Bool}{R:α->Prop}(h:∀i j,i<n->j<n->lt i j=z i j):∀{t:KasT α},Kok lt n R t->Kok z n R t
 |.ret a,q=>q
 |.ask i j k,q=>⟨q.1,q.2.1,h i j q.1 q.2.1▸Kok.congr h q.2.2⟩
def aiR(ad:∀i,i<n->lt i i=false)(tr:∀i j k,i<n->j<n->k<n->lt i j=true->lt j k=true->lt i k=true)(ab:∀i j,i<n->j<n->i≠j->lt i j=true\/lt j i=true)(hn:1<=n):
  Kok lt n (λp=>Prm n p/\∀a b,a<b->b<n->lt (p.getD a 0) (p.getD b 0)=true) (kas_sort n):=by
 obtain⟨key,aa⟩:∃key:Nat->Int,∀i,key i=(((List.range n).countP λx=>lt x i:Nat):Int):=⟨_,λ_=>rfl⟩
 have up:∀i j,i<n->j<n->lt i j=true->key i<key j:=λi j hi hj h=>by
  rw[aa,aa];have:=Tt (p:=λx=>lt x i) (q:=λx=>lt x j) (l:=List.range n) (i:=i) (yH.mpr hi) (λx hx ae=>tr x i j (yH.mp hx) hi hj ae h) (ad i hi) h;omega
 have eq:∀i j,i<n->j<n->lt i j=decide (key i<key j):=λi j hi hj=>by
  cases h:lt i j with
  |true=>exact(zM (up i j hi hj h)).symm
  |false=>
   refine(zQ λz=>?_).symm;by_cases e:i=j
   ·rw[e]at z;omega
   ·rcases ab i j hi hj e with t|t
    ·rw[h]at t;cases t
    ·have:=up j i hj hi t
     omega
 have hk:∀i j,i<n->j<n->key i=key j->i=j:=λi j hi hj e=>by
  by_cases h:i=j
  ·exact h
  ·rcases ab i j hi hj h with t|t
   ·have:=up i j hi hj t;omega
   ·have:=up j i hj hi t;omega
 refine Kok.congr (lt:=λi j=>decide (key i<key j)) (λi j hi hj=>(eq i j hi hj).symm) (Kok.mono (λp hp=>⟨hp.1,λa b ac hb=>?_⟩) (akI hk hn));rw[eq _ _ (hp.1.ltn (by omega) _) (hp.1.ltn (by omega) _)];exact zM (hp.2 a b ac hb)
end
noncomputable def FN:List Int->List Int->Bool->Bool
 |x::xs,y::ys,f=>if x=y then FN xs ys f else decide (x<y)
 |[],_,f=>f
 |_::_,[],f=>f
theorem Yj:∀a:List Int,FN a a false=false
 |[]=>rfl
 |x::a=>by rw[FN,zl rfl,Yj a]
theorem aiC:∀{a b c:List Int},a.length=b.length->b.length=c.length->FN a b false=true->FN b c false=true->FN a c false=true
 |[],_,_,_,_,h,_=>by simp[FN]at h
 |x::a,[],_,h,_,_,_=>by simp at h
 |x::a,y::b,[],_,h,_,_=>by simp at h
 |x::a,y::b,z::c,h1,h2,h,h'=>by
  rw[FN]at h h'⊢;by_cases e1:x=y
  ·subst e1
   rw[zl rfl]at h;by_cases q:x=z
   ·subst q
    rw[zl rfl]at h'⊢;exact aiC (by simpa using h1) (by simpa using h2) h h'
   ·rw[ze q]at h'⊢
    exact h'
  ·rw[ze e1]at h
   have h:=ym h;by_cases q:y=z
   ·subst q
    rw[ze e1];exact zM h
   ·rw[ze q]at h'
    have h':=ym h';rw[ze (by omega)];exact zM (by omega)
theorem Zr:∀{a b:List Int},a.length=b.length->a≠b->FN a b false=true\/FN b a false=true
 |[],[],_,h=>(h rfl).elim
 |[],y::b,h,_=>by simp at h
 |x::a,[],h,_=>by simp at h
 |x::a,y::b,h,hne=>by
  rw[FN,FN];by_cases e:x=y
  ·subst e
   rw[zl rfl,zl rfl];exact Zr (by simpa using h) λz=>hne (by rw[z])
  ·rw[ze e,ze (Ne.symm e)]
   rcases Int.lt_or_gt_of_ne e with q|q
   ·exact .inl (zM q)
   ·exact .inr (zM q)
section
variable{P:Program}{w:World}{A:Around}{E:Value->Shared->Prop}{s:Shared}
theorem Ur{b f:Bool}{Q:Bool->Shared->Prop}:∀{ms ns:List Int}{xs ys:List Value},Vals (ms.map V.int) xs->Vals (ns.map V.int) ys->∀i,Q (FN ms ns f) s->KatLex P w A b f Q (xs.zip ys) i s
 |[],_,_,_,r,_,i,h=>by
  cases r;exact h
 |m::ms,[],_,_,r,r',i,h=>by
  cases r';rw[List.zip_nil_right];exact h
 |m::ms,n::ns,_,_,r,r',i,h=>by
  rw[zi]at r r'
  cases r with
  |cons a1 a2=>
  cases r' with
  |cons b1 b2=>
  obtain⟨t,rfl⟩:=a1;obtain⟨t',rfl⟩:=b1;rw[zz2];refine kat_cons (wpAny_eqBool_int ?_);by_cases e:m=n
  ·rw[show(m==n)=true by simp[e]]
   refine kat_yes (Ur a2 b2 (i+1) ?_)
   rwa [FN,zl e]at h
  ·rw[show(m==n)=false by simp[e]]
   refine kat_no ?_;rw[FN,ze e]at h
   cases q:(b && i==0)with
   |true=>exact oneLt_int h
   |false=>exact kat_one _ _ (lt_int h)
theorem WP{h:Heap}:∀{us:List Value},(∀v∈us,∃b o xs m i t,v=.ref b/\h.get? b=some o/\o.cls=.type "tuple" /\o.data=.seq xs m/\xs[0]? =some (Value.int i t))->
  ∃fs,KatTups h us fs/\fs.length=us.length/\∀f∈fs,∃i t,f=Value.int i t
 |[],_=>⟨[],trivial,rfl,λ_ h=>by cases h⟩
 |v::us,hv=>by
  obtain⟨b,o,xs,m,i,t,rfl,h1,h2,h3,h4⟩:=hv v (.head _);obtain⟨fs,q,k2,z⟩:=WP (us:=us) λv hm=>hv v (.tail _ hm);exact⟨_::fs,KatTups.cons h1 h2 h3 h4 q,by rw[zE,zE,k2],λf hf=>(zt.mp hf).elim (λe=>⟨i,t,e⟩) (z f)⟩
end
section
variable{X:Cx}
theorem Ie:∀{ys:List V}{us:List Value}{i:Nat},Vals ys us->i<ys.length->RelV (ys.getD i .non) (us.getD i Value.none)
 |_,_,_,.nil,h=>by simp at h
 |_,_,0,.cons r _,_=>r
 |_,_,i+1,.cons _ t,h=>by
  simp only[List.getD_cons_succ];exact Ie t (by simpa using h)
theorem Qs{ys:List V}{us:List Value}(r:Vals ys us):∀{l:List Nat},(∀i∈l,i<ys.length)->Vals (l.map λi=>ys.getD i .non) (l.map λi=>us.getD i Value.none)
 |[],_=> .nil
 |i::l,h=> .cons (Ie r (h i (.head _))) (Qs r λj q=>h j (.tail _ q))
def SJ(ys:List V):((List.range ys.length).map λi=>ys.getD i V.non)=ys:=by
 refine zzI (by simp) λi h1 h2=>?_;simp[h2]
noncomputable def aiH(ys:List V)(ts:V->List Int)(p:Array Nat):Prop:=∀m,(∀y∈ys,(ts y).length=m)->(ys.map ts).Nodup->∀a b,a<b->b<ys.length->FN (ts (ys.getD (p.getD a 0) .non)) (ts (ys.getD (p.getD b 0) .non)) false=true
def ajt{ys:List V}{q:V->List Int}(hn:1<=ys.length):Kok (λi j=>FN (q (ys.getD i .non)) (q (ys.getD j .non)) (decide ((q (ys.getD i .non)).length<(q (ys.getD j .non)).length))) ys.length (λp=>Prm ys.length p/\aiH ys q p) (kas_sort ys.length):=by
 by_cases h:∃m,(∀y∈ys,(q y).length=m)/\(ys.map q).Nodup
 ·obtain⟨m,h1,h2⟩:=h
  have hm:∀i,i<ys.length->(q (ys.getD i .non)).length=m:=λi hi=>h1 _ (by simp[hi])
  have hf:∀i j,i<ys.length->j<ys.length->decide ((q (ys.getD i .non)).length<(q (ys.getD j .non)).length)=false:=λi j hi z=>by
   rw[hm i hi,hm j z];simp
  refine Kok.mono (λp hp=>⟨hp.1,λ_ _ _ a b ab hb=>?_⟩) (aiR (n:=ys.length) (lt:=λi j=>FN (q (ys.getD i .non)) (q (ys.getD j .non)) (decide ((q (ys.getD i .non)).length<(q (ys.getD j .non)).length))) (λi hi=>?_) (λi j k hi z hk h h'=>?_) (λi j hi z aa=>?_) hn)
  ·rw[hf i i hi hi];exact Yj _
  ·rw[hf i j hi z]at h
   rw[hf j k z hk]at h';rw[hf i k hi hk];exact aiC ((hm i hi).trans (hm j z).symm) ((hm j z).trans (hm k hk).symm) h h'
  ·rw[hf i j hi z,hf j i z hi]
   refine Zr ((hm i hi).trans (hm j z).symm) λe=>aa ?_;refine(zz8 (by rw[za];exact hi) h2).mp ?_;rw[zm,zm,zr hi,zr z];have q1:ys.getD i .non=ys[i]:=by simp[hi]
   have q2:ys.getD j .non=ys[j]:=by simp[z]
   rw[q1,q2]at e;exact congrArg some e
  ·have:=hp.2 a b ab hb
   rwa [hf _ _ (hp.1.ltn (by omega) _) (hp.1.ltn (by omega) _)]at this
 ·exact Kok.mono (λp hp=>⟨hp,λm h1 h2=>absurd ⟨m,h1,h2⟩ h⟩) (ahx hn)
end
noncomputable def But(D:Addr)(H H':Hp):Prop:=∀b u,b≠D->H b=some u->H' b=some u
section
variable{K:Fg_}{a:Addr}{xs:List V}{g:TG}{te:TE}{σ:St}{H:Hp}{Q:VK}{cap:List (Option Nat)}
def kI.listE(Sσ:St->Prop)(F:Nat->V->Hp->Prop)(hS:SqL K H a xs)(h0:Sσ (qY σ cap))(hz:xs.length<=sizeLine)
  (hs:∀D i x,xs[i]? =some x->∀(σ:St)(H5:Hp)(R:St->VK),Sσ σ->Same H H5->H D=Option.none->(∃acc,H5 D=some (.lst acc))->(∀v σ4 H6,Sσ σ4->Same H5 H6->(∀H',But D H6 H'->F i v H')->R σ4 v H6)->
   g x σ H5 λσ4 H4=>te σ4 H4 (R σ4))
  (k:∀D H' acc,H D=Option.none->Same H H'->H' D=some (.lst acc)->acc.length=xs.length->(∀i v,acc[i]? =some v->F i v H')->Q (.ref D) H'):kI cap (Itl K a) g NK te σ H Q:=by
 intro D hD;refine⟨λi m acc σ H2=>m=xs.length - i/\i<=xs.length/\Sσ σ/\Same H H2/\acc.length=i/\∀j v,acc[j]? =some v->∀H',But D H2 H'->F j v H',⟨xs.length,rfl,zK _,h0,iR hD,rfl,λj v e=>by simp at e⟩,?_⟩;rintro i m acc σ1 H2 ⟨rfl,hi,hσ,sm,ab,hF⟩ hA;by_cases ac:i<xs.length
 ·have hx:xs[i]? =some xs[i]:=by simp[ac]
  refine .inr ⟨⟨xs,xs[i],sm.seq hS,hx⟩,λy H3 hy=>?_⟩;obtain rfl:H3=H2:=hy.1;obtain rfl:y=xs[i]:=zy ((hy.2 xs (sm.seq hS)).symm.trans hx);simp only[ap_noIf,if_true];refine hs D i _ hx σ1 H3 _ hσ sm hD ⟨_,hA⟩ λv σ4 H6 af s6 ae=>?_;have ah:=s6 _ _ hA;refine⟨acc,ah,by omega,xs.length - (i+1),by omega,rfl,ac,af,(sm.trans s6).upd hD,by rw[zB,ab];rfl,λj u z H' hb=>?_⟩;have aa:But D H6 H':=λb o q e=>hb b o q ((iZ q).trans e);by_cases ad:j<acc.length
  ·rw[z5 ad]at z
   exact hF j u z H' λb o q e=>aa b o q (s6 _ _ e)
  ·rw[z4 (by omega)]at z
   have ag:j - acc.length=0:=by
    have:=(zp.mp z).1;simp at this;omega
   rw[ag]at z;cases z;obtain rfl:j=i:=by omega
   exact ae H' aa
 ·obtain rfl:i=xs.length:=by omega
  exact .inl ⟨⟨xs,sm.seq hS,zo _⟩,k D H2 acc hD sm hA ab λj v e=>hF j v e H2 λb o _ e=>e⟩
end
end L2
namespace L2
open PySem PySem.Spec PyProof.Rows
structure Mk0(K:Fg_)(C:Addr):Prop where
 makes:PySem.W.makesIn K C=true
 init:PySem.W.findIn K (.ref C) "__init__" =some (some (.builtin "object.__init__"))
 kp:PySem.W.keepIn K (.ref C)=true
noncomputable def akz(C:Addr):TE:=λ_ H Q=>∀x dx,H x=none->H dx=none->dx≠x->Q (.ref x) (upd (upd H dx (.own x)) x (.ins C dx []))
def ap_new0{C:Addr}{σ:St}{H:Hp}{Q:VK}:akz C σ H Q=∀x dx,H x=none->H dx=none->dx≠x->Q (.ref x) (upd (upd H dx (.own x)) x (.ins C dx [])):=rfl
def Ng{X:Cx}{C:Addr}{x:Str}{p pos:Pos}(M:Mk0 X.K C)(hg:Gl X x)(hm:X.mg x=some (.ref C))(z:(x==("__debug__" :Str))=false:=by decide):PE X (.Call (.Name x p) [] [] pos) (akz C):=by
 intro pins s σ H Q I h;refine yf (HD I hg hm ?_ z);have q:=h (s.heap.objs.size+1) s.heap.objs.size (I.hok.fresh (yz _)) (I.hok.fresh (zo _)) (zD (yyf _));have I2:=Inv.made (C:=C) I;have Y:=yye (M:=model X.prog X.w) I.kIn M.makes;refine PySem.W.callWith_K0 I.kIn M.kp (yyk (YL I.kIn M.makes M.init (λself=>PySem.W.Looks.of_pure (PySem.W.oi_bind self)) ?_))
 have g1:((s.heap.push PySem.W.emptyDict).push (PySem.W.instObj C s.heap.objs.size)).get? (s.heap.objs.size+1)=some (PySem.W.instObj C s.heap.objs.size):=by
  have e:=zC (s.heap.push PySem.W.emptyDict) (o:=PySem.W.instObj C s.heap.objs.size) rfl;rw[size_push']at e;exact e
 have t1:PySem.W.Looks (model X.prog X.w) ((s.heap.push PySem.W.emptyDict).push (PySem.W.instObj C s.heap.objs.size)) (typeOf (.ref (s.heap.objs.size+1))) (.ref C):=(PySem.W.Looks.ld g1).andThen .now;have t2:PySem.W.Looks (model X.prog X.w) ((s.heap.push PySem.W.emptyDict).push (PySem.W.instObj C s.heap.objs.size)) (isInstance (.ref (s.heap.objs.size+1)) (.type "object")) true:=t1.andThen (Y.top.keeps λb o e=>zd _ (zd _ e));refine codeAny_call_builtin PySem.W.oi_plain PySem.W.entry_oi (@PySem.W.check_slot (model X.prog X.w) _ _ _ "object.__init__" "object" "__init__" (.ref (s.heap.objs.size+1)) [] [] _ PySem.W.oi_kind PySem.W.oi_split t2 (PySem.W.oi_args _) ?_);rw[PySem.W.oi_run];exact zx ⟨rfl,.ref (s.heap.objs.size+1),_,I2,rfl,q⟩
section
variable{K:Fg_}{a b:Addr}{xs ys:List V}{g:TG}{te:TE}{σ:St}{H:Hp}{Q:VK}{cap:List (Option Nat)}
def kI.zipE(Sσ:St->Prop)(F:Nat->V->Hp->Prop)(hS:SqL K H a xs)(ad:SqL K H b ys)(ab:xs.length=ys.length)(h0:Sσ (qY σ cap))(hz:xs.length<=sizeLine)
  (hs:∀D i x y,xs[i]? =some x->ys[i]? =some y->∀(σ:St)(H5:Hp)(p:Addr)(R:St->VK),Sσ σ->Same H H5->H D=Option.none->(∃acc,H5 D=some (.lst acc))->H5 p=Option.none->
   (∀v σ4 H6,Sσ σ4->Same (upd H5 p (.tup [x,y])) H6->(∀H',But D H6 H'->F i v H')->R σ4 v H6)->g (.ref p) σ (upd H5 p (.tup [x,y])) λσ4 H4=>te σ4 H4 (R σ4))
  (k:∀D H' acc,H D=Option.none->Same H H'->H' D=some (.lst acc)->acc.length=xs.length->(∀i v,acc[i]? =some v->F i v H')->Q (.ref D) H'):kI cap (Itz K a b) g NK te σ H Q:=by
 intro D hD;refine⟨λi m acc σ H2=>m=xs.length - i/\i<=xs.length/\Sσ σ/\Same H H2/\acc.length=i/\∀j v,acc[j]? =some v->∀H',But D H2 H'->F j v H',⟨xs.length,rfl,zK _,h0,iR hD,rfl,λj v e=>by simp at e⟩,?_⟩;rintro i m acc σ1 H2 ⟨rfl,hi,hσ,z,af,hF⟩ hA;by_cases aa:i<xs.length
 ·have hx:xs[i]? =some xs[i]:=by simp[aa]
  have hy:ys[i]? =some (ys[i]'(ab▸aa)):=by simp[ab▸aa]
  refine .inr ⟨⟨xs,ys,_,_,z.seq hS,z.seq ad,hx,hy⟩,λv H3 hv=>?_⟩;obtain⟨p,x,y,hp,rfl,rfl,e1,e2⟩:=hv;have e1:=e1 xs (z.seq hS);have e2:=e2 ys (z.seq ad);simp only[ap_noIf,if_true];refine hs D i x y e1 e2 σ1 H2 p _ hσ z hD ⟨_,hA⟩ hp λv σ4 H6 ai s6 ah=>?_;have ac:=(iR (o:=.tup [x,y]) hp).trans s6;have ak:=ac _ _ hA;refine⟨acc,ak,by omega,xs.length - (i+1),by omega,rfl,aa,ai,(z.trans ac).upd hD,by rw[zB,af];rfl,λj u hj H' hb=>?_⟩;have ae:But D H6 H':=λb o q e=>hb b o q ((iZ q).trans e);by_cases ag:j<acc.length
  ·rw[z5 ag]at hj
   exact hF j u hj H' λb o q e=>ae b o q (ac _ _ e)
  ·rw[z4 (by omega)]at hj
   have aj:j - acc.length=0:=by
    have:=(zp.mp hj).1;simp at this;omega
   rw[aj]at hj;cases hj;obtain rfl:j=i:=by omega
   exact ah H' ae
 ·obtain rfl:i=xs.length:=by omega
  exact .inl ⟨⟨xs,ys,z.seq hS,z.seq ad,.inl (zo _)⟩,k D H2 acc hD z hA af λj v e=>hF j v e H2 λb o _ e=>e⟩
end
end L2
namespace PySem
open PySem.Spec PyProof.Rows
def PB:typeLookup (.type "list") "keys" =pure none:=by rw[typeLookup_type,builtinLookup_eq_fast];kernel_rfl
section
variable{prog:Program}{w:World}{A:Around}{E:Value->Shared->Prop}{a:Addr}{xs:Array Value}{k:Nat}{s:Shared}
def akb{Q:Option Value->Shared->Prop}{sl:Array (Option Value)}(hx:s.heap.get? a=some {cls:=.type "list",dict:=none,data:=.seq xs k,slots:=sl}) (hA:A.handled=none)
  (hq:∀h' tk,(∀b u,s.heap.get? b=some u->h'.get? b=some u)->Q none {s with heap:=h',toks:=tk}):wpAny (model prog w) A (getAttr? (.ref a) "keys") Q E s:=by
 obtain⟨hp,g,d,tk,os⟩:=s;have hT:∀z,(⟨hp,g,d,z,os⟩:Shared).TypeIs (.ref a) "list" :=λ_=>⟨_,hx,rfl⟩;have f1:=sub_AttributeError;have f3:=F.slot_list_getattribute.lookup;have f4:=F.slot_list_getattribute.bind (.ref a);have f5:=am_list_getattr_none;unfold getAttr? getAttrBy? getAttrBy
 repeat (any_goals (first|assumption|exact hT _|((with_reducible show wpAny _ _ (call (Value.builtin "list.__getattribute__") _ _) _ _ _);refine zzL F.slot_list_getattribute (hT _) am_entry_list_getattribute (F.args_list_getattribute_2 _ _) (meets_getattribute_miss_list a xs k sl "keys" _ PB (by decide+kernel) (by rw[zn];decide+kernel)) ⟨hx,hA,λh' z e q=>?_⟩)|wp_step))
 obtain⟨t1,u1,hE⟩:=q.there;show wpAny _ _ (getattributeRaised _ _ _ _ _ _ _) _ _ _;unfold getattributeRaised
 repeat (any_goals (first|assumption|wp_step))
 exact hq _ _ q.keeps
end
end PySem
namespace L2
open PySem PySem.Spec PyProof.Rows
def Ph:entryFor table "dict.update.loop" =some Builtin.«dict.update.loop»:=entryFor_of_tree (by kernel_rfl)
section
variable{P:Program}{w:World}{A:Around}{E:Value->Shared->Prop}
abbrev aje(ps:List (Key×Value×Value)):List (Key×Value):=ps.foldl (λa p=>stored a p.1 p.2.2) []
def Wj(kvs:List (Key×Value))(k:Key)(v:Value):(stored kvs k v).length<=kvs.length+1:=by
 unfold stored;split
 ·simp
 ·simp
def Uq(ps:List (Key×Value×Value)):(aje ps).length<=ps.length:=by
 have:∀(ps:List (Key×Value×Value))(a:List (Key×Value)),(ps.foldl (λa p=>stored a p.1 p.2.2) a).length<=a.length+ps.length:=by
  intro ps
  induction ps with
  |nil=>intro a;exact zo _
  |cons p ps ih=>
   intro a;have h1:=ih (stored a p.1 p.2.2);have h2:=Wj a p.1 p.2.2;rw[yh,zE];omega
 simpa using this ps []
def Wo{d it l:Addr}{its:List Value}{ps:List (Key×Value×Value)}{R:Result->Shared->Prop}{s₀:Shared}(hA:A.handled=none)(ah:ps.length=its.length)(hz:its.length<=1000)(z:d≠it)(ac:d≠l)(ae:it≠l)
  (hl:s₀.heap.IsList l its.toArray) (hp:∀(i:Nat) p,ps[i]? =some p->∃b,its[i]? =some (.ref b)/\b≠d/\b≠it/\IsTup s₀.heap b #[p.2.1,p.2.2]/\(jK P w).is p.1 p.2.1=true)
  (hR:∀h' tk,(∀b u,b≠d->b≠it->s₀.heap.get? b=some u->h'.get? b=some u)->h'.DictOf (jK P w) d (aje ps)->R (.ok (.ret .none)) {s₀ with heap:=h',toks:=tk}):
  ∀(m j:Nat) (h:Heap) (tk:Nat) (t:Tok),j+m=its.length->(∀b u,b≠d->b≠it->s₀.heap.get? b=some u->h.get? b=some u)->h.IsListIter it l j->h.DictOf (jK P w) d (aje (ps.take j))->
   codeAny (model P w) A (.builtin "dict.update.loop" ⟨[.ref d,.ref it,.int j t,.none],[]⟩) R {s₀ with heap:=h,toks:=tk}:=by
 intro m
 induction m with
 |zero=>
  intro j h tk t hj hk hi hd;refine codeAny_builtin Ph ?_;unfold Builtin.«dict.update.loop»;dsimp only
  have ab:h.IsList l its.toArray:=by
   obtain⟨ol,e1,e2⟩:=hl;exact⟨ol,hk l ol ac.symm ae.symm e1,e2⟩
  refine zc (zzF (by exact hA) hi ab (by simp;omega) λh' eb=>?_);refine zc (m:=Builtin.Dict.addKeywords d []) ?_;unfold Builtin.Dict.addKeywords;refine zx (zx (hR h' tk (λb u n1 n2 e=>eb b u n2 (hk b u n1 n2 e)) ?_));obtain⟨od,es,ep,h1,h2⟩:=hd;rw[z3 (by omega)]at h2;exact⟨od,es,ep,eb d od z h1,h2⟩
 |succ m ih=>
  intro j h tk t hj hk hi hd;refine codeAny_builtin Ph ?_;unfold Builtin.«dict.update.loop»;dsimp only
  have ab:h.IsList l its.toArray:=by
   obtain⟨ol,e1,e2⟩:=hl;exact⟨ol,hk l ol ac.symm ae.symm e1,e2⟩
  have aa:ps[j]? =some (ps[j]'(by omega)):=by simp
  obtain⟨b,e1,n1,n2,ht,q⟩:=hp j _ aa;generalize ps[j]'(by omega)=p at aa ht q;refine zc (zzz hi ab (x:=.ref b) (by simpa using e1) λh' af sb=>?_);obtain⟨ot,t1,t2,t3,t4⟩:=ht;have ht':h'.get? b=some ot:=(sb.2 b n2).trans (hk b ot n1 n2 t1);have hT:({s₀ with heap:=h',toks:=tk}:Shared).TypeIs (.ref b) "tuple" :=⟨_,ht',t2⟩;dsimp only;refine zc (z8 (zc (zzf ?_)));unfold Builtin.Dict.pairItems;refine zc (yyl hT ?_);rw[zl (by decide)];unfold seqItems?;refine zc (zc (wpAny_load ht' ?_));rw[t4];refine zx (zx ?_);dsimp only[Option.getD_some];refine z8 (wpAny_dictSet_pairs (kvs:=aje (ps.take j)) q ?_ (λh2 ag ad=>?_) ?_)
  ·obtain⟨od,es,ep,q1,q2⟩:=hd
   exact⟨od,es,ep,(sb.2 d z).trans q1,q2⟩
  ·refine zx ⟨Code.quiet_builtin _ (by decide+kernel),?_⟩
   refine ih (j+1) h2 (tk+1) 0 (by omega) (λb u m1 m2 e=>(ad.2 b m1).trans ((sb.2 b m2).trans (hk b u m1 m2 e))) ?_ ?_
   ·obtain⟨oi,q1,q2⟩:=af
    exact⟨oi,(ad.2 it z.symm).trans q1,q2⟩
   ·have e:ps.take (j+1)=ps.take j++[p]:=by rw[zI,aa];rfl
    rw[aje,e,zzx];exact ag
  ·have:=Uq (ps.take j)
   rw[zO]at this;rw[zn];omega
end
section
variable{X:Cx}
theorem QF{α β:Type}{Pr:α->β->Prop}:∀{ys:List α},(∀y∈ys,∃p,Pr y p)->∃ps,Paired Pr ys ps
 |[],_=>⟨[],.nil⟩
 |y::ys,h=>by
  obtain⟨p,hp⟩:=h y zg;obtain⟨ps,q⟩:=QF (ys:=ys) λz hz=>h z (zk _ hz);exact⟨p::ps,.cons hp q⟩
theorem xW{α β:Type}{Pr:α->β->Prop}:∀{ys:List α}{ps:List β}{i:Nat}{p:β},Paired Pr ys ps->ps[i]? =some p->∃y,ys[i]? =some y/\Pr y p
 |_,_,_,_,.nil,h=>by simp at h
 |_,_,0,_,.cons r _,h=>by cases h;exact⟨_,rfl,r⟩
 |_,_,i+1,_,.cons _ t,h=>xW (i:=i) t h
noncomputable def MP(kf:V->Key)(vf:V->V)(ys:List V):List (Key×V):=ys.foldl (λa y=>putK a (kf y) (vf y)) []
theorem Yk{kf:V->Key}{q:V->V}{Pr:V->Key×Value×Value->Prop}(z:∀y p,Pr y p->p.1=kf y/\RelV (q y) p.2.2):∀{ys:List V}{ps:List (Key×Value×Value)}{a:List (Key×V)}{b:List (Key×Value)},Paired Pr ys ps->KV a b->
  KV (ys.foldl (λa y=>putK a (kf y) (q y)) a) (ps.foldl (λa p=>stored a p.1 p.2.2) b)
 |_,_,_,_,.nil,h=>h
 |y::ys,p::ps,a,b,.cons r t,h=>by
  obtain⟨e1,e2⟩:=z y p r;rw[yh,yh,e1];exact Yk z t (h.put (kf y) e2)
noncomputable def Ad(K:Fg_):List V->Hp->VK->Prop:=λxs H Q=>∃(a:Addr)(ys:List V)(kf:V->Key)(vf:V->V),xs=[.ref a]/\SqL K H a ys/\ys.length<=1000/\(∀y∈ys,∃b,y=.ref b/\SqT K H b [kV (kf y),vf y])/\
 ∀p,H p=none->Q (.ref p) (upd H p (.dK (MP kf vf ys)))
def KN(hc:X.calm=true):nD X (.type "dict") (Ad X.K):=by
 intro pins s σ H xs us Q I r h;obtain⟨l,ys,kf,vf,rfl,hq,ap,hP,q⟩:=h;obtain⟨u,rfl,rx⟩:=vals1 r;cases rx;obtain⟨its,rv,pl,hz⟩:=I.list hq;have ao:ys.length=its.length:=rv.length;have hl:=pl.isList
 obtain ⟨ps,ae⟩:=QF (Pr:=fun(y:V)(p:Key×Value×Value)=>p.1=kf y/\RelV (vf y) p.2.2/\∃b,y=.ref b/\IsTup s.heap b #[p.2.1,p.2.2]/\(jK X.prog X.w).is p.1 p.2.1=true) (ys:=ys) λy hy=>by
  obtain⟨b,rfl,hb⟩:=hP y hy;obtain⟨tv,rt,it,ar⟩:=I.tuple hb
  cases rt with
  |cons r1 rt=>cases rt with
   |cons r2 rt=>
    cases rt;exact⟨(kf (.ref b),_,_),rfl,r2,b,rfl,it,OJ r1⟩
 have al:ps.length=its.length:=by rw[<-ao];exact(z7 ae).symm
 obtain⟨⟨oc,od,oo,aq⟩,nl,g1,g2,g3,g4⟩:=id pl;simp only at g2 g3 g4;subst g2 g3 g4;have ai:l<s.heap.objs.size:=zv g1;refine callType_codes (Q₁:=λob s1=>ob=.ref s.heap.objs.size/\s1={s with heap:=s.heap.push {cls:=.type "dict",data:=.dict #[]}}) F.kt_called_dict (F.kt_typeCall_dict_1 _) F.entry_dict_init (kt_code_dict_new _ ⟨rfl,rfl⟩) ?_;rintro ob s1 ⟨rfl,rfl⟩;have ac:(s.heap.push {cls:=.type "dict",data:=.dict #[]}).DictOf (jK X.prog X.w) s.heap.objs.size []:=Heap.DictOf.new s.heap;refine⟨ac.typeIs,F.args_dict_init_2 _ _,?_⟩;unfold Builtin.«dict.__init__» Builtin.Dict.selfAndRest;refine zc (zc (wpAny_notOrdered_dict ac.typeIs ?_));show wpAny _ _ (pure (s.heap.objs.size,[Value.ref l])) _ _ _;refine zx ?_;show wpAny _ _ (Builtin.Dict.updateFrom "dict.__init__" s.heap.objs.size (.ref l) [] .none) _ _ _;have ad:∀b o,s.heap.get? b=some o->(s.heap.push {cls:=.type "dict",data:=.dict #[]}).get? b=some o:=λb o e=>zd _ e;have hT:({s with heap:=s.heap.push {cls:=.type "dict",data:=.dict #[]}}:Shared).TypeIs (.ref l) "list" :=⟨_,ad _ _ g1,rfl⟩;unfold Builtin.Dict.updateFrom;refine zc (yyl hT ?_);rw[zl (by decide)];refine zc (akb (ad _ _ g1) (by exact I.ok.hd hc) λh1 af ah=>?_);have z:∀b o,s.heap.get? b=some o->h1.get? b=some o:=λb o e=>ah b o (ad b o e);have aj:h1.IsList l its.toArray:=⟨_,z _ _ g1,rfl,_,rfl⟩;obtain⟨o0,an,am,q1,q2⟩:=ac;have q1':=ah _ _ q1;have ab:s.heap.objs.size<h1.objs.size:=zv q1';rw[zl (show(none:Option Value).isNone=true from rfl)];refine zc (wpAny_rule (zc (yM aj (zx ⟨Code.quiet_builtin _ (by decide+kernel),?_⟩))));have aa:∀b o,h1.get? b=some o->(h1.push {cls:=.type "list_iterator",data:=.fields #[.ref l,.int 0 0]}).get? b=some o:=λb o e=>zd _ e
 refine Wo (A:=X.A.in1) (s₀:={s with heap:=h1.push {cls:=.type "list_iterator",data:=.fields #[.ref l,.int 0 0]},toks:=af}) (its:=its) (ps:=ps) (d:=s.heap.objs.size) (it:=h1.objs.size) (l:=l) (by exact I.ok.hd hc) al (by omega) (zD ab) (yu ai) (yu (zzX ai ab))
  ⟨_,aa _ _ (z _ _ g1),rfl,_,rfl⟩ (λi p hi=>?_) (λh' tk kp hD=>⟨rfl,?_⟩) its.length 0 _ af 0 (by omega) (λb o _ _ e=>e) ⟨_,zC _ rfl,rfl,rfl⟩ ⟨o0,an,am,aa _ _ q1',q2⟩
 ·obtain⟨y,hy,e1,e2,b,rfl,ht,hk⟩:=xW ae hi
  obtain⟨ot,t1,t2⟩:=ht;obtain⟨v,hv,rr⟩:=rv.get hy;cases rr;have hb:b<s.heap.objs.size:=zv t1;exact⟨b,hv,zD hb,zD (zzX hb ab),⟨ot,aa _ _ (z _ _ t1),t2⟩,hk⟩
 ·have ag:KV (MP kf vf ys) (aje ps):=Yk (λy p h=>⟨h.1,h.2.1⟩) ae .nil
  have ak:(MP kf vf ys).length<=sizeLine:=by
   have e1:(MP kf vf ys).length=(aje ps).length:=z7 ag;have e2:=Uq ps;rw[e1,zn];omega
  exact⟨.ref s.heap.objs.size,_,I.laid (a:=s.heap.objs.size) (o:=.dK (MP kf vf ys)) (t':=tk) (λb o e=>kp b o (zD (zv e)) (zD (zzX (zv e) ab)) (aa _ _ (z b o e))) (zo _) (UJ ak (beq_eq_false_iff_ne.mpr (Ne.symm (zD I.big))) ag hD),rfl,q _ (I.hok.fresh (zo _))⟩
end
end L2
namespace L2
open PySem PySem.Spec PyProof.Rows
noncomputable def CG(v a:Addr):HO:=.ext λh=>h.IsValuesView v a
noncomputable def Itv(a:Addr)(o:Obj)(kvs:List (Key×V)):It:=⟨λi H=>H a=some (.frz o (.dK kvs))/\i<kvs.length,λi H x H'=>H'=H/\(kvs.map (·.2))[i]? =some x,λi H=>H a=some (.frz o (.dK kvs))/\kvs.length<=i⟩
def ahz:entryFor table "dict_valueiterator.__iter__" =some Builtin.«dict_keyiterator.__iter__»:=entryFor_alias (id':= "dict_keyiterator.__iter__") (by kernel_rfl) (by decide+kernel) (by decide+kernel) (by kernel_rfl)
def Ym{P:Program}{w:World}{A:Around}{E:Value->Shared->Prop}{s:Shared}{it d:Addr}{i n ep:Nat}{Q:Value->Shared->Prop}(q:s.heap.IsValIter it d i n ep)(h:Q (.ref it) s):wpAny (model P w) A (pyIter (.ref it)) Q E s:=by
 refine wpAny_pyIter_slot q.typeIs F.slot_dict_valueiterator_iter (zzK F.slot_dict_valueiterator_iter q.typeIs ahz ?_ (F.args_dict_valueiterator_iter_1 _));show wpAny _ _ (ret (.ref it)) _ _ s;exact zx ⟨_,rfl, "dict_valueiterator",_,q.typeIs,F.slot_dict_valueiterator_next.lookup,h⟩
def UV{X:Cx}{pins:List (Addr×Obj)}{σ:St}{H:Hp}{s:Shared}{a:Addr}{o:Obj}{kvs:List (Key×V)}{es:Array DictEntry}{ep:Nat}(I:Inv X pins σ H s)(e:H a=some (.frz o (.dK kvs)))(q:o.data=.dict es ep):
  ∃vs,KV kvs vs/\s.heap.DictAt (jK X.prog X.w) a vs ep:=by
 obtain⟨z,_,_,vs,rel,o',aa,ab,q1,q2,q3,q4⟩:=(show mj X.prog X.w H s.heap a (.frz o (.dK kvs))from I.hok a _ e);rw[z]at q1;cases q1;rw[q]at q3;cases q3;exact⟨vs,rel,o,es,z,q2,q,q4⟩
def Ww{P:Program}{w:World}{K:Fg_}{tg:Expr}{a it:Addr}{o:Obj}{kvs:List (Key×V)}{es:Array DictEntry}{ep:Nat}(aa:o.data=.dict es ep):Turn P w K tg (Itv a o kvs) [it] it (λi h=>h.IsValIter it a i kvs.length ep) where
 mem:=by simp
 obj:=λi h st b hb=>by
  obtain rfl:b=it:=by simpa using hb
  obtain⟨oi,e,c,dd⟩:=st;exact⟨oi,e,λv z=>by rw[dd]at z;cases z⟩
 keep:=λi h h' st k=>let⟨oi,e,r⟩:=st;⟨oi,k it (by simp) oi e,r⟩
 item:=by
  intro X hP hw hK hc i pins s σ H E I hf st hg;subst hP hw hK;obtain⟨ad,ae⟩:=hg;obtain⟨vs,rel,ab⟩:=UV I ad aa;have q:kvs.length=vs.length:=z7 rel;obtain⟨f0,f1,f2,f3,f4,f5⟩:=hf it (by simp);have hx:vs[i]? =some (vs[i]'(by omega)):=by simp
  obtain⟨p,hp,e1,e2⟩:=xW rel hx;rw[q]at st;refine wpAny_pyNext_values_item st ab (k:=(vs[i]'(by omega)).1) (v:=(vs[i]'(by omega)).2) hx λh' ac sb=>?_;have I1:Inv X pins σ H {s with heap:=h'}:=I.turned (t':=s.toks) (λb o hb e=>(sb.2 b hb).trans e) f0 f1 f3 f4 f5;obtain⟨oi,e,c,dd⟩:=id ac;rw[<-q]at ac;exact⟨_,rfl,Zw (s:={s with heap:=h'}) e c dd (by decide) ⟨p.2,H,I1,e2,⟨rfl,by rw[zm,hp];rfl⟩,ac,λb hb=>(hf b hb).1⟩⟩
 done:=by
  intro X hP hw hK hc i pins s σ H E I hf st hg;subst hP hw hK;obtain⟨ad,ae⟩:=hg;obtain⟨vs,rel,ab⟩:=UV I ad aa;have q:kvs.length=vs.length:=z7 rel;obtain⟨f0,f1,f2,f3,f4,f5⟩:=hf it (by simp);rw[q]at st;exact wpAny_pyNext_values_end (I.ok.hd hc) st ab (by simp;omega) λh' eb=>⟨rfl,I.turned (t':=s.toks) (λb o hb e=>eb b o hb e) f0 f1 f3 f4 f5⟩
 self:=λ_ _ _ _ _ st h=>Ym st h
section
variable{X:Cx}{tg:Expr}
noncomputable def ako(tl:TE):TI:=λσ H R=>tl σ H λx H1=>∃v a kvs,x=.ref v/\H1 v=some (CG v a)/\H1 a=some (.dK kvs)/\∀o,R (Itv a o kvs) (upd H1 a (.frz o (.dK kvs)))
def ajk{l:Expr}{tl:TE}(hl:PE X l tl):PI X tg l (ako tl):=by
 intro pins s σ H R I h;refine thn (hl pins s σ H _ I h) λu s1 ⟨x,H1,I1,r1,v,a,kvs,ex,hv,ha,q⟩=>?_;subst ex;cases r1;obtain⟨aa,_,_⟩:=(show mj X.prog X.w H1 s1.heap v (CG v a)from I1.hok v _ hv);obtain⟨z,ab,vs,rel,o,es,ep,q1,q2,q3,q4⟩:=(show mj X.prog X.w H1 s1.heap a (.dK kvs)from I1.hok a _ ha);have ac:kvs.length=vs.length:=z7 rel;have ad:s1.heap.DictAt (jK X.prog X.w) a vs ep:=⟨o,es,q1,q2,q3,q4⟩;refine wpAny_pyIter_values aa ad ?_;have I2:Inv X pins σ (upd H1 a (.frz o (.dK kvs))) s1:=I1.write (t':=s1.toks) (h':=s1.heap) (by rw[ha];exact True.intro) (.inl rfl) (λb u _ e=>e) ⟨o,q1⟩ (show mj X.prog X.w _ s1.heap a (.frz o (.dK kvs))from⟨q1,z,ab,vs,rel,o,es,ep,q1,q2,q3,q4⟩);refine⟨s1.heap.objs.size,[s1.heap.objs.size],_,_,_,rfl,I2.kept (t':=s1.toks) λb o e=>zd _ e,Ww q3,⟨_,zC _ rfl,rfl,by rw[ac];rfl⟩,λb hb=>?_,q o⟩;obtain rfl:b=s1.heap.objs.size:=by simpa using hb
 exact I2.fpOk (zo _) (I2.hok.fresh (zo _))
noncomputable def ajg:V->List V->Hp->VK->Prop:=λx vs H Q=>∃a kvs,x=.ref a/\vs=[]/\H a=some (.dK kvs)/\∀v,H v=none->Q (.ref v) (upd H v (CG v a))
def YK:MtR X "dict.values" ajg:=by
 intro pins s σ H x vs v us Q I rx rv h;obtain⟨a,kvs,rfl,rfl,ha,q⟩:=h;cases rx;have ab:=rv.zero;subst ab;obtain⟨z,aa,ws,rel,dd⟩:=YS I.hok ha;refine yW PySem.F.slot_dict_values dd.typeIs PySem.F.entry_dict_values (PySem.F.args_dict_values_1 _) (meets_dict_values (jK X.prog X.w) a aa) ⟨⟨ws,dd⟩,?_⟩;have hg:(s.heap.push {cls:=.type "dict_values",data:=.fields #[.ref a]}).IsValuesView s.heap.objs.size a:=⟨_,zC _ rfl,rfl,rfl⟩;exact⟨.ref s.heap.objs.size,_,I.laid (a:=s.heap.objs.size) (o:=CG s.heap.objs.size a) (t':=s.toks) (λb o e=>zd _ e) (zo _) ⟨hg,⟨_,zC _ rfl⟩,λh1 h2 ⟨ov,e1,e2⟩ k=>⟨ov,k ov e1,e2⟩⟩,rfl,q _ (I.hok.fresh (zo _))⟩
end
end L2
namespace L2
open PySem PySem.Spec PyProof.Rows
section
variable{X:Cx}{K:Fg_}{σ:St}{H:Hp}{Q:VK}{R:It->Hp->Prop}{tl td ty:TE}{g:TG}{tt:TT}{te:TE}{cap:List (Option Nat)}{a:Addr}{o:Obj}{kvs:List (Key×V)}
def qm(q:X.calm=true)(z:X.K=K:=by rfl):nD X (.type "dict") (Ad K):=z▸KN q
def ap_dictPairs:Ad K [.ref a] H Q=∃(ys:List V)(kf:V->Key)(vf:V->V),SqL K H a ys/\ys.length<=1000/\(∀y∈ys,∃b,y=.ref b/\SqT K H b [kV (kf y),vf y])/\∀p,H p=none->Q (.ref p) (upd H p (.dK (MP kf vf ys))):=by simp[Ad]
def ap_iVals:ako tl σ H R=tl σ H λx H1=>∃v a kvs,x=.ref v/\H1 v=some (CG v a)/\H1 a=some (.dK kvs)/\∀o,R (Itv a o kvs) (upd H1 a (.frz o (.dK kvs))):=rfl
def ap_rVals:ajg (.ref a) [] H Q=∃kvs,H a=some (.dK kvs)/\∀v,H v=none->Q (.ref v) (upd H v (CG v a)):=by simp[ajg]
def ap_dget1:aib td ty σ H Q=td σ H λx H1=>∃a,x=.ref a/\IsD H1 a/\ty σ H1 λy H2=>∃o,Yr H2 a y o/\Q (o.getD .non) H2:=rfl
def kI.vals(Sσ:St->Prop)(p:V->Bool)(F:V->V)(hH:H a=some (.frz o (.dK kvs)))(h0:Sσ (qY σ cap))(hz:kvs.length<=sizeLine)
  (hs:∀x∈kvs.map (·.2),∀(σ:St)(z:Hp)(R1:St->VK)(R2:St->Hp->Prop),Sσ σ->Same H z->(p x=true->∀q H6,Sσ q->Same z H6->R1 q (F x) H6)->(p x=false->∀q H6,Sσ q->Same z H6->R2 q H6)->
   g x σ z λq H4=>tt q H4 λb z=>if b=true then te q z (R1 q)else R2 q z)
  (k:∀D H',H D=Option.none->Same H H'->H' D=some (.lst (((kvs.map (·.2)).filter p).map F))->Q (.ref D) H'):kI cap (Itv a o kvs) g tt te σ H Q:=
 λD hD=>Cu (xs:=kvs.map (·.2)) (Itv a o kvs) Sσ p F hD h0 (by rw[za];exact hz) (λi x z hx sm=>⟨⟨sm _ _ hH,by simpa using (zp.mp hx).1⟩,λy H' hy=>⟨zy (hy.2.symm.trans hx),hy.1⟩⟩) (λz sm=>⟨sm _ _ hH,by simp⟩) hs λH' s e=>k D H' hD s e
end
end L2
namespace L2
open PySem PySem.W PySem.Spec PyProof.Rows
section
variable{X:Cx}{pins:List (Addr×Obj)}{σ:St}{H:Hp}{s:Shared}{h':Heap}
def Inv.adopt{t' c:Nat}{D:Addr}{zs:List V}{its:List Value}(I:Inv X pins σ H s)(hf:Ss X pins H D)(k:∀b o,b≠D->s.heap.get? b=some o->h'.get? b=some o)
  (hD:h'.get? D=some {cls:=.type "list",data:=.seq its.toArray c}) (hv:Vals zs its) (hz:zs.length<=sizeLine):Inv X pins σ (upd H D (.lst zs)) {s with heap:=h',toks:=t'}:=by
 obtain⟨hn,hL,ab,h1,h2,h3⟩:=hf;have aa:∀b u,H b=some u->b≠D:=λb u e z=>by rw[z,hn]at e;cases e
 refine I.step (g':=s.gens) (d':=s.drawn) (ch:=[D]) (λb hb=>?_) (λb o _ _ hc e _=>k b o (λz=>hc (by simp[z])) e) (λb o _ _ hc e _=>⟨o.slots,k b o (λz=>hc (by simp[z])) e⟩) (λb o hc e n=>(iZ λz=>hc (by simp[z])).trans n)
  (λb o hc e=>⟨o,k b o (λz=>hc (by simp[z])) e⟩) (λb xs e=>(iZ (aa b _ e)).trans e) (λb o u e=>(iZ (aa b _ e)).trans e) (λb ps e=>⟨#[],by rw[iZ (aa b _ e),e];simp⟩) (λm hm=>?_) (λb u e=>?_) I.bare
 ·have e:b=D:=by simpa using hb
  subst e;exact⟨h1,hL,h2,h3⟩
 ·obtain⟨o,es,ep,ho,r⟩:=hm
  exact⟨o,es,ep,k _ o (Ne.symm hL) ho,r⟩
 ·by_cases z:b=D
  ·subst z
   rw[iK]at e;cases e;exact⟨hz,its,c,hv,hD⟩
  ·rw[iZ z]at e
   refine(I.hok b u e).stay (λc v hc q=>k c v ?_ q) (λc q=>?_) λc v q=>?_
   ·rcases hc with y|y
    ·rw[y];exact aa b u e
    ·exact aa c _ y
   ·exact(iZ (aa c _ q)).trans q
   ·exact(iZ (aa c _ q)).trans q
end
section
variable{X:Cx}{pins:List (Addr×Obj)}{σ:St}{H:Hp}{s:Shared}{k:Nat}{f:Addr}{fd:FuncData}{ps:List Str}{sp:Sp}
def ajK{Q:VK}{v:V}{u:Value}(F:jQ X.prog X.w X.K X.mg X.base CX0 k f fd ps sp)(z:um (k+2) X.A)(hb:Binds X.K fd ps [])(I:Inv X pins σ H s)(r:RelV v u)(h:sp [v] H Q E0):
  wpAny (model X.prog X.w) X.A.in1.in1 (call (.ref f) [u]) (EP X pins σ Q) (λ_ _=>False) s:=by
 have r2:Vals [v] [u]:=.cons r .nil
 have hl:([u]++([]:List Value)).length=ps.length:=by
  have:=F.len _ _ _ _ h;rw[<-this];rfl
 refine yyk (codeAny_mono (F.run X.A.in1.in1 X.stack s H ⟨[u],[]⟩ [u] [v] Q E0 z.in1.in1 I.env0.in1.in1 (hb s [u] I.kIn hl) r2 h) λr s' q=>?_)
 cases r with
 |error e=>exact q.elim
 |ok fl=>
  cases fl with
  |ret u=>exact I.after q
  |next=>exact False.elim q
  |brk=>exact False.elim q
  |cont=>exact False.elim q
theorem Paired.imp{α β:Type}{P P':α->β->Prop}(h:∀a b,P a b->P' a b):∀{xs:List α}{ys:List β},Paired P xs ys->Paired P' xs ys
 |_,_,.nil=> .nil
 |_,_,.cons a t=> .cons (h _ _ a) (Paired.imp h t)
noncomputable def VJ(kf:V->List Int)(H:Hp)(y v:V):Prop:=∃t,v=.ref t/\H t=some (.tup ((kf y).map V.int))
def VJ.same{kf:V->List Int}{H H':Hp}{y v:V}(h:VJ kf H y v)(e:∀t xs,H t=some (.tup xs)->H' t=some (.tup xs)):VJ kf H' y v:=let⟨t,a,b⟩:=h;⟨t,a,e _ _ b⟩
noncomputable def aiP(sp:Sp)(kf:V->List Int)(H:Hp)(y:V):Prop:=∀H1,Same H H1->∀R:VK,(∀t H2,Same H1 H2->H2 t=some (.tup ((kf y).map V.int))->R (.ref t) H2)->sp [y] H1 R E0
theorem Ue{E:Value->Shared->Prop}{kf:V->List Int}{H0:Hp}{kS:Addr}{Q':Shared->Prop}{ad:Value->PUnit->Sem (ForInStep PUnit)}(F:jQ X.prog X.w X.K X.mg X.base CX0 k f fd ps sp)(hr:um (k+2) X.A)(hb:Binds X.K fd ps [])
  (ac:∀x s (D':Shared->Prop),wpAny (model X.prog X.w) X.A.in1.in1 (call (.ref f) [x]) (λk s'=>∃its n,s'.heap.get? kS=some {cls:=.type "list",data:=.seq its n}/\its.size<64/\D' {s' with heap:=s'.heap.update kS (Obj.mapSeq (·.push k))}) (λ_ _=>False) s->
   wpAny (model X.prog X.w) X.A.in1.in1 (ad x ⟨⟩) (λr s'=>r=.yield ⟨⟩/\D' s') E s) (hS0:H0 kS=none):
  ∀(ys:List V) (us:List Value) (ys0 kvs:List V) (H1:Hp) (s1:Shared),Vals ys us->ys0.length+ys.length<64->Inv X pins σ H1 s1->H1 kS=some (.lst kvs)->Same H0 H1->(∀y∈ys,aiP sp kf H0 y)->Paired (VJ kf H1) ys0 kvs->
   (∀ab H2 s2,Inv X pins σ H2 s2->H2 kS=some (.lst ab)->Same H0 H2->Paired (VJ kf H2) (ys0++ys) ab->Q' s2)->wpAny (model X.prog X.w) X.A.in1.in1 (forIn us PUnit.unit ad) (λ_ s2=>Q' s2) E s1
 |_,_,ys0,kvs,H1,s1,.nil,hl,I,hH,sm,hk,hp,fin=>by
  rw[List.forIn_nil];rw[yo]at fin;exact zx (fin kvs H1 s1 I hH sm hp)
 |y::ys,u::us,ys0,kvs,H1,s1,.cons ru rus,hl,I,hH,sm,hk,hp,fin=>by
  rw[List.forIn_cons];rw[zE]at hl;have am:ys0.length=kvs.length:=z7 hp;have h1:=ajK F hr hb I ru (hk y zg H1 sm (λv H2=>∃t,v=.ref t/\Same H1 H2/\H2 t=some (.tup ((kf y).map V.int))) λt H2 s2 ht=>⟨t,rfl,s2,ht⟩);refine zc (ya (ac u s1 (λs2=>∃aa H3,Inv X pins σ H3 s2/\H3 kS=some (.lst aa)/\Same H0 H3/\Paired (VJ kf H3) (ys0++[y]) aa) (ya h1 (λkv s2 hq=>?_) λ_ _ x=>x)) (λr s2 hq=>?_) λ_ _ x=>x)
  ·obtain⟨v,H2,I2,rv,t,rfl,ae,ht⟩:=hq
   have af:=ae _ _ hH;obtain⟨z,its,n,r,an,e⟩:=I2.lstM af;refine⟨its.toArray,n,e,by rw[zw];omega,kvs++[.ref t],_,I2.lset (t':=s2.toks) (its':=its++[kv]) af e (by simp) (r.append (.cons rv .nil)) (by rw[zB,y4,zn];omega),iK,?_,?_⟩
   ·exact(sm.trans ae).upd hS0
   ·have up:∀b xs,H2 b=some (.tup xs)->(upd H2 kS (.lst (kvs++[V.ref t]))) b=some (.tup xs):=λb xs q=>(iZ λz=>by rw[z,af]at q;cases q).trans q
    exact Paired.snoc (Paired.imp (λa b q=>q.same λt xs h=>up _ _ (ae _ _ h)) hp) ⟨t,rfl,up _ _ ht⟩
  ·obtain⟨rfl,aa,H3,I3,ai,ag,al⟩:=hq
   refine Ue F hr hb ac hS0 ys us (ys0++[y]) aa H3 s2 rus (by rw[zB,y4];omega) I3 ai ag (λz hz=>hk z (zk _ hz)) al λab H4 s4 I4 aj ak ah=>fin ab H4 s4 I4 aj ak ?_
   rwa [zza]at ah
end
section
variable{P:Program}{w:World}{A:Around}{E:Value->Shared->Prop}{s:Shared}
def Yn{G:Array Nat->Prop}{ks us:List Value}{a kS:Addr}{e1 nk:Nat}{R:PySem.Fin->Shared->Prop}(fs:Nat->List Int)(ac:ks.length=us.length)(af:us.length<64)(hk:s.heap.get? kS=some (seqObj "list" ks.toArray nk)) (ho:s.heap.get? a=some (seqObj "list" #[] e1)) (ai:a≠kS)
  (hT:∀i,i<us.length->fs i≠[]/\∃b o xs m,ks.getD i Value.none=.ref b/\s.heap.get? b=some o/\o.cls=.type "tuple" /\o.data=.seq xs m/\Vals ((fs i).map V.int) xs.toList)
  (hG:0<us.length->Kok (λi j=>FN (fs i) (fs j) (decide ((fs i).length<(fs j).length))) us.length G (kas_sort us.length)) (ao:us.length<2->G (List.range us.length).toArray) (ah:∀p,G p->Prm us.length p)
  (aj:∀p:Array Nat,G p->R (.done (.ret .none)) {s with heap:=(s.heap.update kS (Obj.mapSeq λ_=> #[])).update a (Obj.mapSeq λ_=>List.toArray (p.toList.map λi=>us.getD i Value.none))}):
  wpAny (model P w) A (ksk_end a false us.toArray e1 (.ref kS) ks.toArray) R E s:=by
 have am:us.toArray.size=us.length:=by simp
 have aa:∀q (p:Array Nat),arrOf q=p.map (kas_item (ks.toArray.zip us.toArray))->failedOf q=none->G p->wpAny (model P w) A (ksk_tail a false e1 (.ref kS) q) R E s:=λq p ab hf hp=>by
  have an:(p.toList.map λi=>us.getD i Value.none).length=us.length:=by rw[za,(ah p hp).length_eq];simp
  have ae:(s.heap.update kS (Obj.mapSeq λ_=> #[])).get? a=some (seqObj "list" #[] e1):=(yQ _ _ _ _ ai).trans ho;unfold ksk_tail
  try dsimp only
  rw[kat_snds ac ab];refine zc (listUpdate_at hk rfl ?_ (by rw[zw,zn];omega) (zK _));refine zc (yya ?_);refine zc (seqEpoch_at ae rfl ?_);refine zc (listUpdate_at ae rfl ?_ (zK _) (by simp only[yC,if_false];rw[zw,an,zn];omega));rw[hf];simp only[bne_self_eq_false,yC,if_false];exact zx (aj p hp)
 unfold ksk_end
 try dsimp only
 rw[ze (by decide)];by_cases h2:us.toArray.size<2
 ·rw[zl h2,zl h2]
  refine zc (zx ?_);rw[StateT.run_pure];refine zc (zx ?_);dsimp only;refine aa _ (List.range us.length).toArray ?_ rfl (ao (by rw[<-am];exact h2));have e:=kas_range (ks.toArray.zip us.toArray);rw[show(ks.toArray.zip us.toArray).size=us.length by simp[ac]]at e;exact e.symm
 ·rw[ze h2,ze h2]
  have hn:0<us.length:=by omega
  obtain ⟨ff,k1,k2,k3⟩:=WP (h:=s.heap) (us:=ks) (by
   intro v hv;obtain⟨i,hi,e⟩:=z9 hv;obtain⟨g0,b,o,xs,m,g1,g3,g4,g5,g6⟩:=hT i (by omega);have e2:ks.getD i Value.none=v:=by rw[<-e];simp[hi]
   cases hq:fs i with
   |nil=>exact(g0 hq).elim
   |cons z zs=>
    rw[hq,zi]at g6
    cases hx:xs.toList with
    |nil=>rw[hx]at g6;cases g6
    |cons u ur=>
     rw[hx]at g6
     cases g6 with
     |cons r1 r2=>
     obtain⟨t,rfl⟩:=r1;refine⟨b,o,xs,m,z,t,e2.symm.trans g1,g3,g4,g5,?_⟩;rw[<-yK,hx];rfl)
  refine zc (kat_kind k1 (by omega) (λv hv=>?_) (T:=.type "int") rfl ?_)
  ·obtain⟨i,t,rfl⟩:=k3 v hv
   exact Looks.of_pure rfl
  refine zc (ya (kat_run (ks:=ks) (vs:=us) (Q:=λq s'=>∃p:Array Nat,arrOf q=p.map (kas_item (ks.toArray.zip us.toArray))/\failedOf q=none/\G p/\s'=s)
   (G:=λp s'=>G p/\s'=s) ac (by omega) af (λp q s' a1 a2 a3 a4=>⟨p,a2,a3,a4.1,a4.2⟩)
   (Kok.wp (lt:=λi j=>FN (fs i) (fs j) (decide ((fs i).length<(fs j).length))) (λi j C hi hj hC=>?_) (hG hn) λp hp=>⟨hp,rfl⟩)) ?_ λ_ _ e=>e)
  ·obtain⟨_,b,o,xs,m,g1,g3,g4,g5,g6⟩:=hT i hi
   obtain⟨_,b',o',ak,m',ap,al,aq,ag,ad⟩:=hT j hj;show wpAny _ _ (keyLt' _ (ks.getD i Value.none) (ks.getD j Value.none)) _ _ _;rw[g1,ap];refine kat_lt g3 g5 al ag (Ur g6 ad 0 ?_);have z1:(fs i).length=xs.size:=by simpa using g6.length
   have z2:(fs j).length=ak.size:=by simpa using ad.length
   rw[<-z1,<-z2];exact hC
  ·rintro⟨⟨⟩,q⟩ s'⟨p,ab,hf,hp,rfl⟩
   dsimp only;exact aa q p ab hf hp
end
def ajG(a v:Value):argsOk "list.sort" ⟨[a],[(Str.ofString "key",v)]⟩:=by unfold argsOk;kernel_rfl
section
variable{X:Cx}{pins:List (Addr×Obj)}{σ:St}{H:Hp}{s:Shared}{k:Nat}{f:Addr}{fd:FuncData}{ps:List Str}{sp:Sp}
noncomputable def Pz(K:Fg_)(sp:Sp):V->Hp->VK->Prop:=λx H Q=>∃(a:Addr)(ys:List V)(kf:V->List Int),x=.ref a/\SqL K H a ys/\ys.length<64/\(∀y∈ys,kf y≠[]/\aiP sp kf H y)/\
 ∀p zs H',Same H H'->H p=none->H' p=some (.lst zs)->zs.Perm ys->(∀m,(∀y∈ys,(kf y).length=m)->(ys.map kf).Nodup->zs.Pairwise λy z=>FN (kf y) (kf z) false=true)->Q (.ref p) H'
theorem Hh{α β:Type}{Pr:α->β->Prop}{d1:α}{d2:β}:∀{xs:List α}{ys:List β}{i:Nat},Paired Pr xs ys->i<xs.length->Pr (xs.getD i d1) (ys.getD i d2)
 |_,_,_,.nil,h=>by simp at h
 |_,_,0,.cons r _,_=>r
 |_,_,i+1,.cons _ t,h=>by
  simp only[List.getD_cons_succ];exact Hh t (by simpa using h)
def VL{Q:VK}{x:V}{u:Value}(F:jQ X.prog X.w X.K X.mg X.base CX0 k f fd ps sp)(hr:um (k+2) X.A)(hb:Binds X.K fd ps [])(I:Inv X pins σ H s)(rx:RelV x u)(h:Pz X.K sp x H Q):
  wpAny (model X.prog X.w) X.A (call (.builtin "sorted") [u] [(Str.ofString "key",.ref f)]) (EP X pins σ Q) X.xe s:=by
 obtain⟨a,ys,kf,rfl,hq,be,hK,q⟩:=h;cases rx;obtain⟨its,rv,pl,hz⟩:=I.list hq;have ae:ys.length=its.length:=rv.length;have hl:=pl.isList;refine call_function_entry_kw kind_sorted plain_sorted entry_sorted (ksk_s1 _ _) ?_;unfold Builtin.«sorted»;refine zc (m:=checkCount "sorted" 1 1 _) (zx ?_);refine zc (collect_list hl ?_ (by omega));refine zc (yyc ?_ (by omega));have hsz:((s.heap.push (seqObj "list" #[] 0)).update s.heap.objs.size (Obj.mapSeq (·++its.toArray))).objs.size=s.heap.objs.size+1:=by rw[Heap.size_update,size_push']
 have aa:(((s.heap.push (seqObj "list" #[] 0)).update s.heap.objs.size (Obj.mapSeq (·++its.toArray))).push (seqObj "list" its.toArray 0)).get? (s.heap.objs.size+1)=some (seqObj "list" its.toArray 0):=by rw[<-hsz];exact zC _ rfl
 have keep:∀b o,s.heap.get? b=some o->(((s.heap.push (seqObj "list" #[] 0)).update s.heap.objs.size (Obj.mapSeq (·++its.toArray))).push (seqObj "list" its.toArray 0)).get? b=some o:=λb o e=>
  zd _ ((yQ _ _ _ _ (zD (zv e))).trans (zd _ e))
 have ag:(((s.heap.push (seqObj "list" #[] 0)).update s.heap.objs.size (Obj.mapSeq (·++its.toArray))).push (seqObj "list" its.toArray 0)).objs.size=s.heap.objs.size+2:=by rw[size_push',hsz]
 show wpAny _ _ _ _ _ {s with heap:=((s.heap.push (seqObj "list" #[] 0)).update s.heap.objs.size (Obj.mapSeq (·++its.toArray))).push (seqObj "list" its.toArray 0)};rw[hsz];generalize((s.heap.push (seqObj "list" #[] 0)).update s.heap.objs.size (Obj.mapSeq (·++its.toArray))).push (seqObj "list" its.toArray 0)=h2 at aa keep ag;obtain⟨D,av⟩:∃D:Nat,s.heap.objs.size+1=D:=⟨_,rfl⟩;rw[av]at aa⊢;refine zc (z8 (wpAny_call_entry_kw slot_list_sort ⟨_,aa,rfl⟩ entry_list_sort ?body (ajG _ _)))
 case body=>
  show wpAny (model X.prog X.w) X.A.in1.in1 (Builtin.«list.sort» ⟨[.ref D],[(Str.ofString "key",.ref f)]⟩) _ _ _;rw[ksk_t1];unfold ksk_tree;refine zc (listItems_at aa rfl ?_);refine zc (listUpdate_at aa rfl ?_ (by rw[zw,zn];omega) (zK _));obtain⟨e1,af⟩:∃e1,(h2.update D (Obj.mapSeq λ_=> #[])).get? D=some (seqObj "list" #[] e1):=⟨_,get?_update_seq aa (λ_=> #[])⟩;refine zc (seqEpoch_at af rfl ?_);refine zc (wpAny_newTuple ?_ (by show its.length<=_;rw[zn];omega));refine zc (yyc ?_ (zK _));refine z8 ?_;have aq:((h2.update D (Obj.mapSeq λ_=> #[])).push (seqObj "tuple" its.toArray 0)).objs.size=s.heap.objs.size+3:=by rw[size_push',Heap.size_update,ag]
  have ab:∀b o,s.heap.get? b=some o->(((h2.update D (Obj.mapSeq λ_=> #[])).push (seqObj "tuple" its.toArray 0)).push (seqObj "list" #[] 0)).get? b=some o:=λb o e=>by
   have h9:b<s.heap.objs.size:=zv e;have hb:b≠D:=zD (zzX h9 (by omega));exact zd _ (zd _ ((yQ _ _ _ _ hb).trans (keep b o e)))
  have ap:(((h2.update D (Obj.mapSeq λ_=> #[])).push (seqObj "tuple" its.toArray 0)).push (seqObj "list" #[] 0)).get? D=some (seqObj "list" #[] e1):=zd _ (zd _ af);have al:(((h2.update D (Obj.mapSeq λ_=> #[])).push (seqObj "tuple" its.toArray 0)).push (seqObj "list" #[] 0)).get? (s.heap.objs.size+3)=some (seqObj "list" #[] 0):=by rw[<-aq];exact zC _ rfl
  show wpAny _ _ _ _ _ {s with heap:=((h2.update D (Obj.mapSeq λ_=> #[])).push (seqObj "tuple" its.toArray 0)).push (seqObj "list" #[] 0)};dsimp only;rw[aq];generalize((h2.update D (Obj.mapSeq λ_=> #[])).push (seqObj "tuple" its.toArray 0)).push (seqObj "list" #[] 0)=h4 at ab ap al;obtain⟨kS,ao⟩:∃kS:Nat,s.heap.objs.size+3=kS:=⟨_,rfl⟩;rw[ao]at al⊢;have ad:D≠kS:=zD (by omega);have ai:H D=none:=I.hok.fresh (by omega);have aj:H kS=none:=I.hok.fresh (by omega);have I4:Inv X pins σ (upd H kS (.lst [])) {s with heap:=h4,toks:=s.toks}:=I.laid (t':=s.toks) ab (by omega) ⟨zK _,[],0,.nil,al⟩;have ac:Ss X pins (upd H kS (.lst [])) D:=I.fpOk (by omega) ((iZ ad).trans ai)
  have I5:Inv X (pins++[(D,seqObj "list" #[] e1)]) σ (upd H kS (.lst [])) {s with heap:=h4,toks:=s.toks}:=I4.pins_of λp hp=>by
   rcases zA.mp hp with hp|hp
   ·exact I4.pin p (zG _ hp)
   ·obtain rfl:=zu.mp hp
    exact⟨ap,ac.1,ac.2.1,ac.2.2.1,λv z=>by cases z⟩
  unfold ksk_rest;refine zc (wpAny_rule ?_)
  first|rw[List.forIn_toArray]|rw[<-Array.forIn_toList]
  refine zc (Ue (kf:=kf) (H0:=H) (kS:=kS) F hr hb (λx s' D' hx=>?_) aj ys its [] [] _ _ rv (by rw[zzl];omega) I5 iK (iR aj) (λy hy=>(hK y hy).2) .nil λkvs H2 s2 I2 as ay am=>?_)
  ·refine zc (wpAny_attempt (ya hx (λkv bh hk=>?_) λ_ _ hF=>hF.elim))
   obtain⟨its',n',e',bf,au⟩:=hk
   try dsimp only
   refine zc (listUpdate_at e' rfl ?_ (by rw[zn];omega) (zN (yyi (Array.size_push ..)) (by rw[zn];omega)));exact zx ⟨rfl,au⟩
  ·obtain⟨z,ks,n,rk,bd,e⟩:=I2.lstM as
   have bg:ys.length=kvs.length:=z7 am
   try dsimp only
   refine zc (listItems_at e rfl ?_);have ak:=I2.pin (D,seqObj "list" #[] e1) (zG _ (zG _ (zu.mpr rfl)));refine Yn (G:=λp=>Prm its.length p/\aiH ys kf p) (λi=>kf (ys.getD i .non)) (by omega) (by omega) e ak.1 ad (λi hi=>?_) (λhn=>ae▸ajt (by omega)) (λh2=>⟨List.Perm.refl _,λm _ _ a b bc hb=>absurd bc (by omega)⟩) (λp hp=>hp.1) λp bb=>⟨_,rfl,zx ⟨_,rfl,?_⟩⟩
   ·have hm:ys.getD i .non∈ys:=by
     have:i<ys.length:=by omega
     simp[this]
    obtain⟨t,e2,e3⟩:=Hh (d1:=V.non) (d2:=V.non) am (i:=i) (by rw[yY];omega);rw[yY]at e3;obtain⟨tv,rt,it,bi⟩:=I2.tuple (jH e3);obtain⟨o,ho,hc,m,hd⟩:=it;refine⟨(hK _ hm).1,t,o,tv.toArray,m,?_,ho,hc,hd,rt⟩;have:=Ie rk (i:=i) (by omega);rw[e2]at this;exact this
   ·obtain⟨hp,ar⟩:=bb
    have ax:∀i∈p.toList,i<ys.length:=λi hi=>by
     have:=yH.mp (hp.mem_iff.mp hi);omega
    have ah:p.toList.length=its.length:=by rw[hp.length_eq];simp
    have aw:(p.toList.map λi=>ys.getD i V.non).Perm ys:=by
     have:=hp.map λi=>ys.getD i V.non;rw[<-ae,SJ]at this;exact this
    have I3:=(I2.lset (t':=s2.toks) (its':=[]) (f:=λ_=> #[]) as e rfl .nil (zK _)).unpinned;have an:Ss X pins (upd H2 kS (.lst [])) D:=⟨(iZ ad).trans ak.2.1,ac.2⟩;have az:(s2.heap.update kS (Obj.mapSeq λ_=> #[])).get? D=some (seqObj "list" #[] e1):=(yQ _ _ _ _ ad).trans ak.1;obtain⟨c,hc⟩:∃c,((s2.heap.update kS (Obj.mapSeq λ_=> #[])).update D (Obj.mapSeq λ_=>List.toArray (p.toList.map λi=>its.getD i Value.none))).get? D=some (seqObj "list" (List.toArray (p.toList.map λi=>its.getD i Value.none)) c):=⟨_,get?_update_seq az _⟩;refine⟨.ref D,_,I3.adopt (t':=s2.toks) (zs:=p.toList.map λi=>ys.getD i V.non) an (λb o hb e=>(yQ _ _ _ _ hb).trans e) hc (Qs rv ax) (by rw[za,ah,zn];omega),rfl,q _ _ _ ?_ ai iK aw λm h1 h2=>?_⟩
    ·exact((ay.upd aj).upd ai)
    ·refine zzj.mpr λi j hi hj ba=>?_
     rw[za,ah,<-ae]at hj;have h3:=ar m h1 h2 i j ba hj;have hs:p.size=ys.length:=by rw[<-yk,ah,ae]
     have e1:p.getD i 0=p.toList[i]'(by rw[yk];omega):=by simp[Array.getD,show i<p.size by omega]
     have e2:p.getD j 0=p.toList[j]'(by rw[yk];omega):=by simp[Array.getD,show j<p.size by omega]
     rw[e1,e2]at h3;rw[yyh,yyh];exact h3
noncomputable def Ub(K:Fg_)(sp:Sp)(t:TA):TE:=λσ H Q=>t σ H λvs H1=>∃x,vs=[x]/\Pz K sp x H1 Q
def Li{e:Expr}{t:TA}{g:Str}{p kp kpos pos:Pos}(F:jQ X.prog X.w X.K X.mg X.base CX0 k f fd ps sp)(hr:um (k+2) X.A)(hb:Binds X.K fd ps [])(ad:Gl X "sorted") (aa:X.mg "sorted" =none) (ac:bootBuiltins "sorted" =some (.builtin "sorted"))
  (hg:Gl X g) (hm:X.mg g=some (.ref f)) (ha:PA X [e] t) (ab:(g==("__debug__" :Str))=false:=by decide)
  (he:backTo pos (starEach [e] X.env)=(false,eval e X.env)::backTo pos (starEach [] X.env):=by rfl) (hpl:(backTo pos (starEach [e] X.env)).any (·.1)=false:=by rfl):
  PE X (.Call (.Name "sorted" p) [e] [⟨some "key",.Name g kp,kpos⟩] pos) (Ub X.K sp t):=by
 intro pins s σ H Q I h;refine yf (Bb I ad aa ac ?_);refine callWith_kw (thn (ha pos pins s σ H _ I h) λus s1 ⟨vs,H1,I1,r,x,ex,q⟩=>?_) he hpl;subst ex;obtain⟨u,rfl,rx⟩:=vals1 r;have hk:PK X [⟨some "key",.Name g kp,kpos⟩] (pB (tC (.ref f)) Uu):=XS (lQ hg hm rfl ab) aiw;refine thn (hk pos pins s1 σ H1 (λzs H2=>zs=[.ref f]/\H2=H1) I1 ⟨rfl,rfl⟩) λws s2 ⟨zs,H2,I2,rz,e1,e2⟩=>?_;subst e1 e2;obtain⟨w1,rfl,z⟩:=vals1 rz;cases z;exact VL F hr hb I2 rx q
def Jf{K:Fg_}{e:Expr}{t:TA}{g:Str}{p kp kpos pos:Pos}(q:X.K=K)(h:PE X (.Call (.Name "sorted" p) [e] [⟨some "key",.Name g kp,kpos⟩] pos) (Ub X.K sp t)):PE X (.Call (.Name "sorted" p) [e] [⟨some "key",.Name g kp,kpos⟩] pos) (Ub K sp t):=q▸h
def ap_tSortK{K:Fg_}{sp:Sp}{t:TA}{σ:St}{H:Hp}{Q:VK}:Ub K sp t σ H Q=t σ H λvs H1=>∃x,vs=[x]/\Pz K sp x H1 Q:=rfl
def ap_rSortK{K:Fg_}{sp:Sp}{a:Addr}{H:Hp}{Q:VK}:Pz K sp (.ref a) H Q=∃(ys:List V)(kf:V->List Int),SqL K H a ys/\ys.length<64/\(∀y∈ys,kf y≠[]/\aiP sp kf H y)/\
  ∀p zs H',Same H H'->H p=none->H' p=some (.lst zs)->zs.Perm ys->(∀m,(∀y∈ys,(kf y).length=m)->(ys.map kf).Nodup->zs.Pairwise λy z=>FN (kf y) (kf z) false=true)->Q (.ref p) H':=by simp[Pz]
end
section
variable{X:Cx}
noncomputable def ajq:V->List V->Hp->VK->Prop:=λx vs H Q=>∃(l:Addr)(xs:List V)(i:Int)(y:V),x=.ref l/\vs=[.int i,y]/\H l=some (.lst xs)/\0<=i/\i<=xs.length/\i<1000000/\xs.length+1<=sizeLine/\Q .non (upd H l (.lst (xs.take i.toNat++y::xs.drop i.toNat)))
def Xw:MtM X "list.insert" ajq:=by
 intro pins s σ H x vs v us Q I rx rv h;obtain⟨l,xs,i,y,rfl,rfl,hH,ac,hk,ab,hz,q⟩:=h;cases rx;obtain⟨iv,u,rfl,r1,ru⟩:=rv.two;obtain⟨t,rfl⟩:=r1;obtain⟨z,its,n,r,hl,e⟩:=I.lstM hH
 have aa:¬(!Builtin.List.listFitsIndex i)=true:=by
  rw[fitsIndex_both (Int.le_trans (by decide) ac) (yyj ab (by decide))];exact zP
 have hsz:its.toArray.size<=sizeLine:=by rw[zw,<-hl];exact z
 refine zzL F.slot_list_insert ⟨_,e,rfl⟩ F.entry_list_insert (F.args_list_insert_3 _ _ _) (PySem.AutoSeq1.list_insert_list_int_val_1 l its.toArray n i t u aa hsz) ⟨e,?_⟩;refine⟨.non,_,I.lset (its':=its.take i.toNat++u::its.drop i.toNat) hH e ?_ ((r.take i.toNat).append (.cons ru (r.drop i.toNat))) ?_,rfl,q⟩
 ·have hm:(if i<0 then(i+(its.toArray.size:Int)).toNat else min i.toNat its.toArray.size)=i.toNat:=by
   rw[ze (by omega),zw];omega
  show(its.toArray.extract 0 (if i<0 then(i+(its.toArray.size:Int)).toNat else min i.toNat its.toArray.size)).push u++its.toArray.extract (if i<0 then(i+(its.toArray.size:Int)).toNat else min i.toNat its.toArray.size)=_;rw[hm];apply Array.toList_inj.mp;simp;exact z3 (by rw[yB];omega)
 ·rw[zB,zE,zO,yB]
  omega
end
end L2
namespace L2
open PySem PySem.Spec PyProof.Rows
def ahR{xs:List V}{us:List Value}(h:Vals xs us):Vals xs.reverse us.reverse:=by
 induction h with
 |nil=>exact .nil
 |cons r _ ih=>
  rw[List.reverse_cons,List.reverse_cons];exact ih.append (.cons r .nil)
section
variable{K:Fg_}{a:Addr}{xs:List V}{g:TG}{tt:TT}{te:TE}{σ:St}{H:Hp}{Q:VK}{cap:List (Option Nat)}
def kI.enumI(Sσ:St->Prop)(p:Nat->Bool)(hS:SqL K H a xs)(h0:Sσ (qY σ cap))(hz:xs.length<=sizeLine)
  (hs:∀(i:Nat) x,xs[i]? =some x->∀(σ:St)(H5:Hp)(q:Addr)(R1:St->VK)(R2:St->Hp->Prop),Sσ σ->Same H H5->H5 q=some (.tup [.int i,x])->(p i=true->∀z H6,Sσ z->Same H5 H6->R1 z (.int i) H6)->(p i=false->∀z H6,Sσ z->Same H5 H6->R2 z H6)->
   g (.ref q) σ H5 λz H4=>tt z H4 λb H5=>if b=true then te z H5 (R1 z)else R2 z H5)
  (k:∀D H',H D=Option.none->Same H H'->H' D=some (.lst (((List.range xs.length).filter p).map λi:Nat=>V.int i))->Q (.ref D) H'):kI cap (Ite K a) g tt te σ H Q:=by
 intro D hD;refine⟨λi m acc σ H2=>m=xs.length - i/\i<=xs.length/\Sσ σ/\Same H H2/\acc=((List.range i).filter p).map λi:Nat=>V.int i,⟨xs.length,rfl,zK _,h0,iR hD,rfl⟩,?_⟩;rintro i m acc σ1 H2 ⟨rfl,hi,hσ,sm,rfl⟩ hA
 have ad:(((List.range i).filter p).map λi:Nat=>V.int i).length<=i:=by
  rw[za];exact zN (yn _ _) (by simp)
 by_cases ab:i<xs.length
 ·refine .inr ⟨⟨xs,xs[i],sm.seq hS,by simp[ab]⟩,λv H3 hy=>?_⟩
  obtain⟨q,x,hq,rfl,rfl,e1⟩:=hy;have hx:=e1 xs (sm.seq hS);have s3:=iR (o:=.tup [V.int i,x]) hq;refine hs i x hx σ1 _ q _ _ hσ (sm.trans s3) iK (λhp z H6 aa s6=>?_) λhp z H6 aa s6=>?_
  ·have ac:=(s3.trans s6) _ _ hA
   refine⟨_,ac,by omega,xs.length - (i+1),by omega,rfl,ab,aa,(sm.trans (s3.trans s6)).upd hD,?_⟩;rw[List.range_succ,yq,yc (by simpa using hp),zj];rfl
  ·have ac:=(s3.trans s6) _ _ hA
   refine⟨xs.length - (i+1),by omega,_,ac,rfl,ab,aa,sm.trans (s3.trans s6),?_⟩;rw[List.range_succ,yq,yd (by simpa using hp),zj];simp
 ·obtain rfl:i=xs.length:=by omega
  exact .inl ⟨⟨xs,sm.seq hS,zo _⟩,k D H2 hD sm hA⟩
end
end L2
namespace L2
open PySem PySem.W PySem.Spec PySem.Calls PyProof.Rows
noncomputable def Wd(Pt:Addr)(H H':Hp):Prop:=∀b o,b≠Pt->H b=some o->H' b=some o
def Wd.of{q:Addr}{H H':Hp}(h:Same H H'):Wd q H H':=λb o _ e=>h b o e
def Wd.trans{q:Addr}{H H1 H2:Hp}(h:Wd q H H1)(k:Wd q H1 H2):Wd q H H2:=λb o n e=>k b o n (h b o n e)
end L2
namespace L2
open PySem PySem.W PySem.Spec PySem.Calls PyProof.Rows
structure amv(z TI TO i1 i2 i3 l1 l2 l3:Addr):Prop where
 zz:TI≠z/\TO≠z/\i1≠z/\i2≠z/\i3≠z/\l1≠z/\l2≠z/\l3≠z
 to:TI≠TO/\i1≠TO/\i2≠TO/\i3≠TO/\l1≠TO/\l2≠TO/\l3≠TO
 ii:i1≠i2/\i1≠i3/\i2≠i3
 j1:TI≠i1/\l1≠i1/\l2≠i1/\l3≠i1
 j2:TI≠i2/\l1≠i2/\l2≠i2/\l3≠i2
 j3:TI≠i3/\l1≠i3/\l2≠i3/\l3≠i3
end L2
namespace L2
open PySem PySem.W PySem.Spec PySem.Calls PyProof.Rows
def ajI:typeLookup (.type "list_reverseiterator") "__len__" =pure none:=by rw[typeLookup_type,builtinLookup_eq_fast];kernel_rfl
def ZV:typeLookup (.type "list_reverseiterator") "__length_hint__" =pure (some (.builtin "list_reverseiterator.__length_hint__")):=by rw[typeLookup_type,builtinLookup_eq_fast];kernel_rfl
def ahF:isSubtype (.type "list_reverseiterator") (.type "list_reverseiterator")=pure true:=by rw[isSubtype_type];kernel_rfl
section
variable{prog:Program}{w:World}{A:Around}{s:Shared}{R:Result->Shared->Prop}
def Wn{it l S:Addr}{items:Array Value}{c₀:Nat}{res:Value}(hh:A.in1.handled=none)(z:s.heap.IsRevIter it l ((items.size:Int) - 1))(hl:s.heap.IsList l items)(ac:l≠it)(ab:S≠it)(ae:S≠l)(hn:items.size<=sizeLine)
  (hS:s.heap.get? S=some {cls:=.type "list",data:=.seq #[] c₀})
  (hR:∀s' q c',Moved [S,it] (λa b=>b=a) s s'->s'.heap.get? S=some {cls:=.type "list",dict:=none,data:=.seq q c',slots:= #[]}->ItemsOf (λi v=>items[items.size - 1 - i]? =some v) q items.size->R (.ok (.ret res)) s'):
  wpAny (model prog w) A.in1 (Builtin.List.listExtendWith (.ref S) (.ref it) res) (λad s'=>match ad with|.done f=>R (.ok f) s'|.again c'=>c'.quiet=true/\codeAny (model prog w) A c' R s') (λe s'=>R (.error e) s') s:=by
 have W:=Walks.listRev (prog:=prog) (w:=w) hh it l ac items;have hT:=z.typeIs;unfold Builtin.List.listExtendWith;refine zc (yyl hT ?_);have h1:Builtin.List.listSameRef (.ref S) (.ref it)=false:=by simp[Builtin.List.listSameRef,ab]
 have h2:(Value.type "list_reverseiterator" ==Value.type "list")=false:=by decide
 have h3:(Value.type "list_reverseiterator" ==Value.type "tuple")=false:=by decide
 simp only[h1,h2,h3,Bool.or_false,yC,if_false];refine zc (wpAny_pyIter_revIter z (zc (z8 ?_)));unfold Builtin.List.listLengthHint;refine zc (zzT hT ajI ?_);show wpAny _ A.in1 (specialOf (Value.ref it) (Str.ofString "__length_hint__")>>=_) _ _ _
 refine zc (zzT hT ZV ?_);dsimp only;rw[show splitId "list_reverseiterator.__length_hint__" =some ("list_reverseiterator", "__length_hint__")from by kernel_rfl];dsimp only;refine zc (wpAny_isInstance (T:= "list_reverseiterator") (b:=true) hT ahF ?_);rw[ze (by decide),zl (by kernel_rfl),ze (by decide)];refine zx ?_;rw[ze (by decide+kernel)];refine zx ⟨plainId_quiet F.plain_extend_loop _,codeAny_extend_loopS W.toS hn S (by simp[ab,ae]) res items.size 0 _ #[] c₀ rfl (zK _) ⟨zK _,?_,hl⟩ hS (ItemsOf.nil _) λs' q c' hm af aa=>hR s' q c' hm af aa⟩;rw[show((items.size:Int) - 1 - ((0:Nat):Int))=(items.size:Int) - 1 by omega];exact z
end
section
variable{prog:Program}{w:World}{A:Around}{E:Value->Shared->Prop}{s:Shared}
def Mi{it l:Addr}{items:Array Value}{Q:Value->Shared->Prop}(hh:A.in1.in1.handled=none)(ad:s.heap.IsRevIter it l ((items.size:Int) - 1))(hl:s.heap.IsList l items)(ae:l≠it)(hn:items.size<=sizeLine)
  (hQ:∀s' q c',(∀b o,b≠it->s.heap.get? b=some o->s'.heap.get? b=some o)->s'.gens=s.gens->s'.drawn=s.drawn->s'.os=s.os->
   s'.heap.get? s.heap.objs.size=some {cls:=.type "list",dict:=none,data:=.seq q c',slots:= #[]}->ItemsOf (λi v=>items[items.size - 1 - i]? =some v) q items.size->Q (.ref s.heap.objs.size) s'):
  wpAny (model prog w) A (call (.type "list") [.ref it]) Q E s:=by
 have ab:it<s.heap.objs.size:=by obtain⟨o,e,_⟩:=ad;exact zv e
 have ac:l<s.heap.objs.size:=by obtain⟨o,e,_⟩:=hl;exact zv e
 refine callType_codes (Q₁:=λobj s₁=>obj=.ref s.heap.objs.size/\s₁={s with heap:=s.heap.push {cls:=.type "list",data:=.seq #[]}}) F.called_list (F.typeCall_list_1 _) F.entry_list_init (code_list_new _ ⟨rfl,rfl⟩) λobj s₁ h₁=>?_;obtain⟨rfl,rfl⟩:=h₁;have hS:(s.heap.push {cls:=.type "list",data:=.seq #[]}).get? s.heap.objs.size=some {cls:=.type "list",data:=.seq #[]}:=zC _ rfl;have af:=Heap.get?_update_self (Obj.mapSeq (λ_=>(#[]:Array Value))) hS rfl
 have z:∀b o,b<s.heap.objs.size->s.heap.get? b=some o->((s.heap.push {cls:=.type "list",data:=.seq #[]}).update s.heap.objs.size (Obj.mapSeq (λ_=>(#[]:Array Value)))).get? b=some o:=λb o hb e=>
  (yI _ _ (yu hb)).trans (zd _ e)
 refine⟨⟨_,hS,rfl⟩,F.args_list_init_2 _ _,?_⟩;show wpAny _ A.in1.in1 (do let old<-Builtin.List.listItems (.ref s.heap.objs.size);Builtin.List.listUpdate (.ref s.heap.objs.size) (λ_=> #[]);letGo old.toList.reverse;Builtin.List.listExtendWith (.ref s.heap.objs.size) (.ref it) .none) _ _ _;refine zc ?_;unfold Builtin.List.listItems;refine zc (zz5 hS rfl (zx ?_));show wpAny _ A.in1.in1 (updateSeq s.heap.objs.size (λ_=> #[])>>=λ_=>letGo (#[]:Array Value).toList.reverse>>=λ_=>Builtin.List.listExtendWith (.ref s.heap.objs.size) (.ref it) .none) _ _ _;refine zc (yyo hS rfl (zc (yya ?_)));refine Wn (l:=l) (items:=items) hh (ad.at λo e=>z _ o ab e) (hl.at λo e=>z _ o ac e) ae (yu ab) (yu ac) hn af λs' q c' hm ag aa=>?_;refine⟨rfl,hQ s' q c' (λb o hb e=>hm.heap b o (by simp[hb,zD (zv e)]) (z b o (zv e) e)) hm.gens hm.drawn hm.os ag aa⟩
end
section
variable{X:Cx}
noncomputable def Gz(K:Fg_)(t:TA):TE:=λσ H Q=>t σ H λvs H1=>∃a ys,vs=[.ref a]/\SqL K H1 a ys/\∀l,H1 l=none->Q (.ref l) (upd H1 l (.lst ys.reverse))
def Wq{e:Expr}{t:TA}{p p2 pos aa:Pos}(hc:X.calm=true)(ai:Gl X "list") (ag:X.mg "list" =none) (aj:Gl X "reversed") (ae:X.mg "reversed" =none) (ha:PA X [e] t)
  (hs:starEach [.Call (.Name "reversed" p2) [e] [] aa] X.env=[(false,eval (.Call (.Name "reversed" p2) [e] [] aa) X.env)]:=by rfl) (he:starEach [e] X.env=[(false,eval e X.env)]:=by rfl):
  PE X (.Call (.Name "list" p) [.Call (.Name "reversed" p2) [e] [] aa] [] pos) (Gz X.K t):=by
 intro pins s σ H Q I h;refine yf (Bb I ai ag (show bootBuiltins "list" =some (.type "list")from by decide+kernel) ?_);refine PyProof.Rows.callWith_type1 (T:= "list") ?_ (by rw[hs];rfl) rfl;rw[hs];show wpAny _ _ (spliced ((false,eval (.Call (.Name "reversed" p2) [e] [] aa) X.env)::backTo pos [])) _ _ s;refine Calls.spliced_cons (yf (Bb I aj ae (show bootBuiltins "reversed" =some (.type "reversed")from by decide+kernel) (PyProof.Rows.callWith_type1 (T:= "reversed") (thn (ha aa pins s σ H _ I h) λus s1 ⟨vs,H1,I1,r1,a,ys,ev,hq,q⟩=>?_) (by rw[he];rfl) rfl)));subst ev;obtain⟨u,rfl,ru⟩:=vals1 r1;cases ru;obtain⟨its,rv,pl,hz⟩:=I1.list hq;have hl:=pl.isList;have ah:a<s1.heap.objs.size:=by obtain⟨o,e,_⟩:=hl;exact zv e
 refine call_reversed_list hl (Calls.spliced_nil ?_);have I2:Inv X pins σ H1 {s1 with heap:=s1.heap.push (revObj a ((its.toArray.size:Int) - 1))}:=I1.kept (t':=s1.toks) λb o e=>zd _ e;have af:(s1.heap.push (revObj a ((its.toArray.size:Int) - 1))).IsRevIter s1.heap.objs.size a ((its.toArray.size:Int) - 1):=⟨_,zC _ rfl,rfl,rfl⟩;have hf:Ss X pins H1 s1.heap.objs.size:=I1.fpOk (zo _) (I1.hok.fresh (zo _));have hsz:its.toArray.size<=sizeLine:=by rw[zw,<-rv.length];exact hz
 refine Mi (s:={s1 with heap:=s1.heap.push (revObj a ((its.toArray.size:Int) - 1))}) (I.ok.hd hc) af (hl.at λo e=>zd _ e) (zD ah) hsz λs' acc c k1 k2 k3 k4 hS ab=>?_;obtain⟨h',g,d,tk,os⟩:=s';obtain rfl:g=s1.gens:=k2;obtain rfl:d=s1.drawn:=k3;obtain rfl:os=s1.os:=k4;have e1:(s1.heap.push (revObj a ((its.toArray.size:Int) - 1))).objs.size=s1.heap.objs.size+1:=zz0 ..;rw[show(({s1 with heap:=s1.heap.push (revObj a ((its.toArray.size:Int) - 1))}:Shared).heap.objs.size)=s1.heap.objs.size+1 from e1]at hS⊢
 have ac:acc.toList=its.reverse:=by
  refine zzb λi=>?_;by_cases hi:i<its.length
  ·have ad:i<acc.size:=by rw[ab.1,zw];exact hi
   have h2:its.toArray[its.toArray.size - 1 - i]? =some acc[i]:=ab.2 i acc[i] (zzi ad);rw[yK,zzi ad,List.getElem?_reverse hi];rw[List.getElem?_toArray,zw]at h2;exact h2.symm
  ·rw[zY (by rw[yk,ab.1,zw];omega),zY (by rw[List.length_reverse];omega)]
 refine⟨.ref (s1.heap.objs.size+1),_,I2.turnedT (t':=tk) (fp:=[s1.heap.objs.size]) (T:=s1.heap.objs.size+1) (o:=.lst ys.reverse) (λb hb=>by rw[zu.mp hb];exact hf) (yyi e1) (λb o hb e=>k1 b o (λz=>hb (by simp[z])) e) ?_,rfl,q _ (I1.hok.fresh (yz _))⟩;refine⟨by rw[List.length_reverse];exact hz,its.reverse,c,ahR rv,?_⟩;rw[<-ac,zzO];exact hS
def RZ{K:Fg_}{t:TA}{e:Expr}(q:X.K=K)(h:PE X e (Gz X.K t)):PE X e (Gz K t):=q▸h
def ap_tListRev{K:Fg_}{t:TA}{σ:St}{H:Hp}{Q:VK}:Gz K t σ H Q=t σ H λvs H1=>∃a ys,vs=[.ref a]/\SqL K H1 a ys/\∀l,H1 l=none->Q (.ref l) (upd H1 l (.lst ys.reverse)):=rfl
end
end L2
namespace L2
open PySem PySem.W PySem.Spec PySem.Calls PyProof.Rows
section
variable{prog:Program}{w:World}{A:Around}{R:Result->Shared->Prop}{I:Addr}{fp wr:List Addr}{G:Array GenState->Array GenState->Prop}{n:Nat}{P:Nat->Value->Prop}{St:Nat->Shared->Prop}
def Zu(W:WalksS prog w A.in1 I fp wr G n P St)(bt:Nat->Nat->Bool)(ad:CmpOf prog w A.in1 .Lt P bt)(z:∀j,0<j->j<n->bt j 0=false)(S:Addr)(al:S∉fp)(dv v0:Value)(aj:P 0 v0):
  ∀(k j:Nat)(s:Shared)(c:Nat),n - (j+1)=k->j+1<=n->St (j+1) s->s.heap.get? S=some {cls:=.type "list",dict:=none,data:=.seq #[v0,v0] c,slots:= #[]}->
  (∀s',Moved (S::wr) G s s'->R (.ok (.ret v0)) s')->codeAny (model prog w) A (.builtin "min.loop" ⟨[.ref I,.none,.ref S],[("default",dv)]⟩) R s:=by
 have af:S∉wr:=λh=>al (W.sub _ h);have q:∀b∈wr,b∈S::wr:=λb z=>zk _ z
 have ak:(toString "min" ++toString ".loop" :String)= "min.loop" :=by decide
 have ae:∀{b:Addr},b∉S::wr->S≠b:=λz h=>z (h▸zg);intro k
 induction k with
 |zero=>
  intro j s c hk hj ab hS hR;have ai:j+1=n:=by omega
  refine codeAny_builtin F.entry_min_loop ?_;rw[Around.under_plainId F.plain_min_loop _];show wpAny _ A.in1 (seqItems? (.ref S)>>=_) _ _ s
  refine zc (zz5 hS rfl ?_);show wpAny _ A.in1 (tryCatch (pyNext (.ref I)) _>>=_) _ _ s
  refine zc (zzf (W.done s _ _ (ai▸ab) λs' hm=>?_));have hS':=hm.heap S _ af hS;show wpAny _ A.in1 (updateSeq S (λ_=> #[])>>=_) _ _ _
  refine zc (yyo hS' rfl (zc (yya (zx (hR _ ((hm.mono q).then_heap (tk:=s'.toks) (zo _) λb o z e=>(yI _ _ (ae z)).trans e))))))
 |succ k ih=>
  intro j s c hk hj ab hS hR;have aa:j+1<n:=by omega
  refine codeAny_builtin F.entry_min_loop ?_;rw[Around.under_plainId F.plain_min_loop _];show wpAny _ A.in1 (seqItems? (.ref S)>>=_) _ _ s
  refine zc (zz5 hS rfl ?_);show wpAny _ A.in1 (tryCatch (pyNext (.ref I)) _>>=_) _ _ s
  refine zc (zzf (W.item (j+1) s _ _ aa ab λv s' hP ag hm=>?_));have hS':=hm.heap S _ af hS;show wpAny _ A.in1 (tryCatch (holding [v,v] (richCompare .Lt v v0>>=_)) _>>=_) _ _ _
  refine zc (zzf (z8 (zc (ad (j+1) 0 v v0 _ _ _ hP aj (zc (z8 (yw (zc (yya (zx ?_))))))))));rw[z (j+1) (Nat.succ_pos _) aa];simp only[yC,if_false];refine zc (yya ?_);rw[ak];exact zx ⟨plainId_quiet F.plain_min_loop _,ih (j+1) _ c (by omega) aa ag hS' λah ac=>hR ah (Moved.trans W.gtrans (hm.mono q) ac)⟩
def Wa(W:WalksS prog w A.in1 I fp wr G n P St)(bt:Nat->Nat->Bool)(ac:CmpOf prog w A.in1 .Lt P bt)(hb:∀j,0<j->j<n->bt j 0=false)(S:Addr)(z:S∉fp)(dv:Value){s:Shared}{c:Nat}(ab:St 0 s)(hS:s.heap.get? S=some {cls:=.type "list",dict:=none,data:=.seq #[] c,slots:= #[]})
  (hR:∀v s',(n=0->v=dv)->(0<n->P 0 v)->Moved (S::wr) G s s'->R (.ok (.ret v)) s'):codeAny (model prog w) A (.builtin "min.loop" ⟨[.ref I,.none,.ref S],[("default",dv)]⟩) R s:=by
 have af:S∉wr:=λh=>z (W.sub _ h);have q:∀b∈wr,b∈S::wr:=λb hb=>zk _ hb
 have ai:(toString "min" ++toString ".loop" :String)= "min.loop" :=by decide
 have ad:∀{b:Addr},b∉S::wr->S≠b:=λhb h=>hb (h▸zg);refine codeAny_builtin F.entry_min_loop ?_;rw[Around.under_plainId F.plain_min_loop _];show wpAny _ A.in1 (seqItems? (.ref S)>>=_) _ _ s
 refine zc (zz5 hS rfl ?_);show wpAny _ A.in1 (tryCatch (pyNext (.ref I)) _>>=_) _ _ s
 by_cases hn:n=0
 ·refine zc (zzf (W.done s _ _ (hn▸ab) λs' hm=>?_))
  show wpAny _ A.in1 (rule _>>=_) _ _ _;exact zc (wpAny_rule (zx (hR dv _ (λ_=>rfl) (λh=>absurd h (by omega)) (hm.mono q))))
 ·have hp:0<n:=by omega
  refine zc (zzf (W.item 0 s _ _ hp ab λv s' hP ae hm=>?_));have hS':=hm.heap S _ af hS;show wpAny _ A.in1 (updateSeq S (λ_=> #[v,v])>>=_) _ _ _
  refine zc (yyo hS' rfl ?_);rw[ai];refine zx ⟨plainId_quiet F.plain_min_loop _,Zu W bt ac hb S z dv v hP _ 0 _ _ rfl hp (W.frame _ s' _ s'.toks ae (zo _) λb ag o e=>(yI _ _ (λh:S=b=>z (by rw[h];exact ag))).trans e) (Heap.get?_update_self _ hS' rfl) λah aa=>?_⟩;exact hR v ah (λh=>absurd h hn) (λ_=>hP) (Moved.trans W.gtrans ((hm.mono q).then_heap (by first|exact zo _|exact yz _|omega) λb o hb e=>(yI _ _ (ad hb)).trans e) aa)
end
def amO(a v:Value):argsOk "min" ⟨[a],[(Str.ofString "default",v)]⟩:=by unfold argsOk;kernel_rfl
section
variable{prog:Program}{w:World}{A:Around}{E:Value->Shared->Prop}{s:Shared}
def Nt{l:Addr}{its:List Value}{ns:List Int}{dv:Value}{Q:Value->Shared->Prop}(hh:A.in1.handled=none)(hl:s.heap.IsList l its.toArray)(hi:IntsAre its ns)(ad:ns.Pairwise (·<·))
  (hQ:∀v h' tk,(ns=[]->v=dv)->(∀n r,ns=n::r->∃t,v=.int n t)->(∀b o,s.heap.get? b=some o->h'.get? b=some o)->Q v {s with heap:=h',toks:=tk}):
  wpAny (model prog w) A (call (.builtin "min") [.ref l] [(Str.ofString "default",dv)]) Q E s:=by
 have ai:(toString "min" ++toString ".loop" :String)= "min.loop" :=by decide
 have af:l<s.heap.objs.size:=by obtain⟨o,e,_⟩:=hl;exact zv e
 have aa:wpAny (model prog w) A.in1 (Builtin.«min» ⟨[.ref l],[(Str.ofString "default",dv)]⟩) (λah s'=>match ah with
   |.done f=>(match(Except.ok f:Result)with|.ok (.ret v)=>Q v s'|.ok _=>False|.error e=>E e s')
   |.again c'=>c'.quiet=true/\codeAny (model prog w) A c' (λr s'=>match r with|.ok (.ret v)=>Q v s'|.ok _=>False|.error e=>E e s') s') E s:=by
  show wpAny _ A.in1 (Builtin.Builtins.bindParams "min" ["key", "default"] 0 ⟨[],[(Str.ofString "default",dv)]⟩>>=_) _ _ s;refine zc (wpAny_of_eq (show Builtin.Builtins.bindParams "min" ["key", "default"] 0 ⟨[],[(Str.ofString "default",dv)]⟩=pure [none,some dv]from rfl) (zc (zx (zc (yM hl ?_)))))
  have ia:∀(i:Nat) v,its.toArray[i]? =some v->∃t,v=.int (ns.getD i 0) t:=λi v e=>by
   rw[List.getElem?_toArray]at e;have rv:=wG hi;have aj:i<its.length:=(zp.mp e).1;have ac:i<ns.length:=by have:=rv.length;rw[za]at this;omega
   obtain⟨u,hu,ru⟩:=rv.get (show(ns.map V.int)[i]? =some (.int ns[i]) by rw[zm,zr ac];rfl);rw[e]at hu;obtain rfl:=zy hu;obtain⟨t,rfl⟩:=ru;exact⟨t,by simp[ac]⟩
  have q:its.length=ns.length:=by have:=(wG hi).length;rw[za]at this;exact this.symm
  refine zc (yyc ?_ (zK _));rw[ai];have W:=(Walks.list (prog:=prog) (w:=w) (A:=A.in1) hh s.heap.objs.size l (zD af) its.toArray).toS;have e1:(s.heap.push {cls:=.type "list_iterator",data:=.fields #[.ref l,.int 0 0]}).objs.size=s.heap.objs.size+1:=zz0 ..;refine zx ⟨plainId_quiet F.plain_min_loop _,Wa W _ (CmpOf.ints_lt (λi=>ns.getD i 0) ia) (λj h0 hj=>?_) _ ?_ dv ?_ (zC _ rfl) λv s' h1 h2 hm=>?_⟩
  ·rw[zw,q]at hj
   have ag:0<ns.length:=by omega
   have:=zzj.mp ad 0 j ag hj h0;have ej:ns.getD j 0=ns[j]:=by simp[hj]
   have e0:ns.getD 0 0=ns[0]:=by simp[ag]
   rw[ej,e0];exact zQ (by omega)
  ·show(s.heap.push _).objs.size∉[s.heap.objs.size,l]
   rw[e1];simp only[zt,zf,or_false,not_or];exact⟨Nat.succ_ne_self _,λz=>absurd af (Nat.not_lt.mpr (z▸yz _))⟩
  ·exact⟨⟨_,zd _ (zC _ rfl),rfl,rfl⟩,hl.at λo e=>zd _ (zd _ e)⟩
  ·obtain⟨h',g,d,tk,os⟩:=s'
   obtain rfl:g=s.gens:=hm.gens;obtain rfl:d=s.drawn:=hm.drawn;obtain rfl:os=s.os:=hm.os;refine hQ v h' tk (λe=>h1 (by rw[zw,q,e];rfl)) (λn r e=>?_) λb o e=>hm.heap b o ?_ (zd _ (zd _ e))
   ·obtain⟨t,rfl⟩:=ia 0 v (h2 (by rw[zw,q,e];exact Nat.succ_pos _))
    exact⟨t,by rw[e];rfl⟩
   ·have ab:=zv e
    have e2:({s with heap:=s.heap.push {cls:=.type "list_iterator",data:=.fields #[.ref l,.int 0 0]}}:Shared).heap.objs.size=s.heap.objs.size+1:=e1;rw[e2];simp only[zt,zf,or_false,not_or];exact⟨λz=>absurd ab (Nat.not_lt.mpr (z▸yz _)),zD ab⟩
 refine yyk (codeAny_call_builtin F.plain_min F.entry_min ?_);simp only[checkBuiltinCall,F.kind_min]
 cases ae:Manifest.signature? "min" with
 |none=>exact zx aa
 |some sig=>
  have ha':Bind.checkArgs "min" sig ⟨[.ref l],[(Str.ofString "default",dv)]⟩=pure ():=by simpa only[argsOk,ae] using amO (.ref l) dv
  simp only[ha'];exact zx aa
end
section
variable{X:Cx}
noncomputable def aht(K:Fg_)(t:TA)(td:TE):TE:=λσ H Q=>t σ H λvs H1=>td σ H1 λy H2=>∃(a:Addr)(ns:List Int)(i:Int),vs=[.ref a]/\[y]=[.int i]/\SqL K H2 a (ns.map V.int)/\ns.Pairwise (·<·)/\Q (.int (ns.headD i)) H2
def ajR{e d:Expr}{t:TA}{td:TE}{p kpos pos:Pos}(hc:X.calm=true)(hg:Gl X "min") (hm:X.mg "min" =none) (ha:PA X [e] t) (hd:PE X d td)
  (he:backTo pos (starEach [e] X.env)=(false,eval e X.env)::backTo pos (starEach [] X.env):=by rfl) (hpl:(backTo pos (starEach [e] X.env)).any (·.1)=false:=by rfl):
  PE X (.Call (.Name "min" p) [e] [⟨some "default",d,kpos⟩] pos) (aht X.K t td):=by
 intro pins s σ H Q I h;refine yf (Bb I hg hm (show bootBuiltins "min" =some (.builtin "min")from by decide+kernel) ?_);refine callWith_kw (thn (ha pos pins s σ H _ I h) λus s1 ⟨vs,H1,I1,r,q1⟩=>?_) he hpl;have hk:PK X [⟨some "default",d,kpos⟩] (pB td Uu):=XS hd aiw;refine thn (hk pos pins s1 σ H1 (λzs H2=>∃(a:Addr)(ns:List Int)(i:Int),vs=[.ref a]/\zs=[.int i]/\SqL X.K H2 a (ns.map V.int)/\ns.Pairwise (·<·)/\Q (.int (ns.headD i)) H2) I1 q1) λws s2 ⟨zs,H2,I2,rz,a,ns,i,ev,ey,hS,z,q⟩=>?_;subst ev ey;obtain⟨u,rfl,ru⟩:=vals1 r;cases ru;obtain⟨v1,rfl,aa⟩:=vals1 rz;obtain⟨ab,rfl⟩:=aa;obtain⟨its,rv,pl,hz⟩:=I2.list hS;refine Nt (ns:=ns) (I.ok.hd hc) pl.isList (intsAre_of rv) z λv h' tk h1 h2 k=>⟨.int (ns.headD i),H2,I2.kept (t':=tk) k,?_,q⟩
 cases ns with
 |nil=>rw[h1 rfl];exact⟨_,rfl⟩
 |cons n r=>obtain⟨t,rfl⟩:=h2 n r rfl;exact⟨_,rfl⟩
def ap_tMinD{K:Fg_}{t:TA}{td:TE}{σ:St}{H:Hp}{Q:VK}:aht K t td σ H Q=t σ H λvs H1=>td σ H1 λy H2=>∃(a:Addr)(ns:List Int)(i:Int),vs=[.ref a]/\[y]=[.int i]/\SqL K H2 a (ns.map V.int)/\ns.Pairwise (·<·)/\Q (.int (ns.headD i)) H2:=rfl
def ahK{K:Fg_}{t:TA}{td:TE}{e:Expr}(q:X.K=K)(h:PE X e (aht X.K t td)):PE X e (aht K t td):=q▸h
end
end L2
namespace L2
open PySem PySem.W PySem.Spec PyProof.Rows
def ap_break{D:Ends}{σ:St}{H:Hp}:ahU D σ H=D.bk σ H:=rfl
end L2
namespace L2
open PySem PySem.W PySem.Spec PySem.Calls PyProof.Rows
section
variable{X:Cx}
noncomputable def Vb(K:Fg_):List V->Hp->VK->Prop:=λxs H Q=>∃(a:Addr)(ns:List Int),xs=[.ref a]/\SqL K H a (ns.map V.int)/\ns.length<64/\
 ∀p (ms:List Int),H p=none->ms.Perm ns->(ms.Pairwise λx y=>x<=y)->Q (.ref p) (upd H p (.lst (ms.map V.int)))
def Vy:nD X (.builtin "sorted") (Vb X.K):=by
 intro pins s σ H xs us Q I r h;obtain⟨a,ns,rfl,hq,aa,q⟩:=h;obtain⟨u,rfl,rx⟩:=vals1 r;cases rx;obtain⟨its,z,pl,hz⟩:=I.list hq;have hi:IntsAre its ns:=intsAre_of z;have ab:its.length=ns.length:=by rw[<-z.length,za]
 refine sorted_ints pl.isList hi (by omega) λout ms h1 h2 h3=>?_;obtain⟨c,hc⟩:=sortedAll_at s.heap its out;refine⟨.ref (s.heap.objs.size+1),_,I.laid (t':=s.toks) (o:=.lst (ms.map V.int)) (λb o e=>sortedAll_old e) (yz _) ?_,rfl,q _ _ (I.hok.fresh (yz _)) h2 h3⟩;refine⟨by rw[za,h2.length_eq,zn];omega,out.toList,c,wG h1,?_⟩;rw[hc,zzO]
def Rx{K:Fg_}(q:X.K=K:=by rfl):nD X (.builtin "sorted") (Vb K):=q▸Vy
def ap_rSortI{K:Fg_}{a:Addr}{H:Hp}{Q:VK}:Vb K [.ref a] H Q=∃(ns:List Int),SqL K H a (ns.map V.int)/\ns.length<64/\
 ∀p (ms:List Int),H p=none->ms.Perm ns->(ms.Pairwise λx y=>x<=y)->Q (.ref p) (upd H p (.lst (ms.map V.int))):=by simp[Vb]
end
end L2
namespace L2
open PySem PySem.W PySem.Spec PySem.Calls PyProof.Rows
noncomputable def Gq(v a:Addr):HO:=.ext λh=>h.IsItemsView v a
noncomputable def Iti(a:Addr)(o:Obj)(kvs:List (Key×V)):It:=⟨λi H=>H a=some (.frz o (.dK kvs))/\i<kvs.length,λi H x H'=>∃p k v,H p=none/\x=.ref p/\H'=upd H p (.tup [kV k,v])/\kvs[i]? =some (k,v),λi H=>H a=some (.frz o (.dK kvs))/\kvs.length<=i⟩
def aae:entryFor table "dict_itemiterator.__iter__" =some Builtin.«dict_keyiterator.__iter__»:=entryFor_alias (id':= "dict_keyiterator.__iter__") (by kernel_rfl) (by decide+kernel) (by decide+kernel) (by kernel_rfl)
def RM{P:Program}{w:World}{A:Around}{E:Value->Shared->Prop}{s:Shared}{it d:Addr}{i n ep:Nat}{ok ov:Value}{Q:Value->Shared->Prop}(z:IsItemIter s.heap it d i n ep ok ov)(h:Q (.ref it) s):wpAny (model P w) A (pyIter (.ref it)) Q E s:=by
 have q:s.TypeIs (.ref it) "dict_itemiterator" :=⟨_,z,rfl⟩;refine wpAny_pyIter_slot q F.slot_dict_itemiterator_iter (zzK F.slot_dict_itemiterator_iter q aae ?_ (F.args_dict_itemiterator_iter_1 _));show wpAny _ _ (ret (.ref it)) _ _ s;exact zx ⟨_,rfl, "dict_itemiterator",_,q,F.slot_dict_itemiterator_next.lookup,h⟩
def aii{P:Program}{w:World}{k:Key}{u:Value}(h:(jK P w).is k u=true):RelV (kV k) u:=by
 rcases lG h with⟨i,t,rfl,rfl⟩|⟨x,t,rfl,rfl⟩
 ·exact⟨t,rfl⟩
 ·exact⟨t,rfl⟩
def Wm{P:Program}{w:World}{K:Fg_}{elts:List Expr}{x1:Nat}{pos:Pos}{a it:Addr}{o:Obj}{kvs:List (Key×V)}{es:Array DictEntry}{ep:Nat}(ad:o.data=.dict es ep):Turn P w K (.Tuple elts x1 pos) (Iti a o kvs) [it] it (λi h=>∃ok ov,IsItemIter h it a i kvs.length ep ok ov) where
 mem:=by simp
 obj:=λi h st b hb=>by
  obtain rfl:b=it:=by simpa using hb
  obtain⟨ok,ov,e⟩:=st;exact⟨_,e,λv z=>by cases z⟩
 keep:=λi h h' st k=>let⟨ok,ov,e⟩:=st;⟨ok,ov,k it (by simp) _ e⟩
 item:=by
  intro X hP hw hK hc i pins s σ H E I hf st hg;subst hP hw hK;obtain⟨ag,am⟩:=hg;obtain⟨vs,rel,af⟩:=UV I ag ad;have ac:kvs.length=vs.length:=z7 rel;obtain⟨⟨k0,v0⟩,hx⟩:∃q,vs[i]? =some q:=⟨_,zr (by omega)⟩;obtain⟨p,hp,e1,e2⟩:=xW rel hx;obtain⟨ok,ov,aa⟩:=st;rw[ac]at aa;refine wpAny_pyNext_items_item aa af (k:=k0) (v:=v0) hx λkey h' ah al ak hsz ae=>?_;refine⟨_,rfl,wpAny_letOwnedTupleGo_items (s:={s with heap:=h'}) al λai ab sb=>?_⟩;have an:s.heap.objs.size≠it:=yu (zv aa)
  have k:∀c o,c∉[it]->s.heap.get? c=some o->ai.get? c=some o:=λc o hc e=>by
   have hc':c≠it:=by simpa using hc
   exact(sb.2 c hc').trans (ae c o hc' e)
  have aj:ai.get? s.heap.objs.size=some {cls:=.type "tuple",data:=.seq #[key,v0]}:=(sb.2 _ an).trans ak;rw[<-ac]at ab
  refine ⟨.ref s.heap.objs.size,upd H s.heap.objs.size (.tup [kV p.1,p.2]),I.turnedT (t':=s.toks) hf (zo _) k ⟨by rw[zn];simp,[key,v0],.cons (aii (by rw[show p.1=k0 from e1];exact ah)) (.cons e2 .nil),_,aj,rfl,_,rfl⟩,rfl,
   ⟨_,p.1,p.2,I.hok.fresh (zo _),rfl,rfl,hp⟩,⟨_,_,ab⟩,λc hb=>?_⟩
  obtain rfl:c=it:=by simpa using hb
  rw[iZ (zD (zv aa))];exact(hf c hb).1
 done:=by
  intro X hP hw hK hc i pins s σ H E I hf st hg;subst hP hw hK;obtain⟨ag,am⟩:=hg;obtain⟨vs,rel,af⟩:=UV I ag ad;have ac:kvs.length=vs.length:=z7 rel;obtain⟨ok,ov,aa⟩:=st;rw[ac]at aa;obtain⟨f0,f1,f2,f3,f4,f5⟩:=hf it (by simp);exact wpAny_pyNext_items_end (I.ok.hd hc) aa af (by simp;omega) λh' eb=>⟨rfl,I.turned (t':=s.toks) (λb o hb e=>eb b o hb e) f0 f1 f3 f4 f5⟩
 self:=λ_ _ _ _ _ ⟨_,_,st⟩ h=>RM st h
section
variable{X:Cx}{elts:List Expr}{x1:Nat}{tpos:Pos}
noncomputable def ail(tl:TE):TI:=λσ H R=>tl σ H λx H1=>∃v a kvs,x=.ref v/\H1 v=some (Gq v a)/\H1 a=some (.dK kvs)/\∀o,R (Iti a o kvs) (upd H1 a (.frz o (.dK kvs)))
def Vg{l:Expr}{tl:TE}(hl:PE X l tl):PI X (.Tuple elts x1 tpos) l (ail tl):=by
 intro pins s σ H R I h;refine thn (hl pins s σ H _ I h) λu s1 ⟨x,H1,I1,r1,v,a,kvs,ex,hv,ha,q⟩=>?_;subst ex;cases r1;obtain⟨aa,_,_⟩:=(show mj X.prog X.w H1 s1.heap v (Gq v a)from I1.hok v _ hv);obtain⟨z,ab,vs,rel,o,es,ep,q1,q2,q3,q4⟩:=(show mj X.prog X.w H1 s1.heap a (.dK kvs)from I1.hok a _ ha);have ac:kvs.length=vs.length:=z7 rel;have ad:s1.heap.DictAt (jK X.prog X.w) a vs ep:=⟨o,es,q1,q2,q3,q4⟩;refine wpAny_pyIter_items aa ad ?_;have I2:Inv X pins σ (upd H1 a (.frz o (.dK kvs))) s1:=I1.write (t':=s1.toks) (h':=s1.heap) (by rw[ha];exact True.intro) (.inl rfl) (λb u _ e=>e) ⟨o,q1⟩ (show mj X.prog X.w _ s1.heap a (.frz o (.dK kvs))from⟨q1,z,ab,vs,rel,o,es,ep,q1,q2,q3,q4⟩);refine⟨s1.heap.objs.size,[s1.heap.objs.size],_,_,_,rfl,I2.kept (t':=s1.toks) λb o e=>zd _ e,Wm q3,⟨.none,.none,by rw[ac];exact zC _ rfl⟩,λb hb=>?_,q o⟩;obtain rfl:b=s1.heap.objs.size:=by simpa using hb
 exact I2.fpOk (zo _) (I2.hok.fresh (zo _))
noncomputable def Xf:V->List V->Hp->VK->Prop:=λx vs H Q=>∃a kvs,x=.ref a/\vs=[]/\H a=some (.dK kvs)/\∀v,H v=none->Q (.ref v) (upd H v (Gq v a))
def TQ:MtR X "dict.items" Xf:=by
 intro pins s σ H x vs v us Q I rx rv h;obtain⟨a,kvs,rfl,rfl,ha,q⟩:=h;cases rx;have ab:=rv.zero;subst ab;obtain⟨z,aa,ws,rel,dd⟩:=YS I.hok ha;refine yW zzp dd.typeIs PySem.F.entry_dict_items (PySem.F.args_dict_items_1 _) (meets_dict_items (jK X.prog X.w) a aa) ⟨⟨ws,dd⟩,?_⟩;have hg:(s.heap.push {cls:=.type "dict_items",data:=.fields #[.ref a]}).IsItemsView s.heap.objs.size a:=⟨_,zC _ rfl,rfl,rfl⟩;exact⟨.ref s.heap.objs.size,_,I.laid (a:=s.heap.objs.size) (o:=Gq s.heap.objs.size a) (t':=s.toks) (λb o e=>zd _ e) (zo _) ⟨hg,⟨_,zC _ rfl⟩,λh1 h2 ⟨ov,e1,e2⟩ k=>⟨ov,k ov e1,e2⟩⟩,rfl,q _ (I.hok.fresh (zo _))⟩
end
section
variable{K:Fg_}{σ:St}{H:Hp}{Q:VK}{R:It->Hp->Prop}{tl:TE}{g:TG}{tt:TT}{te:TE}{cap:List (Option Nat)}{a:Addr}{o:Obj}{kvs:List (Key×V)}
def ap_iItems:ail tl σ H R=tl σ H λx H1=>∃v a kvs,x=.ref v/\H1 v=some (Gq v a)/\H1 a=some (.dK kvs)/\∀o,R (Iti a o kvs) (upd H1 a (.frz o (.dK kvs))):=rfl
def ap_rItems:Xf (.ref a) [] H Q=∃kvs,H a=some (.dK kvs)/\∀v,H v=none->Q (.ref v) (upd H v (Gq v a)):=by simp[Xf]
def kI.itemsF(Sσ:St->Prop)(q:Key×V->Bool)(F:Key×V->V->Hp->Prop)(hH:H a=some (.frz o (.dK kvs)))(h0:Sσ (qY σ cap))(hz:kvs.length<=sizeLine)
  (hs:∀(D:Addr)(i:Nat)(z:Key×V),kvs[i]? =some z->∀(σ:St)(H5:Hp)(p:Addr)(R1:St->VK)(R2:St->Hp->Prop),Sσ σ->Same H H5->H D=Option.none->(∃acc,H5 D=some (.lst acc))->H5 p=Option.none->
   (q z=true->∀v σ4 H6,Sσ σ4->Same (upd H5 p (.tup [kV z.1,z.2])) H6->(∀H',But D H6 H'->F z v H')->R1 σ4 v H6)->(q z=false->∀σ4 H6,Sσ σ4->Same (upd H5 p (.tup [kV z.1,z.2])) H6->R2 σ4 H6)->
   g (.ref p) σ (upd H5 p (.tup [kV z.1,z.2])) λσ4 H4=>tt σ4 H4 λb H5=>if b=true then te σ4 H5 (R1 σ4)else R2 σ4 H5)
  (k:∀D H' acc,H D=Option.none->Same H H'->H' D=some (.lst acc)->acc.length=(kvs.filter q).length->(∀(i:Nat) v,acc[i]? =some v->∃z,(kvs.filter q)[i]? =some z/\F z v H')->Q (.ref D) H'):kI cap (Iti a o kvs) g tt te σ H Q:=by
 intro D hD;refine⟨λi m acc σ H2=>m=kvs.length - i/\i<=kvs.length/\Sσ σ/\Same H H2/\acc.length=((kvs.take i).filter q).length/\∀(j:Nat) v,acc[j]? =some v->∃z,((kvs.take i).filter q)[j]? =some z/\∀H',But D H2 H'->F z v H',⟨kvs.length,rfl,zK _,h0,iR hD,rfl,λj v e=>by simp at e⟩,?_⟩;rintro i m acc σ1 H2 ⟨rfl,hi,hσ,sm,ad,hF⟩ hA;by_cases af:i<kvs.length
 ·refine .inr ⟨⟨sm _ _ hH,af⟩,λy H3 hy=>?_⟩
  obtain⟨p,k0,v0,hp,rfl,rfl,ag⟩:=hy;have htk:kvs.take (i+1)=kvs.take i++[(k0,v0)]:=by rw[zI,ag];rfl
  have al:((kvs.take i).filter q).length<=i:=zN (yn _ _) (by rw[zO];omega);have sn:=iR (o:=.tup [kV k0,v0]) hp;refine hs D i (k0,v0) ag σ1 H2 p _ _ hσ sm hD ⟨_,hA⟩ hp (λhf v σ4 H6 ae s6 ai=>?_) λhf σ4 H6 ae s6=>?_
  ·have ab:=sn.trans s6
   have ak:=ab _ _ hA;have ac:(kvs.take (i+1)).filter q=(kvs.take i).filter q++[(k0,v0)]:=by rw[htk,yq,yc hf];rfl
   refine⟨acc,ak,by omega,kvs.length - (i+1),by omega,rfl,af,ae,(sm.trans ab).upd hD,by rw[zB,ad,ac,zB];rfl,λj u hj=>?_⟩;rw[ac];by_cases ah:j<acc.length
   ·rw[z5 ah]at hj
    obtain⟨z,h1,h2⟩:=hF j u hj;refine⟨z,?_,λH' hb=>h2 H' λb o aa e=>hb b o aa ((iZ aa).trans (ab _ _ e))⟩;rw[z5 (by omega)];exact h1
   ·rw[z4 (by omega)]at hj
    have aj:j - acc.length=0:=by
     have:=(zp.mp hj).1;simp at this;omega
    rw[aj]at hj;cases hj;refine⟨(k0,v0),?_,λH' hb=>ai H' λb o aa e=>hb b o aa ((iZ aa).trans e)⟩;rw[z4 (by omega),show j - ((kvs.take i).filter q).length=0 by omega];rfl
  ·have ab:=sn.trans s6
   have ac:(kvs.take (i+1)).filter q=(kvs.take i).filter q:=by rw[htk,yq,yd (by rw[hf];decide)];simp
   refine⟨kvs.length - (i+1),by omega,acc,ab _ _ hA,rfl,af,ae,sm.trans ab,by rw[ac,ad],λj u hj=>?_⟩;rw[ac];obtain⟨z,h1,h2⟩:=hF j u hj;exact⟨z,h1,λH' hb=>h2 H' λb o aa e=>hb b o aa (ab _ _ e)⟩
 ·obtain rfl:i=kvs.length:=by omega
  rw[zT]at ad hF;refine .inl ⟨⟨sm _ _ hH,zo _⟩,k D H2 acc hD sm hA ad λj v e=>?_⟩;obtain⟨z,h1,h2⟩:=hF j v e;exact⟨z,h1,h2 H2 λb o _ e=>e⟩
end
end L2
namespace L2
open PySem PySem.W PySem.Spec PySem.Calls PyProof.Rows
section
variable{X:Cx}
def Inv.thaw{pins:List (Addr×Obj)}{σ:St}{H:Hp}{s:Shared}{a:Addr}{o:Obj}{kvs:List (Key×V)}(I:Inv X pins σ H s)(hH:H a=some (.frz o (.dK kvs)))(hn:∀o u,X.H₀ a≠some (.frz o u)):Inv X pins σ (upd H a (.dK kvs)) s:=by
 have ne:∀b,H b=none->b≠a:=λb n z=>by rw[z,hH]at n;cases n
 have nt:∀b xs,H b=some (.tup xs)->b≠a:=λb xs n z=>by rw[z,hH]at n;cases n
 have nw:∀b y,H b=some (.own y)->b≠a:=λb y n z=>by rw[z,hH]at n;cases n
 have aa:∀b ps,H b=some (.tbl ps)->b≠a:=λb y n z=>by rw[z,hH]at n;cases n
 refine⟨I.ok,I.os,I.bare,⟨I.base.keep,I.base.slot,λb ob q n hx=>?_,I.base.there,λb xs q=>?_,λb ob u q=>?_,λb ps q=>?_⟩,I.loc,I.cell,?_,λx c e=>?_,λp hp=>?_,λb u e=>?_,I.len⟩
 ·have h:=I.base.free b ob q n hx;rw[iZ (ne b h)];exact h
 ·have h:=I.base.tups b xs q;rw[iZ (nt b xs h)];exact h
 ·have h:=I.base.frzs b ob u q;rw[iZ (λz:b=a=>hn ob u (by rw[<-z];exact q))];exact h
 ·obtain⟨m,h⟩:=I.base.tbls b ps q;exact⟨m,by rw[iZ (aa b _ h)];exact h⟩
 ·rw[iZ (ne _ I.free)];exact I.free
 ·rw[iZ (ne _ (I.freeC x c e))];exact I.freeC x c e
 ·obtain⟨p1,p2,p3⟩:=I.pin p hp;exact⟨p1,by rw[iZ (ne _ p2)];exact p2,p3⟩
 ·by_cases hb:b=a
  ·subst hb
   rw[iK]at e;cases e;obtain⟨_,q⟩:=(show mj X.prog X.w H s.heap b (.frz o (.dK kvs))from I.hok b _ hH);exact mj.stay q (λ_ _ _ q=>q) (λc q=>by rw[iZ (nw c _ q)];exact q) λc xs q=>by rw[iZ (nt c xs q)];exact q
  ·rw[iZ hb]at e
   exact(I.hok b u e).stay (λ_ _ _ q=>q) (λc q=>by rw[iZ (nw c _ q)];exact q) λc xs q=>by rw[iZ (nt c xs q)];exact q
end
end L2
namespace L2
open PySem PySem.Spec PyProof.Rows
section
variable{prog:Program}{w:World}{A:Around}{E:Value->Shared->Prop}{h:Heap}{g:Array GenState}{d:Drawn}{t:Nat}{os:OsState}{a:Addr}{o:Obj}
 {nm q:Str} {C N:Addr} {bs bm bmB:List Value} {hdct:Bool} {sn:List Str} {sub:List Value} {ab:Bool} {col:Option Bool} {dd:Option Addr} {k0 k1 k2 k3 k5:Option Value} {B newId initId:String} {K:Fg_}
end
end L2
namespace L2
open PySem PySem.Spec PyProof.Rows
structure amP(K:Fg_)(C fI:Addr):Prop where
 ex:∃(nm qn:Str)(N:Addr)(bs bm:List Value)(sn:List Str)(sub:List Value)(ab:Bool)(col:Option Bool)(dd:Option Addr)(k0 k1 k2 k3 k5:Option Value),K.lookup C=some (excClassObj nm qn C N bs bm true sn sub ab col dd k0 k1 k2 k3 k5 "ValueError.__new__")/\PySem.W.tailIn K [.type "ValueError",.type "Exception",.type "BaseException",.type "object"] bm=true
 ini:PySem.W.findIn K (.ref C) "__init__" =some (some (.ref fI))
 fn:PySem.W.isFn K (.ref fI)=true
 sa:PySem.W.findIn K (.ref C) "__setattr__" =some (some (.builtin "object.__setattr__"))
 kp:PySem.W.keepIn K (.ref C)=true
section
variable{X:Cx}{CX:CXT}{k:Nat}{f C:Addr}{fd:FuncData}{ps ks:List Str}{sp:Sp}{dvs:List V}{ds:List Value}{E:XK}{x m fn:Str}{p np cpos pos apos:Pos}{e o:Expr}{es:List Expr}{ta tv:TE}{t tk:TA}
structure amX(K:Fg_)(B:Addr):Prop where
 ga:PySem.W.specialIn K (.ref B) "__getattribute__" =some (some (.builtin "type.__getattribute__"))
 rd:PySem.W.readsIn K B (.type "type")=true
 fi:PySem.W.findCls K (.ref B) (.type "type") "__init__" =some (.val (.builtin "ValueError.__init__"))
end
end L2
namespace L2
open PySem PySem.W PySem.Spec PyProof.Rows
section
variable{prog:Program}{w:World}{A:Around}{E:Value->Shared->Prop}{s:Shared}{T:String}{r d:Addr}{n:Nat}{P:Nat->Value->Prop}{OK:Heap->Prop}
def aat{R:List Value->Shared->Prop}(S:KdlSrc prog w T r d n P OK)(hh:A.handled=none)(hok:OK s.heap)(hn:n<=sizeLine)
  (h:∀(h':Heap)(tk:Nat)(acc:Array Value),(∀b o,s.heap.get? b=some o->h'.get? b=some o)->s.heap.objs.size<h'.objs.size->ItemsOf P acc n->R acc.toList {s with heap:=h',toks:=tk}):
  wpAny (model prog w) A (collect (.ref r)) R E s:=by
 obtain⟨t1,t2⟩:=S.there _ hok;have g0:(s.heap.push {cls:=.type "list",data:=.seq ([]:List Value).toArray}).get? s.heap.objs.size=some {cls:=.type "list",data:=.seq #[]}:=zC _ rfl
 have key:∀(q:Value->Sem (List Value)),(∀(s':Shared),(∃h' tk acc c,s'={s with heap:=h',toks:=tk}/\(∀b o,s.heap.get? b=some o->h'.get? b=some o)/\h'.get? s.heap.objs.size=some {cls:=.type "list",dict:=none,data:=.seq acc c,slots:= #[]}/\ItemsOf P acc n)->wpAny (model prog w) A (q (.ref s.heap.objs.size)) R E s')->
   wpAny (model prog w) A (runValue (.builtin "proto.collect" ⟨[.ref r],[]⟩)>>=q) R E s:=λq hq=>by
  refine zc (wpAny_runValue (codeAny_builtin entry_proto_collect' ?_));rw[Around.under_plainId PySem.F.plain_proto_collect _];refine zc (m:=newList []) (yN (zx ⟨plainId_quiet PySem.F.plain_list_iadd _,codeAny_builtin entry_list_iadd' ?_⟩));rw[Around.under_plainId PySem.F.plain_list_iadd _]
  refine ya (kdl_extend (A:=A) (s:={s with heap:=s.heap.push {cls:=.type "list",data:=.seq ([]:List Value).toArray}})
   (R:=fun(z:Result)(s':Shared)=>z=.ok (.ret (.ref s.heap.objs.size))/\∃h' tk acc c,s'={s with heap:=h',toks:=tk}/\(∀b o,s.heap.get? b=some o->h'.get? b=some o)/\h'.get? s.heap.objs.size=some {cls:=.type "list",dict:=none,data:=.seq acc c,slots:= #[]}/\ItemsOf P acc n)
   S hh (S.keep _ _ hok λb _ o e=>zd _ e) s.heap.objs.size (yu t1) (yu t2) (.ref s.heap.objs.size) 0 g0
   (λh' tk acc c k1 k2 k3=>⟨rfl,h',tk,acc,c,rfl,λb o e=>k1 b o (zD (zv e)) (zd _ e),k2,k3⟩) hn) (λaa s' x=>?_) λe s' x=>?_
  ·cases aa with
   |done f=>
    obtain⟨e,x⟩:=x;cases e;exact hq s' x
   |again c=>exact⟨x.1,codeAny_mono x.2 λz s2 ⟨e,y⟩=>by subst e;exact hq s2 y⟩
  ·cases x.1
 unfold collect;refine key _ λs' ⟨h',tk,acc,c,e,k1,k2,k3⟩=>?_;subst e;refine zc (m:=load s.heap.objs.size) (wpAny_load k2 (zx (h h' tk acc k1 (zv k2) k3)))
end
section
variable{X:Cx}
noncomputable def NQ:List V->Hp->VK->Prop:=λxs H Q=>∃(a:Addr)(kvs:List (Str×V)),xs=[.ref a]/\H a=some (.dK (kvs.map λkv=>(Sum.inr kv.1,kv.2)))/\kvs.length<60/\
 ∀p (ss:List Str),H p=none->ss.Perm (kvs.map (·.1))->sortedS ss=true->Q (.ref p) (upd H p (.lst (ss.map V.str)))
theorem Qc:∀{us:List Value}{ss:List Str},StrsAre us ss->Vals (ss.map V.str) us
 |_,_,.nil=> .nil
 |_,_,.cons x t r=> .cons ⟨t,rfl⟩ (Qc r)
def Iw(hc:X.calm=true):nD X (.builtin "sorted") NQ:=by
 intro pins s σ H xs us Q I r h;obtain⟨a,kvs,rfl,hq,al,q⟩:=h;obtain⟨u,rfl,rx⟩:=vals1 r;cases rx;obtain⟨z,af,vs,rel,o,es,ep,q1,q2,q3,q4⟩:=(show mj X.prog X.w H s.heap a (.dK (kvs.map λkv=>(Sum.inr kv.1,kv.2)))from I.hok a _ hq);have ae:kvs.length=vs.length:=by have:=z7 rel;rw[za]at this;exact this
 have ac:(kvs.map λkv=>(Sum.inr kv.1:Key))=vs.map (·.1):=by
  have:=KV.keys rel;rw[zq]at this;exact this
 have ai:s.heap.DictAt (jK X.prog X.w) a vs ep:=⟨o,es,q1,q2,q3,q4⟩;refine Calls.call_function_entry kind_sorted plain_sorted entry_sorted (args_sorted1 _) ?_;unfold Builtin.«sorted»;refine zc (m:=checkCount "sorted" 1 1 _) (zx ?_);refine zc (aat (A:=X.A.in1) (kdl_dict (knd:=jK X.prog X.w) (kvs:=vs) (ep:=ep) af) (I.ok.hd hc) ai (by rw[<-ae,zn];omega) λh' tk acc hk hsz aa=>?_);have hl:acc.toList.length=kvs.length:=by rw[yk,aa.1,ae]
 have hS:StrsAre acc.toList (kvs.map (·.1)):=by
  have ad:∀(l:List Value)(ks:List Str),l.length=ks.length->(∀(i:Nat) v x,l[i]? =some v->ks[i]? =some x->∃t,v=.str x t)->StrsAre l ks:=by
   intro l
   induction l with
   |nil=>intro ks h1 _;cases ks with
    |nil=>exact .nil
    |cons _ _=>simp at h1
   |cons v l ih=>intro ks h1 h2;cases ks with
    |nil=>simp at h1
    |cons x ks=>
     obtain⟨t,rfl⟩:=h2 0 v x rfl rfl;exact .cons x t (ih ks (by simpa using h1) λi v' x' e1 e2=>h2 (i+1) v' x' e1 e2)
  refine ad _ _ (by rw[hl,za]) λi v x e1 e2=>?_;obtain⟨k,y,g1,g2⟩:=aa.2 i v (by rw[<-yK];exact e1);have e3:(vs.map (·.1))[i]? =some k:=by rw[zm,g1];rfl
  have e4:(kvs.map λkv=>(Sum.inr kv.1:Key))[i]? =some (Sum.inr x):=by
   rw[zm]at e2⊢
   cases e:kvs[i]? with
   |none=>rw[e]at e2;cases e2
   |some q=>rw[e]at e2;cases e2;rfl
  rw[ac,e3]at e4;cases zy e4;have:=aii (k:=(Sum.inr x:Key)) g2;obtain⟨t,e⟩:=(show RelV (.str x) v from this);exact⟨t,e⟩
 refine zc (yyc ?_ (by rw[hl,zn];omega));have ab:(h'.push (seqObj "list" acc.toList.toArray 0)).get? h'.objs.size=some (seqObj "list" acc.toList.toArray 0):=zC _ rfl;refine zc (z8 (zzK slot_list_sort ⟨_,ab,rfl⟩ entry_list_sort (list_sort_treeK (n:=0) strKind_oneLt ab hS.keysOf (λv1 v2 rest e=>keyKind_strs (by rw[<-e];exact hS)) (by omega) λaj hp hs=>⟨_,rfl,?_⟩) (args_list_sort _)));obtain⟨ah,h1,h2,h3⟩:=sorted_out_str hS hp hs;obtain⟨c,ak⟩:=sortedHeap_at (out:=(arrOf aj).map (·.2)) ab;refine zx ⟨_,rfl,.ref h'.objs.size,_,I.laid (t':=tk) (o:=.lst (ah.map V.str)) (λb o' e=>?_) (zzs hsz) ?_,rfl,q _ _ (I.hok.fresh (zzs hsz)) h2 h3⟩
 ·have ag:=zv (hk b o' e)
  rw[sortedHeap_old (zD ag) (by rw[size_push'];exact Nat.lt_succ_of_lt ag)];exact zd _ (hk b o' e)
 ·exact⟨by rw[za,h2.length_eq,za,zn];omega,_,c,Qc h1,by rw[zzO];exact ak⟩
def ap_rSortDK{a:Addr}{H:Hp}{Q:VK}:NQ [.ref a] H Q=∃(kvs:List (Str×V)),H a=some (.dK (kvs.map λq=>(Sum.inr q.1,q.2)))/\kvs.length<60/\
 ∀p (ss:List Str),H p=none->ss.Perm (kvs.map (·.1))->sortedS ss=true->Q (.ref p) (upd H p (.lst (ss.map V.str))):=by simp[NQ]
end
end L2
namespace L2
open PySem PySem.W PySem.Spec PySem.Calls PyProof.Rows
section
variable{X:Cx}{pos:Pos}{e f:Expr}
noncomputable def nF(i:Int):Str:=Str.ofString (toString i)
theorem Zi:∀{xs:List Str}{its:List Value},Vals (xs.map V.str) its->∃l:List (Str×Tok),strValues l=its/\l.map (·.1)=xs
 |[],_,.nil=>⟨[],rfl,rfl⟩
 |x::xs,_,.cons r rs=>by
  obtain⟨t,rfl⟩:=r;obtain⟨l,q,z⟩:=Zi rs;exact⟨(x,t)::l,by rw[<-q];rfl,by rw[zi,z]⟩
theorem Ro(z:Str):∀(xs:List Str)(n:Nat),xs.foldl (λa x=>a+x.length+z.length) n=n+(xs.map (·.length)).sum+xs.length*z.length
 |[],n=>by simp
 |x::xs,n=>by
  rw[yh,Ro z xs,zi,zF,zE,Nat.succ_mul];omega
noncomputable def rJoin:V->List V->Hp->VK->Prop:=λv vs H Q=>∃(z:Str)(a:Addr)(xs:List Str),v=.str z/\vs=[.ref a]/\H a=some (.lst (xs.map V.str))/\(xs.map (·.length)).sum+xs.length*z.length<=1000000/\Q (.str (Txt.join z xs)) H
def Yv:MtM X "str.join" rJoin:=by
 intro pins s σ H x vs v us Q I rx rv h;obtain⟨z,a,xs,rfl,rfl,hH,hb,q⟩:=h;obtain⟨t,rfl⟩:=rx;obtain⟨u,rfl,ru⟩:=rv.one;cases ru;obtain⟨hz,its,n,r,hl,e⟩:=I.lstM hH;obtain⟨l,e1,e2⟩:=Zi r;refine SC.join (D:=a) (l:=l) (texts:=xs) ⟨_,e,rfl,n,by rw[e1]⟩ e2 ?_ λt' k=>⟨.str _,H,I.tok _,⟨_,rfl⟩,q⟩;unfold JoinOk;rw[List.foldl_toArray,Ro];have:Builtin.Str.tooLong (0+(xs.map (·.length)).sum+xs.length*z.length)=false:=zQ (by rw[zn];omega);rw[this];rfl
def ap_rJoin{z:Str}{a:Addr}{H:Hp}{Q:VK}:rJoin (.str z) [.ref a] H Q=∃(xs:List Str),H a=some (.lst (xs.map V.str))/\(xs.map (·.length)).sum+xs.length*z.length<=1000000/\Q (.str (Txt.join z xs)) H:=by simp[rJoin]
end
end L2
namespace L2
open PySem PySem.W PySem.Spec PyProof.Rows
section
variable{X:Cx}{K:Fg_}{a:Addr}{kvs:List (Key×V)}{pins:List (Addr×Obj)}{σ:St}{H:Hp}{s:Shared}
def Vp{t:TS}{z aa:List Stmt}{x:Option Expr}{n:Option Str}{ab pos:Pos}(h:PSs X.nox z t):PS X.nox (.Try z [.ExceptHandler x n aa ab] [] [] pos) t:=by
 intro pins s σ H D I hw;refine wpAny_Try_except (ya (h pins s σ H D I hw) (λf s1 q=>?_) λev s' hx=>hx.elim)
 cases f with
 |next=>exact zzS q
 |brk=>exact q
 |cont=>exact q
 |ret u=>exact q
variable{td ty:TE}{Q:VK}{w:World}
end
end L2
namespace HT
open PySem PyProof.Rows
noncomputable def lexLe:List Int->List Int->Bool
 |[],_=>true
 |_::_,[]=>false
 |x::xs,y::ys=>if x=y then lexLe xs ys else decide (x<=y)
def ahL(A:Around)(s:Shared)(a:Int)(t:Tok)(c:Int)(u:Tok)(prog:Program)(w:World)(E:Value->Shared->Prop)(Q:Value->Shared->Prop)(h:Q (.bool (decide (a<=c))) s):
  wpAny (model prog w) A (richCompare .LtE (.int a t) (.int c u)) Q E s:=
 (PyProof.Rows.le_int h:wpAny (model prog w) A (compareOp .LtE (.int a t) (.int c u)) Q E s)
section
open PySem.SeqAt
open PySem.AutoSeq1 (wpAny_loadPart')
open PySem.MeetsSeq PySem.MeetsSeq2 PySem.MeetsSeq3
def MK(l b:Addr)(xa xb:Array Value)(na nb:Nat)(da db:Option Addr)(sa sb:Array (Option Value))(ns ms:List Int)(hi:IntsAre xa.toList ns)(hj:IntsAre xb.toList ms):
  Meets (Builtin.«tuple.__le__» ⟨[.ref l,.ref b],[]⟩)
   (λ_ R s=>s.heap.get? l=some {cls:=.type "tuple",dict:=da,data:=.seq xa na,slots:=sa}/\s.heap.get? b=some {cls:=.type "tuple",dict:=db,data:=.seq xb nb,slots:=sb}/\
    R (.ok (.ret (.bool (lexLe ns ms)))) s):=
 .of_wp λprog w A R s h=>by
  obtain⟨hp,g,d,tk,os⟩:=s;obtain⟨hl,hb,h⟩:=h;have f2:=AutoSeq1.sub_tuple_tuple;have z1:xa.size=ns.length:=by rw[<-hi.length];simp
  have z2:xb.size=ms.length:=by rw[<-hj.length];simp
  wp_walk using wpAny_loadPart' hl,wpAny_loadPart' hb,wpAny_forIn_list _ (λrest b s'=>b.1=none/\s'=⟨hp,g,d,tk,os⟩/\∃(vs ws:List Value)(np mp:List Int),rest=vs.zip ws/\
   IntsAre vs np/\IntsAre ws mp/\np.length+xb.size=mp.length+xa.size/\R (.ok (.ret (.bool (lexLe np mp)))) ⟨hp,g,d,tk,os⟩) _
  case turn=>
   rintro⟨y,x⟩ rest b s'⟨ab,rfl,vs,ws,np,mp,hz,ac,ad,z,hR⟩
   cases ac with
   |nil=>rw[List.zip_nil_left]at hz;cases hz
   |cons a t hvi'=>cases ad with
    |nil=>rw[List.zip_nil_right]at hz;cases hz
    |cons c u hwi'=>
     rw[zz2]at hz;injection hz with hyx hrest
     injection hyx with hy hx
     subst hy hx;unfold lexLe at hR;simp only[zE]at z;obtain⟨e,he,aa⟩:=aaw A.in1 ⟨hp,g,d,tk,os⟩ a t c u;refine zc (he prog w _ _ ?_)
     cases e with
     |true=>
      rw[zl (aa.mp rfl)]at hR
      wp_walk
      exact⟨rfl,rfl,_,_,_,_,hrest,hvi',hwi',by omega,hR⟩
     |false=>
      rw[ze (λq=>absurd (aa.mpr q) zP)]at hR;have ae:=ahL A.in1 ⟨hp,g,d,tk,os⟩ a t c u prog w
      wp_walk using ae
      exact⟨_,rfl,by simpa using hR⟩
  case fin=>
   rintro⟨b1,b2⟩ s'⟨ab,rfl,vs,ws,np,mp,hz,ac,ad,z,hR⟩;simp only at ab;subst ab
   have hv:lexLe np mp=decide (xa.size<=xb.size):=by
    cases ac with
    |nil=>
     simp only[zzl]at z;unfold lexLe;exact(zM (by omega)).symm
    |cons a t hv=>cases ad with
     |nil=>
      simp only[zzl,zE]at z;unfold lexLe;exact(zQ (by omega)).symm
     |cons c u hw=>rw[zz2]at hz;cases hz
   rw[hv]at hR
   wp_walk
   exact⟨_,rfl,by simpa [Builtin.Tuple.tupleCompareSizes] using hR⟩
  case h=>exact⟨rfl,rfl,xa.toList,xb.toList,ns,ms,rfl,hi,hj,by omega,h⟩
end
section
variable{prog:Program}{w:World}{A:Around}{E:Value->Shared->Prop}{s:Shared}
def le_tupInts{l b:Addr}{xa xb:Array Value}{ns q:List Int}{Q:Value->Shared->Prop}(hl:IsTup s.heap l xa)(hb:IsTup s.heap b xb)(hi:IntsAre xa.toList ns)(hj:IntsAre xb.toList q)(hu:A.units<cLine)
  (h:Q (.bool (lexLe ns q)) s):wpAny (model prog w) A (compareOp .LtE (.ref l) (.ref b)) Q E s:=by
 obtain⟨⟨cls,dd,data,sl⟩,ho,hc,n,hd⟩:=id hl;obtain⟨⟨af,ac,ad,ae⟩,aa,ab,n2,z⟩:=id hb;simp only at hc hd ab z;subst hc hd ab z
 exact richCompare_meets_room (op:=.LtE) ⟨_,ho,rfl⟩ ⟨_,aa,rfl⟩ PySem.F.slot_tuple_le PySem.F.entry_tuple_le (PySem.F.args_tuple_le_2 _ _) (MK l b xa xb n n2 dd ac sl ae ns q hi hj)
  ⟨ho,aa,show Value.bool (lexLe ns q)≠Value.notImplemented/\Q (.bool (lexLe ns q)) s from⟨(λx=>nomatch x),h⟩⟩ hu
end
end HT
namespace L2
open PySem PySem.W PySem.Spec PySem.Calls PyProof.Rows
section
variable{X:Cx}
noncomputable def amW(K:Fg_):R2:=λx y H Q=>∃a b ns ms,x=.ref a/\y=.ref b/\SqT K H a (ns.map V.int)/\SqT K H b (ms.map V.int)/\Q (.bl (HT.lexLe ns ms)) H
def aiO{K:Fg_}{k:Nat}(hr:um k X.A)(hK:X.K=K:=by rfl):OpR X (compareOp .LtE) (amW K):=by
 subst hK;intro pins s σ H x y v u Q I rx ry h;obtain⟨a,b,ns,ms,rfl,rfl,ha,hb,q⟩:=h;cases rx;cases ry;obtain⟨its,r1,p1,_⟩:=I.tuple ha;obtain⟨z,r2,p2,_⟩:=I.tuple hb;exact HT.le_tupInts p1 p2 (show IntsAre its.toArray.toList ns from intsAre_of r1) (show IntsAre z.toArray.toList ms from intsAre_of r2) hr.units0 ⟨.bl (HT.lexLe ns ms),H,I,rfl,q⟩
noncomputable def aie(H0:Hp)(t:TE):TE:=λσ H Q=>t σ H λv H1=>∃a o kvs,H1 a=some (.frz o (.dK kvs))/\(∀o u,H0 a≠some (.frz o u))/\Q v (upd H1 a (.dK kvs))
def aju{e:Expr}{t:TE}(h:PE X e t):PE X e (aie X.H₀ t):=by
 intro pins s σ H Q I q;exact thn (h pins s σ H _ I q) λv s1 ⟨x,H1,I1,z,a,o,kvs,h1,h2,h3⟩=>⟨x,_,I1.thaw h1 h2,z,h3⟩
def ap_thawV{H0:Hp}{t:TE}{σ:St}{H:Hp}{Q:VK}:aie H0 t σ H Q=t σ H λv H1=>∃a o kvs,H1 a=some (.frz o (.dK kvs))/\(∀o u,H0 a≠some (.frz o u))/\Q v (upd H1 a (.dK kvs)):=rfl
end
end L2
namespace L2
open PySem PySem.Spec PyProof.Rows
section
variable{K:Fg_}{H:Hp}{Q:VK}{σ:St}{v:V}{a0 a1 a2 a3 a4 a5 a6 a7 a8 a9:Option V}
def rd{x C dx:Addr}{fs:List (Str×V)}{f:Str}{R:V->Prop}(h:H x=some (.ins C dx fs))(c:Cls K C)(n:jd K C f)(l:List.lookup f fs=some v)(k:R v):∃C dx fs,H x=some (.ins C dx fs)/\Cls K C/\jd K C f/\∃v,List.lookup f fs=some v/\R v:=⟨C,dx,fs,h,c,n,v,l,k⟩
def sw{x C dx:Addr}{fs:List (Str×V)}{f:Str}{R:Addr->Addr->List (Str×V)->Prop}(h:H x=some (.ins C dx fs))(c:Cls K C)(n:jd K C f)(l:fs.length<1000)(k:R C dx fs):∃C dx fs,H x=some (.ins C dx fs)/\Cls K C/\jd K C f/\fs.length<1000/\R C dx fs:=⟨C,dx,fs,h,c,n,l,k⟩
def sz{n:Nat}(h:n<=1000:=by decide):n<=sizeLine:=by rw[zn];omega
def md{x C dx:Addr}{fs:List (Str×V)}{m:Str}{tab:List (Addr×Sp)}{sp:Sp}{R:Sp->Prop}(h:H x=some (.ins C dx fs))(i:(C,sp)∈tab)(l:List.lookup m fs=Option.none)(k:R sp):∃C dx fs,H x=some (.ins C dx fs)/\∃sp,(C,sp)∈tab/\List.lookup m fs=Option.none/\R sp:=⟨C,dx,fs,h,sp,i,l,k⟩
def ln0{α:Type}{P:List α->Prop}(h:P []):∀us:List α,us.length=0->P us:=by
 intro us e
 cases us with
 |nil=>exact h
 |cons=>cases e
def lnS{α:Type}{P:List α->Prop}{n:Nat}(h:∀a us,us.length=n->P (a::us)):∀us:List α,us.length=n+1->P us:=by
 intro us e
 cases us with
 |nil=>cases e
 |cons a us=>exact h a us (Nat.succ.inj e)
def ln1{α:Type}{P:List α->Prop}(h:∀a0,P [a0]):∀us:List α,us.length=1->P us:=lnS λa=>ln0 (h a)
def ln2{α:Type}{P:List α->Prop}(h:∀a0 a1,P [a0,a1]):∀us:List α,us.length=2->P us:=lnS λa=>ln1 (h a)
def ln3{α:Type}{P:List α->Prop}(h:∀a0 a1 a2,P [a0,a1,a2]):∀us:List α,us.length=3->P us:=lnS λa=>ln2 (h a)
def ln4{α:Type}{P:List α->Prop}(h:∀a0 a1 a2 a3,P [a0,a1,a2,a3]):∀us:List α,us.length=4->P us:=lnS λa=>ln3 (h a)
def ln5{α:Type}{P:List α->Prop}(h:∀a0 a1 a2 a3 a4,P [a0,a1,a2,a3,a4]):∀us:List α,us.length=5->P us:=lnS λa=>ln4 (h a)
def ln6{α:Type}{P:List α->Prop}(h:∀a0 a1 a2 a3 a4 a5,P [a0,a1,a2,a3,a4,a5]):∀us:List α,us.length=6->P us:=lnS λa=>ln5 (h a)
def ln7{α:Type}{P:List α->Prop}(h:∀a0 a1 a2 a3 a4 a5 a6,P [a0,a1,a2,a3,a4,a5,a6]):∀us:List α,us.length=7->P us:=lnS λa=>ln6 (h a)
def ln8{α:Type}{P:List α->Prop}(h:∀a0 a1 a2 a3 a4 a5 a6 a7,P [a0,a1,a2,a3,a4,a5,a6,a7]):∀us:List α,us.length=8->P us:=lnS λa=>ln7 (h a)
end
end L2
namespace L2
open PySem PySem.Spec PyProof.Rows
section
variable{X:Cx}{K:Fg_}{H:Hp}{Q:VK}{σ:St}{v:V}{a0 a1 a2 a3 a4 a5 a6 a7 a8 a9 a10 a11 a12 a13 a14:Option V}{P:V->Prop}{R:Addr->Prop}{i:Nat}{f m:Str}{tab:List (Addr×Sp)}{E:XK}{t:TA}{tv:TE}{D:Ends}{e:Expr}{tg:Expr}{st:Stmt}{a:Addr}
noncomputable def atV(σ:St)(i:Nat)(P:V->Prop):Prop:=match σ[i]? with
 |some (some v)=>P v
 |_=>False
noncomputable def onR(x:V)(P:Addr->Prop):Prop:=match x with
 |.ref a=>P a
 |_=>False
def atV_iff:atV σ i P=∃v,σ[i]? =some (some v)/\P v:=by
 unfold atV;split
 ·next v e=>exact propext ⟨λh=>⟨v,e,h⟩,fun⟨w,q,h⟩=>by rw[e]at q;cases q;exact h⟩
 ·next n=>exact propext ⟨λh=>h.elim,fun⟨w,q,_⟩=>(n w q).elim⟩
def Nf{x:V}:onR x R=∃a,x=.ref a/\R a:=propext ⟨λh=>by
 cases x<;>first|exact h.elim|exact⟨_,rfl,h⟩,fun⟨a,e,h⟩=>by rw[e];exact h⟩
noncomputable def tV(i:Nat):TE:=λσ H Q=>atV σ i λv=>Q v H
noncomputable def tFV(K:Fg_)(i:Nat)(f:Str):TE:=λσ H Q=>atV σ i λx=>onR x λa=>∃C dx fs,H a=some (.ins C dx fs)/\Cls K C/\jd K C f/\∃v,List.lookup f fs=some v/\Q v H
noncomputable def tMV(tab:List (Addr×Sp))(m:Str)(E:XK)(i:Nat)(t:TA):TE:=λσ H Q=>atV σ i λx=>onR x λa=>∃C dx fs,H a=some (.ins C dx fs)/\∃sp,(C,sp)∈tab/\List.lookup m fs=none/\t σ H λvs H2=>sp (.ref a::vs) H2 Q E
noncomputable def sFV(K:Fg_)(i:Nat)(tv:TE)(f:Str):TS:=λD σ H=>tv σ H λy H1=>atV σ i λx=>onR x λa=>∃C dx fs,H1 a=some (.ins C dx fs)/\Cls K C/\jd K C f/\fs.length<1000/\D.nx σ (upd H1 a (.ins C dx (Ef f y fs)))
noncomputable def iLV(K:Fg_)(i:Nat):TI:=λσ H R=>atV σ i λx=>onR x λa=>(∃xs,SqL K H a xs)/\R (Itl K a) H
def ami:OD i=tV i:=funext λσ=>funext λH=>funext λQ=>atV_iff.symm
def akl:akF K (OD i) f=tFV K i f:=by
 funext σ H Q;unfold tFV akF OD;rw[atV_iff];simp only[Nf,exists_and_left]
def aiv:Qz tab m E (OD i) t=tMV tab m E i t:=by
 funext σ H Q;unfold tMV Qz OD;rw[atV_iff];simp only[Nf];refine propext ⟨fun⟨v,e,a,C,dx,fs,sp,q,h1,h2,h3,z⟩=>⟨v,e,a,q,C,dx,fs,h1,sp,h2,h3,q▸z⟩,fun⟨v,e,a,q,C,dx,fs,h1,sp,h2,h3,z⟩=>⟨v,e,a,C,dx,fs,sp,q,h1,h2,h3,q▸z⟩⟩
def alb:akQ K (OD i) tv f=sFV K i tv f:=by
 funext D σ H;unfold sFV akQ OD;simp only[atV_iff,Nf,exists_and_left]
def alq:YJ K (OD i)=iLV K i:=by
 funext σ H R;unfold iLV YJ OD;rw[atV_iff];simp only[Nf]
noncomputable def akf(x:Str):Bool:=!(x==("__debug__" :Str)) && !(x==("__classdict__" :Str))
def orl{α:Sort _}{a:α}{p:Prop}:a=a\/p:=Or.inl rfl
def orr{α:Sort _}{a:α}{p:Prop}:p\/a=a:=Or.inr rfl
def nd1{x:Str}:[x].Nodup:=zR.mpr ⟨zf,List.nodup_nil⟩
def nm1{x:Str}(h:akf x=true):(x==("__debug__" :Str))=false:=by unfold akf at h;revert h;cases x==("__debug__" :Str)<;>simp
def nm2{x:Str}(h:akf x=true):(x==("__classdict__" :Str))=false:=by unfold akf at h;revert h;cases x==("__classdict__" :Str)<;>simp
def pvD(i:Nat){x:Str}{pos:Pos}(q:X.N[i]? =some x:=by rfl)(hv:Vis X.env.scope x:=by walk_at "o") (hd:akf x=true:=by rfl):PE X (.Name x pos) (tV i):=ami▸pv i q hv (nm1 hd) (nm2 hd)
def pav(i:Nat){x:Str}{pos:Pos}{es:List Expr}{t:TA}(z:PA X es t)(q:X.N[i]? =some x:=by rfl)(hv:Vis X.env.scope x:=by walk_at "o") (hd:akf x=true:=by rfl) (hs:starEach (.Name x pos::es) X.env=(false,eval (.Name x pos) X.env)::starEach es X.env:=by rfl):PA X (.Name x pos::es) (pB (tV i) t):=iG (pvD i q hv hd) z hs
def ajW{pos:Pos}(q:PE X e (OD i))(z:attributeBase e f X.env (eval e X.env)=eval e X.env)(hK:X.K=K:=by rfl):PE X (.Attribute e f pos) (tFV K i f):=akl▸ajC q z hK
def jo{o value:Expr}{pos pos':Pos}(ha:PE X o (OD i))(q:PE X value tv)(hs:swapsWith value (some (.Attribute o f pos')) pos.line X.env=pure false)(z:X.K=K:=by rfl):PS X (.Assign [.Attribute o f pos'] value pos) (sFV K i tv f):=alb▸aiZ ha q hs z
def jD(z:PE X e (OD i))(q:X.K=K:=by rfl):PI X tg e (iLV K i):=alq▸mC z q
def jy{CX:CXT}{pos apos:Pos}{o:Expr}{es:List Expr}{pl:Sem Bool}(z:PE X o (OD i))(T:Zk X CX m tab)(hx:Ay CX X E)(ha:PA X (e::es) t)
  (q:starEach (e::es) X.env=(false,eval e X.env)::starEach es X.env:=by rfl) (hpl:(backTo pos (starEach es X.env)).any (·.1)=false:=by rfl)
  (ht:eval (.Call (.Attribute o m apos) (e::es) [] pos) X.env=(do
   let ov<-eval o X.env
   standAt apos.atName
   let(f,first)<-holding [ov] (getMethod ov m pl)
   callWith pos f first (backTo pos (starEach (e::es) X.env)) (backToKw pos (keywordEach [] X.env))):=by rfl):
  PE X (.Call (.Attribute o m apos) (e::es) [] pos) (tMV tab m E i t):=aiv▸aaq (pl:=pl) z T hx ha q hpl ht
def lE{CX:CXT}{pos apos:Pos}{o:Expr}{pl:Sem Bool}(q:PE X o (OD i))(T:Zk X CX m tab)(z:Ay CX X E)
  (ht:eval (.Call (.Attribute o m apos) [] [] pos) X.env=(do
   let ov<-eval o X.env
   standAt apos.atName
   let(f,first)<-holding [ov] (getMethod ov m pl)
   callWith pos f first (backTo pos (starEach [] X.env)) (backToKw pos (keywordEach [] X.env))):=by rfl):
  PE X (.Call (.Attribute o m apos) [] [] pos) (tMV tab m E i Uu):=aiv▸XJ (pl:=pl) q T z ht
def av_V:tV i σ H Q=atV σ i λv=>Q v H:=rfl
def av_F:tFV K i f σ H Q=atV σ i λx=>onR x λa=>∃C dx fs,H a=some (.ins C dx fs)/\Cls K C/\jd K C f/\∃v,List.lookup f fs=some v/\Q v H:=rfl
def av_M:tMV tab m E i t σ H Q=atV σ i λx=>onR x λa=>∃C dx fs,H a=some (.ins C dx fs)/\∃sp,(C,sp)∈tab/\List.lookup m fs=none/\t σ H λvs H2=>sp (.ref a::vs) H2 Q E:=rfl
def av_S:sFV K i tv f D σ H=tv σ H λy H1=>atV σ i λx=>onR x λa=>∃C dx fs,H1 a=some (.ins C dx fs)/\Cls K C/\jd K C f/\fs.length<1000/\D.nx σ (upd H1 a (.ins C dx (Ef f y fs))):=rfl
def av_L{R:It->Hp->Prop}:iLV K i σ H R=atV σ i λx=>onR x λa=>(∃xs,SqL K H a xs)/\R (Itl K a) H:=rfl
def av_r:onR (.ref a) R=R a:=rfl
def av0:atV (some v::σ) 0 P=P v:=rfl
def av1:atV (a0::some v::σ) 1 P=P v:=rfl
def av2:atV (a0::a1::some v::σ) 2 P=P v:=rfl
def av3:atV (a0::a1::a2::some v::σ) 3 P=P v:=rfl
def av4:atV (a0::a1::a2::a3::some v::σ) 4 P=P v:=rfl
def av5:atV (a0::a1::a2::a3::a4::some v::σ) 5 P=P v:=rfl
def av6:atV (a0::a1::a2::a3::a4::a5::some v::σ) 6 P=P v:=rfl
def av7:atV (a0::a1::a2::a3::a4::a5::a6::some v::σ) 7 P=P v:=rfl
def av8:atV (a0::a1::a2::a3::a4::a5::a6::a7::some v::σ) 8 P=P v:=rfl
def av9:atV (a0::a1::a2::a3::a4::a5::a6::a7::a8::some v::σ) 9 P=P v:=rfl
def av10:atV (a0::a1::a2::a3::a4::a5::a6::a7::a8::a9::some v::σ) 10 P=P v:=rfl
def av11:atV (a0::a1::a2::a3::a4::a5::a6::a7::a8::a9::a10::some v::σ) 11 P=P v:=rfl
def av12:atV (a0::a1::a2::a3::a4::a5::a6::a7::a8::a9::a10::a11::some v::σ) 12 P=P v:=rfl
def av13:atV (a0::a1::a2::a3::a4::a5::a6::a7::a8::a9::a10::a11::a12::some v::σ) 13 P=P v:=rfl
def av14:atV (a0::a1::a2::a3::a4::a5::a6::a7::a8::a9::a10::a11::a12::a13::some v::σ) 14 P=P v:=rfl
def av15:atV (a0::a1::a2::a3::a4::a5::a6::a7::a8::a9::a10::a11::a12::a13::a14::some v::σ) 15 P=P v:=rfl
def mc{CX:CXT}{C f:Addr}{fd:FuncData}{ps:List Str}{sp:Sp}{k n:Nat}{r:List (Addr×Sp)}(c:Cls X.K C)(hm:Meth X.K C m f)(F:jQ X.prog X.w X.K X.mg X.base CX k f fd ps sp)(hr:um n X.A)(z:Binds X.K fd ps [])(t:Zk X CX m r)(q:k<=n:=by decide):Zk X CX m ((C,sp)::r):=.cons c hm F (hr.mono q) z t
end
end L2
namespace L2
open PySem PySem.Spec PyProof.Rows
structure FG(K:Fg_)(mg:Str->Option Value)(x:Str)(st:Stmt)(f:Addr)(fd:FuncData):Prop where
 m:mg x=some (.ref f)
 k:PySem.W.keepIn K (.ref f)=true
 F:Fun K x x st f fd
section
variable{X:Cx}{t:TA}{e:Expr}
def pcg{k n:Nat}{f:Addr}{fd:FuncData}{ps:List Str}{sp:Sp}{x:Str}{st:Stmt}{p pos:Pos}{es:List Expr}(F:jQ X.prog X.w X.K X.mg X.base CX0 k f fd ps sp)(hr:um n X.A)(g:FG X.K X.mg x st f fd)(z:Binds X.K fd ps [])(ha:PA X (e::es) t)(q:k<=n:=by decide)(hg:Gl X x:=by rfl)(hd:(x==("__debug__" :Str))=false:=by decide)
  (hst:starEach (e::es) X.env=(false,eval e X.env)::starEach es X.env:=by rfl) (hpl:(backTo pos (starEach es X.env)).any (·.1)=false:=by rfl):PE X (.Call (.Name x p) (e::es) [] pos) (ahv sp [] E0 t):=aiK F (hr.mono q) hg g.m g.k z .nil jB ha hd hst hpl
end
end L2
namespace L2
open PySem PySem.W PySem.Spec PySem.Calls PyProof.Rows
section
variable{X:Cx}{e f g:Expr}{pos:Pos}
def kW{i:Int}(h:i.natAbs<2^500):(nF i).length<=600:=by
 have hn:i.natAbs.repr.length<=500:=nat_repr_length_le (by decide) h;have q:∀s:String,(Str.ofString s).length=s.length:=λs=>PySem.ofString_length s;unfold nF;rw[q]
 cases i with
 |ofNat n=>
  rw[show(toString (Int.ofNat n))=n.repr from rfl];have hn:n.repr.length<=500:=hn;omega
 |negSucc n=>
  rw[show(toString (Int.negSucc n))= "-" ++(n+1).repr from rfl,String.length_append];have hn:(n+1).repr.length<=500:=hn;have: "-".length=1:=rfl;omega
def Ml{i:Int}(hi:i.natAbs<2^500):i.natAbs.log2<1920:=by
 by_cases q:i.natAbs=0
 ·rw[q];decide
 ·have:=(Nat.log2_lt q (k:=500)).mpr hi
  omega
noncomputable def ajh:List V->Hp->VK->Prop:=λxs H Q=>(∃i:Int,xs=[.int i]/\i.natAbs<2^500/\Q (.str (nF i)) H)\/(∃z,xs=[.str z]/\Q (.str z) H)
def lY:nD X (.type "str") ajh:=by
 intro pins s σ H xs us Q I r h;rcases h with⟨i,rfl,hi,q⟩|⟨z,rfl,q⟩
 ·exact Rc pins s σ H _ us Q I r ⟨i,rfl,Ml hi,q⟩
 ·obtain⟨u,rfl,rx⟩:=vals1 r
  obtain⟨t,rfl⟩:=rx;exact P.str_of_str ⟨.str z,H,I,⟨_,rfl⟩,q⟩
def ap_rStrB{x:V}{H:Hp}{Q:VK}:ajh [x] H Q=((∃i:Int,x=.int i/\i.natAbs<2^500/\Q (.str (nF i)) H)\/(∃z,x=.str z/\Q (.str z) H)):=by simp[ajh]
noncomputable def air(y z:Str)(te tf tg:TE):TE:=λσ H Q=>te σ H λv H1=>∃i:Int,v=.int i/\i.natAbs<2^500/\tf σ H1 λu H2=>∃j:Int,u=.int j/\j.natAbs<2^500/\tg σ H2 λx H3=>∃k:Int,x=.int k/\k.natAbs<2^500/\Q (.str (nF i++y++nF j++z++nF k)) H3
def Tg{y z:Str}{j1 j2:Nat}{p1 p2 p3 p4 p5:Pos}{te tf tg:TE}(he:PE X e te)(hf:PE X f tf)(hg:PE X g tg)(h1:y.length<=1000:=by decide+kernel)(h2:z.length<=1000:=by decide+kernel):
  PE X (.JoinedStr [.FormattedValue e (-1) none p1,.Constant (.str y) j1 p2,.FormattedValue f (-1) none p3,.Constant (.str z) j2 p4,.FormattedValue g (-1) none p5] pos) (air y z te tf tg):=by
 intro pins s σ H Q I h
 have e0:∀z:Str,(Str.empty++z)=z:=λz=>by
  show Str.mk (#[]++z.cps)=z;rw[Array.empty_append]
 have la:∀y z:Str,(y++z).length=y.length+z.length:=λy z=>by
  show(y.cps++z.cps).size=_;rw[Array.size_append];rfl
 refine wpAny_JoinedStr (Joins_cons (zzg ?_));refine thn (he pins _ σ H _ I h) λv s1 ⟨w,H1,I1,r1,i,ei,hi,q⟩=>?_;subst ei;obtain⟨t1,rfl⟩:=r1;have hl:=kW hi;refine zzG (Ml hi) ⟨_,_,rfl,by rw[e0,zn];show(nF i).length<=_;omega,Joins_cons (Calls.Constant_str ⟨y,_,rfl,by rw[la,e0,zn];show(nF i).length+_<=_;omega,Joins_cons (zzg ?_)⟩)⟩;rw[e0];refine thn (hf pins _ σ H1 _ ((I1.tok _).tok _) q) λv s2 ⟨w,H2,I2,r2,j,ej,hj,q⟩=>?_;subst ej;obtain⟨t2,rfl⟩:=r2;have aa:=kW hj;refine zzG (Ml hj) ⟨_,_,rfl,by rw[la,la,zn];show(nF i).length+y.length+(nF j).length<=_;omega,Joins_cons (Calls.Constant_str ⟨z,_,rfl,by rw[la,la,la,zn];show(nF i).length+y.length+(nF j).length+_<=_;omega,Joins_cons (zzg ?_)⟩)⟩;refine thn (hg pins _ σ H2 _ ((I2.tok _).tok _) q) λv s3 ⟨w,H3,I3,r3,k,ek,hk,q⟩=>?_;subst ek;obtain⟨t3,rfl⟩:=r3;have ab:=kW hk;exact zzG (Ml hk) ⟨_,_,rfl,by rw[la,la,la,la,zn];show(nF i).length+y.length+(nF j).length+z.length+(nF k).length<=_;omega,Joins_nil ⟨by rw[la,la,la,la,zn];show(nF i).length+y.length+(nF j).length+z.length+(nF k).length<=_;omega,.str _,H3,I3.tok _,⟨_,rfl⟩,q⟩⟩
def ap_FIIIB{y z:Str}{te q tg:TE}{σ:St}{H:Hp}{Q:VK}:air y z te q tg σ H Q=te σ H λv H1=>∃i:Int,v=.int i/\i.natAbs<2^500/\q σ H1 λu H2=>∃j:Int,u=.int j/\j.natAbs<2^500/\tg σ H2 λx H3=>∃k:Int,x=.int k/\k.natAbs<2^500/\Q (.str (nF i++y++nF j++z++nF k)) H3:=rfl
end
end L2
local macro_rules | `(tactic| walk_at "u") => `(tactic| (rename_i h; first | (cases h; subst_vars; rfl) | (obtain ⟨e, _⟩ := h; subst e; rfl) | (obtain ⟨_, h⟩ := h; walk_at "u")))
local macro_rules | `(tactic| walk_at "v") => `(tactic| (intros; walk_at "u"))
local macro_rules | `(tactic| walk_at "k") => `(tactic| first | exact L2.CapOk.nil | (refine L2.CapOk.own ?_; walk_at "k") | (refine L2.CapOk.take (by with_unfolding_all rfl) (by first | exact Or.inl (by with_unfolding_all rfl) | exact Or.inr (by with_unfolding_all rfl)) (by first | exact Or.inl (by with_unfolding_all rfl) | exact Or.inr (by with_unfolding_all rfl)) (by with_unfolding_all rfl) ?_; walk_at "k"))
local macro_rules | `(tactic| walk_at "c") => `(tactic| (refine ⟨?c1, ?c3, ?c0, ?c4, ?c5, ?c6, ?c7⟩; (case c1 => with_unfolding_all rfl); (case c3 => walk_at "k"); (case c0 => rfl); (case c4 => decide +kernel); (case c5 => decide +kernel); (case c6 => with_unfolding_all rfl); (case c7 => (intro _; rfl))))
local macro_rules | `(tactic| walk_at "q") => do
  let x ← ("↓av_V ↓av_F ↓av_M ↓av_S ↓av_L ↓av0 ↓av1 ↓av2 ↓av3 ↓av4 ↓av5 ↓av6 ↓av7 ↓av8 ↓av9 ↓av10 ↓av11 ↓av12 ↓av13 ↓av14 ↓av15 av_r ap_iStr ap_fldK ap_sFld ap_methD ap_make ap_dget2 ap_dget ap_dput ap_dnewK ap_dpop1 ap_dictOf ap_leS ap_rIsC ap_ixT ap_ixS ap_slT ap_lenS ap_new0 ap_dictPairs ap_iVals ap_rVals ap_dget1 ap_tSortK ap_rSortK ap_tListRev ap_tMinD ap_break ap_rSortI ap_iItems ap_rItems ap_rSortDK ap_rJoin ap_thawV ap_rStrB ap_FIIIB ap_iZip ap_iEnum ap_next ap_asg ap_name ap_var ap_c ap_op ap_un ap_rI ap_rI0 ap_rU ap_rEq ap_rNe ap_ret ap_retN ap_drop ap_if ap_test ap_tB ap_and ap_or ap_not ap_andV ap_notV ap_ifE ap_call ap_nil ap_cons ap_cb ap_lst ap_tup ap_chain ap_sl ap_noPart ap_part ap_gNil ap_gCons ap_gLst ap_gTup ap_bm ap_bm0 ap_ixL ap_slL ap_rLen ap_rSum ap_rAny ap_rAll ap_rListOf ap_rIsT ap_append ap_rCat ap_comp ap_iList ap_iRng1 ap_noIf ap_rMax ap_rMin scal_int scal_str scal_bl start_eq !List.map_cons !List.map_nil !List.length_cons !List.length_nil !List.cons_append !List.nil_append !List.append_nil !List.replicate_succ !List.replicate_zero !Nat.reduceAdd !Nat.reduceSub !Nat.sub_self !List.set_cons_zero !List.set_cons_succ !List.getElem?_cons_zero !List.getElem?_cons_succ !Option.some.injEq V.int.injEq V.bl.injEq V.str.injEq V.ref.injEq V.ty.injEq !List.cons.injEq !exists_eq_left' !exists_eq_left !exists_and_left !exists_eq' !exists_eq !true_and !and_true !and_assoc !exists_const !Bool.not_true !Bool.not_false !if_true !if_false !Bool.false_eq_true !decide_true !decide_false !reduceCtorEq !Bool.not_eq_true' !decide_eq_true_eq !decide_eq_false_iff_not".splitOn " ").toArray.mapM fun s => do
    let r := (s.drop 1).toString
    if s.front = '↓' then `(Lean.Parser.Tactic.simpLemma| ↓$(Lean.mkIdent ("L2." ++ r).toName):ident) else if s.front = '!' then `(Lean.Parser.Tactic.simpLemma| $(Lean.mkIdent r.toName):ident) else `(Lean.Parser.Tactic.simpLemma| $(Lean.mkIdent ("L2." ++ s).toName):ident)
  `(tactic| simp only [$[$x:simpLemma],*])
local macro_rules | `(tactic| walk_at "i") => `(tactic| try walk_at "q")
local macro_rules | `(tactic| walk_at "a") => `(tactic| (repeat (first | simp only [L2.ap_seq, L2.ap_for] | walk_at "q")))
namespace L2
open PySem PySem.Spec PyProof.Rows
def fv{X:Cx}(K:Fg_)(i:Nat){x f:Str}{pos pos':PySem.Pos}(q:X.N[i]? =some x:=by rfl)(hv:Vis X.env.scope x:=by first|exact Or.inl rfl|exact Or.inr (Or.inl rfl)|exact Or.inr (Or.inr rfl))(hd:(x==("__debug__" :Str))=false:=by decide) (hcd:(x==("__classdict__" :Str))=false:=by decide) (hb:PySem.attributeBase (.Name x pos') f X.env (PySem.eval (.Name x pos') X.env)=PySem.eval (.Name x pos') X.env:=by rfl) (hK:X.K=K:=by rfl):PE X (.Attribute (.Name x pos') f pos) (tFV K i f):=ajW (pv i q hv hd hcd) hb hK
end L2
namespace My
open PySem L2 PyProof.Rows
open PySem.W (codeIn findCls findIn fnOf hasDictIn isFn keepIn kitOne makesIn mg_none_of mg_of mroIn nsIn plainGet plainOver readsIn specialIn takesIn)
noncomputable def top(i:Nat):Stmt:=PySem.Challenge.pw_lotledger_k84_reports.main.body.getD i (.Pass ⟨0,0,0,0⟩)
abbrev uD:Stmt:=top 89
abbrev tM:Stmt:=top 88
abbrev vX:Stmt:=top 92
abbrev wj:Stmt:=top 93
abbrev nU:Stmt:=top 94
abbrev xu:Stmt:=top 90
abbrev wV:Stmt:=top 91
abbrev rY:Stmt:=top 95
abbrev oK:Stmt:=top 28
abbrev sE:Stmt:=top 29
abbrev Ip:Stmt:=top 31
abbrev xH:Stmt:=top 30
abbrev pI:Stmt:=inClass (top 21) 0
abbrev uJ:Stmt:=top 33
abbrev wA:Stmt:=top 34
abbrev lM:Stmt:=inClass (top 25) 0
abbrev uG:Stmt:=top 32
abbrev lX:Stmt:=inClass (top 22) 0
abbrev qD:Stmt:=inClass (top 24) 0
abbrev pK:Stmt:=inClass (top 26) 0
abbrev nT:Stmt:=inClass (top 27) 0
abbrev lJ:Stmt:=inClass (top 23) 0
abbrev Bh:Stmt:=top 96
abbrev qK:Stmt:=inClass (top 75) 0
abbrev rZ:Stmt:=top 78
abbrev wW:Stmt:=inClass (top 76) 15
abbrev qT:Stmt:=top 79
abbrev Cp:Stmt:=inClass (top 75) 1
abbrev sZ:Stmt:=inClass (top 75) 2
abbrev qO:Stmt:=top 57
abbrev Bt:Stmt:=top 52
abbrev Ho:Stmt:=top 53
abbrev uz:Stmt:=top 59
abbrev qj:Stmt:=top 58
abbrev rP:Stmt:=top 55
abbrev uy:Stmt:=inClass (top 76) 14
abbrev Bl:Stmt:=inClass (top 76) 13
abbrev BW:Stmt:=top 56
abbrev sW:Stmt:=top 42
abbrev DY:Stmt:=top 41
abbrev Eu:Stmt:=top 40
abbrev qy:Stmt:=inClass (top 76) 12
abbrev sS:Stmt:=top 50
abbrev rQ:Stmt:=inClass (top 48) 0
abbrev qQ:Stmt:=inClass (top 48) 3
abbrev Ec:Stmt:=top 49
abbrev Ej:Stmt:=inClass (top 76) 10
abbrev uH:Stmt:=inClass (top 76) 4
abbrev rW:Stmt:=top 84
abbrev mG:Stmt:=inClass (top 83) 2
abbrev rR:Stmt:=top 85
abbrev mZ:Stmt:=inClass (top 83) 1
abbrev uO:Stmt:=inClass (top 76) 3
abbrev sJ:Stmt:=inClass (top 76) 5
abbrev pL:Stmt:=top 46
abbrev Io:Stmt:=top 44
abbrev Te:Stmt:=top 45
abbrev JZ:Stmt:=top 77
abbrev rT:Stmt:=inClass (top 65) 0
abbrev qN:Stmt:=inClass (top 69) 1
abbrev Bj:Stmt:=inClass (top 48) 2
abbrev uM:Stmt:=top 51
abbrev qI:Stmt:=top 71
abbrev sG:Stmt:=inClass (top 66) 1
abbrev tD:Stmt:=inClass (top 67) 1
abbrev qx:Stmt:=inClass (top 48) 4
abbrev ql:Stmt:=top 72
abbrev qG:Stmt:=inClass (top 68) 1
abbrev Bs:Stmt:=top 73
abbrev pH:Stmt:=inClass (top 76) 11
abbrev sI:Stmt:=inClass (top 76) 6
abbrev tK:Stmt:=inClass (top 76) 7
abbrev tE:Stmt:=top 62
abbrev Ci:Stmt:=top 61
abbrev qL:Stmt:=inClass (top 76) 8
abbrev xG:Stmt:=top 63
abbrev oJ:Stmt:=inClass (top 76) 9
abbrev oN:Stmt:=inClass (top 76) 2
abbrev BK:Stmt:=top 36
abbrev pP:Stmt:=top 37
abbrev oA:Stmt:=inClass (top 22) 3
abbrev ou:Stmt:=top 38
abbrev nR:Stmt:=inClass (top 23) 3
abbrev nO:Stmt:=inClass (top 24) 3
abbrev nG:Stmt:=inClass (top 25) 3
abbrev nu:Stmt:=inClass (top 26) 3
abbrev mJ:Stmt:=inClass (top 27) 3
abbrev HS:Stmt:=inClass (top 76) 1
abbrev qp:Stmt:=top 81
abbrev qW:Stmt:=inClass (top 76) 0
abbrev Iv:Stmt:=top 80
abbrev mH:Stmt:=inClass (top 83) 0
abbrev pO:Stmt:=top 86
abbrev Eo:Stmt:=top 97
abbrev uI:Stmt:=inClass (top 66) 0
abbrev uR:Stmt:=inClass (top 67) 0
abbrev sO:Stmt:=inClass (top 68) 0
abbrev Ce:Stmt:=inClass (top 69) 0
abbrev Mp:Stmt:=top 70
abbrev aah:Stmt:=top 98
set_option genInjectivity false in
structure Adr where
 aaA:Addr
 aaB:Addr
 aaC:Addr
 aaD:Addr
 aaE:Addr
 aaF:Addr
 aaG:Addr
 aaH:Addr
 aaI:Addr
 aaJ:Addr
 aaK:Addr
 aaL:Addr
 aaM:Addr
 aaN:Addr
 aaO:Addr
 aaP:Addr
 aaQ:Addr
 aaR:Addr
 aaS:Addr
 aaT:Addr
 aaU:Addr
 aaV:Addr
 aaW:Addr
 aaX:Addr
 aaY:Addr
 aaZ:Addr
 aa0:Addr
 aa1:Addr
 aa2:Addr
 aa3:Addr
 aa4:Addr
 aa5:Addr
 aa6:Addr
 aa7:Addr
 aa8:Addr
 aa9:Addr
 aba:Addr
 abb:Addr
 abc:Addr
 abd:Addr
 abe:Addr
 abf:Addr
 abg:Addr
 abh:Addr
 abi:Addr
 abj:Addr
 abk:Addr
 abl:Addr
 abm:Addr
 abn:Addr
 abo:Addr
 abp:Addr
 abq:Addr
 abr:Addr
 abt:Addr
 abu:Addr
 abv:Addr
 abw:Addr
 abx:Addr
 aby:Addr
 abz:Addr
 abA:Addr
 abB:Addr
 abC:Addr
 abD:Addr
 abE:Addr
 abF:Addr
 abG:Addr
 abH:Addr
 abI:Addr
 abJ:Addr
 abK:Addr
 abL:Addr
 abM:Addr
 abN:Addr
 abO:Addr
 abP:Addr
 abQ:Addr
 abR:Addr
 abS:Addr
 abT:Addr
 abU:Addr
 abV:Addr
 abW:Addr
 abX:Addr
 abY:Addr
 abZ:Addr
 ab0:Addr
 ab1:Addr
 ab2:Addr
 ab3:Addr
 ab4:Addr
 ab5:Addr
 ab6:Addr
 ab7:Addr
 ab8:Addr
 ab9:Addr
 aca:Addr
 acb:Addr
 law:Addr
 acd:Addr
 ace:Addr
 acf:Addr
 acg:Addr
 ach:Addr
 aci:Addr
 acj:Addr
 ack:Addr
 acl:Addr
 acm:Addr
 acn:Addr
 aco:Addr
 acp:Addr
 acq:Addr
 acr:Addr
 acs:Addr
 act:Addr
 acu:Tok
 acv:Tok
 acw:Tok
 acx:Tok
 acy:Tok
 acz:Tok
 acA:Tok
 acB:Tok
 acC:Tok
set_option genInjectivity false in
structure Fds where
 aaA:FuncData
 aaB:FuncData
 aaC:FuncData
 aaD:FuncData
 aaE:FuncData
 aaF:FuncData
 aaG:FuncData
 aaH:FuncData
 aaI:FuncData
 aaJ:FuncData
 aaK:FuncData
 aaL:FuncData
 aaM:FuncData
 aaN:FuncData
 aaO:FuncData
 aaP:FuncData
 aaQ:FuncData
 aaR:FuncData
 aaS:FuncData
 aaT:FuncData
 aaU:FuncData
 aaV:FuncData
 aaW:FuncData
 aaX:FuncData
 aaY:FuncData
 aaZ:FuncData
 aa0:FuncData
 aa1:FuncData
 aa2:FuncData
 aa3:FuncData
 aa4:FuncData
 aa5:FuncData
 aa6:FuncData
 aa7:FuncData
 aa8:FuncData
 aa9:FuncData
 aba:FuncData
 abb:FuncData
 abc:FuncData
 abd:FuncData
 abe:FuncData
 abf:FuncData
 abg:FuncData
 abh:FuncData
 abi:FuncData
 abj:FuncData
 abk:FuncData
 abl:FuncData
 abm:FuncData
 abn:FuncData
 abo:FuncData
 abp:FuncData
 abq:FuncData
 abr:FuncData
 abt:FuncData
 abu:FuncData
 abv:FuncData
 abw:FuncData
 abx:FuncData
 aby:FuncData
 abz:FuncData
 abA:FuncData
 abB:FuncData
 abC:FuncData
 abD:FuncData
 abE:FuncData
 abF:FuncData
 abG:FuncData
 abH:FuncData
 abI:FuncData
 abJ:FuncData
 abK:FuncData
 abL:FuncData
 abM:FuncData
 abN:FuncData
 abO:FuncData
 abP:FuncData
 abQ:FuncData
 abR:FuncData
 abS:FuncData
 abT:FuncData
 abU:FuncData
 abV:FuncData
 abW:FuncData
 abX:FuncData
 abY:FuncData
 abZ:FuncData
 ab0:FuncData
 ab1:FuncData
 ab2:FuncData
 ab3:FuncData
 ab4:FuncData
 ab5:FuncData
 ab6:FuncData
 ab7:FuncData
 ab8:FuncData
 ab9:FuncData
 aca:FuncData
 acb:FuncData
 law:FuncData
structure Txt(K:Fg_)(mg:Str->Option Value)(A:Adr)(D:Fds):Prop where
 acD:FG K mg "_law_digits" uD A.aaA D.aaA
 acE:FG K mg "_law_cell_at" tM A.aaB D.aaB
 acF:FG K mg "_law_wares" vX A.aaC D.aaC
 acG:FG K mg "_law_entry" wj A.aaD D.aaD
 acH:FG K mg "_law_held_behind" nU A.aaE D.aaE
 acI:FG K mg "_law_mixed" xu A.aaF D.aaF
 acJ:FG K mg "_law_cells" wV A.aaG D.aaG
 acK:FG K mg "_law_history" rY A.aaH D.aaH
 acL:FG K mg "is_whole_number" oK A.aaI D.aaI
 acM:FG K mg "check_number" sE A.aaJ D.aaJ
 acN:FG K mg "is_name" Ip A.aaK D.aaK
 acO:FG K mg "check_name" xH A.aaL D.aaL
 acP:Fun K "__init__" "Entry.__init__" pI A.aaM D.aaM
 acQ:FG K mg "check_named" uJ A.aaN D.aaN
 acR:FG K mg "named_copy" wA A.aaO D.aaO
 acS:ZJ K "__init__" "Give.__init__" lM A.aaP D.aaP [V.non]
 acT:FG K mg "check_trade" uG A.aaQ D.aaQ
 acU:ZJ K "__init__" "Buy.__init__" lX A.aaR D.aaR [V.int 0]
 acV:Fun K "__init__" "Gift.__init__" qD A.aaS D.aaS
 acW:Fun K "__init__" "Split.__init__" pK A.aaT D.aaT
 acX:Fun K "__init__" "Parting.__init__" nT A.aaU D.aaU
 acY:ZJ K "__init__" "Sell.__init__" lJ A.aaV D.aaV [V.int 0,V.non]
 acZ:FG K mg "_law_made" Bh A.aaW D.aaW
 ac0:Fun K "__init__" "Sale.__init__" qK A.aaX D.aaX
 ac1:FG K mg "copy_of_sale" rZ A.aaY D.aaY
 ac2:Fun K "sales" "Book.sales" wW A.aaZ D.aaZ
 ac3:FG K mg "cost_of_parts" qT A.aa0 D.aa0
 ac4:Fun K "gain" "Sale.gain" Cp A.aa1 D.aa1
 ac5:Fun K "counted" "Sale.counted" sZ A.aa2 D.aa2
 ac6:FG K mg "words_of_sale" qO A.aa3 D.aa3
 ac7:FG K mg "pieces_in" Bt A.aa4 D.aa4
 ac8:FG K mg "cost_in" Ho A.aa5 D.aa5
 ac9:FG K mg "word_of_lot" uz A.aa6 D.aa6
 ada:FG K mg "words_of_held" qj A.aa7 D.aa7
 adb:FG K mg "row_of_words" rP A.aa8 D.aa8
 adc:Fun K "row_of" "Book.row_of" uy A.aa9 D.aa9
 add:Fun K "held" "Book.held" Bl A.aba D.aba
 ade:FG K mg "report_of" BW A.abb D.abb
 adf:FG K mg "refuse_twice" sW A.abc D.abc
 adg:FG K mg "place_of" DY A.abd D.abd
 adh:FG K mg "in_order" Eu A.abe D.abe
 adi:Fun K "keep_row" "Book.keep_row" qy A.abf D.abf
 adj:FG K mg "place_in_row" sS A.abg D.abg
 adk:Fun K "__init__" "Lot.__init__" rQ A.abh D.abh
 adl:Fun K "with_more" "Lot.with_more" qQ A.abi D.abi
 adm:FG K mg "row_with" Ec A.abj D.abj
 adn:Fun K "put" "Book.put" Ej A.abk D.abk
 ado:Fun K "lay_on" "Book.lay_on" uH A.abl D.abl
 adp:FG K mg "is_open_loss" rW A.abm D.abm
 adq:Fun K "may_take" "LayingBook.may_take" mG A.abn D.abn
 adr:FG K mg "sale_laid_on" rR A.abo D.abo
 ads:Fun K "lay_on" "LayingBook.lay_on" mZ A.abp D.abp
 adt:Fun K "do_buy" "Book.do_buy" uO A.abq D.abq
 adu:Fun K "do_gift" "Book.do_gift" sJ A.abr D.abr
 adv:FG K mg "sum_of_weights" pL A.abt D.abt
 adw:FG K mg "part_of" Io A.abu D.abu
 adx:FG K mg "dealt" Te A.abv D.abv
 ady:FG K mg "sale_of" JZ A.abw D.abw
 adz:Fun K "levelled" "Way.levelled" rT A.abx D.abx
 adA:Fun K "levelled" "Mean.levelled" qN A.aby D.aby
 adB:Fun K "taken" "Lot.taken" Bj A.abz D.abz
 adC:FG K mg "row_without" uM A.abA D.abA
 adD:FG K mg "picks_in_turn" qI A.abB D.abB
 adE:Fun K "picks" "Eldest.picks" sG A.abC D.abC
 adF:Fun K "picks" "Newest.picks" tD A.abD D.abD
 adG:Fun K "is_dearer" "Lot.is_dearer" qx A.abE D.abE
 adH:FG K mg "dearest_first" ql A.abF D.abF
 adI:Fun K "picks" "Dearest.picks" qG A.abG D.abG
 adJ:FG K mg "gone_from" Bs A.abH D.abH
 adK:Fun K "taken_for" "Book.taken_for" pH A.abI D.abI
 adL:Fun K "do_sell" "Book.do_sell" sI A.abJ D.abJ
 adM:Fun K "do_give" "Book.do_give" tK A.abK D.abK
 adN:FG K mg "pieces_split" tE A.abL D.abL
 adO:FG K mg "row_split" Ci A.abM D.abM
 adP:Fun K "do_split" "Book.do_split" qL A.abN D.abN
 adQ:FG K mg "row_parted" xG A.abO D.abO
 adR:Fun K "do_parting" "Book.do_parting" oJ A.abP D.abP
 adS:Fun K "do_by_kind" "Book.do_by_kind" oN A.abQ D.abQ
 adT:FG K mg "held_with" BK A.abR D.abR
 adU:FG K mg "held_with_more" pP A.abS D.abS
 adV:Fun K "held_behind" "Buy.held_behind" oA A.abT D.abT
 adW:FG K mg "held_with_fewer" ou A.abU D.abU
 adX:Fun K "held_behind" "Sell.held_behind" nR A.abV D.abV
 adY:Fun K "held_behind" "Gift.held_behind" nO A.abW D.abW
 adZ:Fun K "held_behind" "Give.held_behind" nG A.abX D.abX
 ad0:Fun K "held_behind" "Split.held_behind" nu A.abY D.abY
 ad1:Fun K "held_behind" "Parting.held_behind" mJ A.abZ D.abZ
 ad2:Fun K "do" "Book.do" HS A.ab0 D.ab0
 ad3:FG K mg "with_all_done" qp A.ab1 D.ab1
 ad4:Fun K "__init__" "Book.__init__" qW A.ab2 D.ab2
 ad5:FG K mg "book_of" Iv A.ab3 D.ab3
 ad6:Fun K "__init__" "LayingBook.__init__" mH A.ab4 D.ab4
 ad7:FG K mg "laying_book_of" pO A.ab5 D.ab5
 ad8:FG K mg "_law_due" Eo A.ab6 D.ab6
 ad9:Fun K "word" "Eldest.word" uI A.ab7 D.ab7
 aea:Fun K "word" "Newest.word" uR A.ab8 D.ab8
 aeb:Fun K "word" "Dearest.word" sO A.ab9 D.ab9
 aec:Fun K "word" "Mean.word" Ce A.aca D.aca
 aed:FG K mg "way_by" Mp A.acb D.acb
 aee:FG K mg "law" aah A.law D.law
 aef:mg "len" =none
 aeg:mg "int" =none
 aeh:mg "min" =none
 aei:mg "dict" =none
 aej:mg "max" =none
 aek:mg "range" =none
 ael:mg "enumerate" =none
 aem:mg "isinstance" =none
 aen:mg "bool" =none
 aeo:mg "all" =none
 aep:mg "str" =none
 aeq:mg "list" =none
 aer:mg "sum" =none
 aes:mg "sorted" =none
 aet:mg "zip" =none
 aeu:mg "any" =none
 aev:mg "reversed" =none
 aew:mg "Entry" =some (.ref A.acd)
 aex:mg "Give" =some (.ref A.ace)
 aey:mg "Buy" =some (.ref A.acf)
 aez:mg "Gift" =some (.ref A.acg)
 aeA:mg "Split" =some (.ref A.ach)
 aeB:mg "Parting" =some (.ref A.aci)
 aeC:mg "Sell" =some (.ref A.acj)
 aeD:mg "Sale" =some (.ref A.ack)
 aeE:mg "Book" =some (.ref A.acl)
 aeF:mg "LayingBook" =some (.ref A.acm)
 aeG:mg "Lot" =some (.ref A.acn)
 aeH:mg "Mean" =some (.ref A.acp)
 aeI:mg "Eldest" =some (.ref A.acq)
 aeJ:mg "Newest" =some (.ref A.acr)
 aeK:mg "Dearest" =some (.ref A.acs)
 aeL:mg "MOST_LETTERS" =some (.int 8 A.acu)
 aeM:mg "MOST_DAY" =some (.int 1000000 A.acv)
 aeN:mg "MOST_NUMBER" =some (.int 1000000 A.acw)
 aeO:mg "MOST_PIECES" =some (.int 1000000000 A.acx)
 aeP:mg "MOST_PRICE" =some (.int 1000000000 A.acy)
 aeQ:mg "MOST_FEE" =some (.int 1000000000 A.acz)
 aeR:mg "MOST_GIFT_COST" =some (.int 1000000000000000000 A.acA)
 aeS:mg "MOST_SPLIT" =some (.int 1000 A.acB)
 aeT:mg "MOST_WHOLE" =some (.int 1000000 A.acC)
 aeU:Cls K A.ace
 aeV:Ra K A.ace
 aeW:jd K A.ace "day"
 aeX:jd K A.ace "number"
 aeY:jd K A.ace "ware"
 aeZ:jd K A.ace "pieces"
 ae0:jd K A.ace "named"
 ae1:Cls K A.acf
 ae2:Ra K A.acf
 ae3:jd K A.acf "day"
 ae4:jd K A.acf "number"
 ae5:jd K A.acf "ware"
 ae6:jd K A.acf "pieces"
 ae7:jd K A.acf "price"
 ae8:jd K A.acf "fee"
 ae9:jd K A.acf "cost"
 afa:Cls K A.acg
 afb:Ra K A.acg
 afc:jd K A.acg "day"
 afd:jd K A.acg "number"
 afe:jd K A.acg "ware"
 aff:jd K A.acg "pieces"
 afg:jd K A.acg "cost"
 afh:jd K A.acg "since"
 afi:Cls K A.ach
 afj:Ra K A.ach
 afk:jd K A.ach "day"
 afl:jd K A.ach "number"
 afm:jd K A.ach "ware"
 afn:jd K A.ach "many"
 afo:jd K A.ach "of"
 afp:Cls K A.aci
 afq:Ra K A.aci
 afr:jd K A.aci "day"
 afs:jd K A.aci "number"
 aft:jd K A.aci "ware"
 afu:jd K A.aci "other"
 afv:jd K A.aci "share"
 afw:jd K A.aci "whole"
 afx:Cls K A.acj
 afy:Ra K A.acj
 afz:jd K A.acj "day"
 afA:jd K A.acj "number"
 afB:jd K A.acj "ware"
 afC:jd K A.acj "pieces"
 afD:jd K A.acj "price"
 afE:jd K A.acj "fee"
 afF:jd K A.acj "named"
 afG:jd K A.acj "proceeds"
 afH:Cls K A.ack
 afI:jd K A.ack "number"
 afJ:jd K A.ack "day"
 afK:jd K A.ack "ware"
 afL:jd K A.ack "proceeds"
 afM:jd K A.ack "parts"
 afN:jd K A.ack "laid_on"
 afO:Cls K A.acl
 afP:jd K A.acl "way"
 afQ:jd K A.acl "rows"
 afR:jd K A.acl "last_place"
 afS:jd K A.acl "paid"
 afT:jd K A.acl "brought"
 afU:jd K A.acl "sales_done"
 afV:jd K A.acl "givings_done"
 afW:Cls K A.acm
 afX:jd K A.acm "way"
 afY:jd K A.acm "rows"
 afZ:jd K A.acm "last_place"
 af0:jd K A.acm "paid"
 af1:jd K A.acm "brought"
 af2:jd K A.acm "sales_done"
 af3:jd K A.acm "givings_done"
 af4:jd K A.acm "days"
 af5:jd K A.acm "layings"
 af6:Cls K A.acn
 af7:jd K A.acn "number"
 af8:jd K A.acn "since"
 af9:jd K A.acn "pieces"
 aga:jd K A.acn "cost"
 agb:Cls K A.acp
 agc:Cls K A.acq
 agd:Cls K A.acr
 age:Cls K A.acs
 agf:Mk K A.ace A.aaP
 agg:Mk K A.acf A.aaR
 agh:Mk K A.acg A.aaS
 agi:Mk K A.ach A.aaT
 agj:Mk K A.aci A.aaU
 agk:Mk K A.acj A.aaV
 agl:Mk K A.ack A.aaX
 agm:Mk K A.acn A.abh
 agn:Mk K A.acl A.ab2
 ago:Mk K A.acm A.ab4
 agp:Mk0 K A.acq
 agq:Mk0 K A.acr
 agr:Mk0 K A.acs
 ags:Mk0 K A.acp
 agt:Meth K A.ack "gain" A.aa1
 agu:Meth K A.ack "counted" A.aa2
 agv:Meth K A.acl "sales" A.aaZ
 agw:Meth K A.acm "sales" A.aaZ
 agx:Meth K A.acl "row_of" A.aa9
 agy:Meth K A.acm "row_of" A.aa9
 agz:Meth K A.acl "held" A.aba
 agA:Meth K A.acm "held" A.aba
 agB:Meth K A.acn "with_more" A.abi
 agC:Meth K A.acl "keep_row" A.abf
 agD:Meth K A.acm "keep_row" A.abf
 agE:Meth K A.acm "may_take" A.abn
 agF:Meth K A.acl "put" A.abk
 agG:Meth K A.acm "put" A.abk
 agH:Meth K A.acl "lay_on" A.abl
 agI:Meth K A.acm "lay_on" A.abp
 agJ:Meth K A.acn "taken" A.abz
 agK:Meth K A.acn "is_dearer" A.abE
 agL:Meth K A.acq "levelled" A.abx
 agM:Meth K A.acr "levelled" A.abx
 agN:Meth K A.acs "levelled" A.abx
 agO:Meth K A.acp "levelled" A.aby
 agP:Meth K A.acq "picks" A.abC
 agQ:Meth K A.acr "picks" A.abD
 agR:Meth K A.acs "picks" A.abG
 agS:Meth K A.acp "picks" A.abC
 agT:Meth K A.acl "taken_for" A.abI
 agU:Meth K A.acm "taken_for" A.abI
 agV:Meth K A.acl "do_buy" A.abq
 agW:Meth K A.acm "do_buy" A.abq
 agX:Meth K A.acl "do_gift" A.abr
 agY:Meth K A.acm "do_gift" A.abr
 agZ:Meth K A.acl "do_sell" A.abJ
 ag0:Meth K A.acm "do_sell" A.abJ
 ag1:Meth K A.acl "do_give" A.abK
 ag2:Meth K A.acm "do_give" A.abK
 ag3:Meth K A.acl "do_split" A.abN
 ag4:Meth K A.acm "do_split" A.abN
 ag5:Meth K A.acl "do_parting" A.abP
 ag6:Meth K A.acm "do_parting" A.abP
 ag7:Meth K A.acl "do_by_kind" A.abQ
 ag8:Meth K A.acm "do_by_kind" A.abQ
 ag9:Meth K A.acf "held_behind" A.abT
 aha:Meth K A.acj "held_behind" A.abV
 ahb:Meth K A.acg "held_behind" A.abW
 ahc:Meth K A.ace "held_behind" A.abX
 ahd:Meth K A.ach "held_behind" A.abY
 ahe:Meth K A.aci "held_behind" A.abZ
 ahf:Meth K A.acl "do" A.ab0
 ahg:Meth K A.acm "do" A.ab0
 ahh:Meth K A.acq "word" A.ab7
 ahi:Meth K A.acr "word" A.ab8
 ahj:Meth K A.acs "word" A.ab9
 ahk:Meth K A.acp "word" A.aca
 ahl:ajv K A.acd "__init__" A.aaM
 ahm:ajv K A.acl "__init__" A.ab2
 ahn:kitOne K (.ref A.acf) (.ref A.acj)=some false/\kitOne K (.ref A.acf) (.ref A.acg)=some false/\kitOne K (.ref A.acf) (.ref A.ace)=some false/\kitOne K (.ref A.acf) (.ref A.ach)=some false/\kitOne K (.ref A.acf) (.ref A.aci)=some false
 aho:kitOne K (.ref A.acj) (.ref A.acf)=some false/\kitOne K (.ref A.acj) (.ref A.acg)=some false/\kitOne K (.ref A.acj) (.ref A.ace)=some false/\kitOne K (.ref A.acj) (.ref A.ach)=some false/\kitOne K (.ref A.acj) (.ref A.aci)=some false
 ahp:kitOne K (.ref A.acg) (.ref A.acf)=some false/\kitOne K (.ref A.acg) (.ref A.acj)=some false/\kitOne K (.ref A.acg) (.ref A.ace)=some false/\kitOne K (.ref A.acg) (.ref A.ach)=some false/\kitOne K (.ref A.acg) (.ref A.aci)=some false
 ahq:kitOne K (.ref A.ace) (.ref A.acf)=some false/\kitOne K (.ref A.ace) (.ref A.acj)=some false/\kitOne K (.ref A.ace) (.ref A.acg)=some false/\kitOne K (.ref A.ace) (.ref A.ach)=some false/\kitOne K (.ref A.ace) (.ref A.aci)=some false
 ahr:kitOne K (.ref A.ach) (.ref A.acf)=some false/\kitOne K (.ref A.ach) (.ref A.acj)=some false/\kitOne K (.ref A.ach) (.ref A.acg)=some false/\kitOne K (.ref A.ach) (.ref A.ace)=some false/\kitOne K (.ref A.ach) (.ref A.aci)=some false
 ahs:kitOne K (.ref A.aci) (.ref A.acf)=some false/\kitOne K (.ref A.aci) (.ref A.acj)=some false/\kitOne K (.ref A.aci) (.ref A.acg)=some false/\kitOne K (.ref A.aci) (.ref A.ace)=some false/\kitOne K (.ref A.aci) (.ref A.ach)=some false
local macro_rules | `(tactic| walk_at "s") => `(tactic| exact ⟨rfl, rfl, rfl, by decide +kernel, rfl, by decide +kernel, by decide +kernel⟩)
def oY:iU ["_law_cell", "_law_bases", "_law_row", "_law_base"] ["_law_cell", "_law_bases"] (iQ uD):=by walk_at "s"
def HJ:iU ["_law_script", "_law_k"] ["_law_script", "_law_k"] (iQ tM):=by walk_at "s"
def nH:iU ["_law_script", "_law_word", "_law_cell", "_law_many"] ["_law_script"] (iQ vX):=by walk_at "s"
def jx:iU ["_law_cell", "_law_day", "_law_number", "_law_wares_here", "_law_held", "_law_kind", "_law_at", "_law_size", "_law_pieces", "_law_price", "_law_fee", "_law_many", "_law_ware", "_law_there", "_law_whole", "_law_other"] ["_law_cell", "_law_day", "_law_number", "_law_wares_here", "_law_held"] (iQ wj):=by walk_at "s"
def jE:iU ["_law_held", "_law_told", "_law_found", "_law_ware", "_law_there", "_law_pieces"] ["_law_held", "_law_told"] (iQ nU):=by walk_at "s"
def uN:iU ["_law_cell", "_law_k", "_law_number", "_law_other"] ["_law_cell", "_law_k"] (iQ xu):=by walk_at "s"
def Dt:iU ["_law_script", "_law_many"] ["_law_script"] (iQ wV):=by walk_at "s"
def jm:iU ["_law_script", "_law_most", "_law_wares_here", "_law_low", "_law_step", "_law_told", "_law_held", "_law_day", "_law_k", "_law_cell", "_law_way", "_law_more", "_law_entry_here", "_law_behind"] ["_law_script", "_law_most"] (iQ rY):=by walk_at "s"
def Dy:iU ["value"] ["value"] (iQ oK):=by walk_at "s"
def JG:iU ["what", "value", "least", "most"] ["what", "value", "least", "most"] (iQ sE):=by walk_at "s"
def Vr:iU ["value"] ["value"] (iQ Ip):=by walk_at "s"
def Ms:iU ["what", "value"] ["what", "value"] (iQ xH):=by walk_at "s"
def DR:iU ["self", "day", "number", "ware"] ["self", "day", "number", "ware"] (iQ pI):=by walk_at "s"
def KQ:iU ["named", "pieces", "seen", "lot", "lot_pieces"] ["named", "pieces"] (iQ uJ):=by walk_at "s"
def Nb:iU ["named"] ["named"] (iQ wA):=by walk_at "s"
def Ga:iU ["self", "day", "number", "ware", "pieces", "named"] ["self", "day", "number", "ware", "pieces", "named"] (iQ lM):=by walk_at "s"
def Kh:iU ["pieces", "price", "fee"] ["pieces", "price", "fee"] (iQ uG):=by walk_at "s"
def JH:iU ["self", "day", "number", "ware", "pieces", "price", "fee"] ["self", "day", "number", "ware", "pieces", "price", "fee"] (iQ lX):=by walk_at "s"
def Gx:iU ["self", "day", "number", "ware", "pieces", "cost", "since"] ["self", "day", "number", "ware", "pieces", "cost", "since"] (iQ qD):=by walk_at "s"
def Et:iU ["self", "day", "number", "ware", "many", "of"] ["self", "day", "number", "ware", "many", "of"] (iQ pK):=by walk_at "s"
def Bv:iU ["self", "day", "number", "ware", "other", "share", "whole"] ["self", "day", "number", "ware", "other", "share", "whole"] (iQ nT):=by walk_at "s"
def Gu:iU ["self", "day", "number", "ware", "pieces", "price", "fee", "named"] ["self", "day", "number", "ware", "pieces", "price", "fee", "named"] (iQ lJ):=by walk_at "s"
def rH:iU ["_law_told", "_law_rest", "_law_named"] ["_law_told"] (iQ Bh):=by walk_at "s"
def FP:iU ["self", "number", "day", "ware", "proceeds", "parts", "laid_on"] ["self", "number", "day", "ware", "proceeds", "parts", "laid_on"] (iQ qK):=by walk_at "s"
def Ke:iU ["sale"] ["sale"] (iQ rZ):=by walk_at "s"
def Mw:iU ["self"] ["self"] (iQ wW):=by walk_at "s"
def Gd:iU ["parts"] ["parts"] (iQ qT):=by walk_at "s"
def QH:iU ["self"] ["self"] (iQ Cp):=by walk_at "s"
def Ju:iU ["self"] ["self"] (iQ sZ):=by walk_at "s"
def vg:iU ["sale", "words"] ["sale"] (iQ qO):=by walk_at "s"
def QS:iU ["lots"] ["lots"] (iQ Bt):=by walk_at "s"
def Wt:iU ["lots"] ["lots"] (iQ Ho):=by walk_at "s"
def oW:iU ["lot", "number", "pieces", "cost"] ["lot"] (iQ uz):=by walk_at "s"
def Fx:iU ["ware", "lots"] ["ware", "lots"] (iQ qj):=by walk_at "s"
def Jv:iU ["words"] ["words"] (iQ rP):=by walk_at "s"
def Lb:iU ["self", "ware"] ["self", "ware"] (iQ uy):=by walk_at "s"
def Oo:iU ["self"] ["self"] (iQ Bl):=by walk_at "s"
def wJ:iU ["book", "sales", "rows"] ["book"] (iQ BW):=by walk_at "s"
def nJ:iU ["numbers", "rising", "ahead", "behind"] ["numbers"] (iQ sW):=by walk_at "s"
def Rv:iU ["entry"] ["entry"] (iQ DY):=by walk_at "s"
def RP:iU ["entries"] ["entries"] (iQ Eu):=by walk_at "s"
def FT:iU ["self", "ware", "row"] ["self", "ware", "row"] (iQ qy):=by walk_at "s"
def Jb:iU ["lot"] ["lot"] (iQ sS):=by walk_at "s"
def Jy:iU ["self", "number", "since", "pieces", "cost"] ["self", "number", "since", "pieces", "cost"] (iQ rQ):=by walk_at "s"
def Gn:iU ["self", "pieces", "cost"] ["self", "pieces", "cost"] (iQ qQ):=by walk_at "s"
def RT:iU ["lots", "lot"] ["lots", "lot"] (iQ Ec):=by walk_at "s"
def uU:iU ["self", "ware", "lots", "row", "lot"] ["self", "ware", "lots"] (iQ Ej):=by walk_at "s"
def Kz:iU ["self", "entry"] ["self", "entry"] (iQ uH):=by walk_at "s"
def Js:iU ["sale"] ["sale"] (iQ rW):=by walk_at "s"
def vR:iU ["self", "entry", "sale"] ["self", "entry", "sale"] (iQ mG):=by walk_at "s"
def Il:iU ["sale", "number"] ["sale", "number"] (iQ rR):=by walk_at "s"
def pX:iU ["self", "entry", "taken"] ["self", "entry"] (iQ mZ):=by walk_at "s"
def Ak:iU ["self", "entry", "cost"] ["self", "entry"] (iQ uO):=by walk_at "s"
def GX:iU ["self", "entry"] ["self", "entry"] (iQ sJ):=by walk_at "s"
def ud:iU ["weights", "whole"] ["weights"] (iQ pL):=by walk_at "s"
def Vt:iU ["amount", "part", "whole"] ["amount", "part", "whole"] (iQ Io):=by walk_at "s"
def qd:iU ["amount", "weights", "whole", "shares", "weight_till_here", "dealt_till_here", "weight", "dealt_with_it"] ["amount", "weights"] (iQ Te):=by walk_at "s"
def Ed:iU ["entry", "lots", "shares", "parts"] ["entry", "lots"] (iQ JZ):=by walk_at "s"
def Ht:iU ["self", "lots"] ["self", "lots"] (iQ rT):=by walk_at "s"
def vo:iU ["self", "lots", "costs"] ["self", "lots"] (iQ qN):=by walk_at "s"
def wC:iU ["self", "pieces", "cost", "gone"] ["self", "pieces"] (iQ Bj):=by walk_at "s"
def lF:iU ["lots", "picks", "left", "taken", "number", "pieces", "lot", "parts"] ["lots", "picks"] (iQ uM):=by walk_at "s"
def lC:iU ["lots", "pieces", "picks", "wanted", "lot", "going"] ["lots", "pieces"] (iQ qI):=by walk_at "s"
def Hl:iU ["self", "lots", "pieces"] ["self", "lots", "pieces"] (iQ sG):=by walk_at "s"
def Iz:iU ["self", "lots", "pieces"] ["self", "lots", "pieces"] (iQ tD):=by walk_at "s"
def FZ:iU ["self", "other"] ["self", "other"] (iQ qx):=by walk_at "s"
def mY:iU ["lots", "turn", "lot", "cheaper"] ["lots"] (iQ ql):=by walk_at "s"
def Ge:iU ["self", "lots", "pieces"] ["self", "lots", "pieces"] (iQ qG):=by walk_at "s"
def xg:iU ["way", "lots", "pieces", "named", "row", "picks"] ["way", "lots", "pieces", "named"] (iQ Bs):=by walk_at "s"
def uw:iU ["self", "entry", "gone"] ["self", "entry"] (iQ pH):=by walk_at "s"
def Hu:iU ["self", "entry"] ["self", "entry"] (iQ sI):=by walk_at "s"
def Ka:iU ["self", "entry"] ["self", "entry"] (iQ tK):=by walk_at "s"
def jZ:iU ["lots", "many", "of", "counts", "pieces_till_here", "split_till_here", "lot", "split_with_it"] ["lots", "many", "of"] (iQ tE):=by walk_at "s"
def lN:iU ["lots", "many", "of", "row", "cost_of_gone", "lot", "pieces", "last"] ["lots", "many", "of"] (iQ Ci):=by walk_at "s"
def Fv:iU ["self", "entry"] ["self", "entry"] (iQ qL):=by walk_at "s"
def qb:iU ["lots", "share", "whole", "parts", "going_on", "second"] ["lots", "share", "whole"] (iQ xG):=by walk_at "s"
def rG:iU ["self", "entry", "rows"] ["self", "entry"] (iQ oJ):=by walk_at "s"
def Dk:iU ["self", "entry"] ["self", "entry"] (iQ oN):=by walk_at "s"
def Fj:iU ["held", "ware", "pieces", "changed"] ["held", "ware", "pieces"] (iQ BK):=by walk_at "s"
def En:iU ["held", "ware", "pieces"] ["held", "ware", "pieces"] (iQ pP):=by walk_at "s"
def Cy:iU ["self", "held"] ["self", "held"] (iQ oA):=by walk_at "s"
def qZ:iU ["held", "ware", "pieces", "before"] ["held", "ware", "pieces"] (iQ ou):=by walk_at "s"
def BR:iU ["self", "held"] ["self", "held"] (iQ nR):=by walk_at "s"
def Bq:iU ["self", "held"] ["self", "held"] (iQ nO):=by walk_at "s"
def BL:iU ["self", "held"] ["self", "held"] (iQ nG):=by walk_at "s"
def mO:iU ["self", "held", "before", "behind"] ["self", "held"] (iQ nu):=by walk_at "s"
def vV:iU ["self", "held"] ["self", "held"] (iQ mJ):=by walk_at "s"
def Vn:iU ["self", "entry"] ["self", "entry"] (iQ HS):=by walk_at "s"
def uW:iU ["book", "entries", "entry"] ["book", "entries"] (iQ qp):=by walk_at "s"
def Gb:iU ["self", "way"] ["self", "way"] (iQ qW):=by walk_at "s"
def Wc:iU ["way", "entries"] ["way", "entries"] (iQ Iv):=by walk_at "s"
def vM:iU ["self", "way", "days"] ["self", "way", "days"] (iQ mH):=by walk_at "s"
def DW:iU ["way", "days", "entries"] ["way", "days", "entries"] (iQ pO):=by walk_at "s"
def jP:iU ["_law_book", "_law_text", "_law_total", "_law_sale", "_law_held", "_law_ware", "_law_row", "_law_lot"] ["_law_book"] (iQ Eo):=by walk_at "s"
def Lf:iU ["self"] ["self"] (iQ uI):=by walk_at "s"
def La:iU ["self"] ["self"] (iQ uR):=by walk_at "s"
def Ij:iU ["self"] ["self"] (iQ sO):=by walk_at "s"
def Ol:iU ["self"] ["self"] (iQ Ce):=by walk_at "s"
def Pg:iU ["word", "way"] ["word"] (iQ Mp):=by walk_at "s"
def Fp:iU ["_law_script", "_law_told", "_law_entries", "_law_days", "_law_word", "_law_book", "_law_due_here", "_law_found"] ["_law_script"] (iQ aah):=by walk_at "s"
section
variable{P:Program}{w:World}{K:Fg_}{mg:Str->Option Value}{base:Heap}{A:Adr}{D:Fds}
def uF(T:Txt K mg A D):Binds K D.aaA ["_law_cell", "_law_bases"] []:=T.acD.F.binds λ_ _ _ _ _ _=>ln2 λ_ _=>rfl
def lZ(T:Txt K mg A D):Binds K D.aaB ["_law_script", "_law_k"] []:=T.acE.F.binds λ_ _ _ _ _ _=>ln2 λ_ _=>rfl
def Oi(T:Txt K mg A D):Binds K D.aaC ["_law_script"] []:=T.acF.F.binds λ_ _ _ _ _ _=>ln1 λ_=>rfl
def Qe(T:Txt K mg A D):Binds K D.aaD ["_law_cell", "_law_day", "_law_number", "_law_wares_here", "_law_held"] []:=T.acG.F.binds λ_ _ _ _ _ _=>ln5 λ_ _ _ _ _=>rfl
def Cv(T:Txt K mg A D):Binds K D.aaE ["_law_held", "_law_told"] []:=T.acH.F.binds λ_ _ _ _ _ _=>ln2 λ_ _=>rfl
def Qh(T:Txt K mg A D):Binds K D.aaF ["_law_cell", "_law_k"] []:=T.acI.F.binds λ_ _ _ _ _ _=>ln2 λ_ _=>rfl
def Om(T:Txt K mg A D):Binds K D.aaG ["_law_script"] []:=T.acJ.F.binds λ_ _ _ _ _ _=>ln1 λ_=>rfl
def KR(T:Txt K mg A D):Binds K D.aaH ["_law_script", "_law_most"] []:=T.acK.F.binds λ_ _ _ _ _ _=>ln2 λ_ _=>rfl
def Eg(T:Txt K mg A D):Binds K D.aaI ["value"] []:=T.acL.F.binds λ_ _ _ _ _ _=>ln1 λ_=>rfl
def jA(T:Txt K mg A D):Binds K D.aaJ ["what", "value", "least", "most"] []:=T.acM.F.binds λ_ _ _ _ _ _=>ln4 λ_ _ _ _=>rfl
def Yc(T:Txt K mg A D):Binds K D.aaK ["value"] []:=T.acN.F.binds λ_ _ _ _ _ _=>ln1 λ_=>rfl
def Fd(T:Txt K mg A D):Binds K D.aaL ["what", "value"] []:=T.acO.F.binds λ_ _ _ _ _ _=>ln2 λ_ _=>rfl
def lB(T:Txt K mg A D):Binds K D.aaM ["self", "day", "number", "ware"] []:=T.acP.binds λ_ _ _ _ _ _=>ln4 λ_ _ _ _=>rfl
def Dq(T:Txt K mg A D):Binds K D.aaN ["named", "pieces"] []:=T.acQ.F.binds λ_ _ _ _ _ _=>ln2 λ_ _=>rfl
def Fq(T:Txt K mg A D):Binds K D.aaO ["named"] []:=T.acR.F.binds λ_ _ _ _ _ _=>ln1 λ_=>rfl
def CN(T:Txt K mg A D):Binds K D.aaQ ["pieces", "price", "fee"] []:=T.acT.F.binds λ_ _ _ _ _ _=>ln3 λ_ _ _=>rfl
def Iu(T:Txt K mg A D):Binds K D.aaS ["self", "day", "number", "ware", "pieces", "cost", "since"] []:=T.acV.binds λ_ _ _ _ _ _=>ln7 λ_ _ _ _ _ _ _=>rfl
def Gj(T:Txt K mg A D):Binds K D.aaT ["self", "day", "number", "ware", "many", "of"] []:=T.acW.binds λ_ _ _ _ _ _=>ln6 λ_ _ _ _ _ _=>rfl
def CW(T:Txt K mg A D):Binds K D.aaU ["self", "day", "number", "ware", "other", "share", "whole"] []:=T.acX.binds λ_ _ _ _ _ _=>ln7 λ_ _ _ _ _ _ _=>rfl
def Su(T:Txt K mg A D):Binds K D.aaW ["_law_told"] []:=T.acZ.F.binds λ_ _ _ _ _ _=>ln1 λ_=>rfl
def qF(T:Txt K mg A D):Binds K D.aaX ["self", "number", "day", "ware", "proceeds", "parts", "laid_on"] []:=T.ac0.binds λ_ _ _ _ _ _=>ln7 λ_ _ _ _ _ _ _=>rfl
def Ks(T:Txt K mg A D):Binds K D.aaY ["sale"] []:=T.ac1.F.binds λ_ _ _ _ _ _=>ln1 λ_=>rfl
def rK(T:Txt K mg A D):Binds K D.aaZ ["self"] []:=T.ac2.binds λ_ _ _ _ _ _=>ln1 λ_=>rfl
def JV(T:Txt K mg A D):Binds K D.aa0 ["parts"] []:=T.ac3.F.binds λ_ _ _ _ _ _=>ln1 λ_=>rfl
def uV(T:Txt K mg A D):Binds K D.aa1 ["self"] []:=T.ac4.binds λ_ _ _ _ _ _=>ln1 λ_=>rfl
def oV(T:Txt K mg A D):Binds K D.aa2 ["self"] []:=T.ac5.binds λ_ _ _ _ _ _=>ln1 λ_=>rfl
def IW(T:Txt K mg A D):Binds K D.aa3 ["sale"] []:=T.ac6.F.binds λ_ _ _ _ _ _=>ln1 λ_=>rfl
def JM(T:Txt K mg A D):Binds K D.aa4 ["lots"] []:=T.ac7.F.binds λ_ _ _ _ _ _=>ln1 λ_=>rfl
def QV(T:Txt K mg A D):Binds K D.aa5 ["lots"] []:=T.ac8.F.binds λ_ _ _ _ _ _=>ln1 λ_=>rfl
def Mm(T:Txt K mg A D):Binds K D.aa6 ["lot"] []:=T.ac9.F.binds λ_ _ _ _ _ _=>ln1 λ_=>rfl
def JC(T:Txt K mg A D):Binds K D.aa7 ["ware", "lots"] []:=T.ada.F.binds λ_ _ _ _ _ _=>ln2 λ_ _=>rfl
def Kv(T:Txt K mg A D):Binds K D.aa8 ["words"] []:=T.adb.F.binds λ_ _ _ _ _ _=>ln1 λ_=>rfl
def jL(T:Txt K mg A D):Binds K D.aa9 ["self", "ware"] []:=T.adc.binds λ_ _ _ _ _ _=>ln2 λ_ _=>rfl
def oF(T:Txt K mg A D):Binds K D.aba ["self"] []:=T.add.binds λ_ _ _ _ _ _=>ln1 λ_=>rfl
def Bk(T:Txt K mg A D):Binds K D.abb ["book"] []:=T.ade.F.binds λ_ _ _ _ _ _=>ln1 λ_=>rfl
def Kq(T:Txt K mg A D):Binds K D.abc ["numbers"] []:=T.adf.F.binds λ_ _ _ _ _ _=>ln1 λ_=>rfl
def Eh(T:Txt K mg A D):Binds K D.abd ["entry"] []:=T.adg.F.binds λ_ _ _ _ _ _=>ln1 λ_=>rfl
def VD(T:Txt K mg A D):Binds K D.abe ["entries"] []:=T.adh.F.binds λ_ _ _ _ _ _=>ln1 λ_=>rfl
def kj(T:Txt K mg A D):Binds K D.abf ["self", "ware", "row"] []:=T.adi.binds λ_ _ _ _ _ _=>ln3 λ_ _ _=>rfl
def Le(T:Txt K mg A D):Binds K D.abg ["lot"] []:=T.adj.F.binds λ_ _ _ _ _ _=>ln1 λ_=>rfl
def jY(T:Txt K mg A D):Binds K D.abh ["self", "number", "since", "pieces", "cost"] []:=T.adk.binds λ_ _ _ _ _ _=>ln5 λ_ _ _ _ _=>rfl
def wg(T:Txt K mg A D):Binds K D.abi ["self", "pieces", "cost"] []:=T.adl.binds λ_ _ _ _ _ _=>ln3 λ_ _ _=>rfl
def Vz(T:Txt K mg A D):Binds K D.abj ["lots", "lot"] []:=T.adm.F.binds λ_ _ _ _ _ _=>ln2 λ_ _=>rfl
def qg(T:Txt K mg A D):Binds K D.abk ["self", "ware", "lots"] []:=T.adn.binds λ_ _ _ _ _ _=>ln3 λ_ _ _=>rfl
def Mx(T:Txt K mg A D):Binds K D.abl ["self", "entry"] []:=T.ado.binds λ_ _ _ _ _ _=>ln2 λ_ _=>rfl
def Kg(T:Txt K mg A D):Binds K D.abm ["sale"] []:=T.adp.F.binds λ_ _ _ _ _ _=>ln1 λ_=>rfl
def pD(T:Txt K mg A D):Binds K D.abn ["self", "entry", "sale"] []:=T.adq.binds λ_ _ _ _ _ _=>ln3 λ_ _ _=>rfl
def Kw(T:Txt K mg A D):Binds K D.abo ["sale", "number"] []:=T.adr.F.binds λ_ _ _ _ _ _=>ln2 λ_ _=>rfl
def Bm(T:Txt K mg A D):Binds K D.abp ["self", "entry"] []:=T.ads.binds λ_ _ _ _ _ _=>ln2 λ_ _=>rfl
def Dg(T:Txt K mg A D):Binds K D.abq ["self", "entry"] []:=T.adt.binds λ_ _ _ _ _ _=>ln2 λ_ _=>rfl
def Ao(T:Txt K mg A D):Binds K D.abr ["self", "entry"] []:=T.adu.binds λ_ _ _ _ _ _=>ln2 λ_ _=>rfl
def Gh(T:Txt K mg A D):Binds K D.abt ["weights"] []:=T.adv.F.binds λ_ _ _ _ _ _=>ln1 λ_=>rfl
def Jm(T:Txt K mg A D):Binds K D.abu ["amount", "part", "whole"] []:=T.adw.F.binds λ_ _ _ _ _ _=>ln3 λ_ _ _=>rfl
def Yt(T:Txt K mg A D):Binds K D.abv ["amount", "weights"] []:=T.adx.F.binds λ_ _ _ _ _ _=>ln2 λ_ _=>rfl
def Xb(T:Txt K mg A D):Binds K D.abw ["entry", "lots"] []:=T.ady.F.binds λ_ _ _ _ _ _=>ln2 λ_ _=>rfl
def tG(T:Txt K mg A D):Binds K D.abx ["self", "lots"] []:=T.adz.binds λ_ _ _ _ _ _=>ln2 λ_ _=>rfl
def Hr(T:Txt K mg A D):Binds K D.aby ["self", "lots"] []:=T.adA.binds λ_ _ _ _ _ _=>ln2 λ_ _=>rfl
def Rz(T:Txt K mg A D):Binds K D.abz ["self", "pieces"] []:=T.adB.binds λ_ _ _ _ _ _=>ln2 λ_ _=>rfl
def Ny(T:Txt K mg A D):Binds K D.abA ["lots", "picks"] []:=T.adC.F.binds λ_ _ _ _ _ _=>ln2 λ_ _=>rfl
def qJ(T:Txt K mg A D):Binds K D.abB ["lots", "pieces"] []:=T.adD.F.binds λ_ _ _ _ _ _=>ln2 λ_ _=>rfl
def Aj(T:Txt K mg A D):Binds K D.abC ["self", "lots", "pieces"] []:=T.adE.binds λ_ _ _ _ _ _=>ln3 λ_ _ _=>rfl
def KZ(T:Txt K mg A D):Binds K D.abD ["self", "lots", "pieces"] []:=T.adF.binds λ_ _ _ _ _ _=>ln3 λ_ _ _=>rfl
def Hi(T:Txt K mg A D):Binds K D.abE ["self", "other"] []:=T.adG.binds λ_ _ _ _ _ _=>ln2 λ_ _=>rfl
def GR(T:Txt K mg A D):Binds K D.abF ["lots"] []:=T.adH.F.binds λ_ _ _ _ _ _=>ln1 λ_=>rfl
def HW(T:Txt K mg A D):Binds K D.abG ["self", "lots", "pieces"] []:=T.adI.binds λ_ _ _ _ _ _=>ln3 λ_ _ _=>rfl
def Tf(T:Txt K mg A D):Binds K D.abH ["way", "lots", "pieces", "named"] []:=T.adJ.F.binds λ_ _ _ _ _ _=>ln4 λ_ _ _ _=>rfl
def mX(T:Txt K mg A D):Binds K D.abI ["self", "entry"] []:=T.adK.binds λ_ _ _ _ _ _=>ln2 λ_ _=>rfl
def Ba(T:Txt K mg A D):Binds K D.abJ ["self", "entry"] []:=T.adL.binds λ_ _ _ _ _ _=>ln2 λ_ _=>rfl
def Av(T:Txt K mg A D):Binds K D.abK ["self", "entry"] []:=T.adM.binds λ_ _ _ _ _ _=>ln2 λ_ _=>rfl
def Ku(T:Txt K mg A D):Binds K D.abL ["lots", "many", "of"] []:=T.adN.F.binds λ_ _ _ _ _ _=>ln3 λ_ _ _=>rfl
def Sd(T:Txt K mg A D):Binds K D.abM ["lots", "many", "of"] []:=T.adO.F.binds λ_ _ _ _ _ _=>ln3 λ_ _ _=>rfl
def xF(T:Txt K mg A D):Binds K D.abN ["self", "entry"] []:=T.adP.binds λ_ _ _ _ _ _=>ln2 λ_ _=>rfl
def Rf(T:Txt K mg A D):Binds K D.abO ["lots", "share", "whole"] []:=T.adQ.F.binds λ_ _ _ _ _ _=>ln3 λ_ _ _=>rfl
def tQ(T:Txt K mg A D):Binds K D.abP ["self", "entry"] []:=T.adR.binds λ_ _ _ _ _ _=>ln2 λ_ _=>rfl
def tR(T:Txt K mg A D):Binds K D.abQ ["self", "entry"] []:=T.adS.binds λ_ _ _ _ _ _=>ln2 λ_ _=>rfl
def Bw(T:Txt K mg A D):Binds K D.abR ["held", "ware", "pieces"] []:=T.adT.F.binds λ_ _ _ _ _ _=>ln3 λ_ _ _=>rfl
def pQ(T:Txt K mg A D):Binds K D.abS ["held", "ware", "pieces"] []:=T.adU.F.binds λ_ _ _ _ _ _=>ln3 λ_ _ _=>rfl
def Ei(T:Txt K mg A D):Binds K D.abT ["self", "held"] []:=T.adV.binds λ_ _ _ _ _ _=>ln2 λ_ _=>rfl
def tW(T:Txt K mg A D):Binds K D.abU ["held", "ware", "pieces"] []:=T.adW.F.binds λ_ _ _ _ _ _=>ln3 λ_ _ _=>rfl
def CZ(T:Txt K mg A D):Binds K D.abV ["self", "held"] []:=T.adX.binds λ_ _ _ _ _ _=>ln2 λ_ _=>rfl
def CJ(T:Txt K mg A D):Binds K D.abW ["self", "held"] []:=T.adY.binds λ_ _ _ _ _ _=>ln2 λ_ _=>rfl
def DN(T:Txt K mg A D):Binds K D.abX ["self", "held"] []:=T.adZ.binds λ_ _ _ _ _ _=>ln2 λ_ _=>rfl
def Bg(T:Txt K mg A D):Binds K D.abY ["self", "held"] []:=T.ad0.binds λ_ _ _ _ _ _=>ln2 λ_ _=>rfl
def vZ(T:Txt K mg A D):Binds K D.abZ ["self", "held"] []:=T.ad1.binds λ_ _ _ _ _ _=>ln2 λ_ _=>rfl
def Oe(T:Txt K mg A D):Binds K D.ab0 ["self", "entry"] []:=T.ad2.binds λ_ _ _ _ _ _=>ln2 λ_ _=>rfl
def wZ(T:Txt K mg A D):Binds K D.ab1 ["book", "entries"] []:=T.ad3.F.binds λ_ _ _ _ _ _=>ln2 λ_ _=>rfl
def wQ(T:Txt K mg A D):Binds K D.ab2 ["self", "way"] []:=T.ad4.binds λ_ _ _ _ _ _=>ln2 λ_ _=>rfl
def QW(T:Txt K mg A D):Binds K D.ab3 ["way", "entries"] []:=T.ad5.F.binds λ_ _ _ _ _ _=>ln2 λ_ _=>rfl
def wB(T:Txt K mg A D):Binds K D.ab4 ["self", "way", "days"] []:=T.ad6.binds λ_ _ _ _ _ _=>ln3 λ_ _ _=>rfl
def Fz(T:Txt K mg A D):Binds K D.ab5 ["way", "days", "entries"] []:=T.ad7.F.binds λ_ _ _ _ _ _=>ln3 λ_ _ _=>rfl
def Lp(T:Txt K mg A D):Binds K D.ab6 ["_law_book"] []:=T.ad8.F.binds λ_ _ _ _ _ _=>ln1 λ_=>rfl
def Nk(T:Txt K mg A D):Binds K D.ab7 ["self"] []:=T.ad9.binds λ_ _ _ _ _ _=>ln1 λ_=>rfl
def MF(T:Txt K mg A D):Binds K D.ab8 ["self"] []:=T.aea.binds λ_ _ _ _ _ _=>ln1 λ_=>rfl
def Ko(T:Txt K mg A D):Binds K D.ab9 ["self"] []:=T.aeb.binds λ_ _ _ _ _ _=>ln1 λ_=>rfl
def Ry(T:Txt K mg A D):Binds K D.aca ["self"] []:=T.aec.binds λ_ _ _ _ _ _=>ln1 λ_=>rfl
def Nh(T:Txt K mg A D):Binds K D.acb ["word"] []:=T.aed.F.binds λ_ _ _ _ _ _=>ln1 λ_=>rfl
def uY(T:Txt K mg A D):∃ds,Binds K D.aaR ["self", "day", "number", "ware", "pieces", "price", "fee"] ds/\Vals (([V.int 0]:List V).drop 1) ds:=T.acU.binds (ps:=["self", "day", "number", "ware", "pieces", "price", "fee"]) 1 λTd kV aa pm an z ct its us h1 h2=>by
  revert us;revert h1;revert its;refine ln1 λi0 us h2=>?_;have q:us.length=7:=by simpa using h2
  clear h2;revert q;revert us;exact ln7 λ_ _ _ _ _ _ _=>⟨_,rfl,rfl⟩
def uq(T:Txt K mg A D):∃ds,Binds K D.aaP ["self", "day", "number", "ware", "pieces", "named"] ds/\Vals (([V.non]:List V).drop 1) ds:=T.acS.binds (ps:=["self", "day", "number", "ware", "pieces", "named"]) 1 λTd kV aa pm an z ct its us h1 h2=>by
  revert us;revert h1;revert its;refine ln1 λi0 us h2=>?_;have q:us.length=6:=by simpa using h2
  clear h2;revert q;revert us;exact ln6 λ_ _ _ _ _ _=>⟨_,rfl,rfl⟩
def ut(T:Txt K mg A D):∃ds,Binds K D.aaV ["self", "day", "number", "ware", "pieces", "price", "fee", "named"] ds/\Vals (([V.int 0,V.non]:List V).drop 2) ds:=T.acY.binds (ps:=["self", "day", "number", "ware", "pieces", "price", "fee", "named"]) 2 λTd kV aa pm an z ct its us h1 h2=>by
  revert us;revert h1;revert its;refine ln2 λi0 i1 us h2=>?_;have q:us.length=8:=by simpa using h2
  clear h2;revert q;revert us;exact ln8 λ_ _ _ _ _ _ _ _=>⟨_,rfl,rfl⟩
end
end My
namespace My
open PySem L2 PyProof.Rows
open PySem.W (codeIn findCls findIn fnOf hasDictIn isFn keepIn kitOne makesIn mg_none_of mg_of mroIn nsIn plainGet plainOver readsIn specialIn takesIn)
end My
namespace My
open PySem L2 PyProof.Rows
open PySem.W (codeIn findCls findIn fnOf hasDictIn isFn keepIn kitOne makesIn mg_none_of mg_of mroIn nsIn plainGet plainOver readsIn specialIn takesIn)
section
variable{P:Program}{w:World}{K:Fg_}{mg:Str->Option Value}{base:Heap}{A:Adr}{D:Fds}
def lD{t u:TS}{D:_}{σ:L2.St}{H:Hp}(h:∀v,v=u->ZG t v D σ H):ZG t u D σ H:=h u rfl
def Dd{wi:TI}{g:TG}{tb:TS}{D:_}{σ:L2.St}{H:Hp}(h:∀v,v=tb->alJ wi g v D σ H):alJ wi g tb D σ H:=h tb rfl
def ajJ{c:_}{t u:TS}{D:_}{σ:L2.St}{H:Hp}(h:∀v w,v=t->w=u->Zg c v w D σ H):Zg c t u D σ H:=h t u rfl rfl
def Kr.listN{K:Fg_}{a:Addr}{xs:List V}{g:TG}{tb:TS}{D:_}{σ:L2.St}{H:Hp}(z:Nat->L2.St->Hp->Prop)(h0:z 0 σ H)(hl:∀i σ H,i<=xs.length->z i σ H->SqL K H a xs)(hs:∀i x σ H,xs[i]? =some x->z i σ H->∀N:L2.St->Hp->Prop,(∀σ H,z (i+1) σ H->N σ H)->g x σ H λσ2 H2=>tb {D with nx:=N,ct:=N,bk:=D.nx} σ2 H2)(hd:∀σ H,z xs.length σ H->D.nx σ H):Kr (Itl K a) g tb D σ H:=
 pG z h0 hl (λi x σ H h p=>hs i x σ H h p _ λ_ _ q=>q) hd
def aaj{x:Int}{m k:Nat}(q:x.natAbs<2^m)(h:m<=k):x.natAbs<2^k:=zH q (yr (by decide) h)
noncomputable def Vl:Int->List Int->List Int
 |_,[]=>[]
 |c,b::r=>c%b::Vl (c/b) r
noncomputable def akg:Int->List Int->Int
 |c,[]=>c
 |c,b::r=>akg (c/b) r
theorem Qd:∀(c:Int)(l:List Int)(b:Int),Vl c (l++[b])=Vl c l++[akg c l%b]
 |_,[],_=>rfl
 |c,x::r,b=>by show c%x::Vl (c/x) (r++[b])=_;rw[Qd];rfl
theorem Pq:∀(c:Int)(l:List Int)(b:Int),akg c (l++[b])=akg c l/b
 |_,[],_=>rfl
 |c,x::r,b=>by show akg (c/x) (r++[b])=_;rw[Pq];rfl
theorem Bo:∀(c:Int)(l:List Int),(Vl c l).length=l.length
 |_,[]=>rfl
 |c,x::r=>by show(Vl (c/x) r).length+1=_;rw[Bo];rfl
def uT{ns:List Int}{i:Nat}{y:V}(h:(ns.map V.int)[i]? =some y):∃z,y=V.int z/\ns[i]? =some z:=by
 rw[zm]at h
 cases e:ns[i]? with
 |none=>rw[e]at h;cases h
 |some z=>rw[e]at h;exact⟨z,(zy h).symm,rfl⟩
def tyL{K:Fg_}{H:Hp}{p:Addr}{xs:List V}(h:SqL K H p xs):tyV K "list" (.ref p) H:=.inl ⟨rfl,_,h⟩
inductive xM(K:Fg_)(vs:List V)(H:Hp)(Q:VK)(E:XK):Prop
 |mk (a:Addr) (ns:List Int) (k:Nat) (_:vs=[.ref a,.int k]) (_:SqL K H a (ns.map V.int)) (_:Q (.int (ns.getD k 0)) H):xM K vs H Q E
def lH(T:Txt K mg A D):jQ P w K mg base CX0 1 A.aaB D.aaB ["_law_script", "_law_k"] (xM K):=by
 refine T.acE.F.okv HJ λ_ _ _ _ H vs Q E hr h=>?_
 ·obtain⟨a,ns,q,rfl,z,k⟩:=h
  refine ⟨_,(iH (kE (je (Ik) (pvD 1) (jl (mV (K:=K)) (by rfl) T.aef (by decide+kernel) (pav 0 iI)) (ji _)) (iJ (jb (jC (mz (K:=K)) (pvD 0) (pvD 1) (λ_ _=>rfl)))) jn)
   (iJ (jb iM))),?_⟩
  walk_at "a";refine⟨_,.inl z,?_⟩;rw[za];by_cases h:q<ns.length
  ·rw[zl (by omega)]
   refine⟨_,z,_,Hq (j:=q) (v:=.int (ns.getD q 0)) ?_,k⟩;rw[zm,zr h,zz3,zr h];rfl
  ·rw[ze (by omega)]
   rw[zz3,zY (by omega)]at k;exact k
def Vh(xs:List V)(n:Nat):NZ xs (some (n:Int)) none=xs.drop n:=by
 unfold NZ;rw[HT.sIx_none,HT.sIx_nat];rcases Nat.le_total n xs.length with h|h
 ·rw[Nat.min_eq_left h,z3 (by rw[yB];exact zo _)]
 ·rw[Nat.min_eq_right h,zzy (zo _),zzy h,List.take_nil]
def ajo{l:Addr}{k:Int}{H:Hp}{Q:VK}:alM (.ref l) (.int k) H Q=∃xs,H l=some (.lst xs)/\ -(2^63)<=k/\k<2^63/\xs.length*k.toNat<=sizeLine/\∀p,H p=none->Q (.ref p) (upd H p (.lst (List.replicate k.toNat xs).flatten)):=by simp[alM]
noncomputable def Nm(z:Str):Prop:=1<=z.length/\z.length<=8/\∀c∈z.cps.toList,97<=c/\c<=122
inductive rM(vs:List V)(H:Hp)(Q:VK)(E:XK):Prop
 |mk (i:Int) (_:vs=[.int i]) (_:Q (.bl true) H):rM vs H Q E
def CP(T:Txt K mg A D):jQ P w K mg base CX0 1 A.aaI D.aaI ["value"] rM:=by
 refine T.acL.F.okv Dy λ_ _ _ _ H vs Q E q h=>?_
 ·obtain⟨i,rfl,k⟩:=h
  refine⟨_,(iJ (jb (Ul (jl (Dp (K:=K)) (by rfl) T.aem (by decide+kernel) (pav 0 (iG (aan "int" (by rfl) T.aeg (by decide+kernel)) iI))) (WD (akE (jl (Dp (K:=K)) (by rfl) T.aem (by decide+kernel) (pav 0 (iG (aan "bool" (by rfl) T.aen (by decide+kernel)) iI)))))))),?_⟩;walk_at "a";refine⟨_,.int i,true,by with_unfolding_all rfl,?_⟩;walk_at "a";refine⟨_,.int i,false,by with_unfolding_all rfl,?_⟩;walk_at "a";exact k
inductive wX(vs:List V)(H:Hp)(Q:VK)(E:XK):Prop
 |mk (z:Str) (i lo hi:Int) (_:vs=[.str z,.int i,.int lo,.int hi]) (_:lo<=i) (_:i<=hi) (_:Q .non H):wX vs H Q E
def jz(T:Txt K mg A D):jQ P w K mg base CX0 2 A.aaJ D.aaJ ["what", "value", "least", "most"] wX:=by
 refine T.acM.F.okv JG λ_ _ _ _ H vs Q E q h=>?_
 ·obtain⟨z,i,lo,hi,rfl,h1,h2,k⟩:=h
  refine⟨_,(iJ (kE (PW.pt (JQ (Uo (qw (pcg (CP T) q T.acL (Eg T) (pav 1 iI)))) (JQ (je (Ik) (pvD 1) (pvD 2) (ji _)) (Cr (je (Gf) (pvD 1) (pvD 3) (ji _)))))) (iJ (lO)) jn)),?_⟩;walk_at "a";refine⟨i,rfl,?_⟩;walk_at "a";rw[ze (by omega),ze (by omega)];exact k
inductive Lx(vs:List V)(H:Hp)(Q:VK)(E:XK):Prop
 |mk (z:Str) (_:vs=[.str z]) (_:Nm z) (_:∀H',Same H H'->Q (.bl true) H'):Lx vs H Q E
def Wh(T:Txt K mg A D):jQ P w K mg base CX0 1 A.aaK D.aaK ["value"] Lx:=by
 refine T.acN.F.okv Vr λ_ _ _ _ H vs Q E hr h=>?_
 ·obtain⟨z,rfl,⟨n1,n2,n3⟩,k⟩:=h
  refine ⟨_,(iH (kE (PW.pt (JQ (Uo (qw (jl (Dp (K:=K)) (by rfl) T.aem (by decide+kernel) (pav 0 (iG (aan "str" (by rfl) T.aep (by decide+kernel)) iI))))) (JQ (je (Ik) (jl Fl (by rfl) T.aef (by decide+kernel) (pav 0 iI)) iM (ji _)) (Cr (je (Gf) (jl Fl (by rfl) T.aef (by decide+kernel) (pav 0 iI)) (lQ (v:=V.int 8) (by rfl) T.aeL ⟨_,rfl⟩) (ji _)))))) (iJ (jb aiU)) jn)
   (iJ (jb (jl (Zf (K:=K) rfl) (by rfl) T.aeo (by decide+kernel) (iG (jW (cap:=[none]) (N':=["sign"]) rfl (by walk_at "c") (alE (pvD 0)) (λ_ _ _ _=>(iW (i:=0) nd1 rfl orl orr)) (λ_ _ _ _=>jO) (λ_ _ _ _=>(aag (Oh) (Oh) jj (pvD 0) jj))) iI))))),?_⟩
  walk_at "a";refine⟨_,.str z,true,by with_unfolding_all rfl,?_⟩;walk_at "a";have hz:z.length<=sizeLine:=by rw[zn];omega
  iterate 2 (refine⟨hz,?_⟩;rw[ze (by omega)])
  refine kI.str (λσ=>∃v,σ=[v]) (λ_=>true) (λ_=> .bl true) ⟨none,rfl⟩ hz ?_ ?_
  ·rintro x hx σ H5 R1 R2 ⟨v,rfl⟩ q k1 k2
   obtain⟨c,hc,rfl⟩:=zb.mp hx;obtain⟨c1,c2⟩:=n3 c hc;walk_at "a";have ea:(Str.ofString "a").cps.toList=[97]:=by decide+kernel
   have ez:(Str.ofString "z").cps.toList=[122]:=by decide+kernel
   rw[ea,ez]
   have h1:¬[c]<[97]:=λh=>by
    rcases List.cons_lt_cons_iff.mp h with h|h
    ·omega
    ·exact absurd h.2 (List.not_lt_nil _)
   have h2:¬[122]<[c]:=λh=>by
    rcases List.cons_lt_cons_iff.mp h with h|h
    ·omega
    ·exact absurd h.2 (List.not_lt_nil _)
   rw[zl h1,zQ h2];exact k1 rfl _ _ ⟨_,rfl⟩ (same_refl _)
  ·intro Da H' hD q e
   rw[JX]at e;walk_at "a";refine⟨(L2.signs z).map λ_=>true,iT (by rw[e,zq];rfl),?_⟩;have:((L2.signs z).map λ_=>true).all id=true:=by simp
   rw[this];exact k H' q
inductive CT(vs:List V)(H:Hp)(Q:VK)(E:XK):Prop
 |mk (t z:Str) (_:vs=[.str t,.str z]) (_:Nm z) (_:∀H',Same H H'->Q .non H'):CT vs H Q E
def Dw(T:Txt K mg A D):jQ P w K mg base CX0 2 A.aaL D.aaL ["what", "value"] CT:=by
 refine T.acO.F.okv Ms λ_ _ _ _ H vs Q E hr h=>?_
 ·obtain⟨t,z,rfl,hn,k⟩:=h
  refine⟨_,(iJ (kE (Uo (qw (pcg (Wh T) hr T.acN (Yc T) (pav 1 iI)))) (iJ (lO)) jn)),?_⟩;walk_at "a";refine⟨z,rfl,hn,λH' q=>?_⟩;walk_at "a";exact k H' q
inductive Az(vs:List V)(H:Hp)(Q:VK)(E:XK):Prop
 |mk (p r f:Int) (_:vs=[.int p,.int r,.int f]) (_:(1<=p/\p<=1000000000)) (_:(0<=r/\r<=1000000000)) (_:(0<=f/\f<=1000000000)) (_:Q .non H):Az vs H Q E
def Al(T:Txt K mg A D):jQ P w K mg base CX0 3 A.aaQ D.aaQ ["pieces", "price", "fee"] Az:=by
 refine T.acT.F.ok Kh (by walk_at "v") (λ_ _ _ s H vs Q E q h=>?_)
 ·obtain⟨p,r,f,rfl,h1,h2,z,k⟩:=h
  refine ⟨_,(iH (jh (pcg (jz T) q T.acM (jA T) (iG jj (pav 0 (iG iM (iG (lQ (v:=V.int 1000000000) (by rfl) T.aeO ⟨_,rfl⟩) iI))))))
   (iH (jh (pcg (jz T) q T.acM (jA T) (iG jj (pav 1 (iG iM (iG (lQ (v:=V.int 1000000000) (by rfl) T.aeP ⟨_,rfl⟩) iI))))))
   (iJ (jh (pcg (jz T) q T.acM (jA T) (iG jj (pav 2 (iG iM (iG (lQ (v:=V.int 1000000000) (by rfl) T.aeQ ⟨_,rfl⟩) iI))))))))),?_⟩
  walk_at "a";refine⟨_,_,_,_,rfl,h1.1,h1.2,?_⟩;walk_at "a";refine⟨_,_,_,_,rfl,h2.1,h2.2,?_⟩;walk_at "a";refine⟨_,_,_,_,rfl,z.1,z.2,?_⟩;exact k
def lR{f:Str}{v:V}{fs:List (Str×V)}(ns:List Str)(e:fs.map (·.1)=ns:=by rfl)(h:ns.contains f=false:=by decide+kernel):Ef f v fs=fs++[(f,v)]:=xZ f v (e▸h)
noncomputable def fsE(d n:Int)(w:Str):List (Str×V):=[("day",.int d),("number",.int n),("ware",.str w)]
structure Base(d n:Int)(w:Str):Prop where
 d0:0<=d
 d1:d<=1000000
 n0:0<=n
 n1:n<=1000000
 w:Nm w
structure CE(K:Fg_)(C:Addr):Prop where
 c:Cls K C
 d:jd K C "day"
 n:jd K C "number"
 w:jd K C "ware"
structure New(B H:Hp)(x:Addr)(C dx:Addr)(fs:List (Str×V)):Prop where
 s:Same B H
 n:B x=none
 h:H x=some (.ins C dx fs)
def New.put{B H:Hp}{x C dx:Addr}{fs gs:List (Str×V)}(h:New B H x C dx fs)(e:gs=gs):New B (upd H x (.ins C dx gs)) x C dx gs:=⟨h.s.upd h.n,h.n,iK⟩
def New.same{B H H':Hp}{x C dx:Addr}{fs:List (Str×V)}(h:New B H x C dx fs)(e:Same H H'):New B H' x C dx fs:=⟨h.s.trans e,h.n,e _ _ h.h⟩
inductive ul(K:Fg_)(vs:List V)(H:Hp)(Q:VK)(E:XK):Prop
 |mk (x:Addr) (d n:Int) (w:Str) (B:Hp) (C dx:Addr) (_:vs=[.ref x,.int d,.int n,.str w]) (_:New B H x C dx []) (_:CE K C) (_:Base d n w) (_:∀H',New B H' x C dx (fsE d n w)->Q .non H'):ul K vs H Q E
def lg(T:Txt K mg A D):jQ P w K mg base CX0 3 A.aaM D.aaM ["self", "day", "number", "ware"] (ul K):=by
 refine T.acP.okv DR λ_ _ _ _ H vs Q E hr h=>?_
 ·obtain⟨x,d,n,w,B,C,dx,rfl,q,z,hB,k⟩:=h
  refine ⟨_,(iH (jh (pcg (jz T) hr T.acM (jA T) (iG jj (pav 1 (iG iM (iG (lQ (v:=V.int 1000000) (by rfl) T.aeM ⟨_,rfl⟩) iI))))))
   (iH (jh (pcg (jz T) hr T.acM (jA T) (iG jj (pav 2 (iG iM (iG (lQ (v:=V.int 1000000) (by rfl) T.aeN ⟨_,rfl⟩) iI))))))
   (iH (jh (pcg (Dw T) hr T.acO (Fd T) (iG jj (pav 3 iI))))
   (iH (jo (K:=K) (pv 0) (pvD 1) rfl)
   (iH (jo (K:=K) (pv 0) (pvD 2) rfl)
   (iJ (jo (K:=K) (pv 0) (pvD 3) rfl))))))),?_⟩
  walk_at "a";refine⟨_,_,_,_,rfl,hB.d0,hB.d1,?_⟩;walk_at "a";refine⟨_,_,_,_,rfl,hB.n0,hB.n1,?_⟩;walk_at "a";refine⟨_,_,rfl,hB.w,λH' sm=>?_⟩;walk_at "a";have q:=q.same sm;refine sw q.h z.c z.d (by decide) (?_);rw[xZ _ _ (by decide+kernel)];have q:=q.put (gs:=[]++[(Str.ofString "day",V.int d)]) rfl;refine sw q.h z.c z.n (by simp) (?_);rw[lR (f:=Str.ofString "number") ["day"]];have q:=q.put (gs:=([]++[(Str.ofString "day",V.int d)])++[(Str.ofString "number",V.int n)]) rfl;refine sw q.h z.c z.w (by simp) (?_);rw[lR (f:=Str.ofString "ware") ["day", "number"]];exact k _ (q.put rfl)
abbrev Rs:=List (Addr×Int×Int)
noncomputable def refs(rs:Rs):List V:=rs.map λr=>V.ref r.1
noncomputable def aid(H:Hp)(rs:Rs):Prop:=∀r∈rs,H r.1=some (.tup [.int r.2.1,.int r.2.2])
def aid.same{H H':Hp}{rs:Rs}(h:aid H rs)(s:Same H H'):aid H' rs:=λr q=>s _ _ (h r q)
structure alS(rs:Rs)(p:Int):Prop where
 l:rs.length<=5
 b:∀r∈rs,0<=r.2.1/\r.2.1<=1000000/\1<=r.2.2/\r.2.2<=p
 u:(rs.map (·.2.1)).Nodup
 s:(rs.map (·.2.2)).sum=p
noncomputable def NL(H:Hp)(v:V):Option Rs->Prop
 |none=>v=.non
 |some rs=>∃l,v=.ref l/\H l=some (.lst (refs rs))/\aid H rs
noncomputable def alw(p:Int):Option Rs->Prop
 |none=>True
 |some rs=>alS rs p
theorem NL.same{H H':Hp}{v:V}{o:Option Rs}(h:NL H v o)(s:Same H H'):NL H' v o:=by
 cases o with
 |none=>exact h
 |some rs=>obtain⟨l,e,h1,h2⟩:=h;exact⟨l,e,s _ _ h1,h2.same s⟩
inductive Bc(vs:List V)(H:Hp)(Q:VK)(E:XK):Prop
 |mk (p:Int) (_:vs=[.non,.int p]) (_:Q .non H):Bc vs H Q E
def Ar(T:Txt K mg A D):jQ P w K mg base CX0 1 A.aaN D.aaN ["named", "pieces"] Bc:=by
 refine T.acQ.F.okv KQ λ_ _ _ _ H vs Q E q h=>?_
 ·obtain⟨p,rfl,k⟩:=h
  refine ⟨_,(iH (kE (je (Fi) (pvD 0) mF (ji _)) (iJ (ajX)) jn)
   (iH (lO)
   (iH (lO)
   (iH (lO)
   (iJ (lO)))))),?_⟩
  simp only[start_eq];walk_at "a";exact k
inductive DG(vs:List V)(H:Hp)(Q:VK)(E:XK):Prop
 |mk (_:vs=[.non]) (_:Q .non H):DG vs H Q E
def Dh(T:Txt K mg A D):jQ P w K mg base CX0 1 A.aaO D.aaO ["named"] DG:=by
 refine T.acR.F.okv Nb λ_ _ _ _ H vs Q E q h=>?_
 ·obtain⟨rfl,k⟩:=h
  refine⟨_,(iJ (jb (xY (je (Fi) (pvD 0) mF (ji _)) mF (jJ (tY (K:=K)) (by rfl) T.aeq (by decide+kernel) (pav 0 iI))))),?_⟩;simp only[start_eq];walk_at "a";exact k
noncomputable def NT(H:Hp)(v:V):Option Rs->Prop
 |none=>v=.non
 |some rs=>∃l,v=.ref l/\H l=some (.tup (refs rs))/\aid H rs
local macro_rules | `(tactic| walk_at "n") => `(tactic| ((try dsimp only); refine lD fun u hu => ?_; rw [ap_seq]; walk_at "i"; subst hu))
inductive Ent where
 |buy (d n:Int) (w:Str) (p r f:Int)
 |sell (d n:Int) (w:Str) (p r f:Int) (o:Option Rs)
 |gift (d n:Int) (w:Str) (p c s:Int)
 |give (d n:Int) (w:Str) (p:Int) (o:Option Rs)
 |split (d n:Int) (w:Str) (m f:Int)
 |part (d n:Int) (w u:Str) (s t:Int)
noncomputable def Rg(lo hi x:Int):Prop:=lo<=x/\x<=hi
noncomputable def Ent.good:Ent->Prop
 |.buy d n w p r f=>Base d n w/\Rg 1 1000000000 p/\Rg 0 1000000000 r/\Rg 0 1000000000 f
 |.sell d n w p r f o=>Base d n w/\Rg 1 1000000000 p/\Rg 0 1000000000 r/\Rg 0 1000000000 f/\alw p o
 |.gift d n w p c s=>Base d n w/\Rg 1 1000000000 p/\Rg 0 1000000000000000000 c/\Rg 0 d s
 |.give d n w p o=>Base d n w/\Rg 1 1000000000 p/\alw p o
 |.split d n w m f=>Base d n w/\Rg 1 1000 m/\Rg 1 1000 f
 |.part d n w u s t=>Base d n w/\Nm u/\u≠w/\Rg 1 1000000 t/\Rg 0 t s
noncomputable def Ent.fs(nv:V):Ent->List (Str×V)
 |.buy d n w p r f=>[("day",.int d),("number",.int n),("ware",.str w),("pieces",.int p),("price",.int r),("fee",.int f),("cost",.int (p*r+f))]
 |.sell d n w p r f _=>[("day",.int d),("number",.int n),("ware",.str w),("pieces",.int p),("price",.int r),("fee",.int f),("named",nv),("proceeds",.int (p*r - f))]
 |.gift d n w p c s=>[("day",.int d),("number",.int n),("ware",.str w),("pieces",.int p),("cost",.int c),("since",.int s)]
 |.give d n w p _=>[("day",.int d),("number",.int n),("ware",.str w),("pieces",.int p),("named",nv)]
 |.split d n w m f=>[("day",.int d),("number",.int n),("ware",.str w),("many",.int m),("of",.int f)]
 |.part d n w u s t=>[("day",.int d),("number",.int n),("ware",.str w),("other",.str u),("share",.int s),("whole",.int t)]
noncomputable def Ent.word:Ent->Str
 |.buy ..=> "buy"
 |.sell ..=> "sell"
 |.gift ..=> "gift"
 |.give ..=> "give"
 |.split ..=> "split"
 |.part ..=> "part"
noncomputable def Ent.args(nv:V):Ent->List V
 |.buy d n w p r f=>[.int d,.int n,.str w,.int p,.int r,.int f]
 |.sell d n w p r f _=>[.int d,.int n,.str w,.int p,.int r,.int f,nv]
 |.gift d n w p c s=>[.int d,.int n,.str w,.int p,.int c,.int s]
 |.give d n w p _=>[.int d,.int n,.str w,.int p,nv]
 |.split d n w m f=>[.int d,.int n,.str w,.int m,.int f]
 |.part d n w u s t=>[.int d,.int n,.str w,.str u,.int s,.int t]
noncomputable def Ent.lots:Ent->Option Rs
 |.sell _ _ _ _ _ _ o=>o
 |.give _ _ _ _ o=>o
 |_=>none
noncomputable def Ent.cls(A:Adr):Ent->Addr
 |.buy ..=>A.acf
 |.sell ..=>A.acj
 |.gift ..=>A.acg
 |.give ..=>A.ace
 |.split ..=>A.ach
 |.part ..=>A.aci
noncomputable def Made(A:Adr)(B H:Hp)(x:Addr)(e:Ent):Prop:=∃dx nv,New B H x (e.cls A) dx (e.fs nv)/\NL H nv e.lots/\∀q,nv=.ref q->B q=none
noncomputable def IsE(A:Adr)(H:Hp)(x:Addr)(e:Ent):Prop:=∃dx nv,H x=some (.ins (e.cls A) dx (e.fs nv))/\NL H nv e.lots
theorem IsE.same{A:Adr}{H H':Hp}{x:Addr}{e:Ent}(s:Same H H'):IsE A H x e->IsE A H' x e:=fun⟨dx,q,h,n⟩=>⟨dx,q,s _ _ h,n.same s⟩
def MT{B H:Hp}{x C dx:Addr}{gs:List (Str×V)}{f:Str}{v:V}{R:Hp->Prop}(ks:List Str)(q:New B H x C dx gs)(c:Cls K C)(n:jd K C f)(e:gs.map (·.1)=ks)(h:ks.contains f=false)(z:ks.length<1000)(k:∀H',New B H' x C dx (gs++[(f,v)])->R H'):∃C dx fs,H x=some (.ins C dx fs)/\Cls K C/\jd K C f/\fs.length<1000/\R (upd H x (.ins C dx (Ef f v fs))):=by
 refine⟨C,dx,gs,q.h,c,n,by rw[<-e,za]at z;exact z,?_⟩;rw[lR ks e h];exact k _ (q.put rfl)
def ahV{p r:Int}(h1:Rg 1 1000000000 p)(h2:Rg 0 1000000000 r):Bu p r:=Bu.big (yp (show p.natAbs<=1000000000 from by unfold Rg at h1;omega) (by decide)) (yp (show r.natAbs<=1000000000 from by unfold Rg at h2;omega) (by decide))
noncomputable def Be:Ent->Bool:=λe=>match e with|.buy ..=>true|_=>false
def aiF(T:Txt K mg A D):CE K A.acf:=⟨T.ae1,T.ae3,T.ae4,T.ae5⟩
noncomputable def rO:Ent->Bool:=λe=>match e with|.sell ..=>true|_=>false
def Xn(T:Txt K mg A D):CE K A.acj:=⟨T.afx,T.afz,T.afA,T.afB⟩
noncomputable def tL:Ent->Bool:=λe=>match e with|.gift ..=>true|_=>false
def Zt(T:Txt K mg A D):CE K A.acg:=⟨T.afa,T.afc,T.afd,T.afe⟩
noncomputable def rN:Ent->Bool:=λe=>match e with|.give ..=>true|_=>false
def WM(T:Txt K mg A D):CE K A.ace:=⟨T.aeU,T.aeW,T.aeX,T.aeY⟩
noncomputable def oZ:Ent->Bool:=λe=>match e with|.split ..=>true|_=>false
def UW(T:Txt K mg A D):CE K A.ach:=⟨T.afi,T.afk,T.afl,T.afm⟩
noncomputable def sX:Ent->Bool:=λe=>match e with|.part ..=>true|_=>false
def LK(T:Txt K mg A D):CE K A.aci:=⟨T.afp,T.afr,T.afs,T.aft⟩
inductive WT(A:Adr)(vs:List V)(H:Hp)(Q:VK)(E:XK):Prop
 |mk (x:Addr) (d n p r f:Int) (w:Str) (B:Hp) (dx:Addr) (_:vs=[.ref x,.int d,.int n,.str w,.int p,.int r,.int f]) (_:New B H x A.acf dx []) (_:(Ent.good (.buy d n w p r f))) (_:∀H',Made A B H' x (.buy d n w p r f)->Q .non H'):WT A vs H Q E
def JL(T:Txt K mg A D):jQ P w K mg base CX0 4 A.aaR D.aaR ["self", "day", "number", "ware", "pieces", "price", "fee"] (WT A):=by
 refine T.acU.okv JH λ_ _ _ _ H vs Q E hr h=>?_
 ·obtain⟨x,d,n,p,r,f,w,B,dx,rfl,z,hg,k⟩:=h
  refine ⟨_,(iH (jh (oH T.ahl (lg (K:=K) T) (hr.mono (by decide)) (by rfl) T.aew T.acP.kp (lB T) .nil jB (pav 0 (pav 1 (pav 2 (pav 3 iI))))))
   (iH (jh (pcg (Al T) hr T.acT (CN T) (pav 4 (pav 5 (pav 6 iI)))))
   (iH (jo (K:=K) (pv 0) (pvD 4) rfl)
   (iH (jo (K:=K) (pv 0) (pvD 5) rfl)
   (iH (jo (K:=K) (pv 0) (pvD 6) rfl)
   (iJ (jo (K:=K) (pv 0) (jc kh (jc mQ (pvD 4) (pvD 5)) (pvD 6)) rfl))))))),?_⟩
  simp only[start_eq];walk_at "n";refine⟨x,d,n,w,B,_,dx,rfl,z,aiF T,hg.1,λH1 z=>?_⟩;walk_at "n";refine⟨_,_,_,rfl,hg.2.1,hg.2.2.1,hg.2.2.2,?_⟩;walk_at "n";refine MT ["day", "number", "ware"] z T.ae1 T.ae6 rfl (by decide+kernel) (by decide) λH2 z=>?_;walk_at "n";refine MT ["day", "number", "ware", "pieces"] z T.ae1 T.ae7 rfl (by decide+kernel) (by decide) λH2 z=>?_;walk_at "n";refine MT ["day", "number", "ware", "pieces", "price"] z T.ae1 T.ae8 rfl (by decide+kernel) (by decide) λH2 z=>?_;walk_at "a";exact⟨ahV hg.2.1 hg.2.2.1,MT ["day", "number", "ware", "pieces", "price", "fee"] z T.ae1 T.ae9 rfl (by decide+kernel) (by decide) λH2 z=>k H2 ⟨dx,.non,z,rfl,λq e=>by cases e⟩⟩
inductive Uw(A:Adr)(vs:List V)(H:Hp)(Q:VK)(E:XK):Prop
 |mk (x:Addr) (d n p r f:Int) (w:Str) (B:Hp) (dx:Addr) (_:vs=[.ref x,.int d,.int n,.str w,.int p,.int r,.int f,.non]) (_:New B H x A.acj dx []) (_:(Ent.good (.sell d n w p r f none))) (_:∀H',Made A B H' x (.sell d n w p r f none)->Q .non H'):Uw A vs H Q E
def FJ(T:Txt K mg A D):jQ P w K mg base CX0 4 A.aaV D.aaV ["self", "day", "number", "ware", "pieces", "price", "fee", "named"] (Uw A):=by
 refine T.acY.okv Gu λ_ _ _ _ H vs Q E hr h=>?_
 ·obtain⟨x,d,n,p,r,f,w,B,dx,rfl,z,hg,k⟩:=h
  refine ⟨_,(iH (jh (oH T.ahl (lg (K:=K) T) (hr.mono (by decide)) (by rfl) T.aew T.acP.kp (lB T) .nil jB (pav 0 (pav 1 (pav 2 (pav 3 iI))))))
   (iH (jh (pcg (Al T) hr T.acT (CN T) (pav 4 (pav 5 (pav 6 iI)))))
   (iH (jh (pcg (Ar T) hr T.acQ (Dq T) (pav 7 (pav 4 iI))))
   (iH (jo (K:=K) (pv 0) (pvD 4) rfl)
   (iH (jo (K:=K) (pv 0) (pvD 5) rfl)
   (iH (jo (K:=K) (pv 0) (pvD 6) rfl)
   (iH (jo (K:=K) (pv 0) (pcg (Dh T) hr T.acR (Fq T) (pav 7 iI)) rfl)
   (iJ (jo (K:=K) (pv 0) (jc uf (jc mQ (pvD 4) (pvD 5)) (pvD 6)) rfl))))))))),?_⟩
  simp only[start_eq];walk_at "n";refine⟨x,d,n,w,B,_,dx,rfl,z,Xn T,hg.1,λH1 z=>?_⟩;walk_at "n";refine⟨_,_,_,rfl,hg.2.1,hg.2.2.1,hg.2.2.2.1,?_⟩;walk_at "n";refine⟨_,rfl,?_⟩;walk_at "n";refine MT ["day", "number", "ware"] z T.afx T.afC rfl (by decide+kernel) (by decide) λH2 z=>?_;walk_at "n";refine MT ["day", "number", "ware", "pieces"] z T.afx T.afD rfl (by decide+kernel) (by decide) λH2 z=>?_;walk_at "n";refine MT ["day", "number", "ware", "pieces", "price"] z T.afx T.afE rfl (by decide+kernel) (by decide) λH2 z=>?_;walk_at "n";refine⟨rfl,MT ["day", "number", "ware", "pieces", "price", "fee"] z T.afx T.afF rfl (by decide+kernel) (by decide) λH2 z=>?_⟩;walk_at "a";exact⟨ahV hg.2.1 hg.2.2.1,MT ["day", "number", "ware", "pieces", "price", "fee", "named"] z T.afx T.afG rfl (by decide+kernel) (by decide) λH2 z=>k H2 ⟨dx,.non,z,rfl,λq e=>by cases e⟩⟩
inductive UL(A:Adr)(vs:List V)(H:Hp)(Q:VK)(E:XK):Prop
 |mk (x:Addr) (d n p c s:Int) (w:Str) (B:Hp) (dx:Addr) (_:vs=[.ref x,.int d,.int n,.str w,.int p,.int c,.int s]) (_:New B H x A.acg dx []) (_:(Ent.good (.gift d n w p c s))) (_:∀H',Made A B H' x (.gift d n w p c s)->Q .non H'):UL A vs H Q E
def Gs(T:Txt K mg A D):jQ P w K mg base CX0 4 A.aaS D.aaS ["self", "day", "number", "ware", "pieces", "cost", "since"] (UL A):=by
 refine T.acV.okv Gx λ_ _ _ _ H vs Q E hr h=>?_
 ·obtain⟨x,d,n,p,c,s,w,B,dx,rfl,z,hg,k⟩:=h
  refine ⟨_,(iH (jh (oH T.ahl (lg (K:=K) T) (hr.mono (by decide)) (by rfl) T.aew T.acP.kp (lB T) .nil jB (pav 0 (pav 1 (pav 2 (pav 3 iI))))))
   (iH (jh (pcg (jz T) hr T.acM (jA T) (iG jj (pav 4 (iG iM (iG (lQ (v:=V.int 1000000000) (by rfl) T.aeO ⟨_,rfl⟩) iI))))))
   (iH (jh (pcg (jz T) hr T.acM (jA T) (iG jj (pav 5 (iG iM (iG (lQ (v:=V.int 1000000000000000000) (by rfl) T.aeR ⟨_,rfl⟩) iI))))))
   (iH (jh (pcg (jz T) hr T.acM (jA T) (iG jj (pav 6 (iG iM (pav 1 iI))))))
   (iH (jo (K:=K) (pv 0) (pvD 4) rfl)
   (iH (jo (K:=K) (pv 0) (pvD 5) rfl)
   (iJ (jo (K:=K) (pv 0) (pvD 6) rfl)))))))),?_⟩
  simp only[start_eq];walk_at "n";refine⟨x,d,n,w,B,_,dx,rfl,z,Zt T,hg.1,λH1 z=>?_⟩;walk_at "n";refine⟨_,_,_,_,rfl,hg.2.1.1,hg.2.1.2,?_⟩;walk_at "n";refine⟨_,_,_,_,rfl,hg.2.2.1.1,hg.2.2.1.2,?_⟩;walk_at "n";refine⟨_,_,_,_,rfl,hg.2.2.2.1,hg.2.2.2.2,?_⟩;walk_at "n";refine MT ["day", "number", "ware"] z T.afa T.aff rfl (by decide+kernel) (by decide) λH2 z=>?_;walk_at "n";refine MT ["day", "number", "ware", "pieces"] z T.afa T.afg rfl (by decide+kernel) (by decide) λH2 z=>?_;walk_at "a";exact MT ["day", "number", "ware", "pieces", "cost"] z T.afa T.afh rfl (by decide+kernel) (by decide) λH2 z=>k H2 ⟨dx,.non,z,rfl,λq e=>by cases e⟩
inductive Uz(A:Adr)(vs:List V)(H:Hp)(Q:VK)(E:XK):Prop
 |mk (x:Addr) (d n p:Int) (w:Str) (B:Hp) (dx:Addr) (_:vs=[.ref x,.int d,.int n,.str w,.int p,.non]) (_:New B H x A.ace dx []) (_:(Ent.good (.give d n w p none))) (_:∀H',Made A B H' x (.give d n w p none)->Q .non H'):Uz A vs H Q E
def Gv(T:Txt K mg A D):jQ P w K mg base CX0 4 A.aaP D.aaP ["self", "day", "number", "ware", "pieces", "named"] (Uz A):=by
 refine T.acS.okv Ga λ_ _ _ _ H vs Q E hr h=>?_
 ·obtain⟨x,d,n,p,w,B,dx,rfl,z,hg,k⟩:=h
  refine ⟨_,(iH (jh (oH T.ahl (lg (K:=K) T) (hr.mono (by decide)) (by rfl) T.aew T.acP.kp (lB T) .nil jB (pav 0 (pav 1 (pav 2 (pav 3 iI))))))
   (iH (jh (pcg (jz T) hr T.acM (jA T) (iG jj (pav 4 (iG iM (iG (lQ (v:=V.int 1000000000) (by rfl) T.aeO ⟨_,rfl⟩) iI))))))
   (iH (jh (pcg (Ar T) hr T.acQ (Dq T) (pav 5 (pav 4 iI))))
   (iH (jo (K:=K) (pv 0) (pvD 4) rfl)
   (iJ (jo (K:=K) (pv 0) (pcg (Dh T) hr T.acR (Fq T) (pav 5 iI)) rfl)))))),?_⟩
  simp only[start_eq];walk_at "n";refine⟨x,d,n,w,B,_,dx,rfl,z,WM T,hg.1,λH1 z=>?_⟩;walk_at "n";refine⟨_,_,_,_,rfl,hg.2.1.1,hg.2.1.2,?_⟩;walk_at "n";refine⟨_,rfl,?_⟩;walk_at "n";refine MT ["day", "number", "ware"] z T.aeU T.aeZ rfl (by decide+kernel) (by decide) λH2 z=>?_;walk_at "a";exact⟨rfl,MT ["day", "number", "ware", "pieces"] z T.aeU T.ae0 rfl (by decide+kernel) (by decide) λH2 z=>k H2 ⟨dx,.non,z,rfl,λq e=>by cases e⟩⟩
inductive Qu(A:Adr)(vs:List V)(H:Hp)(Q:VK)(E:XK):Prop
 |mk (x:Addr) (d n m f:Int) (w:Str) (B:Hp) (dx:Addr) (_:vs=[.ref x,.int d,.int n,.str w,.int m,.int f]) (_:New B H x A.ach dx []) (_:(Ent.good (.split d n w m f))) (_:∀H',Made A B H' x (.split d n w m f)->Q .non H'):Qu A vs H Q E
def Ek(T:Txt K mg A D):jQ P w K mg base CX0 4 A.aaT D.aaT ["self", "day", "number", "ware", "many", "of"] (Qu A):=by
 refine T.acW.okv Et λ_ _ _ _ H vs Q E hr h=>?_
 ·obtain⟨x,d,n,m,f,w,B,dx,rfl,z,hg,k⟩:=h
  refine ⟨_,(iH (jh (oH T.ahl (lg (K:=K) T) (hr.mono (by decide)) (by rfl) T.aew T.acP.kp (lB T) .nil jB (pav 0 (pav 1 (pav 2 (pav 3 iI))))))
   (iH (jh (pcg (jz T) hr T.acM (jA T) (iG jj (pav 4 (iG iM (iG (lQ (v:=V.int 1000) (by rfl) T.aeS ⟨_,rfl⟩) iI))))))
   (iH (jh (pcg (jz T) hr T.acM (jA T) (iG jj (pav 5 (iG iM (iG (lQ (v:=V.int 1000) (by rfl) T.aeS ⟨_,rfl⟩) iI))))))
   (iH (jo (K:=K) (pv 0) (pvD 4) rfl)
   (iJ (jo (K:=K) (pv 0) (pvD 5) rfl)))))),?_⟩
  simp only[start_eq];walk_at "n";refine⟨x,d,n,w,B,_,dx,rfl,z,UW T,hg.1,λH1 z=>?_⟩;walk_at "n";refine⟨_,_,_,_,rfl,hg.2.1.1,hg.2.1.2,?_⟩;walk_at "n";refine⟨_,_,_,_,rfl,hg.2.2.1,hg.2.2.2,?_⟩;walk_at "n";refine MT ["day", "number", "ware"] z T.afi T.afn rfl (by decide+kernel) (by decide) λH2 z=>?_;walk_at "a";exact MT ["day", "number", "ware", "many"] z T.afi T.afo rfl (by decide+kernel) (by decide) λH2 z=>k H2 ⟨dx,.non,z,rfl,λq e=>by cases e⟩
inductive JF(A:Adr)(vs:List V)(H:Hp)(Q:VK)(E:XK):Prop
 |mk (x:Addr) (d n s t:Int) (w u:Str) (B:Hp) (dx:Addr) (_:vs=[.ref x,.int d,.int n,.str w,.str u,.int s,.int t]) (_:New B H x A.aci dx []) (_:(Ent.good (.part d n w u s t))) (_:∀H',Made A B H' x (.part d n w u s t)->Q .non H'):JF A vs H Q E
def BX(T:Txt K mg A D):jQ P w K mg base CX0 4 A.aaU D.aaU ["self", "day", "number", "ware", "other", "share", "whole"] (JF A):=by
 refine T.acX.okv Bv λ_ _ _ _ H vs Q E hr h=>?_
 ·obtain⟨x,d,n,s,t,w,u,B,dx,rfl,z,hg,k⟩:=h
  refine ⟨_,(iH (jh (oH T.ahl (lg (K:=K) T) (hr.mono (by decide)) (by rfl) T.aew T.acP.kp (lB T) .nil jB (pav 0 (pav 1 (pav 2 (pav 3 iI))))))
   (iH (jh (pcg (Dw T) hr T.acO (Fd T) (iG jj (pav 4 iI))))
   (iH (kE (je (mR) (pvD 4) (pvD 3) (ji _)) (iJ (lO)) jn)
   (iH (jh (pcg (jz T) hr T.acM (jA T) (iG jj (pav 6 (iG iM (iG (lQ (v:=V.int 1000000) (by rfl) T.aeT ⟨_,rfl⟩) iI))))))
   (iH (jh (pcg (jz T) hr T.acM (jA T) (iG jj (pav 5 (iG iM (pav 6 iI))))))
   (iH (jo (K:=K) (pv 0) (pvD 4) rfl)
   (iH (jo (K:=K) (pv 0) (pvD 5) rfl)
   (iJ (jo (K:=K) (pv 0) (pvD 6) rfl))))))))),?_⟩
  simp only[start_eq];walk_at "n";refine⟨x,d,n,w,B,_,dx,rfl,z,LK T,hg.1,λH1 z=>?_⟩;walk_at "n";refine⟨_,_,rfl,hg.2.1,λH2 sm=>?_⟩;have z:=z.same sm;walk_at "n";rw[ze hg.2.2.1];walk_at "n";refine⟨_,_,_,_,rfl,hg.2.2.2.1.1,hg.2.2.2.1.2,?_⟩;walk_at "n";refine⟨_,_,_,_,rfl,hg.2.2.2.2.1,hg.2.2.2.2.2,?_⟩;walk_at "n";refine MT ["day", "number", "ware"] z T.afp T.afu rfl (by decide+kernel) (by decide) λH2 z=>?_;walk_at "n";refine MT ["day", "number", "ware", "other"] z T.afp T.afv rfl (by decide+kernel) (by decide) λH2 z=>?_;walk_at "a";exact MT ["day", "number", "ware", "other", "share"] z T.afp T.afw rfl (by decide+kernel) (by decide) λH2 z=>k H2 ⟨dx,.non,z,rfl,λq e=>by cases e⟩
local macro_rules | `(tactic| walk_at "m") => `(tactic| ((try dsimp only); rw [ap_seq]; walk_at "i"))
noncomputable def amr(H:Hp)(t:Addr)(e:Ent):Prop:=∃nt,H t=some (.tup (.str e.word::e.args nt))/\NT H nt e.lots
def pU{H:Hp}{x dx C:Addr}(z:H x=none)(q:H dx=none):New H (upd (upd H dx (.own x)) x (.ins C dx [])) x C dx []:=⟨(iR q).upd z,z,iK⟩
noncomputable def Ent.day:Ent->Int
 |.buy d ..=>d
 |.sell d ..=>d
 |.gift d ..=>d
 |.give d ..=>d
 |.split d ..=>d
 |.part d ..=>d
noncomputable def Ent.num:Ent->Int
 |.buy _ n ..=>n
 |.sell _ n ..=>n
 |.gift _ n ..=>n
 |.give _ n ..=>n
 |.split _ n ..=>n
 |.part _ n ..=>n
noncomputable def Ent.ware:Ent->Str
 |.buy _ _ w ..=>w
 |.sell _ _ w ..=>w
 |.gift _ _ w ..=>w
 |.give _ _ w ..=>w
 |.split _ _ w ..=>w
 |.part _ _ w ..=>w
def aiq(T:Txt K mg A D)(e:Ent):CE K (e.cls A):=by
 cases e with
 |buy=>exact aiF T
 |sell=>exact Xn T
 |gift=>exact Zt T
 |give=>exact WM T
 |split=>exact UW T
 |part=>exact LK T
def UT(e:Ent)(q:V):(e.fs q).lookup (Str.ofString "day")=some (.int e.day):=by cases e<;>rfl
def BJ(e:Ent)(q:V):(e.fs q).lookup (Str.ofString "number")=some (.int e.num):=by cases e<;>rfl
def aid.put{H:Hp}{rs:Rs}{l:Addr}{xs:List V}{u:HO}(h:aid H rs)(hl:H l=some (.lst xs)):aid (upd H l u) rs:=λr q=>by
 have h2:=h r q;rw[iZ (λz=>by rw[z,hl]at h2;cases h2)];exact h2
theorem NT.put{H:Hp}{v:V}{o:Option Rs}{l:Addr}{xs:List V}{u:HO}(h:NT H v o)(hl:H l=some (.lst xs)):NT (upd H l u) v o:=by
 cases o with
 |none=>exact h
 |some rs=>
  obtain⟨q,rfl,h1,h2⟩:=h;refine⟨q,rfl,?_,h2.put hl⟩;rw[iZ (λz=>by rw[z,hl]at h1;cases h1)];exact h1
theorem amr.put{H:Hp}{t:Addr}{e:Ent}{l:Addr}{xs:List V}{u:HO}(h:amr H t e)(q:H l=some (.lst xs)):amr (upd H l u) t e:=by
 obtain⟨nt,h1,h2⟩:=h;refine⟨nt,?_,h2.put q⟩;rw[iZ (λz=>by rw[z,q]at h1;cases h1)];exact h1
local macro_rules | `(tactic| walk_at "l") => `(tactic| (rw [ap_seq]; walk_at "i"))
def at4{a b c d i:Int}{lo hi:Int}(h0:0<=i)(h1:i<4)(ha:Rg lo hi a)(z:Rg lo hi b)(q:Rg lo hi c)(hd:Rg lo hi d):∃v,atI [V.int a,V.int b,V.int c,V.int d] i=some (.int v)/\Rg lo hi v:=by
 have h:i=0\/i=1\/i=2\/i=3:=by omega
 rcases h with h|h|h|h<;>rw[h]
 ·exact⟨a,rfl,ha⟩
 ·exact⟨b,rfl,z⟩
 ·exact⟨c,rfl,q⟩
 ·exact⟨d,rfl,hd⟩
def at3{a b c i:Int}{lo hi:Int}(h0:0<=i)(h1:i<3)(ha:Rg lo hi a)(z:Rg lo hi b)(q:Rg lo hi c):∃v,atI [V.int a,V.int b,V.int c] i=some (.int v)/\Rg lo hi v:=by
 have h:i=0\/i=1\/i=2:=by omega
 rcases h with h|h|h<;>rw[h]
 ·exact⟨a,rfl,ha⟩
 ·exact⟨b,rfl,z⟩
 ·exact⟨c,rfl,q⟩
def vm{lo hi x m:Int}(hm:0<m)(z:lo<=0)(q:m - 1<=hi):Rg lo hi (x%m):=⟨by have:=zX x (show m≠0 by omega);omega,by have:=zS x hm;omega⟩
def Xo{ws:List Str}{i:Int}(z:0<=i)(h1:i<ws.length):∃w,atI (ws.map V.str) i=some (.str w)/\ws[i.toNat]? =some w:=by
 have q:i.toNat<ws.length:=by omega
 refine⟨ws[i.toNat],?_,zr q⟩;have e:((i.toNat:Nat):Int)=i:=by omega
 have h:=Hq (xs:=ws.map V.str) (j:=i.toNat) (v:=.str ws[i.toNat]) (by rw[zm,zr q];rfl)
 rwa [e]at h
def ajQ{ws:List Str}(q:ws.Nodup){i j:Nat}{u v:Str}(hi:ws[i]? =some u)(z:ws[j]? =some v)(h:i≠j):u≠v:=λe=>by
 subst e;have h1:=(zp.mp hi);have h2:=(zp.mp z);exact h ((yyd (xs:=ws) q (h₀:=h1.1) (h₁:=h2.1)).mp (h1.2.trans h2.2.symm))
def e9:(10:Int)^Int.toNat 9=1000000000:=by decide
def e6:(10:Int)^Int.toNat 6=1000000:=by decide
def Tp{r f:Int}(z:Rg 0 1000000000 r)(q:Rg 0 1000000000 f):Rg 0 1000000000000000000 (r*f):=by
 refine⟨zzd z.1 q.1,?_⟩;have:=Int.mul_le_mul z.2 q.2 q.1 (by decide);omega
def aav{a b L:Int}(a0:0<=a)(a1:a<L)(q:0<=b)(z:b<L - 1):(a+1+b)%L≠a:=by
 by_cases h:a+1+b<L
 ·rw[Int.emod_eq_of_lt (by omega) h];omega
 ·have e:(a+1+b)%L=(a+1+b - L)%L:=by
   have:=Int.add_emod_right (a+1+b - L) L;rw[Int.sub_add_cancel]at this;exact this
  rw[e,Int.emod_eq_of_lt (by omega) (by omega)];omega
def alZ{J:It}{cap:List (Option Nat)}{g:TG}{te:TE}{σ:L2.St}{H:Hp}{Q:VK}(n:Nat)(Xs:Nat->V->Prop)(Sσ:L2.St->Prop)(F:Nat->V->Hp->Prop)(h0:Sσ (qY σ cap))(hz:n<=sizeLine)
  (ah:∀i q,i<n->Same H q->J.go i q/\∀y H',J.yld i q y H'->H'=q/\Xs i y) (ai:∀q,Same H q->J.stop n q)
  (hs:∀D i x,i<n->Xs i x->∀(σ:L2.St)(q:Hp)(R:L2.St->VK),Sσ σ->Same H q->H D=none->(∃acc,q D=some (.lst acc))->(∀v σ4 H6,Sσ σ4->Same q H6->(∀H',But D H6 H'->F i v H')->R σ4 v H6)->g x σ q λσ4 H4=>te σ4 H4 (R σ4))
  (k:∀D H' acc,H D=none->Same H H'->H' D=some (.lst acc)->acc.length=n->(∀(i:Nat) v,acc[i]? =some v->F i v H')->Q (.ref D) H'):kI cap J g NK te σ H Q:=by
 intro D hD;refine⟨λi m acc σ H2=>m=n - i/\i<=n/\Sσ σ/\Same H H2/\acc.length=i/\∀(j:Nat) v,acc[j]? =some v->∀H',But D H2 H'->F j v H',⟨n,rfl,zK _,h0,iR hD,rfl,λj v e=>by simp at e⟩,?_⟩;rintro i m acc σ1 H2 ⟨rfl,hi,hσ,sm,ac,hF⟩ hA;by_cases aa:i<n
 ·obtain⟨g1,g2⟩:=ah i H2 aa sm
  refine .inr ⟨g1,λy H3 hy=>?_⟩;obtain⟨e3,hx⟩:=g2 y H3 hy;subst e3;simp only[ap_noIf,if_true];refine hs D i _ aa hx σ1 H3 _ hσ sm hD ⟨_,hA⟩ λv σ4 H6 af s6 ae=>?_;have aj:=s6 _ _ hA;refine⟨acc,aj,by omega,n - (i+1),by omega,rfl,aa,af,(sm.trans s6).upd hD,by rw[zB,ac];rfl,λj u hj H' hb=>?_⟩;have ab:But D H6 H':=λb o z e=>hb b o z ((iZ z).trans e);by_cases ad:j<acc.length
  ·rw[z5 ad]at hj
   exact hF j u hj H' λb o z e=>ab b o z (s6 _ _ e)
  ·rw[z4 (by omega)]at hj
   have ag:j - acc.length=0:=by
    have:=(zp.mp hj).1;simp at this;omega
   rw[ag]at hj;cases hj;obtain rfl:j=i:=by omega
   exact ae H' ab
 ·obtain rfl:i=n:=by omega
  exact .inl ⟨ai H2 sm,k D H2 acc hD sm hA ac λj v e=>hF j v e H2 λb o _ e=>e⟩
def ama{lo:Int}{cap:List (Option Nat)}{g:TG}{te:TE}{σ:L2.St}{H:Hp}{Q:VK}{n:Nat}(Sσ:L2.St->Prop)(F:Nat->V->Hp->Prop)(h0:Sσ (qY σ cap))(hz:n<=sizeLine)
  (hs:∀D i,i<n->∀(σ:L2.St)(q:Hp)(R:L2.St->VK),Sσ σ->Same H q->H D=none->(∃acc,q D=some (.lst acc))->(∀v z H6,Sσ z->Same q H6->(∀H',But D H6 H'->F i v H')->R z v H6)->g (.int (lo+i)) σ q λz H4=>te z H4 (R z))
  (k:∀D H' acc,H D=none->Same H H'->H' D=some (.lst acc)->acc.length=n->(∀(i:Nat) v,acc[i]? =some v->F i v H')->Q (.ref D) H'):kI cap (Itr lo n) g NK te σ H Q:=
 alZ n (λi x=>x=.int (lo+i)) Sσ F h0 hz (λi q hi _=>⟨hi,λy H' hy=>⟨hy.1,hy.2⟩⟩) (λ_ _=>zo n) (λD i x hi hx=>by subst hx;exact hs D i hi) k
noncomputable def jq(kvs:List (Key×V))(z:Str):Int:=match pF kvs (Sum.inr z)with
 |some (.int i)=>i
 |_=>0
theorem Sy:∀{kvs:List (Key×V)}{k:Key}{v:V},pF kvs k=some v->(k,v)∈kvs
 |[],_,_,h=>by cases h
 |p::kvs,k,v,h=>by
  by_cases e:p.1=k
  ·rw[lu e]at h
   cases h;rw[<-e];exact zg
  ·rw[kJ e]at h
   exact zk _ (Sy h)
def Wi{kvs:List (Key×V)}{k:Key}{v:V}(q:(kvs.map (·.1)).Nodup)(h:(k,v)∈kvs):pF kvs k=some v:=by
 induction kvs with
 |nil=>exact(zf h).elim
 |cons p kvs ih=>
  rw[zi,zR]at q;rcases zt.mp h with e|h
  ·subst e
   exact lu rfl
  ·have:p.1≠k:=λe=>q.1 (by rw[e];exact zb.mpr ⟨(k,v),h,rfl⟩)
   rw[kJ this];exact ih q.2 h
def CV{kvs:List (Key×V)}{k:Key}{v:V}(z:(kvs.map (·.1)).Nodup):((putK kvs k v).map (·.1)).Nodup:=by
 cases e:pF kvs k with
 |none=>exact ajw v z e
 |some w=>
  unfold putK;rw[zl (by rw[oU,e];rfl),zq]
  have:((λx:Key×V=>x.1)∘λq:Key×V=>if q.1=k then(q.1,v)else q)=λx=>x.1:=by
   funext q;show(if q.1=k then(q.1,v)else q).1=q.1;split<;>rfl
  rw[this];exact z
def Jp{kvs:List (Key×V)}{k:Key}{v:V}{p:Key×V}(h:p∈putK kvs k v):p=(k,v)\/p∈kvs:=by
 unfold putK at h;split at h
 ·obtain⟨q,z,rfl⟩:=zb.mp h
  split
  ·rename_i e
   exact .inl (by rw[e])
  ·exact .inr z
 ·rcases zA.mp h with h|h
  ·exact .inr h
  ·exact .inl (zu.mp h)
structure Cnt(kvs:List (Key×V)):Prop where
 k:∀kv∈kvs,∃(z:Str)(i:Int),kv=(Sum.inr z,.int i)/\0<=i
 u:(kvs.map (·.1)).Nodup
theorem Cnt.nil:Cnt []:=⟨λq h=>(zf h).elim,.nil⟩
def Cnt.put{kvs:List (Key×V)}(h:Cnt kvs)(z:Str){n:Int}(hn:0<=n):Cnt (putK kvs (Sum.inr z) (.int n)):=
 ⟨λkv q=>(Jp q).elim (λe=>⟨z,n,e,hn⟩) (h.k kv),CV h.u⟩
theorem NP{α:Type}{f:α->α}:∀{l:List α},(∀x∈l,f x=x)->l.map f=l
 |[],_=>rfl
 |x::l,h=>by rw[zi,h x (.head _),NP λy q=>h y (.tail _ q)]
def amU{w c:Str}(n:w≠c):decide (V.str w=V.str c)=false:=zQ λe=>n (V.str.inj e)
def ale{i:Nat}{σ:L2.St}{H:Hp}{a:Addr}{vs:List V}{c w:Str}{Q:Bool->Hp->Prop}(h:σ[i]? =some (some (.ref a)))(q:H a=some (.tup vs))(a0:atI vs 0=some (.str w))(k:Q (decide (V.str w=V.str c)) H):RV (tOp rEq (tOp (aiy K) (tV i) (tC (.int 0))) (tC (.str c))) σ H Q:=by
 unfold RV tOp tV tC atV rEq aiy;rw[h];exact⟨_,_,_,_,rfl,rfl,jH q,a0,rfl,_,rfl,k⟩
def si1{i:Nat}{σ:L2.St}{H:Hp}{a:Addr}{vs:List V}{c w:Str}{s u:TS}{D:_}(h:σ[i]? =some (some (.ref a)))(q:H a=some (.tup vs))(a0:atI vs 0=some (.str w))(n:w≠c)(k:u D σ H):ZG (Zg (RV (tOp rEq (tOp (aiy K) (tV i) (tC (.int 0))) (tC (.str c)))) s YD) u D σ H:=by
 refine ale h q a0 ?_;rw[amU n];exact k
def gi1{i:Nat}{σ:L2.St}{H:Hp}{a:Addr}{vs:List V}{c:Str}{s u:TS}{D:_}(h:σ[i]? =some (some (.ref a)))(q:H a=some (.tup vs))(a0:atI vs 0=some (.str c))(k:s {D with nx:=u D} σ H):ZG (Zg (RV (tOp rEq (tOp (aiy K) (tV i) (tC (.int 0))) (tC (.str c)))) s YD) u D σ H:=by
 refine ale h q a0 ?_;rw[zM rfl];exact k
def sc0{i:Nat}{σ:L2.St}{H:Hp}{x:V}{t:Value}{C:Addr}{s u:TS}{D:_}(h:σ[i]? =some (some x))(ty:Kf K H x t)(e:kitOne K t (.ref C)=some false)(k:u D σ H):Zg (tB (tCB (akc K) (pB (tV i) (pB (tC (.ref C)) Uu)))) s u D σ H:=by
 unfold Zg tB tCB pB tV tC Uu atV akc;rw[h];exact⟨_,_,_,_,rfl,ty,e,_,rfl,k⟩
def sc1{i:Nat}{σ:L2.St}{H:Hp}{x:V}{t:Value}{C:Addr}{s u:TS}{D:_}(h:σ[i]? =some (some x))(ty:Kf K H x t)(e:kitOne K t (.ref C)=some true)(k:s D σ H):Zg (tB (tCB (akc K) (pB (tV i) (pB (tC (.ref C)) Uu)))) s u D σ H:=by
 unfold Zg tB tCB pB tV tC Uu atV akc;rw[h];exact⟨_,_,_,_,rfl,ty,e,_,rfl,k⟩
abbrev EL:=List (Addr×Ent)
noncomputable def BV(es:EL):List V:=es.map λr=>V.ref r.1
noncomputable def Nr(A:Adr)(H:Hp)(es:EL):Prop:=∀r∈es,IsE A H r.1 r.2
theorem Nr.same{H H':Hp}{es:EL}(h:Nr A H es)(s:Same H H'):Nr A H' es:=λr q=>(h r q).same s
def wD(es:EL):(BV es).length=es.length:=by unfold BV;rw[za]
def Pj{rs:EL}{i:Nat}{y:V}(h:(BV rs)[i]? =some y):∃r,rs[i]? =some r/\y=.ref r.1:=by
 unfold BV at h;rw[zm]at h
 cases e:rs[i]? with
 |none=>rw[e]at h;cases h
 |some r=>rw[e]at h;exact⟨r,rfl,(zy h).symm⟩
def aad{f:Addr×Ent->Int}{rs:EL}:∀{acc:List V},acc.length=rs.length->(∀(i:Nat) v,acc[i]? =some v->∃l,rs[i]? =some l/\v=.int (f l))->acc=(rs.map f).map V.int:=by
 intro acc q h;refine zzb λi=>?_;rw[zm,zm];by_cases hi:i<acc.length
 ·obtain⟨l,h1,h2⟩:=h i _ (zr hi)
  rw[zr hi,h2,h1];rfl
 ·rw[zY (by omega),zY (by omega)]
  rfl
def ahT(T:Txt K mg A D){H:Hp}{q:Addr}{es:EL}{Q:VK}{σ:L2.St}(hq:H q=some (.lst (BV es)))(hE:Nr A H es)(hl:es.length<=100)
  (k:∀D H',H D=none->Same H H'->H' D=some (.lst ((es.map λl=>l.2.num).map V.int))->Q (.ref D) H'):kI [none] (Itl K q) (Sw 0) NK (tFV K 0 "number") σ H Q:=by
 refine kI.listE (K:=K) (λσ=>∃a,σ=[a]) (λi v _=>∃l,es[i]? =some l/\v=.int l.2.num) (iT hq) ⟨_,rfl⟩ (by rw[wD,zn];omega) ?_ ?_
 ·rintro Da i x hx σ H5 R ⟨_,rfl⟩ sm hD _ kk
  obtain⟨l,z,rfl⟩:=Pj hx;obtain⟨dx,nv,ab,hn⟩:=(hE l (zh z)).same sm;have hC:=aiq T l.2;walk_at "i";exact rd ab hC.c hC.n (BJ l.2 nv) (kk _ _ H5 ⟨_,rfl⟩ (same_refl _) λH' _=>⟨l,z,rfl⟩)
 ·intro Da H' acc hD sm hA aa hF
  rw[aad (f:=λl=>l.2.num) (by rw[aa,wD]) hF]at hA;exact k Da H' hD sm hA
def amR{g:TG}{tb:TS}{D:Ends}{σ:L2.St}{H:Hp}{a b:Addr}{xs ys:List V}(q:Nat->L2.St->Hp->Prop)(n:Nat)(ab:n<=xs.length)(ac:n<=ys.length)(z:xs.length<=n\/ys.length<=n)(h0:q 0 σ H)(hl:∀i σ H,i<=n->q i σ H->SqL K H a xs/\SqL K H b ys)
  (hs:∀i x y σ H p,xs[i]? =some x->ys[i]? =some y->q i σ H->H p=none->g (.ref p) σ (upd H p (.tup [x,y])) λσ2 H2=>tb {D with nx:=q (i+1),ct:=q (i+1),bk:=D.nx} σ2 H2) (hd:∀σ H,q n σ H->D.nx σ H):Kr (Itz K a b) g tb D σ H:=by
 refine⟨λi m σ H=>m=n - i/\i<=n/\q i σ H,⟨n,by simp,zK _,h0⟩,?_⟩;rintro i m σ H ⟨rfl,hi,p⟩;obtain⟨q1,q2⟩:=hl i σ H hi p;by_cases aa:i<n
 ·have h1:i<xs.length:=by omega
  have h2:i<ys.length:=by omega
  refine .inr ⟨⟨xs,ys,xs[i],ys[i],q1,q2,by simp,by simp⟩,q (i+1),λσ' H' p'=>⟨n - (i+1),by omega,rfl,aa,p'⟩,λv H' y=>?_⟩;obtain⟨pp,x,y,hp,rfl,rfl,e1,e2⟩:=y;exact hs i x y σ _ pp (e1 xs q1) (e2 ys q2) p hp
 ·have e:i=n:=by omega
  subst e;exact .inl ⟨⟨xs,ys,q1,q2,z⟩,hd σ H p⟩
inductive xq(K:Fg_)(vs:List V)(H:Hp)(Q:VK)(E:XK):Prop
 |mk (a:Addr) (ns:List Int) (_:vs=[.ref a]) (_:SqL K H a (ns.map V.int)) (_:ns.length<64) (_:ns.Nodup) (_:∀H',Same H H'->Q .non H'):xq K vs H Q E
def Jc(T:Txt K mg A D):jQ P w K mg base CX0 1 A.abc D.abc ["numbers"] (xq K):=by
 refine T.adf.F.okv nJ λ_ _ _ _ H vs Q E hr h=>?_
 ·obtain⟨a,ns,rfl,hS,hl,hu,k⟩:=h
  refine ⟨_,(iH (iY (i:=1) nJ.nd rfl orl (jl (Rx (K:=K)) (by rfl) T.aes (by decide+kernel) (pav 0 iI)))
   (iJ (oh zW rfl (Mg (K:=K) (by rfl) T.aet (pav 1 (iG (Ac (Dz (K:=K)) (pvD 1) (BZ iM) Kc) iI))) (pN (K:=K) (n:=2) rfl (jw (iW (i:=2) nJ.nd rfl orl) (jw (iW (i:=3) nJ.nd rfl orl) nQ)))
    (iJ (kE (je (mR) (pvD 2) (pvD 3) (ji _)) (iJ (lO)) jn))))),?_⟩
  simp only[start_eq];walk_at "m";refine⟨ns,hS,hl,λp q hp ae ah=>?_⟩;have af:q.Nodup:=ae.nodup_iff.mpr hu;have S1:=iR (o:=.lst (q.map V.int)) hp;have h1:(upd H p (.lst (q.map V.int))) p=some (.lst (q.map V.int)):=iK;generalize upd H p (.lst (q.map V.int))=H1 at S1 h1
  try dsimp only
  rw[ap_for];walk_at "i";refine⟨_,iT h1,λpc ab=>?_⟩;rw[show NZ (q.map V.int) (some 1) none=(q.drop 1).map V.int by rw[List.map_drop];exact Vh (q.map V.int) 1];have S2:=S1.trans (iR (o:=.lst ((q.drop 1).map V.int)) ab);have h2:(upd H1 pc (.lst ((q.drop 1).map V.int))) pc=some (.lst ((q.drop 1).map V.int)):=iK;have z:=iR (o:=.lst ((q.drop 1).map V.int)) ab _ _ h1;generalize upd H1 pc (.lst ((q.drop 1).map V.int))=H2 at S2 h2 z;refine⟨⟨_,iT z⟩,⟨_,iT h2⟩,?_⟩
  refine amR (K:=K) (a:=p) (b:=pc) (xs:=q.map V.int) (ys:=(q.drop 1).map V.int) (λi σ Hx=>(∃v2 v3,σ=[some (.ref a),some (.ref p),v2,v3])/\Same H2 Hx) (q.length - 1) (by rw[za];omega) (by rw[za,yB];omega) (.inr (by rw[za,yB];omega))
   ⟨⟨_,_,rfl⟩,same_refl _⟩ (λi σ Hx _ ⟨_,s⟩=>⟨s.seq (iT z),s.seq (iT h2)⟩) ?_ ?_
  ·rintro i x y σ H3 pt hx hy ⟨⟨v2,v3,rfl⟩,s3⟩ ag
   rw[zm]at hx hy;obtain⟨m1,ad,rfl⟩:=zzw.mp hx;obtain⟨m2,aa,rfl⟩:=zzw.mp hy;rw[List.getElem?_drop]at aa
   have ac:m1≠m2:=by
    obtain⟨q1,e1⟩:=zp.mp ad;obtain⟨q2,e2⟩:=zp.mp aa;have:=zzj.mp af i (1+i) q1 q2 (by omega);rw[e1,e2]at this;exact this
   have S3:=s3.trans (iR (o:=.tup [V.int m1,V.int m2]) ag);have h3:(upd H3 pt (.tup [V.int m1,V.int m2])) pt=some (.tup [V.int m1,V.int m2]):=iK;generalize upd H3 pt (.tup [V.int m1,V.int m2])=H4 at S3 h3;walk_at "i";refine⟨_,jH h3,rfl,_,_,rfl,_,_,rfl,rfl,?_⟩;refine⟨rfl,?_⟩;rw[ze (λe=>ac (by cases e;rfl))];exact S3
  ·rintro σ H3 ⟨⟨v2,v3,rfl⟩,s3⟩
   exact k _ (S2.trans s3)
inductive IK(A:Adr)(vs:List V)(H:Hp)(Q:VK)(E:XK):Prop
 |mk (x:Addr) (e:Ent) (_:vs=[.ref x]) (_:IsE A H x e) (_:∀t,H t=none->Q (.ref t) (upd H t (.tup [.int e.day,.int e.num]))):IK A vs H Q E
def Cg(T:Txt K mg A D):jQ P w K mg base CX0 1 A.abd D.abd ["entry"] (IK A):=by
 refine T.adg.F.okv Rv λ_ _ _ _ H vs Q E hr h=>?_
 ·obtain⟨x,e,rfl,⟨dx,nv,z,hn⟩,k⟩:=h
  refine⟨_,(iJ (jb (nP (iG (fv K 0) (iG (fv K 0) iI))))),?_⟩;have q:=aiq T e;walk_at "a";exact rd z q.c q.d (UT e nv) (rd z q.c q.n (BJ e nv) ⟨sz,λt ht=>k t ht⟩)
noncomputable def amE:V->Int
 |.int i=>i
 |_=>0
noncomputable def kfE(H:Hp):V->List Int
 |.ref b=>match H b with
  |some (.ins _ _ fs)=>[amE ((fs.lookup (Str.ofString "day")).getD .non),amE ((fs.lookup (Str.ofString "number")).getD .non)]
  |_=>[]
 |_=>[]
def Ih{H:Hp}{b:Addr}{e:Ent}(h:IsE A H b e):kfE H (.ref b)=[e.day,e.num]:=by
 obtain⟨dx,z,q,_⟩:=h;unfold kfE
 try dsimp only
 rw[q]
 try dsimp only
 rw[UT,BJ];rfl
noncomputable def BfE(d e:Ent):Prop:=d.day<e.day\/(d.day=e.day/\d.num<e.num)
def BfE.asym{d e:Ent}(h:BfE d e)(h':BfE e d):False:=by
 unfold BfE at h h';omega
def ajx{d e:Ent}(h:FN [d.day,d.num] [e.day,e.num] false=true)(hn:d.num≠e.num):BfE d e:=by
 rw[FN]at h;by_cases q:d.day=e.day
 ·rw[zl q,FN,ze hn]at h
  exact .inr ⟨q,ym h⟩
 ·rw[ze q]at h
  exact .inl (ym h)
def alC{l k:List Ent}(h:l.Perm k)(h1:l.Pairwise BfE)(h2:k.Pairwise BfE):l=k:=List.Perm.eq_of_pairwise (λa b _ _ x y=>(x.asym y).elim) h1 h2 h
def LQ{α:Type}{f:α->V}:∀{zs ys:List V},zs.Perm ys->∀{rs:List α},ys=rs.map f->∃q:List α,zs=q.map f/\q.Perm rs:=by
 intro zs ys h
 induction h with
 |nil=>intro rs e;exact⟨[],rfl,by cases rs with|nil=>exact .nil|cons _ _=>cases e⟩
 |cons x _ ih=>
  intro rs e
  cases rs with
  |nil=>cases e
  |cons r rs=>
   rw[zi]at e;obtain⟨z,e2⟩:=y0 e;obtain⟨q,a1,a2⟩:=ih e2;exact⟨r::q,by rw[zi,<-a1,z],a2.cons r⟩
 |swap x y l=>
  intro rs e
  cases rs with
  |nil=>cases e
  |cons r rs=>cases rs with
   |nil=>cases e
   |cons r2 rs=>
    rw[zi,zi]at e;obtain⟨z,e2⟩:=y0 e;obtain⟨e3,e4⟩:=y0 e2;exact⟨r2::r::rs,by rw[zi,zi,z,e3,e4],.swap _ _ _⟩
 |trans _ _ ih1 ih2=>
  intro rs e;obtain⟨r2,a1,a2⟩:=ih2 e;obtain⟨r3,b1,b2⟩:=ih1 a1;exact⟨r3,b1,b2.trans a2⟩
inductive Hj(A:Adr)(vs:List V)(H:Hp)(Q:VK)(E:XK):Prop
 |mk (q:Addr) (es:EL) (_:vs=[.ref q]) (_:H q=some (.lst (BV es))) (_:Nr A H es) (_:es.length<64) (_:(es.map (·.2.num)).Nodup) (_:∀p es' H',Same H H'->H p=none->H' p=some (.lst (BV es'))->es'.Perm es->(es'.map (·.2)).Pairwise BfE->Q (.ref p) H'):Hj A vs H Q E
def Rr(T:Txt K mg A D):jQ P w K mg base CX0 4 A.abe D.abe ["entries"] (Hj A):=by
 refine T.adh.F.okv RP λ_ _ _ _ H vs Q E hr h=>?_
 ·obtain⟨q,es,rfl,hq,hE,hl,hu,k⟩:=h
  refine ⟨_,(iH (jh (pcg (Jc T) hr T.adf (Kq T) (iG (jW (cap:=[none]) (N':=["entry"]) rfl (by walk_at "c") (jD (K:=K) (pv 0)) (λ_ _ _ _=>(iW (i:=0) nd1 rfl orl orr)) (λ_ _ _ _=>jO) (λ_ _ _ _=>(fv K 0))) iI)))
   (iJ (jb (Jf (K:=K) (by rfl) (Li (Cg (K:=K) T) (hr.mono (by decide)) (Eh T) (by rfl) T.aes (by decide+kernel) (by rfl) T.adg.m (pav 0 iI)))))),?_⟩
  simp only[start_eq];walk_at "m";refine⟨⟨_,iT hq⟩,ahT T hq hE (by omega) λD1 H1 ah s1 h1=>?_⟩;refine⟨D1,_,rfl,iT h1,by rw[za];exact hl,hu,λH2 s2=>?_⟩;have S2:=s1.trans s2;have aa:=hE.same S2;walk_at "i";refine⟨_,iT (S2 _ _ hq),by rw[wD];exact hl,kfE H2,λy hy=>?_,λp zs H3 s3 hn hz ac ad=>?_⟩
  ·obtain⟨o,ho,rfl⟩:=zb.mp hy
   rw[Ih (aa o ho)];refine⟨by simp,λH5 s5 R hR=>⟨o.1,o.2,rfl,(aa o ho).same s5,λt ht=>hR t _ (iR ht) ?_⟩⟩;rw[Ih (aa o ho)];exact iK
  ·obtain⟨os,rfl,ab⟩:=LQ (f:=λr:Addr×Ent=>V.ref r.1) ac rfl
   have af:es.Pairwise λa b=>a.2.num≠b.2.num:=yv.mp hu
   have hou':os.Pairwise λa b=>a.2.num≠b.2.num:=by
    have:(os.map λr=>r.2.num).Nodup:=(ab.map λr=>r.2.num).nodup_iff.mpr hu;exact yv.mp this
   have ag:=ad 2 (λy hy=>by
    obtain⟨r,hr,rfl⟩:=zb.mp hy;rw[Ih (aa r hr)];rfl) (by
    refine yv.mpr (yv.mpr (List.Pairwise.imp_of_mem (fun{a b} ha hb ae z=>ae ?_) af));rw[Ih (aa a ha),Ih (aa b hb)]at z;exact(y0 (y0 z).2).1)
   refine k p os H3 (S2.trans s3) (S2.free hn) hz ab ?_;refine yv.mpr (List.Pairwise.imp_of_mem (fun{a b} ha hb h=>?_) ((yv.mp ag).and hou'));have h1:=h.1;rw[Ih (aa a (ab.mem_iff.mp ha)),Ih (aa b (ab.mem_iff.mp hb))]at h1;exact ajx h1 h.2
structure jk where
 n:Int
 s:Int
 p:Int
 c:Int
noncomputable def jk.fs(d:jk):List (Str×V):=[("number",.int d.n),("since",.int d.s),("pieces",.int d.p),("cost",.int d.c)]
noncomputable def jk.vs(d:jk):List V:=[.int d.n,.int d.s,.int d.p,.int d.c]
noncomputable def mq(A:Adr)(H:Hp)(x:Addr)(d:jk):Prop:=∃dx,H x=some (.ins A.acn dx d.fs)
def mq.same{H H':Hp}{x:Addr}{d:jk}(h:mq A H x d)(s:Same H H'):mq A H' x d:=let⟨dx,e⟩:=h;⟨dx,s _ _ e⟩
def mq.but{H H':Hp}{D:Addr}{x:Addr}{d:jk}(h:mq A H x d)(q:x≠D)(s:But D H H'):mq A H' x d:=let⟨dx,e⟩:=h;⟨dx,s _ _ q e⟩
noncomputable def Bd(i:Int):Prop:= -(2^500)<i/\i<2^500
def Bd.mul{i j:Int}(h:Bd i)(h':Bd j):Bu i j:=by
 have h1:=h.1;have h2:=h.2;have z:=h'.1;have q:=h'.2
 refine Bu.big ?_ ?_
 ·have:i.natAbs<2^500:=by omega
  exact zH this (yr (by decide) (by decide))
 ·have:j.natAbs<2^500:=by omega
  exact zH this (yr (by decide) (by decide))
def Bd.of{i j:Int}(h:Bd j)(q:0<=i)(h1:i<=j):Bd i:=⟨by have:=h.1;unfold Bd at h;exact Int.lt_of_lt_of_le (Int.neg_neg_of_pos (Int.pow_pos (by decide))) q,Int.lt_of_le_of_lt h1 h.2⟩
def Bd.nat{i:Int}(h:Bd i):i.natAbs<2^500:=by have h1:=h.1;have h2:=h.2;omega
def Bd.div{i j:Int}(h:Bd j)(q:0<j):FW i j:=⟨q,zH h.nat (yr (by decide) (by decide))⟩
inductive qM(A:Adr)(vs:List V)(H:Hp)(Q:VK)(E:XK):Prop
 |mk (x:Addr) (d:jk) (B:Hp) (dx:Addr) (_:vs=.ref x::d.vs) (_:New B H x A.acn dx []) (_:∀H',New B H' x A.acn dx d.fs->Q .non H'):qM A vs H Q E
def jR(T:Txt K mg A D):jQ P w K mg base CX0 1 A.abh D.abh ["self", "number", "since", "pieces", "cost"] (qM A):=by
 refine T.adk.ok Jy (by walk_at "v") (λ_ _ _ s H vs Q E z h=>?_)
 ·obtain⟨x,⟨n,s,p,c⟩,B,dx,rfl,q,k⟩:=h
  refine ⟨_,(iH (jo (K:=K) (pv 0) (pvD 1) rfl)
   (iH (jo (K:=K) (pv 0) (pvD 2) rfl)
   (iH (jo (K:=K) (pv 0) (pvD 3) rfl)
   (iJ (jo (K:=K) (pv 0) (pvD 4) rfl))))),?_⟩
  simp only[jk.vs];walk_at "a";refine sw q.h T.af6 T.af7 (by decide) (?_);rw[xZ _ _ (by decide+kernel)];have q:=q.put (gs:=[]++[(Str.ofString "number",V.int n)]) rfl;refine sw q.h T.af6 T.af8 (by simp) (?_);rw[lR (f:=Str.ofString "since") ["number"]];have q:=q.put (gs:=([]++[(Str.ofString "number",V.int n)])++[(Str.ofString "since",V.int s)]) rfl;refine sw q.h T.af6 T.af9 (by simp) (?_);rw[lR (f:=Str.ofString "pieces") ["number", "since"]];have q:=q.put (gs:=(([]++[(Str.ofString "number",V.int n)])++[(Str.ofString "since",V.int s)])++[(Str.ofString "pieces",V.int p)]) rfl;refine sw q.h T.af6 T.aga (by simp) (?_);rw[lR (f:=Str.ofString "cost") ["number", "since", "pieces"]];exact k _ (q.put rfl)
def pZ{R:Hp->Prop}{E:XK}{H:Hp}{x dx:Addr}(d:jk)(hx:H x=none)(q:H dx=none)(k:∀H',Same H H'->mq A H' x d->R H'):
  qM A (.ref x::d.vs) (upd (upd H dx (.own x)) x (.ins A.acn dx [])) (λv H2=>v=.non/\R H2) E:=
 ⟨x,d,H,dx,rfl,pU hx q,λH' z=>⟨rfl,k H' z.s ⟨dx,z.h⟩⟩⟩
abbrev RL:=List (Addr×jk)
noncomputable def jt(rs:RL):List V:=rs.map λr=>V.ref r.1
noncomputable def kO(A:Adr)(H:Hp)(rs:RL):Prop:=∀r∈rs,mq A H r.1 r.2
theorem kO.same{H H':Hp}{rs:RL}(h:kO A H rs)(s:Same H H'):kO A H' rs:=λr q=>(h r q).same s
structure Good(d:jk):Prop where
 n:0<=d.n/\d.n<=1000000
 s:0<=d.s/\d.s<=1000000
 p:1<=d.p/\d.p<=1000000000
 c:0<=d.c/\d.c<=1000000000000000000
def jG{rs:RL}{i:Nat}{y:V}(h:(jt rs)[i]? =some y):∃r,rs[i]? =some r/\y=.ref r.1:=by
 unfold jt at h;rw[zm]at h
 cases e:rs[i]? with
 |none=>rw[e]at h;cases h
 |some r=>rw[e]at h;exact⟨r,rfl,(zy h).symm⟩
def iV(rs:RL):(jt rs).length=rs.length:=by unfold jt;rw[za]
def get_mem{rs:RL}{i:Nat}{r:Addr×jk}(h:rs[i]? =some r):r∈rs:=zh h
def RN(F:V->Hp->Addr×jk->Prop){acc:List V}{H:Hp}:∀{ds:List jk},acc.length=ds.length->(∀(i:Nat) v,acc[i]? =some v->∃b d,ds[i]? =some d/\v=.ref b/\F v H (b,d))->
  ∃rs:RL,acc=jt rs/\rs.map (·.2)=ds/\∀r∈rs,F (.ref r.1) H r:=by
 induction acc with
 |nil=>
  intro ds q _
  cases ds with
  |nil=>exact⟨[],rfl,rfl,λr h=>by cases h⟩
  |cons _ _=>simp at q
 |cons v acc ih=>
  intro ds q h
  cases ds with
  |nil=>simp at q
  |cons d ds=>
   obtain⟨b,d',e,rfl,hf⟩:=h 0 v rfl;cases e;obtain⟨rs,e1,e2,e3⟩:=ih (ds:=ds) (by simpa using q) λi v hv=>h (i+1) v hv;refine⟨(b,d)::rs,by rw[e1];rfl,by rw[zi,e2],λr z=>?_⟩;rcases zt.mp z with rfl|z
   ·exact hf
   ·exact e3 r z
noncomputable def Oc(H:Hp)(Q:VK)(ns:List Int):Prop:=∀p H',Same H H'->H p=none->H' p=some (.lst (ns.map V.int))->Q (.ref p) H'
def Mv{l1 q:List Int}(h:l1.Perm q):l1.sum=q.sum:=by
 induction h with
 |nil=>rfl
 |cons x _ ih=>rw[zF,zF,ih]
 |swap x y l=>rw[zF,zF,zF,zF];omega
 |trans _ _ ih1 ih2=>rw[ih1,ih2]
noncomputable def pcs(ls:RL):Int:=(ls.map (·.2.p)).sum
structure Shp(ns:List Int)(ls:RL):Prop where
 u:(ls.map (·.2.n)).Nodup
 p:∀l∈ls,1<=l.2.p
 m:∀l∈ls,l.2.n∈ns
 c:∀l∈ls,0<=l.2.c
noncomputable def VP(l:Addr×jk):Int×Int:=(l.2.n,l.2.p)
noncomputable def Sim(ls ms:RL):Prop:=ms.map VP=ls.map VP
def Sim.len{ls q:RL}(h:Sim ls q):q.length=ls.length:=by simpa using congrArg List.length h
def Sim.ns{ls q:RL}(h:Sim ls q):q.map (·.2.n)=ls.map (·.2.n):=by
 have:=congrArg (List.map Prod.fst) h
 rwa [zq,zq]at this
def Sim.ps{ls q:RL}(h:Sim ls q):q.map (·.2.p)=ls.map (·.2.p):=by
 have:=congrArg (List.map Prod.snd) h
 rwa [zq,zq]at this
theorem Sim.pcs{ls q:RL}(h:Sim ls q):pcs q=pcs ls:=by unfold My.pcs;rw[h.ps]
def Sim.shp{ns:List Int}{ls z:RL}(h:Sim ls z)(s:Shp ns ls)(hc:∀l∈z,0<=l.2.c):Shp ns z:=by
 refine⟨by rw[h.ns];exact s.u,λl hl=>?_,λl hl=>?_,hc⟩
 ·have:l.2.p∈z.map (·.2.p):=zb.mpr ⟨l,hl,rfl⟩
  rw[h.ps]at this;obtain⟨q,hq,e⟩:=zb.mp this;exact e▸s.p q hq
 ·have:l.2.n∈z.map (·.2.n):=zb.mpr ⟨l,hl,rfl⟩
  rw[h.ns]at this;obtain⟨q,hq,e⟩:=zb.mp this;exact e▸s.m q hq
theorem Shp.nil{ns:List Int}:Shp ns []:=⟨.nil,λl h=>(zf h).elim,λl h=>(zf h).elim,λl h=>(zf h).elim⟩
theorem Mq{α:Type} [DecidableEq α]:∀{l k:List α},l.Nodup->(∀x∈l,x∈k)->l.length<=k.length
 |[],_,_,_=>zK _
 |x::l,k,h,s=>by
  have h':=zR.mp h;have z:x∈k:=s x (.head _);have:=Mq (l:=l) (k:=k.erase x) h'.2 λy q=>(List.mem_erase_of_ne (λe=>by subst e;exact h'.1 q)).mpr (s y (.tail _ q));rw[List.length_erase_of_mem z]at this;have hp:0<k.length:=List.length_pos_of_mem z;rw[zE];omega
def Shp.len{ns:List Int}{ls:RL}(s:Shp ns ls):ls.length<=ns.length:=by
 have:=Mq s.u λn hn=>by
  obtain⟨l,q,rfl⟩:=zb.mp hn;exact s.m l q
 rwa [za]at this
def Nj(l:Addr×jk)(ls:RL):pcs (l::ls)=l.2.p+pcs ls:=zF
def ajn(a b:RL):pcs (a++b)=pcs a+pcs b:=by unfold pcs;rw[zj,yj]
theorem Ck:∀{ls:RL},(∀l∈ls,1<=l.2.p)->(ls.length:Int)<=pcs ls
 |[],_=>zze _
 |l::ls,h=>by
  have h1:=h l (.head _);have h2:=Ck (ls:=ls) λq z=>h q (.tail _ z);rw[Nj,zE];omega
theorem Mt:∀{ls:RL}{l:Addr×jk},(∀l∈ls,1<=l.2.p)->l∈ls->l.2.p<=pcs ls
 |q::ls,l,h,hl=>by
  rw[Nj];have h2:=Ck (ls:=ls) λq z=>h q (.tail _ z);rcases zt.mp hl with rfl|hl
  ·omega
  ·have:=Mt (ls:=ls) (λq z=>h q (.tail _ z)) hl
   have:=h q (.head _);omega
def Vk{a b:RL}(h:a.Perm b):pcs a=pcs b:=Mv (h.map (λl:Addr×jk=>l.2.p))
inductive Ln(vs:List V)(H:Hp)(Q:VK)(E:XK):Prop
 |mk (a p w:Int) (_:vs=[.int a,.int p,.int w]) (_:Bu a p) (_:FW 0 w) (_:Q (.int (a*p/w)) H):Ln vs H Q E
def Eb(T:Txt K mg A D):jQ P w K mg base CX0 1 A.abu D.abu ["amount", "part", "whole"] Ln:=by
 refine T.adw.F.okv Vt λ_ _ _ _ H vs Q E z h=>?_
 ·obtain⟨a,p,q,rfl,h1,h2,k⟩:=h
  refine⟨_,(iJ (jb (jc mK (jc mQ (pvD 0) (pvD 1)) (pvD 2)))),?_⟩;walk_at "a";exact⟨h1,h2,k⟩
inductive EY(A:Adr)(vs:List V)(H:Hp)(Q:VK)(E:XK):Prop
 |mk (x:Addr) (d:jk) (p:Int) (_:vs=[.ref x,.int p]) (_:mq A H x d) (_:Bu d.c p) (_:FW 0 d.p) (_:∀t y v H',Same H H'->H t=none->H' t=some (.tup [.ref y,v])->mq A H' y ⟨d.n,d.s,p,d.c*p/d.p⟩->(p=d.p->v=.non)->(p≠d.p->∃z,v=.ref z/\mq A H' z ⟨d.n,d.s,d.p - p,d.c - d.c*p/d.p⟩)->Q (.ref t) H'):EY A vs H Q E
def Qw(T:Txt K mg A D):jQ P w K mg base CX0 3 A.abz D.abz ["self", "pieces"] (EY A):=by
 refine T.adB.ok wC (by walk_at "v") (λ_ _ _ s H vs Q E hr h=>?_)
 ·obtain⟨x,⟨n,s,p,c⟩,p',rfl,⟨dx,hx⟩,m1,m2,k⟩:=h
  refine ⟨_,(iH (iY (i:=2) wC.nd rfl orl (pcg (Eb T) hr T.adw (Jm T) (iG (fv K 0) (pav 1 (iG (fv K 0) iI)))))
   (iH (iY (i:=3) wC.nd rfl orl (lK T.agm (jR (K:=K) T) (hr.mono (by decide)) (by rfl) T.aeG (jY T) .nil jB (iG (fv K 0) (iG (fv K 0) (pav 1 (pav 2 iI))))))
   (iH (kE (je (mR) (pvD 1) (fv K 0) (ji _)) (iJ (jb (nP (pav 3 (iG mF iI))))) jn)
   (iJ (jb (nP (pav 3 (iG (lK T.agm (jR (K:=K) T) (hr.mono (by decide)) (by rfl) T.aeG (jY T) .nil jB (iG (fv K 0) (iG (fv K 0) (iG (jc uf (fv K 0) (pvD 1)) (iG (jc uf (fv K 0) (pvD 2)) iI))))) iI)))))))),?_⟩
  simp only[start_eq];walk_at "m";refine rd hx T.af6 T.aga (by rfl) (rd hx T.af6 T.af9 (by rfl) ⟨c,p',p,rfl,m1,m2,?_⟩);walk_at "m";refine rd hx T.af6 T.af7 (by rfl) (rd hx T.af6 T.af8 (by rfl) (λy dy hy aa _=>?_));refine pZ (A:=A) ⟨n,s,p',c*p'/p⟩ hy aa λH1 s1 hY=>?_;have q:=s1 _ _ hx;walk_at "m";refine rd q T.af6 T.af9 (by rfl) ⟨rfl,?_⟩;by_cases e:p'=p
  ·rw[zl (by simp[e])]
   refine⟨sz,λt ht=>k t y .non _ (s1.trans (iR ht)) (s1.free ht) iK (hY.same (iR ht)) (λ_=>rfl) λh=>(h e).elim⟩
  ·rw[ze (by simp[e])]
   refine rd q T.af6 T.af7 (by rfl) (rd q T.af6 T.af8 (by rfl) (rd q T.af6 T.af9 (by rfl) ⟨_,rfl,rd q T.af6 T.aga (by rfl) ⟨_,rfl,λz dz hz ab _=>?_⟩⟩));refine pZ (A:=A) ⟨n,s,p - p',c - c*p'/p⟩ hz ab λH2 s2 hZ=>⟨sz,λt ht=>?_⟩;exact k t y (.ref z) _ (s1.trans (s2.trans (iR ht))) ((s1.trans s2).free ht) iK (hY.same (s2.trans (iR ht))) (λh=>(e h).elim) λ_=>⟨z,rfl,hZ.same (iR ht)⟩
noncomputable def shares(a W:Int):Int->List Int->List Int
 |_,[]=>[]
 |t,w::r=>(a*(t+w)/W - a*t/W)::shares a W (t+w) r
theorem Jt(a W:Int):∀(t:Int)(l:List Int)(x:Int),shares a W t (l++[x])=shares a W t l++[a*(t+l.sum+x)/W - a*(t+l.sum)/W]
 |t,[],x=>by simp[shares]
 |t,y::r,x=>by
  show _::shares a W (t+y) (r++[x])=_::shares a W (t+y) r++_;rw[Jt a W (t+y) r x,zF,Int.add_assoc t y r.sum];rfl
theorem xU(a W:Int):∀(t:Int)(l:List Int),(shares a W t l).length=l.length
 |_,[]=>rfl
 |t,y::r=>congrArg (·+1) (xU a W (t+y) r)
theorem El(a W:Int):∀(t:Int)(l:List Int),(shares a W t l).sum=a*(t+l.sum)/W - a*t/W
 |t,[]=>by simp[shares]
 |t,y::r=>by
  show((a*(t+y)/W - a*t/W)::shares a W (t+y) r).sum=_;rw[zF,El a W (t+y) r,zF,Int.add_assoc t y r.sum];omega
theorem oE:∀{l:List Int},(∀x∈l,0<=x)->0<=l.sum
 |[],_=>by simp
 |x::r,h=>by
  have h1:=h x zg;have h2:=oE (l:=r) λy q=>h y (zk _ q);rw[zF];omega
def Rw{l:List Int}(h:∀x∈l,0<=x)(i:Nat):0<=(l.take i).sum/\(l.take i).sum<=l.sum:=by
 have h1:0<=(l.take i).sum:=oE λx q=>h x (ye q);have h2:0<=(l.drop i).sum:=oE λx q=>h x (List.mem_of_mem_drop q);have z:l.sum=(l.take i).sum+(l.drop i).sum:=by rw[<-yj,y9]
 omega
theorem Zc{B:Int}:∀{l:List Int},(∀x∈l,x<=B)->l.sum<=(l.length:Int)*B
 |[],_=>by simp
 |x::r,h=>by
  have h1:=h x zg;have h2:=Zc (l:=r) λy q=>h y (zk _ q);rw[zF,zE,yyn,Int.add_mul];omega
inductive uc(K:Fg_)(vs:List V)(H:Hp)(Q:VK)(E:XK):Prop
 |mk (l:Addr) (ws:List Int) (_:vs=[.ref l]) (_:SqL K H l (ws.map V.int)) (_:(∀x∈ws,0<=x)) (_:0<ws.sum) (_:ws.length<=1000) (_:∀H',Same H H'->Q (.int ws.sum) H'):uc K vs H Q E
def Em(T:Txt K mg A D):jQ P w K mg base CX0 1 A.abt D.abt ["weights"] (uc K):=by
 refine T.adv.F.okv ud λ_ _ _ _ H vs Q E hr h=>?_
 ·obtain⟨l,ws,rfl,hS,h0,hp,hl,k⟩:=h
  refine ⟨_,(iH (kE (qw (jl (QM (K:=K) rfl) (by rfl) T.aeu (by decide+kernel) (iG (jW (cap:=[none]) (N':=["weight"]) rfl (by walk_at "c") (jD (K:=K) (pv 0)) (λ_ _ _ _=>(iW (i:=0) nd1 rfl orl orr)) (λ_ _ _ _=>jO) (λ_ _ _ _=>(uK (Ik) (pvD 0) iM (ji _)))) iI))) (iJ (lO)) jn)
   (iH (iY (i:=1) ud.nd rfl orl (jl (qC (K:=K) rfl) (by rfl) T.aer (by decide+kernel) (pav 0 iI)))
   (iH (kE (je (mR) (pvD 1) iM (ji _)) (iJ (lO)) jn)
   (iJ (jb (pvD 1)))))),?_⟩
  walk_at "a";refine⟨⟨_,hS⟩,?_⟩;refine kI.list (xs:=ws.map V.int) (λσ=>∃v,σ=[v]) (λ_=>true) (λv=>match v with|.int z=> .bl (decide (z<0))|_=> .non) hS ⟨none,rfl⟩ (by rw[za,zn];omega) ?_ ?_
  ·rintro x hx σ H5 R1 R2 ⟨v,rfl⟩ sm k1 k2
   obtain⟨c,_,rfl⟩:=zb.mp hx;walk_at "a";exact k1 rfl _ _ ⟨_,rfl⟩ (same_refl _)
  ·intro Da H' hD sm e
   rw[JX,zq]at e;walk_at "i";refine⟨ws.map λz=>decide (z<0),iT (by rw[e,zq];rfl),?_⟩
   have q:(ws.map λz=>decide (z<0)).any id=false:=by
    rw[List.any_eq_false];intro b hb;obtain⟨z,hz,rfl⟩:=zb.mp hb;have:=h0 z hz;simp only[id,decide_eq_true_eq];omega
   rw[q];walk_at "a";refine⟨ws,sm.seq hS,?_⟩;rw[ze (by omega)];exact k H' sm
inductive TF(K:Fg_)(vs:List V)(H:Hp)(Q:VK)(E:XK):Prop
 |mk (a:Int) (l:Addr) (ws:List Int) (_:vs=[.int a,.ref l]) (_:SqL K H l (ws.map V.int)) (_:(∀x∈ws,0<=x)) (_:0<ws.sum) (_:ws.length<=1000) (_:Bd a) (_:Bd ws.sum) (_:Oc H Q (shares a ws.sum 0 ws)):TF K vs H Q E
def Tn(T:Txt K mg A D):jQ P w K mg base CX0 2 A.abv D.abv ["amount", "weights"] (TF K):=by
 refine T.adx.F.okv qd λ_ _ _ _ H vs Q E hr h=>?_
 ·obtain⟨a,l,ws,rfl,hS,h0,hp,hl,ha,hw,k⟩:=h
  refine ⟨_,(iH (iY (i:=2) qd.nd rfl orl (pcg (Em T) hr T.adv (Gh T) (pav 1 iI)))
   (iH (iY (i:=3) qd.nd rfl orl (jV iI))
   (iH (iY (i:=4) qd.nd rfl orl iM)
   (iH (iY (i:=5) qd.nd rfl orl iM)
   (iH (oh zW rfl (jD (K:=K) (pv 1)) (iW (i:=6) qd.nd rfl orl)
    (iH (iY (i:=4) qd.nd rfl orl (jc kh (pvD 4) (pvD 6)))
    (iH (iY (i:=7) qd.nd rfl orl (pcg (Eb T) hr T.adw (Jm T) (pav 0 (pav 4 (pav 2 iI)))))
    (iH (jh (pW (K:=K) zL zU zV lW (pvD 3) (iG (jc uf (pvD 7) (pvD 5)) iI)))
    (iJ (iY (i:=5) qd.nd rfl orl (pvD 7)))))))
   (iJ (jb (pvD 3)))))))),?_⟩
  walk_at "a";refine⟨l,ws,rfl,hS,h0,hp,hl,λH1 s1=>?_⟩;walk_at "a";refine⟨zK _,λp ab=>⟨⟨_,(s1.trans (iR ab)).seq hS⟩,?_⟩⟩;have z:H p=none:=s1.free ab;have hd:FW 0 ws.sum:=hw.div hp
  refine pG (xs:=ws.map V.int) (λi σ H2=>(∃v6 v7,σ=[some (.int a),some (.ref l),some (.int ws.sum),some (.ref p),some (.int (ws.take i).sum),some (.int (a*(ws.take i).sum/ws.sum)),v6,v7])/\Same H H2/\H2 p=some (.lst ((shares a ws.sum 0 (ws.take i)).map V.int)))
   ⟨⟨none,none,by simp⟩,s1.upd z,by rw[iK];simp[shares]⟩ (λi σ H2 _ ⟨_,s2,_⟩=>s2.seq hS) ?_ ?_
  ·rintro i y σ H2 hi ⟨⟨v6,v7,rfl⟩,s2,h2⟩
   obtain⟨x,rfl,aa⟩:=uT hi;have ac:i<ws.length:=(zp.mp aa).1;have ht:ws.take (i+1)=ws.take i++[x]:=by rw[zI,aa];rfl
   have q:(ws.take (i+1)).sum=(ws.take i).sum+x:=by rw[ht,yj];simp
   have hb:=Rw h0 (i+1);rw[q]at hb;walk_at "a";refine⟨a,(ws.take i).sum+x,ws.sum,rfl,ha.mul (hw.of hb.1 hb.2),hd,?_⟩;walk_at "a";refine⟨tyL (iT h2),_,h2,?_,by rw[q],by rw[q],s2.upd z,?_⟩
   ·rw[za,xU,zO]
    exact Qo (by omega)
   ·rw[iK,ht,Jt,zj,Int.zero_add]
    rfl
  ·rintro σ H2 ⟨⟨v6,v7,rfl⟩,s2,h2⟩
   rw[za,zT]at h2;walk_at "a";exact k p H2 s2 z h2
def xV{ls:RL}{f:Addr×jk->Int}{acc:List V}(hl:acc.length=ls.length)(h:∀(i:Nat) v,acc[i]? =some v->∃l,ls[i]? =some l/\v=.int (f l)):acc=(ls.map f).map V.int:=by
 refine zzI (by simp[hl]) λi h1 h2=>?_;obtain⟨l,q,e2⟩:=h i acc[i] (by simp);rw[e2];have z:i<ls.length:=by omega
 have:ls[i]=l:=by
  rw[zr z]at q;exact zy q
 simp[this]
inductive Mf(A:Adr)(vs:List V)(H:Hp)(Q:VK)(E:XK):Prop
 |mk (q:Addr) (ls:RL) (_:vs=[.ref q]) (_:H q=some (.lst (jt ls))) (_:kO A H ls) (_:ls.length<=100) (_:∀H',Same H H'->Q (.int ((ls.map (·.2)).map jk.c).sum) H'):Mf A vs H Q E
def LR(T:Txt K mg A D):jQ P w K mg base CX0 1 A.aa5 D.aa5 ["lots"] (Mf A):=by
 refine T.ac8.F.okv Wt λ_ _ _ _ H vs Q E hr h=>?_
 ·obtain⟨q,ls,rfl,hq,hL,hl,k⟩:=h
  refine⟨_,(iJ (jb (jl (qC (K:=K) rfl) (by rfl) T.aer (by decide+kernel) (iG (jW (cap:=[none]) (N':=["lot"]) rfl (by walk_at "c") (jD (K:=K) (pv 0)) (λ_ _ _ _=>(iW (i:=0) nd1 rfl orl orr)) (λ_ _ _ _=>jO) (λ_ _ _ _=>(fv K 0))) iI)))),?_⟩;walk_at "a";refine⟨⟨_,iT hq⟩,?_⟩;refine kI.listE (K:=K) (λσ=>∃a,σ=[a]) (λi v _=>∃l,ls[i]? =some l/\v=.int l.2.c) (iT hq) ⟨_,rfl⟩ (by rw[iV,zn];omega) ?_ ?_
  ·rintro Da i x hx σ H5 R ⟨_,rfl⟩ sm hD _ kk
   obtain⟨l,z,rfl⟩:=jG hx;obtain⟨dx,ab⟩:=(hL l (get_mem z)).same sm;walk_at "i";exact rd ab T.af6 T.aga (by rfl) (kk _ _ H5 ⟨_,rfl⟩ (same_refl _) λH' _=>⟨l,z,rfl⟩)
  ·intro Da H' acc hD sm hA aa hF
   rw[xV (f:=λl=>l.2.c) (by rw[aa,iV]) hF]at hA;have ec:(ls.map (·.2)).map jk.c=ls.map (λl=>l.2.c):=by rw[zq];rfl
   rw[ec]at k;walk_at "a";exact⟨_,iT hA,k H' sm⟩
inductive Ey(A:Adr)(vs:List V)(H:Hp)(Q:VK)(E:XK):Prop
 |mk (q:Addr) (ls:RL) (_:vs=[.ref q]) (_:H q=some (.lst (jt ls))) (_:kO A H ls) (_:ls.length<=100) (_:∀H',Same H H'->Q (.int ((ls.map (·.2)).map jk.p).sum) H'):Ey A vs H Q E
def Fo(T:Txt K mg A D):jQ P w K mg base CX0 1 A.aa4 D.aa4 ["lots"] (Ey A):=by
 refine T.ac7.F.okv QS λ_ _ _ _ H vs Q E hr h=>?_
 ·obtain⟨q,ls,rfl,hq,hL,hl,k⟩:=h
  refine⟨_,(iJ (jb (jl (qC (K:=K) rfl) (by rfl) T.aer (by decide+kernel) (iG (jW (cap:=[none]) (N':=["lot"]) rfl (by walk_at "c") (jD (K:=K) (pv 0)) (λ_ _ _ _=>(iW (i:=0) nd1 rfl orl orr)) (λ_ _ _ _=>jO) (λ_ _ _ _=>(fv K 0))) iI)))),?_⟩;walk_at "a";refine⟨⟨_,iT hq⟩,?_⟩;refine kI.listE (K:=K) (λσ=>∃a,σ=[a]) (λi v _=>∃l,ls[i]? =some l/\v=.int l.2.p) (iT hq) ⟨_,rfl⟩ (by rw[iV,zn];omega) ?_ ?_
  ·rintro Da i x hx σ H5 R ⟨_,rfl⟩ sm hD _ kk
   obtain⟨l,z,rfl⟩:=jG hx;obtain⟨dx,ab⟩:=(hL l (get_mem z)).same sm;walk_at "i";exact rd ab T.af6 T.af9 (by rfl) (kk _ _ H5 ⟨_,rfl⟩ (same_refl _) λH' _=>⟨l,z,rfl⟩)
  ·intro Da H' acc hD sm hA aa hF
   rw[xV (f:=λl=>l.2.p) (by rw[aa,iV]) hF]at hA;have ec:(ls.map (·.2)).map jk.p=ls.map (λl=>l.2.p):=by rw[zq];rfl
   rw[ec]at k;walk_at "a";exact⟨_,iT hA,k H' sm⟩
noncomputable def jX(ls:RL):Int:=(ls.map (·.2.c)).sum
def mD(ls:RL):jX ls=((ls.map (·.2)).map jk.c).sum:=by unfold jX;rw[zq];rfl
def Qt(l:Addr×jk)(ls:RL):jX (l::ls)=l.2.c+jX ls:=zF
theorem Cj:∀{ls:RL},(∀l∈ls,0<=l.2.c)->0<=jX ls
 |[],_=>zze _
 |l::ls,h=>by
  have h1:=h l (.head _);have h2:=Cj (ls:=ls) λq z=>h q (.tail _ z);rw[Qt];omega
theorem GC:∀{ls:RL}{l:Addr×jk},(∀l∈ls,0<=l.2.c)->l∈ls->l.2.c<=jX ls
 |q::ls,l,h,hl=>by
  rw[Qt];have h2:=Cj (ls:=ls) λq z=>h q (.tail _ z);rcases zt.mp hl with rfl|hl
  ·omega
  ·have:=GC (ls:=ls) (λq z=>h q (.tail _ z)) hl
   have:=h q (.head _);omega
theorem Oa{a W:Int}(ha:0<=a)(hW:0<W):∀{l:List Int}{t:Int},(∀x∈l,0<=x)->∀y∈shares a W t l,0<=y
 |[],_,_,y,q=>(zf q).elim
 |x::r,t,h,y,q=>by
  rcases zt.mp q with rfl|q
  ·have h1:=h x (.head _)
   have:a*t/W<=a*(t+x)/W:=zzJ hW (yU (by omega) ha);omega
  ·exact Oa ha hW (λz hz=>h z (.tail _ hz)) y q
theorem aiG{H:Hp}:∀{acc:List V}{ls:RL}{cs:List Int},acc.length=ls.length->cs.length=ls.length->(∀(i:Nat) v,acc[i]? =some v->∃b l d,ls[i]? =some l/\v=.ref b/\mq A H b d/\d.n=l.2.n/\d.p=l.2.p/\cs[i]? =some d.c)->∃q:RL,acc=jt q/\kO A H q/\Sim ls q/\jX q=cs.sum/\∀m∈q,m.2.c∈cs
 |[],ls,cs,hl,hc,_=>by
  cases ls with
  |nil=>cases cs with
   |nil=>exact⟨[],rfl,λr h=>(zf h).elim,rfl,rfl,λr h=>(zf h).elim⟩
   |cons _ _=>simp at hc
  |cons _ _=>simp at hl
 |v::acc,ls,cs,hl,hc,h=>by
  cases ls with
  |nil=>simp at hl
  |cons l ls=>
   cases cs with
   |nil=>simp at hc
   |cons c cs=>
    obtain⟨b,l',d,e,rfl,hb,e1,e2,e3⟩:=h 0 v rfl;cases e;cases e3;obtain⟨q,g1,g2,g3,g4,g5⟩:=aiG (acc:=acc) (ls:=ls) (cs:=cs) (by simpa using hl) (by simpa using hc) λi v hv=>h (i+1) v hv;refine⟨(b,d)::q,by rw[g1];rfl,λr z=>?_,?_,?_,λr z=>?_⟩
    ·rcases zt.mp z with rfl|z
     ·exact hb
     ·exact g2 r z
    ·show VP (b,d)::q.map VP=VP l::ls.map VP
     rw[g3];unfold VP;rw[e1,e2]
    ·show d.c+jX q=d.c+cs.sum
     rw[g4]
    ·rcases zt.mp z with rfl|z
     ·exact .head _
     ·exact .tail _ (g5 r z)
inductive Oj(A:Adr)(vs:List V)(H:Hp)(Q:VK)(E:XK):Prop
 |mk (x q:Addr) (ls:RL) (_:vs=[.ref x,.ref q]) (_:H q=some (.lst (jt ls))) (_:kO A H ls) (_:ls.length<=100) (_:(∀l∈ls,1<=l.2.p)) (_:(∀l∈ls,0<=l.2.c)) (_:Bd (pcs ls)) (_:Bd (jX ls)) (_:∀p ms H',Same H H'->H p=none->H' p=some (.lst (jt ms))->kO A H' ms->Sim ls ms->jX ms=jX ls->(∀l∈ms,0<=l.2.c)->Q (.ref p) H'):Oj A vs H Q E
def qz(T:Txt K mg A D):jQ P w K mg base CX0 1 A.abx D.abx ["self", "lots"] (Oj A):=by
 refine T.adz.okv Ht λ_ _ _ _ H vs Q E hr h=>?_
 ·obtain⟨x,q,ls,rfl,hq,hL,hl,z,hc,hs,aa,k⟩:=h
  refine⟨_,(iJ (jb (jJ (tY (K:=K)) (by rfl) T.aeq (by decide+kernel) (pav 1 iI)))),?_⟩;simp only[start_eq];walk_at "i";exact⟨_,.inl (iT hq),λp z=>k p ls _ (iR z) z iK (hL.same (iR z)) rfl rfl hc⟩
def Fw(T:Txt K mg A D):jQ P w K mg base CX0 3 A.aby D.aby ["self", "lots"] (Oj A):=by
 refine T.adA.okv vo λ_ _ _ _ H vs Q E hr h=>?_
 ·obtain⟨x,q,ls,rfl,hq,hL,hl,hp,hc,hs,am,k⟩:=h
  refine ⟨_,(iH (kE (je (mR) (jl (mV (K:=K)) (by rfl) T.aef (by decide+kernel) (pav 1 iI)) iM (ji _)) (iJ (jb (jV iI))) jn)
   (iH (iY (i:=2) vo.nd rfl orl (pcg (Tn T) hr T.adx (Yt T) (iG (pcg (LR T) hr T.ac8 (QV T) (pav 1 iI)) (iG (jW (cap:=[none]) (N':=["lot"]) rfl (by walk_at "c") (jD (K:=K) (pv 1)) (λ_ _ _ _=>(iW (i:=0) nd1 rfl orl orr)) (λ_ _ _ _=>jO) (λ_ _ _ _=>(fv K 0))) iI))))
   (iJ (jb (jW (cap:=[none,none]) (N':=["lot", "cost"]) rfl (by walk_at "c") (Mg (K:=K) (by rfl) T.aet (pav 1 (pav 2 iI))) (λ_ _ _ _=>(pN (K:=K) (n:=2) rfl (jw (iW (i:=0) (show(["lot", "cost"]:List Str).Nodup from by decide+kernel) rfl orl orr) (jw (iW (i:=1) (show(["lot", "cost"]:List Str).Nodup from by decide+kernel) rfl orl orr) nQ)))) (λ_ _ _ _=>jO) (λ_ _ _ _=>(lK T.agm (jR (K:=K) T) (hr.mono (by decide)) (by rfl) T.aeG (jY T) .nil jB (iG (fv K 0) (iG (fv K 0) (iG (fv K 0) (pav 1 iI))))))))))),?_⟩
  simp only[start_eq];walk_at "n";refine⟨_,.inl (iT hq),?_⟩;rw[iV];have lz:∀n:Nat,n<=1000->n<=sizeLine:=λn h=>by rw[zn];omega
  by_cases h0:ls=[]
  ·subst h0
   rw[zl (by simp)];exact⟨lz _ (by decide),λp hp=>k p [] _ (iR hp) hp iK (λr h=>(zf h).elim) rfl rfl hc⟩
  ·have aw:0<ls.length:=yR.mpr h0
   rw[ze (by omega)];have ae:=Ck hp;walk_at "n";refine⟨q,ls,rfl,hq,hL,hl,λH1 s1=>⟨⟨_,iT (s1 _ _ hq)⟩,?_⟩⟩;refine kI.listE (K:=K) (λσ=>∃a,σ=[a]) (λi v _=>∃l,ls[i]? =some l/\v=.int l.2.p) (iT (s1 _ _ hq)) ⟨_,rfl⟩ (lz _ (by rw[iV];omega)) ?_ ?_
   ·rintro Da i x hx σ H5 R ⟨_,rfl⟩ sm hD _ kk
    obtain⟨l,ab,rfl⟩:=jG hx;obtain⟨dx,aa⟩:=(hL l (get_mem ab)).same (s1.trans sm);walk_at "i";exact rd aa T.af6 T.af9 (by rfl) (kk _ _ H5 ⟨_,rfl⟩ (same_refl _) λH' _=>⟨l,ab,rfl⟩)
   ·intro Da H2 acc hD sm hA ak as
    rw[xV (f:=λl=>l.2.p) (by rw[ak,iV]) as]at hA;have S2:=s1.trans sm;refine⟨_,Da,_,rfl,iT hA,λy hy=>?_,by show 0<pcs ls;omega,by rw[za];omega,by rw[<-mD];exact am,hs,λpc H3 s3 ax af=>?_⟩
    ·obtain⟨l,ab,rfl⟩:=zb.mp hy
     have:=hp l ab;omega
    have S3:=S2.trans s3
    try dsimp only
    rw[ap_ret];walk_at "i";refine⟨⟨_,iT (S3 _ _ hq)⟩,⟨_,iT af⟩,?_⟩;obtain⟨cs,ad⟩:∃cs,cs=shares ((ls.map (·.2)).map jk.c).sum (ls.map λl=>l.2.p).sum 0 (ls.map λl=>l.2.p):=⟨_,rfl⟩;have ai:cs.length=ls.length:=by rw[ad,xU,za]
    rw[<-ad]at af;refine kI.zipE (K:=K) (λσ=>∃a b,σ=[a,b]) (λi v H'=>∃b l d,ls[i]? =some l/\v=.ref b/\mq A H' b d/\d.n=l.2.n/\d.p=l.2.p/\cs[i]? =some d.c) (iT (S3 _ _ hq)) (iT af) (by rw[iV,za,ai]) ⟨_,_,rfl⟩ (lz _ (by rw[iV];omega)) ?_ ?_
    ·rintro Db i x y hx hy σ H5 p R ⟨_,_,rfl⟩ an ah ⟨aiY,al⟩ hp kk
     obtain⟨l,ab,rfl⟩:=jG hx;obtain⟨c,rfl,hc⟩:=uT hy;obtain⟨dx,aa⟩:=(hL l (get_mem ab)).same (S3.trans an);have aa:=iR (o:=.tup [V.ref l.1,V.int c]) hp _ _ aa;have ae:(upd H5 p (.tup [V.ref l.1,V.int c])) p=some (.tup [V.ref l.1,V.int c]):=iK;have aj:=iR (o:=.tup [V.ref l.1,V.int c]) hp _ _ al;generalize upd H5 p (.tup [V.ref l.1,V.int c])=H6 at aa ae aj kk;walk_at "i";refine⟨_,jH ae,rfl,_,_,rfl,_,_,rfl,rfl,?_⟩;refine rd aa T.af6 T.af7 (by rfl) (rd aa T.af6 T.af8 (by rfl) (rd aa T.af6 T.af9 (by rfl) (λz dz hz aq _=>?_)));exact pZ (A:=A) ⟨l.2.n,l.2.s,l.2.p,c⟩ hz aq λH7 s7 hZ=>kk (.ref z) _ H7 ⟨_,_,rfl⟩ s7 λH' hb=>⟨z,l,_,ab,rfl,hZ.but (λe=>by rw[e,aj]at hz;cases hz) hb,rfl,rfl,hc⟩
    ·intro Db H4 av ah au ar ac ao
     rw[iV]at ac;obtain⟨ms,q1,q2,q3,q4,q5⟩:=aiG ac ai ao;have ap:0<(ls.map λl=>l.2.p).sum:=by show 0<pcs ls;omega
     refine k Db ms H4 (S3.trans au) (S3.free ah) (q1▸ar) q2 q3 ?_ λl hl=>Oa (a:=((ls.map (·.2)).map jk.c).sum) (by rw[<-mD];exact Cj hc) ap (l:=ls.map λl=>l.2.p) (t:=0) (λy hy=>?_) _ (ad▸q5 l hl)
     rotate_left
     ·obtain⟨l',ag,rfl⟩:=zb.mp hy
      have:=hp l' ag;omega
     have hW:(ls.map λl=>l.2.p).sum≠0:=by show pcs ls≠0;omega
     rw[q4,ad,El,Int.zero_add,yS _ hW,Int.mul_zero,Int.zero_ediv,Int.sub_zero,mD]
inductive vh(A:Adr)(vs:List V)(H:Hp)(Q:VK)(E:XK):Prop
 |mk (x y:Addr) (d e:jk) (_:vs=[.ref x,.ref y]) (_:mq A H x d) (_:mq A H y e) (_:Bu d.c e.p) (_:Bu e.c d.p) (_:Q (.bl (decide (d.c*e.p>e.c*d.p))) H):vh A vs H Q E
def Gw(T:Txt K mg A D):jQ P w K mg base CX0 1 A.abE D.abE ["self", "other"] (vh A):=by
 refine T.adG.ok FZ (by walk_at "v") (λ_ _ _ s H vs Q E hr h=>?_)
 ·obtain⟨x,y,⟨n,s,p,c⟩,⟨n',s',p',c'⟩,rfl,⟨dx,q⟩,⟨dy,z⟩,m1,m2,k⟩:=h
  refine⟨_,(iJ (jb (uK (Gf) (jc mQ (fv K 0) (fv K 1)) (jc mQ (fv K 1) (fv K 0)) (ji _)))),?_⟩;walk_at "a";refine rd q T.af6 T.aga (by rfl) (?_);refine rd z T.af6 T.af9 (by rfl) (?_);exact⟨_,rfl,_,rfl,m1,rd z T.af6 T.aga (by rfl) (rd q T.af6 T.af9 (by rfl) ⟨_,rfl,_,rfl,m2,k⟩)⟩
abbrev PL:=List (Addr×Int×Int)
noncomputable def KH(ps:PL):List V:=ps.map λr=>V.ref r.1
noncomputable def alL(H:Hp)(ps:PL):Prop:=∀r∈ps,H r.1=some (.tup [.int r.2.1,.int r.2.2])
def Zo{ps:PL}{i:Nat}{y:V}(h:(KH ps)[i]? =some y):∃r,ps[i]? =some r/\y=.ref r.1:=by
 unfold KH at h;rw[zm]at h
 cases e:ps[i]? with
 |none=>rw[e]at h;cases h
 |some r=>rw[e]at h;exact⟨r,rfl,(zy h).symm⟩
def Rm(ps:PL):(KH ps).length=ps.length:=by unfold KH;rw[za]
noncomputable def Kp:List jk->Int->List (Int×Int)
 |[],_=>[]
 |d::ds,w=>if w<=0 then[]else(d.n,min d.p w)::Kp ds (w - min d.p w)
def aaf{ds:List jk}{w:Int}(h:w<=0):Kp ds w=[]:=by
 cases ds with
 |nil=>rfl
 |cons d ds=>rw[Kp,zl h]
inductive vC(A:Adr)(vs:List V)(H:Hp)(Q:VK)(E:XK):Prop
 |mk (q:Addr) (ls:RL) (w:Int) (_:vs=[.ref q,.int w]) (_:H q=some (.lst (jt ls))) (_:kO A H ls) (_:ls.length<=100) (_:∀pk ps H',Same H H'->H pk=none->H' pk=some (.lst (KH ps))->alL H' ps->ps.map (·.2)=Kp (ls.map (·.2)) w->Q (.ref pk) H'):vC A vs H Q E
def pM(T:Txt K mg A D):jQ P w K mg base CX0 1 A.abB D.abB ["lots", "pieces"] (vC A):=by
 refine T.adD.F.okv lC λ_ _ _ _ H vs Q E hr h=>?_
 ·obtain⟨q,ls,w,rfl,hq,hL,hl,k⟩:=h
  refine ⟨_,(iH (iY (i:=2) lC.nd rfl orl (jV iI))
   (iH (iY (i:=3) lC.nd rfl orl (pvD 1))
   (iH (oh zW rfl (jD (K:=K) (pv 0)) (iW (i:=4) lC.nd rfl orl)
    (iH (kE (je (aku) (pvD 3) iM (ji _)) (iJ (ZZ)) jn)
    (iH (iY (i:=5) lC.nd rfl orl (jl (Jz rfl) (by rfl) T.aeh (by decide+kernel) (iG (fv K 4) (pav 3 iI))))
    (iH (jh (pW (K:=K) zL zU zV lW (pvD 2) (iG (nP (iG (fv K 4) (pav 5 iI))) iI)))
    (iJ (iY (i:=3) lC.nd rfl orl (jc uf (pvD 3) (pvD 5))))))))
   (iJ (jb (pvD 2)))))),?_⟩
  simp only[start_eq];walk_at "m";refine⟨sz,λpk aa=>?_⟩;have S1:=iR (o:=.lst []) aa;have h1:(upd H pk (.lst [])) pk=some (.lst []):=iK;generalize upd H pk (.lst [])=H1 at S1 h1;walk_at "m";rw[ap_seq,ap_for];walk_at "i";refine⟨⟨_,iT (S1 _ _ hq)⟩,?_⟩
  refine Kr.listN (K:=K) (a:=q) (xs:=jt ls) (λi σ Hx=>∃(ps:PL)(wx:Int)(v4 v5:Option V),σ=[some (.ref q),some (.int w),some (.ref pk),some (.int wx),v4,v5]/\Same H Hx/\Hx pk=some (.lst (KH ps))/\alL Hx ps/\ps.length=i/\ps.map (·.2)++Kp ((ls.map (·.2)).drop i) wx=Kp (ls.map (·.2)) w)
   ⟨[],w,_,_,rfl,S1,h1,λr h=>(zf h).elim,rfl,rfl⟩ (λi σ Hx _ ⟨_,_,_,_,_,s,_⟩=>iT (s _ _ hq)) ?_ ?_
  ·rintro i y σ Hx hy ⟨ps,wx,v4,v5,rfl,Sx,z,hP,ad,he⟩ N hN
   obtain⟨l,ac,rfl⟩:=jG hy;obtain⟨dy,ae⟩:=(hL l (get_mem ac)).same Sx;have ag:i<ls.length:=(zp.mp ac).1
   have hd:(ls.map (·.2)).drop i=l.2::(ls.map (·.2)).drop (i+1):=by
    rw[zzh (by simpa using ag)];congr 1;rw[yyh,(zp.mp ac).2]
   walk_at "i";walk_at "m";by_cases hw:wx<=0
   ·rw[zl hw]
    refine k pk ps Hx Sx aa z hP ?_;rw[aaf hw,yo]at he;exact he
   ·rw[ze hw]
    walk_at "m";refine rd ae T.af6 T.af9 (by rfl) (?_);refine⟨_,_,rfl,?_⟩;walk_at "m";refine⟨.inl ⟨rfl,_,iT z⟩,rd ae T.af6 T.af7 (by rfl) ⟨sz,λt ht=>⟨_,iR ht _ _ z,by rw[Rm,zn];omega,?_⟩⟩⟩;have em:(if wx<l.2.p then wx else l.2.p)=min l.2.p wx:=by split<;>omega
    rw[em];have ab:=iR (o:=.tup [V.int l.2.n,V.int (min l.2.p wx)]) ht;have af:pk≠t:=jT z ht;refine hN _ _ ⟨ps++[(t,l.2.n,min l.2.p wx)],_,_,_,rfl,(Sx.trans ab).upd aa,?_,λr hr=>?_,by rw[zB,ad];rfl,?_⟩
    ·rw[iK];unfold KH;rw[zj];rfl
    ·rcases zA.mp hr with hr|hr
     ·have e1:=hP r hr
      exact(iZ λe=>by rw[e,z]at e1;cases e1).trans (ab _ _ e1)
     ·obtain rfl:=zu.mp hr
      exact(iZ af.symm).trans iK
    ·rw[hd,Kp,ze hw]at he
     rw[zj,zza,<-he];rfl
  ·rintro σ Hx ⟨ps,wx,v4,v5,rfl,Sx,z,hP,ad,he⟩
   walk_at "a";refine k pk ps Hx Sx aa z hP ?_;rw[zzy (by rw[za,iV];exact zo _),Kp,yo]at he;exact he
structure PkS(ls:RL)(ks:List (Int×Int))(w:Int):Prop where
 u:(ks.map (·.1)).Nodup
 h:∀k∈ks,∃l∈ls,l.2.n=k.1/\1<=k.2/\k.2<=l.2.p
 s:(ks.map (·.2)).sum=w
def PkS.perm{ls q:RL}{ks:List (Int×Int)}{w:Int}(h:PkS ls ks w)(p:ls.Perm q):PkS q ks w:=⟨h.u,λk z=>let⟨l,a,b⟩:=h.h k z;⟨l,p.mem_iff.mp a,b⟩,h.s⟩
theorem Aa:∀{ls:RL}{w:Int},(ls.map (·.2.n)).Nodup->(∀l∈ls,1<=l.2.p)->0<=w->w<=pcs ls->PkS ls (Kp (ls.map (·.2)) w) w
 |[],w,_,_,h0,h1=>by
  have:w=0:=by have:pcs []=0:=rfl;omega
  subst this;exact⟨.nil,λk h=>(zf h).elim,rfl⟩
 |l::ls,w,hu,hp,h0,h1=>by
  rw[zi,Kp];split
  ·have:w=0:=by omega
   subst this;exact⟨.nil,λk h=>(zf h).elim,rfl⟩
  ·rename_i hw
   have hl:=hp l (.head _);rw[Nj]at h1;have hu':=zR.mp hu;have aa:=Ck (ls:=ls) λq hq=>hp q (.tail _ hq);have ih:=Aa (ls:=ls) (w:=w - min l.2.p w) hu'.2 (λq hq=>hp q (.tail _ hq)) (by omega) (by omega);refine⟨zR.mpr ⟨λz=>?_,ih.u⟩,λk hk=>?_,?_⟩
   ·obtain⟨k,hk,e⟩:=zb.mp z
    obtain⟨q,hq,e2,_⟩:=ih.h k hk;exact hu'.1 (zb.mpr ⟨q,hq,e2.trans e⟩)
   ·rcases zt.mp hk with rfl|hk
    ·exact⟨l,.head _,rfl,by show 1<=min l.2.p w;omega,by show min l.2.p w<=_;omega⟩
    ·obtain⟨q,hq,r⟩:=ih.h k hk
     exact⟨q,.tail _ hq,r⟩
   ·rw[zi,zF,ih.s]
    show min l.2.p w+_=w;omega
inductive vI(A:Adr)(vs:List V)(H:Hp)(Q:VK)(E:XK):Prop
 |mk (q:Addr) (ls:RL) (_:vs=[.ref q]) (_:H q=some (.lst (jt ls))) (_:kO A H ls) (_:ls.length<=100) (_:(∀l∈ls,1<=l.2.p/\Bd l.2.p/\Bd l.2.c)) (_:∀p ms H',Same H H'->H p=none->H' p=some (.lst (jt ms))->kO A H' ms->ms.Perm ls->Q (.ref p) H'):vI A vs H Q E
def Gr(T:Txt K mg A D):jQ P w K mg base CX0 2 A.abF D.abF ["lots"] (vI A):=by
 refine T.adH.F.okv mY λ_ _ _ _ H vs Q E hr h=>?_
 ·obtain⟨q,ls,rfl,hq,hL,hl,hp,k⟩:=h
  refine ⟨_,(iH (iY (i:=1) mY.nd rfl orl (jV iI))
   (iH (oh zW rfl (jD (K:=K) (pv 0)) (iW (i:=2) mY.nd rfl orr)
    (iH (nC (i:=3) mY.nd rfl rfl (cap:=[none,none,some 2]) (N':=["place", "other", "lot"]) rfl (by walk_at "c") (Xg (K:=K) (by rfl) T.ael (pav 1 iI)) (λ_ _ _ _=>(pN (K:=K) (n:=2) rfl (jw (iW (i:=0) (show(["place", "other", "lot"]:List Str).Nodup from by decide+kernel) rfl orl orr) (jw (iW (i:=1) (show(["place", "other", "lot"]:List Str).Nodup from by decide+kernel) rfl orl orr) nQ)))) (λ_ _ _ _=>(JD (qw (jy (pv 2) (mc T.af6 T.agK (Gw T) hr (Hi T) .nil) jB (pav 1 iI))))) (λ_ _ _ _=>(pvD 0)))
    (iJ (jh (pW (K:=K) zL PySem.F.slot_list_insert PySem.F.type_list_insert Xw (pvD 1) (iG (ahK (K:=K) (by rfl) (ajR rfl (by rfl) T.aeh (pav 3 iI) (jl (mV (K:=K)) (by rfl) T.aef (by decide+kernel) (pav 1 iI)))) (pav 2 iI)))))))
   (iJ (jb (pvD 1))))),?_⟩
  simp only[start_eq];walk_at "n";refine⟨sz,λpt ae=>?_⟩;have S1:=iR (o:=.lst []) ae;have h1:(upd H pt (.lst [])) pt=some (.lst []):=iK;generalize upd H pt (.lst [])=H1 at S1 h1
  try dsimp only
  rw[ap_seq,ap_for];walk_at "i";refine⟨⟨_,iT (S1 _ _ hq)⟩,?_⟩
  refine Kr.listN (K:=K) (a:=q) (xs:=jt ls) (λi σ Hx=>∃(ts:RL)(v2 v3:Option V),σ=[some (.ref q),some (.ref pt),v2,v3]/\Same H Hx/\Hx pt=some (.lst (jt ts))/\ts.Perm (ls.take i))
   ⟨[],_,_,rfl,S1,h1,.refl _⟩ (λi σ Hx _ ⟨_,_,_,_,s,_⟩=>iT (s _ _ hq)) ?_ ?_
  ·rintro i y σ Hx hi ⟨ts,v2,v3,rfl,Sx,hx,aa⟩ N hN
   obtain⟨l,ac,rfl⟩:=jG hi;obtain⟨dy,ai⟩:=(hL l (get_mem ac)).same Sx;have aq:i<ls.length:=(zp.mp ac).1;have ao:ts.length<=100:=by rw[aa.length_eq,zO];omega
   have ak:∀m∈ts,m∈ls:=λm hm=>ye (aa.mem_iff.mp hm);walk_at "n";refine⟨⟨_,iT hx⟩,?_⟩;refine kI.enumI (K:=K) (λσ=>∃a b,σ=[a,b,some (.ref l.1)]) (λj=>((ts.map (·.2))[j]?).any λe=>decide (l.2.c*e.p>e.c*l.2.p)) (iT hx) ⟨_,_,rfl⟩ (by rw[iV,zn];omega) ?_ ?_
   ·rintro j x aj σ H5 qt R1 R2 ⟨_,_,rfl⟩ s5 an k1 k2
    obtain⟨m,hm,rfl⟩:=jG aj;have ah:=ak m (get_mem hm);have p1:=hp l (get_mem ac);have p2:=hp m ah;walk_at "i";refine⟨_,jH an,rfl,_,_,rfl,_,_,rfl,rfl,md (s5 _ _ ai) zg (by rfl) ⟨l.1,m.1,l.2,m.2,rfl,⟨dy,s5 _ _ ai⟩,(hL m ah).same (Sx.trans s5),p1.2.2.mul p2.2.1,p2.2.2.mul p1.2.1,_,rfl,?_⟩⟩;have ag:(((ts.map (·.2))[j]?).any λe=>decide (l.2.c*e.p>e.c*l.2.p))=decide (l.2.c*m.2.p>m.2.c*l.2.p):=by rw[zm,hm];rfl
    by_cases c:l.2.c*m.2.p>m.2.c*l.2.p
    ·rw[zl (zM c)]
     exact k1 (ag.trans (zM c)) _ H5 ⟨_,_,rfl⟩ (same_refl _)
    ·rw[ze (λz=>c (ym z))]
     exact k2 (ag.trans (zQ c)) _ H5 ⟨_,_,rfl⟩ (same_refl _)
   ·intro Dc H2 hD s2 af
    rw[iV]at af;obtain⟨js,ad⟩:∃js,js=(List.range ts.length).filter λj=>((ts.map (·.2))[j]?).any λe=>decide (l.2.c*e.p>e.c*l.2.p):=⟨_,rfl⟩;have al:∀j∈js,j<ts.length:=λj hj=>yH.mp (z6.mp (ad▸hj)).1;have am:js.Pairwise (·<·):=ad▸List.pairwise_lt_range.filter _;rw[<-ad]at af;have ab:=s2 _ _ hx
    (try dsimp only)
    walk_at "i";refine⟨.inl ⟨rfl,_,iT ab⟩,_,.inl (iT ab),js.map λi:Nat=>(i:Int),iT (by rw[af,zq];rfl),yv.mpr (am.imp λh=>by omega),?_⟩;rw[iV]
    obtain ⟨n0,e0,ap⟩:∃n0:Nat,(js.map λi:Nat=>(i:Int)).headD (ts.length:Int)=n0/\n0<=ts.length:=by
     cases js with
     |nil=>exact⟨ts.length,rfl,zo _⟩
     |cons j js=>exact⟨j,rfl,zzs (al j (.head _))⟩
    rw[e0];refine⟨pt,jt ts,(n0:Int),.ref l.1,rfl,rfl,ab,by omega,by rw[iV];omega,by omega,by rw[iV,zn];omega,hN _ _ ⟨ts.take n0++l::ts.drop n0,_,_,rfl,(Sx.trans s2).upd ae,?_,?_⟩⟩
    ·rw[iK,zz7]
     unfold jt;rw[zj,zi,zzM,List.map_drop]
    ·rw[zI,ac]
     refine List.Perm.trans ?_ (aa.append_right _);refine List.perm_middle.trans ?_;rw[y9];exact(List.perm_append_singleton _ _).symm
  ·rintro σ Hx ⟨ts,v2,v3,rfl,Sx,hx,aa⟩
   walk_at "a";rw[iV,zT]at aa;exact k pt ts Hx Sx ae hx (λr hr=>(hL r (aa.mem_iff.mp hr)).same Sx) aa
inductive Ds(A:Adr)(vs:List V)(H:Hp)(Q:VK)(E:XK):Prop
 |mk (x q:Addr) (ls:RL) (w:Int) (_:vs=[.ref x,.ref q,.int w]) (_:H q=some (.lst (jt ls))) (_:kO A H ls) (_:ls.length<=100) (_:(ls.map (·.2.n)).Nodup) (_:(∀l∈ls,1<=l.2.p/\Bd l.2.p/\Bd l.2.c)) (_:0<=w) (_:w<=pcs ls) (_:∀pk ps H',Same H H'->H pk=none->H' pk=some (.lst (KH ps))->alL H' ps->PkS ls (ps.map (·.2)) w->Q (.ref pk) H'):Ds A vs H Q E
def wk(T:Txt K mg A D):jQ P w K mg base CX0 2 A.abC D.abC ["self", "lots", "pieces"] (Ds A):=by
 refine T.adE.okv Hl λ_ _ _ _ H vs Q E hr h=>?_
 ·obtain⟨x,q,ls,w,rfl,hq,hL,z,hu,hp,h0,h1,k⟩:=h
  refine⟨_,(iJ (jb (pcg (pM T) hr T.adD (qJ T) (pav 1 (pav 2 iI))))),?_⟩;simp only[start_eq];walk_at "i";exact⟨q,ls,w,rfl,hq,hL,z,λpk ps H' s hn h hP e=>k pk ps H' s hn h hP (e▸Aa hu (λl z=>(hp l z).1) h0 h1)⟩
def Ia(T:Txt K mg A D):jQ P w K mg base CX0 2 A.abD D.abD ["self", "lots", "pieces"] (Ds A):=by
 refine T.adF.okv Iz λ_ _ _ _ H vs Q E hr h=>?_
 ·obtain⟨x,q,ls,w,rfl,hq,hL,hl,hu,hp,h0,h1,k⟩:=h
  refine⟨_,(iJ (jb (pcg (pM T) hr T.adD (qJ T) (iG (RZ (K:=K) (by rfl) (Wq rfl (by rfl) T.aeq (by rfl) T.aev (pav 1 iI))) (pav 2 iI))))),?_⟩;simp only[start_eq];walk_at "i";refine⟨_,iT hq,λl aa=>?_⟩;have z:=List.reverse_perm ls;have s1:=iR (o:=.lst (jt ls).reverse) aa;refine⟨l,ls.reverse,w,rfl,by rw[iK];unfold jt;rw[List.map_reverse],λr hr=>(hL r (z.mem_iff.mp hr)).same s1,by rw[z.length_eq];exact hl,λpk ps H' s hn h hP e=>k pk ps H' (s1.trans s) (s1.free hn) h hP (e▸(Aa ((z.map (λl:Addr×jk=>l.2.n)).nodup_iff.mpr hu) (λl hl=>(hp l (z.mem_iff.mp hl)).1) h0 (by rw[Vk z];exact h1)).perm z)⟩
def Fy(T:Txt K mg A D):jQ P w K mg base CX0 3 A.abG D.abG ["self", "lots", "pieces"] (Ds A):=by
 refine T.adI.okv Ge λ_ _ _ _ H vs Q E hr h=>?_
 ·obtain⟨x,q,ls,w,rfl,hq,hL,hl,hu,hp,h0,h1,k⟩:=h
  refine⟨_,(iJ (jb (pcg (pM T) hr T.adD (qJ T) (iG (pcg (Gr T) hr T.adH (GR T) (pav 1 iI)) (pav 2 iI))))),?_⟩;simp only[start_eq];walk_at "i";refine⟨q,ls,rfl,hq,hL,hl,hp,λp ms H1 s1 ac ab aa z=>?_⟩;refine⟨p,ms,w,rfl,ab,aa,by rw[z.length_eq];exact hl,λpk ps H' s hn h hP e=>k pk ps H' (s1.trans s) (s1.free hn) h hP (e▸(Aa ((z.map (λl:Addr×jk=>l.2.n)).nodup_iff.mpr hu) (λl hl=>(hp l (z.mem_iff.mp hl)).1) h0 (by rw[Vk z];exact h1)).perm z)⟩
abbrev Pk:=List (Int×Int)
noncomputable def nj(ks:Pk)(d:jk):jk:=match ks.lookup d.n with
 |some w=>⟨d.n,d.s,d.p - w,d.c - d.c*w/d.p⟩
 |none=>d
noncomputable def Br(ds:List jk)(k:Int×Int):jk:=match ds.find? (λd=>d.n==k.1)with
 |some d=>⟨d.n,d.s,k.2,d.c*k.2/d.p⟩
 |none=>⟨0,0,0,0⟩
noncomputable def QX(ks:Pk)(ds:List jk):List jk:=(ds.map (nj ks)).filter λd=>decide (0<d.p)
structure Tc(ds:List jk):Prop where
 u:(ds.map jk.n).Nodup
 g:∀d∈ds,1<=d.p/\Bd d.p/\0<=d.c/\Bd d.c
 l:ds.length<=63
structure akh(ds:List jk)(ks:Pk):Prop where
 u:(ks.map (·.1)).Nodup
 h:∀k∈ks,∃d∈ds,d.n=k.1/\1<=k.2/\k.2<=d.p
noncomputable def kz(ds:List jk)(vs:List V):List (Key×V):=List.zipWith (λd v=>((Sum.inl d.n:Key),v)) ds vs
theorem Xy:∀{ds:List jk}{vs:List V}{j:Nat}{d:jk}{v:V},(ds.map jk.n).Nodup->ds[j]? =some d->vs[j]? =some v->pF (kz ds vs) (Sum.inl d.n)=some v
 |[],_,_,_,_,_,h,_=>by simp at h
 |_::_,[],_,_,_,_,_,h=>by simp at h
 |d0::ds,v0::vs,0,d,v,_,h1,h2=>by
  cases h1;cases h2;exact lu rfl
 |d0::ds,v0::vs,j+1,d,v,hu,h1,h2=>by
  rw[zi,zR]at hu;have h1':ds[j]? =some d:=h1
  have q:¬((Sum.inl d0.n:Key)=Sum.inl d.n):=λe=>hu.1 (by
   have e':d0.n=d.n:=zz6 e;rw[e'];exact zb.mpr ⟨d,zh h1',rfl⟩)
  show pF ((Sum.inl d0.n,v0)::kz ds vs) _=_;rw[kJ q];exact Xy hu.2 h1' h2
theorem aip:∀{ds:List jk}{vs:List V}{j:Nat}{d:jk}{v':V},(ds.map jk.n).Nodup->ds[j]? =some d->(kz ds vs).map (λq=>if q.1=(Sum.inl d.n:Key)then(q.1,v')else q)=kz ds (vs.set j v')
 |[],_,_,_,_,_,h=>by simp at h
 |d0::ds,[],j,d,v',_,_=>by simp[kz]
 |d0::ds,v0::vs,0,d,v',hu,h1=>by
  cases h1;rw[zi,zR]at hu;show(if(Sum.inl d0.n:Key)=Sum.inl d0.n then((Sum.inl d0.n:Key),v')else _)::(kz ds vs).map _=(Sum.inl d0.n,v')::kz ds vs;rw[zl rfl];congr 1;refine(zZ λq aa=>?_).trans (yyp _);rw[ze]
  ·rfl
  ·intro e
   obtain⟨i,hi,e2⟩:=z9 aa;have hd:i<ds.length:=by simp[kz]at hi;omega
   have:q.1=Sum.inl ds[i].n:=by rw[<-e2];simp[kz]
   rw[this]at e;exact hu.1 (by rw[<-zz6 e];exact zb.mpr ⟨ds[i],yT hd,rfl⟩)
 |d0::ds,v0::vs,j+1,d,v',hu,h1=>by
  rw[zi,zR]at hu;have h1':ds[j]? =some d:=h1
  have z:¬((Sum.inl d0.n:Key)=Sum.inl d.n):=λe=>hu.1 (by
   have e':d0.n=d.n:=zz6 e;rw[e'];exact zb.mpr ⟨d,zh h1',rfl⟩)
  show(if(Sum.inl d0.n:Key)=Sum.inl d.n then _ else((Sum.inl d0.n:Key),v0))::(kz ds vs).map _=(Sum.inl d0.n,v0)::kz ds (vs.set j v');rw[ze z,aip hu.2 h1']
def alg{ds:List jk}{vs:List V}{j:Nat}{d:jk}{v z:V}(q:(ds.map jk.n).Nodup)(h1:ds[j]? =some d)(h2:vs[j]? =some v):putK (kz ds vs) (Sum.inl d.n) z=kz ds (vs.set j z):=by
 unfold putK;rw[zl (by rw[oU,Xy q h1 h2];rfl)];exact aip q h1
theorem Yd:∀{ds:List jk}{vs:List V}{n:Int},n∉ds.map jk.n->pF (kz ds vs) (Sum.inl n)=none
 |[],_,_,_=>rfl
 |_::_,[],_,_=>rfl
 |d::ds,v::vs,n,h=>by
  rw[zi,zt,not_or]at h;show pF ((Sum.inl d.n,v)::kz ds vs) _=_;rw[kJ (λe=>h.1 (zz6 e).symm)];exact Yd h.2
def aky{ds:List jk}{vs:List V}{d:jk}{v:V}(q:vs.length=ds.length)(h:d.n∉ds.map jk.n):putK (kz ds vs) (Sum.inl d.n) v=kz (ds++[d]) (vs++[v]):=by
 unfold putK;rw[ze (by rw[oU,Yd h];simp)];unfold kz;rw[List.zipWith_append q.symm];rfl
theorem Xk:∀{ds:List jk}{vs:List V},vs.length=ds.length->(kz ds vs).map (·.2)=vs
 |[],[],_=>rfl
 |[],_::_,h=>by simp at h
 |_::_,[],h=>by simp at h
 |d::ds,v::vs,h=>by
  show v::(kz ds vs).map (·.2)=_;rw[Xk (by simpa using h)]
def aik{ds:List jk}{vs:List V}(h:vs.length=ds.length):(kz ds vs).length=ds.length:=by simp[kz,h]
def PN{ks:Pk}{n:Int}(h:n∉ks.map (·.1)):ks.lookup n=none:=by
 induction ks with
 |nil=>rfl
 |cons k ks ih=>
  rw[zi,zt,not_or]at h;have e:(n==k.1)=false:=by simpa using h.1
  obtain⟨a,b⟩:=k;show(match n==a with|true=>some b|false=>ks.lookup n)=_;rw[show(n==a)=false from e];exact ih h.2
def Qa{ks:Pk}{n w:Int}(m:Int):(ks++[(n,w)]).lookup m=match ks.lookup m with|some x=>some x|none=>if m=n then some w else none:=by
 induction ks with
 |nil=>
  show(match m==n with|true=>some w|false=>none)=_;by_cases e:m=n
  ·simp[e]
  ·have e':(m==n)=false:=by simpa using e
   rw[e'];simp[e]
 |cons k ks ih=>
  obtain⟨a,b⟩:=k;show(match m==a with|true=>some b|false=>(ks++[(n,w)]).lookup m)=match(match m==a with|true=>some b|false=>ks.lookup m)with|some x=>some x|none=>_
  cases m==a with
  |true=>rfl
  |false=>exact ih
def JB{ks:Pk}{n w:Int}{d:jk}(h:d.n≠n):nj (ks++[(n,w)]) d=nj ks d:=by
 unfold nj;rw[Qa]
 cases ks.lookup d.n with
 |none=>simp[h]
 |some x=>rfl
def Uv{ks:Pk}{w:Int}{d:jk}(h:d.n∉ks.map (·.1)):nj (ks++[(d.n,w)]) d=⟨d.n,d.s,d.p - w,d.c - d.c*w/d.p⟩:=by
 unfold nj;rw[Qa,PN h];simp
def Uj{ks:Pk}{d:jk}(h:d.n∉ks.map (·.1)):nj ks d=d:=by
 unfold nj;rw[PN h]
def some_at{ds:List jk}{d:jk}{w:Int}(q:(ds.map jk.n).Nodup)(h:d∈ds):Br ds (d.n,w)=⟨d.n,d.s,w,d.c*w/d.p⟩:=by
 have:ds.find? (λe=>e.n==d.n)=some d:=by
  induction ds with
  |nil=>cases h
  |cons e ds ih=>
   rw[zi,zR]at q;rcases zt.mp h with rfl|h
   ·simp
   ·have:e.n≠d.n:=λz=>q.1 (by rw[z];exact zb.mpr ⟨d,h,rfl⟩)
    rw[List.find?_cons_of_neg (by simpa using this)];exact ih q.2 h
 unfold Br;rw[this]
def Uc{ks:Pk}{i:Nat}{k:Int×Int}(h:(ks.map (·.1)).Nodup)(e:ks[i]? =some k):k.1∉(ks.take i).map (·.1):=by
 intro hm;have h2:ks.map (·.1)=(ks.take i).map (·.1)++(ks.drop i).map (·.1):=by rw[<-zj,y9]
 rw[h2]at h;exact(zzc.mp h).2.2 _ hm k.1 (zb.mpr ⟨k,by rw[List.mem_iff_getElem?];exact⟨0,by rw[List.getElem?_drop];exact e⟩,rfl⟩) rfl
theorem Qg:∀{l k:List Int},l.Nodup->(∀x∈l,x∈k)->l.length<=k.length
 |[],_,_,_=>zK _
 |x::l,k,h,s=>by
  have h':=zR.mp h;have z:x∈k:=s x (.head _);have:=Qg (l:=l) (k:=k.erase x) h'.2 λy q=>(List.mem_erase_of_ne (λe=>by subst e;exact h'.1 q)).mpr (s y (.tail _ q));rw[List.length_erase_of_mem z]at this;have hp:0<k.length:=List.length_pos_of_mem z;rw[zE];omega
def mq.put{H:Hp}{x l:Addr}{d:jk}{o:HO}(h:mq A H x d)(q:∀C dx fs,H l≠some (.ins C dx fs)):mq A (upd H l o) x d:=by
 obtain⟨dx,e⟩:=h;exact⟨dx,(iZ λz=>q _ _ _ (z▸e)).trans e⟩
noncomputable def OkV(A:Adr)(H:Hp)(d:jk)(v:V):Prop:=(0<d.p/\∃x,v=.ref x/\mq A H x d)\/(d.p=0/\v=.non)
theorem OkV.same{H H':Hp}{d:jk}{v:V}(h:OkV A H d v)(s:Same H H'):OkV A H' d v:=h.imp (fun⟨a,x,e,l⟩=>⟨a,x,e,l.same s⟩) id
theorem OkV.put{H:Hp}{d:jk}{v:V}{l:Addr}{o:HO}(h:OkV A H d v)(q:∀C dx fs,H l≠some (.ins C dx fs)):OkV A (upd H l o) d v:=h.imp (fun⟨a,x,e,i⟩=>⟨a,x,e,i.put q⟩) id
theorem Ys{H:Hp}:∀{ds:List jk}{vs:List V},vs.length=ds.length->(∀(j:Nat) d v,ds[j]? =some d->vs[j]? =some v->OkV A H d v)->∃q:RL,(vs.filter λv=>decide (v≠.non))=jt q/\q.map (·.2)=(ds.filter λd=>decide (0<d.p))/\kO A H q
 |[],[],_,_=>⟨[],rfl,rfl,λr h=>(zf h).elim⟩
 |[],_::_,h,_=>by simp at h
 |_::_,[],h,_=>by simp at h
 |d::ds,v::vs,hl,h=>by
  obtain⟨q,e1,e2,e3⟩:=Ys (ds:=ds) (vs:=vs) (by simpa using hl) λj d v h1 h2=>h (j+1) d v h1 h2;rcases h 0 d v rfl rfl with⟨z,x,rfl,hx⟩|⟨z,rfl⟩
  ·refine⟨(x,d)::q,?_,?_,λr hr=>?_⟩
   ·rw[yc (by simp),e1];rfl
   ·rw[yc (by simpa using z),zi,e2]
   ·rcases zt.mp hr with rfl|hr
    ·exact hx
    ·exact e3 r hr
  ·refine⟨q,?_,?_,e3⟩
   ·rw[yd (by simp),e1]
   ·rw[yd (by simp[z]),e2]
noncomputable def kfH(H:Hp):V->Key
 |.ref b=>match H b with
  |some (.tup [.int n,_])=>Sum.inl n
  |_=>Sum.inl 0
 |_=>Sum.inl 0
noncomputable def vfH(H:Hp):V->V
 |.ref b=>match H b with
  |some (.tup [_,v])=>v
  |_=> .non
 |_=> .non
def ain{H:Hp}{b:Addr}{n:Int}{v:V}(h:H b=some (.tup [.int n,v])):kfH H (.ref b)=Sum.inl n:=by
 show(match H b with|some (.tup [.int n,_])=>Sum.inl n|_=>Sum.inl 0)=_;rw[h]
def aiz{H:Hp}{b:Addr}{n:Int}{v:V}(h:H b=some (.tup [.int n,v])):vfH H (.ref b)=v:=by
 show(match H b with|some (.tup [_,v])=>v|_=> .non)=_;rw[h]
theorem Yh{H:Hp}:∀{ls:RL}{ys:List V}{pre:RL},ys.length=ls.length->(∀(i:Nat) y,ys[i]? =some y->∃b l,ls[i]? =some l/\y=.ref b/\H b=some (.tup [.int l.2.n,.ref l.1]))->((pre++ls).map λr=>r.2.n).Nodup->
  ys.foldl (λa y=>putK a (kfH H y) (vfH H y)) (kz (pre.map (·.2)) (jt pre))=kz ((pre++ls).map (·.2)) (jt (pre++ls))
 |[],[],pre,_,_,_=>by rw[yo];rfl
 |[],_::_,_,h,_,_=>by simp at h
 |_::_,[],_,h,_,_=>by simp at h
 |l::ls,y::ys,pre,hl,h,hu=>by
  obtain⟨b,l',e1,rfl,q⟩:=h 0 y rfl;cases e1;rw[yh,ain q,aiz q]
  have hn:l.2.n∉(pre.map (·.2)).map jk.n:=by
   rw[zj,zi]at hu;intro hm;rw[zq]at hm;exact(zzc.mp hu).2.2 _ hm _ zg rfl
  rw[aky (by rw[iV,za]) hn];have e2:pre.map (·.2)++[l.2]=(pre++[l]).map (·.2):=by rw[zj];rfl
  have e3:jt pre++[V.ref l.1]=jt (pre++[l]):=by unfold jt;rw[zj];rfl
  have z:pre++l::ls=(pre++[l])++ls:=by simp
  rw[e2,e3,z];exact Yh (by simpa using hl) (λi y hy=>h (i+1) y hy) (z▸hu)
inductive Ah(A:Adr)(vs:List V)(H:Hp)(Q:VK)(E:XK):Prop
 |mk (q pk:Addr) (ls:RL) (ps:PL) (_:vs=[.ref q,.ref pk]) (_:H q=some (.lst (jt ls))) (_:kO A H ls) (_:H pk=some (.lst (KH ps))) (_:alL H ps) (_:Tc (ls.map (·.2))) (_:akh (ls.map (·.2)) (ps.map (·.2))) (_:∀t la lb l1 l2 H',Same H H'->H' t=some (.tup [.ref la,.ref lb])->H' la=some (.lst (jt l1))->H' lb=some (.lst (jt l2))->kO A H' l1->kO A H' l2->l1.map (·.2)=(ps.map (·.2)).map (Br (ls.map (·.2)))->l2.map (·.2)=QX (ps.map (·.2)) (ls.map (·.2))->H la=none->H lb=none->la≠lb->Q (.ref t) H'):Ah A vs H Q E
def Kl(T:Txt K mg A D):jQ P w K mg base CX0 4 A.abA D.abA ["lots", "picks"] (Ah A):=by
 refine T.adC.F.okv lF λ_ _ _ _ H vs Q E hr h=>?_
 ·obtain⟨q,pk,ls,ps,rfl,hq,hL,bf,hP,hR,hK,k⟩:=h
  refine ⟨_,(iH (iY (i:=2) lF.nd rfl orl (jJ (qm (K:=K) rfl) (by rfl) T.aei (by decide+kernel) (iG (jW (cap:=[none]) (N':=["lot"]) rfl (by walk_at "c") (jD (K:=K) (pv 0)) (λ_ _ _ _=>(iW (i:=0) nd1 rfl orl orr)) (λ_ _ _ _=>jO) (λ_ _ _ _=>(nP (iG (fv K 0) (pav 0 iI))))) iI)))
   (iH (iY (i:=3) lF.nd rfl orl (jV iI))
   (iH (oh zW rfl (jD (K:=K) (pv 1)) (pN (K:=K) (n:=2) rfl (jw (iW (i:=4) lF.nd rfl orl) (jw (iW (i:=5) lF.nd rfl orl) nQ)))
    (iH (iY (i:=6) lF.nd rfl orl (ahD (Cm hr) (pvD 2) (pvD 4) ⟨rfl,rfl,rfl,rfl⟩))
    (iH (kE (PW.pt (JQ (je (Fi) (pvD 6) mF (ji _)) (Cr (je (Ik) (fv K 6) (pvD 5) (ji _))))) (iJ (lO)) jn)
    (iH (iY (i:=7) lF.nd rfl orl (jy (pv 6) (mc T.af6 T.agJ (Qw T) hr (Rz T) .nil) jB (pav 5 iI)))
    (iH (jh (pW (K:=K) zL zU zV lW (pvD 3) (iG (jC (jg (K:=K)) (pvD 7) iM (λ_ _=>rfl)) iI)))
    (iJ (JS (Cm hr) (pvD 2) (pvD 4) (jC (jg (K:=K)) (pvD 7) iM (λ_ _=>rfl)) rfl)))))))
   (iJ (jb (nP (pav 3 (iG (jW (cap:=[none]) (N':=["lot"]) rfl (by walk_at "c") (ajk (Nx (K:=K) yb PySem.F.slot_dict_values PySem.F.type_dict_values YK (pvD 2))) (λ_ _ _ _=>(iW (i:=0) nd1 rfl orl orr)) (λ_ _ _ _=>(JD (je (HX) (pvD 0) mF (ji _)))) (λ_ _ _ _=>(pvD 0))) iI)))))))),?_⟩
  simp only[start_eq];walk_at "m";have b0:ls.length<=63:=by have:=hR.l;rwa [za]at this
  refine⟨⟨_,iT hq⟩,?_⟩;refine kI.listE (K:=K) (λσ=>∃a,σ=[a]) (λi v H'=>∃b l,ls[i]? =some l/\v=.ref b/\H' b=some (.tup [.int l.2.n,.ref l.1])) (iT hq) ⟨_,rfl⟩ (by rw[iV,zn];omega) ?_ ?_
  ·rintro Da i x hx σ H5 R ⟨_,rfl⟩ sm hD ⟨acc,hA⟩ kk
   obtain⟨l,bh,rfl⟩:=jG hx;obtain⟨dx,ai⟩:=(hL l (get_mem bh)).same sm;walk_at "i";exact rd ai T.af6 T.af7 (by rfl) ⟨sz,λt ht=>kk (.ref t) _ _ ⟨_,rfl⟩ (iR ht) λH' hb=>⟨t,l,bh,rfl,hb _ _ (λe=>by rw[e,hA]at ht;cases ht) iK⟩⟩
  ·intro Da H1 acc hD s1 hA ao hF
   rw[iV]at ao;walk_at "i";obtain⟨ds,ab⟩:∃ds,ls.map (·.2)=ds:=⟨_,rfl⟩;obtain⟨ks,ah⟩:∃ks,ps.map (·.2)=ks:=⟨_,rfl⟩;rw[ab,ah]at hK;rw[ab]at hR;rw[ab,ah]at k;have bx:ds.length=ls.length:=by rw[<-ab,za]
   refine⟨_,iT hA,by omega,kfH H1,vfH H1,λy hy=>?_,λpd bq=>?_⟩
   ·obtain⟨i,hi,e⟩:=z9 hy
    obtain⟨b,l,_,h2,h3⟩:=hF i y (by rw[zr hi,e]);subst h2;exact⟨b,rfl,by rw[ain h3,aiz h3];exact jH h3⟩
   have ez:MP (kfH H1) (vfH H1) acc=kz ds (jt ls):=by
    rw[<-ab];refine Yh (pre:=[]) ao hF ?_;have:=hR.u;rw[<-ab,zq]at this;exact this
   rw[ez];have S2:=s1.trans (iR (o:=.dK (kz ds (jt ls))) bq);have ax:(upd H1 pd (.dK (kz ds (jt ls)))) pd=some (.dK (kz ds (jt ls))):=iK;have bg:=s1.free bq;generalize upd H1 pd _=H2 at S2 ax;walk_at "m";refine⟨sz,λpt am=>?_⟩;have S3:=S2.trans (iR (o:=.lst []) am);have bl:(upd H2 pt (.lst [])) pt=some (.lst []):=iK;have bc:=iR (o:=.lst []) am _ _ ax;have bm:=S2.free am;have ba:pd≠pt:=jT ax am;generalize upd H2 pt _=H3 at S3 bl bc;rw[ap_seq,ap_for];walk_at "i";refine⟨⟨_,iT (S3 _ _ bf)⟩,?_⟩
   refine Kr.listN (K:=K) (a:=pk) (xs:=KH ps) (λi σ Hx=>∃(vs:List V)(l1:RL)(w4 w5 w6 w7:Option V),σ=[some (.ref q),some (.ref pk),some (.ref pd),some (.ref pt),w4,w5,w6,w7]/\Same H Hx/\vs.length=ds.length/\Hx pd=some (.dK (kz ds vs))/\Hx pt=some (.lst (jt l1))/\kO A Hx l1/\
    l1.map (·.2)=(ks.take i).map (Br ds)/\∀(j:Nat) d v,ds[j]? =some d->vs[j]? =some v->OkV A Hx (nj (ks.take i) d) v) ⟨jt ls,[],_,_,_,_,rfl,S3,by rw[iV,bx],bc,bl,λr h=>(zf h).elim,rfl,λj d v h1 h2=>?_⟩ (λi σ Hx _ ⟨_,_,_,_,_,_,_,s,_⟩=>s.seq (iT bf)) ?_ ?_
   ·obtain⟨l,e1,rfl⟩:=jG h2
    have e2:ds[j]? =some l.2:=by rw[<-ab,zm,e1];rfl
    rw[h1]at e2;cases e2;refine .inl ⟨?_,l.1,rfl,(hL l (get_mem e1)).same S3⟩;have:=(hR.g l.2 (zh h1)).1;show 0<l.2.p;omega
   ·rintro i y σ H4 hy ⟨vs,l1,w4,w5,w6,w7,rfl,S4,ad,aa,aj,au,ag,af⟩ N hN
    obtain⟨r,bj,rfl⟩:=Zo hy;have ay:ks[i]? =some r.2:=by rw[<-ah,zm,bj];rfl
    obtain⟨d,hd,az,b1,br⟩:=hK.h r.2 (zh ay);obtain⟨j,hj,ej⟩:=z9 hd;have ae:ds[j]? =some d:=by rw[zr hj,ej]
    have aw:vs[j]? =some (vs[j]'(by omega)):=by simp
    have an:d.n∉(ks.take i).map (·.1):=by rw[az];exact Uc hK.u ay
    have hg:=hR.g d hd;have bn:=af j d _ ae aw;rw[Uj an]at bn;have ap:=Xy (v:=vs[j]'(by omega)) hR.u ae aw
    obtain ⟨x,ex,hx⟩:∃x,vs[j]'(by omega)=.ref x/\mq A H4 x d:=by
     rcases bn with⟨_,x,e,h⟩|⟨e,_⟩
     ·exact⟨x,e,h⟩
     ·omega
    rw[ex]at ap;obtain⟨dx,ai⟩:=id hx;have be:=S4 _ _ (hP r (zh bj));rw[<-az]at be;walk_at "i";refine⟨_,jH be,rfl,_,_,rfl,_,_,rfl,rfl,?_⟩;walk_at "m";refine⟨.inl ⟨_,.inl aa⟩,_,aif (k:=Sum.inl d.n) aa,?_⟩;rw[ap];simp only[Option.getD_some];walk_at "m";refine rd ai T.af6 T.af9 (by rfl) ⟨_,rfl,?_⟩;rw[ze (by show¬(d.p<r.2.2);omega)];walk_at "m";refine md ai zg (by rfl) ⟨x,d,r.2.2,rfl,hx,hg.2.2.2.mul (hg.2.1.of (by omega) br),hg.2.1.div (by omega),λt y v' H5 s5 bk ac hY f1 f2=>?_⟩;walk_at "m";have S5:=S4.trans s5;have av:=s5 _ _ aj;have bv:=s5 _ _ aa;have bz:t≠pt:=λe=>by rw[e,aj]at bk;cases bk
    have bo:(upd H5 pt (.lst (jt l1++[V.ref y]))) pd=some (.dK (kz ds vs)):=(iZ ba).trans bv;have ak:∀C dx fs,H5 pt≠some (.ins C dx fs):=λ_ _ _=>by rw[av];simp
    have al:∀C dx fs,(upd H5 pt (.lst (jt l1++[V.ref y]))) pd≠some (.ins C dx fs):=λ_ _ _=>by rw[bo];simp
    have er:r.2=(d.n,r.2.2):=by rw[az]
    have bp:ks.take (i+1)=ks.take i++[(d.n,r.2.2)]:=by rw[zI,ay,<-er];rfl
    have b2:l1.length<=63:=by
     have e1:=congrArg List.length ag;rw[za,za,zO]at e1
     have e2:ks.length<=ds.length:=by
      have:=Qg (l:=ks.map (·.1)) (k:=ds.map jk.n) hK.u λz hz=>by
       obtain⟨k0,bt,rfl⟩:=zb.mp hz;obtain⟨d0,bw,e0,_⟩:=hK.h k0 bt;exact zb.mpr ⟨d0,bw,e0⟩
      rwa [za,za]at this
     have:=hR.l;omega
    refine ⟨.inl ⟨rfl,_,iT av⟩,_,jH ac,_,rfl,_,av,by rw[iV,zn];omega,_,jH ((iZ bz).trans ac),_,rfl,_,.inl ⟨_,Sum.inl d.n,bo,rfl,by rw[aik ad,zn];have:=hR.l;omega,by rw[alg hR.u ae aw]⟩,
     hN _ _ ⟨vs.set j v',l1++[(y,Br ds (d.n,r.2.2))],_,_,_,_,rfl,(S5.upd bm).upd bg,by rw[List.length_set,ad],iK,?_,λz hz=>?_,?_,λj' d' v0 h1 h2=>?_⟩⟩
    ·rw[iZ ba.symm,iK];unfold jt;rw[zj];rfl
    ·rcases zA.mp hz with hz|hz
     ·exact(((au z hz).same s5).put ak).put al
     ·obtain rfl:=zu.mp hz
      rw[some_at hR.u hd];exact(hY.put ak).put al
    ·rw[zj,ag,bp,zj];rfl
    ·rw[bp]
     by_cases aq:j'=j
     ·subst aq
      rw[ae]at h1;cases h1;rw[zzt (by omega)]at h2;cases h2;rw[Uv an];by_cases ew:r.2.2=d.p
      ·exact .inr ⟨by show d.p - r.2.2=0;omega,f1 ew⟩
      ·obtain⟨z,ez,hz⟩:=f2 ew
       exact .inl ⟨by show 0<d.p - r.2.2;omega,z,ez,(hz.put ak).put al⟩
     ·rw[zzN (λe=>aq e.symm)]at h2
      have bu:d'.n≠d.n:=λe=>aq (by
       have hl1':j'<(ds.map jk.n).length:=by rw[za];exact(zp.mp h1).1
       refine(zz8 hl1' hR.u).mp ?_;rw[zm,zm,h1,ae];show some d'.n=some d.n;rw[e])
      rw[JB bu];exact(((af j' d' v0 h1 h2).same s5).put ak).put al
   ·rintro σ H4 ⟨vs,l1,w4,w5,w6,w7,rfl,S4,ad,aa,aj,au,ag,af⟩
    rw[Rm,show ps.length=ks.length by rw[<-ah,za],zT]at ag af;walk_at "i";refine⟨.inr (.inr (.inl ⟨rfl,.inl ⟨_,aa⟩⟩)),_,aa,λv hv=>⟨pd,iK,_,(iZ (jT aa hv)).trans aa,λo=>?_⟩⟩;have sv:=iR (o:=CG v pd) hv;have bs:=sv _ _ aa;have ni:∀C dx fs,(upd H4 v (CG v pd)) pd≠some (.ins C dx fs):=λ_ _ _=>by rw[bs];simp
    have S5:Same H (upd (upd H4 v (CG v pd)) pd (.frz o (.dK (kz ds vs)))):=(S4.trans sv).upd bg;have ac:(upd (upd H4 v (CG v pd)) pd (.frz o (.dK (kz ds vs)))) pt=some (.lst (jt l1)):=(iZ ba.symm).trans (sv _ _ aj);have bd:kO A (upd (upd H4 v (CG v pd)) pd (.frz o (.dK (kz ds vs)))) l1:=λz hz=>((au z hz).same sv).put ni;have bi:(upd (upd H4 v (CG v pd)) pd (.frz o (.dK (kz ds vs)))) pd=some (.frz o (.dK (kz ds vs))):=iK
    have bb:∀(j:Nat) d v0,(ds.map (nj ks))[j]? =some d->vs[j]? =some v0->OkV A (upd (upd H4 v (CG v pd)) pd (.frz o (.dK (kz ds vs)))) d v0:=λj d v0 h1 h2=>by
     rw[zm]at h1
     cases e:ds[j]? with
     |none=>rw[e]at h1;cases h1
     |some d0=>
      rw[e]at h1;cases h1;exact((af j d0 v0 e h2).same sv).put ni
    generalize upd (upd H4 v (CG v pd)) pd (.frz o (.dK (kz ds vs)))=H5 at S5 ac bd bi bb;refine kI.vals (λσ=>∃a,σ=[a]) (λv=>decide (v≠.non)) id bi ⟨_,rfl⟩ (by rw[aik ad,zn];have:=hR.l;omega) ?_ ?_
    ·rintro x hx σ H6 R1 R2 ⟨_,rfl⟩ sm k1 k2
     walk_at "i";by_cases e:x=.non
     ·rw[ze (by simp[e])]
      exact k2 (by simp[e]) _ _ ⟨_,rfl⟩ (same_refl _)
     ·rw[zl (by simp[e])]
      exact k1 (by simp[e]) _ _ ⟨_,rfl⟩ (same_refl _)
    ·intro Da H6 as s6 ar
     rw[Xk ad,yyp]at ar;obtain⟨l2,e1,e2,e3⟩:=Ys (A:=A) (H:=H5) (ds:=ds.map (nj ks)) (vs:=vs) (by rw[za,ad]) bb;rw[e1]at ar;refine⟨sz,λt ht=>?_⟩;have st:=iR (o:=.tup [V.ref pt,V.ref Da]) ht;have S6:=S5.trans (s6.trans st);exact k t pt Da l1 l2 _ S6 iK ((s6.trans st) _ _ ac) (st _ _ ar) (bd.same (s6.trans st)) (e3.same (s6.trans st)) ag e2 bm (S5.free as) (λe=>by rw[<-e,ac]at as;cases as)
def akG{ds:List jk}(hu:(ds.map jk.n).Nodup){i j:Nat}{d e:jk}(h1:ds[i]? =some d)(h2:ds[j]? =some e)(q:i≠j):d.n≠e.n:=λz=>q (by
 have hl:i<(ds.map jk.n).length:=by rw[za];exact(zp.mp h1).1
 refine(zz8 hl hu).mp ?_;rw[zm,zm,h1,h2];show some d.n=some e.n;rw[z])
def ahO{ks:Pk}{n w:Int}(h:ks.lookup n=some w):(n,w)∈ks:=by
 induction ks with
 |nil=>cases h
 |cons k ks ih=>
  obtain⟨a,b⟩:=k;have h':(match n==a with|true=>some b|false=>ks.lookup n)=some w:=h;by_cases e:n=a
  ·have e':(n==a)=true:=by simpa using e
   rw[e']at h';cases h';rw[e];exact zg
  ·have e':(n==a)=false:=by simpa using e
   rw[e']at h';exact zk _ (ih h')
def alF{ds:List jk}(hu:(ds.map jk.n).Nodup){d e:jk}(h1:d∈ds)(h2:e∈ds)(h:d.n=e.n):d=e:=by
 obtain⟨i,hi,ei⟩:=z9 h1;obtain⟨j,hj,q⟩:=z9 h2
 have:i=j:=by
  by_cases z:i=j
  ·exact z
  ·exact(akG hu (by rw[zr hi,ei]) (by rw[zr hj,q]) z h).elim
 subst this;rw[<-ei,<-q]
def xX{ds:List jk}{ks:Pk}(hR:Tc ds)(hK:akh ds ks){d:jk}(hd:d∈ds):(nj ks d).n=d.n/\(0<=(nj ks d).p/\(nj ks d).p<=d.p/\0<=(nj ks d).c/\(nj ks d).c<=d.c)/\(¬0<(nj ks d).p->(nj ks d).p=0/\(nj ks d).c=0):=by
 have hg:=hR.g d hd;unfold nj
 cases e:ks.lookup d.n with
 |none=>exact⟨rfl,⟨by show 0<=d.p;omega,zze _,hg.2.2.1,zze _⟩,λh=>absurd (show 0<d.p by omega) h⟩
 |some w=>
  obtain⟨d',h1,h2,z,q⟩:=hK.h _ (ahO e);obtain rfl:=alF hR.u h1 hd h2;have q:w<=d'.p:=q;have z:1<=w:=z;have c0:=hg.2.2.1;have c1:0<=d'.c*w/d'.p:=zzR (zzd c0 (by omega)) (by omega)
  have c2:d'.c*w/d'.p<=d'.c:=by
   have h5:d'.c*w<=d'.c*d'.p:=yU q c0;have h6:=zzJ (c:=d'.p) (by omega) h5
   rwa [yS _ (by omega)]at h6
  refine⟨rfl,⟨by show 0<=d'.p - w;omega,by show d'.p - w<=_;omega,by show 0<=d'.c - d'.c*w/d'.p;omega,by show d'.c - d'.c*w/d'.p<=_;omega⟩,λh=>?_⟩;have h:¬0<d'.p - w:=h;have ew:w=d'.p:=by omega
  refine⟨by show d'.p - w=0;omega,?_⟩;show d'.c - d'.c*w/d'.p=0;rw[ew,yS _ (by omega)];omega
theorem tU{f g:jk->Int}:∀{ds:List jk}{d0:jk},(ds.map jk.n).Nodup->d0∈ds->(∀d∈ds,d.n≠d0.n->f d=g d)->(ds.map f).sum=(ds.map g).sum - g d0+f d0
 |[],_,_,h,_=>by cases h
 |d::ds,d0,hu,h,hf=>by
  rw[zi,zR]at hu;rw[zi,zi,zF,zF];rcases zt.mp h with rfl|h
  ·have:ds.map f=ds.map g:=zZ λe q=>hf e (zk _ q) λz=>hu.1 (by rw[<-z];exact zb.mpr ⟨e,q,rfl⟩)
   rw[this];omega
  ·have h1:=tU hu.2 h λe q=>hf e (zk _ q)
   have h2:=hf d zg λz=>hu.1 (by rw[z];exact zb.mpr ⟨d0,h,rfl⟩);rw[h1,h2];omega
theorem QZ{ds:List jk}{ks:Pk}(hR:Tc ds)(hK:akh ds ks):∀i:Nat,i<=ks.length->
  (((ks.take i).map (Br ds)).map jk.p).sum+((ds.map (nj (ks.take i))).map jk.p).sum=(ds.map jk.p).sum/\(((ks.take i).map (Br ds)).map jk.c).sum+((ds.map (nj (ks.take i))).map jk.c).sum=(ds.map jk.c).sum
 |0,_=>by
  have e:ds.map (nj [])=ds:=(zZ λd _=>rfl).trans (yyp _);rw[zz4,e];exact⟨by simp,by simp⟩
 |i+1,hi=>by
  obtain⟨h1,h2⟩:=QZ hR hK i (by omega);have z:ks[i]? =some ks[i]:=by simp
  obtain⟨d,hd,aa,hw⟩:=hK.h ks[i] (yT _);have q:d.n∉(ks.take i).map (·.1):=by rw[aa];exact Uc hK.u z
  have er:ks[i]=(d.n,ks[i].2):=by rw[aa]
  generalize ks[i].2=w at er hw;have ab:ks.take (i+1)=ks.take i++[(d.n,w)]:=by rw[zI,z,er];rfl
  have c1:=tU (f:=λe=>(nj (ks.take i++[(d.n,w)]) e).p) (g:=λe=>(nj (ks.take i) e).p) hR.u hd λe _ he=>by rw[JB he]
  have c2:=tU (f:=λe=>(nj (ks.take i++[(d.n,w)]) e).c) (g:=λe=>(nj (ks.take i) e).c) hR.u hd λe _ he=>by rw[JB he]
  simp only[Uv q,Uj q]at c1 c2;have es:=some_at (w:=w) hR.u hd;rw[ab];simp only[zq,zj,yj,zi,zzu,zF,List.sum_nil,Function.comp_def,es]at h1 h2 c1 c2⊢;rw[c1,c2];omega
theorem RK{f:jk->Int}:∀{l:List jk},(∀d∈l,¬0<d.p->f d=0)->((l.filter λd=>decide (0<d.p)).map f).sum=(l.map f).sum
 |[],_=>rfl
 |d::l,h=>by
  have q:=RK (l:=l) λe z=>h e (zk _ z);by_cases e:0<d.p
  ·rw[yc (by simpa using e),zi,zi,zF,zF,q]
  ·rw[yd (by simpa using e),zi,zF,q,h d zg e]
   omega
def Ut{ds:List jk}{ks:Pk}(hR:Tc ds)(hK:akh ds ks):((ks.map (Br ds)).map jk.p).sum+((QX ks ds).map jk.p).sum=(ds.map jk.p).sum/\((ks.map (Br ds)).map jk.c).sum+((QX ks ds).map jk.c).sum=(ds.map jk.c).sum:=by
 have h:=QZ hR hK ks.length (zo _);rw[zT]at h
 have hz:∀e∈ds.map (nj ks),¬0<e.p->e.p=0/\e.c=0:=λe q=>by
  obtain⟨d,hd,rfl⟩:=zb.mp q;exact(xX hR hK hd).2.2
 unfold QX;rw[RK (f:=jk.p) λe q z=>(hz e q z).1,RK (f:=jk.c) λe q z=>(hz e q z).2];exact h
def ajj{ds:List jk}{ks:Pk}(q:Tc ds)(hK:akh ds ks):Tc (QX ks ds):=by
 have e:(ds.map (nj ks)).map jk.n=ds.map jk.n:=by
  rw[zq];exact zZ λd hd=>(xX q hK hd).1
 refine⟨?_,λz hz=>?_,?_⟩
 ·refine zzo ?_ q.u
  rw[<-e];exact List.Sublist.map _ List.filter_sublist
 ·obtain⟨h1,h2⟩:=z6.mp hz
  obtain⟨d,hd,rfl⟩:=zb.mp h1;have hs:=xX q hK hd;have h2:0<(nj ks d).p:=by simpa using h2
  have hg:=q.g d hd;exact⟨by omega,hg.2.1.of (by omega) hs.2.1.2.1,hs.2.1.2.2.1,hg.2.2.2.of hs.2.1.2.2.1 hs.2.1.2.2.2⟩
 ·have:=yn (λd:jk=>decide (0<d.p)) (ds.map (nj ks))
  rw[za]at this;have:=q.l;unfold QX;omega
def aiu{ns:List Int}{ls:RL}(h:Shp ns ls)(hn:ns.length<=63)(hp:Bd (pcs ls))(z:Bd (jX ls)):Tc (ls.map (·.2)):=by
 refine⟨by rw[zq];exact h.u,λd hd=>?_,by rw[za];exact zN h.len hn⟩;obtain⟨l,q,rfl⟩:=zb.mp hd;have h1:=h.p l q;have h2:=Mt h.p q;exact⟨h1,hp.of (by omega) h2,h.c l q,z.of (h.c l q) (GC h.c q)⟩
def alj{ls:RL}{ks:Pk}{w:Int}(h:PkS ls ks w):akh (ls.map (·.2)) ks:=⟨h.u,λk q=>let⟨l,a,b⟩:=h.h k q;⟨l.2,zb.mpr ⟨l,a,rfl⟩,b⟩⟩
def Vv{ns:List Int}{ls l1 l2:RL}{ks:Pk}{w:Int}(h:Shp ns ls)(hn:ns.length<=63)(hp:Bd (pcs ls))(hc:Bd (jX ls))(hk:PkS ls ks w)(e1:l1.map (·.2)=ks.map (Br (ls.map (·.2))))(e2:l2.map (·.2)=QX ks (ls.map (·.2))):
  l1.map VP=ks/\Shp ns l2/\pcs l2=pcs ls - w/\jX l1+jX l2=jX ls/\∀l∈l1,0<=l.2.c:=by
 have hR:=aiu h hn hp hc;have hK:=alj hk
 have hs:∀k∈ks,(Br (ls.map (·.2)) k).n=k.1/\(Br (ls.map (·.2)) k).p=k.2:=λk z=>by
  obtain⟨d,hd,e,_⟩:=hK.h k z;have:=some_at (w:=k.2) hR.u hd;rw[e]at this;rw[this];exact⟨rfl,rfl⟩
 have ac:l1.map VP=ks:=by
  have:l1.map VP=(l1.map (·.2)).map λd=>(d.n,d.p):=by rw[zq];rfl
  rw[this,e1,zq]
  exact NP λk z=>by
   show((Br _ k).n,(Br _ k).p)=k;rw[(hs k z).1,(hs k z).2]
 have ab:=(Ut hR hK).1;have aa:=(Ut hR hK).2;rw[<-e1,<-e2]at ab aa;rw[<-mD,<-mD,<-mD]at aa
 have f1:((l1.map (·.2)).map jk.p).sum=w:=by
  have:(l1.map (·.2)).map jk.p=ks.map (·.2):=by
   rw[<-ac,zq,zq];rfl
  rw[this,hk.s]
 have f2:∀ms:RL,((ms.map (·.2)).map jk.p).sum=pcs ms:=λms=>by unfold pcs;rw[zq];rfl
 rw[f1,f2,f2]at ab;have hok:=ajj hR hK;rw[<-e2]at hok;refine⟨ac,⟨?_,λl hl=>(hok.g l.2 (zb.mpr ⟨l,hl,rfl⟩)).1,λl hl=>?_,λl hl=>(hok.g l.2 (zb.mpr ⟨l,hl,rfl⟩)).2.2.1⟩,by omega,aa,λl hl=>?_⟩
 ·have:=hok.u
  rwa [zq]at this
 ·have h1:l.2∈QX ks (ls.map (·.2)):=e2▸zb.mpr ⟨l,hl,rfl⟩
  obtain⟨h2,_⟩:=z6.mp h1;obtain⟨d,hd,e⟩:=zb.mp h2;obtain⟨q,hq,rfl⟩:=zb.mp hd;rw[<-e,(xX hR hK hd).1];exact h.m q hq
 ·have h1:l.2∈ks.map (Br (ls.map (·.2))):=e1▸zb.mpr ⟨l,hl,rfl⟩
  obtain⟨k,z,e⟩:=zb.mp h1;obtain⟨d,hd,en,h3,h4⟩:=hK.h k z;have:=some_at (w:=k.2) hR.u hd;rw[en]at this;have hg:=hR.g d hd;rw[<-e,this];exact zzR (zzd hg.2.2.1 (by omega)) (by omega)
inductive SQ(A:Adr):Addr->Prop
 |e:SQ A A.acq
 |n:SQ A A.acr
 |d:SQ A A.acs
 |m:SQ A A.acp
def akO{C:Addr}(q:SQ A C):(C,Oj A)∈[(A.acq,Oj A),(A.acr,Oj A),(A.acs,Oj A),(A.acp,Oj A)]:=by cases q<;>simp
def ahH{C:Addr}(q:SQ A C):(C,Ds A)∈[(A.acq,Ds A),(A.acr,Ds A),(A.acs,Ds A),(A.acp,Ds A)]:=by cases q<;>simp
inductive Ft(A:Adr)(vs:List V)(H:Hp)(Q:VK)(E:XK):Prop
 |mk (x C dx q:Addr) (ns:List Int) (ls:RL) (w:Int) (_:vs=[.ref x,.ref q,.int w,.non]) (_:H x=some (.ins C dx [])) (_:SQ A C) (_:H q=some (.lst (jt ls))) (_:kO A H ls) (_:Shp ns ls) (_:ns.length<=63) (_:Bd (pcs ls)) (_:Bd (jX ls)) (_:1<=w) (_:w<=pcs ls) (_:∀t la lb l1 l2 H',Same H H'->H' t=some (.tup [.ref la,.ref lb])->H' la=some (.lst (jt l1))->H' lb=some (.lst (jt l2))->kO A H' l1->kO A H' l2->Shp ns l1->pcs l1=w->l1≠[]->Shp ns l2->pcs l2=pcs ls - w->jX l1+jX l2=jX ls->H la=none->H lb=none->la≠lb->Q (.ref t) H'):Ft A vs H Q E
def Pa(T:Txt K mg A D):jQ P w K mg base CX0 5 A.abH D.abH ["way", "lots", "pieces", "named"] (Ft A):=by
 refine T.adJ.F.okv xg λ_ _ _ _ H vs Q E hr h=>?_
 ·obtain⟨x,C,dx,q,ns,ls,w,rfl,hx,hC,hq,hL,hS,hn,hp,hc,h0,h1,k⟩:=h
  refine ⟨_,(iH (iY (i:=4) xg.nd rfl orl (jy (pv 0) (mc T.agc T.agL (qz T) hr (tG T) (mc T.agd T.agM (qz T) hr (tG T) (mc T.age T.agN (qz T) hr (tG T) (mc T.agb T.agO (Fw T) hr (Hr T) .nil)))) jB (pav 1 iI)))
   (iH (iY (i:=5) xg.nd rfl orl (xY (je (Fi) (pvD 3) mF (ji _)) (jy (pv 0) (mc T.agc T.agP (wk T) hr (Aj T) (mc T.agd T.agQ (Ia T) hr (KZ T) (mc T.age T.agR (Fy T) hr (HW T) (mc T.agb T.agS (wk T) hr (Aj T) .nil)))) jB (pav 4 (pav 2 iI))) (pvD 3)))
   (iJ (jb (pcg (Kl T) hr T.adC (Ny T) (pav 4 (pav 5 iI))))))),?_⟩
  have ac:ls.length<=100:=by have:=hS.len;omega
  simp only[start_eq];walk_at "n";refine⟨C,dx,_,hx,_,akO hC,by rfl,x,q,ls,rfl,hq,hL,ac,hS.p,hS.c,hp,hc,λl ms H1 s1 hl h2 ag ad ab af=>?_⟩;have aa:=ad.shp hS af;have ae:=ad.pcs;walk_at "n";refine⟨C,dx,_,s1 _ _ hx,_,ahH hC,by rfl,x,l,ms,w,rfl,h2,ag,by rw[ad.len];exact ac,aa.u,λq hq=>⟨aa.p q hq,(ae▸hp).of (by have:=aa.p q hq;omega) (Mt aa.p hq),(ab▸hc).of (af q hq) (GC af hq)⟩,by omega,by omega,λpk ps H2 s2 am h3 hP hK=>?_⟩
  try dsimp only
  rw[ap_ret];walk_at "i";refine⟨l,pk,ms,ps,rfl,s2 _ _ h2,ag.same s2,h3,hP,aiu aa hn (ae▸hp) (ab▸hc),alj hK,λt la lb l1 l2 H3 s3 ht g1 g2 g3 g4 e1 e2 f1 f2 f3=>?_⟩;obtain⟨k1,k2,k3,k4,k5⟩:=Vv aa hn (ae▸hp) (ab▸hc) hK e1 e2;have S2:=s1.trans s2;have ah:l1.map (·.2.n)=(ps.map (·.2)).map (·.1):=by rw[<-k1,zq];rfl
  have ai:l1.map (·.2.p)=(ps.map (·.2)).map (·.2):=by rw[<-k1,zq];rfl
  have aj:pcs l1=w:=by unfold pcs;rw[ai];exact hK.s
  have al:Shp ns l1:=by
   refine⟨by rw[ah];exact hK.u,λr hr=>?_,λr hr=>?_,k5⟩
   ·have:VP r∈ps.map (·.2):=k1▸zb.mpr ⟨r,hr,rfl⟩
    obtain⟨q,_,_,a,_⟩:=hK.h _ this;exact a
   ·have:VP r∈ps.map (·.2):=k1▸zb.mpr ⟨r,hr,rfl⟩
    obtain⟨q,ak,e,_⟩:=hK.h _ this;have e:q.2.n=r.2.n:=e;exact e▸aa.m q ak
  refine k t la lb l1 l2 H3 (S2.trans s3) ht g1 g2 g3 g4 al aj (λz=>?_) k2 (by omega) (k4.trans ab) (S2.free f1) (S2.free f2) f3;rw[z]at aj;have:pcs []=0:=rfl;omega
inductive vd(A:Adr)(vs:List V)(H:Hp)(Q:VK)(E:XK):Prop
 |mk (x:Addr) (d:jk) (p c:Int) (_:vs=[.ref x,.int p,.int c]) (_:mq A H x d) (_:∀y H',Same H H'->H y=none->mq A H' y ⟨d.n,d.s,d.p+p,d.c+c⟩->Q (.ref y) H'):vd A vs H Q E
def vy(T:Txt K mg A D):jQ P w K mg base CX0 3 A.abi D.abi ["self", "pieces", "cost"] (vd A):=by
 refine T.adl.ok Gn (by walk_at "v") (λ_ _ _ s H vs Q E hr h=>?_)
 ·obtain⟨x,⟨n,s,p,c⟩,p',c',rfl,⟨dx,q⟩,k⟩:=h
  refine⟨_,(iJ (jb (lK T.agm (jR (K:=K) T) (hr.mono (by decide)) (by rfl) T.aeG (jY T) .nil jB (iG (fv K 0) (iG (fv K 0) (iG (jc kh (fv K 0) (pvD 1)) (iG (jc kh (fv K 0) (pvD 2)) iI))))))),?_⟩;walk_at "a";refine rd q T.af6 T.af7 (by rfl) (?_);refine rd q T.af6 T.af8 (by rfl) (?_);refine rd q T.af6 T.af9 (by rfl) (?_);refine⟨_,rfl,rd q T.af6 T.aga (by rfl) ⟨_,rfl,λy dy hy z _=>?_⟩⟩;exact pZ ⟨n,s,p+p',c+c'⟩ hy z λH' sm hL=>k y H' sm hy hL
noncomputable def toI:V->Int
 |.int i=>i
 |_=>0
inductive wU(A:Adr)(vs:List V)(H:Hp)(Q:VK)(E:XK):Prop
 |mk (x:Addr) (d:jk) (_:vs=[.ref x]) (_:mq A H x d) (_:∀t,H t=none->Q (.ref t) (upd H t (.tup [.int d.s,.int d.n]))):wU A vs H Q E
def Ib(T:Txt K mg A D):jQ P w K mg base CX0 1 A.abg D.abg ["lot"] (wU A):=by
 refine T.adj.F.okv Jb λ_ _ _ _ H vs Q E hr h=>?_
 ·obtain⟨x,d,rfl,⟨dx,q⟩,k⟩:=h
  refine⟨_,(iJ (jb (nP (iG (fv K 0) (iG (fv K 0) iI))))),?_⟩;walk_at "a";refine rd q T.af6 T.af8 (by rfl) (rd q T.af6 T.af7 (by rfl) (?_));exact⟨sz,λt z=>k t z⟩
def YQ{ls:RL}{f:Addr×jk->Bool}{acc:List V}(hl:acc.length=ls.length)(h:∀(i:Nat) v,acc[i]? =some v->∃l,ls[i]? =some l/\v=.bl (f l)):acc=(ls.map f).map V.bl:=by
 refine zzI (by simp[hl]) λi h1 h2=>?_;obtain⟨l,q,e2⟩:=h i acc[i] (by simp);rw[e2];have z:i<ls.length:=by omega
 have:ls[i]=l:=by
  rw[zr z]at q;exact zy q
 simp[this]
noncomputable def pq(d e:jk):jk:=if e.n=d.n then⟨e.n,e.s,e.p+d.p,e.c+d.c⟩else e
noncomputable def kfL(H:Hp):V->List Int
 |.ref b=>match H b with
  |some (.ins _ _ fs)=>[toI ((fs.lookup ("since" :Str)).getD .non),toI ((fs.lookup ("number" :Str)).getD .non)]
  |_=>[]
 |_=>[]
def aiA{H:Hp}{b:Addr}{d:jk}(h:mq A H b d):kfL H (.ref b)=[d.s,d.n]:=by
 obtain⟨dx,e⟩:=h;unfold kfL
 try dsimp only
 rw[e];rfl
inductive Hg(A:Adr)(vs:List V)(H:Hp)(Q:VK)(E:XK):Prop
 |mk (q x:Addr) (ls:RL) (d:jk) (_:vs=[.ref q,.ref x]) (_:H q=some (.lst (jt ls))) (_:kO A H ls) (_:mq A H x d) (_:ls.length<=61) (_:(ls.map (·.2.n)).Nodup) (_:∀l ls' H',Same H H'->H l=none->H' l=some (.lst (jt ls'))->kO A H' ls'->(d.n∈ls.map (·.2.n)->ls'.map (·.2)=(ls.map (·.2)).map (pq d))->(d.n∉ls.map (·.2.n)->(ls'.map (·.2)).Perm (ls.map (·.2)++[d]))->Q (.ref l) H'):Hg A vs H Q E
def SX(T:Txt K mg A D):jQ P w K mg base CX0 4 A.abj D.abj ["lots", "lot"] (Hg A):=by
 refine T.adm.F.okv RT λ_ _ _ _ H vs Q E hr h=>?_
 ·obtain⟨q,x,ls,d,rfl,hq,hL,⟨dx,hx⟩,hl,hu,k⟩:=h
  refine ⟨_,(iH (kE (qw (jl (QM (K:=K) rfl) (by rfl) T.aeu (by decide+kernel) (iG (jW (cap:=[none,some 1]) (N':=["one", "lot"]) rfl (by walk_at "c") (jD (K:=K) (pv 0)) (λ_ _ _ _=>(iW (i:=0) (show(["one", "lot"]:List Str).Nodup from by decide+kernel) rfl orl orr)) (λ_ _ _ _=>jO) (λ_ _ _ _=>(uK (mR) (fv K 0) (fv K 1) (ji _)))) iI))) (iJ (jb (jW (cap:=[none,some 1]) (N':=["one", "lot"]) rfl (by walk_at "c") (jD (K:=K) (pv 0)) (λ_ _ _ _=>(iW (i:=0) (show(["one", "lot"]:List Str).Nodup from by decide+kernel) rfl orl orr)) (λ_ _ _ _=>jO) (λ_ _ _ _=>(xY (je (mR) (fv K 0) (fv K 1) (ji _)) (jy (pv 0) (mc T.af6 T.agB (vy T) hr (wg T) .nil) jB (iG (fv K 1) (iG (fv K 1) iI))) (pvD 0)))))) jn)
   (iJ (jb (Jf (K:=K) (by rfl) (Li (Ib (K:=K) T) (hr.mono (by decide)) (Le T) (by rfl) T.aes (by decide+kernel) (by rfl) T.adj.m (iG (jc Tj (pvD 0) (jV (pav 1 iI))) iI)))))),?_⟩
  simp only[start_eq];walk_at "m";have au:mq A H x d:=⟨dx,hx⟩;refine⟨⟨_,iT hq⟩,?_⟩;refine kI.listE (K:=K) (λσ=>∃a,σ=[a,some (.ref x)]) (λi v _=>∃l,ls[i]? =some l/\v=.bl (decide (l.2.n=d.n))) (iT hq) ⟨_,rfl⟩ (by rw[iV,zn];omega) ?_ ?_
  ·rintro Da i y hy σ H5 R ⟨_,rfl⟩ sm hD _ kk
   obtain⟨l,ab,rfl⟩:=jG hy;obtain⟨dy,aa⟩:=(hL l (get_mem ab)).same sm;walk_at "i";refine rd aa T.af6 T.af7 (by rfl) (rd (sm _ _ hx) T.af6 T.af7 (by rfl) (?_));exact⟨rfl,kk _ _ H5 ⟨_,rfl⟩ (same_refl _) λH' _=>⟨l,ab,by simp⟩⟩
  ·intro Da H1 acc hD sm hA ao hF
   have an:acc=(ls.map λl=>decide (l.2.n=d.n)).map V.bl:=YQ (by rw[ao,iV]) hF;rw[an]at hA;walk_at "i";refine⟨_,iT hA,?_⟩;have aq:=hL.same sm;have aw:=sm _ _ hx;have af:=sm _ _ hq;by_cases hm:d.n∈ls.map (·.2.n)
   ·obtain⟨l0,ag,e0⟩:=zb.mp hm
    rw[zl (yE.mpr ⟨true,zb.mpr ⟨l0,ag,zM e0⟩,rfl⟩)];refine⟨⟨_,iT af⟩,?_⟩;refine kI.listE (K:=K) (λσ=>∃a,σ=[a,some (.ref x)]) (λi v H'=>∃b l,ls[i]? =some l/\v=.ref b/\mq A H' b (pq d l.2)) (iT af) ⟨_,rfl⟩ (by rw[iV,zn];omega) ?_ ?_
    ·rintro Db i y hy σ H5 R ⟨_,rfl⟩ al aj ⟨aiY,ai⟩ kk
     obtain⟨l,ab,rfl⟩:=jG hy;obtain⟨dy,aa⟩:=(aq l (get_mem ab)).same al;have ah:=al _ _ aw;walk_at "i";refine rd aa T.af6 T.af7 (by rfl) (rd ah T.af6 T.af7 (by rfl) ⟨rfl,?_⟩);by_cases e:l.2.n=d.n
     ·rw[zl (by simp[e])]
      refine md aa zg (by rfl) (rd ah T.af6 T.af9 (by rfl) (rd ah T.af6 T.aga (by rfl) ⟨l.1,l.2,d.p,d.c,rfl,⟨dy,aa⟩,λz H6 s6 hz hZ=>kk (.ref z) _ H6 ⟨_,rfl⟩ s6 λH' hb=>⟨z,l,ab,rfl,?_⟩⟩));unfold pq;rw[zl e];exact hZ.but (λe=>by rw[e,ai]at hz;cases hz) hb
     ·rw[ze (by simp[e])]
      refine kk (.ref l.1) _ H5 ⟨_,rfl⟩ (same_refl _) λH' hb=>⟨l.1,l,ab,rfl,?_⟩;unfold pq;rw[ze e];exact mq.but ⟨dy,aa⟩ (λe=>by rw[e,ai]at aa;cases aa) hb
    ·intro Db H4 ak aj ay ax ac av
     rw[iV]at ac
     obtain ⟨ar,q1,q2,q3⟩:=RN (λ_ H r=>mq A H r.1 r.2) (H:=H4) (acc:=ak) (ds:=(ls.map (·.2)).map (pq d)) (by rw[ac,za,za]) λi v hv=>by
      obtain⟨b,l,h1,h2,h3⟩:=av i v hv;exact⟨b,_,by rw[zm,zm,h1];rfl,h2,h3⟩
     exact k Db ar H4 (sm.trans ay) (sm.free aj) (q1▸ax) q3 (λ_=>q2) λh=>(h hm).elim
   ·rw[ze (λh=>hm ?_)]
    ·obtain⟨os,ad⟩:∃os:RL,os=ls++[(x,d)]:=⟨_,rfl⟩
     have ap:jt ls++[V.ref x]=jt os:=by rw[ad];unfold jt;rw[zj];rfl
     refine⟨sz,λp hp=>⟨_,iR hp _ _ af,_,iK,by rw[iV,zn];show ls.length+1<=_;omega,λp1 az=>?_⟩⟩;rw[ap];have s2:=sm.trans ((iR (o:=.lst [V.ref x]) hp).trans (iR (o:=.lst (jt os)) az));have h2:(upd (upd H1 p (.lst [V.ref x])) p1 (.lst (jt os))) p1=some (.lst (jt os)):=iK;generalize upd (upd H1 p (.lst [V.ref x])) p1 (.lst (jt os))=H2 at s2 h2
     have hO:kO A H2 os:=λo ho=>by
      rw[ad]at ho;rcases zA.mp ho with ho|ho
      ·exact(hL o ho).same s2
      ·obtain rfl:=zu.mp ho
       exact au.same s2
     have bb:os.length<=62:=by rw[ad,zB,y4];omega
     refine⟨_,iT h2,by rw[iV];omega,kfL H2,λy hy=>?_,λp2 zs H3 s3 hn hz ae ba=>?_⟩
     ·obtain⟨o,ho,rfl⟩:=zb.mp hy
      rw[aiA (hO o ho)];refine⟨by simp,λH5 s5 R hR=>⟨o.1,o.2,rfl,(hO o ho).same s5,λt ht=>hR t _ (iR ht) ?_⟩⟩;rw[aiA (hO o ho)];exact iK
     ·obtain⟨as,rfl,am⟩:=LQ (f:=λr:Addr×jk=>V.ref r.1) ae rfl
      refine k p2 as H3 (s2.trans s3) (s2.free hn) hz (λr hr=>(hO r (am.mem_iff.mp hr)).same s3) (λh=>(hm h).elim) λ_=>?_;have:=am.map (·.2);rw[ad,zj]at this;exact this
    ·obtain⟨b,hb,eb⟩:=yE.mp h
     obtain⟨l0,ag,e0⟩:=zb.mp hb;have eb:b=true:=eb;rw[eb]at e0;exact zb.mpr ⟨l0,ag,ym e0⟩
def Wr{ns:List Int}{ls ms:RL}{d:jk}(h:Shp ns ls)(hd:1<=d.p)(ad:0<=d.c)(hn:d.n∈ns)(e1:d.n∈ls.map (·.2.n)->ms.map (·.2)=(ls.map (·.2)).map (pq d))(e2:d.n∉ls.map (·.2.n)->(ms.map (·.2)).Perm (ls.map (·.2)++[d])):Shp ns ms/\pcs ms=pcs ls+d.p:=by
 have fn:∀l:RL,l.map (·.2.n)=(l.map (·.2)).map jk.n:=λl=>by rw[zq];rfl
 have fp:∀l:RL,pcs l=((l.map (·.2)).map jk.p).sum:=λl=>by unfold pcs;rw[zq];rfl
 by_cases hm:d.n∈ls.map (·.2.n)
 ·have e:=e1 hm
  have aa:ms.map (·.2.n)=ls.map (·.2.n):=by
   rw[fn,fn,e,zq];exact zZ λx _=>by show(pq d x).n=x.n;unfold pq;split<;>rfl
  refine⟨⟨by rw[aa];exact h.u,λl hl=>?_,λl hl=>?_,λl hl=>?_⟩,?_⟩
  ·have:l.2∈(ls.map (·.2)).map (pq d):=e▸zb.mpr ⟨l,hl,rfl⟩
   obtain⟨x,hx,e'⟩:=zb.mp this;obtain⟨q,hq,rfl⟩:=zb.mp hx;have:=h.p q hq;rw[<-e'];unfold pq;split
   ·show 1<=q.2.p+d.p;omega
   ·exact this
  ·have:l.2.n∈ms.map (·.2.n):=zb.mpr ⟨l,hl,rfl⟩
   rw[aa]at this;obtain⟨q,hq,e'⟩:=zb.mp this;exact e'▸h.m q hq
  ·have:l.2∈(ls.map (·.2)).map (pq d):=e▸zb.mpr ⟨l,hl,rfl⟩
   obtain⟨x,hx,e'⟩:=zb.mp this;obtain⟨q,hq,rfl⟩:=zb.mp hx;have:=h.c q hq;rw[<-e'];unfold pq;split
   ·show 0<=q.2.c+d.c;omega
   ·exact this
  ·rw[fp,fp,e]
   obtain⟨q,hq,eq⟩:=zb.mp hm;have hu:=h.u;rw[fn]at hu
   have c:=tU (f:=λx=>(pq d x).p) (g:=jk.p) hu (zb.mpr ⟨q,hq,rfl⟩) λx _ ac=>by
    show(pq d x).p=x.p;unfold pq;rw[ze (λz=>ac (z.trans eq.symm))]
   rw[zq];show((ls.map (·.2)).map λx=>(pq d x).p).sum=_;rw[c];show _ - q.2.p+(pq d q.2).p=_;unfold pq;rw[zl eq];show _ - q.2.p+(q.2.p+d.p)=_;omega
 ·have e:=e2 hm
  have ab:=e.map jk.n;rw[zj,<-fn,<-fn]at ab;refine⟨⟨ab.nodup_iff.mpr (zzc.mpr ⟨h.u,zR.mpr ⟨zf,.nil⟩,λa ha b hb=>?_⟩),λl hl=>?_,λl hl=>?_,λl hl=>?_⟩,?_⟩
  ·have:b=d.n:=zu.mp hb
   rw[this];exact λz=>hm (z▸ha)
  ·rcases zA.mp (e.mem_iff.mp (zb.mpr ⟨l,hl,rfl⟩))with g|g
   ·obtain⟨q,hq,e'⟩:=zb.mp g
    exact e'▸h.p q hq
   ·rw[zu.mp g];exact hd
  ·rcases zA.mp (e.mem_iff.mp (zb.mpr ⟨l,hl,rfl⟩))with g|g
   ·obtain⟨q,hq,e'⟩:=zb.mp g
    exact e'▸h.m q hq
   ·rw[zu.mp g];exact hn
  ·rcases zA.mp (e.mem_iff.mp (zb.mpr ⟨l,hl,rfl⟩))with g|g
   ·obtain⟨q,hq,e'⟩:=zb.mp g
    exact e'▸h.c q hq
   ·rw[zu.mp g];exact ad
  ·rw[fp,fp,Mv (e.map jk.p),zj,yj]
   simp
noncomputable def Wv(m o:Int)(ps:List Int)(i:Nat):Int:=(ps.take (i+1)).sum*m/o - (ps.take i).sum*m/o
noncomputable def XR(m o:Int)(ps:List Int):List Int:=(List.range ps.length).map (Wv m o ps)
def Va(m o:Int)(ps:List Int):(XR m o ps).length=ps.length:=by unfold XR;simp
def Ua{m o:Int}{ps:List Int}{i:Nat}(h:i<ps.length):(XR m o ps)[i]? =some (Wv m o ps i):=by
 unfold XR;rw[zm,zzW h];rfl
def Xd{m o:Int}{ps:List Int}{i:Nat}(h:i<ps.length):(XR m o ps).take (i+1)=(XR m o ps).take i++[Wv m o ps i]:=by
 rw[zI,Ua h];rfl
def Tr{ps:List Int}{i:Nat}{p:Int}(h:ps[i]? =some p):(ps.take (i+1)).sum=(ps.take i).sum+p:=by
 rw[zI,h];simp
structure Mo(m o:Int):Prop where
 a:1<=m/\m<=10000000
 b:1<=o/\o<=10000000
def Mo.mul{m o x:Int}(h:Mo m o):Bu x m:=Ja (by have:=h.a;omega) (by have:=h.a;omega)
def Mo.div{m o x:Int}(h:Mo m o):FW x o:=⟨by have:=h.b;omega,yp (show o.natAbs<=10000000 by have:=h.b;omega) (zH (show 10000000<2^24 by decide) (yr (by decide) (by decide)))⟩
noncomputable def stp(st:List jk×Int)(d:jk)(c:Int):List jk×Int:=if c=0 then(st.1,st.2+d.c)else(st.1++[⟨d.n,d.s,c,d.c+st.2⟩],0)
noncomputable def stI(m o:Int)(ds:List jk):Nat->List jk×Int
 |0=>([],0)
 |i+1=>match ds[i]? with
  |some d=>stp (stI m o ds i) d (Wv m o (ds.map jk.p) i)
  |none=>stI m o ds i
def MJ{m o:Int}{ds:List jk}{i:Nat}{d:jk}(h:ds[i]? =some d):stI m o ds (i+1)=stp (stI m o ds i) d (Wv m o (ds.map jk.p) i):=by
 rw[stI,h]
noncomputable def aak(st:List jk×Int):List jk:=match st.1.getLast? with
 |some d=>st.1.dropLast++[⟨d.n,d.s,d.p,d.c+st.2⟩]
 |none=>[]
def Cq(r:List jk)(d:jk)(g:Int):aak (r++[d],g)=r++[⟨d.n,d.s,d.p,d.c+g⟩]:=by
 unfold aak;simp
inductive xJ(A:Adr)(vs:List V)(H:Hp)(Q:VK)(E:XK):Prop
 |mk (q:Addr) (ls:RL) (m o:Int) (_:vs=[.ref q,.int m,.int o]) (_:H q=some (.lst (jt ls))) (_:kO A H ls) (_:ls.length<=100) (_:Mo m o) (_:∀p H',Same H H'->H p=none->H' p=some (.lst ((XR m o (ls.map λl=>l.2.p)).map V.int))->Q (.ref p) H'):xJ A vs H Q E
def Je(T:Txt K mg A D):jQ P w K mg base CX0 1 A.abL D.abL ["lots", "many", "of"] (xJ A):=by
 refine T.adN.F.okv jZ λ_ _ _ _ H vs Q E hr h=>?_
 ·obtain⟨q,ls,m,o,rfl,hq,hL,hl,hM,k⟩:=h
  refine ⟨_,(iH (iY (i:=3) jZ.nd rfl orl (jV iI))
   (iH (iY (i:=4) jZ.nd rfl orl iM)
   (iH (iY (i:=5) jZ.nd rfl orl iM)
   (iH (oh zW rfl (jD (K:=K) (pv 0)) (iW (i:=6) jZ.nd rfl orl)
    (iH (iY (i:=4) jZ.nd rfl orl (jc kh (pvD 4) (fv K 6)))
    (iH (iY (i:=7) jZ.nd rfl orl (jc mK (jc mQ (pvD 4) (pvD 1)) (pvD 2)))
    (iH (jh (pW (K:=K) zL zU zV lW (pvD 3) (iG (jc uf (pvD 7) (pvD 5)) iI)))
    (iJ (iY (i:=5) jZ.nd rfl orl (pvD 7)))))))
   (iJ (jb (pvD 3))))))),?_⟩
  simp only[start_eq];walk_at "m";refine⟨sz,λp hp=>?_⟩;have s1:=iR (o:=.lst []) hp;have h1:(upd H p (.lst [])) p=some (.lst []):=iK;generalize upd H p (.lst [])=H1 at s1 h1
  iterate 2 walk_at "m"
  rw[ap_seq,ap_for];walk_at "i";refine⟨⟨_,iT (s1 _ _ hq)⟩,?_⟩;obtain⟨ps,z⟩:∃ps,(ls.map λl=>l.2.p)=ps:=⟨_,rfl⟩;have ab:ps.length=ls.length:=by rw[<-z,za]
  rw[z]at k
  refine pG (K:=K) (a:=q) (xs:=jt ls) (λi σ H2=>(∃v6 v7,σ=[some (.ref q),some (.int m),some (.int o),some (.ref p),some (.int (ps.take i).sum),some (.int ((ps.take i).sum*m/o)),v6,v7])/\Same H H2/\H2 p=some (.lst (((XR m o ps).take i).map V.int)))
   ⟨⟨none,none,by simp⟩,s1,h1⟩ (λi σ H2 _ ⟨_,s2,_⟩=>s2.seq (iT hq)) ?_ ?_
  ·rintro i y σ H2 hy ⟨⟨v6,v7,rfl⟩,s2,h2⟩
   obtain⟨l,aa,rfl⟩:=jG hy;have ae:i<ls.length:=(zp.mp aa).1;have ac:ps[i]? =some l.2.p:=by rw[<-z,zm,aa];rfl
   obtain⟨dx,ad⟩:=(hL l (get_mem aa)).same s2;walk_at "i";walk_at "m";refine rd ad T.af6 T.af9 (by rfl) ⟨_,rfl,?_⟩;rw[<-Tr ac];walk_at "m";refine⟨hM.mul,hM.div,?_⟩;walk_at "m";refine⟨.inl ⟨rfl,_,iT h2⟩,_,h2,?_,?_⟩
   ·rw[za,zO,zn];omega
   refine⟨s2.upd hp,?_⟩;rw[iK,Xd (by omega),zj];rfl
  ·rintro σ H2 ⟨⟨v6,v7,rfl⟩,s2,h2⟩
   rw[iV,<-ab,<-Va m o ps,zT]at h2;walk_at "a";exact k p H2 s2 hp h2
theorem Pn{m o:Int}(hM:Mo m o){ds:List jk}(h:∀d∈ds,1<=d.p/\0<=d.c):∀i,i<=ds.length->((stI m o ds i).1.map jk.n).Sublist ((ds.take i).map jk.n)/\(0<=(stI m o ds i).2/\∀d∈(stI m o ds i).1,1<=d.p/\0<=d.c)/\((stI m o ds i).1.map jk.p).sum=((ds.map jk.p).take i).sum*m/o
 |0,_=>⟨List.nil_sublist _,⟨zze _,λd hd=>(zf hd).elim⟩,by simp[stI]⟩
 |i+1,hi=>by
  obtain⟨i1,z,i3⟩:=Pn hM h i (by omega);obtain⟨d,hd⟩:∃d,ds[i]? =some d:=⟨_,zr (by omega)⟩;have ab:=h d (zh hd);have hs:=Tr (ps:=ds.map jk.p) (i:=i) (p:=d.p) (by rw[zm,hd];rfl)
  have hc:0<=Wv m o (ds.map jk.p) i:=by
   unfold Wv;have:(((ds.map jk.p).take i).sum*m)/o<=(((ds.map jk.p).take (i+1)).sum*m)/o:=zzJ (by have:=hM.b;omega) (Int.mul_le_mul_of_nonneg_right (by omega) (by have:=hM.a;omega));omega
  have aa:((ds.map jk.p).take (i+1)).sum*m/o=((ds.map jk.p).take i).sum*m/o+Wv m o (ds.map jk.p) i:=by unfold Wv;omega
  rw[MJ hd,aa,<-i3];have ht:ds.take (i+1)=ds.take i++[d]:=by rw[zI,hd];rfl
  generalize Wv m o (ds.map jk.p) i=c at hc;rw[ht,zj];unfold stp;split
  ·next e=>exact⟨i1.trans (List.sublist_append_left _ _),⟨by show 0<=(stI m o ds i).2+d.c;have:=z.1;omega,z.2⟩,by rw[e,Int.add_zero]⟩
  ·next e=>
   refine⟨?_,⟨zze _,λx q=>?_⟩,?_⟩
   ·show(((stI m o ds i).1++[_]).map jk.n).Sublist _
    rw[zj];exact i1.append (zz9 _)
   ·rcases zA.mp q with q|q
    ·exact z.2 x q
    ·rw[zu.mp q]
     have:=z.1;exact⟨by show 1<=c;omega,by show 0<=d.c+(stI m o ds i).2;omega⟩
   ·show(((stI m o ds i).1++[_]).map jk.p).sum=_
    rw[zj,yj];simp
def WK(r:List jk)(g:Int):(aak (r,g)).map jk.n=r.map jk.n/\(aak (r,g)).map jk.p=r.map jk.p:=by
 rcases zzD r with rfl|⟨q,z,rfl⟩
 ·exact⟨rfl,rfl⟩
 ·rw[zzE,Cq]
  exact⟨by simp,by simp⟩
def ajy{r:List jk}{g:Int}(hg:0<=g)(h:∀d∈r,0<=d.c):∀d∈aak (r,g),0<=d.c:=by
 rcases zzD r with rfl|⟨q,z,rfl⟩
 ·exact λd hd=>(zf hd).elim
 ·rw[zzE]at h⊢
  rw[Cq];intro d hd;rcases zA.mp hd with hd|hd
  ·exact h d (yG _ hd)
  ·rw[zu.mp hd]
   have:=h z (zG _ (.head _));show 0<=z.c+g;omega
theorem Tv{m o:Int}{ds:List jk}:∀i,i<=ds.length->((stI m o ds i).1.map jk.c).sum+(stI m o ds i).2=((ds.take i).map jk.c).sum
 |0,_=>by simp[stI]
 |i+1,hi=>by
  have q:=Tv (m:=m) (o:=o) (ds:=ds) i (by omega);obtain⟨d,hd⟩:∃d,ds[i]? =some d:=⟨_,zr (by omega)⟩;have z:ds.take (i+1)=ds.take i++[d]:=by rw[zI,hd];rfl
  rw[MJ hd,z,zj,yj,<-q];generalize Wv m o (ds.map jk.p) i=c;unfold stp;split
  ·simp;omega
  ·simp;omega
def Yu(r:List jk)(g:Int)(h:r≠[]):((aak (r,g)).map jk.c).sum=(r.map jk.c).sum+g:=by
 rcases zzD r with rfl|⟨q,z,rfl⟩
 ·exact(h rfl).elim
 ·rw[zzE,Cq]
  simp;omega
def RB{m o:Int}(hM:Mo m o){ns:List Int}{ls:RL}(hS:Shp ns ls)(hw:1<=pcs ls*m/o):(stI m o (ls.map (·.2)) ls.length).1≠[]/\∀{z:RL},z.map (·.2)=aak (stI m o (ls.map (·.2)) ls.length)->Shp ns z/\pcs z=pcs ls*m/o/\jX z=jX ls:=by
 have fn:∀l:RL,l.map (·.2.n)=(l.map (·.2)).map jk.n:=λl=>by rw[zq];rfl
 have fp:∀l:RL,pcs l=((l.map (·.2)).map jk.p).sum:=λl=>by unfold pcs;rw[zq];rfl
 obtain⟨a,b,c⟩:=Pn hM (ds:=ls.map (·.2)) (λd hd=>by obtain⟨l,hl,rfl⟩:=zb.mp hd;exact⟨hS.p l hl,hS.c l hl⟩) ls.length (by rw[za];omega);rw[z3 (by rw[za];omega)]at a;rw[z3 (by rw[za,za];omega),<-fp]at c;have cc:=Tv (m:=m) (o:=o) (ds:=ls.map (·.2)) ls.length (by rw[za];omega);rw[z3 (by rw[za];omega),<-mD]at cc;generalize stI m o (ls.map (·.2)) ls.length=st at a b c cc;obtain⟨r,g⟩:=st
 have aa:r≠[]:=λe=>by
  subst e;have c:(0:Int)=_:=c;omega
 refine⟨aa,fun{z} e=>?_⟩
 ·obtain⟨f1,f2⟩:=WK r g
  have hn:z.map (·.2.n)=r.map jk.n:=by rw[fn,e,f1]
  have hp:(z.map (·.2)).map jk.p=r.map jk.p:=by rw[e,f2]
  refine⟨⟨by rw[hn];exact zzo a (fn ls▸hS.u),λl hl=>?_,λl hl=>?_,λl hl=>ajy b.1 (λd hd=>(b.2 d hd).2) l.2 (e▸zb.mpr ⟨l,hl,rfl⟩)⟩,by rw[fp,hp];exact c,by rw[mD,e,Yu r g aa];exact cc⟩
  ·have:l.2.p∈(z.map (·.2)).map jk.p:=zb.mpr ⟨l.2,zb.mpr ⟨l,hl,rfl⟩,rfl⟩
   rw[hp]at this;obtain⟨x,hx,e'⟩:=zb.mp this;exact e'▸(b.2 x hx).1
  ·have:l.2.n∈z.map (·.2.n):=zb.mpr ⟨l,hl,rfl⟩
   rw[hn]at this;have:=a.subset this;rw[<-fn]at this;obtain⟨q,hq,e'⟩:=zb.mp this;exact e'▸hS.m q hq
inductive Fg(A:Adr)(vs:List V)(H:Hp)(Q:VK)(E:XK):Prop
 |mk (q:Addr) (ls:RL) (m o:Int) (ns:List Int) (_:vs=[.ref q,.int m,.int o]) (_:H q=some (.lst (jt ls))) (_:kO A H ls) (_:ls.length<=100) (_:Mo m o) (_:Shp ns ls) (_:(ls=[]\/1<=pcs ls*m/o)) (_:∀l l' H',Same H H'->H l=none->H' l=some (.lst (jt l'))->kO A H' l'->Shp ns l'->pcs l'=pcs ls*m/o->jX l'=jX ls->Q (.ref l) H'):Fg A vs H Q E
def Og(T:Txt K mg A D):jQ P w K mg base CX0 4 A.abM D.abM ["lots", "many", "of"] (Fg A):=by
 refine T.adO.F.okv lN λ_ _ _ _ H vs Q E hr h=>?_
 ·obtain⟨q,ls,m,o,ns,rfl,hq,hL,hl,hM,hS,hw,kk⟩:=h
  refine ⟨_,(iH (kE (je (mR) (jl (mV (K:=K)) (by rfl) T.aef (by decide+kernel) (pav 0 iI)) iM (ji _)) (iJ (jb (jV iI))) jn)
   (iH (iY (i:=3) lN.nd rfl orl (jV iI))
   (iH (iY (i:=4) lN.nd rfl orl iM)
   (iH (oh zW rfl (Mg (K:=K) (by rfl) T.aet (pav 0 (iG (pcg (Je T) hr T.adN (Ku T) (pav 0 (pav 1 (pav 2 iI)))) iI))) (pN (K:=K) (n:=2) rfl (jw (iW (i:=5) lN.nd rfl orl) (jw (iW (i:=6) lN.nd rfl orl) nQ)))
    (iJ (kE (je (mR) (pvD 6) iM (ji _)) (iJ (iY (i:=4) lN.nd rfl orl (jc kh (pvD 4) (fv K 5)))) (iH (jh (pW (K:=K) zL zU zV lW (pvD 3) (iG (lK T.agm (jR (K:=K) T) (hr.mono (by decide)) (by rfl) T.aeG (jY T) .nil jB (iG (fv K 5) (iG (fv K 5) (pav 6 (iG (jc kh (fv K 5) (pvD 4)) iI))))) iI)))
     (iJ (iY (i:=4) lN.nd rfl orl iM))))))
   (iH (kE (je (mR) (jl (mV (K:=K)) (by rfl) T.aef (by decide+kernel) (pav 3 iI)) iM (ji _)) (iJ (lO)) jn)
   (iH (iY (i:=7) lN.nd rfl orl (Nx (K:=K) zL PySem.F.slot_list_pop PySem.F.type_list_pop akt (pvD 3)))
   (iH (jh (pW (K:=K) zL zU zV lW (pvD 3) (iG (jy (pv 7) (mc T.af6 T.agB (vy T) hr (wg T) .nil) jB (iG iM (pav 4 iI))) iI)))
   (iJ (jb (pvD 3)))))))))),?_⟩
  simp only[start_eq];walk_at "m";refine⟨_,.inl (iT hq),?_⟩;rw[iV];by_cases h0:ls=[]
  ·subst h0
   rw[zl (by simp)];exact⟨sz,λp hp=>kk p [] _ (iR hp) hp iK (λr h=>(zf h).elim) .nil (by unfold pcs;simp) rfl⟩
  ·have bh:0<ls.length:=yR.mpr h0
   have hw:1<=pcs ls*m/o:=hw.resolve_left h0;obtain⟨aw,aq⟩:=RB hM hS hw;have k:∀l l' H',Same H H'->H l=none->H' l=some (.lst (jt l'))->kO A H' l'->l'.map (·.2)=aak (stI m o (ls.map (·.2)) ls.length)->Q (.ref l) H':=λl l' H' a b c d e=>kk l l' H' a b c d (aq e).1 (aq e).2.1 (aq e).2.2;rw[ze (by omega)];walk_at "m";refine⟨sz,λpr ab=>?_⟩;have s1:=iR (o:=.lst []) ab;have h1:(upd H pr (.lst [])) pr=some (.lst []):=iK;generalize upd H pr (.lst [])=H1 at s1 h1;walk_at "m";rw[ap_seq,ap_for];walk_at "i";have ep:(ls.map λl=>l.2.p)=(ls.map (·.2)).map jk.p:=by rw[zq];rfl
   obtain⟨ds,aj⟩:∃ds,ls.map (·.2)=ds:=⟨_,rfl⟩;have bg:ds.length=ls.length:=by rw[<-aj,za]
   rw[aj]at ep k aw;refine⟨q,ls,m,o,rfl,s1 _ _ hq,hL.same s1,hl,hM,λpc H2 s2 ae al=>⟨pc,rfl,⟨_,iT (s2 _ _ (s1 _ _ hq))⟩,⟨_,iT al⟩,?_⟩⟩;rw[ep]at al;have S2:=s1.trans s2;have ar:pr≠pc:=λe=>by rw[<-e,h1]at ae;cases ae
   have ai:(jt ls).length=((XR m o (ds.map jk.p)).map V.int).length:=by rw[iV,za,Va,za,bg]
   refine Kr.zip (K:=K) (a:=q) (b:=pc) (xs:=jt ls) (ys:=(XR m o (ds.map jk.p)).map V.int) (λi σ H3=>∃(r:RL)(v5 v6 v7:Option V),σ=[some (.ref q),some (.int m),some (.int o),some (.ref pr),some (.int (stI m o ds i).2),v5,v6,v7]/\Same H H3/\H3 pr=some (.lst (jt r))/\H3 pc=some (.lst ((XR m o (ds.map jk.p)).map V.int))/\kO A H3 r/\r.map (·.2)=(stI m o ds i).1/\r.length<=i) ai
    ⟨[],none,none,none,rfl,S2,s2 _ _ h1,al,λr h=>(zf h).elim,rfl,zK _⟩ (λi σ H3 _ ⟨_,_,_,_,_,s3,_,h3,_⟩=>⟨s3.seq (iT hq),iT h3⟩) ?_ ?_
   ·rintro i x y σ H3 pt hx hy ⟨r,v5,v6,v7,rfl,s3,h3,av,ad,aa,af⟩ be
    obtain⟨l,ah,rfl⟩:=jG hx;obtain⟨c,rfl,ax⟩:=uT hy;have bm:i<ls.length:=(zp.mp ah).1;have bb:ds[i]? =some l.2:=by rw[<-aj,zm,ah];rfl
    rw[Ua (by rw[za];omega)]at ax;obtain rfl:=zy ax;obtain⟨dx,bc⟩:=(hL l (get_mem ah)).same s3;have am:=MJ (m:=m) (o:=o) bb;generalize bk:Wv m o (ds.map jk.p) i=c at am;generalize stI m o ds i=st0 at aa am⊢;obtain⟨r0,g0⟩:=st0;have aa:r.map (·.2)=r0:=aa
    try dsimp only
    have n4:=iR (o:=.tup [V.ref l.1,V.int c]) be;have au:(upd H3 pt (.tup [V.ref l.1,V.int c])) pt=some (.tup [V.ref l.1,V.int c]):=iK;have S4:=s3.trans n4;have h4:=n4 _ _ h3;have ao:=n4 _ _ av;have ag:=ad.same n4;have ac:=n4 _ _ bc;generalize upd H3 pt (.tup [V.ref l.1,V.int c])=H4 at S4 h4 ao ag ac au;walk_at "i";refine⟨_,jH au,rfl,_,_,rfl,_,_,rfl,rfl,?_⟩;rw[am];unfold stp;by_cases ap:c=0
    ·subst ap
     rw[zl rfl];refine⟨rfl,?_⟩;rw[zl rfl];exact rd ac T.af6 T.aga (by rfl) ⟨_,rfl,rfl,S4,r,h4,ao,ag,aa,by omega⟩
    ·rw[ze ap]
     refine⟨rfl,?_⟩;rw[ze (by simpa using ap)];walk_at "m";refine⟨.inl ⟨rfl,_,iT h4⟩,rd ac T.af6 T.af7 (by rfl) (rd ac T.af6 T.af8 (by rfl) (rd ac T.af6 T.aga (by rfl) ⟨_,rfl,λz dz hz bf _=>?_⟩))⟩;refine pZ (A:=A) ⟨l.2.n,l.2.s,c,l.2.c+g0⟩ hz bf λH5 s5 hZ=>?_;have h5:=s5 _ _ h4;refine⟨_,h5,by rw[iV,zn];omega,(S4.trans s5).upd ab,r++[(z,⟨l.2.n,l.2.s,c,l.2.c+g0⟩)],?_,(iZ ar.symm).trans (s5 _ _ ao),λx hx=>?_,by rw[zj,aa];rfl,by rw[zB];show r.length+1<=_;omega⟩
     ·rw[iK];unfold jt;rw[zj];rfl
     ·have hx':mq A H5 x.1 x.2:=by
       rcases zA.mp hx with hx|hx
       ·exact(ag x hx).same s5
       ·obtain rfl:=zu.mp hx
        exact hZ
      obtain⟨ak,e⟩:=hx';exact⟨ak,(iZ λz=>by rw[z,h5]at e;cases e).trans e⟩
   ·rintro σ H3 ⟨r,v5,v6,v7,rfl,s3,h3,av,ad,aa,af⟩
    rw[iV]at aa af⊢;walk_at "m";refine⟨_,.inl (iT h3),?_⟩;rw[iV];have e:r≠[]:=λz=>aw (by rw[z]at aa;exact aa.symm);have bj:0<r.length:=yR.mpr e;rw[ze (by omega)];obtain⟨r',z,rfl⟩:∃r' z,r=r'++[z]:=⟨_,_,(List.dropLast_concat_getLast e).symm⟩;generalize stI m o ds ls.length=bd at aa k;obtain⟨st,g⟩:=bd;have aa:(r'++[z]).map (·.2)=st:=aa;subst aa;rw[zj]at k
    try dsimp only
    have az:∃dz,H3 z.1=some (.ins A.acn dz z.2.fs):=ad z (zG _ zg);obtain⟨dz,hz⟩:=az;walk_at "m";refine⟨.inl ⟨rfl,_,iT h3⟩,pr,_,.ref z.1,rfl,rfl,h3,?_,?_⟩
    ·unfold jt;simp
    have ba:(jt (r'++[z])).dropLast=jt r':=by unfold jt;simp
    rw[ba];have h5:(upd H3 pr (.lst (jt r'))) pr=some (.lst (jt r')):=iK;have S5:=s3.upd (o:=.lst (jt r')) ab;have ay:∀{b:Addr}{u:HO},H3 b=some u->(∀xs,u≠.lst xs)->b≠pr:=λe n z=>by rw[z,h3]at e;exact n _ (zy e).symm
    have an:(upd H3 pr (.lst (jt r'))) z.1=some (.ins A.acn dz z.2.fs):=(iZ (ay hz λ_ z=>by cases z)).trans hz
    have as:kO A (upd H3 pr (.lst (jt r'))) r':=λx hx=>by
     obtain⟨dx,e⟩:=ad x (yG _ hx);exact⟨dx,(iZ (ay e λ_ z=>by cases z)).trans e⟩
    generalize upd H3 pr (.lst (jt r'))=H5 at h5 S5 an as
    try dsimp only
    walk_at "m";refine⟨.inl ⟨rfl,_,iT h5⟩,md an zg (by rfl) ⟨z.1,z.2,0,g,rfl,⟨dz,an⟩,λy H6 s6 bi hY=>?_⟩⟩;have h6:=s6 _ _ h5;have bl:r'.length<101:=by rw[zB]at af;omega
    refine⟨_,h6,by rw[iV,zn];omega,k pr (r'++[(y,⟨z.2.n,z.2.s,z.2.p+0,z.2.c+g⟩)]) _ ((S5.trans s6).upd ab) ab ?_ (λx hx=>?_) ?_⟩
    ·rw[iK];unfold jt;rw[zj];rfl
    ·have hx':mq A H6 x.1 x.2:=by
      rcases zA.mp hx with hx|hx
      ·exact(as x hx).same s6
      ·obtain rfl:=zu.mp hx
       exact hY
     obtain⟨ak,e⟩:=hx';exact⟨ak,(iZ λz=>by rw[z,h6]at e;cases e).trans e⟩
    ·rw[zj]
     show _=aak (r'.map (·.2)++[z.2],g);rw[Cq,Int.add_zero];rfl
noncomputable def prt(sh wh:Int)(d:jk):jk:=⟨d.n,d.s,d.p,d.c*sh/wh⟩
noncomputable def rst(sh wh:Int)(d:jk):jk:=⟨d.n,d.s,d.p,d.c - d.c*sh/wh⟩
structure Shr(sh wh:Int):Prop where
 a:0<=sh/\sh<=10000000
 b:1<=wh/\wh<=10000000
def Shr.mul{q z c:Int}(h:Shr q z):Bu c q:=Ja (by have:=h.a;omega) (by have:=h.a;omega)
def Shr.div{z q:Int}(h:Shr z q):FW 0 q:=⟨by have:=h.b;omega,yp (show q.natAbs<=10000000 by have:=h.b;omega) (zH (show 10000000<2^24 by decide) (yr (by decide) (by decide)))⟩
inductive Dm(A:Adr)(vs:List V)(H:Hp)(Q:VK)(E:XK):Prop
 |mk (q:Addr) (ls:RL) (sh wh:Int) (_:vs=[.ref q,.int sh,.int wh]) (_:H q=some (.lst (jt ls))) (_:kO A H ls) (_:ls.length<=100) (_:Shr sh wh) (_:∀t q1 q2 l1 l2 H',Same H H'->H q1=none->H q2=none->q1≠q2->H' t=some (.tup [.ref q1,.ref q2])->H' q1=some (.lst (jt l1))->H' q2=some (.lst (jt l2))->kO A H' l1->kO A H' l2->l1.map (·.2)=(ls.map (·.2)).map (rst sh wh)->l2.map (·.2)=(ls.map (·.2)).map (prt sh wh)->Q (.ref t) H'):Dm A vs H Q E
def Nu(T:Txt K mg A D):jQ P w K mg base CX0 3 A.abO D.abO ["lots", "share", "whole"] (Dm A):=by
 refine T.adQ.F.okv qb λ_ _ _ _ H vs Q E hr h=>?_
 ·obtain⟨q,ls,sh,wh,rfl,hq,hL,hl,hW,k⟩:=h
  refine ⟨_,(iH (nC (i:=3) qb.nd rfl rfl (cap:=[none,some 1,some 2]) (N':=["lot", "share", "whole"]) rfl (by walk_at "c") (jD (K:=K) (pv 0)) (λ_ _ _ _=>(iW (i:=0) (show(["lot", "share", "whole"]:List Str).Nodup from by decide+kernel) rfl orl orr)) (λ_ _ _ _=>jO) (λ_ _ _ _=>(pcg (Eb T) hr T.adw (Jm T) (iG (fv K 0) (pav 1 (pav 2 iI))))))
   (iH (nC (i:=4) qb.nd rfl rfl (cap:=[none,none]) (N':=["lot", "part"]) rfl (by walk_at "c") (Mg (K:=K) (by rfl) T.aet (pav 0 (pav 3 iI))) (λ_ _ _ _=>(pN (K:=K) (n:=2) rfl (jw (iW (i:=0) (show(["lot", "part"]:List Str).Nodup from by decide+kernel) rfl orl orr) (jw (iW (i:=1) (show(["lot", "part"]:List Str).Nodup from by decide+kernel) rfl orl orr) nQ)))) (λ_ _ _ _=>jO) (λ_ _ _ _=>(lK T.agm (jR (K:=K) T) (hr.mono (by decide)) (by rfl) T.aeG (jY T) .nil jB (iG (fv K 0) (iG (fv K 0) (iG (fv K 0) (iG (jc uf (fv K 0) (pvD 1)) iI)))))))
   (iH (nC (i:=5) qb.nd rfl rfl (cap:=[none,none]) (N':=["lot", "part"]) rfl (by walk_at "c") (Mg (K:=K) (by rfl) T.aet (pav 0 (pav 3 iI))) (λ_ _ _ _=>(pN (K:=K) (n:=2) rfl (jw (iW (i:=0) (show(["lot", "part"]:List Str).Nodup from by decide+kernel) rfl orl orr) (jw (iW (i:=1) (show(["lot", "part"]:List Str).Nodup from by decide+kernel) rfl orl orr) nQ)))) (λ_ _ _ _=>jO) (λ_ _ _ _=>(lK T.agm (jR (K:=K) T) (hr.mono (by decide)) (by rfl) T.aeG (jY T) .nil jB (iG (fv K 0) (iG (fv K 0) (iG (fv K 0) (pav 1 iI)))))))
   (iJ (jb (nP (pav 4 (pav 5 iI)))))))),?_⟩
  simp only[start_eq];walk_at "m";refine⟨⟨_,iT hq⟩,?_⟩;refine kI.listE (K:=K) (λσ=>∃a,σ=[a,some (.int sh),some (.int wh)]) (λi v _=>∃l,ls[i]? =some l/\v=.int (l.2.c*sh/wh)) (iT hq) ⟨_,rfl⟩ (by rw[iV,zn];omega) ?_ ?_
  ·rintro Da i x hx σ H5 R ⟨_,rfl⟩ sm hD _ kk
   obtain⟨l,ab,rfl⟩:=jG hx;obtain⟨dx,aa⟩:=(hL l (get_mem ab)).same sm;walk_at "i";exact rd aa T.af6 T.aga (by rfl) ⟨_,_,_,rfl,hW.mul,hW.div,kk _ _ H5 ⟨_,rfl⟩ (same_refl _) λH' _=>⟨l,ab,rfl⟩⟩
  ·intro Da H1 acc hD s1 hA ao hF
   rw[xV (f:=λl=>l.2.c*sh/wh) (by rw[ao,iV]) hF]at hA;walk_at "m";refine⟨⟨_,iT (s1 _ _ hq)⟩,⟨_,iT hA⟩,?_⟩;refine kI.zipE (K:=K) (λσ=>∃a b,σ=[a,b]) (λi v H'=>∃b l,ls[i]? =some l/\v=.ref b/\mq A H' b (rst sh wh l.2)) (iT (s1 _ _ hq)) (iT hA) (by rw[iV,za,za]) ⟨_,_,rfl⟩ (by rw[iV,zn];omega) ?_ ?_
   ·rintro Db i x y hx hy σ H5 p R ⟨_,_,rfl⟩ ai al ⟨aiY,ah⟩ hp kk
    obtain⟨l,ab,rfl⟩:=jG hx;obtain⟨c,rfl,hc⟩:=uT hy;rw[zm,ab]at hc;obtain rfl:=zy hc;obtain⟨dx,aa⟩:=(hL l (get_mem ab)).same (s1.trans ai);have aa:=iR (o:=.tup [V.ref l.1,V.int (l.2.c*sh/wh)]) hp _ _ aa;have ac:(upd H5 p (.tup [V.ref l.1,V.int (l.2.c*sh/wh)])) p=some (.tup [V.ref l.1,V.int (l.2.c*sh/wh)]):=iK;have ae:=iR (o:=.tup [V.ref l.1,V.int (l.2.c*sh/wh)]) hp _ _ ah;generalize upd H5 p (.tup [V.ref l.1,V.int (l.2.c*sh/wh)])=H6 at aa ac ae kk;walk_at "i";refine⟨_,jH ac,rfl,_,_,rfl,_,_,rfl,rfl,?_⟩;refine rd aa T.af6 T.af7 (by rfl) (rd aa T.af6 T.af8 (by rfl) (rd aa T.af6 T.af9 (by rfl) (rd aa T.af6 T.aga (by rfl) ⟨_,rfl,_,rfl,λz dz hz ak _=>?_⟩)));refine pZ (A:=A) (rst sh wh l.2) hz ak λH7 s7 hZ=>kk (.ref z) _ H7 ⟨_,_,rfl⟩ s7 λH' hb=>⟨z,l,ab,rfl,hZ.but (λe=>by rw[e,ae]at hz;cases hz) hb⟩
   ·intro Db H2 an al s2 aj ad ap
    rw[iV]at ad
    obtain ⟨l1,q1,q2,q3⟩:=RN (λ_ H r=>mq A H r.1 r.2) (H:=H2) (acc:=an) (ds:=(ls.map (·.2)).map (rst sh wh)) (by rw[ad,za,za]) λi v hv=>by
     obtain⟨b,l,h1,h3,h4⟩:=ap i v hv;refine⟨b,_,?_,h3,h4⟩;rw[zm,zm,h1];rfl
    subst q1;have S2:=s1.trans s2;walk_at "m";refine⟨⟨_,iT (S2 _ _ hq)⟩,⟨_,iT (s2 _ _ hA)⟩,?_⟩;refine kI.zipE (K:=K) (λσ=>∃a b,σ=[a,b]) (λi v H'=>∃b l,ls[i]? =some l/\v=.ref b/\mq A H' b (prt sh wh l.2)) (iT (S2 _ _ hq)) (iT (s2 _ _ hA)) (by rw[iV,za,za]) ⟨_,_,rfl⟩ (by rw[iV,zn];omega) ?_ ?_
    ·rintro Dc i x y hx hy σ H5 p R ⟨_,_,rfl⟩ ai ag ⟨aiY,ah⟩ hp kk
     obtain⟨l,ab,rfl⟩:=jG hx;obtain⟨c,rfl,hc⟩:=uT hy;rw[zm,ab]at hc;obtain rfl:=zy hc;obtain⟨dx,aa⟩:=(hL l (get_mem ab)).same (S2.trans ai);have aa:=iR (o:=.tup [V.ref l.1,V.int (l.2.c*sh/wh)]) hp _ _ aa;have ac:(upd H5 p (.tup [V.ref l.1,V.int (l.2.c*sh/wh)])) p=some (.tup [V.ref l.1,V.int (l.2.c*sh/wh)]):=iK;have ae:=iR (o:=.tup [V.ref l.1,V.int (l.2.c*sh/wh)]) hp _ _ ah;generalize upd H5 p (.tup [V.ref l.1,V.int (l.2.c*sh/wh)])=H6 at aa ac ae kk;walk_at "i";refine⟨_,jH ac,rfl,_,_,rfl,_,_,rfl,rfl,?_⟩;refine rd aa T.af6 T.af7 (by rfl) (rd aa T.af6 T.af8 (by rfl) (rd aa T.af6 T.af9 (by rfl) (λz dz hz ak _=>?_)));refine pZ (A:=A) (prt sh wh l.2) hz ak λH7 s7 hZ=>kk (.ref z) _ H7 ⟨_,_,rfl⟩ s7 λH' hb=>⟨z,l,ab,rfl,hZ.but (λe=>by rw[e,ae]at hz;cases hz) hb⟩
    ·intro Dc H3 am ag s3 aq af ar
     rw[iV]at af
     obtain ⟨l2,p1,p2,p3⟩:=RN (λ_ H r=>mq A H r.1 r.2) (H:=H3) (acc:=am) (ds:=(ls.map (·.2)).map (prt sh wh)) (by rw[af,za,za]) λi v hv=>by
      obtain⟨b,l,h1,h3,h4⟩:=ar i v hv;refine⟨b,_,?_,h3,h4⟩;rw[zm,zm,h1];rfl
     subst p1;have S3:=S2.trans s3;refine⟨sz,λt ht=>?_⟩;have st:=iR (o:=.tup [V.ref Db,V.ref Dc]) ht;exact k t Db Dc l1 l2 _ (S3.trans st) (s1.free al) (S2.free ag) (λe=>by rw[e]at aj;rw[aj]at ag;cases ag) iK (st _ _ (s3 _ _ aj)) (st _ _ aq) ((kO.same q3 s3).same st) (kO.same p3 st) q2 p2
def YF{f:jk->jk}(hf:∀d,(f d).n=d.n/\(f d).p=d.p){ls z:RL}(h:z.map (·.2)=(ls.map (·.2)).map f):Sim ls z:=by
 have q:∀l:RL,l.map VP=(l.map (·.2)).map λd=>(d.n,d.p):=λl=>by rw[zq];rfl
 unfold Sim;rw[q,q,h,zq];refine zZ λd _=>?_;obtain⟨a,b⟩:=hf d;show((f d).n,(f d).p)=_;rw[a,b]
structure GP(kvs:List (Key×V)):Prop where
 k:∀kv∈kvs,∃(z:Str)(i:Int),kv=(Sum.inr z,.int i)/\1<=i
 u:(kvs.map (·.1)).Nodup
def GP.val{kvs:List (Key×V)}(h:GP kvs)(z:Str):pF kvs (Sum.inr z)=if 0<jq kvs z then some (.int (jq kvs z))else none:=by
 unfold jq
 cases e:pF kvs (Sum.inr z)with
 |none=>rfl
 |some v=>
  obtain⟨y,i,q,hi⟩:=h.k _ (Sy e);cases q;rw[zl (show(0:Int)<i by omega)]
def GP.nn{kvs:List (Key×V)}(h:GP kvs)(z:Str):0<=jq kvs z:=by
 have:=h.val z;by_cases e:0<jq kvs z
 ·omega
 ·rw[ze e]at this
  unfold jq;rw[this];exact zze _
def ahS:GP []:=⟨λq h=>(zf h).elim,.nil⟩
def qP{kvs:List (Key×V)}(h:GP kvs)(z:Str):(pF kvs (Sum.inr z)).getD (.int 0)=.int (jq kvs z):=by
 rw[h.val z];have:=h.nn z;split
 ·rfl
 ·show V.int 0=V.int (jq kvs z)
  congr 1;omega
noncomputable def posK(kv:Key×V):Bool:=match kv.2 with
 |.int i=>decide (0<i)
 |_=>false
def Rp(kvs:List (Key×V))(k:Key)(v:V):(putK kvs k v).length<=kvs.length+1:=by
 unfold putK;split
 ·rw[za];omega
 ·rw[zB];exact zo _
noncomputable def Gp(kvs:List (Key×V))(z:Str)(n:Int):List (Key×V):=(putK kvs (Sum.inr z) (.int n)).filter posK
def XH{kvs:List (Key×V)}(h:GP kvs)(z:Str)(n:Int):GP (Gp kvs z n):=by
 refine⟨λkv q=>?_,zzo (List.filter_sublist.map _) (CV h.u)⟩;obtain⟨h1,h2⟩:=z6.mp q;rcases Jp h1 with rfl|h1
 ·have h2:decide (0<n)=true:=h2
  exact⟨z,n,rfl,by have:=ym h2;omega⟩
 ·exact h.k kv h1
theorem Tw:∀(ps:List (Key×V))(acc:List (Key×V)),((acc++ps).map (·.1)).Nodup->ps.foldl (λa p=>putK a p.1 p.2) acc=acc++ps
 |[],acc,_=>by rw[yo];rfl
 |p::ps,acc,hu=>by
  have q:pF acc p.1=none:=by
   cases h:pF acc p.1 with
   |none=>rfl
   |some v=>
    rw[zj,zi]at hu;exact absurd rfl ((zzc.mp hu).2.2 p.1 (zb.mpr ⟨(p.1,v),Sy h,rfl⟩) p.1 zg)
  rw[yh]
  have e:putK acc p.1 p.2=acc++[p]:=by
   unfold putK;rw[ze (by rw[oU,q];simp)]
  rw[e,Tw ps (acc++[p]) (by rw[zza];exact hu),zza];rfl
noncomputable def vK:V->Key
 |.str z=>Sum.inr z
 |.int i=>Sum.inl i
 |_=>Sum.inl 0
def amo(k:Key):vK (kV k)=k:=by cases k<;>rfl
noncomputable def kfD(H:Hp):V->Key
 |.ref b=>match H b with
  |some (.tup [x,_])=>vK x
  |_=>Sum.inl 0
 |_=>Sum.inl 0
noncomputable def vfD(H:Hp):V->V
 |.ref b=>match H b with
  |some (.tup [_,y])=>y
  |_=> .non
 |_=> .non
def Yx{H:Hp}{b:Addr}{q:Key×V}(h:H b=some (.tup [kV q.1,q.2])):kfD H (.ref b)=q.1:=by
 unfold kfD;dsimp only;rw[h];exact amo _
def Xc{H:Hp}{b:Addr}{q:Key×V}(h:H b=some (.tup [kV q.1,q.2])):vfD H (.ref b)=q.2:=by
 unfold vfD;dsimp only;rw[h]
def Yo{H:Hp}{ps:List (Key×V)}{acc:List V}(hl:acc.length=ps.length)(h:∀(i:Nat) v,acc[i]? =some v->∃q,ps[i]? =some q/\∃b,v=.ref b/\H b=some (.tup [kV q.1,q.2]))(hu:(ps.map (·.1)).Nodup):MP (kfD H) (vfD H) acc=ps:=by
 have e:acc.map (λy=>(kfD H y,vfD H y))=ps:=by
  refine zzb λi=>?_;rw[zm];by_cases hi:i<acc.length
  ·obtain⟨q,h1,b,h2,z⟩:=h i _ (zr hi)
   rw[zr hi,h2,h1];show some (kfD H (.ref b),vfD H (.ref b))=some q;rw[Yx z,Xc z]
  ·rw[zY (by omega),zY (by omega)]
   rfl
 have:=Tw (acc.map λy=>(kfD H y,vfD H y)) [] (by rw[yY,e];exact hu);rw[List.foldl_map,yY]at this;unfold MP;rw[this,e]
inductive xr(vs:List V)(H:Hp)(Q:VK)(E:XK):Prop
 |mk (a:Addr) (kvs:List (Key×V)) (z:Str) (n:Int) (_:vs=[.ref a,.str z,.int n]) (_:Rd H a (.dK kvs)) (_:GP kvs) (_:kvs.length<=100) (_:∀p H',Same H H'->H p=none->H' p=some (.dK (Gp kvs z n))->Q (.ref p) H'):xr vs H Q E
def wu(T:Txt K mg A D):jQ P w K mg base CX0 1 A.abR D.abR ["held", "ware", "pieces"] (xr):=by
 refine T.adT.F.okv Fj λ_ _ _ _ H vs Q E hr h=>?_
 ·obtain⟨a,kvs,z,n,rfl,ha,hH,hl,k⟩:=h
  refine ⟨_,(iH (iY (i:=3) Fj.nd rfl orl (jJ HF (by rfl) T.aei (by decide+kernel) (pav 0 iI)))
   (iH (JS (Cm hr) (pvD 3) (pvD 1) (pvD 2) rfl)
   (iJ (jb (jJ (qm (K:=K) rfl) (by rfl) T.aei (by decide+kernel) (iG (jW (cap:=[none,none]) (N':=["name", "count"]) rfl (by walk_at "c") (Vg (Nx (K:=K) yb zzp PySem.F.type_dict_items TQ (pvD 3))) (λ_ _ _ _=>(pN (K:=K) (n:=2) rfl (jw (iW (i:=0) (show(["name", "count"]:List Str).Nodup from by decide+kernel) rfl orl orr) (jw (iW (i:=1) (show(["name", "count"]:List Str).Nodup from by decide+kernel) rfl orl orr) nQ)))) (λ_ _ _ _=>(JD (je (Gf) (pvD 1) iM (ji _)))) (λ_ _ _ _=>(nP (pav 0 (pav 1 iI))))) iI)))))),?_⟩
  simp only[start_eq];walk_at "m";refine⟨_,ha,λq ab=>?_⟩;have n1:=iR (o:=.dK kvs) ab;have h1:(upd H q (.dK kvs)) q=some (.dK kvs):=iK;generalize upd H q (.dK kvs)=H1 at n1 h1;walk_at "m";obtain⟨P,hP⟩:∃P,putK kvs (Sum.inr z) (.int n)=P:=⟨_,rfl⟩;have ae:P.length<=101:=by rw[<-hP];have:=Rp kvs (Sum.inr z) (.int n);omega
  have ag:∀kv∈P,∃(y:Str)(i:Int),kv=(Sum.inr y,.int i):=λkv aa=>by
   rw[<-hP]at aa;rcases Jp aa with rfl|h0
   ·exact⟨z,n,rfl⟩
   ·obtain⟨y,i,e,_⟩:=hH.k kv h0
    exact⟨y,i,e⟩
  refine⟨_,Ud (k:=Sum.inr z) h1 (by rw[zn];omega),?_⟩;rw[hP];have s2:Same H (upd H1 q (.dK P)):=n1.upd ab;have h2:(upd H1 q (.dK P)) q=some (.dK P):=iK;generalize upd H1 q (.dK P)=H2 at s2 h2;refine⟨.inr (.inr (.inl ⟨rfl,.inl ⟨_,h2⟩⟩)),_,h2,λv hv=>⟨q,iK,P,?_,λo=>?_⟩⟩
  ·exact(iZ (jT h2 hv)).trans h2
  have s3:Same H (upd (upd H2 v (Gq v q)) q (.frz o (.dK P))):=(s2.trans (iR hv)).upd ab;have h3:(upd (upd H2 v (Gq v q)) q (.frz o (.dK P))) q=some (.frz o (.dK P)):=iK;generalize upd (upd H2 v (Gq v q)) q (.frz o (.dK P))=H3 at s3 h3;refine kI.itemsF (λσ=>∃a b,σ=[a,b]) posK (λkv v H'=>∃b,v=.ref b/\H' b=some (.tup [kV kv.1,kv.2])) h3 ⟨_,_,rfl⟩ (by rw[zn];omega) ?_ ?_
  ·rintro D i kv aa σ H5 p R1 R2 ⟨_,_,rfl⟩ s5 hD ⟨acc,hA⟩ hp k1 k2
   obtain⟨y,j,rfl⟩:=ag kv (zh aa);have h6:(upd H5 p (.tup [kV (Sum.inr y),.int j])) p=some (.tup [.str y,.int j]):=iK;have ac:=iR (o:=.tup [kV (Sum.inr y),.int j]) hp _ _ hA;generalize upd H5 p (.tup [kV (Sum.inr y),.int j])=H6 at h6 ac k1 k2;walk_at "i";refine⟨_,jH h6,rfl,_,_,rfl,_,_,rfl,rfl,_,rfl,?_⟩;by_cases hj:0<j
   ·rw[zl hj]
    exact⟨sz,λt ht=>k1 (zM hj) _ _ _ ⟨_,_,rfl⟩ (iR ht) λH' hb=>⟨t,rfl,hb _ _ (λe=>by rw[e,ac]at ht;cases ht) iK⟩⟩
   ·rw[ze hj]
    exact k2 (zQ hj) _ _ ⟨_,_,rfl⟩ (same_refl _)
  ·intro D H4 acc hD s4 hA ad hF
   have hF':∀(i:Nat) v,acc[i]? =some v->∃kv,(P.filter posK)[i]? =some kv/\∃b,v=.ref b/\H4 b=some (.tup [kV kv.1,kv.2]):=hF
   have af:((P.filter posK).map (·.1)).Nodup:=by
    have:=(XH hH z n).u;unfold Gp at this
    rwa [hP]at this
   have ah:(P.filter posK).length<=101:=zN (yn _ _) ae;rw[ap_dictPairs];refine⟨acc,kfD H4,vfD H4,iT hA,by omega,λy hy=>?_,λp hp=>?_⟩
   ·obtain⟨i,hi,e⟩:=z9 hy
    obtain⟨kv,_,b,rfl,hb⟩:=hF' i y (by rw[zr hi,e]);exact⟨b,rfl,by rw[Yx hb,Xc hb];exact jH hb⟩
   ·rw[Yo ad hF' af]
    have S:=s3.trans s4;refine k p _ (S.trans (iR hp)) (S.free hp) ?_;rw[iK];unfold Gp;rw[hP]
inductive tO(vs:List V)(H:Hp)(Q:VK)(E:XK):Prop
 |mk (a:Addr) (kvs:List (Key×V)) (z:Str) (n:Int) (_:vs=[.ref a,.str z,.int n]) (_:Rd H a (.dK kvs)) (_:GP kvs) (_:kvs.length<=100) (_:∀p H',Same H H'->H p=none->H' p=some (.dK (Gp kvs z (jq kvs z+n)))->Q (.ref p) H'):tO vs H Q E
def oG(T:Txt K mg A D):jQ P w K mg base CX0 2 A.abS D.abS ["held", "ware", "pieces"] (tO):=by
 refine T.adU.F.okv En λ_ _ _ _ H vs Q E hr h=>?_
 ·obtain⟨a,kvs,z,n,rfl,ha,q,hl,k⟩:=h
  refine⟨_,(iJ (jb (pcg (wu T) hr T.adT (Bw T) (pav 0 (pav 1 (iG (jc kh (rm (Cm hr) (pvD 0) (pvD 1) iM ⟨rfl,rfl,rfl,rfl⟩) (pvD 2)) iI)))))),?_⟩;walk_at "a";exact⟨.inl ⟨_,ha⟩,_,.inl ⟨kvs,Sum.inr z,ha,rfl,rfl⟩,jq kvs z,qP q z,a,kvs,z,_,rfl,ha,q,hl,k⟩
inductive rE(vs:List V)(H:Hp)(Q:VK)(E:XK):Prop
 |mk (a:Addr) (kvs:List (Key×V)) (z:Str) (n:Int) (_:vs=[.ref a,.str z,.int n]) (_:Rd H a (.dK kvs)) (_:GP kvs) (_:kvs.length<=100) (_:(jq kvs z<n->Q .non H)) (_:(n<=jq kvs z->∀p H',Same H H'->H p=none->H' p=some (.dK (Gp kvs z (jq kvs z - n)))->Q (.ref p) H')):rE vs H Q E
def rB(T:Txt K mg A D):jQ P w K mg base CX0 2 A.abU D.abU ["held", "ware", "pieces"] (rE):=by
 refine T.adW.F.okv qZ λ_ _ _ _ H vs Q E q h=>?_
 ·obtain⟨a,kvs,z,n,rfl,ha,hH,hl,k1,k2⟩:=h
  refine ⟨_,(iH (iY (i:=3) qZ.nd rfl orl (rm (Cm q) (pvD 0) (pvD 1) iM ⟨rfl,rfl,rfl,rfl⟩))
   (iH (kE (je (Ik) (pvD 3) (pvD 2) (ji _)) (iJ (jb mF)) jn)
   (iJ (jb (pcg (wu T) q T.adT (Bw T) (pav 0 (pav 1 (iG (jc uf (pvD 3) (pvD 2)) iI)))))))),?_⟩
  simp only[start_eq];walk_at "m";refine⟨.inl ⟨_,ha⟩,_,.inl ⟨kvs,Sum.inr z,ha,rfl,rfl⟩,?_⟩;rw[qP hH z];walk_at "m";by_cases c:jq kvs z<n
  ·rw[zl c]
   exact k1 c
  ·rw[ze c]
   exact⟨a,kvs,z,_,rfl,ha,hH,hl,k2 (by omega)⟩
noncomputable def Ent.beh:Ent->List (Key×V)->Option (List (Key×V))
 |.buy _ _ w p _ _,kvs=>some (Gp kvs w (jq kvs w+p))
 |.sell _ _ w p _ _ _,kvs=>if jq kvs w<p then none else some (Gp kvs w (jq kvs w - p))
 |.gift _ _ w p _ _,kvs=>some (Gp kvs w (jq kvs w+p))
 |.give _ _ w p _,kvs=>if jq kvs w<p then none else some (Gp kvs w (jq kvs w - p))
 |.split _ _ w m f,kvs=>if 0<jq kvs w/\jq kvs w*m/f=0 then none else some (Gp kvs w (jq kvs w*m/f))
 |.part _ _ w u _ _,kvs=>some (Gp kvs u (jq kvs u+jq kvs w))
inductive Dr(A:Adr)(isK:Ent->Bool)(vs:List V)(H:Hp)(Q:VK)(E:XK):Prop
 |mk (x a:Addr) (e:Ent) (kvs:List (Key×V)) (_:isK e=true) (_:vs=[.ref x,.ref a]) (_:IsE A H x e) (_:e.good) (_:Rd H a (.dK kvs)) (_:GP kvs) (_:kvs.length<=100) (_:(e.beh kvs=none->∀H',Same H H'->Q .non H')) (_:∀kv2,e.beh kvs=some kv2->∀p H',Same H H'->H p=none->H' p=some (.dK kv2)->Q (.ref p) H'):Dr A isK vs H Q E
def CQ(T:Txt K mg A D):jQ P w K mg base CX0 3 A.abT D.abT ["self", "held"] (Dr A Be):=by
 refine T.adV.okv Cy λ_ _ _ _ H vs Q E hr h=>?_
 ·obtain⟨x,a,e,kvs,hk,rfl,⟨dx,nv,z,hn⟩,hg,ha,hH,hl,k1,k2⟩:=h
  refine⟨_,(iJ (jb (pcg (oG T) hr T.adU (pQ T) (pav 1 (iG (fv K 0) (iG (fv K 0) iI)))))),?_⟩
  cases e with
  |buy d n w p r f=>
   walk_at "a";exact rd z T.ae1 T.ae5 (by rfl) (rd z T.ae1 T.ae6 (by rfl) ⟨a,kvs,w,p,rfl,ha,hH,hl,λq H' s h1 h2=>k2 _ rfl q H' s h1 h2⟩)
  |_=>cases hk
def Bx(T:Txt K mg A D):jQ P w K mg base CX0 3 A.abV D.abV ["self", "held"] (Dr A rO):=by
 refine T.adX.okv BR λ_ _ _ _ H vs Q E hr h=>?_
 ·obtain⟨x,a,e,kvs,hk,rfl,⟨dx,nv,z,hn⟩,hg,ha,hH,hl,k1,k2⟩:=h
  refine⟨_,(iJ (jb (pcg (rB T) hr T.adW (tW T) (pav 1 (iG (fv K 0) (iG (fv K 0) iI)))))),?_⟩
  cases e with
  |sell d n w p r f o=>
   walk_at "a";refine rd z T.afx T.afB (by rfl) (rd z T.afx T.afC (by rfl) ⟨a,kvs,w,p,rfl,ha,hH,hl,λc=>k1 (zl c) H (same_refl _),λc q H' s h1 h2=>k2 _ (ze (by omega)) q H' s h1 h2⟩)
  |_=>cases hk
def Ca(T:Txt K mg A D):jQ P w K mg base CX0 3 A.abW D.abW ["self", "held"] (Dr A tL):=by
 refine T.adY.okv Bq λ_ _ _ _ H vs Q E hr h=>?_
 ·obtain⟨x,a,e,kvs,hk,rfl,⟨dx,nv,z,hn⟩,hg,ha,hH,hl,k1,k2⟩:=h
  refine⟨_,(iJ (jb (pcg (oG T) hr T.adU (pQ T) (pav 1 (iG (fv K 0) (iG (fv K 0) iI)))))),?_⟩
  cases e with
  |gift d n w p c s=>
   walk_at "a";exact rd z T.afa T.afe (by rfl) (rd z T.afa T.aff (by rfl) ⟨a,kvs,w,p,rfl,ha,hH,hl,λq H' s h1 h2=>k2 _ rfl q H' s h1 h2⟩)
  |_=>cases hk
def Cd(T:Txt K mg A D):jQ P w K mg base CX0 3 A.abX D.abX ["self", "held"] (Dr A rN):=by
 refine T.adZ.okv BL λ_ _ _ _ H vs Q E hr h=>?_
 ·obtain⟨x,a,e,kvs,hk,rfl,⟨dx,nv,z,hn⟩,hg,ha,hH,hl,k1,k2⟩:=h
  refine⟨_,(iJ (jb (pcg (rB T) hr T.adW (tW T) (pav 1 (iG (fv K 0) (iG (fv K 0) iI)))))),?_⟩
  cases e with
  |give d n w p o=>
   walk_at "a";refine rd z T.aeU T.aeY (by rfl) (rd z T.aeU T.aeZ (by rfl) ⟨a,kvs,w,p,rfl,ha,hH,hl,λc=>k1 (zl c) H (same_refl _),λc q H' s h1 h2=>k2 _ (ze (by omega)) q H' s h1 h2⟩)
  |_=>cases hk
def Af(T:Txt K mg A D):jQ P w K mg base CX0 2 A.abY D.abY ["self", "held"] (Dr A oZ):=by
 refine T.ad0.okv mO λ_ _ _ _ H vs Q E hr h=>?_
 ·obtain⟨x,a,e,kvs,hk,rfl,⟨dx,nv,hx,hn⟩,hg,ha,hH,hl,k1,k2⟩:=h
  refine ⟨_,(iH (iY (i:=2) mO.nd rfl orl (rm (Cm hr) (pvD 1) (fv K 0) iM ⟨rfl,rfl,rfl,rfl⟩))
   (iH (iY (i:=3) mO.nd rfl orl (jc mK (jc mQ (pvD 2) (fv K 0)) (fv K 0)))
   (iH (kE (PW.pt (Ff (je (Gf) (pvD 2) iM (ji _)) (Ep (je (mR) (pvD 3) iM (ji _))))) (iJ (jb mF)) jn)
   (iJ (jb (pcg (wu T) hr T.adT (Bw T) (pav 1 (iG (fv K 0) (pav 3 iI))))))))),?_⟩
  cases e with
  |split d n w m f=>
   simp only[start_eq];walk_at "m";obtain⟨_,⟨ae,ag⟩,af,ah⟩:=hg;refine⟨.inl ⟨_,ha⟩,rd hx T.afi T.afm (by rfl) ⟨_,.inl ⟨kvs,Sum.inr w,ha,rfl,rfl⟩,?_⟩⟩;rw[qP hH w];walk_at "m"
   refine ⟨_,dx,_,hx,T.afi,T.afn,_,by rfl,_,rfl,Ja (by omega) (by omega),_,dx,_,hx,T.afi,T.afo,_,by rfl,_,rfl,⟨by omega,by
    have:f.natAbs<=1000:=by omega
    exact yp this (by decide)⟩,?_⟩
   walk_at "m"
   have ac:¬(0<jq kvs w/\jq kvs w*m/f=0)->∃aa ad ab,H x=some (HO.ins aa ad ab)/\Cls K aa/\jd K aa (Str.ofString "ware")/\∃x,List.lookup (Str.ofString "ware") ab=some x/\xr [V.ref a,x,V.int (jq kvs w*m/f)] H Q E0:=λc=>
    (rd hx T.afi T.afm (by rfl) ⟨a,kvs,w,_,rfl,ha,hH,hl,λq H' s h1 h2=>k2 _ (ze c) q H' s h1 h2⟩)
   split
   ·rename_i c1
    split
    ·rename_i c2
     exact k1 (zl ⟨c1,c2⟩) H (same_refl _)
    ·rename_i c2
     exact ac λz=>c2 z.2
   ·rename_i c1
    exact ac λz=>c1 z.1
  |_=>cases hk
def vQ(T:Txt K mg A D):jQ P w K mg base CX0 3 A.abZ D.abZ ["self", "held"] (Dr A sX):=by
 refine T.ad1.okv vV λ_ _ _ _ H vs Q E hr h=>?_
 ·obtain⟨x,a,e,kvs,hk,rfl,⟨dx,nv,z,hn⟩,hg,ha,hH,hl,k1,k2⟩:=h
  refine⟨_,(iJ (jb (pcg (oG T) hr T.adU (pQ T) (pav 1 (iG (fv K 0) (iG (rm (Cm hr) (pvD 1) (fv K 0) iM ⟨rfl,rfl,rfl,rfl⟩) iI)))))),?_⟩
  cases e with
  |part d n w u s t=>
   walk_at "a";refine rd z T.afp T.afu (by rfl) ⟨.inl ⟨_,ha⟩,rd z T.afp T.aft (by rfl) ⟨_,.inl ⟨kvs,Sum.inr w,ha,rfl,rfl⟩,?_⟩⟩;rw[qP hH w];exact⟨a,kvs,u,_,rfl,ha,hH,hl,λq H' s h1 h2=>k2 _ rfl q H' s h1 h2⟩
  |_=>cases hk
abbrev SP5:=List (Addr×jk×Int)
noncomputable def Jw(ps:SP5):List V:=ps.map λr=>V.ref r.1
def Jg(ps:SP5):(Jw ps).length=ps.length:=by unfold Jw;rw[za]
def Yi{rs:SP5}{i:Nat}{y:V}(h:(Jw rs)[i]? =some y):∃r,rs[i]? =some r/\y=.ref r.1:=by
 unfold Jw at h;rw[zm]at h
 cases e:rs[i]? with
 |none=>rw[e]at h;cases h
 |some r=>rw[e]at h;exact⟨r,rfl,(zy h).symm⟩
structure jM where
 n:Int
 d:Int
 w:Str
 pr:Int
 pl:Addr
 ps:SP5
 lo:Option Int
noncomputable def loV:Option Int->V
 |none=> .non
 |some i=> .int i
noncomputable def jM.fs(s:jM):List (Str×V):=[("number",.int s.n),("day",.int s.d),("ware",.str s.w),("proceeds",.int s.pr),("parts",.ref s.pl),("laid_on",loV s.lo)]
noncomputable def jM.co(s:jM):Int:=(s.ps.map λr=>r.2.1.c).sum
noncomputable def jM.cnt(s:jM):Int:=if s.lo=none then s.pr - s.co else 0
noncomputable def ajH(H:Hp)(ps:SP5):Prop:=∀r∈ps,H r.1=some (.tup (r.2.1.vs++[.int r.2.2]))
structure lA(A:Adr)(H:Hp)(x:Addr)(s:jM):Prop where
 i:∃dx,H x=some (.ins A.ack dx s.fs)
 p:H s.pl=some (.lst (Jw s.ps))
 t:ajH H s.ps
 l:s.ps.length<=64
def ajH.same{H H':Hp}{ps:SP5}(h:ajH H ps)(s:Same H H'):ajH H' ps:=λr q=>s _ _ (h r q)
theorem lA.same{H H':Hp}{x:Addr}{d:jM}(h:lA A H x d)(s:Same H H'):lA A H' x d:=⟨let⟨dx,e⟩:=h.i;⟨dx,s _ _ e⟩,s _ _ h.p,h.t.same s,h.l⟩
def aiY{ps:SP5}{acc:List V}(hl:acc.length=ps.length)(h:∀(i:Nat) v,acc[i]? =some v->∃r,ps[i]? =some r/\v=.int r.2.1.c):acc=(ps.map λr=>r.2.1.c).map V.int:=by
 refine zzI (by simp[hl]) λi h1 h2=>?_;obtain⟨l,q,e2⟩:=h i acc[i] (by simp);rw[e2];have z:i<ps.length:=by omega
 have:ps[i]=l:=by
  rw[zr z]at q;exact zy q
 simp[this]
inductive vq(vs:List V)(H:Hp)(Q:VK)(E:XK):Prop
 |mk (p:Addr) (ps:SP5) (_:vs=[.ref p]) (_:H p=some (.lst (Jw ps))) (_:ajH H ps) (_:ps.length<=64) (_:∀H',Same H H'->Q (.int (ps.map λr=>r.2.1.c).sum) H'):vq vs H Q E
def Gm(T:Txt K mg A D):jQ P w K mg base CX0 1 A.aa0 D.aa0 ["parts"] vq:=by
 refine T.ac3.F.okv Gd λ_ _ _ _ H vs Q E hr h=>?_
 ·obtain⟨p,ps,rfl,hp,hT,hl,k⟩:=h
  refine⟨_,(iJ (jb (jl (qC (K:=K) rfl) (by rfl) T.aer (by decide+kernel) (iG (jW (cap:=[none,none,none,none,none]) (N':=["lot", "since", "pieces", "cost", "share"]) rfl (by walk_at "c") (jD (K:=K) (pv 0)) (λ_ _ _ _=>(pN (K:=K) (n:=5) rfl (jw (iW (i:=0) (show(["lot", "since", "pieces", "cost", "share"]:List Str).Nodup from by decide+kernel) rfl orl orr) (jw (iW (i:=1) (show(["lot", "since", "pieces", "cost", "share"]:List Str).Nodup from by decide+kernel) rfl orl orr) (jw (iW (i:=2) (show(["lot", "since", "pieces", "cost", "share"]:List Str).Nodup from by decide+kernel) rfl orl orr) (jw (iW (i:=3) (show(["lot", "since", "pieces", "cost", "share"]:List Str).Nodup from by decide+kernel) rfl orl orr) (jw (iW (i:=4) (show(["lot", "since", "pieces", "cost", "share"]:List Str).Nodup from by decide+kernel) rfl orl orr) nQ))))))) (λ_ _ _ _=>jO) (λ_ _ _ _=>(pvD 3))) iI)))),?_⟩;walk_at "a";refine⟨⟨_,iT hp⟩,?_⟩;refine kI.listE (K:=K) (λσ=>∃a b c d e,σ=[a,b,c,d,e]) (λi v _=>∃r,ps[i]? =some r/\v=.int r.2.1.c) (iT hp) ⟨_,_,_,_,_,rfl⟩ (by rw[Jg,zn];omega) ?_ ?_
  ·rintro Da i x hx σ H5 R ⟨_,_,_,_,_,rfl⟩ sm hD _ kk
   obtain⟨r,q,rfl⟩:=Yi hx;have ht:=sm _ _ (hT r (zh q));walk_at "i";exact⟨_,jH ht,rfl,_,_,rfl,_,_,rfl,_,_,rfl,_,_,rfl,_,_,rfl,rfl,kk _ _ H5 ⟨_,_,_,_,_,rfl⟩ (same_refl _) λH' _=>⟨r,q,rfl⟩⟩
  ·intro Da H' acc hD sm hA z hF
   rw[aiY (by rw[z,Jg]) hF]at hA;walk_at "a";exact⟨_,iT hA,k H' sm⟩
inductive vp(A:Adr)(vs:List V)(H:Hp)(Q:VK)(E:XK):Prop
 |mk (x p:Addr) (n d pr:Int) (w:Str) (lo:Option Int) (ps:SP5) (B:Hp) (dx:Addr) (_:vs=[.ref x,.int n,.int d,.str w,.int pr,.ref p,loV lo]) (_:New B H x A.ack dx []) (_:B p=some (.lst (Jw ps))) (_:ajH B ps) (_:ps.length<=64) (_:∀pl H',Same B H'->B pl=none->lA A H' x ⟨n,d,w,pr,pl,ps,lo⟩->Q .non H'):vp A vs H Q E
def pR(T:Txt K mg A D):jQ P w K mg base CX0 1 A.aaX D.aaX ["self", "number", "day", "ware", "proceeds", "parts", "laid_on"] (vp A):=by
 refine T.ac0.okv FP λ_ _ _ _ H vs Q E hr h=>?_
 ·obtain⟨x,p,n,d,pr,w,lo,ps,B,dx,rfl,q,hp,hT,hl,k⟩:=h
  refine ⟨_,(iH (jo (K:=K) (pv 0) (pvD 1) rfl)
   (iH (jo (K:=K) (pv 0) (pvD 2) rfl)
   (iH (jo (K:=K) (pv 0) (pvD 3) rfl)
   (iH (jo (K:=K) (pv 0) (pvD 4) rfl)
   (iH (jo (K:=K) (pv 0) (jJ (tY (K:=K)) (by rfl) T.aeq (by decide+kernel) (pav 5 iI)) rfl)
   (iJ (jo (K:=K) (pv 0) (pvD 6) rfl))))))),?_⟩
  simp only[start_eq];refine lD λu z=>?_;rw[ap_seq];walk_at "i";refine sw q.h T.afH T.afI (by decide) ?_;rw[xZ _ _ (by decide+kernel)];have q:=q.put (gs:=[]++[(Str.ofString "number",V.int n)]) rfl;generalize upd H x _=G1 at q⊢;subst z
  try dsimp only
  refine lD λu z=>?_;rw[ap_seq];walk_at "i";refine sw q.h T.afH T.afJ (by simp) ?_;rw[lR (f:=Str.ofString "day") ["number"]];have q:=q.put (gs:=([]++[(Str.ofString "number",V.int n)])++[(Str.ofString "day",V.int d)]) rfl;generalize upd G1 x _=G2 at q⊢;subst z
  try dsimp only
  refine lD λu z=>?_;rw[ap_seq];walk_at "i";refine sw q.h T.afH T.afK (by simp) ?_;rw[lR (f:=Str.ofString "ware") ["number", "day"]];have q:=q.put (gs:=(([]++[(Str.ofString "number",V.int n)])++[(Str.ofString "day",V.int d)])++[(Str.ofString "ware",V.str w)]) rfl;generalize upd G2 x _=G3 at q⊢;subst z
  try dsimp only
  refine lD λu z=>?_;rw[ap_seq];walk_at "i";refine sw q.h T.afH T.afL (by simp) ?_;rw[lR (f:=Str.ofString "proceeds") ["number", "day", "ware"]];have q:=q.put (gs:=((([]++[(Str.ofString "number",V.int n)])++[(Str.ofString "day",V.int d)])++[(Str.ofString "ware",V.str w)])++[(Str.ofString "proceeds",V.int pr)]) rfl;generalize upd G3 x _=G4 at q⊢;subst z
  try dsimp only
  refine lD λu z=>?_;rw[ap_seq];walk_at "i";refine⟨_,.inl (iT (q.s _ _ hp)),λpl aa=>?_⟩;have ab:pl≠x:=λe=>by rw[e,q.h]at aa;cases aa
  have ac:=q.s.free aa;have q:=q.same (iR (o:=.lst (Jw ps)) aa);have hq:(upd G4 pl (.lst (Jw ps))) pl=some (.lst (Jw ps)):=iK;generalize upd G4 pl _=H5 at q hq⊢;refine sw q.h T.afH T.afM (by simp) ?_;rw[lR (f:=Str.ofString "parts") ["number", "day", "ware", "proceeds"]];have q:=q.put (gs:=(((([]++[(Str.ofString "number",V.int n)])++[(Str.ofString "day",V.int d)])++[(Str.ofString "ware",V.str w)])++[(Str.ofString "proceeds",V.int pr)])++[(Str.ofString "parts",V.ref pl)]) rfl;have hq:=(iZ (o:=HO.ins A.ack dx ((((([]++[(Str.ofString "number",V.int n)])++[(Str.ofString "day",V.int d)])++[(Str.ofString "ware",V.str w)])++[(Str.ofString "proceeds",V.int pr)])++[(Str.ofString "parts",V.ref pl)])) ab).trans hq;generalize upd H5 x _=G5 at q hq⊢;subst z
  try dsimp only
  walk_at "i";refine sw q.h T.afH T.afN (by simp) ?_;rw[lR (f:=Str.ofString "laid_on") ["number", "day", "ware", "proceeds", "parts"]];have S:=q.s.upd (o:=HO.ins A.ack dx (((((([]++[(Str.ofString "number",V.int n)])++[(Str.ofString "day",V.int d)])++[(Str.ofString "ware",V.str w)])++[(Str.ofString "proceeds",V.int pr)])++[(Str.ofString "parts",V.ref pl)])++[(Str.ofString "laid_on",loV lo)])) q.n;exact k pl _ S ac ⟨⟨dx,iK⟩,(iZ ab).trans hq,hT.same S,hl⟩
inductive Zd(A:Adr)(f:jM->Int)(vs:List V)(H:Hp)(Q:VK)(E:XK):Prop
 |mk (x:Addr) (s:jM) (_:vs=[.ref x]) (_:lA A H x s) (_:∀H',Same H H'->Q (.int (f s)) H'):Zd A f vs H Q E
def rn(T:Txt K mg A D):jQ P w K mg base CX0 2 A.aa1 D.aa1 ["self"] (Zd A λs=>s.pr - s.co):=by
 refine T.ac4.okv QH λ_ _ _ _ H vs Q E z h=>?_
 ·obtain⟨x,s,rfl,q,k⟩:=h
  refine⟨_,(iJ (jb (jc uf (fv K 0) (pcg (Gm T) z T.ac3 (JV T) (iG (fv K 0) iI))))),?_⟩;obtain⟨dx,hi⟩:=q.i;walk_at "a";exact rd hi T.afH T.afL (by rfl) (rd hi T.afH T.afM (by rfl) ⟨s.pl,s.ps,rfl,q.p,q.t,q.l,λH' s'=>⟨_,rfl,_,rfl,k H' s'⟩⟩)
def nW(T:Txt K mg A D):jQ P w K mg base CX0 3 A.aa2 D.aa2 ["self"] (Zd A jM.cnt):=by
 refine T.ac5.okv Ju λ_ _ _ _ H vs Q E z h=>?_
 ·obtain⟨x,s,rfl,q,k⟩:=h
  refine⟨_,(iJ (jb (xY (je (Fi) (fv K 0) mF (ji _)) (lE (pv 0) (mc T.afH T.agt (rn T) z (uV T) .nil) jB) iM))),?_⟩;obtain⟨dx,hi⟩:=q.i;walk_at "a";refine rd hi T.afH T.afN (v:=loV s.lo) (by rfl) (?_);unfold jM.cnt at k
  cases e:s.lo with
  |none=>
   rw[zl (show loV none=V.non from rfl)];rw[e,zl rfl]at k;exact md hi zg (by rfl) ⟨x,s,rfl,q,k⟩
  |some i=>
   rw[ze (show¬loV (some i)=V.non from λc=>by cases c)];rw[e,ze (λc=>by cases c)]at k;exact k H (same_refl _)
inductive xj(A:Adr)(vs:List V)(H:Hp)(Q:VK)(E:XK):Prop
 |mk (x:Addr) (s:jM) (_:vs=[.ref x]) (_:lA A H x s) (_:∀y pl H',Same H H'->H y=none->H pl=none->lA A H' y {s with pl:=pl}->Q (.ref y) H'):xj A vs H Q E
def Ig(T:Txt K mg A D):jQ P w K mg base CX0 3 A.aaY D.aaY ["sale"] (xj A):=by
 refine T.ac1.F.okv Ke λ_ _ _ _ H vs Q E hr h=>?_
 ·obtain⟨x,s,rfl,q,k⟩:=h
  refine⟨_,(iJ (jb (lK T.agl (pR (K:=K) T) (hr.mono (by decide)) (by rfl) T.aeD (qF T) .nil jB (iG (fv K 0) (iG (fv K 0) (iG (fv K 0) (iG (fv K 0) (iG (fv K 0) (iG (fv K 0) iI))))))))),?_⟩;obtain⟨dx,hi⟩:=q.i;walk_at "a";refine rd hi T.afH T.afI (by rfl) (rd hi T.afH T.afJ (by rfl) (rd hi T.afH T.afK (by rfl) (rd hi T.afH T.afL (by rfl) (rd hi T.afH T.afM (by rfl) (rd hi T.afH T.afN (by rfl) (λy dy hy aa _=>?_))))));exact⟨y,s.pl,s.n,s.d,s.pr,s.w,s.lo,s.ps,H,dy,rfl,pU hy aa,q.p,q.t,q.l,λpl H' s' z hS=>⟨rfl,k y pl H' s' hy z hS⟩⟩
theorem Uh{H:Hp}:∀{acc:List V}{ls:RL}{cs:List Int},acc.length=ls.length->cs.length=ls.length->(∀(i:Nat) v,acc[i]? =some v->∃b l c,ls[i]? =some l/\cs[i]? =some c/\v=.ref b/\H b=some (.tup (l.2.vs++[.int c])))->∃ps:SP5,acc=Jw ps/\ps.map (λr=>r.2.1)=ls.map (·.2)/\ps.map (λr=>r.2.2)=cs/\ajH H ps
 |[],[],[],_,_,_=>⟨[],rfl,rfl,rfl,λr h=>(zf h).elim⟩
 |[],_::_,_,h,_,_=>by simp at h
 |_::_,[],_,h,_,_=>by simp at h
 |_,_::_,[],_,h,_=>by simp at h
 |_,[],_::_,_,h,_=>by simp at h
 |v::acc,l::ls,c::cs,hl,hc,h=>by
  obtain⟨b,l',c',e,e',rfl,hb⟩:=h 0 v rfl;cases e;cases e';obtain⟨ps,e1,e2,e4,e3⟩:=Uh (acc:=acc) (ls:=ls) (cs:=cs) (by simpa using hl) (by simpa using hc) λi v z=>h (i+1) v z;refine⟨(b,l.2,c)::ps,by rw[e1];rfl,by rw[zi,e2];rfl,by rw[zi,e4],λr q=>?_⟩;rcases zt.mp q with rfl|q
  ·exact hb
  ·exact e3 r q
inductive Lr(A:Adr)(vs:List V)(H:Hp)(Q:VK)(E:XK):Prop
 |mk (x q:Addr) (d n p r f:Int) (w:Str) (o:Option Rs) (ls:RL) (_:vs=[.ref x,.ref q]) (_:IsE A H x (.sell d n w p r f o)) (_:H q=some (.lst (jt ls))) (_:kO A H ls) (_:ls≠[]) (_:ls.length<=63) (_:(∀l∈ls,1<=l.2.p)) (_:Bd (p*r - f)) (_:Bd (pcs ls)) (_:∀y s H',Same H H'->H y=none->H s.pl=none->lA A H' y s->s.n=n->s.d=d->s.w=w->s.pr=p*r - f->s.lo=none->s.ps.map (λr=>r.2.1)=ls.map (·.2)->(s.ps.map λr=>r.2.2).sum=s.pr->Q (.ref y) H'):Lr A vs H Q E
def VH(T:Txt K mg A D):jQ P w K mg base CX0 3 A.abw D.abw ["entry", "lots"] (Lr A):=by
 refine T.ady.F.okv Ed λ_ _ _ _ H vs Q E hr h=>?_
 ·obtain⟨x,q,d,n,p,r,f,w,o,ls,rfl,⟨dx,nv,hx,_⟩,hq,hL,am,hl,hp,ha,hb,k⟩:=h
  refine ⟨_,(iH (iY (i:=2) Ed.nd rfl orl (pcg (Tn T) hr T.adx (Yt T) (iG (fv K 0) (iG (jW (cap:=[none]) (N':=["lot"]) rfl (by walk_at "c") (jD (K:=K) (pv 1)) (λ_ _ _ _=>(iW (i:=0) nd1 rfl orl orr)) (λ_ _ _ _=>jO) (λ_ _ _ _=>(fv K 0))) iI))))
   (iH (nC (i:=3) Ed.nd rfl rfl (cap:=[none,none]) (N':=["lot", "share"]) rfl (by walk_at "c") (Mg (K:=K) (by rfl) T.aet (pav 1 (pav 2 iI))) (λ_ _ _ _=>(pN (K:=K) (n:=2) rfl (jw (iW (i:=0) (show(["lot", "share"]:List Str).Nodup from by decide+kernel) rfl orl orr) (jw (iW (i:=1) (show(["lot", "share"]:List Str).Nodup from by decide+kernel) rfl orl orr) nQ)))) (λ_ _ _ _=>jO) (λ_ _ _ _=>(nP (iG (fv K 0) (iG (fv K 0) (iG (fv K 0) (iG (fv K 0) (pav 1 iI))))))))
   (iJ (jb (lK T.agl (pR (K:=K) T) (hr.mono (by decide)) (by rfl) T.aeD (qF T) .nil jB (iG (fv K 0) (iG (fv K 0) (iG (fv K 0) (iG (fv K 0) (pav 3 (iG mF iI))))))))))),?_⟩
  simp only[start_eq];walk_at "m";refine rd hx T.afx T.afG (by rfl) ⟨⟨_,iT hq⟩,?_⟩;refine kI.listE (K:=K) (λσ=>∃a,σ=[a]) (λi v _=>∃l,ls[i]? =some l/\v=.int l.2.p) (iT hq) ⟨_,rfl⟩ (by rw[iV,zn];omega) ?_ ?_
  ·rintro Da i y hy σ H5 R ⟨_,rfl⟩ sm hD _ kk
   obtain⟨l,ab,rfl⟩:=jG hy;obtain⟨dl,aa⟩:=(hL l (get_mem ab)).same sm;walk_at "i";exact rd aa T.af6 T.af9 (by rfl) (kk _ _ H5 ⟨_,rfl⟩ (same_refl _) λH' _=>⟨l,ab,rfl⟩)
  ·intro D1 H1 acc az s1 hA ai hF
   rw[xV (f:=λl=>l.2.p) (by rw[ai,iV]) hF]at hA;have ap:(ls.map λl=>l.2.p).length=ls.length:=za _;have av:=Ck hp;have h0:0<ls.length:=yR.mpr am;refine⟨_,D1,ls.map (λl:Addr×jk=>l.2.p),rfl,iT hA,λy hy=>?_,(show 0<pcs ls by omega),by omega,ha,hb,λp2 H2 s2 ay h2=>?_⟩
   ·obtain⟨e,he,rfl⟩:=zb.mp hy
    have:=hp e he;omega
   obtain⟨cs,ae⟩:∃cs,shares (p*r - f) (ls.map λl=>l.2.p).sum 0 (ls.map λl=>l.2.p)=cs:=⟨_,rfl⟩;have ag:cs.length=ls.length:=by rw[<-ae,xU,ap]
   have as:cs.sum=p*r - f:=by
    rw[<-ae,El,Int.zero_add,Int.mul_zero,Int.zero_ediv,Int.sub_zero];exact yS _ (show pcs ls≠0 by omega)
   have h2:H2 p2=some (.lst (cs.map V.int)):=ae▸h2;have S2:=s1.trans s2;walk_at "m";refine⟨⟨_,iT (S2 _ _ hq)⟩,⟨_,iT h2⟩,?_⟩;refine kI.zipE (K:=K) (λσ=>∃a b,σ=[a,b]) (λi v H'=>∃b l c,ls[i]? =some l/\cs[i]? =some c/\v=.ref b/\H' b=some (.tup (l.2.vs++[.int c]))) (iT (S2 _ _ hq)) (iT h2) (by rw[iV,za,ag]) ⟨_,_,rfl⟩ (by rw[iV,zn];omega) ?_ ?_
   ·rintro Db i y z hy hz σ H5 pp R ⟨_,_,rfl⟩ ao ax ⟨aiY,an⟩ af kk
    obtain⟨l,ab,rfl⟩:=jG hy;obtain⟨c,rfl,hc⟩:=uT hz;obtain⟨dl,aa⟩:=(hL l (get_mem ab)).same (S2.trans ao);have aa:=iR (o:=.tup [V.ref l.1,V.int c]) af _ _ aa;have aj:(upd H5 pp (.tup [V.ref l.1,V.int c])) pp=some (.tup [V.ref l.1,V.int c]):=iK;have ak:=iR (o:=.tup [V.ref l.1,V.int c]) af _ _ an;generalize upd H5 pp (.tup [V.ref l.1,V.int c])=H6 at aa aj ak kk;walk_at "i";refine⟨_,jH aj,rfl,_,_,rfl,_,_,rfl,rfl,?_⟩;refine rd aa T.af6 T.af7 (by rfl) (rd aa T.af6 T.af8 (by rfl) (rd aa T.af6 T.af9 (by rfl) (rd aa T.af6 T.aga (by rfl) ⟨sz,λt ht=>?_⟩)));exact kk (.ref t) _ _ ⟨_,_,rfl⟩ (iR ht) λH' hb=>⟨t,l,c,ab,hc,rfl,hb _ _ (λe=>by rw[e,ak]at ht;cases ht) iK⟩
   ·intro D3 H3 aw bb s3 ah ac ar
    rw[iV]at ac;obtain⟨ps,e1,e2,e4,e3⟩:=Uh ac ag ar;rw[e1]at ah;have ad:=s3 _ _ (S2 _ _ hx)
    have ba:ps.length=ls.length:=by
     have:=congrArg List.length e1;rw[Jg]at this;omega
    refine rd ad T.afx T.afA (by rfl) (rd ad T.afx T.afz (by rfl) (rd ad T.afx T.afB (by rfl) (rd ad T.afx T.afG (by rfl) (λy dy hy au _=>?_))));have S3:=S2.trans s3;exact⟨y,D3,n,d,p*r - f,w,none,ps,H3,dy,rfl,pU hy au,ah,e3,by omega,λpl H4 s4 al aq=>⟨rfl,k y _ H4 (S3.trans s4) (S3.free hy) (S3.free al) aq rfl rfl rfl rfl rfl e2 (by show(ps.map _).sum=_;rw[e4];exact as)⟩⟩
abbrev RW:=List (Str×Addr×RL)
noncomputable def kvR(rs:RW):List (Key×V):=rs.map λt=>(Sum.inr t.1,.ref t.2.1)
noncomputable def rowOf:RW->Str->RL
 |[],_=>[]
 |t::rs,z=>if t.1=z then t.2.2 else rowOf rs z
noncomputable def Xl(rs:RW)(z:Str)(q:Addr)(ls:RL):RW:=if rs.any (λt=>decide (t.1=z))=true then rs.map (λt=>if t.1=z then(t.1,q,ls)else t)else rs++[(z,q,ls)]
theorem alD:∀(rs:RW)(z:Str),(∃t∈rs,t.1=z/\pF (kvR rs) (Sum.inr z)=some (.ref t.2.1)/\rowOf rs z=t.2.2)\/(pF (kvR rs) (Sum.inr z)=none/\rowOf rs z=[]/\z∉rs.map (·.1))
 |[],z=> .inr ⟨rfl,rfl,by simp⟩
 |t::rs,z=>by
  by_cases e:t.1=z
  ·refine .inl ⟨t,zg,e,?_,?_⟩
   ·show pF ((Sum.inr t.1,V.ref t.2.1)::kvR rs) _=_
    rw[lu (by rw[e])]
   ·unfold rowOf;rw[zl e]
  ·have hv:pF (kvR (t::rs)) (Sum.inr z)=pF (kvR rs) (Sum.inr z):=by
    show pF ((Sum.inr t.1,V.ref t.2.1)::kvR rs) _=_;rw[kJ (λh=>e (yL h))]
   have hr:rowOf (t::rs) z=rowOf rs z:=by
    show(if t.1=z then t.2.2 else rowOf rs z)=_;rw[ze e]
   rw[hv,hr];rcases alD rs z with⟨u,h1,h2,q,h4⟩|⟨h1,h2,q⟩
   ·exact .inl ⟨u,zk _ h1,h2,q,h4⟩
   ·refine .inr ⟨h1,h2,λh=>?_⟩
    rw[zi]at h;rcases zt.mp h with h|h
    ·exact e h.symm
    ·exact q h
def ajm(rs:RW)(z:Str)(q:Addr)(ls:RL):putK (kvR rs) (Sum.inr z) (.ref q)=kvR (Xl rs z q ls):=by
 unfold putK Xl kvR
 have ea:(List.any (rs.map λt=>((Sum.inr t.1:Key),V.ref t.2.1)) λkv=>decide (kv.1=Sum.inr z))=rs.any λt=>decide (t.1=z):=by
  rw[List.any_map];congr 1;funext t;show decide ((Sum.inr t.1:Key)=Sum.inr z)=decide (t.1=z);by_cases e:t.1=z
  ·rw[e];simp
  ·rw[zQ e,zQ];exact λh=>e (yL h)
 rw[ea];by_cases h:rs.any (λt=>decide (t.1=z))=true
 ·rw[zl h,zl h,zq,zq]
  refine zZ λt _=>?_;show(if(Sum.inr t.1:Key)=Sum.inr z then((Sum.inr t.1:Key),V.ref q)else(Sum.inr t.1,V.ref t.2.1))=_;by_cases e:t.1=z
  ·rw[zl (by rw[e])]
   show _=((Sum.inr (if t.1=z then(t.1,q,ls)else t).1:Key),V.ref (if t.1=z then(t.1,q,ls)else t).2.1);rw[zl e]
  ·rw[ze (λh=>e (yL h))]
   show _=((Sum.inr (if t.1=z then(t.1,q,ls)else t).1:Key),V.ref (if t.1=z then(t.1,q,ls)else t).2.1);rw[ze e]
 ·rw[ze h,ze h,zj]
  rfl
def ahy{rs:RW}{z:Str}{q:Addr}{ls:RL}{t:Str×Addr×RL}(h:t∈Xl rs z q ls):t=(z,q,ls)\/t∈rs:=by
 unfold Xl at h;split at h
 ·obtain⟨u,hu,e⟩:=zb.mp h
  by_cases c:u.1=z
  ·rw[zl c,c]at e;exact .inl e.symm
  ·rw[ze c]at e;exact .inr (e▸hu)
 ·rcases zA.mp h with h|h
  ·exact .inr h
  ·exact .inl (zu.mp h)
def Wg{rs:RW}{z:Str}{q:Addr}{ls:RL}:(Xl rs z q ls).map (·.1)=if z∈rs.map (·.1)then rs.map (·.1)else rs.map (·.1)++[z]:=by
 unfold Xl;by_cases h:rs.any (λt=>decide (t.1=z))=true
 ·have hm:z∈rs.map (·.1):=by
   obtain⟨t,ht,e⟩:=yE.mp h;exact zb.mpr ⟨t,ht,ym e⟩
  rw[zl h,zl hm,zq];refine zZ λt _=>?_;show(if t.1=z then(t.1,q,ls)else t).1=t.1;split<;>rfl
 ·have hm:z∉rs.map (·.1):=λhm=>by
   obtain⟨t,ht,e⟩:=zb.mp hm;exact h (yE.mpr ⟨t,ht,zM e⟩)
  rw[ze h,ze hm,zj];rfl
def ajS{rs:RW}{z:Str}{q:Addr}{ls:RL}(h:(rs.map (·.1)).Nodup):((Xl rs z q ls).map (·.1)).Nodup:=by
 rw[Wg];by_cases c:z∈rs.map (·.1)
 ·rw[zl c];exact h
 ·rw[ze c]
  refine zzc.mpr ⟨h,by simp,λy hy x hx=>?_⟩;obtain rfl:=zu.mp hx;exact λe=>c (e▸hy)
theorem Qq:∀{rs:RW}{z:Str}{q:Addr}{ls:RL}{y:Str},rowOf (rs.map λt=>if t.1=z then(t.1,q,ls)else t) y=if y=z/\z∈rs.map (·.1)then ls else rowOf rs y
 |[],z,q,ls,y=>by rw[ze (by simp)];rfl
 |t::rs,z,q,ls,y=>by
  rw[zi];have ih:=Qq (rs:=rs) (z:=z) (q:=q) (ls:=ls) (y:=y);unfold rowOf;by_cases e:t.1=z
  ·rw[zl e]
   by_cases e2:y=z
   ·rw[zl (show t.1=y by rw[e,e2]),zl ⟨e2,by rw[zi,e];exact zg⟩]
   ·have hy:¬t.1=y:=λh=>e2 (h.symm.trans e)
    rw[ze hy,ze (λh=>e2 h.1),ih,ze (λh=>e2 h.1),ze hy]
  ·rw[ze e]
   by_cases e2:t.1=y
   ·rw[zl e2,zl e2,ze (λh=>e (e2.trans h.1))]
   ·rw[ze e2,ze e2,ih]
    by_cases c:y=z/\z∈rs.map (·.1)
    ·rw[zl c,zl ⟨c.1,by rw[zi];exact zk _ c.2⟩]
    ·rw [ze c,ze λh=>c ⟨h.1,by
      have h2:=h.2;rw[zi]at h2;rcases zt.mp h2 with h2|h2
      ·exact(e h2.symm).elim
      ·exact h2⟩]
theorem Qj:∀{rs:RW}{z:Str}{q:Addr}{ls:RL}{y:Str},z∉rs.map (·.1)->rowOf (rs++[(z,q,ls)]) y=if y=z then ls else rowOf rs y
 |[],z,q,ls,y,_=>by
  show(if z=y then ls else[])=_;by_cases e:y=z
  ·rw[zl e,zl e.symm]
  ·rw[ze e,ze (λh=>e h.symm)];rfl
 |t::rs,z,q,ls,y,hn=>by
  rw[zi]at hn;have ih:=Qj (rs:=rs) (z:=z) (q:=q) (ls:=ls) (y:=y) λh=>hn (zk _ h);show(if t.1=y then t.2.2 else rowOf (rs++[(z,q,ls)]) y)=_;rw[ih];by_cases e:t.1=y
  ·rw[zl e,ze (λh=>hn (by rw[<-h,<-e];exact zg))]
   show _=(if t.1=y then t.2.2 else rowOf rs y);rw[zl e]
  ·rw[ze e]
   show _=(if y=z then ls else if t.1=y then t.2.2 else rowOf rs y);rw[ze e]
def Yg{rs:RW}{z:Str}{q:Addr}{ls:RL}{y:Str}:rowOf (Xl rs z q ls) y=if y=z then ls else rowOf rs y:=by
 unfold Xl;by_cases h:rs.any (λt=>decide (t.1=z))=true
 ·have hm:z∈rs.map (·.1):=by
   obtain⟨t,ht,e⟩:=yE.mp h;exact zb.mpr ⟨t,ht,ym e⟩
  rw[zl h,Qq];by_cases e:y=z
  ·rw[zl e,zl ⟨e,hm⟩]
  ·rw[ze e,ze λh=>e h.1]
 ·have hm:z∉rs.map (·.1):=λhm=>by
   obtain⟨t,ht,e⟩:=zb.mp hm;exact h (yE.mpr ⟨t,ht,zM e⟩)
  rw[ze h,Qj hm]
noncomputable def Rq(rs:RW)(z:Str):RW:=rs.filter λt=>decide (t.1≠z)
def ahC(rs:RW)(z:Str):Dv (kvR rs) (Sum.inr z)=kvR (Rq rs z):=by
 unfold Dv kvR Rq;rw[List.filter_map];congr 1;refine List.filter_congr λt _=>?_;show decide ((Sum.inr t.1:Key)≠Sum.inr z)=decide (t.1≠z);by_cases e:t.1=z
 ·rw[e];simp
 ·rw[zM e,zM];exact λh=>e (yL h)
theorem Lg:∀{rs:RW}{z y:Str},rowOf (Rq rs z) y=if y=z then[]else rowOf rs y
 |[],z,y=>by show[]=_;split<;>rfl
 |t::rs,z,y=>by
  have ih:=Lg (rs:=rs) (z:=z) (y:=y);unfold Rq at ih⊢;rw[zzH];by_cases e:t.1=z
  ·rw[ze (by simp[e]),ih]
   by_cases q:y=z
   ·rw[zl q,zl q]
   ·rw[ze q,ze q]
    show _=if t.1=y then _ else _;rw[ze (λc=>q (c.symm.trans e))]
  ·rw[zl (zM e)]
   show(if t.1=y then _ else _)=(if y=z then[]else if t.1=y then _ else _);rw[ih];by_cases q:t.1=y
   ·rw[zl q,zl q,ze (λc=>e (q.trans c))]
   ·rw[ze q,ze q]
noncomputable def keepR(rs:RW)(z:Str)(q:Addr)(ls:RL):RW:=if ls.length=0 then Rq rs z else Xl rs z q ls
def qi{rs:RW}{z:Str}{q:Addr}{ls:RL}{y:Str}:rowOf (keepR rs z q ls) y=if y=z then ls else rowOf rs y:=by
 unfold keepR;split
 ·next e=>rw[Lg,zzq.mp e]
 ·exact Yg
def Ji{rs:RW}{z:Str}{q:Addr}{ls:RL}{t:Str×Addr×RL}(h:t∈keepR rs z q ls):(t=(z,q,ls)/\ls≠[])\/t∈rs:=by
 unfold keepR at h;split at h
 ·exact .inr (z6.mp h).1
 ·next e=>exact(ahy h).imp_left λc=>⟨c,λz=>e (by rw[z];rfl)⟩
def Vx{rs:RW}{z:Str}(h:z∉rs.map (·.1)):Rq rs z=rs:=zzk.mpr λt q=>zM λc=>h (zb.mpr ⟨t,q,c⟩)
structure Nz(ns:List Int)(W:List Str)(rs:RW):Prop where
 u:(rs.map (·.1)).Nodup
 w:∀t∈rs,t.1∈W
 n:∀t∈rs,t.2.2≠[]/\Shp ns t.2.2
def Nz.len{ns:List Int}{W:List Str}{rs:RW}(h:Nz ns W rs):rs.length<=W.length:=by
 have:=Mq h.u λn hn=>by
  obtain⟨t,q,rfl⟩:=zb.mp hn;exact h.w t q
 rwa [za]at this
def Nz.row{ns:List Int}{W:List Str}{rs:RW}(h:Nz ns W rs)(z:Str):Shp ns (rowOf rs z):=by
 rcases alD rs z with⟨t,h1,_,_,q⟩|⟨_,h2,_⟩
 ·rw[q];exact(h.n t h1).2
 ·rw[h2];exact .nil
def Nz.keep{ns:List Int}{W:List Str}{rs:RW}(h:Nz ns W rs){z:Str}(hz:z∈W){q:Addr}{ls:RL}(hs:Shp ns ls):Nz ns W (keepR rs z q ls):=by
 refine⟨?_,λt ht=>?_,λt ht=>?_⟩
 ·unfold keepR
  split
  ·exact(List.filter_sublist.map _).nodup h.u
  ·exact ajS h.u
 ·rcases Ji ht with⟨rfl,_⟩|ht
  ·exact hz
  ·exact h.w t ht
 ·rcases Ji ht with⟨rfl,e⟩|ht
  ·exact⟨e,hs⟩
  ·exact h.n t ht
noncomputable def vO(H:Hp)(M:List Addr):Hp:=λa=>if a∈M then none else H a
def tZ{H:Hp}{M:List Addr}:Same (vO H M) H:=λa o h=>by
 unfold vO at h;split at h
 ·cases h
 ·exact h
def sY{H:Hp}{M:List Addr}{a:Addr}{o:HO}(h:H a=some o)(n:a∉M):vO H M a=some o:=by unfold vO;rw[ze n];exact h
structure Stp(M M':List Addr)(H H':Hp):Prop where
 k:∀a o,a∉M->H a=some o->H' a=some o
 f:∀m∈M',m∈M\/H m=none
def Stp.same{M M':List Addr}{H H':Hp}(s:Stp M M' H H'):Same (vO H M) (vO H' M'):=λa o h=>by
 unfold vO at h;split at h
 ·cases h
 ·next n=>exact sY (s.k a o n h) λc=>(s.f a c).elim n λe=>by rw[e]at h;cases h
def pA{M:List Addr}{H H':Hp}(s:Same H H'):Stp M M H H':=⟨λa o _ h=>s a o h,λm h=> .inl h⟩
def pJ{M:List Addr}{H:Hp}{m:Addr}{o:HO}(h:m∈M):Stp M M H (upd H m o):=⟨λa o n e=>(iZ λc:a=m=>n (c▸h)).trans e,λm h=> .inl h⟩
def Stp.trans{M M' M'':List Addr}{H H' H'':Hp}(s:Stp M M' H H')(t:Stp M' M'' H' H''):Stp M M'' H H'':=by
 have ne:∀{a:Addr}{o:HO},a∉M->H a=some o->a∉M':=λn h c=>(s.f _ c).elim n λe=>by rw[e]at h;cases h
 refine⟨λa o n h=>t.k a o (ne n h) (s.k a o n h),λm hm=>?_⟩;rcases t.f m hm with h|h
 ·exact s.f m h
 ·by_cases c:m∈M
  ·exact .inl c
  ·right
   cases e:H m with
   |none=>rfl
   |some o=>rw[s.k m o c e]at h;cases h
abbrev LY:=List (Addr×Int×Int×Int)
noncomputable def DP(ts:LY):List V:=ts.map λt=>V.ref t.1
noncomputable def lyT(t:Addr×Int×Int×Int):HO:=.tup [.int t.2.1,.int t.2.2.1,.int t.2.2.2]
structure BkD where
 C:Addr
 way:Addr
 rows:Addr
 sales:Addr
 givs:Addr
 rs:RW
 last:Option (Addr×Int×Int)
 paid:Int
 brought:Int
 sl:List (Addr×jM)
 gv:List (Addr×Int×Addr×RL)
 x:Option (Int×Addr×LY)
noncomputable def RJ:Option (Addr×Int×Int)->V
 |none=> .non
 |some t=> .ref t.1
noncomputable def BkD.xs(k:BkD):List (Str×V):=match k.x with
 |none=>[]
 |some y=>[("days",.int y.1),("layings",.ref y.2.1)]
noncomputable def BkD.fs(k:BkD):List (Str×V):=("way",.ref k.way)::("rows",.ref k.rows)::("last_place",RJ k.last)::("paid",.int k.paid)::("brought",.int k.brought)::("sales_done",.ref k.sales)::("givings_done",.ref k.givs)::k.xs
noncomputable def BkD.xm(k:BkD):List Addr:=match k.x with
 |none=>[]
 |some y=>[y.2.1]
noncomputable def BkD.M(b:Addr)(k:BkD):List Addr:=[b,k.rows,k.sales,k.givs]++k.xm
noncomputable def QT(A:Adr)(H:Hp)(rs:RW):Prop:=∀t∈rs,H t.2.1=some (.lst (jt t.2.2))/\kO A H t.2.2
theorem QT.same{H H':Hp}{rs:RW}(h:QT A H rs)(s:Same H H'):QT A H' rs:=λt q=>⟨s _ _ (h t q).1,(h t q).2.same s⟩
noncomputable def vL(sl:List (Addr×jM)):List V:=sl.map λt=>V.ref t.1
noncomputable def PX(gv:List (Addr×Int×Addr×RL)):List V:=gv.map λt=>V.ref t.1
structure Frz(A:Adr)(G:Hp)(k:BkD):Prop where
 l:QT A G k.rs
 p:∀t,k.last=some t->G t.1=some (.tup [.int t.2.1,.int t.2.2])
 s:∀t∈k.sl,lA A G t.1 t.2
 g:∀t∈k.gv,G t.1=some (.tup [.int t.2.1,.ref t.2.2.1])/\G t.2.2.1=some (.lst (jt t.2.2.2))/\kO A G t.2.2.2
 y:∀y,k.x=some y->∀t∈y.2.2,G t.1=some (lyT t)
theorem Frz.same{G G':Hp}{k:BkD}(h:Frz A G k)(s:Same G G'):Frz A G' k:=⟨h.l.same s,λt q=>s _ _ (h.p t q),λt q=>(h.s t q).same s,λt q=>let⟨a,b,c⟩:=h.g t q;⟨s _ _ a,s _ _ b,c.same s⟩,λy e t q=>s _ _ (h.y y e t q)⟩
structure jf(A:Adr)(H:Hp)(b:Addr)(k:BkD):Prop where
 c:(k.C=A.acl/\k.x=none)\/(k.C=A.acm/\k.x≠none)
 i:∃dx,H b=some (.ins k.C dx k.fs)
 r:H k.rows=some (.dK (kvR k.rs))
 s:H k.sales=some (.lst (vL k.sl))
 g:H k.givs=some (.lst (PX k.gv))
 y:∀y,k.x=some y->H y.2.1=some (.lst (DP y.2.2))/\y.2.1≠k.sales/\y.2.1≠k.givs
 d:k.sales≠k.givs
 z:Frz A (vO H (k.M b)) k
def BkD.mb{b:Addr}{k:BkD}:b∈k.M b:=zg
def BkD.mr{b:Addr}{k:BkD}:k.rows∈k.M b:=zk _ zg
def BkD.ms{b:Addr}{k:BkD}:k.sales∈k.M b:=zk _ (zk _ zg)
def BkD.mv{b:Addr}{k:BkD}:k.givs∈k.M b:=zk _ (zk _ (zk _ zg))
theorem jf.same{H H':Hp}{b:Addr}{k:BkD}(h:jf A H b k)(s:Same H H'):jf A H' b k:=
 ⟨h.c,let⟨dx,e⟩:=h.i;⟨dx,s _ _ e⟩,s _ _ h.r,s _ _ h.s,s _ _ h.g,λy e=>let⟨a,t⟩:=h.y y e;⟨s _ _ a,t⟩,h.d,h.z.same (pA s).same⟩
def jf.frz{H:Hp}{b:Addr}{k:BkD}(h:jf A H b k):Frz A H k:=h.z.same tZ
def jf.neb{H:Hp}{b:Addr}{k:BkD}(h:jf A H b k){x:Addr}{o:HO}(q:H x=some o)(z:∀C dx fs,o≠.ins C dx fs):x≠b:=λe=>by
 obtain⟨dx,hb⟩:=h.i;rw[e,hb]at q;exact z _ _ _ (zy q).symm
def jf.ner{H:Hp}{b:Addr}{k:BkD}(h:jf A H b k){x:Addr}{o:HO}(q:H x=some o)(z:∀kv,o≠.dK kv):x≠k.rows:=λe=>by
 rw[e,h.r]at q;exact z _ (zy q).symm
def jf.row{H:Hp}{b:Addr}{k:BkD}(h:jf A H b k){z:Str}{q:Addr}{ls:RL}(hq:vO H (k.M b) q=some (.lst (jt ls)))(hL:kO A (vO H (k.M b)) ls):jf A (upd H k.rows (.dK (kvR (keepR k.rs z q ls)))) b {k with rs:=keepR k.rs z q ls}:=by
 have hs:Same (vO H (k.M b)) (vO (upd H k.rows (.dK (kvR (keepR k.rs z q ls)))) (k.M b)):=(pJ BkD.mr).same;have n:∀{a:Addr}{o:HO},H a=some o->(∀kv,o≠.dK kv)->(upd H k.rows (.dK (kvR (keepR k.rs z q ls)))) a=some o:=λe f=>(iZ (h.ner e f)).trans e;have F:=h.z.same hs;refine⟨h.c,let⟨dx,e⟩:=h.i;⟨dx,n e λ_ c=>by cases c⟩,iK,n h.s λ_ c=>(by cases c),n h.g λ_ c=>(by cases c),λy e=>let⟨a,t⟩:=h.y y e;⟨n a λ_ c=>(by cases c),t⟩,h.d,⟨λt ht=>?_,F.p,F.s,F.g,F.y⟩⟩;rcases Ji ht with⟨rfl,_⟩|ht
 ·exact⟨hs _ _ hq,hL.same hs⟩
 ·exact F.l t ht
def jf.put{H:Hp}{b dx:Addr}{k:BkD}(h:jf A H b k){la:Option (Addr×Int×Int)}{pa br:Int}(hl:∀t,la=some t->vO H (k.M b) t.1=some (.tup [.int t.2.1,.int t.2.2])):jf A (upd H b (.ins k.C dx {k with last:=la,paid:=pa,brought:=br}.fs)) b {k with last:=la,paid:=pa,brought:=br}:=by
 have q:Same (vO H (k.M b)) (vO (upd H b (.ins k.C dx {k with last:=la,paid:=pa,brought:=br}.fs)) (k.M b)):=(pJ BkD.mb).same;have n:∀{a:Addr}{o:HO},H a=some o->(∀C dx fs,o≠.ins C dx fs)->(upd H b (.ins k.C dx {k with last:=la,paid:=pa,brought:=br}.fs)) a=some o:=λe f=>(iZ (h.neb e f)).trans e;have F:=h.z.same q;exact⟨h.c,⟨dx,iK⟩,n h.r λ_ _ _ c=>(by cases c),n h.s λ_ _ _ c=>(by cases c),n h.g λ_ _ _ c=>(by cases c),λy e=>let⟨a,t⟩:=h.y y e;⟨n a λ_ _ _ c=>(by cases c),t⟩,h.d,⟨F.l,λt z=>q _ _ (hl t z),F.s,F.g,F.y⟩⟩
def jf.sale{H:Hp}{b y:Addr}{k:BkD}{s:jM}(h:jf A H b k)(hy:lA A (vO H (k.M b)) y s):jf A (upd H k.sales (.lst (vL (k.sl++[(y,s)])))) b {k with sl:=k.sl++[(y,s)]}:=by
 have z:Same (vO H (k.M b)) (vO (upd H k.sales (.lst (vL (k.sl++[(y,s)])))) (k.M b)):=(pJ BkD.ms).same;have n:∀{a:Addr}{o:HO},H a=some o->a≠k.sales->(upd H k.sales (.lst (vL (k.sl++[(y,s)])))) a=some o:=λe f=>(iZ f).trans e;have F:=h.z.same z;refine⟨h.c,let⟨dx,e⟩:=h.i;⟨dx,n e λc=>by rw[c,h.s]at e;cases e⟩,n h.r λc=>(by have:=h.r;rw[c,h.s]at this;cases this),iK,n h.g h.d.symm,λy e=>let⟨a,t⟩:=h.y y e;⟨n a t.1,t⟩,h.d,⟨F.l,F.p,λt q=>?_,F.g,F.y⟩⟩;rcases zA.mp q with q|q
 ·exact F.s t q
 ·rw[zu.mp q];exact hy.same z
def jf.giv{H:Hp}{b:Addr}{k:BkD}{t:Addr×Int×Addr×RL}(h:jf A H b k)(hy:vO H (k.M b) t.1=some (.tup [.int t.2.1,.ref t.2.2.1]))(hq:vO H (k.M b) t.2.2.1=some (.lst (jt t.2.2.2)))(hL:kO A (vO H (k.M b)) t.2.2.2):jf A (upd H k.givs (.lst (PX (k.gv++[t])))) b {k with gv:=k.gv++[t]}:=by
 have z:Same (vO H (k.M b)) (vO (upd H k.givs (.lst (PX (k.gv++[t])))) (k.M b)):=(pJ BkD.mv).same;have n:∀{a:Addr}{o:HO},H a=some o->a≠k.givs->(upd H k.givs (.lst (PX (k.gv++[t])))) a=some o:=λe f=>(iZ f).trans e;have F:=h.z.same z;refine⟨h.c,let⟨dx,e⟩:=h.i;⟨dx,n e λc=>by rw[c,h.g]at e;cases e⟩,n h.r λc=>(by have:=h.r;rw[c,h.g]at this;cases this),n h.s h.d,iK,λy e=>let⟨a,t⟩:=h.y y e;⟨n a t.2,t⟩,h.d,⟨F.l,F.p,F.s,λu q=>?_,F.y⟩⟩;rcases zA.mp q with q|q
 ·exact F.g u q
 ·rw[zu.mp q];exact⟨z _ _ hy,z _ _ hq,hL.same z⟩
structure CB(K:Fg_)(C:Addr):Prop where
 c:Cls K C
 w:jd K C "way"
 r:jd K C "rows"
 l:jd K C "last_place"
 p:jd K C "paid"
 b:jd K C "brought"
 s:jd K C "sales_done"
 g:jd K C "givings_done"
def DX(T:Txt K mg A D){H:Hp}{b:Addr}{k:BkD}(h:jf A H b k):CB K k.C:=by
 rcases h.c with⟨e,_⟩|⟨e,_⟩
 ·rw[e];exact⟨T.afO,T.afP,T.afQ,T.afR,T.afS,T.afT,T.afU,T.afV⟩
 ·rw[e];exact⟨T.afW,T.afX,T.afY,T.afZ,T.af0,T.af1,T.af2,T.af3⟩
def jf.own{H:Hp}{b:Addr}{k:BkD}(h:jf A H b k){m:Addr}(hm:m∈k.M b):∃o,H m=some o/\((∃dx,o=.ins k.C dx k.fs)\/(∃q,o=.dK q)\/∃xs,o=.lst xs):=by
 obtain⟨dx,hi⟩:=h.i;unfold BkD.M at hm;rcases zA.mp hm with c|c
 ·rcases zt.mp c with rfl|c
  ·exact⟨_,hi,.inl ⟨dx,rfl⟩⟩
  rcases zt.mp c with rfl|c
  ·exact⟨_,h.r,.inr (.inl ⟨_,rfl⟩)⟩
  rcases zt.mp c with rfl|c
  ·exact⟨_,h.s,.inr (.inr ⟨_,rfl⟩)⟩
  ·rw[zu.mp c]
   exact⟨_,h.g,.inr (.inr ⟨_,rfl⟩)⟩
 ·unfold BkD.xm at c
  split at c
  ·exact(zf c).elim
  ·next y e=>
   rw[zu.mp c];exact⟨_,(h.y y e).1,.inr (.inr ⟨_,rfl⟩)⟩
def jf.fresh{H:Hp}{b:Addr}{k:BkD}(h:jf A H b k){x:Addr}(q:H x=none):x∉k.M b:=λc=>by
 obtain⟨o,e,_⟩:=h.own c;rw[q]at e;cases e
theorem jf.tup{H:Hp}{b:Addr}{k:BkD}(h:jf A H b k){x:Addr}{xs:List V}(q:H x=some (.tup xs)):vO H (k.M b) x=some (.tup xs):=sY q λc=>by
 obtain⟨o,e,c⟩:=h.own c;rw[q]at e;obtain rfl:=zy e;rcases c with⟨_,c⟩|⟨_,c⟩|⟨_,c⟩<;>cases c
theorem jf.ins{H:Hp}{b:Addr}{k:BkD}(h:jf A H b k){x C dx:Addr}{fs:List (Str×V)}{v:V}(q:H x=some (.ins C dx ((Str.ofString "number",v)::fs))):vO H (k.M b) x=some (.ins C dx ((Str.ofString "number",v)::fs)):=sY q λc=>by
 obtain⟨o,e,c⟩:=h.own c;rw[q]at e;obtain rfl:=zy e;rcases c with⟨_,c⟩|⟨_,c⟩|⟨_,c⟩
 ·injection c with _ _ c
  exact absurd (Prod.mk.inj (y0 c).1).1 (by decide+kernel)
 ·cases c
 ·cases c
def jf.lots{H:Hp}{b:Addr}{k:BkD}(h:jf A H b k){ls:RL}(q:kO A H ls):kO A (vO H (k.M b)) ls:=λl z=>let⟨dx,e⟩:=q l z;⟨dx,h.ins e⟩
def jf.sal{H:Hp}{b y:Addr}{k:BkD}{s:jM}(h:jf A H b k)(q:lA A H y s)(z:s.pl∉k.M b):lA A (vO H (k.M b)) y s:=⟨let⟨dx,e⟩:=q.i;⟨dx,h.ins e⟩,sY q.p z,λr hr=>h.tup (q.t r hr),q.l⟩
inductive Aq(A:Adr)(vs:List V)(H:Hp)(Q:VK)(E:XK):Prop
 |mk (b:Addr) (z:Str) (k:BkD) (_:vs=[.ref b,.str z]) (_:jf A H b k) (_:∀l H',Same H H'->H l=none->H' l=some (.lst (jt (rowOf k.rs z)))->kO A H' (rowOf k.rs z)->Q (.ref l) H'):Aq A vs H Q E
def jF(T:Txt K mg A D):jQ P w K mg base CX0 1 A.aa9 D.aa9 ["self", "ware"] (Aq A):=by
 refine T.adc.okv Lb λ_ _ _ _ H vs Q E hr h=>?_
 ·obtain⟨b,z,kb,rfl,hB,k⟩:=h
  refine⟨_,(iJ (jb (jJ (tY (K:=K)) (by rfl) T.aeq (by decide+kernel) (iG (rm (Cm hr) (fv K 0) (pvD 1) (jV iI) ⟨rfl,rfl,rfl,rfl⟩) iI)))),?_⟩;walk_at "a";obtain⟨dx,hb⟩:=hB.i;have hC:=DX T hB;refine rd hb hC.c hC.r (by rfl) ⟨kb.rows,rfl,.inl ⟨_,.inl hB.r⟩,sz,λp hp=>?_⟩;have q:=iR (o:=.lst []) hp;refine⟨_,.inl ⟨_,Sum.inr z,.inl (q _ _ hB.r),rfl,rfl⟩,?_⟩;rcases alD kb.rs z with⟨t,h1,h2,h3,h4⟩|⟨h1,h2,h3⟩
  ·rw[h3]
   obtain⟨g1,g2⟩:=hB.frz.l t h1;show GQ K [.ref t.2.1] _ Q;rw[ap_rListOf];refine⟨_,.inl (iT (q _ _ g1)),λl hl=>?_⟩;have s2:=q.trans (iR (o:=.lst (jt t.2.2)) hl);rw[h4]at k;exact k l _ s2 (q.free hl) iK (g2.same s2)
  ·rw[h1]
   show GQ K [.ref p] _ Q;rw[ap_rListOf];refine⟨_,.inl (iT iK),λl hl=>?_⟩;rw[h2]at k;exact k l _ (q.trans (iR hl)) (q.free hl) iK λl h=>(zf h).elim
inductive vD(A:Adr)(vs:List V)(H:Hp)(Q:VK)(E:XK):Prop
 |mk (b q:Addr) (z:Str) (k:BkD) (ls:RL) (_:vs=[.ref b,.str z,.ref q]) (_:jf A H b k) (_:H q=some (.lst (jt ls))) (_:kO A H ls) (_:q∉k.M b) (_:k.rs.length<=50) (_:∀H',Stp (k.M b) (k.M b) H H'->jf A H' b {k with rs:=keepR k.rs z q ls}->Q .non H'):vD A vs H Q E
def jU(T:Txt K mg A D):jQ P w K mg base CX0 1 A.abf D.abf ["self", "ware", "row"] (vD A):=by
 refine T.adi.okv FT λ_ _ _ _ H vs Q E hr h=>?_
 ·obtain⟨b,q,z,kb,ls,rfl,hB,hq,hL,hs,hz,k⟩:=h
  refine⟨_,(iJ (kE (je (Gf) (jl (mV (K:=K)) (by rfl) T.aef (by decide+kernel) (pav 2 iI)) iM (ji _)) (iJ (JS (Cm hr) (fv K 0) (pvD 1) (pvD 2) rfl)) (iJ (jh (ZS (fv K 0) (pvD 1) mF ⟨rfl,rfl,rfl,rfl⟩))))),?_⟩;walk_at "a";obtain⟨dx,hb⟩:=hB.i;have hC:=DX T hB;refine⟨_,.inl (iT hq),?_⟩;rw[iV];have hR:=hB.row (z:=z) (sY hq hs) (hB.lots hL);by_cases hl:ls.length=0
  ·rw[ze (by omega)]
   unfold aij;walk_at "i";have e:keepR kb.rs z q ls=Rq kb.rs z:=zl hl;rw[e]at hR k;refine rd hb hC.c hC.r (by rfl) ⟨kb.rows,rfl,.inl ⟨_,.inl hB.r⟩,_,hB.r,Sum.inr z,rfl,λv hv=>?_,λhn=>?_⟩
   ·rw[ahC]
    exact k _ (pJ BkD.mr) hR
   ·rcases alD kb.rs z with⟨t,_,_,h3,_⟩|⟨_,_,h3⟩
    ·rw[hn]at h3;cases h3
    ·rw[Vx h3]at k
     exact k H (pA (same_refl _)) hB
  ·rw[zl (by omega)]
   have e:keepR kb.rs z q ls=Xl kb.rs z q ls:=ze hl;rw[e]at hR k;refine rd hb hC.c hC.r (by rfl) ⟨kb.rows,rfl,_,Ud (k:=Sum.inr z) hB.r (by unfold kvR;rw[za,zn];omega),?_⟩;rw[ajm _ _ _ ls];exact k _ (pJ BkD.mr) hR
def jf.me{H:Hp}{b:Addr}{k:BkD}(h:jf A H b k){sp:Sp}:(k.C,sp)∈[(A.acl,sp),(A.acm,sp)]:=by
 rcases h.c with⟨e,_⟩|⟨e,_⟩
 ·rw[e];exact zg
 ·rw[e];exact zk _ zg
def ahE{ls:RL}{i:Nat}{l:Addr×jk}(h:ls[i]? =some l):pcs (ls.take (i+1))=pcs (ls.take i)+l.2.p:=by
 rw[zI,h];show pcs (ls.take i++[l])=_;rw[ajn];unfold pcs;simp
def Xv{ls ms:RL}{d:jk}(hu:(ls.map (·.2.n)).Nodup)(e1:d.n∈ls.map (·.2.n)->ms.map (·.2)=(ls.map (·.2)).map (pq d))(e2:d.n∉ls.map (·.2.n)->(ms.map (·.2)).Perm (ls.map (·.2)++[d])):jX ms=jX ls+d.c:=by
 have fn:∀l:RL,l.map (·.2.n)=(l.map (·.2)).map jk.n:=λl=>by rw[zq];rfl
 by_cases hm:d.n∈ls.map (·.2.n)
 ·rw[mD,mD,e1 hm]
  obtain⟨q,hq,eq⟩:=zb.mp hm;rw[fn]at hu
  have c:=tU (f:=λx=>(pq d x).c) (g:=jk.c) hu (zb.mpr ⟨q,hq,rfl⟩) λx _ aa=>by
   show(pq d x).c=x.c;unfold pq;rw[ze (λz=>aa (z.trans eq.symm))]
  rw[zq];have h2:(pq d q.2).c=q.2.c+d.c:=by unfold pq;rw[zl eq]
  have c:((ls.map (·.2)).map (jk.c∘pq d)).sum=((ls.map (·.2)).map jk.c).sum - q.2.c+(pq d q.2).c:=c;omega
 ·rw[mD,mD,Mv ((e2 hm).map jk.c)]
  simp
def WQ{ls:RL}{i:Nat}{l:Addr×jk}(h:ls[i]? =some l):jX (ls.take (i+1))=jX (ls.take i)+l.2.c:=by
 rw[zI,h];show jX (ls.take i++[l])=_;unfold jX;simp
inductive JN(A:Adr)(vs:List V)(H:Hp)(Q:VK)(E:XK):Prop
 |mk (b q:Addr) (z:Str) (k:BkD) (ls:RL) (ns:List Int) (_:vs=[.ref b,.str z,.ref q]) (_:jf A H b k) (_:H q=some (.lst (jt ls))) (_:kO A H ls) (_:(∀l∈ls,1<=l.2.p/\l.2.n∈ns/\0<=l.2.c)) (_:Shp ns (rowOf k.rs z)) (_:ns.length<=61) (_:k.rs.length<=50) (_:∀q' ms H',Stp (k.M b) (k.M b) H H'->jf A H' b {k with rs:=keepR k.rs z q' ms}->Shp ns ms->pcs ms=pcs (rowOf k.rs z)+pcs ls->jX ms=jX (rowOf k.rs z)+jX ls->Q .non H'):JN A vs H Q E
def oM(T:Txt K mg A D):jQ P w K mg base CX0 5 A.abk D.abk ["self", "ware", "lots"] (JN A):=by
 refine T.adn.okv uU λ_ _ _ _ H vs Q E hr h=>?_
 ·obtain⟨b,q,z,kb,ls,ns,rfl,hB,hq,hL,ak,hS,hn,hz,k⟩:=h
  refine ⟨_,(iH (iY (i:=3) uU.nd rfl orl (jy (pv 0) (mc T.afO T.agx (jF T) hr (jL T) (mc T.afW T.agy (jF T) hr (jL T) .nil)) jB (pav 1 iI)))
   (iH (oh zW rfl (jD (K:=K) (pv 2)) (iW (i:=4) uU.nd rfl orl)
    (iJ (iY (i:=3) uU.nd rfl orl (pcg (SX T) hr T.adm (Vz T) (pav 3 (pav 4 iI))))))
   (iJ (jh (jy (pv 0) (mc T.afO T.agC (jU T) hr (kj T) (mc T.afW T.agD (jU T) hr (kj T) .nil)) jB (pav 1 (pav 3 iI))))))),?_⟩
  simp only[start_eq];walk_at "m";obtain⟨dx,hb⟩:=hB.i;refine md hb hB.me (by unfold BkD.fs BkD.xs;cases kb.x<;>rfl) ⟨b,z,kb,rfl,hB,λr H1 s1 ap am al=>?_⟩
  try dsimp only
  rw[ap_seq,ap_for];walk_at "i";refine⟨⟨_,iT (s1 _ _ hq)⟩,?_⟩
  refine pG (K:=K) (a:=q) (xs:=jt ls) (λi σ H2=>∃(r':Addr)(v4:Option V),σ=[some (.ref b),some (.str z),some (.ref q),some (.ref r'),v4]/\Same H H2/\H r'=none/\∃ms:RL,H2 r'=some (.lst (jt ms))/\kO A H2 ms/\Shp ns ms/\pcs ms=pcs (rowOf kb.rs z)+pcs (ls.take i)/\jX ms=jX (rowOf kb.rs z)+jX (ls.take i))
   ⟨r,_,rfl,s1,ap,rowOf kb.rs z,am,al,hS,by unfold pcs;simp,by unfold jX;simp⟩ (λi σ H2 _ ⟨_,_,_,s,_⟩=>s.seq (iT hq)) ?_ ?_
  ·rintro i y σ H2 hi ⟨r',v4,rfl,s2,ah,ms,h2,af,aa,ac,ad⟩
   obtain⟨l,ab,rfl⟩:=jG hi;have ar:=aa.len;have ag:=ak l (get_mem ab);walk_at "i";refine⟨r',l.1,ms,l.2,rfl,h2,af,(hL l (get_mem ab)).same s2,by omega,aa.u,λl3 an H3 s3 aq h3 ao e1 e2=>?_⟩;obtain⟨g1,g2⟩:=Wr aa ag.1 ag.2.2 ag.2.1 e1 e2;refine⟨l3,rfl,s2.trans s3,s2.free aq,an,h3,ao,g1,?_,?_⟩
   ·rw[g2,ac,ahE ab]
    omega
   ·rw[Xv aa.u e1 e2,ad,WQ ab]
    omega
  ·rintro σ H2 ⟨r',v4,rfl,s2,ah,ms,h2,af,aa,ac,ad⟩
   have ae:=hB.same s2;obtain⟨as,aj⟩:=ae.i;rw[iV,zT]at ac ad
   try dsimp only
   walk_at "i";exact md aj ae.me (by unfold BkD.fs BkD.xs;cases kb.x<;>rfl) ⟨b,r',z,kb,ms,rfl,ae,h2,af,hB.fresh ah,hz,λH4 o4 ai=>k r' ms H4 ((pA s2).trans o4) ai aa ac ad⟩
noncomputable def Ea(rs:RW):List (Key×V):=rs.map λt=>(Sum.inr t.1,.int (pcs t.2.2))
def TJ{ns:List Int}{W:List Str}{rs:RW}(h:Nz ns W rs):GP (Ea rs):=by
 refine⟨λkv aa=>?_,?_⟩
 ·obtain⟨t,ht,rfl⟩:=zb.mp aa
  refine⟨t.1,pcs t.2.2,rfl,?_⟩;have h1:=Ck (h.n t ht).2.p;have h2:=yR.mpr (h.n t ht).1;omega
 ·unfold Ea
  rw[zq];have:((λx:Key×V=>x.1)∘λt:Str×Addr×RL=>((Sum.inr t.1:Key),V.int (pcs t.2.2)))=(λz:Str=>(Sum.inr z:Key))∘λt:Str×Addr×RL=>t.1:=rfl;rw[this,<-zq];exact yv.mpr (h.u.imp fun{a b} q e=>q (yL e))
theorem Ob:∀(rs:RW)(z:Str),jq (Ea rs) z=pcs (rowOf rs z)
 |[],z=>rfl
 |t::rs,z=>by
  have q:=Ob rs z;show jq ((Sum.inr t.1,V.int (pcs t.2.2))::Ea rs) z=pcs (if t.1=z then t.2.2 else rowOf rs z);by_cases e:t.1=z
  ·rw[zl e]
   unfold jq;rw[lu (by rw[e])]
  ·rw[ze e,<-q]
   unfold jq;rw[kJ (λh=>e (yL h))]
noncomputable def ame:Key->Str
 |.inr z=>z
 |.inl _=>Str.ofString ""
theorem GF:∀{rs:RW}{t:Str×Addr×RL},(rs.map (·.1)).Nodup->t∈rs->rowOf rs t.1=t.2.2
 |u::rs,t,hu,q=>by
  rw[zi,zR]at hu;unfold rowOf;rcases zt.mp q with e|q
  ·rw[e,zl rfl]
  ·have:u.1≠t.1:=λe=>hu.1 (by rw[e];exact zb.mpr ⟨t,q,rfl⟩)
   rw[ze this];exact GF hu.2 q
inductive Ew(A:Adr)(vs:List V)(H:Hp)(Q:VK)(E:XK):Prop
 |mk (b:Addr) (k:BkD) (ns:List Int) (W:List Str) (_:vs=[.ref b]) (_:jf A H b k) (_:Nz ns W k.rs) (_:W.length<=50) (_:ns.length<=61) (_:∀p kv H',Same H H'->H p=none->H' p=some (.dK kv)->GP kv->kv.length<=50->(∀z,jq kv z=pcs (rowOf k.rs z))->kv=Ea k.rs->Q (.ref p) H'):Ew A vs H Q E
def nA(T:Txt K mg A D):jQ P w K mg base CX0 2 A.aba D.aba ["self"] (Ew A):=by
 refine T.add.okv Oo λ_ _ _ _ H vs Q E hr h=>?_
 ·obtain⟨b,q,ns,W,rfl,hB,hO,hW,hN,k⟩:=h
  refine⟨_,(iJ (jb (aju (jJ (qm (K:=K) rfl) (by rfl) T.aei (by decide+kernel) (iG (jW (cap:=[none,none]) (N':=["ware", "row"]) rfl (by walk_at "c") (Vg (Nx (K:=K) yb zzp PySem.F.type_dict_items TQ (fv K 0))) (λ_ _ _ _=>(pN (K:=K) (n:=2) rfl (jw (iW (i:=0) (show(["ware", "row"]:List Str).Nodup from by decide+kernel) rfl orl orr) (jw (iW (i:=1) (show(["ware", "row"]:List Str).Nodup from by decide+kernel) rfl orl orr) nQ)))) (λ_ _ _ _=>jO) (λ_ _ _ _=>(nP (pav 0 (iG (pcg (Fo T) hr T.ac7 (JM T) (pav 1 iI)) iI))))) iI))))),?_⟩;walk_at "a";obtain⟨dx,hb⟩:=hB.i;have hC:=DX T hB;refine rd hb hC.c hC.r (v:=.ref q.rows) (by rfl) ⟨.inr (.inr (.inl ⟨rfl,.inl ⟨_,hB.r⟩⟩)),?_⟩;refine⟨_,_,rfl,rfl,hB.r,λv hv=>⟨v,rfl,q.rows,iK,kvR q.rs,(iZ (jT hB.r hv)).trans hB.r,λo=>?_⟩⟩;have h3:(upd (upd H v (Gq v q.rows)) q.rows (.frz o (.dK (kvR q.rs)))) q.rows=some (.frz o (.dK (kvR q.rs))):=iK;have o3:∀a o',a≠q.rows->H a=some o'->(upd (upd H v (Gq v q.rows)) q.rows (.frz o (.dK (kvR q.rs)))) a=some o':=λa o' af h=>(iZ af).trans (iR hv _ _ h);generalize upd (upd H v (Gq v q.rows)) q.rows (.frz o (.dK (kvR q.rs)))=H3 at h3 o3⊢
  have ah:QT A H3 q.rs:=λt ht=>⟨o3 _ _ (hB.ner (hB.frz.l t ht).1 λ_ c=>by cases c) (hB.frz.l t ht).1,λl hl=>by
   obtain⟨dy,hy⟩:=(hB.frz.l t ht).2 l hl;exact⟨dy,o3 _ _ (hB.ner hy λ_ c=>by cases c) hy⟩⟩
  have ag:(kvR q.rs).length=q.rs.length:=by unfold kvR;rw[za]
  have hz:q.rs.length<=50:=zN hO.len hW;refine kI.itemsF (λσ=>∃a b,σ=[a,b]) (λ_=>true) (λkv v H'=>∃b,v=.ref b/\H' b=some (.tup [kV kv.1,.int (pcs (rowOf q.rs (ame kv.1)))])) h3 ⟨_,_,rfl⟩ (by rw[ag,zn];omega) ?_ ?_
  ·rintro D i kv z σ H5 p R1 R2 ⟨_,_,rfl⟩ s5 hD ⟨acc,hA⟩ hp k1 k2
   obtain ⟨t,ht,rfl⟩:∃t,q.rs[i]? =some t/\kv=(Sum.inr t.1,.ref t.2.1):=by
    unfold kvR at z;rw[zm]at z
    cases e:q.rs[i]? with
    |none=>rw[e]at z;cases z
    |some t=>rw[e]at z;exact⟨t,rfl,(zy z).symm⟩
   have aa:=zh ht;have s6:=iR (o:=.tup [kV (Sum.inr t.1),.ref t.2.1]) hp;have h6:(upd H5 p (.tup [kV (Sum.inr t.1),.ref t.2.1])) p=some (.tup [.str t.1,.ref t.2.1]):=iK;have ae:=s6 _ _ hA;have ab:=(ah.same s5).same s6 t aa;generalize upd H5 p (.tup [kV (Sum.inr t.1),.ref t.2.1])=H6 at h6 ae ab k1 k2⊢;walk_at "i";refine⟨_,jH h6,rfl,_,_,rfl,_,_,rfl,rfl,t.2.1,t.2.2,rfl,ab.1,ab.2,by have:=(hO.n t aa).2.len;omega,λH7 s7=>?_⟩;refine⟨sz,λu hu=>k1 rfl _ _ _ ⟨_,_,rfl⟩ (s7.trans (iR hu)) λH' hb=>⟨u,rfl,?_⟩⟩;have e1:rowOf q.rs (ame (Sum.inr t.1))=t.2.2:=GF hO.u aa;have ep:((t.2.2.map (·.2)).map jk.p).sum=pcs t.2.2:=by unfold pcs;rw[zq];rfl
   rw[e1,<-ep];exact hb _ _ (λe=>by rw[e,s7 _ _ ae]at hu;cases hu) iK
  ·intro D H4 acc hD s4 hA ad hF
   have aj:(kvR q.rs).filter (λ_=>true)=kvR q.rs:=zzk.mpr λ_ _=>rfl;rw[aj]at ad hF;have ak:(Ea q.rs).length=q.rs.length:=by unfold Ea;rw[za]
   have hF':∀(i:Nat) v,acc[i]? =some v->∃kv,(Ea q.rs)[i]? =some kv/\∃b,v=.ref b/\H4 b=some (.tup [kV kv.1,kv.2]):=λi v hv=>by
    obtain⟨kv,h1,b,h2,h4⟩:=hF i v hv;unfold kvR at h1;rw[zm]at h1
    cases e:q.rs[i]? with
    |none=>rw[e]at h1;cases h1
    |some t=>
     rw[e]at h1;cases h1;have e1:rowOf q.rs (ame (Sum.inr t.1))=t.2.2:=GF hO.u (zh e);rw[e1]at h4;exact⟨(Sum.inr t.1,.int (pcs t.2.2)),by unfold Ea;rw[zm,e];rfl,b,h2,h4⟩
   have hH:=TJ hO;rw[ap_dictPairs];refine⟨acc,kfD H4,vfD H4,iT hA,by omega,λy hy=>?_,λp hp=>?_⟩
   ·obtain⟨i,hi,e⟩:=z9 hy
    obtain⟨kv,_,b,rfl,hb⟩:=hF' i y (by rw[zr hi,e]);exact⟨b,rfl,by rw[Yx hb,Xc hb];exact jH hb⟩
   ·rw[Yo (by omega) hF' hH.u]
    have s5:=s4.trans (iR (o:=.dK (Ea q.rs)) hp);have ac:p≠q.rows:=λe=>by rw[e,s4 _ _ h3]at hp;cases hp
    have ai:H p=none:=by
     cases e:H p with
     |none=>rfl
     |some o'=>rw[s4 _ _ (o3 _ _ ac e)]at hp;cases hp
    refine⟨q.rows,o,kvR q.rs,s5 _ _ h3,λo u e=>?_,k p (Ea q.rs) _ (λa o' h=>?_) ai ((iZ ac).trans iK) hH (by omega) (Ob q.rs) rfl⟩
    ·have e:H q.rows=some (.frz o u):=e
     rw[hB.r]at e;cases e
    ·by_cases c:a=q.rows
     ·rw[c,hB.r]at h
      rw[c,iK];exact h
     ·rw[iZ c]
      exact s5 _ _ (o3 _ _ c h)
inductive vB(A:Adr)(vs:List V)(H:Hp)(Q:VK)(E:XK):Prop
 |mk (b x:Addr) (k:BkD) (ns:List Int) (W:List Str) (d n m f:Int) (w:Str) (_:vs=[.ref b,.ref x]) (_:jf A H b k) (_:IsE A H x (.split d n w m f)) (_:Mo m f) (_:Nz ns W k.rs) (_:W.length<=50) (_:ns.length<=61) (_:(rowOf k.rs w=[]\/1<=pcs (rowOf k.rs w)*m/f)) (_:∀q ms H',Stp (k.M b) (k.M b) H H'->jf A H' b {k with rs:=keepR k.rs w q ms}->Shp ns ms->pcs ms=pcs (rowOf k.rs w)*m/f->jX ms=jX (rowOf k.rs w)->Q .non H'):vB A vs H Q E
def uZ(T:Txt K mg A D):jQ P w K mg base CX0 5 A.abN D.abN ["self", "entry"] (vB A):=by
 refine T.adP.okv Fv λ_ _ _ _ H vs Q E hr h=>?_
 ·obtain⟨b,x,kb,ns,W,d,n,m,f,w,rfl,z,⟨dx,nv,hx,_⟩,hM,hO,hW,hN,hp,k⟩:=h
  refine⟨_,(iJ (jh (jy (pv 0) (mc T.afO T.agC (jU T) hr (kj T) (mc T.afW T.agD (jU T) hr (kj T) .nil)) jB (iG (fv K 1) (iG (pcg (Og T) hr T.adO (Sd T) (iG (jy (pv 0) (mc T.afO T.agx (jF T) hr (jL T) (mc T.afW T.agy (jF T) hr (jL T) .nil)) jB (iG (fv K 1) iI)) (iG (fv K 1) (iG (fv K 1) iI)))) iI))))),?_⟩;walk_at "a";obtain⟨db,hb⟩:=z.i;have hl:=(hO.row w).len;have hz:=hO.len;refine md hb z.me (by unfold BkD.fs BkD.xs;cases kb.x<;>rfl) (rd hx T.afi T.afm (by rfl) (md hb z.me (by unfold BkD.fs BkD.xs;cases kb.x<;>rfl) (rd hx T.afi T.afm (by rfl) ⟨b,w,kb,rfl,z,λr H1 s1 ak aj ah=>?_⟩)));have aa:=s1 _ _ hx;refine rd aa T.afi T.afn (by rfl) (rd aa T.afi T.afo (by rfl) ⟨r,rowOf kb.rs w,m,f,ns,rfl,aj,ah,by omega,hM,hO.row w,hp,λq ms H2 s2 hq ae ai af ab ag=>?_⟩);have S2:=s1.trans s2;have ad:=z.same S2;exact⟨b,q,w,kb,ms,rfl,ad,ae,ai,z.fresh (s1.free hq),by omega,λH3 o3 ac=>k q ms H3 ((pA S2).trans o3) ac af ab ag⟩
theorem jf.day{H:Hp}{b:Addr}{k:BkD}(h:jf A H b k){x C dx:Addr}{fs:List (Str×V)}{v:V}(q:H x=some (.ins C dx ((Str.ofString "day",v)::fs))):vO H (k.M b) x=some (.ins C dx ((Str.ofString "day",v)::fs)):=sY q λc=>by
 obtain⟨o,e,c⟩:=h.own c;rw[q]at e;obtain rfl:=zy e;rcases c with⟨_,c⟩|⟨_,c⟩|⟨_,c⟩
 ·injection c with _ _ c
  exact absurd (Prod.mk.inj (y0 c).1).1 (by decide+kernel)
 ·cases c
 ·cases c
def XQ{s t:Int}{ls l1 q:RL}(z:l1.map (·.2)=(ls.map (·.2)).map (rst s t))(e2:q.map (·.2)=(ls.map (·.2)).map (prt s t)):jX l1+jX q=jX ls:=by
 rw[mD,mD,mD,z,e2];generalize ls.map (·.2)=ds
 induction ds with
 |nil=>rfl
 |cons d ds ih=>
  simp only[zi,zF];have:(rst s t d).c+(prt s t d).c=d.c:=by unfold rst prt;simp only[];omega
  omega
def aja{s t:Int}(h:Shr s t)(aa:s<=t){ls l1 l2:RL}(hc:∀l∈ls,0<=l.2.c)(e1:l1.map (·.2)=(ls.map (·.2)).map (rst s t))(e2:l2.map (·.2)=(ls.map (·.2)).map (prt s t)):(∀l∈l1,0<=l.2.c)/\∀l∈l2,0<=l.2.c:=by
 have hs:=h.a.1;have ht:=h.b.1
 have key:∀c:Int,0<=c->0<=c*s/t/\c*s/t<=c:=λc h0=>by
  refine⟨zzR (zzd h0 hs) (by omega),?_⟩;have h6:=zzJ (c:=t) (by omega) (yU aa h0)
  rwa [yS _ (by omega)]at h6
 refine⟨λl hl=>?_,λl hl=>?_⟩
 ·obtain⟨x,z,e⟩:=zb.mp (e1▸zb.mpr ⟨l,hl,rfl⟩:l.2∈(ls.map (·.2)).map (rst s t))
  obtain⟨q,hq,rfl⟩:=zb.mp z;have:=key _ (hc q hq);rw[<-e];show 0<=q.2.c - q.2.c*s/t;omega
 ·obtain⟨x,z,e⟩:=zb.mp (e2▸zb.mpr ⟨l,hl,rfl⟩:l.2∈(ls.map (·.2)).map (prt s t))
  obtain⟨q,hq,rfl⟩:=zb.mp z;rw[<-e];exact(key _ (hc q hq)).1
inductive rC(A:Adr)(vs:List V)(H:Hp)(Q:VK)(E:XK):Prop
 |mk (b x:Addr) (k:BkD) (ns:List Int) (W:List Str) (d n s t:Int) (w u:Str) (_:vs=[.ref b,.ref x]) (_:jf A H b k) (_:IsE A H x (.part d n w u s t)) (_:Shr s t) (_:s<=t) (_:w≠u) (_:w∈W) (_:Nz ns W k.rs) (_:W.length<=50) (_:ns.length<=61) (_:∀q1 l1 q ms H',Stp (k.M b) (k.M b) H H'->jf A H' b {k with rs:=keepR (keepR k.rs w q1 l1) u q ms}->Shp ns l1->pcs l1=pcs (rowOf k.rs w)->Shp ns ms->pcs ms=pcs (rowOf k.rs u)+pcs (rowOf k.rs w)->jX l1+jX ms=jX (rowOf k.rs w)+jX (rowOf k.rs u)->Q .non H'):rC A vs H Q E
def rF(T:Txt K mg A D):jQ P w K mg base CX0 6 A.abP D.abP ["self", "entry"] (rC A):=by
 refine T.adR.okv rG λ_ _ _ _ H vs Q E hr h=>?_
 ·obtain⟨b,x,z,ns,W,d,n,s,t,w,u,rfl,hB,⟨dx,nv,hx,_⟩,hs,ax,aw,hw,hO,hW,hN,k⟩:=h
  refine ⟨_,(iH (iY (i:=2) rG.nd rfl orl (pcg (Nu T) hr T.adQ (Rf T) (iG (jy (pv 0) (mc T.afO T.agx (jF T) hr (jL T) (mc T.afW T.agy (jF T) hr (jL T) .nil)) jB (iG (fv K 1) iI)) (iG (fv K 1) (iG (fv K 1) iI)))))
   (iH (jh (jy (pv 0) (mc T.afO T.agC (jU T) hr (kj T) (mc T.afW T.agD (jU T) hr (kj T) .nil)) jB (iG (fv K 1) (iG (jC (jg (K:=K)) (pvD 2) iM (λ_ _=>rfl)) iI))))
   (iJ (jh (jy (pv 0) (mc T.afO T.agF (oM T) hr (qg T) (mc T.afW T.agG (oM T) hr (qg T) .nil)) jB (iG (fv K 1) (iG (jC (jg (K:=K)) (pvD 2) iM (λ_ _=>rfl)) iI))))))),?_⟩
  obtain⟨db,hb⟩:=hB.i;have hl:=(hO.row w).len;have hz:=hO.len;simp only[start_eq];walk_at "m";refine md hb hB.me (by unfold BkD.fs BkD.xs;cases z.x<;>rfl) (rd hx T.afp T.aft (by rfl) ⟨b,w,z,rfl,hB,λr H1 s1 bb aq ao=>?_⟩);have ah:=s1 _ _ hx;refine rd ah T.afp T.afv (by rfl) (rd ah T.afp T.afw (by rfl) ⟨r,rowOf z.rs w,s,t,rfl,aq,ao,by omega,hs,λtt q1 q2 l1 l2 H2 s2 ar an ay ht h1 h2 ak ap e1 e2=>?_⟩);have S2:=s1.trans s2;have aa:=hB.same S2;obtain⟨ba,am⟩:=aa.i;have af:=S2 _ _ hx;have m1:Sim (rowOf z.rs w) l1:=YF (f:=rst s t) (λd=>⟨rfl,rfl⟩) e1;have m2:Sim (rowOf z.rs w) l2:=YF (f:=prt s t) (λd=>⟨rfl,rfl⟩) e2;obtain⟨n1,n2⟩:=aja hs ax (hO.row w).c e1 e2;have ad:=m1.shp (hO.row w) n1;have ae:=m2.shp (hO.row w) n2;walk_at "m";refine md am aa.me (by unfold BkD.fs BkD.xs;cases z.x<;>rfl) (rd af T.afp T.aft (by rfl) ⟨_,jH ht,_,rfl,b,q1,w,z,l1,rfl,aa,h1,ak,hB.fresh (s1.free ar),by omega,λH3 o3 ab=>?_⟩);have G:Same (vO H2 (z.M b)) H3:=λa o h=>tZ _ _ (o3.same _ _ h);have aj:=G _ _ (aa.tup ht);have ai:=G _ _ (sY h2 (hB.fresh (s1.free an)));have au:=kO.same (aa.lots ap) G;have as:=G _ _ (aa.day af);obtain⟨az,av⟩:=ab.i;have ac:=hO.keep hw (q:=q1) ad;have bc:=ac.len;have ag:rowOf (keepR z.rs w q1 l1) u=rowOf z.rs u:=by rw[qi,ze (λc=>aw c.symm)]
  exact md av ab.me (by unfold BkD.fs BkD.xs;cases z.x<;>rfl) (rd as T.afp T.afu (by rfl) ⟨_,jH aj,_,rfl,b,q2,u,_,l2,ns,rfl,ab,ai,au,λl hl=>⟨ae.p l hl,ae.m l hl,n2 l hl⟩,ac.row u,hN,(show(keepR z.rs w q1 l1).length<=50 by omega),λq' ms H4 o4 al g1 g2 gc=>k q1 l1 q' ms H4 ((pA S2).trans (o3.trans o4)) al ad m1.pcs g1 (by rw[g2,m2.pcs];show pcs (rowOf (keepR z.rs w q1 l1) u)+_=_;rw[ag]) (by have gc:jX ms=jX (rowOf (keepR z.rs w q1 l1) u)+jX l2:=gc;rw[ag]at gc;have:=XQ e1 e2;omega)⟩)
def Vc(k:BkD):k.fs.length<1000:=by unfold BkD.fs BkD.xs;cases k.x<;>simp
def QC(k:BkD)(i:Int):Ef (Str.ofString "brought") (.int i) k.fs={k with brought:=i}.fs:=by cases k;rfl
def Yw(k:BkD)(i:Int):Ef (Str.ofString "paid") (.int i) k.fs={k with paid:=i}.fs:=by cases k;rfl
def amy{H:Hp}{y:Addr}{d:jk}(h:mq A H y d):kO A H [(y,d)]:=λl q=>by rw[zu.mp q];exact h
inductive wK(A:Adr)(vs:List V)(H:Hp)(Q:VK)(E:XK):Prop
 |mk (b x:Addr) (k:BkD) (ns:List Int) (W:List Str) (d n p c s:Int) (w:Str) (_:vs=[.ref b,.ref x]) (_:jf A H b k) (_:IsE A H x (.gift d n w p c s)) (_:1<=p) (_:0<=c) (_:n∈ns) (_:Nz ns W k.rs) (_:W.length<=50) (_:ns.length<=61) (_:∀q ms H',Stp (k.M b) (k.M b) H H'->jf A H' b {k with rs:=keepR k.rs w q ms,brought:=k.brought+c}->Shp ns ms->pcs ms=pcs (rowOf k.rs w)+p->jX ms=jX (rowOf k.rs w)+c->Q .non H'):wK A vs H Q E
def xO(T:Txt K mg A D):jQ P w K mg base CX0 6 A.abr D.abr ["self", "entry"] (wK A):=by
 refine T.adu.okv GX λ_ _ _ _ H vs Q E hr h=>?_
 ·obtain⟨b,x,kb,ns,W,d,n,p,c,s,w,rfl,hB,⟨dx,nv,hx,_⟩,hp,ai,hn,hO,hW,hN,k⟩:=h
  refine ⟨_,(iH (jh (jy (pv 0) (mc T.afO T.agF (oM T) hr (qg T) (mc T.afW T.agG (oM T) hr (qg T) .nil)) jB (iG (fv K 1) (iG (jV (iG (lK T.agm (jR (K:=K) T) (hr.mono (by decide)) (by rfl) T.aeG (jY T) .nil jB (iG (fv K 1) (iG (fv K 1) (iG (fv K 1) (iG (fv K 1) iI))))) iI)) iI))))
   (iJ (jo (K:=K) (pv 0) (jc kh (fv K 0) (fv K 1)) rfl))),?_⟩
  obtain⟨db,hb⟩:=hB.i;have hz:=hO.len;simp only[start_eq];walk_at "m";refine md hb hB.me (by unfold BkD.fs BkD.xs;cases kb.x<;>rfl) (rd hx T.afa T.afe (by rfl) (rd hx T.afa T.afd (by rfl) (rd hx T.afa T.afh (by rfl) (rd hx T.afa T.aff (by rfl) (rd hx T.afa T.afg (by rfl) (λy dy hy ah _=>?_))))));refine pZ (A:=A) ⟨n,s,p,c⟩ hy ah λH1 s1 hL=>⟨sz,λq hq=>?_⟩;have s2:=s1.trans (iR (o:=.lst [.ref y]) hq);have ac:(upd H1 q (.lst [.ref y])) q=some (.lst (jt [(y,⟨n,s,p,c⟩)])):=iK;have ad:=hL.same (iR (o:=.lst [.ref y]) hq);generalize upd H1 q (HO.lst [.ref y])=H2 at s2 ac ad⊢;have ab:=hB.same s2;refine⟨b,q,w,kb,[(y,⟨n,s,p,c⟩)],ns,rfl,ab,ac,amy ad,λl hl=>by rw[zu.mp hl];exact⟨hp,hn,ai⟩,hO.row w,hN,by omega,λq' ms H3 o3 z g1 g2 gc=>?_⟩;have G:Same (vO H2 (kb.M b)) H3:=λa o h=>tZ _ _ (o3.same _ _ h);have ag:=G _ _ (ab.day (s2 _ _ hx));obtain⟨af,ae⟩:=z.i;have aa:=DX T z
  try dsimp only
  refine rd ae aa.c aa.b (by rfl) (rd ag T.afa T.afg (by rfl) ⟨_,rfl,_,rfl,_,af,_,ae,aa.c,aa.b,Vc _,?_⟩);rw[QC];exact k q' ms _ ((pA s2).trans (o3.trans (pJ BkD.mb))) (z.put (la:=kb.last) (pa:=kb.paid) (br:=kb.brought+c) z.z.p) g1 (by rw[g2];unfold pcs;simp) (by rw[gc];unfold jX;simp)
noncomputable def Tk(e:Ent)(w:Str)(p:Int):Prop:=(∃d n r f,e=.sell d n w p r f none)\/∃d n,e=.give d n w p none
def alR(T:Txt K mg A D){H:Hp}{x:Addr}{e:Ent}{w:Str}{p:Int}(h:IsE A H x e)(he:Tk e w p):∃C dx v fs,H x=some (.ins C dx ((Str.ofString "day",v)::fs))/\Cls K C/\jd K C "ware" /\jd K C "pieces" /\jd K C "named" /\
  List.lookup (Str.ofString "ware") ((Str.ofString "day",v)::fs)=some (.str w)/\List.lookup (Str.ofString "pieces") ((Str.ofString "day",v)::fs)=some (.int p)/\List.lookup (Str.ofString "named") ((Str.ofString "day",v)::fs)=some .non:=by
 obtain⟨dx,q,z,hn⟩:=h;rcases he with⟨d,n,r,f,rfl⟩|⟨d,n,rfl⟩
 ·have hn:q=.non:=hn
  subst hn;exact⟨_,dx,_,_,z,T.afx,T.afB,T.afC,T.afF,by rfl,by rfl,by rfl⟩
 ·have hn:q=.non:=hn
  subst hn;exact⟨_,dx,_,_,z,T.aeU,T.aeY,T.aeZ,T.ae0,by rfl,by rfl,by rfl⟩
inductive uo(A:Adr)(vs:List V)(H:Hp)(Q:VK)(E:XK):Prop
 |mk (b x Cw dw:Addr) (k:BkD) (ns:List Int) (W:List Str) (e:Ent) (w:Str) (p:Int) (_:vs=[.ref b,.ref x]) (_:jf A H b k) (_:H k.way=some (.ins Cw dw [])) (_:SQ A Cw) (_:IsE A H x e) (_:Tk e w p) (_:Nz ns W k.rs) (_:W.length<=50) (_:ns.length<=61) (_:1<=p) (_:p<=pcs (rowOf k.rs w)) (_:Bd (pcs (rowOf k.rs w))) (_:Bd (jX (rowOf k.rs w))) (_:∀la l1 q ms H',Stp (k.M b) (k.M b) H H'->jf A H' b {k with rs:=keepR k.rs w q ms}->H la=none->H' la=some (.lst (jt l1))->kO A H' l1->Shp ns l1->pcs l1=p->l1≠[]->Shp ns ms->pcs ms=pcs (rowOf k.rs w) - p->jX l1+jX ms=jX (rowOf k.rs w)->Q (.ref la) H'):uo A vs H Q E
def mL(T:Txt K mg A D):jQ P w K mg base CX0 6 A.abI D.abI ["self", "entry"] (uo A):=by
 refine T.adK.okv uw λ_ _ _ _ H vs Q E hr h=>?_
 ·obtain⟨b,x,Cw,dw,kb,ns,W,e,w,p,rfl,hB,hw,af,ag,he,hO,hW,hN,ai,ab,aj,ah,k⟩:=h
  obtain⟨C,dx,v,fs,hx,c0,c1,c2,c3,f1,f2,f3⟩:=alR T ag he
  refine ⟨_,(iH (Vp ((iJ (iY (i:=2) uw.nd rfl orl (pcg (Pa T) hr T.adJ (Tf T) (iG (fv K 0) (iG (jy (pv 0) (mc T.afO T.agx (jF T) hr (jL T) (mc T.afW T.agy (jF T) hr (jL T) .nil)) jB (iG (fv K 1) iI)) (iG (fv K 1) (iG (fv K 1) iI)))))))))
   (iH (jh (jy (pv 0) (mc T.afO T.agC (jU T) hr (kj T) (mc T.afW T.agD (jU T) hr (kj T) .nil)) jB (iG (fv K 1) (iG (jC (jg (K:=K)) (pvD 2) iM (λ_ _=>rfl)) iI))))
   (iJ (jb (jC (jg (K:=K)) (pvD 2) iM (λ_ _=>rfl)))))),?_⟩
  simp only[start_eq];walk_at "m";obtain⟨db,hb⟩:=hB.i;have hC:=DX T hB;have hz:=hO.len;refine rd hb hC.c hC.w (by rfl) (md hb hB.me (by unfold BkD.fs BkD.xs;cases kb.x<;>rfl) (rd hx c0 c1 f1 ⟨b,w,kb,rfl,hB,λl H1 s1 ak h1 aa=>?_⟩));have z:=s1 _ _ hx;refine rd z c0 c2 f2 (rd z c0 c3 f3 ⟨kb.way,Cw,dw,l,ns,rowOf kb.rs w,p,rfl,s1 _ _ hw,af,h1,aa,hO.row w,by omega,aj,ah,ai,ab,λt la lb l1 l2 H2 s2 ht h5 h6 h7 h8 g1 g2 g3 g4 g5 gc g6 g7 g8=>?_⟩);have S2:=s1.trans s2;have q:=hB.same S2;obtain⟨al,ad⟩:=q.i;have ae:=s2 _ _ z;walk_at "m";refine md ad q.me (by unfold BkD.fs BkD.xs;cases kb.x<;>rfl) (rd ae c0 c1 f1 ⟨_,jH ht,.ref lb,rfl,b,lb,w,kb,l2,rfl,q,h6,h8,hB.fresh (s1.free g7),by omega,λH3 o3 ac=>?_⟩);have G:Same (vO H2 (kb.M b)) H3:=λa o h=>tZ _ _ (o3.same _ _ h);exact⟨_,jH (G _ _ (q.tup ht)),.ref la,rfl,k la l1 lb l2 H3 ((pA S2).trans o3) ac (s1.free g6) (G _ _ (sY h5 (hB.fresh (s1.free g6)))) (kO.same (q.lots h7) G) g1 g2 g3 g4 g5 gc⟩
inductive wM(A:Adr)(vs:List V)(H:Hp)(Q:VK)(E:XK):Prop
 |mk (b x Cw dw:Addr) (k:BkD) (ns:List Int) (W:List Str) (d n p r f:Int) (w:Str) (_:vs=[.ref b,.ref x]) (_:jf A H b k) (_:H k.way=some (.ins Cw dw [])) (_:SQ A Cw) (_:IsE A H x (.sell d n w p r f none)) (_:Nz ns W k.rs) (_:W.length<=50) (_:ns.length<=61) (_:1<=p) (_:p<=pcs (rowOf k.rs w)) (_:Bd (pcs (rowOf k.rs w))) (_:Bd (jX (rowOf k.rs w))) (_:Bd (p*r - f)) (_:k.sl.length<=100) (_:∀y s q ms H',Stp (k.M b) (k.M b) H H'->jf A H' b {k with rs:=keepR k.rs w q ms,sl:=k.sl++[(y,s)]}->s.n=n->s.d=d->s.w=w->s.lo=none->s.pr=p*r - f->Shp ns ms->pcs ms=pcs (rowOf k.rs w) - p->s.co+jX ms=jX (rowOf k.rs w)->0<=s.co->Q .non H'):wM A vs H Q E
def wF(T:Txt K mg A D):jQ P w K mg base CX0 7 A.abJ D.abJ ["self", "entry"] (wM A):=by
 refine T.adL.okv Hu λ_ _ _ _ H vs Q E hr h=>?_
 ·obtain⟨b,x,Cw,dw,z,ns,W,d,n,p,r,f,w,rfl,hB,hw,ai,hx,hO,hW,hN,am,af,ad,aj,ag,ao,k⟩:=h
  refine⟨_,(iJ (jh (pW (K:=K) zL zU zV lW (fv K 0) (iG (pcg (VH T) hr T.ady (Xb T) (pav 1 (iG (jy (pv 0) (mc T.afO T.agT (mL T) hr (mX T) (mc T.afW T.agU (mL T) hr (mX T) .nil)) jB (pav 1 iI)) iI))) iI)))),?_⟩;obtain⟨db,hb⟩:=hB.i;have hC:=DX T hB;walk_at "a";refine rd hb hC.c hC.s (v:=.ref z.sales) (by rfl) ⟨tyL (iT hB.s),?_⟩;refine md hb hB.me (by unfold BkD.fs BkD.xs;cases z.x<;>rfl) ⟨b,x,Cw,dw,z,ns,W,_,w,p,rfl,hB,hw,ai,hx,.inl ⟨d,n,r,f,rfl⟩,hO,hW,hN,am,af,ad,aj,λla l1 q ms H1 o1 ab ap h1 ae g1 g2 g3 g4 g5 gc=>?_⟩;have G:Same (vO H (z.M b)) H1:=λa o h=>tZ _ _ (o1.same _ _ h);have al:IsE A H1 x (.sell d n w p r f none):=let⟨dx,nv,e,c⟩:=hx;⟨dx,nv,G _ _ (hB.day e),c⟩
  have an:=g1.len;refine⟨x,la,d,n,p,r,f,w,none,l1,rfl,al,h1,ae,g3,by omega,g1.p,ag,ad.of (by omega) (by omega),λy s H2 s2 hy ak hS e1 e2 e3 e4 e5 e6 e7=>?_⟩;have aa:=ab.same s2;have ah:=aa.sal hS (ab.fresh ak);have hE:=aa.sale ah;show Jo (V.ref z.sales) [V.ref y] H2 _;rw[ap_append];refine⟨_,aa.s,?_,?_⟩
  ·unfold vL
   rw[za,zn];show z.sl.length<_;omega
  rw[show vL z.sl++[V.ref y]=vL (z.sl++[(y,s)]) by unfold vL;rw[zj];rfl];have ac:s.co=jX l1:=by unfold jM.co;rw[mD,<-e6,zq];rfl
  exact k y s q ms _ (o1.trans ((pA s2).trans (pJ BkD.ms))) hE e1 e2 e3 e5 e4 g4 g5 (by rw[<-gc,ac]) (by rw[ac];exact Cj g1.c)
inductive wz(A:Adr)(vs:List V)(H:Hp)(Q:VK)(E:XK):Prop
 |mk (b x Cw dw:Addr) (k:BkD) (ns:List Int) (W:List Str) (d n p:Int) (w:Str) (_:vs=[.ref b,.ref x]) (_:jf A H b k) (_:H k.way=some (.ins Cw dw [])) (_:SQ A Cw) (_:IsE A H x (.give d n w p none)) (_:Nz ns W k.rs) (_:W.length<=50) (_:ns.length<=61) (_:1<=p) (_:p<=pcs (rowOf k.rs w)) (_:Bd (pcs (rowOf k.rs w))) (_:Bd (jX (rowOf k.rs w))) (_:k.gv.length<=100) (_:∀g q ms H',Stp (k.M b) (k.M b) H H'->jf A H' b {k with rs:=keepR k.rs w q ms,gv:=k.gv++[g]}->0<=jX g.2.2.2->Shp ns ms->pcs ms=pcs (rowOf k.rs w) - p->jX g.2.2.2+jX ms=jX (rowOf k.rs w)->Q .non H'):wz A vs H Q E
def wH(T:Txt K mg A D):jQ P w K mg base CX0 7 A.abK D.abK ["self", "entry"] (wz A):=by
 refine T.adM.okv Ka λ_ _ _ _ H vs Q E hr h=>?_
 ·obtain⟨b,x,Cw,dw,kb,ns,W,d,n,p,w,rfl,hB,hw,ag,hx,hO,hW,hN,ak,ad,al,ah,am,k⟩:=h
  refine⟨_,(iJ (jh (pW (K:=K) zL zU zV lW (fv K 0) (iG (nP (iG (fv K 1) (iG (jy (pv 0) (mc T.afO T.agT (mL T) hr (mX T) (mc T.afW T.agU (mL T) hr (mX T) .nil)) jB (pav 1 iI)) iI))) iI)))),?_⟩;obtain⟨db,hb⟩:=hB.i;have hC:=DX T hB;have ae:=hx;obtain⟨dx,nv,ai,_⟩:=ae;walk_at "a";refine rd hb hC.c hC.g (v:=.ref kb.givs) (by rfl) ⟨tyL (iT hB.g),?_⟩;refine rd ai T.aeU T.aeX (by rfl) (md hb hB.me (by unfold BkD.fs BkD.xs;cases kb.x<;>rfl) ⟨b,x,Cw,dw,kb,ns,W,_,w,p,rfl,hB,hw,ag,hx,.inr ⟨d,n,rfl⟩,hO,hW,hN,ak,ad,al,ah,λla l1 q ms H1 o1 af aj h1 ac g1 g2 g3 g4 g5 gc=>?_⟩);refine⟨sz,λt ht=>?_⟩;have s2:=iR (o:=.tup [V.int n,V.ref la]) ht;have ab:(upd H1 t (.tup [V.int n,V.ref la])) t=some (.tup [V.int n,V.ref la]):=iK;have z:=af.same s2;have h2:=s2 _ _ h1;have aa:=ac.same s2;show Jo (V.ref kb.givs) [V.ref t] (upd H1 t (.tup [V.int n,V.ref la])) _;generalize upd H1 t (.tup [V.int n,V.ref la])=H2 at s2 ab z h2 aa;have hE:=z.giv (t:=(t,n,la,l1)) (z.tup ab) (sY h2 (hB.fresh aj)) (z.lots aa);rw[ap_append];refine⟨_,z.g,?_,?_⟩
  ·unfold PX
   rw[za,zn];show kb.gv.length<_;omega
  rw[show PX kb.gv++[V.ref t]=PX (kb.gv++[(t,n,la,l1)]) by unfold PX;rw[zj];rfl];exact k _ q ms _ (o1.trans ((pA s2).trans (pJ BkD.mv))) hE (Cj g1.c) g4 g5 gc
inductive wL(A:Adr)(vs:List V)(H:Hp)(Q:VK)(E:XK):Prop
 |mk (x:Addr) (s:jM) (n:Int) (_:vs=[.ref x,.int n]) (_:lA A H x s) (_:∀y pl H',Same H H'->H y=none->H pl=none->lA A H' y {s with pl:=pl,lo:=some n}->Q (.ref y) H'):wL A vs H Q E
def Kd(T:Txt K mg A D):jQ P w K mg base CX0 3 A.abo D.abo ["sale", "number"] (wL A):=by
 refine T.adr.F.okv Il λ_ _ _ _ H vs Q E hr h=>?_
 ·obtain⟨x,s,n,rfl,q,k⟩:=h
  refine⟨_,(iJ (jb (lK T.agl (pR (K:=K) T) (hr.mono (by decide)) (by rfl) T.aeD (qF T) .nil jB (iG (fv K 0) (iG (fv K 0) (iG (fv K 0) (iG (fv K 0) (iG (fv K 0) (pav 1 iI))))))))),?_⟩;obtain⟨dx,hi⟩:=q.i;walk_at "a";refine rd hi T.afH T.afI (by rfl) (rd hi T.afH T.afJ (by rfl) (rd hi T.afH T.afK (by rfl) (rd hi T.afH T.afL (by rfl) (rd hi T.afH T.afM (by rfl) (λy dy hy aa _=>?_)))));exact⟨y,s.pl,s.n,s.d,s.pr,s.w,some n,s.ps,H,dy,rfl,pU hy aa,q.p,q.t,q.l,λpl H' s' z hS=>⟨rfl,k y pl H' s' hy z hS⟩⟩
noncomputable def jM.opn(s:jM):Bool:=decide (s.lo=none) && decide (s.pr - s.co<0)
inductive xK(A:Adr)(vs:List V)(H:Hp)(Q:VK)(E:XK):Prop
 |mk (x:Addr) (s:jM) (_:vs=[.ref x]) (_:lA A H x s) (_:∀H',Same H H'->Q (.bl s.opn) H'):xK A vs H Q E
def JK(T:Txt K mg A D):jQ P w K mg base CX0 3 A.abm D.abm ["sale"] (xK A):=by
 refine T.adp.F.okv Js λ_ _ _ _ H vs Q E z h=>?_
 ·obtain⟨x,s,rfl,q,k⟩:=h
  refine⟨_,(iJ (jb (Ul (uK (Fi) (fv K 0) mF (ji _)) (WD (uK (Ik) (lE (pv 0) (mc T.afH T.agt (rn T) z (uV T) .nil) jB) iM (ji _)))))),?_⟩;obtain⟨dx,hi⟩:=q.i;walk_at "a";refine rd hi T.afH T.afN (v:=loV s.lo) (by rfl) (?_);unfold jM.opn at k
  cases e:s.lo with
  |none=>
   rw[zl (show loV none=V.non from rfl)];rw[e,zM rfl,Bool.true_and]at k;exact md hi zg (by rfl) ⟨x,s,rfl,q,λH' s'=>⟨_,rfl,k H' s'⟩⟩
  |some i=>
   rw[ze (show¬loV (some i)=V.non from λc=>by cases c)];rw[e,zQ (λc=>by cases c),zzZ]at k;exact k H (same_refl _)
noncomputable def Qn(s:jM)(w:Str)(d g:Int):Bool:=s.opn && (decide (s.w=w) && decide (d - s.d<=g))
inductive lw(A:Adr)(vs:List V)(H:Hp)(Q:VK)(E:XK):Prop
 |mk (b x y:Addr) (k:BkD) (g:Int) (la:Addr) (zs:LY) (s:jM) (d n p r f:Int) (w:Str) (_:vs=[.ref b,.ref x,.ref y]) (_:jf A H b k) (_:k.x=some (g,la,zs)) (_:IsE A H x (.buy d n w p r f)) (_:lA A H y s) (_:∀H',Same H H'->Q (.bl (Qn s w d g)) H'):lw A vs H Q E
def nZ(T:Txt K mg A D):jQ P w K mg base CX0 4 A.abn D.abn ["self", "entry", "sale"] (lw A):=by
 refine T.adq.okv vR λ_ _ _ _ H vs Q E hr h=>?_
 ·obtain⟨b,x,y,kb,g,la,zs,s,d,n,p,r,f,w,rfl,hB,hk,⟨dx,nv,hx,_⟩,hy,k⟩:=h
  refine⟨_,(iJ (jb (Ul (pcg (JK T) hr T.adp (Kg T) (pav 2 iI)) (Ul (uK (mR) (fv K 2) (fv K 1) (ji _)) (WD (uK (aku) (jc uf (fv K 1) (fv K 2)) (fv K 0) (ji _))))))),?_⟩;walk_at "a";refine⟨y,s,rfl,hy,λH1 q=>?_⟩;refine⟨_,rfl,?_⟩;unfold Qn at k;obtain⟨dy,hi⟩:=hy.i;have aa:=q _ _ hi;have ab:=q _ _ hx
  cases e:s.opn with
  |false=>
   rw[ze (by decide)];rw[e,zzZ]at k;exact k H1 q
  |true=>
   rw[zl rfl];rw[e,Bool.true_and]at k;refine rd aa T.afH T.afK (by rfl) (rd ab T.ae1 T.ae5 (by rfl) ⟨rfl,?_⟩);by_cases c:s.w=w
   ·rw[zl (by rw[c])]
    rw[zM c,Bool.true_and]at k;obtain⟨db,hb⟩:=(hB.same q).i;rcases hB.c with⟨_,c2⟩|⟨c1,_⟩
    ·rw[hk]at c2;cases c2
    ·refine rd ab T.ae1 T.ae3 (by rfl) (rd aa T.afH T.afJ (by rfl) ⟨_,rfl,_,rfl,rd hb (by rw[c1];exact T.afW) (by rw[c1];exact T.af4) (v:=.int g) (by unfold BkD.fs BkD.xs;rw[hk];rfl) (?_)⟩)
     exact⟨_,rfl,k H1 q⟩
   ·rw[ze (λz=>c (V.str.inj z))]
    rw[zQ c,zzZ]at k;exact k H1 q
noncomputable def Ai{α:Type}(P:α->V->Prop):List α->List V->Prop
 |[],[]=>True
 |y::ys,v::vs=>P y v/\Ai P ys vs
 |[],_::_=>False
 |_::_,[]=>False
theorem Ai.snoc{α:Type}{P:α->V->Prop}:∀{ys:List α}{vs:List V}{y:α}{v:V},Ai P ys vs->P y v->Ai P (ys++[y]) (vs++[v])
 |[],[],_,_,_,p=>⟨p,trivial⟩
 |_::_,_::_,_,_,h,p=>⟨h.1,Ai.snoc h.2 p⟩
 |[],_::_,_,_,h,_=>h.elim
 |_::_,[],_,_,h,_=>h.elim
theorem Ai.imp{α:Type}{P R:α->V->Prop}:∀{ys:List α}{vs:List V},Ai P ys vs->(∀y v,P y v->R y v)->Ai R ys vs
 |[],[],_,_=>trivial
 |_::_,_::_,h,f=>⟨f _ _ h.1,Ai.imp h.2 f⟩
 |[],_::_,h,_=>h.elim
 |_::_,[],h,_=>h.elim
theorem Ai.len{α:Type}{P:α->V->Prop}:∀{ys:List α}{vs:List V},Ai P ys vs->vs.length=ys.length
 |[],[],_=>rfl
 |_::_,_::_,h=>congrArg (·+1) (Ai.len h.2)
 |[],_::_,h=>h.elim
 |_::_,[],h=>h.elim
theorem Ai.map{α:Type}{f:α->V}:∀{ys:List α}{vs:List V},Ai (λy v=>v=f y) ys vs->vs=ys.map f
 |[],[],_=>rfl
 |_::_,_::_,h=>by rw[zi,<-Ai.map h.2,h.1]
 |[],_::_,h=>h.elim
 |_::_,[],h=>h.elim
def Ai.ints{α:Type}{f:α->Int}{ys:List α}{vs:List V}(h:Ai (λy v=>v=.int (f y)) ys vs):vs=(ys.map f).map V.int:=by rw[Ai.map h,zq];rfl
def filter_all{α:Type}(l:List α):l.filter (λ_=>true)=l:=zzk.mpr λ_ _=>rfl
def alz{α:Type}{f:α->V}{ys:List α}{a:Addr}{cap:List (Option Nat)}{g:TG}{tt:TT}{te:TE}{σ:L2.St}{H:Hp}{Q:VK}(Sσ:L2.St->Prop)(ab:α->Bool)(F:Addr->α->V->Hp->Prop)(hS:SqL K H a (ys.map f))(h0:Sσ (qY σ cap))(hz:ys.length<=100000)
  (hs:∀D y,y∈ys->∀(σ:L2.St)(H5:Hp)(R1:L2.St->VK)(R2:L2.St->Hp->Prop),Sσ σ->Same H H5->H D=none->(∃acc,H5 D=some (.lst acc))->(ab y=true->∀v z H6,Sσ z->Same H5 H6->(∀H',But D H6 H'->F D y v H')->R1 z v H6)->(ab y=false->∀z H6,Sσ z->Same H5 H6->R2 z H6)->g (f y) σ H5 λz H4=>tt z H4 λb H5=>if b=true then te z H5 (R1 z)else R2 z H5)
  (k:∀D H' acc,H D=none->Same H H'->H' D=some (.lst acc)->Ai (λy v=>F D y v H') (ys.filter ab) acc->Q (.ref D) H'):kI cap (Itl K a) g tt te σ H Q:=by
 intro D hD;have hz':ys.length<=sizeLine:=by rw[zn];omega
 refine⟨λi m acc σ H2=>m=ys.length - i/\i<=ys.length/\Sσ σ/\Same H H2/\acc.length<=i/\Ai (λy v=>∀H',But D H2 H'->F D y v H') ((ys.take i).filter ab) acc,⟨ys.length,rfl,zK _,h0,iR hD,zK _,trivial⟩,?_⟩;rintro i m acc σ1 H2 ⟨rfl,hi,hσ,sm,ae,hF⟩ hA;by_cases aa:i<ys.length
 ·have hx:(ys.map f)[i]? =some (f ys[i]):=by simp[aa]
  refine .inr ⟨⟨ys.map f,f ys[i],sm.seq hS,hx⟩,λy H3 hy=>?_⟩;obtain rfl:H3=H2:=hy.1;obtain rfl:y=f ys[i]:=zy ((hy.2 _ (sm.seq hS)).symm.trans hx);have htk:ys.take (i+1)=ys.take i++[ys[i]]:=by rw[zI,zr aa];rfl
  refine hs D ys[i] (yT aa) σ1 H3 _ _ hσ sm hD ⟨_,hA⟩ (λhf v z H6 ac s6 ad=>?_) λhf z H6 ac s6=>?_
  ·refine⟨acc,s6 _ _ hA,by omega,ys.length - (i+1),by omega,rfl,aa,ac,(sm.trans s6).upd hD,by rw[zB];show acc.length+1<=_;omega,?_⟩
   rw[htk,yq,yc hf];exact Ai.snoc (Ai.imp hF λy v h H' hb=>h H' λb o q e=>hb b o q ((iZ q).trans (s6 _ _ e))) λH' hb=>ad H' λb o q e=>hb b o q ((iZ q).trans e)
  ·refine⟨ys.length - (i+1),by omega,acc,s6 _ _ hA,rfl,aa,ac,sm.trans s6,by omega,?_⟩
   rw[htk,yq,yd (by rw[hf];decide),List.filter_nil,yo];exact Ai.imp hF λy v h H' hb=>h H' λb o q e=>hb b o q (s6 _ _ e)
 ·obtain rfl:i=ys.length:=by omega
  rw[zT]at hF;exact .inl ⟨⟨_,sm.seq hS,by rw[za];exact zo _⟩,k D H2 acc hD sm hA (Ai.imp hF λy v h=>h H2 λb o _ e=>e)⟩
def Ze{α:Type}{f:α->V}{ys:List α}{a:Addr}{cap:List (Option Nat)}{g:TG}{te:TE}{σ:L2.St}{H:Hp}{Q:VK}(Sσ:L2.St->Prop)(F:Addr->α->V->Hp->Prop)(hS:SqL K H a (ys.map f))(h0:Sσ (qY σ cap))(hz:ys.length<=100000)
  (hs:∀D y,y∈ys->∀(σ:L2.St)(q:Hp)(R:L2.St->VK),Sσ σ->Same H q->H D=none->(∃acc,q D=some (.lst acc))->(∀v z H6,Sσ z->Same q H6->(∀H',But D H6 H'->F D y v H')->R z v H6)->g (f y) σ q λz H4=>te z H4 (R z))
  (k:∀D H' acc,H D=none->Same H H'->H' D=some (.lst acc)->Ai (λy v=>F D y v H') ys acc->Q (.ref D) H'):kI cap (Itl K a) g NK te σ H Q:=
 alz Sσ (λ_=>true) F hS h0 hz (λD y hy σ5 q R1 R2 hσ sm hD hA k1 k2=>by
  simp only[ap_noIf,if_true];exact hs D y hy σ5 q R1 hσ sm hD hA (k1 rfl)) λD H' acc hD sm hA hF=>k D H' acc hD sm hA (by rw[filter_all]at hF;exact hF)
def BkD.noM(k:BkD)(f:Str)(h:f∉["way", "rows", "last_place", "paid", "brought", "sales_done", "givings_done", "days", "layings"].map Str.ofString):List.lookup f k.fs=none:=by
 simp only[zi,zzu,zt,zf,or_false,not_or]at h;obtain⟨h1,h2,h3,h4,h5,z,h7,h8,h9⟩:=h;unfold BkD.fs BkD.xs
 have q:∀{g:String}{v:V}{r:List (Str×V)},f≠Str.ofString g->List.lookup f ((Str.ofString g,v)::r)=List.lookup f r:=fun{g v r} c=>by
  rw[yyg];rw[show(f==Str.ofString g)=false from beq_eq_false_iff_ne.mpr c]
 cases k.x with
 |none=>exact(q h1).trans ((q h2).trans ((q h3).trans ((q h4).trans ((q h5).trans ((q z).trans (q h7))))))
 |some y=>exact(q h1).trans ((q h2).trans ((q h3).trans ((q h4).trans ((q h5).trans ((q z).trans ((q h7).trans ((q h8).trans (q h9))))))))
def uE{H:Hp}{M:List Addr}{a:Addr}{o:HO}(h:vO H M a=some o):a∉M:=λc=>by
 unfold vO at h;rw[zl c]at h;cases h
noncomputable def jM.core(s:jM):Int×Int×Str×Int×SP5:=(s.n,s.d,s.w,s.pr,s.ps)
def vW(sl:List (Addr×jM)):(vL sl).length=sl.length:=by unfold vL;rw[za]
def jf.swap{H H':Hp}{b D dx:Addr}{k:BkD}{sl:List (Addr×jM)}(h:jf A H b k)(s:Same H H')(z:H D=none)(hl:H' D=some (.lst (vL sl)))(hS:∀t∈sl,lA A H' t.1 t.2/\t.2.pl≠D/\t.2.pl∉k.M b):
  Stp (k.M b) ({k with sales:=D,sl:=sl}.M b) H (upd H' b (.ins k.C dx {k with sales:=D}.fs))/\jf A (upd H' b (.ins k.C dx {k with sales:=D}.fs)) b {k with sales:=D,sl:=sl}:=by
 have hM:∀m∈{k with sales:=D,sl:=sl}.M b,m=D\/m∈k.M b:=λm hm=>by
  have hm:m∈[b,k.rows,D,k.givs]++k.xm:=hm;show m=D\/m∈[b,k.rows,k.sales,k.givs]++k.xm;simp only[zA,zt,zf,or_false]at hm⊢;rcases hm with(c|c|c|c)|c
  ·exact .inr (.inl (.inl c))
  ·exact .inr (.inl (.inr (.inl c)))
  ·exact .inl c
  ·exact .inr (.inl (.inr (.inr (.inr c))))
  ·exact .inr (.inr c)
 have ab:D≠b:=λe=>by obtain⟨dy,hb⟩:=h.i;rw[<-e,z]at hb;cases hb
 have st:Stp (k.M b) ({k with sales:=D,sl:=sl}.M b) H (upd H' b (.ins k.C dx {k with sales:=D}.fs)):=⟨λa o n e=>(iZ λc:a=b=>n (c▸BkD.mb)).trans (s _ _ e),λm hm=>(hM m hm).elim (λe=> .inr (e▸z)) .inl⟩;have n:∀{a:Addr}{o:HO},H a=some o->(∀C dx fs,o≠.ins C dx fs)->(upd H' b (.ins k.C dx {k with sales:=D}.fs)) a=some o:=λe f=>(iZ (h.neb e f)).trans (s _ _ e);have hB':=h.same s;have F:=h.z.same st.same;have g:∀{a:Addr}{o:HO},H' a=some o->a≠D->a∉k.M b->vO (upd H' b (.ins k.C dx {k with sales:=D}.fs)) ({k with sales:=D,sl:=sl}.M b) a=some o:=fun{a o} e c1 q=>sY ((iZ λc:a=b=>q (c▸BkD.mb)).trans e) λc=>(hM _ c).elim c1 q;refine⟨st,h.c,⟨dx,iK⟩,n h.r λ_ _ _ c=>(by cases c),(iZ ab).trans hl,n h.g λ_ _ _ c=>(by cases c),λy e=>?_,λc=>?_,⟨F.l,F.p,λt ht=>?_,F.g,F.y⟩⟩
 ·obtain⟨a,t⟩:=h.y y e
  exact⟨n a λ_ _ _ c=>(by cases c),fun(c:y.2.1=D)=>(by rw[c,z]at a;cases a),t.2⟩
 ·have:=h.g
  rw[<-show D=k.givs from c,z]at this;cases this
 ·obtain⟨⟨⟨dy,hi⟩,hp,hT,aa⟩,c1,q⟩:=hS t ht
  refine⟨⟨dy,g hi (λc=>by rw[c,hl]at hi;cases hi) (uE (hB'.ins hi))⟩,g hp c1 q,λr hr=>g (hT r hr) (λc=>?_) (uE (hB'.tup (hT r hr))),aa⟩;have:=hT r hr;rw[c,hl]at this;cases this
def jf.lay{H:Hp}{b la:Addr}{k:BkD}{g:Int}{zs ws:LY}(h:jf A H b k)(q:k.x=some (g,la,zs))(hw:∀t∈ws,vO H (k.M b) t.1=some (lyT t)):Stp (k.M b) ({k with x:=some (g,la,ws)}.M b) H (upd H la (.lst (DP ws)))/\jf A (upd H la (.lst (DP ws))) b {k with x:=some (g,la,ws)}:=by
 have hM:{k with x:=some (g,la,ws)}.M b=k.M b:=by unfold BkD.M BkD.xm;rw[q]
 have hm:la∈k.M b:=by unfold BkD.M BkD.xm;rw[q];exact zG _ zg
 obtain⟨y1,y2,y3⟩:=h.y _ q;have z:=pJ (H:=H) (o:=.lst (DP ws)) hm;have F:=h.z.same z.same;have n:∀{a:Addr}{o:HO},H a=some o->a≠la->(upd H la (.lst (DP ws))) a=some o:=λe f=>(iZ f).trans e;refine⟨by rw[hM];exact z,h.c.imp (λc=>by rw[q]at c;cases c.2) λc=>⟨c.1,λc=>by cases c⟩,?_,n h.r λc=>?_,n h.s (Ne.symm y2),n h.g (Ne.symm y3),λy e=>?_,h.d,?_⟩
 ·obtain⟨dx,e⟩:=h.i
  refine⟨dx,(n e λc=>by rw[c,y1]at e;cases e).trans ?_⟩;unfold BkD.fs BkD.xs;rw[q]
 ·have:=h.r
  rw[c,y1]at this;cases this
 ·cases e
  exact⟨iK,y2,y3⟩
 ·rw[hM]
  exact⟨F.l,F.p,F.s,F.g,λy e t ht=>by cases e;exact z.same _ _ (hw t ht)⟩
noncomputable def BkD.ll(k:BkD):Nat:=match k.x with
 |none=>0
 |some y=>y.2.2.length
noncomputable def jM.dat(s:jM):(Int×Int×Str×Int×SP5)×Option Int:=(s.core,s.lo)
noncomputable def Wu(k:BkD)(w:Str)(d:Int)(s:jM):Bool:=match k.x with
 |some y=>Qn s w d y.1
 |none=>false
noncomputable def Sh(k:BkD)(w:Str)(d n:Int)(s:jM):(Int×Int×Str×Int×SP5)×Option Int:=(s.core,if Wu k w d s=true then some n else s.lo)
noncomputable def ZK(k:BkD)(w:Str)(d:Int):Int:=((k.sl.filter λt=>Wu k w d t.2).map λt=> -(t.2.pr - t.2.co)).sum
noncomputable def alP(k:BkD)(w:Str)(d n:Int):List (Int×Int×Int):=(k.sl.filter λt=>Wu k w d t.2).map λt=>(t.2.n,n, -(t.2.pr - t.2.co))
noncomputable def amF(k:BkD)(w:Str)(d n:Int)(x':Option (Int×Addr×LY)):Prop:=(k.x=none->x'=none)/\∀y,k.x=some y->∃ts:LY,x'=some (y.1,y.2.1,y.2.2++ts)/\ts.map (·.2)=alP k w d n
def ahM{k:BkD}{w:Str}{d n:Int}(h:k.x=none):k.sl.map (λt=>t.2.dat)=k.sl.map (λt=>Sh k w d n t.2)/\ZK k w d=0:=by
 have q:∀s,Wu k w d s=false:=λs=>by unfold Wu;rw[h]
 refine⟨zZ λt _=>?_,?_⟩
 ·unfold Sh
  rw[q,ze (by decide)];rfl
 ·unfold ZK
  rw[List.filter_eq_nil_iff.mpr λt _=>by rw[q];decide];rfl
def ahI{k:BkD}{w:Str}{d n:Int}{sl:List (Addr×jM)}(h:sl.map (λt=>t.2.dat)=k.sl.map (λt=>Sh k w d n t.2)):sl.map (λt=>t.2.core)=k.sl.map (λt=>t.2.core):=by
 have:=congrArg (List.map Prod.fst) h
 rwa [zq,zq]at this
inductive Vs(A:Adr)(C:Addr)(z:Bool)(vs:List V)(H:Hp)(Q:VK)(E:XK):Prop
 |mk (b x:Addr) (k:BkD) (d n p r f:Int) (w:Str) (_:vs=[.ref b,.ref x]) (_:k.C=C) (_:k.x.isSome=z) (_:jf A H b k) (_:IsE A H x (.buy d n w p r f)) (_:k.sl.length<=100) (_:k.ll<=10000) (_:∀sa sl x' i H',Stp (k.M b) ({k with sales:=sa,sl:=sl,x:=x'}.M b) H H'->jf A H' b {k with sales:=sa,sl:=sl,x:=x'}->sl.map (λt=>t.2.dat)=k.sl.map (λt=>Sh k w d n t.2)->i=ZK k w d->amF k w d n x'->{k with sales:=sa,sl:=sl,x:=x'}.ll<=k.ll+100->Q (.int i) H'):Vs A C z vs H Q E
def KJ(T:Txt K mg A D):jQ P w K mg base CX0 1 A.abl D.abl ["self", "entry"] (Vs A A.acl false):=by
 refine T.ado.okv Kz λ_ _ _ _ H vs Q E hr h=>?_
 ·obtain⟨b,x,z,d,n,p,r,f,w,rfl,hC,hz,hB,hx,hl,aa,k⟩:=h
  refine⟨_,(iJ (jb iM)),?_⟩;walk_at "a";have q:z.x=none:=Option.isNone_iff_eq_none.mp (Option.isSome_eq_false_iff.mp hz);obtain⟨e1,e2⟩:=ahM (k:=z) (w:=w) (d:=d) (n:=n) q;exact k z.sales z.sl z.x 0 H (pA (same_refl _)) hB e1 e2.symm ⟨λc=>c,λy c=>by rw[q]at c;cases c⟩ (yD _ _)
def lA.but{H H':Hp}{D x:Addr}{s:jM}{xs:List V}(h:lA A H x s)(q:H D=some (.lst xs))(z:s.pl≠D)(b:But D H H'):lA A H' x s:=by
 obtain⟨dx,hi⟩:=h.i;refine⟨⟨dx,b _ _ (λe=>by rw[e,q]at hi;cases hi) hi⟩,b _ _ z h.p,λr hr=>?_,h.l⟩;have h1:=h.t r hr;exact b _ _ (λe=>by rw[e,q]at h1;cases h1) h1
theorem akX{H:Hp}{R:jM->Prop}{F:jM->(Int×Int×Str×Int×SP5)×Option Int}:∀{sl:List (Addr×jM)}{acc:List V},Ai (λt v=>∃y s,v=.ref y/\lA A H y s/\R s/\s.dat=F t.2) sl acc->∃q:List (Addr×jM),acc=vL q/\q.map (λt=>t.2.dat)=sl.map (λt=>F t.2)/\∀t∈q,lA A H t.1 t.2/\R t.2
 |[],[],_=>⟨[],rfl,rfl,λt h=>(zf h).elim⟩
 |t::sl,v::acc,h=>by
  obtain⟨⟨y,s,rfl,hs,hr,hc⟩,h2⟩:=h;obtain⟨q,e1,e2,e3⟩:=akX h2;refine⟨(y,s)::q,by rw[e1];rfl,by rw[zi,zi,e2,hc],λu z=>?_⟩;rcases zt.mp z with rfl|z
  ·exact⟨hs,hr⟩
  ·exact e3 u z
 |[],_::_,h=>h.elim
 |_::_,[],h=>h.elim
theorem akj{H:Hp}{F:jM->Int×Int×Int}:∀{sl:List (Addr×jM)}{acc:List V},Ai (λt v=>∃a,v=.ref a/\H a=some (lyT (a,F t.2))) sl acc->∃q:LY,acc=DP q/\q.map (·.2)=sl.map (λt=>F t.2)/\∀t∈q,H t.1=some (lyT t)
 |[],[],_=>⟨[],rfl,rfl,λt h=>(zf h).elim⟩
 |t::sl,v::acc,h=>by
  obtain⟨⟨a,rfl,ha⟩,h2⟩:=h;obtain⟨q,e1,e2,e3⟩:=akj h2;refine⟨(a,F t.2)::q,by rw[e1];rfl,by rw[zi,zi,e2],λu z=>?_⟩;rcases zt.mp z with rfl|z
  ·exact ha
  ·exact e3 u z
 |[],_::_,h=>h.elim
 |_::_,[],h=>h.elim
def VB(k:BkD)(a:Addr):Ef (Str.ofString "sales_done") (.ref a) k.fs={k with sales:=a}.fs:=by cases k;rfl
def Ae(T:Txt K mg A D):jQ P w K mg base CX0 5 A.abp D.abp ["self", "entry"] (Vs A A.acm true):=by
 refine T.ads.okv pX λ_ _ _ _ H vs Q E hr h=>?_
 ·obtain⟨b,x,kb,d,n,p,r,f,w,rfl,aj,hz,hB,hx,hl,an,k⟩:=h
  obtain⟨⟨g,la,zs⟩,hk⟩:=yF.mp hz;have hP:∀s,Wu kb w d s=Qn s w d g:=λs=>by unfold Wu;rw[hk]
  refine ⟨_,(iH (nC (i:=2) pX.nd rfl rfl (cap:=[none,some 0,some 1]) (N':=["sale", "self", "entry"]) rfl (by walk_at "c") (mC (K:=K) (fv K 0)) (λ_ _ _ _=>(iW (i:=0) (show(["sale", "self", "entry"]:List Str).Nodup from by decide+kernel) rfl orl orr)) (λ_ _ _ _=>(JD (qw (jy (pv 1) (mc T.afW T.agE (nZ T) hr (pD T) .nil) jB (pav 2 (pav 0 iI)))))) (λ_ _ _ _=>(pvD 0)))
   (iH (jh (pW (K:=K) zL PySem.F.slot_list_extend PySem.F.type_list_extend Oq (fv K 0) (iG (jW (cap:=[none,some 1]) (N':=["sale", "entry"]) rfl (by walk_at "c") (jD (K:=K) (pv 2)) (λ_ _ _ _=>(iW (i:=0) (show(["sale", "entry"]:List Str).Nodup from by decide+kernel) rfl orl orr)) (λ_ _ _ _=>jO) (λ_ _ _ _=>(nP (iG (fv K 0) (iG (fv K 1) (iG (ajZ Yz (lE (pv 0) (mc T.afH T.agt (rn T) hr (uV T) .nil) jB)) iI)))))) iI)))
   (iH (jo (K:=K) (pv 0) (jW (cap:=[none,some 0,some 1]) (N':=["sale", "self", "entry"]) rfl (by walk_at "c") (mC (K:=K) (fv K 0)) (λ_ _ _ _=>(iW (i:=0) (show(["sale", "self", "entry"]:List Str).Nodup from by decide+kernel) rfl orl orr)) (λ_ _ _ _=>jO) (λ_ _ _ _=>(xY (qw (jy (pv 1) (mc T.afW T.agE (nZ T) hr (pD T) .nil) jB (pav 2 (pav 0 iI)))) (pcg (Kd T) hr T.adr (Kw T) (pav 0 (iG (fv K 2) iI))) (pvD 0)))) rfl)
   (iJ (jb (jl (qC (K:=K) rfl) (by rfl) T.aer (by decide+kernel) (iG (jW (cap:=[none]) (N':=["sale"]) rfl (by walk_at "c") (jD (K:=K) (pv 2)) (λ_ _ _ _=>(iW (i:=0) nd1 rfl orl orr)) (λ_ _ _ _=>jO) (λ_ _ _ _=>(ajZ Yz (lE (pv 0) (mc T.afH T.agt (rn T) hr (uV T) .nil) jB)))) iI))))))),?_⟩
  obtain⟨db,hb⟩:=hB.i;have hC:=DX T hB;have bz:zs.length<=10000:=by unfold BkD.ll at an;rw[hk]at an;exact an
  simp only[start_eq];walk_at "m";refine rd hb hC.c hC.s (by rfl) ⟨kb.sales,rfl,⟨_,iT hB.s⟩,?_⟩;refine alz (f:=λt:Addr×jM=>V.ref t.1) (λσ=>∃a,σ=[a,some (.ref b),some (.ref x)]) (λt=>Qn t.2 w d g) (λ_ t v _=>v=.ref t.1) (iT hB.s) ⟨_,rfl⟩ (by omega) ?_ ?_
  ·rintro Da t ht σ H5 R1 R2 ⟨_,rfl⟩ sm hD hA k1 k2
   walk_at "i";obtain⟨aq,as⟩:=(hB.same sm).i;refine⟨_,aq,_,as,lw A,by rw[aj];exact zg,BkD.noM _ _ (by decide+kernel),b,x,t.1,kb,g,la,zs,t.2,d,n,p,r,f,w,rfl,hB.same sm,hk,hx.same sm,(hB.frz.s t ht).same sm,λH6 s6=>⟨_,rfl,?_⟩⟩
   cases e:Qn t.2 w d g with
   |true=>rw[zl rfl];exact k1 e _ _ H6 ⟨_,rfl⟩ s6 λ_ _=>rfl
   |false=>rw[ze (by decide)];exact k2 e _ H6 ⟨_,rfl⟩ s6
  ·intro D1 H1 bx bc s1 ab bq
   rw[Ai.map bq]at ab;have bb:(kb.sl.filter λt=>Qn t.2 w d g).length<=kb.sl.length:=yn _ _;have ai:∀t∈kb.sl.filter λt=>Qn t.2 w d g,t∈kb.sl:=λt h=>(z6.mp h).1;have hI:ZK kb w d=((kb.sl.filter λt=>Qn t.2 w d g).map λt=> -(t.2.pr - t.2.co)).sum:=by unfold ZK;simp only[hP]
   have hT:alP kb w d n=(kb.sl.filter λt=>Qn t.2 w d g).map λt=>(t.2.n,n, -(t.2.pr - t.2.co)):=by unfold alP;simp only[hP]
   generalize(kb.sl.filter λt=>Qn t.2 w d g)=tk at ab bb ai hI hT;have ao:=hB.same s1;obtain⟨b2,bh⟩:=ao.i;walk_at "m";refine rd bh (by rw[aj];exact T.afW) (by rw[aj];exact T.af5) (v:=.ref la) (by unfold BkD.fs BkD.xs;rw[hk];rfl) ⟨tyL (iT (ao.y _ hk).1),⟨_,iT ab⟩,?_⟩;refine Ze (f:=λt:Addr×jM=>V.ref t.1) (λσ=>∃a,σ=[a,some (.ref x)]) (λ_ t v H'=>∃a,v=.ref a/\H' a=some (lyT (a,t.2.n,n, -(t.2.pr - t.2.co)))) (iT ab) ⟨_,rfl⟩ (by omega) ?_ ?_
   ·rintro Da t ht σ H5 R ⟨_,rfl⟩ sm hD ⟨acc,hA⟩ kk
    have aa:=((hB.frz.s t (ai t ht)).same s1).same sm;obtain⟨dt,hi⟩:=aa.i;obtain⟨dx,nv,ar,_⟩:=(hx.same s1).same sm;walk_at "i";exact rd hi T.afH T.afI (by rfl) (rd ar T.ae1 T.ae4 (by rfl) (md hi zg (by rfl) ⟨t.1,t.2,rfl,aa,λH6 s6=>⟨_,rfl,sz,λp hp=>kk _ _ _ ⟨_,rfl⟩ (s6.trans (iR hp)) λH' hb=>⟨p,rfl,hb _ _ (λe=>by rw[e,s6 _ _ hA]at hp;cases hp) iK⟩⟩⟩))
   ·intro D2 H2 af b0 s2 bl ba
    have b4:=Ai.len ba;have ae:=ao.same s2;obtain⟨ts,au,bi,bu⟩:=akj (F:=λs=>(s.n,n, -(s.pr - s.co))) ba;refine⟨la,D2,DP zs,af,rfl,rfl,(ae.y _ hk).1,bl,by rw[zn,show(DP zs).length=zs.length from za _];omega,?_⟩;have bp:DP zs++af=DP (zs++ts):=by rw[au];unfold DP;rw[zj]
    rw[bp];have b3:af.length=ts.length:=by rw[au];exact za _
    obtain⟨o3,q⟩:=ae.lay hk (ws:=zs++ts) λt ht=>(zA.mp ht).elim (ae.z.y _ hk t) λh=>ae.tup (bu t h);have S2:=s1.trans s2;have ak:(upd H2 la (.lst (DP (zs++ts)))) D1=some (.lst (tk.map λt=>V.ref t.1)):=o3.k D1 _ (hB.fresh bc) (s2 _ _ ab);have aw:IsE A (upd H2 la (.lst (DP (zs++ts)))) x (.buy d n w p r f):=let⟨dx,nv,e,c⟩:=hx.same S2;⟨dx,nv,o3.k x _ (uE (ae.day e)) e,c⟩
    generalize upd H2 la (.lst (DP (zs++ts)))=H3 at o3 q ak aw;obtain⟨k3,ad⟩:∃k3,k3={kb with x:=some (g,la,zs++ts)}:=⟨_,rfl⟩;have bm:k3.C=A.acm:=by rw[ad];exact aj
    have bg:k3.x=some (g,la,zs++ts):=by rw[ad]
    have ap:k3.sl=kb.sl:=by rw[ad]
    have bd:∀{sa sl},{kb with sales:=sa,sl:=sl,x:=some (g,la,zs++ts)}={k3 with sales:=sa,sl:=sl}:=by rw[ad];exact rfl
    rw[<-ad]at o3 q;clear ad;rw[<-ap]at hl bb ai;have bo:kb.sl.map (λt=>Sh kb w d n t.2)=k3.sl.map (λt=>(t.2.core,if Qn t.2 w d g=true then some n else t.2.lo)):=by rw[ap];exact zZ λt _=>by unfold Sh;rw[hP]
    obtain⟨b5,bn⟩:=q.i;have ah:=DX T q;walk_at "m";refine rd bn ah.c ah.s (by rfl) ⟨k3.sales,rfl,⟨_,iT q.s⟩,?_⟩;refine Ze (f:=λt:Addr×jM=>V.ref t.1) (λσ=>∃a,σ=[a,some (.ref b),some (.ref x)]) (λDa t v H'=>∃y s,v=.ref y/\lA A H' y s/\(s.pl≠Da/\s.pl∉k3.M b)/\s.dat=(t.2.core,if Qn t.2 w d g=true then some n else t.2.lo)) (iT q.s) ⟨_,rfl⟩ (by omega) ?_ ?_
    ·rintro Da t ht σ H5 R ⟨_,rfl⟩ sm hD ⟨acc,hA⟩ kk
     have ac:=q.same sm;obtain⟨aq,as⟩:=ac.i;have ay:=q.frz.s t ht;have aa:=ay.same sm;have ax:=aw.same sm;walk_at "i";refine⟨_,aq,_,as,lw A,by rw[bm];exact zg,BkD.noM _ _ (by decide+kernel),b,x,t.1,k3,g,la,_,t.2,d,n,p,r,f,w,rfl,ac,bg,ax,aa,λH6 s6=>⟨_,rfl,?_⟩⟩
     cases e:Qn t.2 w d g with
     |true=>
      rw[zl rfl];obtain⟨dx,nv,ar,_⟩:=ax.same s6
      exact ⟨_,dx,_,ar,T.ae1,T.ae4,_,by rfl,t.1,t.2,n,rfl,aa.same s6,λy pl H7 s7 hy am be=>kk (.ref y) _ H7 ⟨_,rfl⟩ (s6.trans s7) λH' hb=>
       have ag:pl≠Da:=λc=>by rw[c,s6 _ _ hA]at am;cases am
       ⟨y,_,rfl,be.but (s7 _ _ (s6 _ _ hA)) ag hb,⟨ag,(ac.same s6).fresh am⟩,by rw[zl e];rfl⟩⟩
     |false=>
      rw[ze (by decide)];have ag:t.2.pl≠Da:=λc=>by have:=ay.p;rw[c,hD]at this;cases this
      exact kk (.ref t.1) _ H6 ⟨_,rfl⟩ s6 λH' hb=>⟨t.1,t.2,rfl,(aa.same s6).but (s6 _ _ hA) ag hb,⟨ag,uE (q.z.s t ht).p⟩,by rw[ze (by rw[e];decide)];rfl⟩
    ·intro D4 H4 bv bf s4 az br
     obtain⟨bk,e1,e2,e3⟩:=akX (R:=λs=>s.pl≠D4/\s.pl∉k3.M b) (F:=λs=>(s.core,if Qn s w d g=true then some n else s.lo)) br;rw[e1]at az;obtain⟨bs,bt⟩:=(q.same s4).i;refine sw bt ah.c ah.s (Vc _) (?_);rw[VB];obtain⟨o5,ac⟩:=q.swap s4 bf az (dx:=bs) λt ht=>e3 t ht;generalize upd H4 b _=H5 at o5 ac;have o:=(pA S2).trans (o3.trans o5);have al:=o5.k D1 _ (λc=>(o3.f D1 c).elim (hB.fresh bc) λz=>by rw[s2 _ _ ab]at z;cases z) ak;have aa:∀t∈tk,lA A H5 t.1 t.2:=λt ht=>(hB.z.s t (ap▸ai t ht)).same λa u h=>tZ _ _ (o.same _ _ h);refine⟨⟨_,iT al⟩,?_⟩;refine Ze (f:=λt:Addr×jM=>V.ref t.1) (λσ=>∃a,σ=[a]) (λ_ t v _=>v=.int (-(t.2.pr - t.2.co))) (iT al) ⟨_,rfl⟩ (by omega) ?_ ?_
     ·rintro Da t ht σ H6 R ⟨_,rfl⟩ sm hD hA kk
      obtain⟨dt,hi⟩:=((aa t ht).same sm).i;walk_at "i";exact md hi zg (by rfl) ⟨t.1,t.2,rfl,(aa t ht).same sm,λH7 s7=>⟨_,rfl,kk _ _ _ ⟨_,rfl⟩ s7 λ_ _=>rfl⟩⟩
     ·intro D6 H6 bw b1 s6 av bj
      rw[Ai.ints bj]at av;walk_at "a";refine⟨_,iT av,k D4 bk (some (g,la,zs++ts)) _ H6 ?_ ?_ (e2.trans bo.symm) hI.symm ⟨λc=>(by rw[hk]at c;cases c),λy c=>(by rw[hk]at c;cases c;exact⟨ts,rfl,bi.trans hT.symm⟩)⟩ ?_⟩
      ·rw[bd];exact o.trans (pA s6)
      ·rw[bd];exact ac.same s6
      ·unfold BkD.ll
       rw[hk];show(zs++ts).length<=zs.length+100;rw[zB];omega
def Ab(K:Fg_)(C:Addr):kitOne K (.ref C) (.ref C)=some true:=zl (by simp)
def alu(T:Txt K mg A D){H:Hp}{x:Addr}{e:Ent}(h:IsE A H x e):Kf K H (.ref x) (.ref (e.cls A)):=by
 obtain⟨dx,z,q,_⟩:=h
 cases e with
 |buy=>exact T.ae2.of q
 |sell=>exact T.afy.of q
 |gift=>exact T.afb.of q
 |give=>exact T.aeV.of q
 |split=>exact T.afj.of q
 |part=>exact T.afq.of q
def amS(T:Txt K mg A D)(e:Ent):kitOne K (.ref (e.cls A)) (.ref A.acf)=some (Be e)/\kitOne K (.ref (e.cls A)) (.ref A.acj)=some (rO e)/\kitOne K (.ref (e.cls A)) (.ref A.acg)=some (tL e)/\
  kitOne K (.ref (e.cls A)) (.ref A.ace)=some (rN e)/\kitOne K (.ref (e.cls A)) (.ref A.ach)=some (oZ e)/\kitOne K (.ref (e.cls A)) (.ref A.aci)=some (sX e):=by
 cases e with
 |buy=>obtain⟨a,b,c,d,f⟩:=T.ahn;exact⟨Ab _ _,a,b,c,d,f⟩
 |sell=>obtain⟨a,b,c,d,f⟩:=T.aho;exact⟨a,Ab _ _,b,c,d,f⟩
 |gift=>obtain⟨a,b,c,d,f⟩:=T.ahp;exact⟨a,b,Ab _ _,c,d,f⟩
 |give=>obtain⟨a,b,c,d,f⟩:=T.ahq;exact⟨a,b,c,Ab _ _,d,f⟩
 |split=>obtain⟨a,b,c,d,f⟩:=T.ahr;exact⟨a,b,c,d,Ab _ _,f⟩
 |part=>obtain⟨a,b,c,d,f⟩:=T.ahs;exact⟨a,b,c,d,f,Ab _ _⟩
noncomputable def Ent.oth:Ent->Str
 |.part _ _ _ u _ _=>u
 |e=>e.ware
noncomputable def ajB(c:Str->Int):Ent->Str->Int
 |.buy _ _ w p _ _,z=>if z=w then c w+p else c z
 |.gift _ _ w p _ _,z=>if z=w then c w+p else c z
 |.sell _ _ w p _ _ _,z=>if z=w then c w - p else c z
 |.give _ _ w p _,z=>if z=w then c w - p else c z
 |.split _ _ w m f,z=>if z=w then c w*m/f else c z
 |.part _ _ w u _ _,z=>if z=u then c u+c w else c z
noncomputable def aix(c:Str->Int):Ent->Prop
 |.sell _ _ w p _ _ _=>p<=c w
 |.give _ _ w p _=>p<=c w
 |.split _ _ w m f=>c w=0\/1<=c w*m/f
 |_=>True
noncomputable def runC(es:List Ent):Str->Int:=es.foldl ajB λ_=>0
def Dj(es:List Ent)(e:Ent):runC (es++[e])=ajB (runC es) e:=by unfold runC;rw[zzx];rfl
structure Us(W:List Str)(es:List Ent):Prop where
 g:∀e∈es,e.good/\e.lots=none/\e.ware∈W/\e.oth∈W
 f:∀(i:Nat) e,es[i]? =some e->aix (runC (es.take i)) e
def Us.nil{W:List Str}:Us W []:=⟨λe h=>(zf h).elim,λi e h=>by simp at h⟩
def Us.snoc{W:List Str}{es:List Ent}{e:Ent}(h:Us W es)(z:e.good/\e.lots=none/\e.ware∈W/\e.oth∈W)(hf:aix (runC es) e):Us W (es++[e]):=by
 refine⟨λd hd=>?_,λi d hi=>?_⟩
 ·rcases zA.mp hd with hd|hd
  ·exact h.g d hd
  ·rw[zu.mp hd];exact z
 ·by_cases c:i<es.length
  ·rw[z5 c]at hi
   rw[zzP (by omega)];exact h.f i d hi
  ·rw[z4 (by omega)]at hi
   have q:i - es.length=0:=by
    have:=(zp.mp hi).1;simp at this;omega
   rw[q]at hi;cases hi;rw[show i=es.length by omega,zzP (zo _),zT];exact hf
noncomputable def Big:Int:=1000000000*2000^40
def akH:Bd Big:=by unfold Bd Big;decide+kernel
def akM{c:Str->Int}{e:Ent}{M:Int}(hg:e.good)(hf:aix c e)(hM:0<=M)(h:∀z,0<=c z/\c z<=M)(z:Str):0<=ajB c e z/\ajB c e z<=1000*M+1000000000:=by
 have hz:=h z
 cases e with
 |buy d n w p r f=>
  have q:=hg.2.1;unfold Rg at q;have hw:=h w;show 0<=(if z=w then c w+p else c z)/\(if z=w then c w+p else c z)<=_;split<;>omega
 |gift d n w p r f=>
  have q:=hg.2.1;unfold Rg at q;have hw:=h w;show 0<=(if z=w then c w+p else c z)/\(if z=w then c w+p else c z)<=_;split<;>omega
 |sell d n w p r f o=>
  have q:=hg.2.1;unfold Rg at q;have hw:=h w;have hf:p<=c w:=hf;show 0<=(if z=w then c w - p else c z)/\(if z=w then c w - p else c z)<=_;split<;>omega
 |give d n w p o=>
  have q:=hg.2.1;unfold Rg at q;have hw:=h w;have hf:p<=c w:=hf;show 0<=(if z=w then c w - p else c z)/\(if z=w then c w - p else c z)<=_;split<;>omega
 |split d n w m f=>
  obtain⟨_,hm,aa⟩:=hg;unfold Rg at hm aa;have hw:=h w;have h1:0<=c w*m:=zzd hw.1 (by omega);have h2:c w*m<=M*1000:=Int.mul_le_mul hw.2 hm.2 (by omega) hM;have h3:0<=c w*m/f:=zzR h1 (by omega);have h4:c w*m/f<=c w*m:=Int.ediv_le_self _ h1;show 0<=(if z=w then c w*m/f else c z)/\(if z=w then c w*m/f else c z)<=_;split<;>omega
 |part d n w u s t=>
  have hw:=h w;have hu:=h u;show 0<=(if z=u then c u+c w else c z)/\(if z=u then c u+c w else c z)<=_;split<;>omega
theorem Us.bd{W:List Str}{es:List Ent}(h:Us W es):∀i,i<=es.length->∀z,0<=runC (es.take i) z/\runC (es.take i) z<=1000000000*2000^i
 |0,_,z=>by rw[zz4];exact⟨zze _,show(0:Int)<=_ by decide⟩
 |i+1,hi,z=>by
  have ih:=h.bd i (by omega);obtain⟨e,q⟩:∃e,es[i]? =some e:=⟨_,zr (by omega)⟩;have hp:(1:Int)<=2000^i:=Int.pow_pos (by decide);rw[zI,q];show 0<=runC (es.take i++[e]) z/\runC (es.take i++[e]) z<=_;rw[Dj];have h2:=akM (h.g e (zh q)).1 (h.f i e q) (by omega) ih z;rw[Int.pow_succ];omega
def Us.big{W:List Str}{es:List Ent}(h:Us W es)(q:es.length<=40){i:Nat}(hi:i<=es.length)(z:Str):Bd (runC (es.take i) z):=by
 have h1:=h.bd i hi z;refine akH.of h1.1 (Int.le_trans h1.2 ?_)
 have:(2000:Int)^i<=2000^40:=by
  have:=yr (n:=2000) (by decide) (show i<=40 by omega)
  exact_mod_cast this
 unfold Big;omega
def jf.lm{H:Hp}{b:Addr}{k:BkD}(h:jf A H b k):∃z,(k.C,Vs A k.C z)∈[(A.acl,Vs A A.acl false),(A.acm,Vs A A.acm true)]/\k.x.isSome=z:=by
 rcases h.c with⟨e,c⟩|⟨e,c⟩
 ·exact⟨false,by rw[e];exact zg,by rw[c];rfl⟩
 ·exact⟨true,by rw[e];exact zk _ zg,Option.isSome_iff_ne_none.mpr c⟩
def aiS(k:BkD)(w:Str)(d:Int):0<=ZK k w d:=by
 unfold ZK;refine oE λx q=>?_;obtain⟨t,z,rfl⟩:=zb.mp q;have h:=(z6.mp z).2;unfold Wu at h;split at h
 ·unfold Qn jM.opn at h
  simp only[yJ,decide_eq_true_eq]at h;have:=h.1.2;omega
 ·cases h
inductive Ax(A:Adr)(vs:List V)(H:Hp)(Q:VK)(E:XK):Prop
 |mk (b x:Addr) (k:BkD) (ns:List Int) (W:List Str) (d n p r f:Int) (w:Str) (_:vs=[.ref b,.ref x]) (_:jf A H b k) (_:IsE A H x (.buy d n w p r f)) (_:1<=p) (_:0<=p*r+f) (_:n∈ns) (_:Nz ns W k.rs) (_:W.length<=50) (_:ns.length<=61) (_:k.sl.length<=100) (_:k.ll<=10000) (_:∀sa sl x' q ms H',Stp (k.M b) ({k with sales:=sa,sl:=sl,x:=x'}.M b) H H'->jf A H' b {k with sales:=sa,sl:=sl,x:=x',rs:=keepR k.rs w q ms,paid:=k.paid+(p*r+f)}->sl.map (λt=>t.2.dat)=k.sl.map (λt=>Sh k w d n t.2)->amF k w d n x'->{k with sales:=sa,sl:=sl,x:=x'}.ll<=k.ll+100->Shp ns ms->pcs ms=pcs (rowOf k.rs w)+p->jX ms=jX (rowOf k.rs w)+(p*r+f+ZK k w d)->Q .non H'):Ax A vs H Q E
def Bf(T:Txt K mg A D):jQ P w K mg base CX0 6 A.abq D.abq ["self", "entry"] (Ax A):=by
 refine T.adt.okv Ak λ_ _ _ _ H vs Q E hr h=>?_
 ·obtain⟨b,x,kb,ns,W,d,n,p,r,f,w,rfl,hB,hE,hp,ar,hn,hO,hW,hN,ao,am,k⟩:=h
  have ai:=hE;obtain⟨dx,nv,hx,_⟩:=ai
  refine ⟨_,(iH (iY (i:=2) Ak.nd rfl orl (jc kh (fv K 1) (jy (pv 0) (mc T.afO T.agH (KJ T) hr (Mx T) (mc T.afW T.agI (Ae T) hr (Bm T) .nil)) jB (pav 1 iI))))
   (iH (jh (jy (pv 0) (mc T.afO T.agF (oM T) hr (qg T) (mc T.afW T.agG (oM T) hr (qg T) .nil)) jB (iG (fv K 1) (iG (jV (iG (lK T.agm (jR (K:=K) T) (hr.mono (by decide)) (by rfl) T.aeG (jY T) .nil jB (iG (fv K 1) (iG (fv K 1) (iG (fv K 1) (pav 2 iI))))) iI)) iI))))
   (iJ (jo (K:=K) (pv 0) (jc kh (fv K 0) (fv K 1)) rfl)))),?_⟩
  obtain⟨db,hb⟩:=hB.i;have hz:=hO.len;obtain⟨z,hm,aj⟩:=hB.lm;simp only[start_eq];walk_at "m";refine rd hx T.ae1 T.ae9 (by rfl) (md hb hm (kb.noM _ (by decide+kernel)) ⟨b,x,kb,d,n,p,r,f,w,rfl,rfl,aj,hB,hE,ao,am,λsa sl x' i H1 o1 ad e1 ei ex e2=>?_⟩);refine⟨_,rfl,_,rfl,?_⟩;have aa:=o1.k x _ (uE (hB.day hx)) hx;obtain⟨aq,an⟩:=ad.i;walk_at "m";refine md an ad.me (BkD.noM _ _ (by decide+kernel)) (rd aa T.ae1 T.ae5 (by rfl) (rd aa T.ae1 T.ae4 (by rfl) (rd aa T.ae1 T.ae3 (by rfl) (rd aa T.ae1 T.ae6 (by rfl) (λy dy hy ap _=>?_)))));refine pZ (A:=A) ⟨n,d,p,_⟩ hy ap λH2 s1 hL=>⟨sz,λq hq=>?_⟩;have s2:=s1.trans (iR (o:=.lst [.ref y]) hq);have af:(upd H2 q (.lst [.ref y])) q=some (.lst (jt [(y,⟨n,d,p,p*r+f+i⟩)])):=iK;have ag:=hL.same (iR (o:=.lst [.ref y]) hq);generalize upd H2 q (HO.lst [.ref y])=H3 at s2 af ag⊢;have ae:=ad.same s2;refine⟨b,q,w,_,[(y,⟨n,d,p,p*r+f+i⟩)],ns,rfl,ae,af,amy ag,λl hl=>by rw[zu.mp hl];exact⟨hp,hn,by have:=aiS kb w d;show 0<=p*r+f+i;omega⟩,hO.row w,hN,(show kb.rs.length<=50 by omega),λq' ms H4 o4 ab g1 g2 gc=>?_⟩;have ak:=o4.k x _ (uE (ae.day (s2 _ _ aa))) (s2 _ _ aa);obtain⟨al,ah⟩:=ab.i;have ac:=DX T ab
  try dsimp only
  refine rd ah ac.c ac.p (by rfl) (rd ak T.ae1 T.ae9 (by rfl) ⟨_,rfl,_,rfl,_,al,_,ah,ac.c,ac.p,Vc _,?_⟩);rw[Yw];exact k sa sl x' q' ms _ (o1.trans ((pA s2).trans (o4.trans (pJ BkD.mb)))) (ab.put (la:=kb.last) (pa:=kb.paid+(p*r+f)) (br:=kb.brought) ab.z.p) e1 ex e2 g1 (by rw[g2];unfold pcs;simp) (by rw[gc,<-ei];unfold jX;simp)
noncomputable def Ag(W:List Str)(rs:RW):Int:=(W.map λz=>jX (rowOf rs z)).sum
theorem ait{f:Str->Int}{w:Str}{a:Int}:∀{W:List Str},W.Nodup->w∈W->(W.map λz=>if z=w then a else f z).sum=(W.map f).sum - f w+a
 |z::W,q,hw=>by
  have q:=zR.mp q;rw[zi,zi,zF,zF];by_cases c:z=w
  ·subst c
   rw[zl rfl,zZ (g:=f) λx hx=>ze fun(e:x=z)=>q.1 (e▸hx)];omega
  ·rw[ze c,ait q.2 ((zt.mp hw).resolve_left λe=>c e.symm)]
   omega
def oR{W:List Str}(hu:W.Nodup){rs:RW}{w:Str}{q:Addr}{ms:RL}(hw:w∈W):Ag W (keepR rs w q ms)=Ag W rs - jX (rowOf rs w)+jX ms:=by
 unfold Ag;rw[<-ait (f:=λz=>jX (rowOf rs z)) hu hw];congr 1;refine zZ λz _=>?_;rw[qi];split<;>rfl
theorem Yl:∀{l:List Int}{x:Int},(∀y∈l,0<=y)->x∈l->x<=l.sum
 |y::l,x,h,hx=>by
  have h1:=oE (l:=l) λz q=>h z (.tail _ q);have h2:=h y (.head _);rw[zF];rcases zt.mp hx with rfl|hx
  ·omega
  ·have:=Yl (λz q=>h z (.tail _ q)) hx
   omega
def Bd.sm{i:Int}(h1: -1000000000000000000000000000000<=i)(h2:i<=1000000000000000000000000000000):Bd i:=⟨Int.lt_of_lt_of_le (by decide+kernel) h1,Int.lt_of_le_of_lt h2 (by decide+kernel)⟩
abbrev ajD:=(Int×Int×Str×Int×SP5)×Option Int
noncomputable def coD(c:ajD):Int:=(c.1.2.2.2.2.map λr=>r.2.1.c).sum
noncomputable def prD(c:ajD):Int:=c.1.2.2.2.1
noncomputable def Bp(c:ajD):Int:=if c.2=none then 0 else -(prD c - coD c)
noncomputable def KY(k:BkD):Int:=(k.sl.map λt=>coD t.2.dat).sum
noncomputable def Ld(k:BkD):Int:=(k.sl.map λt=>Bp t.2.dat).sum
noncomputable def Wx(k:BkD):Int:=(k.gv.map λt=>jX t.2.2.2).sum
noncomputable def aiV:Ent->Int
 |.buy _ _ _ p r f=>p*r+f
 |_=>0
noncomputable def amn:Ent->Int
 |.gift _ _ _ _ c _=>c
 |_=>0
structure Bal(W:List Str)(es:List Ent)(k:BkD):Prop where
 b:Ag W k.rs+KY k+Wx k=k.paid+k.brought+Ld k
 p:k.paid=(es.map aiV).sum
 r:k.brought=(es.map amn).sum
def xT(f:Ent->Int)(es:List Ent)(e:Ent):((es++[e]).map f).sum=(es.map f).sum+f e:=by simp
theorem TV{k:BkD}{w:Str}{d n:Int}:∀(sl:List (Addr×jM)),(sl.map λt=>Bp (Sh k w d n t.2)).sum=(sl.map λt=>Bp t.2.dat).sum+((sl.filter λt=>Wu k w d t.2).map λt=> -(t.2.pr - t.2.co)).sum
 |[]=>rfl
 |t::sl=>by
  have q:=TV (k:=k) (w:=w) (d:=d) (n:=n) sl;rw[zi,zi,zF,zF,q,zzH]
  cases e:Wu k w d t.2 with
  |false=>
   rw[ze (by decide)];have:Sh k w d n t.2=t.2.dat:=by unfold Sh;rw[e,ze (by decide)];rfl
   rw[this];omega
  |true=>
   rw[zl rfl,zi,zF]
   have h1:Bp (Sh k w d n t.2)= -(t.2.pr - t.2.co):=by
    unfold Sh;rw[e,zl rfl];rfl
   have z:t.2.lo=none:=by
    unfold Wu at e;split at e
    ·unfold Qn jM.opn at e
     simp only[yJ,decide_eq_true_eq]at e;exact e.1.1
    ·cases e
   have h2:Bp t.2.dat=0:=by
    unfold Bp jM.dat;rw[z,zl rfl]
   rw[h1,h2];omega
def YC{f:ajD->Int}{sl:List (Addr×jM)}{k:BkD}{w:Str}{d n:Int}(e:sl.map (λt=>t.2.dat)=k.sl.map (λt=>Sh k w d n t.2)):(sl.map λt=>f t.2.dat)=k.sl.map λt=>f (Sh k w d n t.2):=by
 have:=congrArg (List.map f) e;rw[zq,zq]at this;exact this
theorem Bal.buy{W:List Str}(hu:W.Nodup){es:List Ent}{k:BkD}{d n p r f:Int}{w:Str}(h:Bal W es k)(hw:w∈W){sa q:Addr}{sl:List (Addr×jM)}{x':Option (Int×Addr×LY)}{z:RL}(e1:sl.map (λt=>t.2.dat)=k.sl.map (λt=>Sh k w d n t.2))(hc:jX z=jX (rowOf k.rs w)+(p*r+f+ZK k w d)):
  Bal W (es++[.buy d n w p r f]) {k with sales:=sa,sl:=sl,x:=x',rs:=keepR k.rs w q z,paid:=k.paid+(p*r+f)}:=by
 have s1:(sl.map λt=>coD t.2.dat)=k.sl.map λt=>coD t.2.dat:=YC (f:=coD) e1;have s3:(sl.map λt=>Bp t.2.dat).sum=Ld k+ZK k w d:=by rw[YC (f:=Bp) e1];exact TV k.sl
 refine⟨?_,?_,?_⟩
 ·show Ag W (keepR k.rs w q z)+(sl.map λt=>coD t.2.dat).sum+Wx k=k.paid+(p*r+f)+k.brought+(sl.map λt=>Bp t.2.dat).sum
  rw[oR hu hw,s1,s3,hc];have:=h.b;unfold KY at this;omega
 ·rw[xT,<-h.p];rfl
 ·rw[xT,<-h.r];show k.brought=k.brought+0;omega
def Bal.alike{W:List Str}{es:List Ent}{k q:BkD}{e:Ent}(h:Bal W es k)(h1:aiV e=0)(h2:amn e=0)(z:q.paid=k.paid)(e2:q.brought=k.brought)(e3:Ag W q.rs+KY q+Wx q - Ld q=Ag W k.rs+KY k+Wx k - Ld k):Bal W (es++[e]) q:=by
 refine⟨?_,?_,?_⟩
 ·rw[z,e2];have:=h.b;omega
 ·rw[xT,<-h.p,h1,z];omega
 ·rw[xT,<-h.r,h2,e2];omega
theorem Bal.gift{W:List Str}(hu:W.Nodup){es:List Ent}{k:BkD}{d n p c s:Int}{w:Str}(h:Bal W es k)(hw:w∈W){q:Addr}{z:RL}(hc:jX z=jX (rowOf k.rs w)+c):Bal W (es++[.gift d n w p c s]) {k with rs:=keepR k.rs w q z,brought:=k.brought+c}:=by
 refine⟨?_,?_,?_⟩
 ·show Ag W (keepR k.rs w q z)+KY k+Wx k=k.paid+(k.brought+c)+Ld k
  rw[oR hu hw,hc];have:=h.b;omega
 ·rw[xT,<-h.p];show k.paid=k.paid+0;omega
 ·rw[xT,<-h.r];rfl
theorem Bal.split{W:List Str}(hu:W.Nodup){es:List Ent}{k:BkD}{d n m f:Int}{w:Str}(h:Bal W es k)(hw:w∈W){q:Addr}{z:RL}(hc:jX z=jX (rowOf k.rs w)):Bal W (es++[.split d n w m f]) {k with rs:=keepR k.rs w q z}:=
 h.alike rfl rfl rfl rfl (by show Ag W (keepR k.rs w q z)+KY k+Wx k - Ld k=_;rw[oR hu hw,hc];omega)
theorem Bal.part{W:List Str}(hu:W.Nodup){es:List Ent}{k:BkD}{d n s t:Int}{w u:Str}(h:Bal W es k)(hw:w∈W)(aa:u∈W)(z:w≠u){q1 q:Addr}{l1 ms:RL}(hc:jX l1+jX ms=jX (rowOf k.rs w)+jX (rowOf k.rs u)):Bal W (es++[.part d n w u s t]) {k with rs:=keepR (keepR k.rs w q1 l1) u q ms}:=
 h.alike rfl rfl rfl rfl (by show Ag W (keepR (keepR k.rs w q1 l1) u q ms)+KY k+Wx k - Ld k=_;rw[oR hu aa,oR hu hw,qi,ze (λc=>z c.symm)];omega)
theorem Bal.sell{W:List Str}(hu:W.Nodup){es:List Ent}{k:BkD}{d n p r f:Int}{w:Str}{o:Option Rs}(h:Bal W es k)(hw:w∈W){q y:Addr}{s:jM}{z:RL}(hl:s.lo=none)(hc:s.co+jX z=jX (rowOf k.rs w)):Bal W (es++[.sell d n w p r f o]) {k with rs:=keepR k.rs w q z,sl:=k.sl++[(y,s)]}:=by
 have a1:∀g:ajD->Int,((k.sl++[(y,s)]).map λt=>g t.2.dat).sum=(k.sl.map λt=>g t.2.dat).sum+g s.dat:=λg=>by simp
 have l0:Bp s.dat=0:=by unfold Bp jM.dat;rw[hl,zl rfl]
 have c0:coD s.dat=s.co:=rfl;refine h.alike rfl rfl rfl rfl ?_;show Ag W (keepR k.rs w q z)+((k.sl++[(y,s)]).map λt=>coD t.2.dat).sum+Wx k - ((k.sl++[(y,s)]).map λt=>Bp t.2.dat).sum=_;rw[oR hu hw,a1,a1,l0,c0];unfold KY Ld;omega
theorem Bal.give{W:List Str}(hu:W.Nodup){es:List Ent}{k:BkD}{d n p:Int}{w:Str}{o:Option Rs}(h:Bal W es k)(hw:w∈W){q:Addr}{g:Addr×Int×Addr×RL}{z:RL}(hc:jX g.2.2.2+jX z=jX (rowOf k.rs w)):Bal W (es++[.give d n w p o]) {k with rs:=keepR k.rs w q z,gv:=k.gv++[g]}:=by
 refine h.alike rfl rfl rfl rfl ?_;show Ag W (keepR k.rs w q z)+KY k+((k.gv++[g]).map λt=>jX t.2.2.2).sum - Ld k=_;rw[oR hu hw];have e:((k.gv++[g]).map λt=>jX t.2.2.2).sum=Wx k+jX g.2.2.2:=by unfold Wx;simp
 omega
theorem Ox:∀{sl:List (Addr×jM)},(∀c∈sl.map (λt=>t.2.core),0<=(c.2.2.2.2.map λr=>r.2.1.c).sum/\ -1000000000<=c.2.2.2.1)->(sl.map λt=>Bp t.2.dat).sum - (sl.map λt=>coD t.2.dat).sum<=sl.length*1000000000
 |[],_=>by simp
 |t::sl,h=>by
  have h1:=h _ (.head _);have h2:=Ox (sl:=sl) λc q=>h c (.tail _ q)
  have z:Bp t.2.dat - coD t.2.dat<=1000000000:=by
   have a:0<=coD t.2.dat:=h1.1;have b: -1000000000<=prD t.2.dat:=h1.2;unfold Bp;split<;>omega
  rw[zi,zi,zF,zF,zE];omega
structure StB(W:List Str)(ns:List Int)(es:List Ent)(k:BkD):Prop where
 r:Nz ns W k.rs
 c:∀z,pcs (rowOf k.rs z)=runC es z
 n:(k.sl.map λt=>t.2.core.1).Sublist (es.map Ent.num)
 p:∀c∈k.sl.map (λt=>t.2.core),(0<=(c.2.2.2.2.map λr=>r.2.1.c).sum/\ -1000000000<=c.2.2.2.1)/\(c.2.2.2.2.map λr=>r.2.1.c).sum<=1000000000000000000000/\c.2.2.2.1<=1000000000000000000
 g:∀t∈k.gv,0<=jX t.2.2.2
 v:k.gv.length<=es.length
 l:k.ll<=100*es.length
 o:∀c∈k.sl.map (λt=>t.2.dat),∀i,c.2=some i->0<=i/\i<=1000000
 e:∀x∈es,x.good
 bal:Bal W es k
theorem StB.sl{W:List Str}{ns:List Int}{es:List Ent}{k:BkD}(h:StB W ns es k):k.sl.length<=es.length:=by have:=h.n.length_le;rwa [za,za]at this
def StB.cost{W:List Str}{ns:List Int}{es:List Ent}{k:BkD}(h:StB W ns es k)(hl:es.length<=40)(z:Str):0<=jX (rowOf k.rs z)/\jX (rowOf k.rs z)<=1000000000000000000000:=by
 have h0:=λz=>Cj (h.r.row z).c;refine⟨h0 z,?_⟩
 have h1:jX (rowOf k.rs z)<=Ag W k.rs:=by
  have nn:∀y∈W.map (λz=>jX (rowOf k.rs z)),0<=y:=λy hy=>by
   obtain⟨x,_,rfl⟩:=zb.mp hy;exact h0 x
  rcases alD k.rs z with⟨t,ht,e,_⟩|⟨_,e,_⟩
  ·exact Yl nn (zb.mpr ⟨z,e▸h.r.w t ht,rfl⟩)
  ·rw[e]
   exact oE nn
 have h2:=h.bal.b;have h3:=Ox λc hc=>(h.p c hc).1
 have h4:0<=Wx k:=oE λx hx=>by
  obtain⟨t,ht,rfl⟩:=zb.mp hx;exact h.g t ht
 have h5:k.paid<=es.length*1000000001000000000:=by
  rw[h.bal.p,<-za (f:=aiV)];refine Zc λx hx=>?_;obtain⟨e,he,rfl⟩:=zb.mp hx;have q:=h.e e he
  cases e with
  |buy d n w p r f=>
   have:=Tp ⟨by have:=q.2.1.1;omega,q.2.1.2⟩ q.2.2.1;have h7:=q.2.2.2;unfold Rg at this h7;show p*r+f<=_;omega
  |_=>show(0:Int)<=_;decide
 have h6:k.brought<=es.length*1000000000000000000:=by
  rw[h.bal.r,<-za (f:=amn)];refine Zc λx hx=>?_;obtain⟨e,he,rfl⟩:=zb.mp hx;have q:=h.e e he
  cases e with
  |gift d n w p c s=>exact q.2.2.1.2
  |_=>show(0:Int)<=_;decide
 have h7:=h.sl;unfold KY Ld at h2;omega
structure Can(A:Adr)(H:Hp)(W:List Str)(ns:List Int)(es:List Ent)(k:BkD)(e:Ent):Prop where
 s:StB W ns es k
 l:es.length<=40
 nl:ns.length<=61
 u:W.Nodup/\W.length<=6
 g:e.good/\e.lots=none/\e.ware∈W/\e.oth∈W
 n:e.num∈ns
 f:aix (runC es) e
 m:∀z,Bd (runC es z)
 w:∃Cw dw,H k.way=some (.ins Cw dw [])/\SQ A Cw
def aio(k:BkD):(k.sl.map λt=>t.2.core.1)=(k.sl.map λt=>t.2.core).map (·.1):=by rw[zq];rfl
def StB.next{W:List Str}{ns:List Int}{es:List Ent}{k q:BkD}{e:Ent}(h:StB W ns es k)(he:e.good)(hr:Nz ns W q.rs)(hc:∀z,pcs (rowOf q.rs z)=ajB (λz=>pcs (rowOf k.rs z)) e z)(hs:q.sl.map (λt=>t.2.core)=k.sl.map (λt=>t.2.core))(ho:∀c∈q.sl.map (λt=>t.2.dat),∀i,c.2=some i->0<=i/\i<=1000000)(hg:∀t∈q.gv,0<=jX t.2.2.2)(hv:q.gv.length<=k.gv.length+1)(hl:q.ll<=k.ll+100)(hb:Bal W (es++[e]) q):StB W ns (es++[e]) q:=by
 refine⟨hr,λz=>?_,?_,?_,hg,?_,?_,ho,λx hx=>?_,hb⟩
 ·rw[hc,Dj,show(λz=>pcs (rowOf k.rs z))=runC es from funext h.c]
 ·rw[aio,hs,<-aio,zj]
  exact h.n.trans (List.sublist_append_left _ _)
 ·rw[hs];exact h.p
 ·have:=h.v;rw[zB];show _<=es.length+1;omega
 ·have:=h.l;rw[zB];show _<=100*(es.length+1);omega
 ·rcases zA.mp hx with hx|hx
  ·exact h.e x hx
  ·rw[zu.mp hx];exact he
inductive rA(A:Adr)(vs:List V)(H:Hp)(Q:VK)(E:XK):Prop
 |mk (b x:Addr) (k:BkD) (e:Ent) (es:List Ent) (W:List Str) (ns:List Int) (_:vs=[.ref b,.ref x]) (_:jf A H b k) (_:IsE A H x e) (_:Can A H W ns es k e) (_:∀k' H',jf A H' b k'->Stp (k.M b) (k'.M b) H H'->StB W ns (es++[e]) k'->k'.C=k.C->k'.way=k.way->Q .non H'):rA A vs H Q E
def rJ(T:Txt K mg A D):jQ P w K mg base CX0 8 A.abQ D.abQ ["self", "entry"] (rA A):=by
 refine T.adS.okv Dk λ_ _ _ _ H vs Q E hr h=>?_
 ·obtain⟨b,x,kb,e,es,W,ns,rfl,hB,hE,hC,k⟩:=h
  obtain⟨db,hb⟩:=hB.i;refine⟨_,(iJ (kE (qw (jl (ug (K:=K)) (by rfl) T.aem (by decide+kernel) (pav 1 (iG (lQ (v:=V.ref A.acf) (by rfl) T.aey rfl) iI)))) (iJ (jh (jy (pv 0) (mc T.afO T.agV (Bf T) hr (Dg T) (mc T.afW T.agW (Bf T) hr (Dg T) .nil)) jB (pav 1 iI)))) (iJ (kE (qw (jl (ug (K:=K)) (by rfl) T.aem (by decide+kernel) (pav 1 (iG (lQ (v:=V.ref A.acg) (by rfl) T.aez rfl) iI)))) (iJ (jh (jy (pv 0) (mc T.afO T.agX (xO T) hr (Ao T) (mc T.afW T.agY (xO T) hr (Ao T) .nil)) jB (pav 1 iI)))) (iJ (kE (qw (jl (ug (K:=K)) (by rfl) T.aem (by decide+kernel) (pav 1 (iG (lQ (v:=V.ref A.acj) (by rfl) T.aeC rfl) iI)))) (iJ (jh (jy (pv 0) (mc T.afO T.agZ (wF T) hr (Ba T) (mc T.afW T.ag0 (wF T) hr (Ba T) .nil)) jB (pav 1 iI)))) (iJ (kE (qw (jl (ug (K:=K)) (by rfl) T.aem (by decide+kernel) (pav 1 (iG (lQ (v:=V.ref A.ace) (by rfl) T.aex rfl) iI)))) (iJ (jh (jy (pv 0) (mc T.afO T.ag1 (wH T) hr (Av T) (mc T.afW T.ag2 (wH T) hr (Av T) .nil)) jB (pav 1 iI)))) (iJ (kE (qw (jl (ug (K:=K)) (by rfl) T.aem (by decide+kernel) (pav 1 (iG (lQ (v:=V.ref A.ach) (by rfl) T.aeA rfl) iI)))) (iJ (jh (jy (pv 0) (mc T.afO T.ag3 (uZ T) hr (xF T) (mc T.afW T.ag4 (uZ T) hr (xF T) .nil)) jB (pav 1 iI)))) (iJ (kE (qw (jl (ug (K:=K)) (by rfl) T.aem (by decide+kernel) (pav 1 (iG (lQ (v:=V.ref A.aci) (by rfl) T.aeB rfl) iI)))) (iJ (jh (jy (pv 0) (mc T.afO T.ag5 (rF T) hr (tQ T) (mc T.afW T.ag6 (rF T) hr (tQ T) .nil)) jB (pav 1 iI)))) jn)))))))))))),?_⟩;have ty:=alu T hE;obtain⟨k1,k2,k3,k4,k5,k6⟩:=amS T e;obtain⟨hg,ho,hw,hu⟩:=hC.g;have hS:=hC.s;have hl:=hC.l;have ai:=hS.sl;have ah:=hS.l;have af:=hS.v;have w3:W.length<=50:=by have:=hC.u.2;omega
  have hU:=hC.u.1;have ae:∀z,Bd (jX (rowOf kb.rs z)):=λz=>Bd.sm (by have:=(hS.cost hl z).1;omega) (by have:=(hS.cost hl z).2;omega);have hf:=hC.f;have hm:=hC.m;rw[<-show(λz=>pcs (rowOf kb.rs z))=runC es from funext hS.c]at hf hm;have nf:∀f:Str,f∉["way", "rows", "last_place", "paid", "brought", "sales_done", "givings_done", "days", "layings"].map Str.ofString->List.lookup f kb.fs=none:=λf=>kb.noM f
  have ab:∀{rs:RW}{z:Str}{q:Addr}{ms:RL}{y:Str},rs=keepR kb.rs z q ms->pcs (rowOf rs y)=if y=z then pcs ms else pcs (rowOf kb.rs y):=fun{rs z q ms y} e=>by
   rw[e,qi];split<;>rfl
  simp only[start_eq]
  cases e with
  |buy d n w p r f=>
   dsimp only[Be,rO,tL,rN,oZ,sX]at k1 k2 k3 k4 k5 k6;refine sc1 rfl ty k1 ?_;walk_at "i";refine md hb hB.me (nf _ (by decide+kernel)) ⟨b,x,kb,ns,W,d,n,p,r,f,w,rfl,hB,hE,hg.2.1.1,?_,hC.n,hS.r,w3,hC.nl,by omega,by omega,λsa sl x' q ms H' o aa e1 ex e2 e3 e4 ec=>k _ H' aa o (hS.next hg (hS.r.keep hw e3) (λz=>?_) (ahI e1) (λc hc i ei=>?_) hS.g (yz _) e2 (hS.bal.buy hU hw e1 ec)) rfl rfl⟩
   ·have h7:=Tp ⟨by have:=hg.2.1.1;omega,hg.2.1.2⟩ hg.2.2.1
    have h8:=hg.2.2.2;unfold Rg at h7 h8;omega
   ·rw[ab rfl,e4];rfl
   ·have hc:c∈sl.map (λt=>t.2.dat):=hc
    rw[e1]at hc;obtain⟨t,ht,rfl⟩:=zb.mp hc;have ei:(if Wu kb w d t.2=true then some n else t.2.lo)=some i:=ei;split at ei
    ·cases ei
     exact⟨hg.1.n0,hg.1.n1⟩
    ·exact hS.o _ (zb.mpr ⟨t,ht,rfl⟩) i ei
  |gift d n w p c s=>
   dsimp only[Be,rO,tL,rN,oZ,sX]at k1 k2 k3 k4 k5 k6;refine sc0 rfl ty k1 ?_;refine sc1 rfl ty k3 ?_;walk_at "i";refine md hb hB.me (nf _ (by decide+kernel)) ⟨b,x,kb,ns,W,d,n,p,c,s,w,rfl,hB,hE,hg.2.1.1,hg.2.2.1.1,hC.n,hS.r,w3,hC.nl,λq ms H' o aa e3 e4 ec=>k _ H' aa o (hS.next hg (hS.r.keep hw e3) (λz=>?_) rfl hS.o hS.g (yz _) (yD _ _) (hS.bal.gift hU hw ec)) rfl rfl⟩;rw[ab rfl,e4];rfl
  |sell d n w p r f o=>
   have h7:=Tp ⟨by have:=hg.2.1.1;omega,hg.2.1.2⟩ hg.2.2.1;have h8:=hg.2.2.2.1;unfold Rg at h7 h8;dsimp only[Be,rO,tL,rN,oZ,sX]at k1 k2 k3 k4 k5 k6;obtain rfl:o=none:=ho;obtain⟨Cw,dw,ac,ad⟩:=hC.w;refine sc0 rfl ty k1 ?_;refine sc0 rfl ty k3 ?_;refine sc1 rfl ty k2 ?_;walk_at "i";refine md hb hB.me (nf _ (by decide+kernel)) ⟨b,x,Cw,dw,kb,ns,W,d,n,p,r,f,w,rfl,hB,ac,ad,hE,hS.r,w3,hC.nl,hg.2.1.1,hf,hm w,ae w,Bd.sm (by omega) (by omega),by omega,λy s q ms H' o aa e1 e2 e3 e4 ep e6 e7 ec e0=>k _ H' aa o ⟨hS.r.keep hw e6,λz=>?_,?_,?_,hS.g,?_,?_,?_,λx hx=>?_,hS.bal.sell hU hw e4 ec⟩ rfl rfl⟩
   ·rw[ab rfl,e7,Dj,<-show(λz=>pcs (rowOf kb.rs z))=runC es from funext hS.c];rfl
   ·show(List.map _ (kb.sl++[(y,s)])).Sublist _
    rw[zj,zj];refine hS.n.append ?_;show[s.n].Sublist [n];rw[e1];exact zz9 _
   ·show∀c∈List.map _ (kb.sl++[(y,s)]),_
    rw[zj];intro c hc;rcases zA.mp hc with hc|hc
    ·exact hS.p c hc
    ·rw[zu.mp hc]
     have h9:=Cj e6.c;have ag:=(hS.cost hl w).2;exact⟨⟨e0,by show -1000000000<=s.pr;omega⟩,by show s.co<=_;omega,by show s.pr<=_;omega⟩
   ·rw[zB];exact zN af (yD _ _)
   ·rw[zB];show kb.ll<=100*(es.length+1);omega
   ·show∀c∈List.map _ (kb.sl++[(y,s)]),_
    rw[zj];intro c hc i ei;rcases zA.mp hc with hc|hc
    ·exact hS.o c hc i ei
    ·rw[zu.mp hc]at ei
     have ei:s.lo=some i:=ei;rw[e4]at ei;cases ei
   ·rcases zA.mp hx with hx|hx
    ·exact hS.e x hx
    ·rw[zu.mp hx];exact hg
  |give d n w p o=>
   dsimp only[Be,rO,tL,rN,oZ,sX]at k1 k2 k3 k4 k5 k6;obtain rfl:o=none:=ho;obtain⟨Cw,dw,ac,ad⟩:=hC.w;refine sc0 rfl ty k1 ?_;refine sc0 rfl ty k3 ?_;refine sc0 rfl ty k2 ?_;refine sc1 rfl ty k4 ?_;walk_at "i";refine md hb hB.me (nf _ (by decide+kernel)) ⟨b,x,Cw,dw,kb,ns,W,d,n,p,w,rfl,hB,ac,ad,hE,hS.r,w3,hC.nl,hg.2.1.1,hf,hm w,ae w,by omega,λg q ms H' o aa e1 e6 e7 ec=>k _ H' aa o (hS.next hg (hS.r.keep hw e6) (λz=>?_) rfl hS.o (λt ht=>?_) ?_ (yD _ _) (hS.bal.give hU hw ec)) rfl rfl⟩
   ·rw[ab rfl,e7];rfl
   ·rcases zA.mp ht with ht|ht
    ·exact hS.g t ht
    ·rw[zu.mp ht];exact e1
   ·show(kb.gv++[g]).length<=_
    rw[zB];exact zo _
  |split d n w m f=>
   dsimp only[Be,rO,tL,rN,oZ,sX]at k1 k2 k3 k4 k5 k6;refine sc0 rfl ty k1 ?_;refine sc0 rfl ty k3 ?_;refine sc0 rfl ty k2 ?_;refine sc0 rfl ty k4 ?_;refine sc1 rfl ty k5 ?_;walk_at "i";refine md hb hB.me (nf _ (by decide+kernel)) ⟨b,x,kb,ns,W,d,n,m,f,w,rfl,hB,hE,(by obtain⟨_,h1,h2⟩:=hg;unfold Rg at h1 h2;exact⟨⟨by omega,by omega⟩,by omega,by omega⟩),hS.r,w3,hC.nl,hf.imp_left (λc=>?_),λq ms H' o aa e6 e7 ec=>k _ H' aa o (hS.next hg (hS.r.keep hw e6) (λz=>?_) rfl hS.o hS.g (yz _) (yD _ _) (hS.bal.split hU hw ec)) rfl rfl⟩
   ·have h1:=Ck (hS.r.row w).p
    have c:pcs (rowOf kb.rs w)=0:=c;exact zzq.mp (by omega)
   ·rw[ab rfl,e7];rfl
  |part d n w u s t=>
   dsimp only[Be,rO,tL,rN,oZ,sX]at k1 k2 k3 k4 k5 k6;refine sc0 rfl ty k1 ?_;refine sc0 rfl ty k3 ?_;refine sc0 rfl ty k2 ?_;refine sc0 rfl ty k4 ?_;refine sc0 rfl ty k5 ?_;refine sc1 rfl ty k6 ?_;walk_at "i";refine md hb hB.me (nf _ (by decide+kernel)) ⟨b,x,kb,ns,W,d,n,s,t,w,u,rfl,hB,hE,?_,hg.2.2.2.2.2,Ne.symm hg.2.2.1,hw,hS.r,w3,hC.nl,λq1 l1 q ms H' o aa e1 e2 e6 e7 ec=>k _ H' aa o (hS.next hg ((hS.r.keep hw e1).keep hu e6) (λz=>?_) rfl hS.o hS.g (yz _) (yD _ _) (hS.bal.part hU hw hu (Ne.symm hg.2.2.1) ec)) rfl rfl⟩
   ·obtain⟨h1,h2⟩:=hg.2.2.2
    unfold Rg at h1 h2;exact⟨⟨by omega,by omega⟩,by omega,by omega⟩
   ·show pcs (rowOf (keepR (keepR kb.rs w q1 l1) u q ms) z)=(if z=u then pcs (rowOf kb.rs u)+pcs (rowOf kb.rs w)else pcs (rowOf kb.rs z))
    rw[qi];by_cases c:z=u
    ·rw[zl c,zl c,e7]
    ·rw[ze c,ze c,qi]
     by_cases c2:z=w
     ·rw[zl c2,e2,c2]
     ·rw[ze c2]
def GD{t u:TS}{D:Ends}{σ:L2.St}{H:Hp}(P:L2.St->Hp->Prop)(h1:∀q H',P q H'->u D q H')(h2:∀N:L2.St->Hp->Prop,(∀q H',P q H'->N q H')->t {D with nx:=N} σ H):ZG t u D σ H:=h2 _ h1
noncomputable def Aft(k:BkD)(e:Ent):Prop:=∀t,k.last=some t->t.2.1<e.day\/(t.2.1=e.day/\t.2.2<e.num)
def aks{a b c d:Int}(h:c<a\/(c=a/\d<b)):HT.lexLe [a,b] [c,d]=false:=by
 unfold HT.lexLe;by_cases e:a=c
 ·rw[zl e]
  unfold HT.lexLe;rw[ze (by omega)];exact zQ (by omega)
 ·rw[ze e]
  exact zQ (by omega)
def YZ(k:BkD)(l:Option (Addr×Int×Int)):Ef (Str.ofString "last_place") (RJ l) k.fs={k with last:=l}.fs:=by cases k;rfl
def aiW(A:Adr)(e:Ent):∃q,q e=true/\(e.cls A,Dr A q)∈[(A.acf,Dr A Be),(A.acj,Dr A rO),(A.acg,Dr A tL),(A.ace,Dr A rN),(A.ach,Dr A oZ),(A.aci,Dr A sX)]:=by
 cases e with
 |buy=>exact⟨Be,rfl,zh (i:=0) rfl⟩
 |sell=>exact⟨rO,rfl,zh (i:=1) rfl⟩
 |gift=>exact⟨tL,rfl,zh (i:=2) rfl⟩
 |give=>exact⟨rN,rfl,zh (i:=3) rfl⟩
 |split=>exact⟨oZ,rfl,zh (i:=4) rfl⟩
 |part=>exact⟨sX,rfl,zh (i:=5) rfl⟩
def aji{e:Ent}{q:List (Key×V)}(h:aix (jq q) e):e.beh q≠none:=by
 cases e with
 |buy=>exact λc=>by cases c
 |gift=>exact λc=>by cases c
 |part=>exact λc=>by cases c
 |sell d n w p r f o=>
  have h:p<=jq q w:=h;rw[Ent.beh,ze (by omega)];exact λc=>by cases c
 |give d n w p o=>
  have h:p<=jq q w:=h;rw[Ent.beh,ze (by omega)];exact λc=>by cases c
 |split d n w m f=>
  have h:jq q w=0\/1<=jq q w*m/f:=h;rw[Ent.beh,ze (by omega)];exact λc=>by cases c
def jf.isE{H:Hp}{b x C dx:Addr}{k:BkD}{e:Ent}{q:V}(h:jf A H b k)(_:IsE A H x e)(z:H x=some (.ins C dx (e.fs q))):vO H (k.M b) x=some (.ins C dx (e.fs q)):=by cases e<;>exact h.day z
def jf.keepE{H H':Hp}{b x:Addr}{k:BkD}{M:List Addr}{e:Ent}(h:jf A H b k)(o:Stp (k.M b) M H H')(q:IsE A H x e)(ho:e.lots=none):IsE A H' x e:=let⟨dx,nv,z,c⟩:=q;⟨dx,nv,o.k x _ (uE (h.isE q z)) z,by rw[ho]at c⊢;exact c⟩
inductive Lz(A:Adr)(vs:List V)(H:Hp)(Q:VK)(E:XK):Prop
 |mk (b x:Addr) (k:BkD) (e:Ent) (es:List Ent) (W:List Str) (ns:List Int) (_:vs=[.ref b,.ref x]) (_:jf A H b k) (_:IsE A H x e) (_:Can A H W ns es k e) (_:Aft k e) (_:∀k' t H',jf A H' b k'->Stp (k.M b) (k'.M b) H H'->StB W ns (es++[e]) k'->k'.C=k.C->k'.way=k.way->k'.last=some (t,e.day,e.num)->Q .non H'):Lz A vs H Q E
def Lq(T:Txt K mg A D):jQ P w K mg base CX0 9 A.ab0 D.ab0 ["self", "entry"] (Lz A):=by
 refine T.ad2.okv Vn λ_ _ _ _ H vs Q E hr h=>?_
 ·obtain⟨b,x,kb,e,es,W,ns,rfl,hB,hx,hC,hA,k⟩:=h
  obtain⟨db,hb⟩:=hB.i;have hc:=DX T hB;have ad:=λf h=>kb.noM f h
  refine ⟨_,(iH (kE (PW.pt (Ff (je (HX) (fv K 0) mF (ji _)) (Ep (je ((aiO (K:=K) hr)) (pcg (Cg T) hr T.adg (Eh T) (pav 1 iI)) (fv K 0) (ji _))))) (iJ (lO)) jn)
   (iH (kE (je (Fi) (jy (pv 1) (mc T.ae1 T.ag9 (CQ T) hr (Ei T) (mc T.afx T.aha (Bx T) hr (CZ T) (mc T.afa T.ahb (Ca T) hr (CJ T) (mc T.aeU T.ahc (Cd T) hr (DN T) (mc T.afi T.ahd (Af T) hr (Bg T) (mc T.afp T.ahe (vQ T) hr (vZ T) .nil)))))) jB (iG (lE (pv 0) (mc T.afO T.agz (nA T) hr (oF T) (mc T.afW T.agA (nA T) hr (oF T) .nil)) jB) iI)) mF (ji _)) (iJ (lO)) jn)
   (iH (jh (jy (pv 0) (mc T.afO T.ag7 (rJ T) hr (tR T) (mc T.afW T.ag8 (rJ T) hr (tR T) .nil)) jB (pav 1 iI)))
   (iJ (jo (K:=K) (pv 0) (pcg (Cg T) hr T.adg (Eh T) (pav 1 iI)) rfl))))),?_⟩
  simp only[start_eq];refine GD (λσ' H'=>σ'=[some (.ref b),some (.ref x)]/\Same H H') ?_ ?_
  ·rintro σ1 H1 ⟨rfl,s1⟩
   refine GD (λσ' H'=>σ'=[some (.ref b),some (.ref x)]/\Same H H') ?_ ?_
   ·rintro σ2 H2 ⟨rfl,s2⟩
    have ab:=hB.same s2;have af:=hx.same s2;obtain⟨ax,ao⟩:=ab.i;have an:Can A H2 W ns es kb e:=⟨hC.s,hC.l,hC.nl,hC.u,hC.g,hC.n,hC.f,hC.m,let⟨Cw,dw,h1,h2⟩:=hC.w;⟨Cw,dw,s2 _ _ h1,h2⟩⟩;walk_at "m";refine md ao ab.me (ad _ (by decide+kernel)) ⟨b,x,kb,e,es,W,ns,rfl,ab,af,an,λk3 H3 al o3 q c3 w3=>?_⟩;have aq:=ab.keepE o3 af hC.g.2.1
    try dsimp only
    refine⟨x,e,rfl,aq,λt ht=>?_⟩;have s4:=iR (o:=.tup [V.int e.day,V.int e.num]) ht;have aa:=al.same s4;have ag:(upd H3 t (.tup [V.int e.day,V.int e.num])) t=some (.tup [V.int e.day,V.int e.num]):=iK;generalize upd H3 t (.tup [V.int e.day,V.int e.num])=H4 at s4 aa ag⊢;obtain⟨ay,as⟩:=aa.i;have ai:=DX T aa;refine sw as ai.c ai.l (Vc _) (?_);rw[show V.ref t=RJ (some (t,e.day,e.num))from rfl,YZ];exact k _ t _ (aa.put (la:=some (t,e.day,e.num)) (pa:=k3.paid) (br:=k3.brought) λu hu=>by cases hu;exact aa.tup ag) ((pA s2).trans (o3.trans ((pA s4).trans (pJ BkD.mb)))) ⟨q.r,q.c,q.n,q.p,q.g,q.v,q.l,q.o,q.e,⟨q.bal.b,q.bal.p,q.bal.r⟩⟩ c3 w3 rfl
   ·intro N hN
    have ac:=hB.same s1;obtain⟨aw,ar⟩:=ac.i;obtain⟨dx,nv,ah,ap⟩:=hx.same s1;walk_at "i";obtain⟨au,hk,ae⟩:=aiW A e;have hS:=hC.s;refine md ah ae (by cases e<;>rfl) (md ar ac.me (ad _ (by decide+kernel)) ⟨b,kb,ns,W,rfl,ac,hS.r,by have:=hC.u.2;omega,hC.nl,λp kv H2 s2 hp ak hH hl hv _=>?_⟩);have aj:aix (jq kv) e:=by rw[show jq kv=runC es from funext λz=>(hv z).trans (hS.c z)];exact hC.f
    refine⟨x,p,e,kv,hk,rfl,⟨dx,nv,s2 _ _ ah,ap.same s2⟩,hC.g.1,.inl ak,hH,by omega,λc=>(aji aj c).elim,λav _ p2 H3 s3 _ _=>?_⟩;show(if V.ref p2=V.non then _ else _);rw[ze (λc=>by cases c)];exact hN _ _ ⟨rfl,s1.trans (s2.trans s3)⟩
  ·intro N hN
   walk_at "i";refine rd hb hc.c hc.l (v:=RJ kb.last) (by rfl) (?_)
   cases hl:kb.last with
   |none=>
    rw[ze (by simp[RJ])];exact hN _ _ ⟨rfl,same_refl _⟩
   |some t=>
    rw[zl (by simp[RJ])];refine⟨x,e,rfl,hx,λt1 am=>?_⟩;have s1:=iR (o:=.tup [V.int e.day,V.int e.num]) am;refine rd (s1 _ _ hb) hc.c hc.l (v:=RJ kb.last) (by rfl) (?_);rw[hl];refine⟨t1,t.1,[e.day,e.num],[t.2.1,t.2.2],rfl,rfl,jH iK,jH (s1 _ _ (hB.frz.p t hl)),_,rfl,?_⟩;rw[aks (hA t hl),ze (by decide)];exact hN _ _ ⟨rfl,s1⟩
structure Ini(B H:Hp)(x C dx:Addr)(fs:List (Str×V))(os:List (Addr×HO)):Prop where
 n:New B H x C dx fs
 o:∀p∈os,p.1≠x/\B p.1=none/\H p.1=some p.2
 u:os.Pairwise λp q=>p.1≠q.1
theorem Ini.put{B H:Hp}{x C dx:Addr}{fs:List (Str×V)}{os:List (Addr×HO)}(h:Ini B H x C dx fs os)(gs:List (Str×V)):Ini B (upd H x (.ins C dx gs)) x C dx gs os:=⟨h.n.put rfl,λp q=>let⟨a,b,c⟩:=h.o p q;⟨a,b,(iZ a).trans c⟩,h.u⟩
def Ini.new{B H:Hp}{x C dx q:Addr}{o:HO}{fs:List (Str×V)}{os:List (Addr×HO)}(h:Ini B H x C dx fs os)(hq:H q=none):Ini B (upd H q o) x C dx fs ((q,o)::os):=by
 have s:=iR (o:=o) hq;refine⟨h.n.same s,λp z=>?_,List.pairwise_cons.mpr ⟨λp z e=>?_,h.u⟩⟩
 ·rcases zt.mp z with rfl|z
  ·exact⟨λe=>(by have:=h.n.h;rw[<-show q=x from e,hq]at this;cases this),h.n.s.free hq,iK⟩
  ·obtain⟨a,b,c⟩:=h.o p z
   exact⟨a,b,s _ _ c⟩
 ·have:=(h.o p z).2.2
  rw[<-show q=p.1 from e,hq]at this;cases this
noncomputable def k0(C w pr ps pg:Addr)(x:Option (Int×Addr×LY)):BkD:=⟨C,w,pr,ps,pg,[],none,0,0,[],[],x⟩
noncomputable def os0(pr ps pg:Addr):List (Addr×HO):=[(pg,.lst []),(ps,.lst []),(pr,.dK [])]
inductive vH(K:Fg_)(vs:List V)(H:Hp)(Q:VK)(E:XK):Prop
 |mk (x w:Addr) (B:Hp) (C dx:Addr) (_:vs=[.ref x,.ref w]) (_:New B H x C dx []) (_:CB K C) (_:∀pr ps pg H',Ini B H' x C dx (k0 C w pr ps pg none).fs (os0 pr ps pg)->Q .non H'):vH K vs H Q E
def vz(T:Txt K mg A D):jQ P w K mg base CX0 1 A.ab2 D.ab2 ["self", "way"] (vH K):=by
 refine T.ad4.okv Gb λ_ _ _ _ H vs Q E hr h=>?_
 ·obtain⟨x,w,B,C,dx,rfl,hN,z,k⟩:=h
  refine ⟨_,(iH (jo (K:=K) (pv 0) (pvD 1) rfl)
   (iH (jo (K:=K) (pv 0) Uy rfl)
   (iH (jo (K:=K) (pv 0) mF rfl)
   (iH (jo (K:=K) (pv 0) iM rfl)
   (iH (jo (K:=K) (pv 0) iM rfl)
   (iH (jo (K:=K) (pv 0) (jV iI) rfl)
   (iJ (jo (K:=K) (pv 0) (jV iI) rfl)))))))),?_⟩
  have q:Ini B H x C dx [] []:=⟨hN,λp h=>(zf h).elim,.nil⟩;clear hN;simp only[start_eq];refine lD λu hu=>?_;rw[ap_seq];walk_at "i";refine sw q.n.h z.c z.w (by decide) ?_;rw[xZ _ _ (by decide+kernel)];have q:=q.put ([]++[(Str.ofString "way",V.ref w)]);generalize upd H x _=H1 at q⊢;subst hu
  try dsimp only
  refine lD λu hu=>?_;rw[ap_seq];walk_at "i";intro pr aa;have q:=q.new (o:=.dK []) aa;generalize upd H1 pr _=H1a at q⊢;refine sw q.n.h z.c z.r (by simp) ?_;rw[lR (f:=Str.ofString "rows") ["way"]];have q:=q.put (([]++[(Str.ofString "way",V.ref w)])++[(Str.ofString "rows",V.ref pr)]);generalize upd H1a x _=H2 at q⊢;subst hu
  try dsimp only
  refine lD λu hu=>?_;rw[ap_seq];walk_at "i";refine sw q.n.h z.c z.l (by simp) ?_;rw[lR (f:=Str.ofString "last_place") ["way", "rows"]];have q:=q.put ((([]++[(Str.ofString "way",V.ref w)])++[(Str.ofString "rows",V.ref pr)])++[(Str.ofString "last_place",V.non)]);generalize upd H2 x _=H3 at q⊢;subst hu
  try dsimp only
  refine lD λu hu=>?_;rw[ap_seq];walk_at "i";refine sw q.n.h z.c z.p (by simp) ?_;rw[lR (f:=Str.ofString "paid") ["way", "rows", "last_place"]];have q:=q.put (((([]++[(Str.ofString "way",V.ref w)])++[(Str.ofString "rows",V.ref pr)])++[(Str.ofString "last_place",V.non)])++[(Str.ofString "paid",V.int 0)]);generalize upd H3 x _=H4 at q⊢;subst hu
  try dsimp only
  refine lD λu hu=>?_;rw[ap_seq];walk_at "i";refine sw q.n.h z.c z.b (by simp) ?_;rw[lR (f:=Str.ofString "brought") ["way", "rows", "last_place", "paid"]];have q:=q.put ((((([]++[(Str.ofString "way",V.ref w)])++[(Str.ofString "rows",V.ref pr)])++[(Str.ofString "last_place",V.non)])++[(Str.ofString "paid",V.int 0)])++[(Str.ofString "brought",V.int 0)]);generalize upd H4 x _=H5 at q⊢;subst hu
  try dsimp only
  refine lD λu hu=>?_;rw[ap_seq];walk_at "i";refine⟨sz,λps ab=>?_⟩;have q:=q.new (o:=.lst []) ab;generalize upd H5 ps _=H5a at q⊢;refine sw q.n.h z.c z.s (by simp) ?_;rw[lR (f:=Str.ofString "sales_done") ["way", "rows", "last_place", "paid", "brought"]];have q:=q.put (((((([]++[(Str.ofString "way",V.ref w)])++[(Str.ofString "rows",V.ref pr)])++[(Str.ofString "last_place",V.non)])++[(Str.ofString "paid",V.int 0)])++[(Str.ofString "brought",V.int 0)])++[(Str.ofString "sales_done",V.ref ps)]);generalize upd H5a x _=H6 at q⊢;subst hu
  try dsimp only
  walk_at "i";refine⟨sz,λpg ac=>?_⟩;have q:=q.new (o:=.lst []) ac;generalize upd H6 pg _=H6a at q⊢;refine sw q.n.h z.c z.g (by simp) ?_;rw[lR (f:=Str.ofString "givings_done") ["way", "rows", "last_place", "paid", "brought", "sales_done"]];exact k pr ps pg _ (q.put _)
def alG{B H:Hp}{x C dx w pr ps pg:Addr}{z:Option (Int×Addr×LY)}{os:List (Addr×HO)}(h:Ini B H x C dx (k0 C w pr ps pg z).fs (os++os0 pr ps pg))(hc:(C=A.acl/\z=none)\/(C=A.acm/\z≠none))(hx:∀y,z=some y->(y.2.1,HO.lst [])∈os/\y.2.2=[]):
  jf A H x (k0 C w pr ps pg z)/\∀m∈(k0 C w pr ps pg z).M x,B m=none:=by
 have m1:(pg,HO.lst [])∈os++os0 pr ps pg:=zG _ (zh (i:=0) rfl);have m2:(ps,HO.lst [])∈os++os0 pr ps pg:=zG _ (zh (i:=1) rfl);have m3:(pr,HO.dK [])∈os++os0 pr ps pg:=zG _ (zh (i:=2) rfl);have hu:=List.pairwise_append.mp h.u;have aa:pg≠ps:=List.rel_of_pairwise_cons hu.2.1 zg;refine⟨⟨hc,⟨dx,h.n.h⟩,(h.o _ m3).2.2,(h.o _ m2).2.2,(h.o _ m1).2.2,λy e=>?_,Ne.symm aa,⟨λt q=>(zf q).elim,λt q=>(by cases q),λt q=>(zf q).elim,λt q=>(zf q).elim,λy e t q=>by rw[(hx y e).2]at q;exact(zf q).elim⟩⟩,λm hm=>?_⟩
 ·obtain⟨g1,g2⟩:=hx y e
  refine⟨by rw[g2];exact(h.o _ (yG _ g1)).2.2,hu.2.2 _ g1 _ (zh (i:=1) rfl),hu.2.2 _ g1 _ (zh (i:=0) rfl)⟩
 ·unfold BkD.M at hm
  rcases zA.mp hm with c|c
  ·rcases zt.mp c with rfl|c
   ·exact h.n.n
   rcases zt.mp c with rfl|c
   ·exact(h.o _ m3).2.1
   rcases zt.mp c with rfl|c
   ·exact(h.o _ m2).2.1
   ·rw[zu.mp c]
    exact(h.o _ m1).2.1
  ·unfold BkD.xm at c
   split at c
   ·exact(zf c).elim
   ·next y e=>
    rw[zu.mp c];exact(h.o _ (yG _ (hx y e).1)).2.1
inductive nY(A:Adr)(vs:List V)(H:Hp)(Q:VK)(E:XK):Prop
 |mk (x w:Addr) (g:Int) (B:Hp) (dx:Addr) (_:vs=[.ref x,.ref w,.int g]) (_:New B H x A.acm dx []) (_:∀k H',Same B H'->jf A H' x k->(∀m∈k.M x,B m=none)->(∃pr ps pg xo,k=k0 A.acm w pr ps pg xo/\k.ll=0)->Q .non H'):nY A vs H Q E
def vU(T:Txt K mg A D):jQ P w K mg base CX0 2 A.ab4 D.ab4 ["self", "way", "days"] (nY A):=by
 refine T.ad6.okv vM λ_ _ _ _ H vs Q E hr h=>?_
 ·obtain⟨x,w,g,B,dx,rfl,hN,k⟩:=h
  refine ⟨_,(iH (jh (oH T.ahm (vz (K:=K) T) (hr.mono (by decide)) (by rfl) T.aeE T.ad4.kp (wQ T) .nil jB (pav 0 (pav 1 iI))))
   (iH (jo (K:=K) (pv 0) (pvD 2) rfl)
   (iJ (jo (K:=K) (pv 0) (jV iI) rfl)))),?_⟩
  have hC:CB K A.acm:=⟨T.afW,T.afX,T.afY,T.afZ,T.af0,T.af1,T.af2,T.af3⟩;simp only[start_eq];walk_at "m";refine⟨x,w,B,A.acm,dx,rfl,hN,hC,λpr ps pg H1 q=>?_⟩;walk_at "a";refine sw q.n.h T.afW T.af4 (show(7:Nat)<1000 by decide) (?_);rw[lR (f:=Str.ofString "days") ["way", "rows", "last_place", "paid", "brought", "sales_done", "givings_done"]];have q:=q.put ((k0 A.acm w pr ps pg none).fs++[(Str.ofString "days",V.int g)]);generalize upd H1 x _=H2 at q⊢;refine⟨sz,λla z=>?_⟩;have q:=q.new (o:=.lst []) z;generalize upd H2 la _=H3 at q⊢;refine sw q.n.h T.afW T.af5 (show(8:Nat)<1000 by decide) (?_);rw[lR (f:=Str.ofString "layings") ["way", "rows", "last_place", "paid", "brought", "sales_done", "givings_done", "days"]];have q:=q.put ((k0 A.acm w pr ps pg (some (g,la,[]))).fs);obtain⟨g1,g2⟩:=alG (A:=A) (os:=[(la,.lst [])]) q (.inr ⟨rfl,λc=>by cases c⟩) λy e=>by cases e;exact⟨zg,rfl⟩
  exact k _ _ q.n.s g1 g2 ⟨pr,ps,pg,_,rfl,rfl⟩
theorem Pb:∀W:List Str,Ag W []=0
 |[]=>rfl
 |z::W=>by show jX []+Ag W []=0;rw[Pb W];rfl
def st0{W:List Str}{ns:List Int}{k:BkD}(h:∃C w pr ps pg q,k=k0 C w pr ps pg q/\k.ll=0):StB W ns [] k:=by
 obtain⟨C,w,pr,ps,pg,q,rfl,hl⟩:=h;refine⟨⟨.nil,λt h=>(zf h).elim,λt h=>(zf h).elim⟩,λz=>rfl,zz9 _,λt h=>(zf h).elim,λt h=>(zf h).elim,zo _,by rw[hl];exact zK _,λt h=>(zf h).elim,λt h=>(zf h).elim,⟨by show Ag W []+0+0=0+0+0;rw[Pb],rfl,rfl⟩⟩
inductive HN(A:Adr)(vs:List V)(H:Hp)(Q:VK)(E:XK):Prop
 |mk (b q:Addr) (k:BkD) (es:EL) (W:List Str) (hs:List Ent) (_:vs=[.ref b,.ref q]) (_:jf A H b k) (_:(∃C w pr ps pg xo,k=k0 C w pr ps pg xo/\k.ll=0)) (_:(∃Cw dw,H k.way=some (.ins Cw dw [])/\SQ A Cw)) (_:k.way∉k.M b) (_:H q=some (.lst (BV es))) (_:Nr A H es) (_:Us W hs) (_:(W.Nodup/\W.length<=6)) (_:hs.Pairwise BfE) (_:hs.length<=40) (_:(hs.map Ent.num).Nodup) (_:(es.map (·.2)).Perm hs) (_:∀k' H',jf A H' b k'->Stp (k.M b) (k'.M b) H H'->StB W (hs.map Ent.num) hs k'->k'.C=k.C->Q (.ref b) H'):HN A vs H Q E
def vA(T:Txt K mg A D):jQ P w K mg base CX0 10 A.ab1 D.ab1 ["book", "entries"] (HN A):=by
 refine T.ad3.F.okv uW λ_ _ _ _ H vs Q E hr h=>?_
 ·obtain⟨b,q,kb,es,W,z,rfl,hB,h0,hw,ar,hq,hE,hH,hU,hb,hl,hn,ah,k⟩:=h
  refine ⟨_,(iH (oh zW rfl (mC (K:=K) (pcg (Rr T) hr T.adh (VD T) (pav 1 iI))) (iW (i:=2) uW.nd rfl orl)
    (iJ (jh (jy (pv 0) (mc T.afO T.ahf (Lq T) hr (Oe T) (mc T.afW T.ahg (Lq T) hr (Oe T) .nil)) jB (pav 2 iI)))))
   (iJ (jb (pvD 0)))),?_⟩
  simp only[start_eq];rw[ap_seq,ap_for];walk_at "i";have ax:es.length=z.length:=by have:=ah.length_eq;rwa [za]at this
  refine⟨q,es,rfl,hq,hE,by omega,?_,λp ab H1 s1 hp h1 af au=>?_⟩
  ·have:=(ah.map Ent.num).nodup_iff.mpr hn
   rwa [zq]at this
  have ai:ab.map (·.2)=z:=alC ((af.map (·.2)).trans ah) au hb;have as:Nr A H1 ab:=λr hr=>(hE r (af.mem_iff.mp hr)).same s1;have al:=hB.same s1;refine⟨p,rfl,⟨_,iT h1⟩,?_⟩
  refine pG (K:=K) (a:=p) (xs:=BV ab) (λi σ H2=>∃(k2:BkD)(v2:Option V),σ=[some (.ref b),some (.ref q),v2]/\jf A H2 b k2/\Stp (kb.M b) (k2.M b) H1 H2/\StB W (z.map Ent.num) (z.take i) k2/\k2.C=kb.C/\k2.way=kb.way/\∀t,k2.last=some t->∃e∈z.take i,t.2.1=e.day/\t.2.2=e.num)
   ⟨kb,_,rfl,al,pA (same_refl _),st0 h0,rfl,rfl,λt ht=>?_⟩ (λi σ H2 _ ⟨k2,_,_,_,o2,_⟩=>iT (o2.k p _ (hB.fresh hp) h1)) ?_ ?_
  ·obtain⟨C,w,pr,ps,pg,xo,rfl,_⟩:=h0
   cases ht
  ·rintro i y σ H2 hi ⟨k2,v2,rfl,ac,o2,ae,c2,w2,ad⟩
   obtain⟨r,ag,rfl⟩:=Pj hi;have aw:=zh ag;have az:i<ab.length:=(zp.mp ag).1;have aa:z[i]? =some r.2:=by rw[<-ai,zm,ag];rfl
   have hln':ab.length=z.length:=by rw[<-ai,za]
   have am:=hH.g r.2 (zh aa);have aq:=al.keepE o2 (as r aw) am.2.1;obtain⟨ay,ao⟩:=ac.i;have htk:z.take (i+1)=z.take i++[r.2]:=by rw[zI,aa];rfl
   have ak:Can A H2 W (z.map Ent.num) (z.take i) k2 r.2:=⟨ae,by rw[zO];omega,by rw[za];omega,hU,am,zb.mpr ⟨_,zh aa,rfl⟩,hH.f i _ aa,hH.big hl (by omega),let⟨Cw,dw,g1,g2⟩:=hw;⟨Cw,dw,by rw[w2];exact o2.k _ _ ar (s1 _ _ g1),g2⟩⟩
   have aj:Aft k2 r.2:=λt ht=>by
    obtain⟨e,he,ed,en⟩:=ad t ht;have h4:=hb;rw[<-y9 i z]at h4
    have h5:=(List.pairwise_append.mp h4).2.2 e he r.2 (by
     have hil':i<z.length:=by omega
     rw[zzh hil'];have:z[i]=r.2:=by rw[zr hil']at aa;exact zy aa
     rw[this];exact zg)
    rw[ed,en];exact h5
   walk_at "i";refine md ao ac.me (k2.noM _ (by decide+kernel)) ⟨b,r.1,k2,r.2,_,_,_,rfl,ac,aq,ak,aj,λk3 t H3 an o3 ap c3 w3 av=>?_⟩;refine⟨k3,an,o2.trans o3,htk▸ap,c3.trans c2,w3.trans w2,λu hu=>?_⟩;rw[av]at hu;cases hu;exact⟨r.2,by rw[htk];exact zA.mpr (.inr (by simp)),rfl,rfl⟩
  ·rintro σ H2 ⟨k2,v2,rfl,ac,o2,ae,c2,w2,ad⟩
   rw[wD,show ab.length=z.length by rw[<-ai,za],zT]at ae;walk_at "a";exact k k2 H2 ac ((pA s1).trans o2) ae c2
structure amf(A:Adr)(H:Hp)(w q:Addr)(es:EL)(W:List Str)(hs:List Ent):Prop where
 w:∃Cw dw,H w=some (.ins Cw dw [])/\SQ A Cw
 q:H q=some (.lst (BV es))
 e:Nr A H es
 h:Us W hs
 u:W.Nodup/\W.length<=6
 b:hs.Pairwise BfE
 l:hs.length<=40
 n:(hs.map Ent.num).Nodup
 p:(es.map (·.2)).Perm hs
def mine{B H:Hp}{b:Addr}{k q:BkD}(s:Same B H){H':Hp}(hm:∀m∈k.M b,B m=none)(o:Stp (k.M b) (q.M b) H H'):Same B H'/\∀m∈q.M b,B m=none:=
 ⟨λa u e=>o.k a u (λc=>by rw[hm a c]at e;cases e) (s _ _ e),λm c=>(o.f m c).elim (hm m) λe=>s.free e⟩
inductive LC(A:Adr)(vs:List V)(H:Hp)(Q:VK)(E:XK):Prop
 |mk (w q:Addr) (es:EL) (W:List Str) (hs:List Ent) (_:vs=[.ref w,.ref q]) (_:amf A H w q es W hs) (_:∀b k H',Same H H'->jf A H' b k->(∀m∈k.M b,H m=none)->StB W (hs.map Ent.num) hs k->Q (.ref b) H'):LC A vs H Q E
def Lk(T:Txt K mg A D):jQ P w K mg base CX0 11 A.ab3 D.ab3 ["way", "entries"] (LC A):=by
 refine T.ad5.F.okv Wc λ_ _ _ _ H vs Q E hr h=>?_
 ·obtain⟨w,q,es,W,hs,rfl,z,k⟩:=h
  refine⟨_,(iJ (jb (pcg (vA T) hr T.ad3 (wZ T) (iG (lK T.agn (vz (K:=K) T) (hr.mono (by decide)) (by rfl) T.aeE (wQ T) .nil jB (pav 0 iI)) (pav 1 iI))))),?_⟩;walk_at "a";intro b db hb ac _;have hN:=pU (C:=A.acl) hb ac;refine⟨b,w,H,A.acl,db,rfl,hN,⟨T.afO,T.afP,T.afQ,T.afR,T.afS,T.afT,T.afU,T.afV⟩,λpr ps pg H1 hI=>⟨rfl,?_⟩⟩;obtain⟨hB,hm⟩:=alG (A:=A) (os:=[]) hI (.inl ⟨rfl,rfl⟩) λy e=>by cases e
  have s1:=hI.n.s;obtain⟨Cw,dw,w1,w2⟩:=z.w;refine⟨b,q,_,es,W,hs,rfl,hB,⟨_,_,_,_,_,_,rfl,rfl⟩,⟨Cw,dw,s1 _ _ w1,w2⟩,λc=>?_,s1 _ _ z.q,λr hr=>(z.e r hr).same s1,z.h,z.u,z.b,z.l,z.n,z.p,λk2 H2 aa o2 ab c2=>?_⟩
  ·have c:H w=none:=hm _ c
   rw[w1]at c;cases c
  ·obtain⟨g1,g2⟩:=mine s1 hm o2
   exact k b k2 H2 g1 aa g2 ab
inductive uh(A:Adr)(vs:List V)(H:Hp)(Q:VK)(E:XK):Prop
 |mk (w q:Addr) (g:Int) (es:EL) (W:List Str) (hs:List Ent) (_:vs=[.ref w,.int g,.ref q]) (_:amf A H w q es W hs) (_:∀b k H',Same H H'->jf A H' b k->(∀m∈k.M b,H m=none)->StB W (hs.map Ent.num) hs k->Q (.ref b) H'):uh A vs H Q E
def DQ(T:Txt K mg A D):jQ P w K mg base CX0 11 A.ab5 D.ab5 ["way", "days", "entries"] (uh A):=by
 refine T.ad7.F.okv DW λ_ _ _ _ H vs Q E hr h=>?_
 ·obtain⟨w,q,g,es,W,hs,rfl,z,k⟩:=h
  refine⟨_,(iJ (jb (pcg (vA T) hr T.ad3 (wZ T) (iG (lK T.ago (vU (K:=K) T) (hr.mono (by decide)) (by rfl) T.aeF (wB T) .nil jB (pav 0 (pav 1 iI))) (pav 2 iI))))),?_⟩;walk_at "a";intro b db hb ac _;have hN:=pU (C:=A.acm) hb ac;refine⟨b,w,g,H,db,rfl,hN,λk1 H1 s1 hB hm hk=>⟨rfl,?_⟩⟩;obtain⟨pr,ps,pg,xo,rfl,hl⟩:=hk;obtain⟨Cw,dw,w1,w2⟩:=z.w;refine⟨b,q,_,es,W,hs,rfl,hB,⟨_,_,_,_,_,_,rfl,hl⟩,⟨Cw,dw,s1 _ _ w1,w2⟩,λc=>?_,s1 _ _ z.q,λr hr=>(z.e r hr).same s1,z.h,z.u,z.b,z.l,z.n,z.p,λk2 H2 aa o2 ab c2=>?_⟩
  ·have c:H w=none:=hm _ c
   rw[w1]at c;cases c
  ·obtain⟨g1,g2⟩:=mine s1 hm o2
   exact k b k2 H2 g1 aa g2 ab
theorem aim{H0 H:Hp}:∀{sl:List (Addr×jM)}{acc:List V},Ai (λt v=>∃y s,v=.ref y/\(lA A H y s/\H0 s.pl=none)/\s.dat=t.2.dat) sl acc->∃q:List (Addr×jM),acc=vL q/\q.map (λt=>t.2.dat)=sl.map (λt=>t.2.dat)/\∀t∈q,lA A H t.1 t.2/\H0 t.2.pl=none
 |[],[],_=>⟨[],rfl,rfl,λt h=>(zf h).elim⟩
 |t::sl,v::acc,h=>by
  obtain⟨⟨y,s,rfl,hs,hc⟩,h2⟩:=h;obtain⟨q,e1,e2,e3⟩:=aim h2;refine⟨(y,s)::q,by rw[e1];rfl,by rw[zi,e2,hc];rfl,λu z=>?_⟩;rcases zt.mp z with rfl|z
  ·exact hs
  ·exact e3 u z
 |[],_::_,h=>h.elim
 |_::_,[],h=>h.elim
inductive Du(A:Adr)(vs:List V)(H:Hp)(Q:VK)(E:XK):Prop
 |mk (b:Addr) (k:BkD) (_:vs=[.ref b]) (_:jf A H b k) (_:k.sl.length<=100) (_:∀l sl H',Same H H'->H l=none->H' l=some (.lst (vL sl))->(∀t∈sl,lA A H' t.1 t.2/\H t.2.pl=none)->sl.map (λt=>t.2.dat)=k.sl.map (λt=>t.2.dat)->Q (.ref l) H'):Du A vs H Q E
def qe(T:Txt K mg A D):jQ P w K mg base CX0 4 A.aaZ D.aaZ ["self"] (Du A):=by
 refine T.ac2.okv Mw λ_ _ _ _ H vs Q E hr h=>?_
 ·obtain⟨b,kb,rfl,z,hl,k⟩:=h
  refine⟨_,(iJ (jb (jW (cap:=[none]) (N':=["sale"]) rfl (by walk_at "c") (mC (K:=K) (fv K 0)) (λ_ _ _ _=>(iW (i:=0) nd1 rfl orl orr)) (λ_ _ _ _=>jO) (λ_ _ _ _=>(pcg (Ig T) hr T.ac1 (Ks T) (pav 0 iI)))))),?_⟩;walk_at "a";obtain⟨dx,hb⟩:=z.i;have hC:=DX T z;refine rd hb hC.c hC.s (by rfl) ⟨kb.sales,rfl,⟨_,iT z.s⟩,?_⟩;refine Ze (f:=λt:Addr×jM=>V.ref t.1) (λσ=>∃a,σ=[a]) (λ_ t v H'=>∃y s,v=.ref y/\(lA A H' y s/\H s.pl=none)/\s.dat=t.2.dat) (iT z.s) ⟨_,rfl⟩ (by omega) ?_ ?_
  ·rintro Da t ht σ H5 R ⟨_,rfl⟩ sm hD ⟨acc,hA⟩ kk
   walk_at "i";exact⟨t.1,t.2,rfl,(z.frz.s t ht).same sm,λy pl H6 s6 hy q hS=>kk (.ref y) _ H6 ⟨_,rfl⟩ s6 λH' hb=>⟨y,_,rfl,⟨hS.but (s6 _ _ hA) (λe=>by rw[show pl=Da from e,hA]at q;cases q) hb,sm.free q⟩,rfl⟩⟩
  ·intro Da H' acc hD sm hA hF
   obtain⟨sl,e1,e2,e3⟩:=aim hF;exact k Da sl H' sm hD (e1▸hA) e3 e2
inductive Am(K:Fg_)(vs:List V)(H:Hp)(Q:VK)(E:XK):Prop
 |mk (c l bs) (_:vs=[.int c,.ref l]) (_:SqL K H l (bs.map V.int)) (_:(∀b∈bs,FW 0 b)) (_:bs.length<=1000) (_:Oc H Q (Vl c bs)):Am K vs H Q E
inductive Dl(vs:List V)(H:Hp)(Q:VK)(E:XK):Prop
 |mk (c k:Int) (_:vs=[.int c,.int k]) (_:0<=k) (_:k<1000) (_:∀r:Int,Q (.int r) H):Dl vs H Q E
inductive Cz(K:Fg_)(vs:List V)(H:Hp)(Q:VK)(E:XK):Prop
 |mk (a:Addr) (ns:List Int) (_:vs=[.ref a]) (_:SqL K H a (ns.map V.int)) (_:ns.length<=63) (_:∀p (cs:List Int) H',Same H H'->H p=none->H' p=some (.lst (cs.map V.int))->Q (.ref p) H'):Cz K vs H Q E
def tH(T:Txt K mg A D):jQ P w K mg base CX0 1 A.aaA D.aaA ["_law_cell", "_law_bases"] (Am K):=by
 refine T.acD.F.okv oY λ_ _ _ _ H vs Q E hr h=>?_
 ·obtain⟨c,l,bs,rfl,hS,hb,hl,k⟩:=h
  refine ⟨_,(iH (iY (i:=2) oY.nd rfl orl (jV iI))
   (iH (oh zW rfl (jD (K:=K) (pv 1)) (iW (i:=3) oY.nd rfl orl)
    (iH (jh (pW (K:=K) zL zU zV lW (pvD 2) (iG (jc lq (pvD 0) (pvD 3)) iI)))
    (iJ (iY (i:=0) oY.nd rfl orl (jc mK (pvD 0) (pvD 3))))))
   (iJ (jb (pvD 2))))),?_⟩
  walk_at "a";refine⟨zK _,λp hp=>?_⟩
  refine ⟨⟨_,(iR hp).seq hS⟩,pG (K:=K) (a:=l) (xs:=bs.map V.int) (λi σ H2=>∃v,σ=[some (.int (akg c (bs.take i))),some (.ref l),some (.ref p),v]/\Same H H2/\H2 p=some (.lst ((Vl c (bs.take i)).map V.int)))
   ⟨none,rfl,iR hp,iK⟩ (λi σ H2 _ ⟨_,_,z,_⟩=>z.seq hS) ?_ ?_⟩
  ·rintro i y σ H2 hi ⟨v,rfl,z,h2⟩
   obtain⟨b,rfl,q⟩:=uT hi;have ab:i<bs.length:=(zp.mp q).1;have aa:FW 0 b:=hb b (zh q);have ht:bs.take (i+1)=bs.take i++[b]:=by rw[zI,q];rfl
   walk_at "a";refine⟨tyL (iT h2),aa.1,_,h2,?_,aa,by rw[ht,Pq],z.upd hp,?_⟩
   ·rw[za,Bo,zO]
    exact Qo (by omega)
   ·rw[iK,ht,Qd,zj]
    rfl
  ·rintro σ H2 ⟨v,rfl,z,h2⟩
   rw[za,zT]at h2;walk_at "a";exact k p H2 z hp h2
def Mz(T:Txt K mg A D):jQ P w K mg base CX0 1 A.aaF D.aaF ["_law_cell", "_law_k"] Dl:=by
 refine T.acI.F.okv uN λ_ _ _ _ H vs Q E hr h=>?_
 ·obtain⟨c,z,rfl,k0,k1,k⟩:=h
  refine ⟨_,(iH (iY (i:=2) uN.nd rfl orl (jc lq (jc mQ (jc kh (jc kh (pvD 0) (jc mQ (jc mQ iM (pvD 1)) (pvD 1))) (pvD 1)) iM) iM))
   (iH (iY (i:=3) uN.nd rfl orl (jc lq (jc mQ (pvD 2) iM) iM))
   (iJ (jb (jc mQ (jc mQ (pvD 2) (pvD 3)) (jc kh (jc kh (jc mK (pvD 2) iM) (jc mK (pvD 3) iM)) iM)))))),?_⟩
  walk_at "a";have q:∀j:Int,0<j->j.natAbs<2^64->∀i,FW i j:=λj h0 h1 i=>⟨h0,aaj h1 (by decide)⟩;refine⟨Rh (by decide) (by decide),Rh (by omega) (by omega),Ja (by decide) (by decide),by decide,Ja (by decide) (by decide),by decide,?_⟩;generalize hn:(c+7919*z*z+z)*982451653%2305843009213693951=n;have n0:0<=n:=by rw[<-hn];exact zX _ (by decide)
  have n1:n<2305843009213693951:=by rw[<-hn];exact zS _ (by decide)
  generalize ho:n*1000003%1152921504606846883=o;have o0:0<=o:=by rw[<-ho];exact zX _ (by decide)
  have o1:o<1152921504606846883:=by rw[<-ho];exact zS _ (by decide)
  refine⟨Rh (by omega) (by omega),q _ (by decide) (by decide) _,q _ (by decide) (by decide) _,Ja (by omega) (by omega),k _⟩
def ints_of{acc:List V}(h:∀(i:Nat) v,acc[i]? =some v->∃r,v=V.int r):∃xs:List Int,acc=xs.map V.int:=by
 refine⟨acc.map toI,?_⟩;rw[zq];refine(NP λv q=>?_).symm;obtain⟨j,z,ej⟩:=z9 q;obtain⟨r,rfl⟩:=h j v (by rw[zr z,ej]);rfl
def Mu(T:Txt K mg A D):jQ P w K mg base CX0 2 A.aaG D.aaG ["_law_script"] (Cz K):=by
 refine T.acJ.F.okv Dt λ_ _ _ _ H vs Q E hr h=>?_
 ·obtain⟨a,ns,rfl,hS,hl,k⟩:=h
  refine ⟨_,(iH (kE (PW.pt (Ff (je (Gf) (jl (mV (K:=K)) (by rfl) T.aef (by decide+kernel) (pav 0 iI)) iM (ji _)) (Ep (je (mR) (jc lq (jC (mz (K:=K)) (pvD 0) iM (λ_ _=>rfl)) iM) iM (ji _))))) (iH (iY (i:=1) Dt.nd rfl orl (jl (WW rfl) (by rfl) T.aej (by decide+kernel) (iG (jl (Jz rfl) (by rfl) T.aeh (by decide+kernel) (iG (jl (mV (K:=K)) (by rfl) T.aef (by decide+kernel) (pav 0 iI)) (iG iM iI))) (iG (jc kh iM (jc lq (jc mK (jC (mz (K:=K)) (pvD 0) iM (λ_ _=>rfl)) iM) iM)) iI))))
    (iJ (jb (jW (cap:=[none,some 0]) (N':=["_law_k", "_law_script"]) rfl (by walk_at "c") (Zb (by rfl) T.aek (pav 1 iI)) (λ_ _ _ _=>(iW (i:=0) (show(["_law_k", "_law_script"]:List Str).Nodup from by decide+kernel) rfl orl orr)) (λ_ _ _ _=>jO) (λ_ _ _ _=>(pcg (Mz T) hr T.acI (Qh T) (iG (jC (mz (K:=K)) (pvD 1) (jc lq (pvD 0) (jl (mV (K:=K)) (by rfl) T.aef (by decide+kernel) (pav 1 iI))) (λ_ _=>rfl)) (pav 0 iI)))))))) jn)
   (iJ (jb (jW (cap:=[none]) (N':=["_law_cell"]) rfl (by walk_at "c") (mC (K:=K) (Ac (Dz (K:=K)) (pvD 0) Kc (BZ iM))) (λ_ _ _ _=>(iW (i:=0) nd1 rfl orl orr)) (λ_ _ _ _=>jO) (λ_ _ _ _=>(jc lq (pvD 0) (jc Lw iM iM))))))),?_⟩
  walk_at "a";refine⟨_,.inl hS,?_⟩;rw[za]
  have q:∃ys,SqL K H a ys/\∀p,H p=none->(∃xs,SqL K (upd H p (.lst (NZ ys none (some 63)))) p xs)/\kI [none] (Itl K p) (Sw 0) NK (tOp (rI (λx j=>0<j) λi j=>V.int (i%j)) (tV 0) (tOp (rI amK λi j=>V.int (i^j.toNat)) (tC (V.int 10)) (tC (V.int 60)))) [some (V.ref a),none] (upd H p (.lst (NZ ys none (some 63)))) Q:=by
   refine⟨_,hS,λp hp=>⟨⟨_,iT iK⟩,?_⟩⟩;refine kI.list (xs:=(ns.take 63).map V.int) (λσ=>∃v,σ=[v]) (λ_=>true) (λv=>match v with|.int k=> .int (k%10^60)|_=> .non) (iT ?_) ⟨none,rfl⟩ ?_ ?_ ?_
   ·rw[iK,show(63:Int)=((63:Nat):Int)from rfl,Mr,zzM]
   ·rw[za,zO,zn];omega
   ·rintro x hx σ H5 R1 R2 ⟨v,rfl⟩ z k1 k2
    obtain⟨c,_,rfl⟩:=zb.mp hx;walk_at "a";refine⟨⟨by decide,by decide,by decide⟩,by decide,k1 rfl _ _ ⟨_,rfl⟩ (same_refl _)⟩
   ·intro Da H' hD z e
    rw[JX,zq]at e;exact k Da ((ns.take 63).map λk=>k%10^60) H' ((iR hp).trans z) ((iR hp).free hD) (by rw[e,zq];rfl)
  by_cases h0:0<ns.length
  ·rw[zl (by omega)]
   have hh:(ns.map V.int)[0]? =some (.int (ns.headD 0)):=by
    cases ns with
    |nil=>simp at h0
    |cons c r=>rfl
   have aa:atI (ns.map V.int) 0=some (.int (ns.headD 0)):=Hq (j:=0) hh;refine⟨_,hS,_,aa,_,rfl,by decide,?_⟩;by_cases h1:ns.headD 0%2=1
   ·rw[zl h1]
    refine⟨_,.inl hS,_,hS,_,aa,_,rfl,⟨by decide,by decide⟩,by decide,?_⟩;rw[za];generalize hm:(if 3+ns.headD 0/2%61>if 63<(ns.length:Int)then 63 else(ns.length:Int)then 3+ns.headD 0/2%61 else if 63<(ns.length:Int)then 63 else(ns.length:Int))=m;have hm:0<=m/\m<=63:=by rw[<-hm];split<;>split<;>omega
    refine⟨by omega,by omega,?_⟩;refine ama (λσ=>∃v,σ=[v,some (.ref a)]) (λi v _=>∃r,v=.int r) ⟨_,rfl⟩ (by rw[zn];omega) ?_ ?_
    ·rintro Da i hi σ H5 R ⟨v,rfl⟩ z hD _ kk
     walk_at "a";have h5:=z.seq hS;refine⟨_,.inl h5,by rw[za];omega,_,h5,?_⟩;rw[za];have e0:=zX (0+(i:Int)) (show(ns.length:Int)≠0 by omega);have e1:=zS (0+(i:Int)) (show(0:Int)<ns.length by omega);obtain⟨j,hj⟩:∃j:Nat,(0+(i:Int))%(ns.length:Int)=j:=⟨_,(Int.toNat_of_nonneg e0).symm⟩;rw[hj]at e1⊢;have ab:j<ns.length:=by omega
     exact⟨.int ns[j],Hq (by rw[zm,zr ab];rfl),_,_,rfl,by omega,by omega,λr=>kk _ _ H5 ⟨_,rfl⟩ (same_refl _) λ_ _=>⟨r,rfl⟩⟩
    ·intro Da H' acc hD z hA ac hF
     obtain⟨xs,hx⟩:=ints_of hF;exact k Da xs H' z hD (hx▸hA)
   ·rw[ze h1]
    exact q
  ·rw[ze (by omega)]
   exact q
structure ajs(ws:List Str):Prop where
 l0:3<=ws.length
 l1:ws.length<=6
 n:∀w∈ws,Nm w
 u:ws.Nodup
inductive CK(K:Fg_)(vs:List V)(H:Hp)(Q:VK)(E:XK):Prop
 |mk (a:Addr) (ns:List Int) (_:vs=[.ref a]) (_:SqL K H a (ns.map V.int)) (_:∀p ws H',Same H H'->H p=none->ajs ws->H' p=some (.lst (ws.map V.str))->Q (.ref p) H'):CK K vs H Q E
noncomputable def names:List Str:=["cup", "pot", "zz", "a", "teapots", "b"]
def aai:∀w∈names,Nm w:=by
 unfold Nm;decide+kernel
def Xe:names.Nodup:=by decide+kernel
def XD(w:Str):5<=(names.filter λx=>x !=w).length:=by
 rw[<-Xe.erase_eq_filter,List.length_erase];split<;>decide
def ZQ{w:Str}{m:Nat}(z:Nm w)(h0:2<=m)(h1:m<=5):ajs (w::((names.filter λx=>x !=w).take m)):=by
 have hl:=XD w;refine⟨?_,?_,?_,?_⟩
 ·rw[zE,zO];omega
 ·rw[zE,zO];omega
 ·intro v q
  rcases zt.mp q with rfl|q
  ·exact z
  ·exact aai v (z6.mp (ye q)).1
 ·rw[zR]
  refine⟨λhm=>?_,((List.take_sublist _ _).trans List.filter_sublist).nodup Xe⟩;have:=(z6.mp (ye hm)).2;simp at this
theorem aiE:∀(k:Nat)(c:Int),∀d∈Vl c (List.replicate k 26),0<=d/\d<26
 |0,_,d,h=>by cases h
 |k+1,c,d,h=>by
  rw[yx]at h;rcases zt.mp h with rfl|h
  ·exact⟨zX _ (by decide),zS _ (by decide)⟩
  ·exact aiE k _ d h
def VV:(Str.ofString "abcdefghijklmnopqrstuvwxyz").cps.toList=(List.range 26).map λi=>97+i:=by decide+kernel
def WX{d:Int}(q:0<=d)(h1:d<26):atI (Str.ofString "abcdefghijklmnopqrstuvwxyz").cps.toList d=some (97+d.toNat):=by
 rw[VV,show d=((d.toNat:Nat):Int) by omega];refine Hq ?_;rw[zm,zzW (by omega),zz7];rfl
def Pu(z:Str)(c:Nat):(z++(⟨#[c]⟩:Str)).length=z.length+1:=by
 show(z.cps++ #[c]).size=z.cps.size+1;simp
def Ow(z:Str)(c x:Nat)(h:x∈(z++(⟨#[c]⟩:Str)).cps.toList):x∈z.cps.toList\/x=c:=by
 have h:x∈(z.cps++ #[c]).toList:=h
 simpa using h
def Wl(z:Str):((names.map V.str).filter λv=>!decide (v=.str z)).map id=(names.filter λx=>x !=z).map V.str:=by
 rw[yyp,List.filter_map];refine congrArg _ (List.filter_congr λx _=>?_);show(!decide (V.str x=V.str z))=(x !=z);by_cases h:x=z
 ·subst h;simp
 ·simp[h]
def Np(T:Txt K mg A D):jQ P w K mg base CX0 2 A.aaC D.aaC ["_law_script"] (CK K):=by
 refine T.acF.F.okv nH λ_ _ _ _ H vs Q E hr h=>?_
 ·obtain⟨a,ns,rfl,hS,k⟩:=h
  refine ⟨_,(iH (iY (i:=1) nH.nd rfl orr jj)
   (iH (oh zW rfl (mC (K:=K) (Ac (Dz (K:=K)) (pcg (tH T) hr T.acD (uF T) (iG (jc mK (pcg (lH T) hr T.acE (lZ T) (pav 0 (iG iM iI))) iM) (iG (jc alh (jV (iG iM iI)) iM) iI))) Kc (BZ (jc kh iM (jc lq (pcg (lH T) hr T.acE (lZ T) (pav 0 (iG iM iI))) iM))))) (iW (i:=2) nH.nd rfl orl)
    (iJ (iY (i:=1) nH.nd rfl orr (jc ju (pvD 1) (jC akJ jj (pvD 2) (λ_ _=>rfl))))))
   (iH (iY (i:=3) nH.nd rfl orl (jC (mz (K:=K)) (jV (iG iM (iG iM iI))) (jJ Za (by rfl) T.aeg (by decide+kernel) (iG (uK (mR) (jc lq (jc mK (pcg (lH T) hr T.acE (lZ T) (pav 0 (iG iM iI))) iM) iM) iM (ji _)) iI)) (λ_ _=>rfl)))
   (iJ (jb (jc Tj (jV (pav 1 iI)) (Ac (Dz (K:=K)) (jW (cap:=[none,some 1]) (N':=["_law_name", "_law_word"]) rfl (by walk_at "c") (mC (K:=K) (jV (iG jj (iG jj (iG jj (iG jj (iG jj (iG jj iI)))))))) (λ_ _ _ _=>(iW (i:=0) (show(["_law_name", "_law_word"]:List Str).Nodup from by decide+kernel) rfl orl orr)) (λ_ _ _ _=>(JD (je (ZM) (pvD 0) (pvD 1) (ji _)))) (λ_ _ _ _=>(pvD 0))) Kc (BZ (pvD 3))))))))),?_⟩
  simp only[start_eq];walk_at "l";rw[ap_seq,ap_for];walk_at "i";obtain⟨c,hc⟩:∃c,c=ns.getD 1 0:=⟨_,rfl⟩;refine⟨a,ns,1,rfl,hS,_,rfl,⟨by decide,by decide⟩,sz,λp1 ap=>?_⟩;have s1:=iR (o:=.lst [V.int 26]) ap;rw[ajo];refine⟨_,iK,by decide,by decide,sz,λp2 ak=>?_⟩;have s2:=s1.trans (iR (o:=.lst (List.replicate (8:Int).toNat [V.int 26]).flatten) ak);refine⟨_,p2,List.replicate 8 26,rfl,iT (by rw[iK];rfl),λb hb=>by rw[(List.mem_replicate.mp hb).2];exact⟨by decide,by decide⟩,by rw[zzB];decide,λp3 H3 s3 au h3=>?_⟩;have s3:=s2.trans s3;refine⟨a,ns,1,rfl,s3.seq hS,_,rfl,by decide,p3,rfl,_,iT h3,λp4 an=>⟨⟨_,iT iK⟩,?_⟩⟩;rw[<-hc];have ae:H p4=none:=s3.free an;have aq:=zX c (show(8:Int)≠0 by decide);have ar:=zS c (show(0:Int)<8 by decide);obtain⟨n,hn⟩:∃n:Nat,(n:Int)=1+c%8:=⟨(1+c%8).toNat,by omega⟩;rw[<-hn,Mr,<-zzM];have hd:∀d∈(Vl (c/8) (List.replicate 8 26)).take n,0<=d/\d<26:=λd h=>aiE _ _ d (ye h);have ad:((Vl (c/8) (List.replicate 8 26)).take n).length=n:=by rw[zO,Bo,zzB];omega
  generalize(Vl (c/8) (List.replicate 8 26)).take n=ds at hd ad
  refine pG (K:=K) (a:=p4) (xs:=ds.map V.int) (λi σ H2=>∃z v2 v3,σ=[some (.ref a),some (.str z),v2,v3]/\Same H H2/\H2 p4=some (.lst (ds.map V.int))/\z.length=i/\∀x∈z.cps.toList,97<=x/\x<=122)
   ⟨_,none,none,rfl,s3.upd ae,iK,by decide+kernel,by decide+kernel⟩ (λi σ H2 _ ⟨_,_,_,_,_,h4,_⟩=>iT h4) ?_ ?_
  ·rintro i y σ H2 hi ⟨z,v2,v3,rfl,sm,h4,hz,hl⟩
   obtain⟨d,rfl,ac⟩:=uT hi;have as:i<ds.length:=(zp.mp ac).1;obtain⟨d0,d1⟩:=hd d (zh ac);walk_at "a";refine⟨by decide+kernel,_,WX d0 d1,?_⟩;refine⟨by rw[zn];show z.length+1<=_;omega,sm,h4,by rw[Pu,hz],λx hx=>?_⟩;rcases Ow _ _ _ hx with h|h
   ·exact hl x h
   ·omega
  ·rintro σ H2 ⟨z,v2,v3,rfl,sm,h4,hz,hl⟩
   rw[za,ad]at hz;have hN:Nm z:=⟨by omega,by omega,hl⟩
   try dsimp only
   walk_at "l";refine⟨sz,λq1 ao=>?_⟩;have t1:Same H (upd H2 q1 (.lst [V.int 2,V.int 5])):=sm.trans (iR ao)
   obtain ⟨m,ai,aj,am⟩:∃m:Nat,2<=m/\m<=5/\atI [V.int 2,V.int 5] (if ns.getD 0 0/122%8=3 then 1 else 0)=some (.int m):=by
    split
    ·exact⟨5,by decide,by decide,rfl⟩
    ·exact⟨2,by decide,by decide,rfl⟩
   refine⟨a,ns,0,rfl,t1.seq hS,_,rfl,⟨by decide,by decide⟩,by decide,.inr ?_⟩;refine⟨_,iT iK,_,am,sz,λq2 al=>⟨sz,λq3 ah=>⟨⟨_,iT iK⟩,?_⟩⟩⟩;obtain⟨H4,ab⟩:∃H4,H4=upd (upd H2 q1 (.lst [V.int 2,V.int 5])) q2 (.lst [V.str z]):=⟨_,rfl⟩;rw[<-ab]at ah⊢;have t2:Same H H4:=ab▸t1.trans (iR al);have hq2':H4 q2=some (.lst [V.str z]):=by rw[ab,iK]
   have t3:Same H4 (upd H4 q3 (.lst (names.map V.str))):=iR ah;refine kI.list (xs:=names.map V.str) (λσ=>∃v,σ=[v,some (.str z)]) (λv=>!decide (v=.str z)) id (iT iK) ⟨none,rfl⟩ (by rw[za,zn];decide) ?_ ?_
   ·rintro x hx σ H5 R1 R2 ⟨v,rfl⟩ aa k1 k2
    obtain⟨w',_,rfl⟩:=zb.mp hx;walk_at "a";by_cases hw:w'=z
    ·rw[ze (λh=>h hw)]
     exact k2 (by simp[hw]) _ _ ⟨_,rfl⟩ (same_refl _)
    ·rw[zl hw]
     exact k1 (by simp[hw]) _ _ ⟨_,rfl⟩ (same_refl _)
   ·intro Da H' hD aa e
    rw[Wl]at e;refine⟨m,rfl,Da,rfl,_,iT e,λq4 ag=>?_⟩;rw[Mr,<-zzM];have q:H' q2=some (.lst [V.str z]):=aa _ _ (t3 _ _ hq2');refine⟨[V.str z],by rw[iZ (λh=>by rw[h,ag]at q;cases q)];exact q,_,iK,?_,λq5 af=>?_⟩
    ·rw[zn,za,zO]
     show 1+_<=_;omega
    ·have t4:=(t2.trans t3).trans (aa.trans (iR (o:=.lst (((names.filter λx=>x !=z).take m).map V.str)) ag))
     exact k q5 (z::((names.filter λx=>x !=z).take m)) _ (t4.upd (t4.free af)) (t4.free af) (ZQ hN ai aj) iK
local macro_rules | `(tactic| walk_at "nxi") => `(tactic| ((try dsimp only); refine lD fun u hu => ?_; rw [ap_seq]; refine ajJ fun v w hv hw => ?_; walk_at "i"; subst hv hw hu))
def ais{j i:Nat}{σ:L2.St}{H:Hp}{Q:VK}{x s a b c d:Int}(hx:σ[j]? =some (some (.int x)))(hs:σ[i]? =some (some (.int s)))(z:0<=s/\s<4)(ha:Rg 1 1000 a)(hb:Rg 1 1000 b)(hc:Rg 1 1000 c)(hd:Rg 1 1000 d)(k:∀v H',Same H H'->Rg 1 1000 v->Q (.int v) H'):
  tOp (rI0 λi j=>V.int (i+j)) (tC (V.int 1)) (tOp (rI (λ_ j=>0<j) λi j=>V.int (i%j)) (tV j) (tOp (akd K) (akA (pB (tC (V.int a)) (pB (tC (V.int b)) (pB (tC (V.int c)) (pB (tC (V.int d)) Uu))))) (tV i))) σ H Q:=by
 obtain⟨m,hm,bm⟩:=at4 z.1 z.2 ha hb hc hd;simp only[L2.ap_op,L2.av_V,L2.atV_iff,L2.ap_c];refine⟨_,hx,?_⟩;rw[ap_lst];simp only[L2.ap_cons,L2.ap_c,L2.ap_nil];refine⟨by rw[zn];show 4<=_;decide,λq hq=>⟨_,hs,?_⟩⟩;unfold Rg at bm;have g0:=zX x (show m≠0 by omega);have g1:=zS x (show 0<m by omega);exact⟨q,_,s,_,rfl,rfl,iT iK,hm,x,m,rfl,rfl,by omega,1,x%m,rfl,rfl,k _ _ (iR hq) ⟨by omega,by omega⟩⟩
inductive Df(K:Fg_)(vs:List V)(H:Hp)(Q:VK)(E:XK):Prop
 |mk (c d n:Int) (wa hd:Addr) (ws:List Str) (kvs:List (Key×V)) (_:vs=[.int c,.int d,.int n,.ref wa,.ref hd]) (_:H wa=some (.lst (ws.map V.str))) (_:ajs ws) (_:H hd=some (.dK kvs)) (_:(∀w:Str,∃i:Int,0<=i/\(pF kvs (Sum.inr w)).getD (.int 0)=.int i)) (_:Rg 0 1000000 d) (_:Rg 0 1000000 n) (_:∀(t:Addr)(e:Ent)(H':Hp),Same H H'->H t=none->H' t=some (.tup (.str e.word::e.args .non))->e.good->e.lots=none->e.day=d->e.num=n->e.ware∈ws/\e.oth∈ws->Q (.ref t) H'):Df K vs H Q E
def Nv(T:Txt K mg A D):jQ P w K mg base CX0 2 A.aaD D.aaD ["_law_cell", "_law_day", "_law_number", "_law_wares_here", "_law_held"] (Df K):=by
 refine T.acG.F.okv jx λ_ _ _ _ H vs Q E hr h=>?_
 ·obtain⟨c,d,n,wa,hd,ws,kvs,rfl,aa,hW,ad,hv,ai,ag,k⟩:=h
  refine ⟨_,(iH (aiD (pcg (tH T) hr T.acD (uF T) (pav 0 (iG (jV (iG iM (iG iM (iG iM (iG (jc Lw iM iM) (iG (jc kh (jc Lw iM iM) iM) (iG (jc kh (jc Lw iM iM) iM) iI))))))) iI))) (XF (K:=K) (n:=6) rfl (jw (iW (i:=5) jx.nd rfl orl) (jw (iW (i:=6) jx.nd rfl orl) (jw (iW (i:=7) jx.nd rfl orl) (jw (iW (i:=8) jx.nd rfl orl) (jw (iW (i:=9) jx.nd rfl orl) (jw (iW (i:=10) jx.nd rfl orl) nQ))))))))
   (iH (iY (i:=11) jx.nd rfl orl (jl (mV (K:=K)) (by rfl) T.aef (by decide+kernel) (pav 3 iI)))
   (iH (iY (i:=12) jx.nd rfl orl (jC (mz (K:=K)) (pvD 3) (jc lq (pvD 6) (pvD 11)) (λ_ _=>rfl)))
   (iH (iY (i:=13) jx.nd rfl orl (rm (Cm hr) (pvD 4) (pvD 12) iM ⟨rfl,rfl,rfl,rfl⟩))
   (iH (iY (i:=8) jx.nd rfl orl (jc kh (jC (mz (K:=K)) (jV (iG (jc lq (pvD 8) iM) (iG (jc lq (pvD 8) iM) (iG (jc lq (pvD 8) iM) (pav 8 iI))))) (pvD 7) (λ_ _=>rfl)) iM))
   (iH (iY (i:=9) jx.nd rfl orl (jC (mz (K:=K)) (jV (iG (jc lq (pvD 9) iM) (iG (jc lq (pvD 9) iM) (pav 9 iI)))) (jc lq (pvD 8) iM) (λ_ _=>rfl)))
   (iH (iY (i:=10) jx.nd rfl orl (jC (mz (K:=K)) (jV (iG iM (iG (jc lq (pvD 10) iM) (pav 10 iI)))) (jc lq (jc mK (pvD 8) iM) iM) (λ_ _=>rfl)))
   (iH (kE (PW.pt (Ff (je (Gf) (pvD 5) iM (ji _)) (Ff (je (Ik) (pvD 5) iM (ji _)) (Ep (je (Gf) (pvD 13) iM (ji _)))))) (iJ (iY (i:=8) jx.nd rfl orl (jc kh iM (jc lq (pvD 8) (jl (Jz rfl) (by rfl) T.aeh (by decide+kernel) (pav 13 (iG (jc Lw iM iM) iI))))))) jn)
   (iH (kE (je (mR) (pvD 5) iM (ji _)) (iH (iY (i:=14) jx.nd rfl orl (jc kh (jc lq (pvD 10) (jc Lw iM iM)) iM))
    (iH (iY (i:=15) jx.nd rfl orl (jC (mz (K:=K)) (pvD 3) (jc lq (jc kh (jc kh (jc lq (pvD 6) (pvD 11)) iM) (jc lq (pvD 7) (jc uf (pvD 11) iM))) (pvD 11)) (λ_ _=>rfl)))
    (iJ (jb (nP (iG jj (pav 1 (pav 2 (pav 12 (pav 15 (iG (jc lq (pvD 9) (jc kh (pvD 14) iM)) (pav 14 iI)))))))))))) jn)
   (iH (kE (je (Gf) (pvD 5) iM (ji _)) (iJ (jb (nP (iG jj (pav 1 (pav 2 (pav 12 (iG (jc kh iM (jc lq (pvD 9) (jC (mz (K:=K)) (jV (iG iM (iG iM (iG iM (iG iM iI))))) (pvD 7) (λ_ _=>rfl)))) (iG (jc kh iM (jc lq (pvD 10) (jC (mz (K:=K)) (jV (iG iM (iG iM (iG iM (iG iM iI))))) (pvD 7) (λ_ _=>rfl)))) iI))))))))) jn)
   (iH (kE (je (mR) (pvD 5) iM (ji _)) (iJ (jb (nP (iG jj (pav 1 (pav 2 (pav 12 (pav 8 (iG (jc mQ (pvD 9) (pvD 10)) (iG (jc uf (pvD 1) (jc lq (pvD 10) (jc kh (pvD 1) iM))) iI)))))))))) jn)
   (iH (kE (PW.pt (JQ (je (Ik) (pvD 5) iM (ji _)) (Cr (je (mR) (pvD 13) iM (ji _))))) (iJ (jb (nP (iG jj (pav 1 (pav 2 (pav 12 (pav 8 (pav 9 (pav 10 iI)))))))))) jn)
   (iH (kE (je (Ik) (pvD 5) iM (ji _)) (iJ (jb (nP (iG jj (pav 1 (pav 2 (pav 12 (pav 8 (pav 9 (pav 10 (iG mF iI))))))))))) jn)
   (iJ (jb (nP (iG jj (pav 1 (pav 2 (pav 12 (pav 8 (iG mF iI)))))))))))))))))))))),?_⟩
  simp only[start_eq];walk_at "n";refine⟨⟨by decide,by decide,by decide⟩,⟨by decide,by decide,by decide⟩,⟨by decide,by decide,by decide⟩,sz,λp1 bi=>?_⟩;have s1:=iR (o:=.lst [V.int 16,V.int 6,V.int 4,V.int (10^(9:Int).toNat),V.int (10^(9:Int).toNat+1),V.int (10^(9:Int).toNat+1)]) bi;refine⟨c,p1,[16,6,4,1000000000,1000000001,1000000001],rfl,iT (by rw[iK];rfl),by unfold FW;decide,by decide,λp2 H2 s2 b5 h2=>?_⟩;have s2:=s1.trans s2
  obtain ⟨kd,ix,si,pc,pr,ex,bx,ax,az,bsz,aj,aq,al⟩:∃kd ix si pc pr ex:Int,Vl c [16,6,4,1000000000,1000000001,1000000001]=[kd,ix,si,pc,pr,ex]/\Rg 0 15 kd/\Rg 0 5 ix/\Rg 0 3 si/\Rg 0 999999999 pc/\Rg 0 1000000000 pr/\Rg 0 1000000000 ex:=
   ⟨_,_,_,_,_,_,rfl,vm (by decide) (by decide) (by decide),vm (by decide) (by decide) (by decide),vm (by decide) (by decide) (by decide),vm (by decide) (by decide) (by decide),vm (by decide) (by decide) (by decide),vm (by decide) (by decide) (by decide)⟩
  rw[bx]at h2;refine⟨p2,rfl,_,iT h2,rfl,_,_,rfl,_,_,rfl,_,_,rfl,_,_,rfl,_,_,rfl,_,_,rfl,rfl,?_⟩;have aa:=s2 _ _ aa;have ad:=s2 _ _ ad;walk_at "n";refine⟨_,.inl (iT aa),?_⟩;rw[za];have b7:=hW.l0;have b4:=hW.l1;unfold Rg at ax az bsz aj aq al ai ag;have ao:=zX ix (show(ws.length:Int)≠0 by omega);have am:=zS ix (show(0:Int)<ws.length by omega);obtain⟨w,bl,q⟩:=Xo ao am;have ba:Nm w:=hW.n w (zh q);walk_at "n";refine⟨by omega,_,iT aa,_,bl,?_⟩;obtain⟨th,b3,bz⟩:=hv w;walk_at "n";refine⟨.inl ⟨kvs,.inl ad⟩,_,aif (k:=Sum.inr w) ad,?_⟩;rw[bz];walk_at "n";refine⟨by decide,by decide,by decide,sz,λq1 be=>?_⟩;obtain⟨p0,bs,bb⟩:=at4 (a:=pc%4) (b:=pc%50) (c:=pc%3000) (d:=pc) (lo:=0) (hi:=999999999) bsz.1 (by omega) (vm (by decide) (by decide) (by decide)) (vm (by decide) (by decide) (by decide)) (vm (by decide) (by decide) (by decide)) aj;refine⟨_,iT iK,_,bs,_,rfl,?_⟩;generalize bd:upd H2 q1 _=H3;have s3:Same H2 H3:=bd▸iR be;obtain⟨p,hp⟩:∃p,p=p0+1:=⟨_,rfl⟩;rw[<-hp];have bp:Rg 1 1000000000 p:=by unfold Rg at bb⊢;omega
  walk_at "n";obtain⟨r,bw,br⟩:=at3 (i:=p%3) (a:=pr%9) (b:=pr%500) (c:=pr) (lo:=0) (hi:=1000000000) (zX _ (by decide)) (zS _ (by decide)) (vm (by decide) (by decide) (by decide)) (vm (by decide) (by decide) (by decide)) aq;refine⟨by decide,by decide,sz,λq2 av=>⟨by decide,_,iT iK,_,bw,?_⟩⟩;generalize bq:upd H3 q2 _=H4;have s4:Same H3 H4:=bq▸iR av;walk_at "n";obtain⟨f,bv,bf⟩:=at3 (i:=p/3%3) (a:=0) (b:=ex%30) (c:=ex) (lo:=0) (hi:=1000000000) (zX _ (by decide)) (zS _ (by decide)) ⟨by decide,by decide⟩ (vm (by decide) (by decide) (by decide)) al;refine⟨by decide,sz,λq3 b0=>⟨⟨by decide,by decide⟩,by decide,_,iT iK,_,bv,?_⟩⟩;generalize bj:upd H4 q3 _=H5;have s5:Same H4 H5:=bj▸iR b0;have sH:Same H H5:=s2.trans (s3.trans (s4.trans s5));have aa:H5 wa=some (.lst (ws.map V.str)):=s5 _ _ (s4 _ _ (s3 _ _ aa));refine GD (λσ H'=>H'=H5/\∃p',Rg 1 1000000000 p'/\σ=[some (.int c),some (.int d),some (.int n),some (.ref wa),some (.ref hd),some (.int kd),some (.int ix),some (.int si),some (.int p'),some (.int r),some (.int f),some (.int ws.length),some (.str w),some (.int th),none,none]) ?_ ?_
  rotate_left
  ·intro N hN
   walk_at "i";have ab:N [some (.int c),some (.int d),some (.int n),some (.ref wa),some (.ref hd),some (.int kd),some (.int ix),some (.int si),some (.int p),some (.int r),some (.int f),some (.int ws.length),some (.str w),some (.int th),none,none] H5:=hN _ _ ⟨rfl,p,bp,rfl⟩;split
   ·split
    ·split
     ·refine⟨⟨by decide,by decide,by decide⟩,?_,hN _ _ ⟨rfl,_,?_,rfl⟩⟩
      ·split
       ·decide
       ·assumption
      ·rw[e9]
       split
       ·unfold Rg
        have h1:=zX p (show(1000000000:Int)≠0 by decide);have h2:=zS p (show(0:Int)<1000000000 by decide);omega
       ·unfold Rg
        have h1:=zX p (show th≠0 by omega);have h2:=zS p (show 0<th by omega);omega
     ·exact ab
    ·exact ab
   ·exact ab
  ·rintro σ' H' ⟨rfl,p',an,rfl⟩
   have bB:Base d n w:=⟨ai.1,ai.2,ag.1,ag.2,ba⟩;have bk:Rg 0 1000000000000000000 (r*f):=Tp br bf;have ae:=an;have ap:=br;have ar:=bf;unfold Rg at an br bf;walk_at "nxi";by_cases au:kd=15
   ·rw[zl au]
    walk_at "n";refine⟨⟨by decide,by decide,by decide⟩,by decide,?_⟩;rw[e6];obtain⟨wh,bu⟩:∃wh,wh=f%1000000+1:=⟨_,rfl⟩
    have ac:Rg 1 1000000 wh:=by
     have h1:=zX f (show(1000000:Int)≠0 by decide);have h2:=zS f (show(0:Int)<1000000 by decide);unfold Rg;omega
    rw[<-bu];have bm:=zX si (show(ws.length:Int) - 1≠0 by omega);have ay:=zS si (show(0:Int)<(ws.length:Int) - 1 by omega);have bc:=zX (ix%ws.length+1+si%((ws.length:Int) - 1)) (show(ws.length:Int)≠0 by omega);have aw:=zS (ix%ws.length+1+si%((ws.length:Int) - 1)) (show(0:Int)<ws.length by omega);have b8:=aav ao am bm ay;obtain⟨u,bn,ah⟩:=Xo bc aw;have bh:u≠w:=ajQ hW.u ah q (by omega);walk_at "n";refine⟨by omega,by omega,by omega,_,iT aa,_,bn,?_⟩;have bg:=zX r (show wh+1≠0 by unfold Rg at ac;omega);have b6:=zS r (show 0<wh+1 by unfold Rg at ac;omega);rw[ap_ret];(try dsimp only);walk_at "i";refine⟨by unfold Rg at ac;omega,sz,λt z=>?_⟩;exact k t (.part d n w u (r%(wh+1)) wh) _ (sH.upd (sH.free z)) (sH.free z) iK ⟨bB,hW.n u (zh ah),bh,ac,⟨bg,by omega⟩⟩ rfl rfl rfl ⟨zh q,zh ah⟩
   rw[ze au,ap_next];walk_at "nxi";by_cases ak:kd>11
   ·rw[zl ak]
    rw[ap_ret];generalize h5:tOp (rI0 λi j=>V.int (i+j)) (tC (V.int 1)) (tOp (rI (λ_ j=>0<j) λi j=>V.int (i%j)) (tV 9) (tOp (akd K) (akA (pB (tC (V.int 3)) (pB (tC (V.int 3)) (pB (tC (V.int 10)) (pB (tC (V.int 1000)) Uu))))) (tV 7)))=e5;generalize h6:tOp (rI0 λi j=>V.int (i+j)) (tC (V.int 1)) (tOp (rI (λ_ j=>0<j) λi j=>V.int (i%j)) (tV 10) (tOp (akd K) (akA (pB (tC (V.int 3)) (pB (tC (V.int 5)) (pB (tC (V.int 10)) (pB (tC (V.int 1000)) Uu))))) (tV 7)))=e6
    (try dsimp only);walk_at "i"
    have R3:∀x:Int,1<=x->x<=1000->Rg 1 1000 x:=λx a b=>⟨a,b⟩;rw[<-h5];refine ais rfl rfl ⟨bsz.1,by omega⟩ (R3 _ (by decide) (by decide)) (R3 _ (by decide) (by decide)) (R3 _ (by decide) (by decide)) (R3 _ (by decide) (by decide)) λv1 H1 bt b1=>?_;rw[<-h6];refine ais rfl rfl ⟨bsz.1,by omega⟩ (R3 _ (by decide) (by decide)) (R3 _ (by decide) (by decide)) (R3 _ (by decide) (by decide)) (R3 _ (by decide) (by decide)) λv2 H2' bo b2=>⟨sz,λt z=>?_⟩;have af:=sH.trans (bt.trans bo);exact k t (.split d n w v1 v2) _ (af.upd (af.free z)) (af.free z) iK ⟨bB,b1,b2⟩ rfl rfl rfl ⟨zh q,zh q⟩
   rw[ze ak,ap_next];walk_at "nxi";by_cases h6:kd=6
   ·rw[zl h6]
    have g0:=zX f (show d+1≠0 by omega);have g1:=zS f (show 0<d+1 by omega);rw[ap_ret];(try dsimp only);walk_at "i";refine⟨Rh (by omega) (by omega),by omega,sz,λt z=>?_⟩;exact k t (.gift d n w p' (r*f) (d - f%(d+1))) _ (sH.upd (sH.free z)) (sH.free z) iK ⟨bB,ae,bk,⟨by omega,by omega⟩⟩ rfl rfl rfl ⟨zh q,zh q⟩
   rw[ze h6,ap_next];walk_at "nxi"
   have as:(7:Nat)<=sizeLine/\∀t,H' t=none->Q (.ref t) (upd H' t (.tup [V.str (Str.ofString "buy"),V.int d,V.int n,V.str w,V.int p',V.int r,V.int f])):=
    ⟨sz,λt z=>k t (.buy d n w p' r f) _ (sH.upd (sH.free z)) (sH.free z) iK ⟨bB,ae,ap,ar⟩ rfl rfl rfl ⟨zh q,zh q⟩⟩
   by_cases h7:kd<6
   ·rw[zl h7]
    rw[ap_ret];(try dsimp only);walk_at "i";exact as
   rw[ze h7];by_cases h8:th=0
   ·rw[zl h8]
    rw[ap_ret];(try dsimp only);walk_at "i";exact as
   rw[ze h8,ap_next];walk_at "nxi";by_cases h9:kd<10
   ·rw[zl h9]
    rw[ap_ret];(try dsimp only);walk_at "i";refine⟨sz,λt z=>?_⟩;exact k t (.sell d n w p' r f none) _ (sH.upd (sH.free z)) (sH.free z) iK ⟨bB,ae,ap,ar,trivial⟩ rfl rfl rfl ⟨zh q,zh q⟩
   rw[ze h9,ap_next]
   try dsimp only
   rw[ap_ret];(try dsimp only);walk_at "i";refine⟨sz,λt z=>?_⟩;exact k t (.give d n w p' none) _ (sH.upd (sH.free z)) (sH.free z) iK ⟨bB,ae,trivial⟩ rfl rfl rfl ⟨zh q,zh q⟩
def Ug{kvs:List (Key×V)}(h:GP kvs)(z:Str){n:Int}(hn:1<=n):GP (putK kvs (Sum.inr z) (.int n)):=by
 refine⟨λkv q=>?_,CV h.u⟩;rcases Jp q with rfl|h1
 ·exact⟨z,n,rfl,hn⟩
 ·exact h.k kv h1
def Yq(kvs:List (Key×V))(z:Str)(n:Int)(y:Str):jq (putK kvs (Sum.inr z) (.int n)) y=if y=z then n else jq kvs y:=by
 unfold jq;rw[MN];by_cases e:y=z
 ·rw[zl e,zl (by rw[e])]
 ·rw[ze e,ze (λq=>e (yL q))]
theorem Vi:∀(kvs:List (Key×V))(k j:Key),pF (Dv kvs k) j=if j=k then none else pF kvs j
 |[],k,j=>by split<;>rfl
 |p::kvs,k,j=>by
  have ih:=Vi kvs k j;unfold Dv at ih⊢;by_cases e:p.1=k
  ·rw[yd (by simp[e]),ih]
   by_cases q:j=k
   ·rw[zl q,zl q]
   ·rw[ze q,ze q,kJ (λz=>q (z.symm.trans e))]
  ·rw[yc (by simp[e])]
   by_cases q:p.1=j
   ·rw[lu q,lu q,ze (λz=>e (q.trans z))]
   ·rw[kJ q,kJ q,ih]
def XX{kvs:List (Key×V)}(h:GP kvs)(z:Str)(n:Int):GP (Dv (putK kvs (Sum.inr z) (.int n)) (Sum.inr z)):=by
 refine⟨λkv q=>?_,zzo (List.filter_sublist.map _) (CV h.u)⟩;obtain⟨h1,h2⟩:=z6.mp q;rcases Jp h1 with rfl|h1
 ·simp at h2
 ·exact h.k kv h1
def ahG(kvs:List (Key×V))(z:Str)(n:Int)(y:Str):jq (Dv (putK kvs (Sum.inr z) (.int n)) (Sum.inr z)) y=if y=z then 0 else jq kvs y:=by
 unfold jq;rw[Vi,MN];by_cases e:y=z
 ·rw[zl e,zl (by rw[e])]
 ·rw[ze e,ze (λq=>e (yL q)),ze (λq=>e (yL q))]
def aal(kvs:List (Key×V))(k:Key):(Dv kvs k).length<=kvs.length:=Tu kvs k
def Nq{t u:TS}{D:Ends}{σ:L2.St}{H:Hp}(P:L2.St->Hp->Prop)(k:∀q H',P q H'->u D q H')(h:∀N:L2.St->Hp->Prop,(∀q H',P q H'->N q H')->t {D with nx:=N} σ H):ZG t u D σ H:=h (u D) k
noncomputable def Ent.pc1:Ent->Int->Int
 |.buy _ _ _ p _ _,h=>h+p
 |.gift _ _ _ p _ _,h=>h+p
 |_,h=>h
noncomputable def Ent.pc2:Ent->Int->Int
 |.sell _ _ _ p _ _ _,h=>h - p
 |.give _ _ _ p _,h=>h - p
 |e,h=>e.pc1 h
noncomputable def Ent.pc3:Ent->Int->Int
 |.split _ _ _ m f,h=>h*m/f
 |e,h=>e.pc2 h
noncomputable def Ent.mid:Ent->List (Key×V)->List (Key×V)
 |.part _ _ w u _ _,kvs=>if 0<jq kvs w then putK kvs (Sum.inr u) (.int (jq kvs u+jq kvs w))else kvs
 |_,kvs=>kvs
def ZP{e:Ent}{kvs:List (Key×V)}(h:GP kvs):GP (e.mid kvs):=by
 cases e with
 |part d n w u s t=>
  show GP (if _ then _ else _);split
  ·exact Ug h u (by have:=h.nn u;omega)
  ·exact h
 |_=>exact h
def aiL(e:Ent)(kvs:List (Key×V)):(e.mid kvs).length<=kvs.length+1:=by
 cases e with
 |part d n w u s t=>
  show(if _ then _ else _:List (Key×V)).length<=_;split
  ·exact Rp _ _ _
  ·omega
 |_=>exact yz _
def als{e:Ent}{kvs:List (Key×V)}(hg:e.good)(c:0<=e.pc3 (jq kvs e.ware))(h0:0<=jq kvs e.ware)(q:e.word= "split" ->¬(e.pc3 (jq kvs e.ware)=0/\0<jq kvs e.ware)):
  aix (jq kvs) e/\∀y,(if y=e.ware then e.pc3 (jq kvs e.ware)else jq (e.mid kvs) y)=ajB (jq kvs) e y:=by
 cases e with
 |buy d n w p r f=>exact⟨trivial,λy=>rfl⟩
 |gift d n w p r f=>exact⟨trivial,λy=>rfl⟩
 |sell d n w p r f o=>
  have c':0<=jq kvs w - p:=c;exact⟨by show p<=jq kvs w;omega,λy=>rfl⟩
 |give d n w p o=>
  have c':0<=jq kvs w - p:=c;exact⟨by show p<=jq kvs w;omega,λy=>rfl⟩
 |split d n w m f=>
  have c':0<=jq kvs w*m/f:=c;have h0:0<=jq kvs w:=h0;have q:¬(jq kvs w*m/f=0/\0<jq kvs w):=q rfl;exact⟨by show jq kvs w=0\/1<=jq kvs w*m/f;omega,λy=>rfl⟩
 |part d n w u s t=>
  have aa:u≠w:=hg.2.2.1;have h0:0<=jq kvs w:=h0;refine⟨trivial,λy=>?_⟩;show(if y=w then jq kvs w else jq (if 0<jq kvs w then putK kvs (Sum.inr u) (.int (jq kvs u+jq kvs w))else kvs) y)=if y=u then jq kvs u+jq kvs w else jq kvs y;by_cases ey:y=w
  ·rw[zl ey,ze (λz=>aa (z.symm.trans ey)),ey]
  ·rw[ze ey]
   by_cases hp:0<jq kvs w
   ·rw[zl hp,Yq]
   ·rw[ze hp]
    by_cases eu:y=u
    ·rw[zl eu,eu];omega
    ·rw[ze eu]
noncomputable def alQ(e:Ent)(kvs kv3:List (Key×V)):Prop:=aix (jq kvs) e/\GP kv3/\kv3.length<=kvs.length+2/\∀y,jq kv3 y=ajB (jq kvs) e y
inductive qR(vs:List V)(H:Hp)(Q:VK)(E:XK):Prop
 |mk (a t:Addr) (e:Ent) (kvs:List (Key×V)) (_:vs=[.ref a,.ref t]) (_:Rd H a (.dK kvs)) (_:GP kvs) (_:kvs.length<=200) (_:H t=some (.tup (.str e.word::e.args .non))) (_:e.good) (_:(∀H',Same H H'->Q .non H')) (_:∀kv3,alQ e kvs kv3->∀p H',Same H H'->H p=none->H' p=some (.dK kv3)->Q (.ref p) H'):qR vs H Q E
def BP(T:Txt K mg A D):jQ P w K mg base CX0 1 A.aaE D.aaE ["_law_held", "_law_told"] (qR):=by
 refine T.acH.F.okv jE λ_ _ _ _ H vs Q E hr h=>?_
 ·obtain⟨a,t,e,kvs,rfl,ha,hH,hl,ht,hg,k1,k2⟩:=h
  refine ⟨_,(iH (iY (i:=2) jE.nd rfl orl (jJ HF (by rfl) T.aei (by decide+kernel) (pav 0 iI)))
   (iH (iY (i:=3) jE.nd rfl orl (jC (jg (K:=K)) (pvD 1) iM (λ_ _=>rfl)))
   (iH (iY (i:=4) jE.nd rfl orl (rm (Cm hr) (pvD 2) (pvD 3) iM ⟨rfl,rfl,rfl,rfl⟩))
   (iH (iY (i:=5) jE.nd rfl orl (pvD 4))
   (iH (kE (PW.pt (JQ (je (mR) (jC (jg (K:=K)) (pvD 1) iM (λ_ _=>rfl)) jj (ji _)) (Cr (je (mR) (jC (jg (K:=K)) (pvD 1) iM (λ_ _=>rfl)) jj (ji _))))) (iJ (iY (i:=5) jE.nd rfl orl (jc kh (pvD 4) (jC (jg (K:=K)) (pvD 1) iM (λ_ _=>rfl))))) jn)
   (iH (kE (PW.pt (JQ (je (mR) (jC (jg (K:=K)) (pvD 1) iM (λ_ _=>rfl)) jj (ji _)) (Cr (je (mR) (jC (jg (K:=K)) (pvD 1) iM (λ_ _=>rfl)) jj (ji _))))) (iJ (iY (i:=5) jE.nd rfl orl (jc uf (pvD 4) (jC (jg (K:=K)) (pvD 1) iM (λ_ _=>rfl))))) jn)
   (iH (kE (je (mR) (jC (jg (K:=K)) (pvD 1) iM (λ_ _=>rfl)) jj (ji _)) (iJ (iY (i:=5) jE.nd rfl orl (jc mK (jc mQ (pvD 4) (jC (jg (K:=K)) (pvD 1) iM (λ_ _=>rfl))) (jC (jg (K:=K)) (pvD 1) iM (λ_ _=>rfl))))) jn)
   (iH (kE (PW.pt (Ff (je (mR) (jC (jg (K:=K)) (pvD 1) iM (λ_ _=>rfl)) jj (ji _)) (Ep (je (Gf) (pvD 4) iM (ji _))))) (iJ (JS (Cm hr) (pvD 2) (jC (jg (K:=K)) (pvD 1) iM (λ_ _=>rfl)) (jc kh (rm (Cm hr) (pvD 2) (jC (jg (K:=K)) (pvD 1) iM (λ_ _=>rfl)) iM ⟨rfl,rfl,rfl,rfl⟩) (pvD 4)) rfl)) jn)
   (iH (kE (PW.pt (JQ (je (Ik) (pvD 5) iM (ji _)) (Cr (PW.pt (Ff (je (mR) (jC (jg (K:=K)) (pvD 1) iM (λ_ _=>rfl)) jj (ji _)) (Ff (je (mR) (pvD 5) iM (ji _)) (Ep (je (Gf) (pvD 4) iM (ji _))))))))) (iJ (jb mF)) jn)
   (iH (JS (Cm hr) (pvD 2) (pvD 3) (pvD 5) rfl)
   (iH (kE (je (mR) (pvD 5) iM (ji _)) (iJ (jh (aar (pvD 2) (pvD 3) ⟨rfl,rfl,rfl,rfl⟩))) jn)
   (iJ (jb (pvD 2)))))))))))))),?_⟩
  simp only[start_eq];walk_at "n";refine⟨_,ha,λpf aa=>?_⟩;have n1:=iR (o:=.dK kvs) aa;have h1:(upd H pf (.dK kvs)) pf=some (.dK kvs):=iK;generalize upd H pf (.dK kvs)=H1 at n1 h1;have q:=n1 _ _ ht;have hw:atI (.str e.word::e.args .non) 3=some (.str e.ware):=by cases e<;>rfl
  walk_at "n";refine⟨_,jH q,_,hw,?_⟩;walk_at "n";refine⟨.inl ⟨_,.inl h1⟩,_,.inl ⟨kvs,Sum.inr e.ware,.inl h1,rfl,rfl⟩,?_⟩;rw[qP hH e.ware];walk_at "n";obtain⟨h,eh⟩:∃h,jq kvs e.ware=h:=⟨_,rfl⟩;rw[eh]
  try dsimp only
  refine Nq (λσ Hx=>σ=[some (.ref a),some (.ref t),some (.ref pf),some (.str e.ware),some (.int h),some (.int (e.pc1 h))]/\Hx=H1) ?_ ?_
  rotate_left
  ·intro N hN
   walk_at "i";cases e<;>(dsimp only[Ent.word,Ent.args]at q)<;>(refine⟨_,jH q,_,rfl,rfl,?_⟩)<;>first|rw[zl rfl]|(rw[ze (by decide+kernel)];refine⟨_,jH q,_,rfl,rfl,?_⟩;first|rw[zl rfl]|rw[ze (by decide+kernel)])
   all_goals first|exact hN _ _ ⟨rfl,rfl⟩|exact⟨_,jH q,_,rfl,_,rfl,hN _ _ ⟨rfl,rfl⟩⟩
  rintro σ H2 ⟨rfl,rfl⟩;refine Nq (λσ Hx=>σ=[some (.ref a),some (.ref t),some (.ref pf),some (.str e.ware),some (.int h),some (.int (e.pc2 h))]/\Hx=H2) ?_ ?_
  rotate_left
  ·intro N hN
   walk_at "i";cases e<;>(dsimp only[Ent.word,Ent.args]at q)<;>(refine⟨_,jH q,_,rfl,rfl,?_⟩)<;>first|rw[zl rfl]|(rw[ze (by decide+kernel)];refine⟨_,jH q,_,rfl,rfl,?_⟩;first|rw[zl rfl]|rw[ze (by decide+kernel)])
   all_goals first|exact hN _ _ ⟨rfl,rfl⟩|exact⟨_,jH q,_,rfl,_,rfl,hN _ _ ⟨rfl,rfl⟩⟩
  rintro σ H3 ⟨rfl,rfl⟩;refine Nq (λσ Hx=>σ=[some (.ref a),some (.ref t),some (.ref pf),some (.str e.ware),some (.int h),some (.int (e.pc3 h))]/\Hx=H3) ?_ ?_
  rotate_left
  ·intro N hN
   walk_at "i"
   cases e with
   |split d n w m f=>
    obtain⟨_,⟨ae,ag⟩,af,aj⟩:=hg;dsimp only[Ent.word,Ent.args]at q;refine⟨_,jH q,_,rfl,rfl,?_⟩;rw[zl rfl]
    exact ⟨_,jH q,_,rfl,_,rfl,Ja (by omega) (by omega),_,jH q,_,rfl,_,rfl,⟨by omega,by
     have:f.natAbs<=1000:=by omega
     exact yp this (by decide)⟩,hN _ _ ⟨rfl,rfl⟩⟩
   |_=>
    dsimp only[Ent.word,Ent.args]at q;refine⟨_,jH q,_,rfl,rfl,?_⟩;rw[ze (by decide+kernel)];exact hN _ _ ⟨rfl,rfl⟩
  rintro σ H4 ⟨rfl,rfl⟩;refine Nq (λσ Hx=>σ=[some (.ref a),some (.ref t),some (.ref pf),some (.str e.ware),some (.int h),some (.int (e.pc3 h))]/\Same H Hx/\Hx pf=some (.dK (e.mid kvs))/\Hx t=some (.tup (.str e.word::e.args .non))) ?_ ?_
  rotate_left
  ·intro N hN
   walk_at "i"
   cases e with
   |part d n w u s t'=>
    dsimp only[Ent.word,Ent.args]at q;refine⟨_,jH q,_,rfl,rfl,?_⟩;rw[zl rfl];have eh':jq kvs w=h:=eh;by_cases c:0<h
    ·rw[zl c]
     refine⟨.inl ⟨_,.inl h1⟩,_,jH q,_,rfl,_,.inl ⟨kvs,Sum.inr u,.inl h1,rfl,rfl⟩,jq kvs u,qP hH u,_,jH q,_,rfl,_,Ud (k:=Sum.inr u) h1 (by rw[zn];omega),hN _ _ ⟨rfl,n1.upd aa,?_,(iZ λe=>by rw[e,h1]at q;cases q).trans q⟩⟩;rw[iK];show _=some (HO.dK (if 0<jq kvs w then putK kvs (Sum.inr u) (.int (jq kvs u+jq kvs w))else kvs));rw[eh',zl c]
    ·rw[ze c]
     refine hN _ _ ⟨rfl,n1,?_,q⟩;show _=some (HO.dK (if 0<jq kvs w then putK kvs (Sum.inr u) (.int (jq kvs u+jq kvs w))else kvs));rw[eh',ze c];exact h1
   |_=>
    dsimp only[Ent.word,Ent.args]at q;refine⟨_,jH q,_,rfl,rfl,?_⟩;rw[ze (by decide+kernel)];exact hN _ _ ⟨rfl,n1,h1,q⟩
  rintro σ H5 ⟨rfl,s5,h5,ad⟩;have hM:=ZP (e:=e) hH;have ak:=aiL e kvs
  have ab:0<=e.pc3 h->(e.word= "split" ->¬(e.pc3 h=0/\0<h))->ZG (ajf (tV 2) (tV 3) (tV 5)) (ZG (Zg (RV (tOp rEq (tV 5) (tC (V.int 0)))) (ajV (Zz (tV 2) (tV 3))) YD) (amh (tV 2))) {nx:=λx H'=>Q V.non H',rt:=Q}
    [some (V.ref a),some (V.ref t),some (V.ref pf),some (V.str e.ware),some (V.int h),some (V.int (e.pc3 h))] H5:=λc0 ac=>by
   obtain⟨eb,hy⟩:=als hg (by rw[eh];exact c0) (hH.nn _) (by rw[eh];exact ac);rw[eh]at hy;walk_at "n";refine⟨_,Ud (k:=Sum.inr e.ware) h5 (by rw[zn];omega),?_⟩;have s6:Same H (upd H5 pf (.dK (putK (e.mid kvs) (Sum.inr e.ware) (.int (e.pc3 h))))):=s5.upd aa;have h6:(upd H5 pf (.dK (putK (e.mid kvs) (Sum.inr e.ware) (.int (e.pc3 h))))) pf=some (.dK (putK (e.mid kvs) (Sum.inr e.ware) (.int (e.pc3 h)))):=iK;generalize upd H5 pf (.dK (putK (e.mid kvs) (Sum.inr e.ware) (.int (e.pc3 h))))=H6 at s6 h6;have ai:=Rp (e.mid kvs) (Sum.inr e.ware) (.int (e.pc3 h));walk_at "n";by_cases z0:e.pc3 h=0
   ·rw[zl (by rw[z0])]
    refine⟨.inl ⟨_,.inl h6⟩,_,h6,Sum.inr e.ware,rfl,.int (e.pc3 h),by rw[MN,zl rfl],?_⟩;have ah:=aal (putK (e.mid kvs) (Sum.inr e.ware) (.int (e.pc3 h))) (Sum.inr e.ware)
    (try dsimp only);walk_at "a"
    refine k2 _ ⟨eb,XX hM e.ware (e.pc3 h),by omega,λy=>?_⟩ pf _ (s6.upd aa) aa iK;rw[ahG,<-hy,z0]
   ·rw[ze z0]
    (try dsimp only);walk_at "a"
    refine k2 _ ⟨eb,Ug hM e.ware (by omega),by omega,λy=>?_⟩ pf H6 s6 aa h6;rw[Yq,hy]
  walk_at "n";by_cases c0:e.pc3 h<0
  ·rw[zl c0]
   exact k1 H5 s5
  rw[ze c0];refine⟨_,jH ad,.str e.word,by cases e<;>rfl,rfl,?_⟩;by_cases cw:V.str e.word=V.str (Str.ofString "split")
  ·rw[zl cw]
   have cw':e.word= "split" :=by injection cw
   by_cases cz:e.pc3 h=0
   ·rw[zl cz]
    by_cases cp:0<h
    ·rw[zl cp]
     exact k1 H5 s5
    ·rw[ze cp]
     exact ab (by omega) λ_ z=>cp z.2
   ·rw[ze cz]
    exact ab (by omega) λ_ z=>cz z.1
  ·rw[ze cw]
   exact ab (by omega) λz=>absurd (congrArg V.str z) cw
noncomputable def Qy(H:Hp)(tl:EL):Prop:=∀r∈tl,H r.1=some (.tup (.str r.2.word::r.2.args .non))/\r.2.good/\r.2.lots=none
def Qy.same{H H':Hp}{tl:EL}(h:Qy H tl)(s:Same H H'):Qy H' tl:=λr q=>⟨s _ _ (h r q).1,(h r q).2⟩
def ajU(ns:List Int)(m:Nat):∃cs:List Int,NZ (ns.map V.int) (some 1) (some ((m:Int)+1))=cs.map V.int/\cs.length<=m:=by
 refine⟨(ns.drop (min 1 (ns.map V.int).length)).take (min (m+1) (ns.map V.int).length - min 1 (ns.map V.int).length),?_,?_⟩
 ·rw[show((m:Int)+1)=((m+1:Nat):Int) by omega,show(1:Int)=((1:Nat):Int)from rfl]
  unfold NZ;rw[HT.sIx_nat,HT.sIx_nat,zzM,List.map_drop]
 ·rw[zO,yB]
  omega
structure Hs(B H:Hp)(pt c:Addr)(tl:EL)(kc:List (Key×V))(low step day:Int)(ws:List Str)(i:Nat):Prop where
 s:Same B H
 l:H pt=some (.lst (BV tl))
 c:H c=some (.dK kc)
 t:Qy H tl
 q:GP kc
 r:∀z,jq kc z=runC (tl.map (·.2)) z
 f:Us ws (tl.map (·.2))
 o:(tl.map (·.2)).Pairwise BfE
 d:∀r∈tl,r.2.day<=day/\r.2.num<low+step*i
 u:(tl.map (·.2.num)).Nodup
 n:tl.length<=i
 m:kc.length<=2*i
 y:0<=day/\day<=16000*i
theorem Hs.same{B H H':Hp}{pt c:Addr}{tl:EL}{kc:List (Key×V)}{z q aa:Int}{ws:List Str}{i:Nat}(h:Hs B H pt c tl kc z q aa ws i)(s:Same H H'):Hs B H' pt c tl kc z q aa ws i:=⟨h.s.trans s,s _ _ h.l,s _ _ h.c,h.t.same s,h.q,h.r,h.f,h.o,h.d,h.u,h.n,h.m,h.y⟩
def Qm{q:Int}{i:Nat}:q*((i+1:Nat):Int)=q*(i:Int)+q:=by
 rw[yyn,Int.mul_add];show _+q*1=_;rw[Int.mul_one]
def Hs.next{B H:Hp}{pt c:Addr}{tl:EL}{kc:List (Key×V)}{z q aa dd:Int}{ws:List Str}{i:Nat}(h:Hs B H pt c tl kc z q aa ws i)(hd:0<=dd/\dd<=16000)(hs:1<=q):Hs B H pt c tl kc z q (aa+dd) ws (i+1):=
 ⟨h.s,h.l,h.c,h.t,h.q,h.r,h.f,h.o,λr hr=>by
  have:=h.d r hr;rw[Qm];omega,h.u,Nat.le_succ_of_le h.n,by have:=h.m;omega,by have:=h.y;omega⟩
inductive xN(K:Fg_)(vs:List V)(H:Hp)(Q:VK)(E:XK):Prop
 |mk (a:Addr) (ns:List Int) (m:Nat) (_:vs=[.ref a,.int m]) (_:SqL K H a (ns.map V.int)) (_:ns.length<=63) (_:m<=60) (_:∀p (tl:EL) ws H',Same H H'->H p=none->H' p=some (.lst (BV tl))->Qy H' tl->tl.length<=m->(tl.map (·.2)).Pairwise BfE->(tl.map (·.2.num)).Nodup->Us ws (tl.map (·.2))->ws.Nodup/\ws.length<=6->(∀z∈ws,z.length<=8)->Q (.ref p) H'):xN K vs H Q E
def Jl(T:Txt K mg A D):jQ P w K mg base CX0 3 A.aaH D.aaH ["_law_script", "_law_most"] (xN K):=by
 refine T.acK.F.okv jm λ_ _ _ _ H vs Q E hr h=>?_
 ·obtain⟨a,ns,m,rfl,hS,hl,hm,k⟩:=h
  refine ⟨_,(iH (iY (i:=2) jm.nd rfl orl (pcg (Np T) hr T.acF (Oi T) (pav 0 iI)))
   (iH (iY (i:=3) jm.nd rfl orl (jc lq (pcg (lH T) hr T.acE (lZ T) (pav 0 (iG iM iI))) iM))
   (iH (iY (i:=4) jm.nd rfl orl (jc kh iM (jc lq (jc mK (pcg (lH T) hr T.acE (lZ T) (pav 0 (iG iM iI))) iM) iM)))
   (iH (iY (i:=5) jm.nd rfl orl (jV iI))
   (iH (iY (i:=6) jm.nd rfl orl Uy)
   (iH (iY (i:=7) jm.nd rfl orl iM)
   (iH (oh zW rfl (Xg (K:=K) (by rfl) T.ael (iG (Ac (Dz (K:=K)) (pcg (Mu T) hr T.acJ (Om T) (pav 0 iI)) (BZ iM) (BZ (jc kh (pvD 1) iM))) iI)) (pN (K:=K) (n:=2) rfl (jw (iW (i:=8) jm.nd rfl orl) (jw (iW (i:=9) jm.nd rfl orl) nQ)))
    (iH (aiD (pcg (tH T) hr T.acD (uF T) (pav 9 (iG (jV (iG iM (iG iM iI))) iI))) (XF (K:=K) (n:=2) rfl (jw (iW (i:=10) jm.nd rfl orl) (jw (iW (i:=11) jm.nd rfl orl) nQ))))
    (iH (iY (i:=7) jm.nd rfl orl (jc kh (pvD 7) (jC (mz (K:=K)) (jV (iG iM (iG iM (iG iM (iG (jc lq (pvD 11) iM) (pav 11 iI)))))) (pvD 10) (λ_ _=>rfl))))
    (iH (iY (i:=12) jm.nd rfl orl (pcg (Nv T) hr T.acG (Qe T) (iG (jc mK (pvD 9) iM) (pav 7 (iG (jc kh (pvD 3) (jc mQ (pvD 4) (pvD 8))) (pav 2 (pav 6 iI)))))))
    (iH (iY (i:=13) jm.nd rfl orl (pcg (BP T) hr T.acH (Cv T) (pav 6 (pav 12 iI))))
    (iJ (kE (je (HX) (pvD 13) mF (ji _)) (iH (iY (i:=6) jm.nd rfl orl (pvD 13))
     (iJ (jh (pW (K:=K) zL zU zV lW (pvD 5) (pav 12 iI))))) jn)))))))
   (iJ (jb (pvD 5)))))))))),?_⟩
  simp only[start_eq];walk_at "n";refine⟨a,ns,rfl,hS,λwa ws H1 s1 b5 hW bj=>?_⟩;walk_at "n";refine⟨a,ns,2,rfl,s1.seq hS,_,rfl,by decide,?_⟩;obtain⟨ac,az⟩:∃ac,ac=ns.getD 2 0%1000:=⟨_,rfl⟩;have bl:0<=ac/\ac<1000:=by omega
  rw[<-az];walk_at "n";refine⟨a,ns,2,rfl,s1.seq hS,_,rfl,⟨by decide,by decide⟩,by decide,?_⟩;obtain⟨ab,am⟩:∃b,b=1+ns.getD 2 0/1000%1000:=⟨_,rfl⟩;have bs:1<=ab/\ab<=1000:=by omega
  rw[<-am];walk_at "n";refine⟨sz,λpt aq=>?_⟩;have n2:=iR (o:=.lst []) aq;have h2:(upd H1 pt (.lst [])) pt=some (.lst []):=iK;generalize upd H1 pt (.lst [])=H2 at n2 h2;walk_at "n";intro pd b4;have n3:=iR (o:=.dK []) b4;have h3:(upd H2 pd (.dK [])) pd=some (.dK []):=iK;have au:=n3 _ _ h2;generalize upd H2 pd (.dK [])=H3 at n3 h3 au;walk_at "n";have s3:=n2.trans n3
  try dsimp only
  rw[ap_seq,ap_for];walk_at "i";refine⟨a,ns,rfl,(s1.trans s3).seq hS,hl,λp1 ar H4 s4 cb h4=>?_⟩;refine⟨p1,rfl,_,iT h4,λq1 ap=>⟨⟨_,iT iK⟩,?_⟩⟩;obtain⟨cs,bq,bn⟩:=ajU ar m;rw[bq];have n5:=iR (o:=.lst (cs.map V.int)) ap;have h5:(upd H4 q1 (.lst (cs.map V.int))) q1=some (.lst (cs.map V.int)):=iK;have bg:q1≠pt:=λe=>by rw[e,s4 _ _ au]at ap;cases ap
  generalize upd H4 q1 (.lst (cs.map V.int))=H5 at n5 h5;have as:=s4.trans n5
  refine Kr.enum (K:=K) (a:=q1) (xs:=cs.map V.int) (λi σ Hx=>∃(c:Addr)(tl:EL)(kc:List (Key×V))(ae:Int)(v8 v9 av aw an ao:Option V),σ=[some (.ref a),some (.int m),some (.ref wa),some (.int ac),some (.int ab),some (.ref pt),some (.ref c),some (.int ae),v8,v9,av,aw,an,ao]/\Hs H1 Hx pt c tl kc ac ab ae ws i/\Hx q1=some (.lst (cs.map V.int)))
   ⟨pd,[],[],0,_,_,_,_,_,_,rfl,⟨s3.trans as,as _ _ au,as _ _ h3,λr h=>(zf h).elim,ahS,λ_=>rfl,.nil,.nil,λr h=>(zf h).elim,.nil,zo _,zo _,by omega⟩,h5⟩ (λi σ Hx _ ⟨_,_,_,_,_,_,_,_,_,_,_,_,h⟩=>iT h) ?_ ?_
  ·rintro i y σ H6 pe hi ⟨c,tl,kc,ae,v8,v9,av,aw,an,ao,rfl,L6,ax⟩ bu
   obtain⟨x,rfl,bt⟩:=uT hi;have cd:i<cs.length:=(zp.mp bt).1;have n7:=iR (o:=.tup [V.int i,V.int x]) bu;have L7:=L6.same n7;have bf:=n7 _ _ ax;walk_at "i";refine⟨_,jH iK,rfl,_,_,rfl,_,_,rfl,rfl,?_⟩;generalize upd H6 pe _=H7 at L7 bf;walk_at "n";refine⟨sz,λp2 bk=>?_⟩;have n8:=iR (o:=.lst [V.int 5,V.int 16000]) bk;refine⟨x,p2,[5,16000],rfl,iT (by rw[iK];rfl),by unfold FW;decide,by decide,λp3 H8 t8 b7 h8=>?_⟩;have L8:=(L7.same n8).same t8;have bo:=t8 _ _ (n8 _ _ bf);obtain⟨way,q,bz,bw,bm⟩:∃way q,Vl x [5,16000]=[way,q]/\(0<=way/\way<5)/\(0<=q/\q<16000):=⟨_,_,rfl,by omega,by omega⟩;rw[bz]at h8;refine⟨p3,rfl,_,iT h8,rfl,_,_,rfl,_,_,rfl,rfl,?_⟩;walk_at "n";refine⟨by decide,sz,λp4 br=>?_⟩
   obtain ⟨dd,bi,bd⟩:∃dd:Int,atI [V.int 0,V.int 0,V.int 1,V.int (q%40),V.int q] way=some (.int dd)/\(0<=dd/\dd<=16000):=by
    rcases(show way=0\/way=1\/way=2\/way=3\/way=4 by omega)with e|e|e|e|e<;>rw[e]
    ·exact⟨0,rfl,by omega⟩
    ·exact⟨0,rfl,by omega⟩
    ·exact⟨1,rfl,by omega⟩
    ·exact⟨q%40,rfl,by omega⟩
    ·exact⟨q,rfl,by omega⟩
   refine⟨_,iT iK,_,bi,_,rfl,?_⟩;have n9:=iR (o:=.lst [V.int 0,V.int 0,V.int 1,V.int (q%40),V.int q]) br;have L9:=(L8.same n9).next bd bs.1;have ai:=(L8.same n9).d;have ay:=n9 _ _ bo;have b0:=L8.n;have ca:=L8.m;generalize upd H8 p4 _=H9 at L9 ay;have b1:0<=ab*(i:Int):=zzd (by omega) (by omega);have b2:ab*(i:Int)<=1000*60:=Int.mul_le_mul bs.2 (by omega) (by omega) (by omega);have b3:=L9.y;walk_at "n";refine⟨⟨by decide,by decide⟩,Rh (by omega) (by omega),_,ae+dd,ac+ab*(i:Int),wa,c,ws,kc,rfl,L9.s _ _ bj,hW,L9.c,λw=>⟨_,L9.q.nn w,qP L9.q w⟩,⟨by omega,by omega⟩,⟨by omega,by omega⟩,λt e b6 ba cc ht hg ho b8 bh bx=>?_⟩;have af:=L9.same ba;have ag:=ba _ _ ay;walk_at "n";refine⟨c,t,e,kc,rfl,.inl af.c,af.q,by omega,ht,hg,λbe ad=>?_,λbv hb pn be ad b9 al=>?_⟩
   ·walk_at "i"
    exact⟨_,_,af.same ad,ad _ _ ag⟩
   ·walk_at "i"
    walk_at "n"
    (try dsimp only);walk_at "i"
    have aa:=af.same ad;have ah:=ad _ _ ht;obtain⟨aj,bp,ce,ak⟩:=hb;have er:jq kc=runC (tl.map (·.2)):=funext aa.r;rw[er]at aj ak;have bc:∀{b:Addr}{xs:List V},be b=some (.tup xs)->b≠pt:=λh e=>by rw[e,aa.l]at h;cases h
    refine⟨.inl ⟨rfl,_,iT aa.l⟩,_,aa.l,by rw[wD,zn];omega,?_⟩;have bb:∀r∈tl,r.2.num<e.num:=λr hr=>by rw[bh];exact(ai r hr).2
    refine⟨tl++[(t,e)],bv,⟨aa.s.upd aq,?_,(iZ λe=>by rw[e,aa.l]at al;cases al).trans al,λr hr=>?_,bp,λz=>?_,?_,?_,λr hr=>?_,?_,by rw[zB];exact Nat.succ_le_succ b0,by omega,aa.y⟩,(iZ bg).trans (ad _ _ ag)⟩
    ·rw[iK];unfold BV;rw[zj];rfl
    ·rcases zA.mp hr with hr|hr
     ·have h0:=aa.t r hr
      exact⟨(iZ (bc h0.1)).trans h0.1,h0.2⟩
     ·obtain rfl:=zu.mp hr
      exact⟨(iZ (bc ah)).trans ah,hg,ho⟩
    ·rw[ak,zj]
     exact(congrFun (Dj _ e) z).symm
    ·rw[zj]
     exact aa.f.snoc ⟨hg,ho,bx⟩ aj
    ·rw[zj]
     refine List.pairwise_append.mpr ⟨aa.o,zzr _ _,λd hd z hz=>?_⟩;have hz':z=e:=zu.mp hz;rw[hz'];obtain⟨r,hr,rfl⟩:=zb.mp hd;have h1:=(ai r hr).1;have h2:=bb r hr;show BfE r.2 e;unfold BfE;omega
    ·rcases zA.mp hr with hr|hr
     ·exact aa.d r hr
     ·obtain rfl:=zu.mp hr
      rw[Qm];show e.day<=_/\e.num<_;omega
    ·rw[zj]
     refine List.pairwise_append.mpr ⟨aa.u,zzr _ _,λd hd z hz=>?_⟩;have hz':z=e.num:=zu.mp hz;rw[hz'];obtain⟨r,hr,rfl⟩:=zb.mp hd;have h2:=bb r hr;show r.2.num≠e.num;omega
  ·rintro σ H6 ⟨c,tl,kc,ae,v8,v9,av,aw,an,ao,rfl,L6,ax⟩
   rw[za]at L6;walk_at "a";exact k pt tl ws H6 (s1.trans L6.s) (s1.free aq) L6.l L6.t (zN L6.n bn) L6.o L6.u L6.f ⟨hW.u,hW.l1⟩ λz hz=>(hW.n z hz).2.1
inductive spW(z:Str)(vs:List V)(H:Hp)(Q:VK)(E:XK):Prop
 |mk (x:Addr) (_:vs=[.ref x]) (_:Q (.str z) H):spW z vs H Q E
def Km(T:Txt K mg A D):jQ P w K mg base CX0 1 A.ab7 D.ab7 ["self"] (spW "eldest"):=by
 refine T.ad9.okv Lf λ_ _ _ _ H vs Q E q h=>?_
 ·obtain⟨x,rfl,k⟩:=h
  refine⟨_,(iJ (jb jj)),?_⟩;walk_at "a";exact k
def Ky(T:Txt K mg A D):jQ P w K mg base CX0 1 A.ab8 D.ab8 ["self"] (spW "newest"):=by
 refine T.aea.okv La λ_ _ _ _ H vs Q E q h=>?_
 ·obtain⟨x,rfl,k⟩:=h
  refine⟨_,(iJ (jb jj)),?_⟩;walk_at "a";exact k
def GZ(T:Txt K mg A D):jQ P w K mg base CX0 1 A.ab9 D.ab9 ["self"] (spW "dearest"):=by
 refine T.aeb.okv Ij λ_ _ _ _ H vs Q E q h=>?_
 ·obtain⟨x,rfl,k⟩:=h
  refine⟨_,(iJ (jb jj)),?_⟩;walk_at "a";exact k
def QR(T:Txt K mg A D):jQ P w K mg base CX0 1 A.aca D.aca ["self"] (spW "mean"):=by
 refine T.aec.okv Ol λ_ _ _ _ H vs Q E q h=>?_
 ·obtain⟨x,rfl,k⟩:=h
  refine⟨_,(iJ (jb jj)),?_⟩;walk_at "a";exact k
inductive Ru(A:Adr):Str->Addr->Prop
 |e:Ru A "eldest" A.acq
 |n:Ru A "newest" A.acr
 |d:Ru A "dearest" A.acs
 |m:Ru A "mean" A.acp
def Ru.way{z:Str}{C:Addr}(h:Ru A z C):SQ A C:=by
 cases h
 ·exact .e
 ·exact .n
 ·exact .d
 ·exact .m
def Ru.is{z:Str}{C:Addr}(h:Ru A z C){q:Str}{C':Addr}(h':Ru A q C')(e:q=z):C'=C:=by
 cases h<;>cases h'<;>first|rfl|exact absurd e (by decide+kernel)
def ne_next{l:List Str}{i:Nat}{z x:Str}(hx:l[i]? =some x)(hn:∀u∈l.take i,u≠z)(h:x≠z):∀u∈l.take (i+1),u≠z:=by
 rw[zI,hx];intro u q;rcases zA.mp q with q|q
 ·exact hn u q
 ·obtain rfl:=zu.mp q
  exact h
inductive Px(A:Adr)(vs:List V)(H:Hp)(Q:VK)(E:XK):Prop
 |mk (z:Str) (C:Addr) (_:vs=[.str z]) (_:Ru A z C) (_:∀x dx H',Same H H'->H x=none->H' x=some (.ins C dx [])->Q (.ref x) H'):Px A vs H Q E
def Jx(T:Txt K mg A D):jQ P w K mg base CX0 2 A.acb D.acb ["word"] (Px A):=by
 refine T.aed.F.okv Pg λ_ _ _ _ H vs Q E hr h=>?_
 ·obtain⟨z,C,rfl,hC,k⟩:=h
  refine ⟨_,(iH (oh zW rfl (mC (K:=K) (jV (iG (Ng T.agp (by rfl) T.aeI) (iG (Ng T.agq (by rfl) T.aeJ) (iG (Ng T.agr (by rfl) T.aeK) (iG (Ng T.ags (by rfl) T.aeH) iI)))))) (iW (i:=1) Pg.nd rfl orl)
    (iJ (kE (je (mR) (lE (pv 1) (mc T.agc T.ahh (Km T) hr (Nk T) (mc T.agd T.ahi (Ky T) hr (MF T) (mc T.age T.ahj (GZ T) hr (Ko T) (mc T.agb T.ahk (QR T) hr (Ry T) .nil)))) jB) (pvD 0) (ji _)) (iJ (jb (pvD 1))) jn)))
   (iJ (lO))),?_⟩
  simp only[start_eq];rw[ap_seq,ap_for];walk_at "i";intro x0 d0 aa af n0 x1 d1 ad ag n1 x2 d2 ab ah n2 x3 d3 ac ae n3;refine⟨sz,λp hp=>⟨⟨_,iT iK⟩,?_⟩⟩;have a0:=pU (C:=A.acq) aa af;have a1:=pU (C:=A.acr) ad ag;have a2:=pU (C:=A.acs) ab ah;have a3:=pU (C:=A.acp) ac ae;have ap:=iR (o:=.lst [V.ref x0,V.ref x1,V.ref x2,V.ref x3]) hp;have t3:=a3.s.trans ap;have t2:=a2.s.trans t3;have t1:=a1.s.trans t2;have S:=a0.s.trans t1;have f0:=t1 _ _ a0.h;have f1:=t2 _ _ a1.h;have f2:=t3 _ _ a2.h;have f3:=ap _ _ a3.h;have e1:=a0.s.free ad;have e2:=(a0.s.trans a1.s).free ab;have e3:=(a0.s.trans (a1.s.trans a2.s)).free ac;have hl:(upd (upd (upd (upd (upd (upd (upd (upd (upd H d0 (HO.own x0)) x0 (HO.ins A.acq d0 [])) d1 (HO.own x1)) x1 (HO.ins A.acr d1 [])) d2 (HO.own x2)) x2 (HO.ins A.acs d2 [])) d3 (HO.own x3)) x3 (HO.ins A.acp d3 [])) p (HO.lst [V.ref x0,V.ref x1,V.ref x2,V.ref x3])) p=some (.lst [V.ref x0,V.ref x1,V.ref x2,V.ref x3]):=iK;clear a0 a1 a2 a3 ap t1 t2 t3;generalize upd _ p (HO.lst [V.ref x0,V.ref x1,V.ref x2,V.ref x3])=Hf at S f0 f1 f2 f3 hl
  refine pG (K:=K) (a:=p) (xs:=[V.ref x0,V.ref x1,V.ref x2,V.ref x3]) (λi σ H'=>(∃v,σ=[some (.str z),v])/\H'=Hf/\∀u∈(["eldest", "newest", "dearest", "mean"]:List Str).take i,u≠z)
   ⟨⟨_,rfl⟩,rfl,λu h=>(zf h).elim⟩ (λi σ H' _ ⟨_,e,_⟩=>e▸iT hl) ?_ ?_
  ·rintro i y σ H' hy ⟨⟨v,rfl⟩,rfl,hn⟩
   rcases i with _|_|_|_|i
   ·cases hy
    walk_at "i";refine⟨_,d0,_,f0,_,zg,by rfl,x0,rfl,rfl,?_⟩;by_cases q:Str.ofString "eldest" =z
    ·rw[zl (by rw[q])]
     exact k x0 d0 _ S aa (hC.is (Ru.e (A:=A)) q▸f0)
    ·rw[ze (by simpa using q)]
     exact⟨rfl,ne_next (i:=0) rfl hn q⟩
   ·cases hy
    walk_at "i";refine⟨_,d1,_,f1,_,(zk _ zg),by rfl,x1,rfl,rfl,?_⟩;by_cases q:Str.ofString "newest" =z
    ·rw[zl (by rw[q])]
     exact k x1 d1 _ S e1 (hC.is (Ru.n (A:=A)) q▸f1)
    ·rw[ze (by simpa using q)]
     exact⟨rfl,ne_next (i:=1) rfl hn q⟩
   ·cases hy
    walk_at "i";refine⟨_,d2,_,f2,_,(zk _ (zk _ zg)),by rfl,x2,rfl,rfl,?_⟩;by_cases q:Str.ofString "dearest" =z
    ·rw[zl (by rw[q])]
     exact k x2 d2 _ S e2 (hC.is (Ru.d (A:=A)) q▸f2)
    ·rw[ze (by simpa using q)]
     exact⟨rfl,ne_next (i:=2) rfl hn q⟩
   ·cases hy
    walk_at "i";refine⟨_,d3,_,f3,_,(zk _ (zk _ (zk _ zg))),by rfl,x3,rfl,rfl,?_⟩;by_cases q:Str.ofString "mean" =z
    ·rw[zl (by rw[q])]
     exact k x3 d3 _ S e3 (hC.is (Ru.m (A:=A)) q▸f3)
    ·rw[ze (by simpa using q)]
     exact⟨rfl,ne_next (i:=3) rfl hn q⟩
   ·cases hy
  ·rintro σ H' ⟨⟨v,rfl⟩,rfl,hn⟩
   have hn:∀u∈(["eldest", "newest", "dearest", "mean"]:List Str),u≠z:=hn
   cases hC with
   |e=>exact(hn _ zg rfl).elim
   |n=>exact(hn _ (zk _ zg) rfl).elim
   |d=>exact(hn _ (zk _ (zk _ zg)) rfl).elim
   |m=>exact(hn _ (zk _ (zk _ (zk _ zg))) rfl).elim
def mU{t:TA}{σ:L2.St}{H:Hp}{Q:List V->Hp->Prop}{q:Addr}{xs:List V}{i:Int}{v:V}{j:Nat}(hσ:σ[j]? =some (some (.ref q)))(z:H q=some (.tup xs))(hv:atI xs i=some v)(k:t σ H λvs H'=>Q (v::vs) H'):pB (tOp (aiy K) (tV j) (tC (.int i))) t σ H Q:=by
 simp only[L2.ap_cons,L2.ap_op,L2.av_V,L2.atV_iff,L2.ap_c,L2.ap_ixT];exact⟨_,hσ,q,xs,i,v,rfl,rfl,jH z,hv,k⟩
def ams(x:V)(r:List V):NZ (x::r) (some 1) none=r:=Vh (x::r) 1
def aap(x:V)(r:List V):¬(HT.sIx (x::r).length 0 (some 1)=0/\HT.sIx (x::r).length (x::r).length none=(x::r).length):=λh=>by
 have h1:=h.1;rw[show(1:Int)=((1:Nat):Int)from rfl,HT.sIx_nat,zE]at h1;omega
def aic{t:TA}{σ:L2.St}{H:Hp}{Q:List V->Hp->Prop}{v:V}{j:Nat}(q:σ[j]? =some (some v))(k:t σ H λvs H'=>Q (v::vs) H'):pB (tV j) t σ H Q:=by
 simp only[L2.ap_cons,L2.av_V,L2.atV_iff];exact⟨_,q,k⟩
inductive Fe(A:Adr)(vs:List V)(H:Hp)(Q:VK)(E:XK):Prop
 |mk (q:Addr) (e:Ent) (_:vs=[.ref q]) (_:H q=some (.tup (.str e.word::e.args .non))) (_:e.lots=none) (_:e.good) (_:∀x B H',Same H B->Made A B H' x e->Q (.ref x) H'):Fe A vs H Q E
def Rk(T:Txt K mg A D):jQ P w K mg base CX0 6 A.aaW D.aaW ["_law_told"] (Fe A):=by
 refine T.acZ.F.okv rH λ_ _ _ _ H vs Q E hr h=>?_
 ·obtain⟨q,e,rfl,hq,ho,hg,k⟩:=h
  refine ⟨_,(iH (iY (i:=1) rH.nd rfl orl (Ac (aiX (K:=K)) (pvD 0) (BZ iM) Kc))
   (iH (kE (je (mR) (jC (jg (K:=K)) (pvD 0) iM (λ_ _=>rfl)) jj (ji _)) (iJ (jb (lK T.agg (JL (K:=K) T) (hr.mono (by decide)) (by rfl) T.aey (uY T).choose_spec.1 (uY T).choose_spec.2 jB (iG (jC (jg (K:=K)) (pvD 1) iM (λ_ _=>rfl)) (iG (jC (jg (K:=K)) (pvD 1) iM (λ_ _=>rfl)) (iG (jC (jg (K:=K)) (pvD 1) iM (λ_ _=>rfl)) (iG (jC (jg (K:=K)) (pvD 1) iM (λ_ _=>rfl)) (iG (jC (jg (K:=K)) (pvD 1) iM (λ_ _=>rfl)) (iG (jC (jg (K:=K)) (pvD 1) iM (λ_ _=>rfl)) iI))))))))) jn)
   (iH (kE (je (mR) (jC (jg (K:=K)) (pvD 0) iM (λ_ _=>rfl)) jj (ji _)) (iJ (jb (lK T.agh (Gs (K:=K) T) (hr.mono (by decide)) (by rfl) T.aez (Iu T) .nil jB (iG (jC (jg (K:=K)) (pvD 1) iM (λ_ _=>rfl)) (iG (jC (jg (K:=K)) (pvD 1) iM (λ_ _=>rfl)) (iG (jC (jg (K:=K)) (pvD 1) iM (λ_ _=>rfl)) (iG (jC (jg (K:=K)) (pvD 1) iM (λ_ _=>rfl)) (iG (jC (jg (K:=K)) (pvD 1) iM (λ_ _=>rfl)) (iG (jC (jg (K:=K)) (pvD 1) iM (λ_ _=>rfl)) iI))))))))) jn)
   (iH (kE (je (mR) (jC (jg (K:=K)) (pvD 0) iM (λ_ _=>rfl)) jj (ji _)) (iJ (jb (lK T.agi (Ek (K:=K) T) (hr.mono (by decide)) (by rfl) T.aeA (Gj T) .nil jB (iG (jC (jg (K:=K)) (pvD 1) iM (λ_ _=>rfl)) (iG (jC (jg (K:=K)) (pvD 1) iM (λ_ _=>rfl)) (iG (jC (jg (K:=K)) (pvD 1) iM (λ_ _=>rfl)) (iG (jC (jg (K:=K)) (pvD 1) iM (λ_ _=>rfl)) (iG (jC (jg (K:=K)) (pvD 1) iM (λ_ _=>rfl)) iI)))))))) jn)
   (iH (kE (je (mR) (jC (jg (K:=K)) (pvD 0) iM (λ_ _=>rfl)) jj (ji _)) (iJ (jb (lK T.agj (BX (K:=K) T) (hr.mono (by decide)) (by rfl) T.aeB (CW T) .nil jB (iG (jC (jg (K:=K)) (pvD 1) iM (λ_ _=>rfl)) (iG (jC (jg (K:=K)) (pvD 1) iM (λ_ _=>rfl)) (iG (jC (jg (K:=K)) (pvD 1) iM (λ_ _=>rfl)) (iG (jC (jg (K:=K)) (pvD 1) iM (λ_ _=>rfl)) (iG (jC (jg (K:=K)) (pvD 1) iM (λ_ _=>rfl)) (iG (jC (jg (K:=K)) (pvD 1) iM (λ_ _=>rfl)) iI))))))))) jn)
   (iH (iY (i:=2) rH.nd rfl orl (jC (jg (K:=K)) (pvD 1) (ajZ Yz iM) (λ_ _=>rfl)))
   (iH (kE (je (HX) (pvD 2) mF (ji _)) (iJ (iY (i:=2) rH.nd rfl orl (jJ (tY (K:=K)) (by rfl) T.aeq (by decide+kernel) (pav 2 iI)))) jn)
   (iH (kE (je (mR) (jC (jg (K:=K)) (pvD 0) iM (λ_ _=>rfl)) jj (ji _)) (iJ (jb (lK T.agk (FJ (K:=K) T) (hr.mono (by decide)) (by rfl) T.aeC (ut T).choose_spec.1 (ut T).choose_spec.2 jB (iG (jC (jg (K:=K)) (pvD 1) iM (λ_ _=>rfl)) (iG (jC (jg (K:=K)) (pvD 1) iM (λ_ _=>rfl)) (iG (jC (jg (K:=K)) (pvD 1) iM (λ_ _=>rfl)) (iG (jC (jg (K:=K)) (pvD 1) iM (λ_ _=>rfl)) (iG (jC (jg (K:=K)) (pvD 1) iM (λ_ _=>rfl)) (iG (jC (jg (K:=K)) (pvD 1) iM (λ_ _=>rfl)) (pav 2 iI)))))))))) jn)
   (iJ (jb (lK T.agf (Gv (K:=K) T) (hr.mono (by decide)) (by rfl) T.aex (uq T).choose_spec.1 (uq T).choose_spec.2 jB (iG (jC (jg (K:=K)) (pvD 1) iM (λ_ _=>rfl)) (iG (jC (jg (K:=K)) (pvD 1) iM (λ_ _=>rfl)) (iG (jC (jg (K:=K)) (pvD 1) iM (λ_ _=>rfl)) (iG (jC (jg (K:=K)) (pvD 1) iM (λ_ _=>rfl)) (pav 2 iI)))))))))))))))),?_⟩
  simp only[start_eq];walk_at "n";refine⟨_,jH hq,aap _ _,λc hc=>?_⟩;rw[ams];have s1:=iR (o:=.tup (e.args .non)) hc;have aa:=s1 _ _ hq;have z:(upd H c (.tup (e.args .non))) c=some (.tup (e.args .non)):=iK;generalize upd H c (.tup (e.args .non))=H1 at s1 aa z⊢
  try dsimp only
  cases e with
  |buy d n w p r f=>
   have aa:H1 q=some (.tup [.str "buy",.int d,.int n,.str w,.int p,.int r,.int f]):=aa;have z:H1 c=some (.tup [.int d,.int n,.str w,.int p,.int r,.int f]):=z;refine gi1 rfl aa rfl ?_;rw[ap_ret,ap_make];refine(mU rfl z rfl (mU rfl z rfl (mU rfl z rfl (mU rfl z rfl (mU rfl z rfl (mU rfl z rfl ?_))))));rw[ap_nil];intro x dx hx ab ac;exact⟨x,d,n,p,r,f,w,H1,dx,rfl,pU hx ab,hg,λH' hM=>⟨rfl,k x _ H' s1 hM⟩⟩
  |gift d n w p c' s=>
   have aa:H1 q=some (.tup [.str "gift",.int d,.int n,.str w,.int p,.int c',.int s]):=aa;have z:H1 c=some (.tup [.int d,.int n,.str w,.int p,.int c',.int s]):=z;refine si1 rfl aa rfl (by decide+kernel) ?_;refine gi1 rfl aa rfl ?_;rw[ap_ret,ap_make];refine(mU rfl z rfl (mU rfl z rfl (mU rfl z rfl (mU rfl z rfl (mU rfl z rfl (mU rfl z rfl ?_))))));rw[ap_nil];intro x dx hx ab ac;exact⟨x,d,n,p,c',s,w,H1,dx,rfl,pU hx ab,hg,λH' hM=>⟨rfl,k x _ H' s1 hM⟩⟩
  |split d n w m f=>
   have aa:H1 q=some (.tup [.str "split",.int d,.int n,.str w,.int m,.int f]):=aa;have z:H1 c=some (.tup [.int d,.int n,.str w,.int m,.int f]):=z;refine si1 rfl aa rfl (by decide+kernel) ?_;refine si1 rfl aa rfl (by decide+kernel) ?_;refine gi1 rfl aa rfl ?_;rw[ap_ret,ap_make];refine(mU rfl z rfl (mU rfl z rfl (mU rfl z rfl (mU rfl z rfl (mU rfl z rfl ?_)))));rw[ap_nil];intro x dx hx ab ac;exact⟨x,d,n,m,f,w,H1,dx,rfl,pU hx ab,hg,λH' hM=>⟨rfl,k x _ H' s1 hM⟩⟩
  |part d n w u s t=>
   have aa:H1 q=some (.tup [.str "part",.int d,.int n,.str w,.str u,.int s,.int t]):=aa;have z:H1 c=some (.tup [.int d,.int n,.str w,.str u,.int s,.int t]):=z;refine si1 rfl aa rfl (by decide+kernel) ?_;refine si1 rfl aa rfl (by decide+kernel) ?_;refine si1 rfl aa rfl (by decide+kernel) ?_;refine gi1 rfl aa rfl ?_;rw[ap_ret,ap_make];refine(mU rfl z rfl (mU rfl z rfl (mU rfl z rfl (mU rfl z rfl (mU rfl z rfl (mU rfl z rfl ?_))))));rw[ap_nil];intro x dx hx ab ac;exact⟨x,d,n,s,t,w,u,H1,dx,rfl,pU hx ab,hg,λH' hM=>⟨rfl,k x _ H' s1 hM⟩⟩
  |sell d n w p r f o=>
   obtain rfl:o=none:=ho;have aa:H1 q=some (.tup [.str "sell",.int d,.int n,.str w,.int p,.int r,.int f,.non]):=aa;have z:H1 c=some (.tup [.int d,.int n,.str w,.int p,.int r,.int f,.non]):=z;refine si1 rfl aa rfl (by decide+kernel) ?_;refine si1 rfl aa rfl (by decide+kernel) ?_;refine si1 rfl aa rfl (by decide+kernel) ?_;refine si1 rfl aa rfl (by decide+kernel) ?_;walk_at "n";refine⟨_,jH z,_,rfl,?_⟩;walk_at "n";refine gi1 rfl aa rfl ?_;rw[ap_ret,ap_make];refine(mU rfl z rfl (mU rfl z rfl (mU rfl z rfl (mU rfl z rfl (mU rfl z rfl (mU rfl z rfl (aic rfl ?_)))))));rw[ap_nil];intro x dx hx ab ac;exact⟨x,d,n,p,r,f,w,H1,dx,rfl,pU hx ab,hg,λH' hM=>⟨rfl,k x _ H' s1 hM⟩⟩
  |give d n w p o=>
   obtain rfl:o=none:=ho;have aa:H1 q=some (.tup [.str "give",.int d,.int n,.str w,.int p,.non]):=aa;have z:H1 c=some (.tup [.int d,.int n,.str w,.int p,.non]):=z;refine si1 rfl aa rfl (by decide+kernel) ?_;refine si1 rfl aa rfl (by decide+kernel) ?_;refine si1 rfl aa rfl (by decide+kernel) ?_;refine si1 rfl aa rfl (by decide+kernel) ?_;walk_at "n";refine⟨_,jH z,_,rfl,?_⟩;walk_at "n";refine si1 rfl aa rfl (by decide+kernel) ?_;rw[ap_ret,ap_make];refine(mU rfl z rfl (mU rfl z rfl (mU rfl z rfl (mU rfl z rfl (aic rfl ?_)))));rw[ap_nil];intro x dx hx ab ac;exact⟨x,d,n,p,w,H1,dx,rfl,pU hx ab,hg,λH' hM=>⟨rfl,k x _ H' s1 hM⟩⟩
noncomputable def sV:V->Str
 |.int i=>nF i
 |.str z=>z
 |_=>Str.empty
noncomputable def rD(ws:List V):Str:=Txt.join (Str.ofString " ") (ws.map sV)++Str.ofString "\n"
def mW(a b c:Str):a++b++c=a++(b++c):=by
 show Str.mk (a.cps++b.cps++c.cps)=Str.mk (a.cps++(b.cps++c.cps));rw[zzY]
def str_len(a b:Str):(a++b).length=a.length+b.length:=by
 show(a.cps++b.cps).size=_;rw[Array.size_append];rfl
def Sg:(Str.ofString "").cps= #[]:=by decide+kernel
theorem Uk(z:Str):∀(xs:List Str)(a:Array _),xs.foldl (λacc p=>acc++z.cps++p.cps) a=(xs.foldl (fun(t:Str) x=>t++z++x) ⟨a⟩).cps
 |[],a=>rfl
 |x::xs,a=>by
  rw[yh,yh,Uk z xs];rfl
def Es(x:Str):Str.ofString "" ++x=x:=by
 show Str.mk ((Str.ofString "").cps++x.cps)=x;rw[Sg,Array.empty_append]
def Hv(x:Str):x++Str.ofString "" =x:=by
 show Str.mk (x.cps++(Str.ofString "").cps)=x;rw[Sg,Array.append_empty]
def xP(z x:Str)(xs:List Str):Txt.join z (x::xs)=xs.foldl (λt y=>t++z++y) x:=by
 show Str.mk (xs.foldl (λacc p=>acc++z.cps++p.cps) x.cps)=_;rw[Uk]
noncomputable def ux(xs:List Str):Str:=xs.foldl (λt x=>t++x) (Str.ofString "")
def Di(xs:List Str)(x:Str):ux (xs++[x])=ux xs++x:=by
 unfold ux;rw[zzx];rfl
def GJ(xs ys:List Str):ux (xs++ys)=ux xs++ux ys:=by
 induction ys generalizing xs with
 |nil=>rw[yo];exact(Hv _).symm
 |cons y ys ih=>
  rw[show xs++y::ys=(xs++[y])++ys by simp,ih,Di,mW];congr 1;rw[show y::ys=[y]++ys from rfl,ih [y]];congr 1;exact(Es y).symm
def ZW(xs:List Str):Txt.join (Str.ofString "") xs=ux xs:=by
 cases xs with
 |nil=>
  show Str.mk Str.empty.cps=Str.ofString "";have:(Str.ofString "").cps=Str.empty.cps:=by rw[Sg];rfl
  rw[<-this]
 |cons x xs=>
  rw[xP];unfold ux;rw[yh,Es];have:(fun(t:Str) y=>t++Str.ofString "" ++y)=λt y=>t++y:=by funext t y;rw[Hv]
  rw[this]
noncomputable def JR(v:V):Prop:=(∃i:Int,v=.int i/\i.natAbs<2^500)\/∃z:Str,v=.str z/\z.length<=1802
def alc{v:V}(h:JR v):(sV v).length<=1802:=by
 rcases h with⟨i,rfl,hi⟩|⟨z,rfl,q⟩
 ·exact zN (kW hi) (by decide)
 ·exact q
theorem Jr:∀{ws:List V},(∀v∈ws,JR v)->((ws.map sV).map (·.length)).sum<=1802*ws.length
 |[],_=>zK _
 |v::ws,h=>by
  have h1:=alc (h v zg);have h2:=Jr λx q=>h x (zk _ q);rw[zi,zi,zF,zE];omega
def TY{ws:List V}(h:∀v∈ws,JR v):(rD ws).length<=1803*ws.length+1:=by
 have h1:=Jr h;have h2:=StrLaws.join_length_le (Str.ofString " ") (ws.map sV);have q:(Str.ofString " ").length=1:=by decide+kernel
 have e2:(Str.ofString "\n").length=1:=by decide+kernel
 rw[za,q]at h2
 have h3:(Txt.join (Str.ofString " ") (ws.map sV)).length<=((ws.map sV).map (·.length)).sum+ws.length*1:=by
  have z:Txt.join (Str.ofString " ") (ws.map sV)=Str.join (Str.ofString " ") (ws.map sV):=StrLaws.glued_eq_join _ _;rw[z];exact h2
 unfold rD;rw[str_len,e2];omega
inductive xx(K:Fg_)(vs:List V)(H:Hp)(Q:VK)(E:XK):Prop
 |mk (q:Addr) (ws:List V) (_:vs=[.ref q]) (_:H q=some (.lst ws)) (_:(∀v∈ws,JR v)) (_:ws.length<=70) (_:∀H',Same H H'->Q (.str (rD ws)) H'):xx K vs H Q E
def akm:∀ws:List V,(ws.filter λ_=>true).map (λv=>V.str (sV v))=(ws.map sV).map V.str:=λws=>by
 rw[zzk.mpr λ_ _=>rfl,zq];rfl
def JP(T:Txt K mg A D):jQ P w K mg base CX0 1 A.aa8 D.aa8 ["words"] (xx K):=by
 refine T.adb.F.okv Jv λ_ _ _ _ H vs Q E hr h=>?_
 ·obtain⟨q,ws,rfl,hq,hw,hl,k⟩:=h
  refine⟨_,(iJ (jb (jc ju (pW (K:=K) PySem.F.plainAttrs_str PySem.F.slot_str_join PySem.F.type_str_join Yv jj (iG (jW (cap:=[none]) (N':=["word"]) rfl (by walk_at "c") (jD (K:=K) (pv 0)) (λ_ _ _ _=>(iW (i:=0) nd1 rfl orl orr)) (λ_ _ _ _=>jO) (λ_ _ _ _=>(jJ lY (by rfl) T.aep (by decide+kernel) (pav 0 iI)))) iI)) jj))),?_⟩;walk_at "a";refine⟨rfl,⟨_,iT hq⟩,?_⟩;refine kI.list (K:=K) (xs:=ws) (λσ=>∃a,σ=[a]) (λ_=>true) (λv=> .str (sV v)) (iT hq) ⟨_,rfl⟩ (by rw[zn];omega) ?_ ?_
  ·rintro x hx σ H5 R1 R2 ⟨_,rfl⟩ sm k1 k2
   walk_at "i";rcases hw x hx with⟨i,rfl,hi⟩|⟨z,rfl,hz⟩
   ·exact .inl ⟨i,rfl,hi,k1 rfl _ _ ⟨_,rfl⟩ (same_refl _)⟩
   ·exact .inr ⟨z,rfl,k1 rfl _ _ ⟨_,rfl⟩ (same_refl _)⟩
  ·intro D H' hD s e
   rw[akm]at e;have h1:=Jr hw;have e1:(Str.ofString " ").length=1:=by decide+kernel
   have e2:(Str.ofString "\n").length=1:=by decide+kernel
   have h2:=TY hw;unfold rD at h2;rw[str_len,e2]at h2;refine⟨_,D,_,rfl,rfl,e,by rw[za,e1];omega,?_⟩;exact⟨_,rfl,by rw[e2,zn];omega,k H' s⟩
noncomputable def Lh(d:jk):Str:=nF d.n++Str.ofString ":" ++nF d.p++Str.ofString ":" ++nF d.c
structure BgD(d:jk):Prop where
 n:Bd d.n
 p:Bd d.p
 c:Bd d.c
def UG{d:jk}(h:BgD d):(Lh d).length<=1802:=by
 have h1:=kW h.n.nat;have h2:=kW h.p.nat;have q:=kW h.c.nat;have e:(Str.ofString ":").length=1:=by decide+kernel
 unfold Lh;rw[str_len,str_len,str_len,str_len,e];omega
inductive Aw(A:Adr)(vs:List V)(H:Hp)(Q:VK)(E:XK):Prop
 |mk (x:Addr) (d:jk) (_:vs=[.ref x]) (_:mq A H x d) (_:BgD d) (_:Q (.str (Lh d)) H):Aw A vs H Q E
def KC(T:Txt K mg A D):jQ P w K mg base CX0 1 A.aa6 D.aa6 ["lot"] (Aw A):=by
 refine T.ac9.F.okv oW λ_ _ _ _ H vs Q E hr h=>?_
 ·obtain⟨x,d,rfl,⟨dx,q⟩,⟨z,b2,b3⟩,k⟩:=h
  refine ⟨_,(iH (iY (i:=1) oW.nd rfl orl (fv K 0))
   (iH (iY (i:=2) oW.nd rfl orl (fv K 0))
   (iH (iY (i:=3) oW.nd rfl orl (fv K 0))
   (iJ (jb (Tg (pvD 1) (pvD 2) (pvD 3))))))),?_⟩
  simp only[start_eq];walk_at "n";refine rd q T.af6 T.af7 (by rfl) ?_;walk_at "n";refine rd q T.af6 T.af9 (by rfl) ?_;walk_at "n";refine rd q T.af6 T.aga (by rfl) ?_;rw[ap_ret];(try dsimp only);walk_at "i";exact⟨z.nat,b2.nat,b3.nat,k⟩
noncomputable def qX(c:ajD):Int×Int×Option Int:=(c.1.1,if c.2=none then prD c - coD c else 0,c.2)
noncomputable def nM(d:Int×Int×Option Int):List V:=[.str (Str.ofString "sale"),.int d.1,.int d.2.1]++match d.2.2 with
 |none=>[]
 |some i=>[.str (Str.ofString "laid"),.int i]
inductive uX(A:Adr)(vs:List V)(H:Hp)(Q:VK)(E:XK):Prop
 |mk (x:Addr) (s:jM) (_:vs=[.ref x]) (_:lA A H x s) (_:∀l H',Same H H'->H l=none->H' l=some (.lst (nM (qX s.dat)))->Q (.ref l) H'):uX A vs H Q E
def Gi(T:Txt K mg A D):jQ P w K mg base CX0 4 A.aa3 D.aa3 ["sale"] (uX A):=by
 refine T.ac6.F.okv vg λ_ _ _ _ H vs Q E hr h=>?_
 ·obtain⟨x,s,rfl,hx,k⟩:=h
  refine ⟨_,(iH (iY (i:=1) vg.nd rfl orl (jV (iG jj (iG (fv K 0) (iG (lE (pv 0) (mc T.afH T.agu (nW T) hr (oV T) .nil) jB) iI)))))
   (iJ (jb (xY (je (Fi) (fv K 0) mF (ji _)) (pvD 1) (jc Tj (pvD 1) (jV (iG jj (iG (fv K 0) iI)))))))),?_⟩
  obtain⟨dx,hi⟩:=hx.i;simp only[start_eq];walk_at "n";refine rd hi T.afH T.afI (by rfl) (md hi zg (by rfl) ⟨x,s,rfl,hx,λH1 s1=>⟨by rw[zn];show 3<=_;decide,λl hl=>?_⟩⟩);have s2:=s1.trans (iR (o:=.lst [V.str (Str.ofString "sale"),V.int s.n,V.int s.cnt]) hl);have q:(upd H1 l (.lst [V.str (Str.ofString "sale"),V.int s.n,V.int s.cnt])) l=some (.lst [V.str (Str.ofString "sale"),V.int s.n,V.int s.cnt]):=iK;have aa:=s1.free hl;generalize upd H1 l (.lst [V.str (Str.ofString "sale"),V.int s.n,V.int s.cnt])=H2 at s2 q⊢;rw[ap_ret];(try dsimp only);walk_at "i";refine rd (s2 _ _ hi) T.afH T.afN (v:=loV s.lo) (by rfl) ?_
  cases e:s.lo with
  |none=>
   rw[zl (show loV none=V.non from rfl)];refine k l _ s2 aa ?_;unfold qX nM jM.dat;rw[q,e];unfold jM.cnt;rw[e,zl rfl];rfl
  |some i=>
   rw[ze (show¬loV (some i)=V.non from λc=>by cases c)];refine rd (s2 _ _ hi) T.afH T.afN (v:=.int i) (by show some (loV s.lo)=_;rw[e];rfl) ⟨by rw[zn];show 2<=_;decide,λp hp=>?_⟩;refine⟨_,iR hp _ _ q,_,iK,by rw[zn];show 5<=_;decide,λp5 z=>?_⟩;have s3:=s2.trans (iR (o:=.lst [V.str (Str.ofString "laid"),V.int i]) hp);refine k p5 _ (s3.trans (iR z)) (s3.free z) ?_;unfold qX nM jM.dat;rw[iK,e];unfold jM.cnt;rw[e,ze (λc=>by cases c)];rfl
noncomputable def heldW(z:Str)(ls:RL):List V:=[.str (Str.ofString "held"),.str z,.int (pcs ls),.int (jX ls)]++ls.map λl=> .str (Lh l.2)
def ZL{ls:RL}{acc:List V}(q:acc.length=ls.length)(h:∀(i:Nat) v,acc[i]? =some v->∃l,ls[i]? =some l/\v=.str (Lh l.2)):acc=ls.map λl=>V.str (Lh l.2):=by
 refine zzb λi=>?_;rw[zm];by_cases hi:i<acc.length
 ·obtain⟨l,h1,h2⟩:=h i _ (zr hi)
  rw[zr hi,h2,h1];rfl
 ·rw[zY (by omega),zY (by omega)]
  rfl
inductive vG(A:Adr)(vs:List V)(H:Hp)(Q:VK)(E:XK):Prop
 |mk (z:Str) (q:Addr) (ls:RL) (_:vs=[.str z,.ref q]) (_:H q=some (.lst (jt ls))) (_:kO A H ls) (_:ls.length<=61) (_:(∀l∈ls,BgD l.2)) (_:∀l H',Same H H'->H l=none->H' l=some (.lst (heldW z ls))->Q (.ref l) H'):vG A vs H Q E
def FQ(T:Txt K mg A D):jQ P w K mg base CX0 2 A.aa7 D.aa7 ["ware", "lots"] (vG A):=by
 refine T.ada.F.okv Fx λ_ _ _ _ H vs Q E hr h=>?_
 ·obtain⟨z,q,ls,rfl,hq,hL,hl,hb,k⟩:=h
  refine⟨_,(iJ (jb (jc Tj (jV (iG jj (pav 0 (iG (pcg (Fo T) hr T.ac7 (JM T) (pav 1 iI)) (iG (pcg (LR T) hr T.ac8 (QV T) (pav 1 iI)) iI))))) (jW (cap:=[none]) (N':=["lot"]) rfl (by walk_at "c") (jD (K:=K) (pv 1)) (λ_ _ _ _=>(iW (i:=0) nd1 rfl orl orr)) (λ_ _ _ _=>jO) (λ_ _ _ _=>(pcg (KC T) hr T.ac9 (Mm T) (pav 0 iI))))))),?_⟩;walk_at "a";refine⟨q,ls,rfl,hq,hL,by omega,λH1 s1=>⟨q,ls,rfl,s1 _ _ hq,hL.same s1,by omega,λH2 s2=>?_⟩⟩;have S2:=s1.trans s2;have ep:((ls.map (·.2)).map jk.p).sum=pcs ls:=by unfold pcs;rw[zq];rfl
  rw[ep,<-mD];refine⟨by rw[zn];show 4<=_;decide,λp hp=>⟨⟨_,iT (iR hp _ _ (S2 _ _ hq))⟩,?_⟩⟩;have s3:=iR (o:=.lst [V.str (Str.ofString "held"),V.str z,V.int (pcs ls),V.int (jX ls)]) hp;have h3:(upd H2 p (.lst [V.str (Str.ofString "held"),V.str z,V.int (pcs ls),V.int (jX ls)])) p=some (.lst [V.str (Str.ofString "held"),V.str z,V.int (pcs ls),V.int (jX ls)]):=iK;generalize upd H2 p (.lst [V.str (Str.ofString "held"),V.str z,V.int (pcs ls),V.int (jX ls)])=H3 at s3 h3⊢;have S3:=S2.trans s3;refine kI.listE (K:=K) (λσ=>∃a,σ=[a]) (λi v _=>∃l,ls[i]? =some l/\v=.str (Lh l.2)) (iT (S3 _ _ hq)) ⟨_,rfl⟩ (by rw[iV,zn];omega) ?_ ?_
  ·rintro Da i x hx σ H5 R ⟨_,rfl⟩ sm hD _ kk
   obtain⟨l,ab,rfl⟩:=jG hx;walk_at "i";exact⟨l.1,l.2,rfl,(hL l (get_mem ab)).same (S3.trans sm),hb l (get_mem ab),kk _ _ H5 ⟨_,rfl⟩ (same_refl _) λH' _=>⟨l,ab,rfl⟩⟩
  ·intro Da H4 acc hD s4 hA aa hF
   rw[iV]at aa;rw[ZL aa hF]at hA;rw[ap_rCat];refine⟨_,_,s4 _ _ h3,hA,by rw[za,zn];show 4+ls.length<=_;omega,λp5 ac=>?_⟩;have S4:=S3.trans s4;exact k p5 _ (S4.trans (iR ac)) (S4.free ac) (by rw[iK];rfl)
noncomputable def leS(a b:Str):Prop:=¬b.cps.toList<a.cps.toList
theorem QQ:∀{l:List Str}{p:Str},risingS p l=true->(p::l).Pairwise leS
 |[],p,_=>zzr _ _
 |x::l,p,h=>by
  have h:(!PySem.Spec.ltCps x.cps.toList p.cps.toList && risingS x l)=true:=h;rw[yJ]at h
  have h1:leS p x:=λc=>by
   have:=h.1;rw[ltCps_eq,zM c]at this;cases this
  have z:=QQ h.2;refine List.pairwise_cons.mpr ⟨λy q=>?_,z⟩;rcases zt.mp q with rfl|q
  ·exact h1
  ·exact List.le_trans h1 ((List.pairwise_cons.mp z).1 y q)
def Py{l:List Str}(h:sortedS l=true):l.Pairwise leS:=by
 cases l with
 |nil=>exact .nil
 |cons x l=>exact QQ h
def Mh{a b:List Str}(h:a.Perm b)(ha:sortedS a=true)(q:sortedS b=true):a=b:=
 List.Perm.eq_of_pairwise (fun⟨x⟩⟨y⟩ _ _ h1 h2=>congrArg Str.mk (Array.toList_inj.mp (List.le_antisymm h1 h2))) (Py ha) (Py q) h
abbrev WL:=List (Addr×List V)
noncomputable def pC(wl:WL):List V:=wl.map λt=>V.ref t.1
def wN(q:WL):(pC q).length=q.length:=by unfold pC;rw[za]
def Xi{rs:WL}{i:Nat}{y:V}(h:(pC rs)[i]? =some y):∃r,rs[i]? =some r/\y=.ref r.1:=by
 unfold pC at h;rw[zm]at h
 cases e:rs[i]? with
 |none=>rw[e]at h;cases h
 |some r=>rw[e]at h;exact⟨r,rfl,(zy h).symm⟩
noncomputable def WAt(H:Hp)(wl:WL):Prop:=∀t∈wl,H t.1=some (.lst t.2)
def WAt.same{H H':Hp}{q:WL}(h:WAt H q)(s:Same H H'):WAt H' q:=λt z=>s _ _ (h t z)
theorem ajL{H:Hp}:∀{acc:List V}{xs:List (List V)},acc.length=xs.length->(∀(i:Nat) v,acc[i]? =some v->∃b x,xs[i]? =some x/\v=.ref b/\H b=some (.lst x))->∃q:WL,acc=pC q/\q.map (·.2)=xs/\WAt H q
 |[],[],_,_=>⟨[],rfl,rfl,λr h=>(zf h).elim⟩
 |[],_::_,h,_=>by simp at h
 |_::_,[],h,_=>by simp at h
 |v::acc,x::xs,hl,h=>by
  obtain⟨b,x',e,rfl,hb⟩:=h 0 v rfl;cases e;obtain⟨q,e1,e2,e3⟩:=ajL (acc:=acc) (xs:=xs) (by simpa using hl) λi v hv=>h (i+1) v hv;refine⟨(b,x)::q,by rw[e1];rfl,by rw[zi,e2],λr z=>?_⟩;rcases zt.mp z with rfl|z
  ·exact hb
  ·exact e3 r z
noncomputable def aki(x:List V):Prop:=∃z r,x=.str z::r
def Zm{H:Hp}{q wm:WL}{D:Addr}{o:HO}(h:WAt H q)(hs:∀x∈q.map (·.2),aki x)(hD:H D=some (.lst (pC wm))):WAt (upd H D o) q:=λt ht=>by
 have h1:=h t ht;refine(iZ λe=>?_).trans h1;rw[e,hD]at h1;injection h1 with h1
 injection h1 with h1
 obtain⟨z,r,e2⟩:=hs t.2 (zb.mpr ⟨t,ht,rfl⟩);rw[e2]at h1
 cases wm with
 |nil=>cases h1
 |cons a wm=>cases h1
noncomputable def vP(k:BkD):Int:=(k.sl.map λt=>(qX t.2.dat).2.1).sum
noncomputable def Wb(k:BkD)(ss:List Str):List (List V):=(k.sl.map λt=>nM (qX t.2.dat))++(ss.map λz=>heldW z (rowOf k.rs z))++[[.str (Str.ofString "gain"),.int (vP k)]]
noncomputable def ake(k:BkD)(ss:List Str):Str:=ux ((Wb k ss).map rD)
structure aao(ns:List Int)(W:List Str)(k:BkD):Prop where
 r:Nz ns W k.rs
 n:ns.length<=40
 w:W.length<=6
 l:k.sl.length<=40
 s:∀c∈k.sl.map (λt=>t.2.dat),Bd c.1.1/\Bd (qX c).2.1/\∀i,c.2=some i->Bd i
 g:Bd (vP k)
 b:∀z,Bd (pcs (rowOf k.rs z))/\Bd (jX (rowOf k.rs z))/\∀l∈rowOf k.rs z,BgD l.2
 z:∀z∈W,z.length<=8
theorem aao.len{ns:List Int}{W:List Str}{k:BkD}(h:aao ns W k)(z:Str):(rowOf k.rs z).length<=40:=zN (h.r.row z).len h.n
def wI{i:Int}(h:Bd i):JR (.int i):=.inl ⟨i,rfl,h.nat⟩
def wS{s:String}(h:(Str.ofString s).length<=1802):JR (.str (Str.ofString s)):=.inr ⟨_,rfl,h⟩
def Qv{ns:List Int}{W:List Str}{k:BkD}(h:aao ns W k){ss:List Str}(hs:∀z∈ss,z∈W):(∀x∈k.sl.map (λt=>nM (qX t.2.dat)),aki x/\x.length<=5/\∀v∈x,JR v)/\(∀x∈ss.map (λz=>heldW z (rowOf k.rs z)),aki x/\x.length<=44/\∀v∈x,JR v)/\∀x∈[[V.str (Str.ofString "gain"),.int (vP k)]],aki x/\x.length<=2/\∀v∈x,JR v:=by
 refine⟨λx hx=>?_,λx hx=>?_,λx hx=>?_⟩
 ·obtain⟨t,ht,rfl⟩:=zb.mp hx
  obtain⟨b1,b2,b3⟩:=h.s _ (zb.mpr ⟨t,ht,rfl⟩);have e2:(qX t.2.dat).2.2=t.2.dat.2:=rfl;unfold nM;rw[e2];refine⟨⟨_,_,rfl⟩,?_,λv q=>?_⟩
  ·cases t.2.dat.2
   ·exact(show(3:Nat)<=5 by decide)
   ·exact(show(5:Nat)<=5 by decide)
  ·rcases zA.mp q with q|q
   ·simp only[zt,zf,or_false]at q
    rcases q with rfl|rfl|rfl
    ·exact wS (by decide+kernel)
    ·exact wI b1
    ·exact wI b2
   ·cases e:t.2.dat.2 with
    |none=>rw[e]at q;cases q
    |some i=>
     rw[e]at q;simp only[zt,zf,or_false]at q;rcases q with rfl|rfl
     ·exact wS (by decide+kernel)
     ·exact wI (b3 i e)
 ·obtain⟨z,hz,rfl⟩:=zb.mp hx
  obtain⟨b1,b2,b3⟩:=h.b z;have hl:=h.len z;have hz:=h.z z (hs z hz);unfold heldW;refine⟨⟨_,_,rfl⟩,?_,λv q=>?_⟩
  ·rw[zB,za]
   show 4+_<=44;omega
  ·rcases zA.mp q with q|q
   ·simp only[zt,zf,or_false]at q
    rcases q with rfl|rfl|rfl|rfl
    ·exact wS (by decide+kernel)
    ·exact .inr ⟨_,rfl,by omega⟩
    ·exact wI b1
    ·exact wI b2
   ·obtain⟨l,hl,rfl⟩:=zb.mp q
    exact .inr ⟨_,rfl,UG (b3 l hl)⟩
 ·rw[zu.mp hx]
  refine⟨⟨_,_,rfl⟩,zo _,λv q=>?_⟩;simp only[zt,zf,or_false]at q;rcases q with rfl|rfl
  ·exact wS (by decide+kernel)
  ·exact wI h.g
theorem uQ{B:Nat}:∀{xs:List (List V)},(∀x∈xs,aki x/\x.length<=B/\∀v∈x,JR v)->((xs.map rD).map (·.length)).sum<=(1803*B+1)*xs.length
 |[],_=>zK _
 |x::xs,hh=>by
  obtain⟨_,h1,z⟩:=hh x zg;have h2:=TY z;have h3:=uQ λy q=>hh y (zk _ q);rw[zi,zi,zF,zE,Nat.mul_succ];have h4:1803*x.length<=1803*B:=yy _ h1;omega
def ajp{ns:List Int}{W:List Str}{k:BkD}(h:aao ns W k){ss:List Str}(hs:∀z∈ss,z∈W)(hl:ss.length<=6):(((Wb k ss).map rD).map (·.length)).sum<=900000/\(Wb k ss).length<=47/\∀x∈Wb k ss,aki x/\x.length<=44/\∀v∈x,JR v:=by
 obtain⟨a,b,c⟩:=Qv h hs;have ha:=uQ a;have hb:=uQ b;have hc:=uQ c;have aa:=h.l;refine⟨?_,?_,λx hx=>?_⟩
 ·unfold Wb
  rw[zj,zj,zj,zj,yj,yj];rw[za]at ha hb;have e1:(1803*5+1)*k.sl.length<=(1803*5+1)*40:=yy _ aa;have e2:(1803*44+1)*ss.length<=(1803*44+1)*6:=yy _ hl;have e3:(1803*2+1)*[[V.str (Str.ofString "gain"),V.int (vP k)]].length=3607:=rfl;omega
 ·unfold Wb
  rw[zB,zB,za,za];show _+1<=47;omega
 ·unfold Wb at hx
  rcases zA.mp hx with hx|hx
  ·rcases zA.mp hx with hx|hx
   ·obtain⟨p,q,r⟩:=a x hx
    exact⟨p,by omega,r⟩
   ·exact b x hx
  ·obtain⟨p,q,r⟩:=c x hx
   exact⟨p,by omega,r⟩
def HY{rs:List (Addr×jM)}{i:Nat}{y:V}(h:(vL rs)[i]? =some y):∃r,rs[i]? =some r/\y=.ref r.1:=by
 unfold vL at h;rw[zm]at h
 cases e:rs[i]? with
 |none=>rw[e]at h;cases h
 |some r=>rw[e]at h;exact⟨r,rfl,(zy h).symm⟩
def IV{α:Type}(f:ajD->α){sl:List (Addr×jM)}{k:BkD}(e:sl.map (λt=>t.2.dat)=k.sl.map (λt=>t.2.dat)):(sl.map λt=>f t.2.dat)=k.sl.map λt=>f t.2.dat:=by
 have:=congrArg (List.map f) e;rw[zq,zq]at this;exact this
def WR(rs:RW):Ea rs=(rs.map λt=>(t.1,V.int (pcs t.2.2))).map λq=>(Sum.inr q.1,q.2):=by unfold Ea;rw[zq];rfl
def amI{α:Type}{f:α->V}{ws:List α}{acc:List V}(hl:acc.length=ws.length)(h:∀(i:Nat) v,acc[i]? =some v->∃t,ws[i]? =some t/\v=f t):acc=ws.map f:=by
 refine zzb λi=>?_;rw[zm];by_cases hi:i<acc.length
 ·obtain⟨t,q,z⟩:=h i _ (zr hi)
  rw[zr hi,z,q];rfl
 ·rw[zY (by omega),zY (by omega)]
  rfl
inductive Fb(A:Adr)(vs:List V)(H:Hp)(Q:VK)(E:XK):Prop
 |mk (b:Addr) (k:BkD) (ns:List Int) (W:List Str) (_:vs=[.ref b]) (_:jf A H b k) (_:aao ns W k) (_:∀ss H',Same H H'->ss.Perm (k.rs.map (·.1))->sortedS ss=true->Q (.str (ake k ss)) H'):Fb A vs H Q E
def wR(T:Txt K mg A D):jQ P w K mg base CX0 5 A.abb D.abb ["book"] (Fb A):=by
 refine T.ade.F.okv wJ λ_ _ _ _ H vs Q E hr h=>?_
 ·obtain⟨b,kb,ns,W,rfl,hB,hR,k⟩:=h
  refine ⟨_,(iH (iY (i:=1) wJ.nd rfl orl (lE (pv 0) (mc T.afO T.agv (qe T) hr (rK T) (mc T.afW T.agw (qe T) hr (rK T) .nil)) jB))
   (iH (nC (i:=2) wJ.nd rfl rfl (cap:=[none]) (N':=["sale"]) rfl (by walk_at "c") (jD (K:=K) (pv 1)) (λ_ _ _ _=>(iW (i:=0) nd1 rfl orl orr)) (λ_ _ _ _=>jO) (λ_ _ _ _=>(pcg (Gi T) hr T.ac6 (IW T) (pav 0 iI))))
   (iH (jh (pW (K:=K) zL PySem.F.slot_list_extend PySem.F.type_list_extend Oq (pvD 2) (iG (jW (cap:=[none,some 0]) (N':=["ware", "book"]) rfl (by walk_at "c") (mC (K:=K) (jl (Iw rfl) (by rfl) T.aes (by decide+kernel) (iG (lE (pv 0) (mc T.afO T.agz (nA T) hr (oF T) (mc T.afW T.agA (nA T) hr (oF T) .nil)) jB) iI))) (λ_ _ _ _=>(iW (i:=0) (show(["ware", "book"]:List Str).Nodup from by decide+kernel) rfl orl orr)) (λ_ _ _ _=>jO) (λ_ _ _ _=>(pcg (FQ T) hr T.ada (JC T) (pav 0 (iG (jy (pv 1) (mc T.afO T.agx (jF T) hr (jL T) (mc T.afW T.agy (jF T) hr (jL T) .nil)) jB (pav 0 iI)) iI))))) iI)))
   (iH (jh (pW (K:=K) zL zU zV lW (pvD 2) (iG (jV (iG jj (iG (jl (qC (K:=K) rfl) (by rfl) T.aer (by decide+kernel) (iG (jW (cap:=[none]) (N':=["sale"]) rfl (by walk_at "c") (jD (K:=K) (pv 1)) (λ_ _ _ _=>(iW (i:=0) nd1 rfl orl orr)) (λ_ _ _ _=>jO) (λ_ _ _ _=>(lE (pv 0) (mc T.afH T.agu (nW T) hr (oV T) .nil) jB))) iI)) iI))) iI)))
   (iJ (jb (pW (K:=K) PySem.F.plainAttrs_str PySem.F.slot_str_join PySem.F.type_str_join Yv jj (iG (jW (cap:=[none]) (N':=["row"]) rfl (by walk_at "c") (jD (K:=K) (pv 2)) (λ_ _ _ _=>(iW (i:=0) nd1 rfl orl orr)) (λ_ _ _ _=>jO) (λ_ _ _ _=>(pcg (JP T) hr T.adb (Kv T) (pav 0 iI)))) iI)))))))),?_⟩
  obtain⟨db,hb⟩:=hB.i;have ch:=hR.l;simp only[start_eq];walk_at "n";refine md hb hB.me (kb.noM _ (by decide+kernel)) ⟨b,kb,rfl,hB,by omega,λl sl H1 s1 hl h1 aj as=>?_⟩
  have cf:sl.length<=40:=by
   have:=congrArg List.length as;rw[za,za]at this;omega
  walk_at "n";refine⟨⟨_,iT h1⟩,?_⟩;refine kI.listE (K:=K) (λσ=>∃a,σ=[a]) (λi v H'=>∃b x,(sl.map λt=>nM (qX t.2.dat))[i]? =some x/\v=.ref b/\H' b=some (.lst x)) (iT h1) ⟨_,rfl⟩ (by rw[vW,zn];omega) ?_ ?_
  ·rintro Da i x hx σ H5 R ⟨_,rfl⟩ sm hD ⟨acc,hA⟩ kk
   obtain⟨t,ht,rfl⟩:=HY hx;walk_at "i";exact⟨t.1,t.2,rfl,(aj t (zh ht)).1.same sm,λy H6 s6 hy h6=>kk (.ref y) _ H6 ⟨_,rfl⟩ s6 λH' hb=>⟨y,_,by rw[zm,ht];rfl,rfl,hb _ _ (λe=>by rw[e,hA]at hy;cases hy) h6⟩⟩
  ·intro D2 H2 acc an s2 au af b0
   rw[vW]at af;obtain⟨wl,e1,e2,e3⟩:=ajL (xs:=sl.map λt=>nM (qX t.2.dat)) (by rw[af,za]) b0;rw[e1]at au;rw[IV (λc=>nM (qX c)) as]at e2;have S2:=s1.trans s2;have bb:H D2=none:=s1.free an;have aq:=hB.same S2;obtain⟨cd,b2⟩:=aq.i
   have cj:wl.length<=40:=by
    have:=congrArg List.length e2;rw[za,za]at this;omega
   walk_at "n";refine⟨tyL (iT au),md b2 aq.me (kb.noM _ (by decide+kernel)) ⟨b,kb,ns,W,rfl,aq,hR.r,by have:=hR.w;omega,by have:=hR.n;omega,λph kv H3 s3 ce h3 _ _ _ bu=>?_⟩⟩;show NQ [.ref ph] H3 _;rw[ap_rSortDK];rw[bu,WR]at h3;have bp:kb.rs.length<=6:=zN hR.r.len hR.w;refine⟨_,h3,by rw[za];omega,λps ss bx aa ap=>?_⟩;rw[zq]at aa;have aa:ss.Perm (kb.rs.map (·.1)):=aa
   have bc:∀z∈ss,z∈W:=λz hz=>by
    obtain⟨t,ht,rfl⟩:=zb.mp (aa.mem_iff.mp hz);exact hR.r.w t ht
   have be:ss.length<=6:=by rw[aa.length_eq,za];exact bp
   have s4:=iR (o:=.lst (ss.map V.str)) bx;have h4:(upd H3 ps (.lst (ss.map V.str))) ps=some (.lst (ss.map V.str)):=iK;generalize upd H3 ps _=H4 at s4 h4⊢;have bk:=s3.trans s4;have S4:=S2.trans bk;have bs:=hB.same S4;obtain⟨ca,b7,ae⟩:=ajp hR bc be;refine⟨ps,rfl,⟨_,iT h4⟩,?_⟩;refine kI.listE (K:=K) (λσ=>∃a,σ=[a,some (.ref b)]) (λi v H'=>∃b x,(ss.map λz=>heldW z (rowOf kb.rs z))[i]? =some x/\v=.ref b/\H' b=some (.lst x)) (iT h4) ⟨_,rfl⟩ (by rw[za,zn];omega) ?_ ?_
   ·rintro Da i x hx σ H5 R ⟨_,rfl⟩ sm hD ⟨acc,hA⟩ kk
    obtain ⟨z,hz,rfl⟩:∃z,ss[i]? =some z/\x=.str z:=by
     rw[zm]at hx
     cases e:ss[i]? with
     |none=>rw[e]at hx;cases hx
     |some z=>rw[e]at hx;exact⟨z,rfl,(zy hx).symm⟩
    have ak:=bs.same sm;obtain⟨cg,b4⟩:=ak.i;walk_at "i";refine md b4 ak.me (kb.noM _ (by decide+kernel)) ⟨b,z,kb,rfl,ak,λq H6 s6 hq h6 br=>⟨z,q,rowOf kb.rs z,rfl,h6,br,by have:=hR.len z;omega,(hR.b z).2.2,λy H7 s7 hy h7=>kk (.ref y) _ H7 ⟨_,rfl⟩ (s6.trans s7) λH' hb=>⟨y,_,by rw[zm,hz];rfl,rfl,hb _ _ (λe=>by rw[e,s6 _ _ hA]at hy;cases hy) h7⟩⟩⟩
   ·intro D5 H5 aiY cc s5 bj ao b5
    obtain⟨wh,f1,f2,f3⟩:=ajL (xs:=ss.map λz=>heldW z (rowOf kb.rs z)) (by rw[ao,za,za]) b5;rw[f1]at bj;have aw:=bk.trans s5;have ad:=aw _ _ au
    have ci:wh.length<=6:=by
     have:=congrArg List.length f2;rw[za,za]at this;omega
    have e3':=e3.same aw;refine⟨D2,D5,_,_,rfl,rfl,ad,bj,by rw[wN,wN,zn];omega,?_⟩;obtain⟨r1,r2,r3⟩:=Qv hR bc;rw[show pC wl++pC wh=pC (wl++wh) by unfold pC;rw[zj]]
    have ay:WAt (upd H5 D2 (.lst (pC (wl++wh)))) (wl++wh):=Zm (wm:=wl) (λt ht=>(zA.mp ht).elim (e3' t) (f3 t)) (λx hx=>by
     rw[zj,e2,f2]at hx;exact(zA.mp hx).elim (λh=>(r1 x h).1) (λh=>(r2 x h).1)) ad
    have h6:(upd H5 D2 (.lst (pC (wl++wh)))) D2=some (.lst (pC (wl++wh))):=iK;have S6:Same H (upd H5 D2 (.lst (pC (wl++wh)))):=(S4.trans s5).upd bb;have ai:But D2 H5 (upd H5 D2 (.lst (pC (wl++wh)))):=λa o h e=>(iZ h).trans e;have bq:l≠D2:=λe=>by rw[e,an]at h1;cases h1
    have bm:=s2.trans aw;have ar:(upd H5 D2 (.lst (pC (wl++wh)))) l=some (.lst (vL sl)):=ai _ _ bq (bm _ _ h1);have bh:∀t∈sl,lA A (upd H5 D2 (.lst (pC (wl++wh)))) t.1 t.2:=λt ht=>((aj t ht).1.same bm).but ad (λe=>by have:=(aj t ht).1.p;rw[e,an]at this;cases this) ai;generalize upd H5 D2 (.lst (pC (wl++wh)))=H6 at ay h6 ar bh S6⊢;clear ai;walk_at "n";refine⟨tyL (iT h6),⟨_,iT ar⟩,?_⟩;refine kI.listE (K:=K) (λσ=>∃a,σ=[a]) (λi v _=>∃t,sl[i]? =some t/\v=.int (qX t.2.dat).2.1) (iT ar) ⟨_,rfl⟩ (by rw[vW,zn];omega) ?_ ?_
    ·rintro Da i x hx σ H7 R ⟨_,rfl⟩ sm hD _ kk
     obtain⟨t,ht,rfl⟩:=HY hx;have bi:=(bh t (zh ht)).same sm;obtain⟨dt,b6⟩:=bi.i;walk_at "i";exact md b6 zg (by rfl) ⟨t.1,t.2,rfl,bi,λH8 s8=>kk _ _ H8 ⟨_,rfl⟩ s8 λH' _=>⟨t,ht,rfl⟩⟩
    ·intro D7 H7 bo cb s7 ax ac b3
     rw[vW]at ac
     have eA:bo=(kb.sl.map λt=>(qX t.2.dat).2.1).map V.int:=by
      rw[<-IV (λc=>(qX c).2.1) as,zq];exact amI ac b3
     rw[eA]at ax;rw[ap_rSum];refine⟨_,iT ax,by rw[zn];show 2<=_;decide,λpg bz=>?_⟩;have s8:=iR (o:=.lst [V.str (Str.ofString "gain"),.int (vP kb)]) bz;have bl:(upd H7 pg (.lst [V.str (Str.ofString "gain"),.int (vP kb)])) pg=some (.lst [V.str (Str.ofString "gain"),.int (vP kb)]):=iK;rw[show(kb.sl.map λt=>(qX t.2.dat).2.1).sum=vP kb from rfl];generalize upd H7 pg (.lst [V.str (Str.ofString "gain"),.int (vP kb)])=H8 at s8 bl⊢;have am:=s7.trans s8;have bn:=am _ _ h6;refine⟨_,bn,by rw[wN,zB,zn];omega,?_⟩;obtain⟨w3,av⟩:∃w3:WL,w3=(wl++wh)++[(pg,[V.str (Str.ofString "gain"),.int (vP kb)])]:=⟨_,rfl⟩;rw[show pC (wl++wh)++[V.ref pg]=pC w3 by rw[av];unfold pC;rw[zj (l₁:=wl++wh)];rfl]
     have ag:w3.map (·.2)=Wb kb ss:=by
      rw[av,zj,zj,e2,f2];rfl
     have bf:WAt (upd H8 D2 (.lst (pC w3))) w3:=Zm (wm:=wl++wh) (λt ht=>by
      rw[av]at ht;rcases zA.mp ht with ht|ht
      ·exact am _ _ (ay t ht)
      ·rw[zu.mp ht];exact bl) (λx hx=>by
      rw[ag]at hx;exact(ae x hx).1) bn
     have h9:(upd H8 D2 (.lst (pC w3))) D2=some (.lst (pC w3)):=iK;have S9:Same H (upd H8 D2 (.lst (pC w3))):=(S6.trans am).upd bb;generalize upd H8 D2 (.lst (pC w3))=H9 at bf h9 S9⊢;have b9:w3.length=(Wb kb ss).length:=by rw[<-ag,za]
     rw[ap_ret];(try dsimp only);walk_at "i";refine⟨rfl,⟨_,iT h9⟩,?_⟩;refine kI.listE (K:=K) (λσ=>∃a,σ=[a]) (λi v _=>∃t,w3[i]? =some t/\v=.str (rD t.2)) (iT h9) ⟨_,rfl⟩ (by rw[wN,zn];omega) ?_ ?_
     ·rintro Da i x hx σ az R ⟨_,rfl⟩ sm hD _ kk
      obtain⟨t,ht,rfl⟩:=Xi hx;have ba:=zh ht;have bd:t.2∈Wb kb ss:=by rw[<-ag];exact zb.mpr ⟨t,ba,rfl⟩
      walk_at "i";exact⟨_,t.2,rfl,sm _ _ (bf t ba),(ae t.2 bd).2.2,by have:=(ae t.2 bd).2.1;omega,λb1 bt=>kk _ _ b1 ⟨_,rfl⟩ bt λH' _=>⟨t,ht,rfl⟩⟩
     ·intro bv az al b8 bw ah ab bg
      rw[wN]at ab
      have eA:al=((Wb kb ss).map rD).map V.str:=by
       rw[<-ag,zq,zq];exact amI ab bg
      rw[eA]at ah;refine⟨_,bv,_,rfl,rfl,ah,?_,?_⟩
      ·rw[show(Str.ofString "").length=0 by decide+kernel]
       omega
      ·rw[ZW]
       exact k ss az (S9.trans bw) aa ap
theorem HB:∀xs:List Str,(ux xs).length=(xs.map (·.length)).sum
 |[]=>by unfold ux;decide+kernel
 |x::xs=>by
  rw[show x::xs=[x]++xs from rfl,GJ,str_len,HB xs,zj,yj];congr 1;show(Str.ofString "" ++x).length=_;rw[Es];simp
def alY(n c:Int):rD (nM (n,c,none))=Str.ofString "sale " ++nF n++Str.ofString " " ++nF c++Str.ofString "\n" :=by
 show Txt.join (Str.ofString " ") [Str.ofString "sale",nF n,nF c]++_=_;rw[xP];show Str.ofString "sale" ++Str.ofString " " ++nF n++Str.ofString " " ++nF c++_=_;rw[show Str.ofString "sale" ++Str.ofString " " =Str.ofString "sale " by decide+kernel]
def akx(n c i:Int):rD (nM (n,c,some i))=Str.ofString "sale " ++nF n++Str.ofString " " ++nF c++Str.ofString " laid " ++nF i++Str.ofString "\n" :=by
 show Txt.join (Str.ofString " ") [Str.ofString "sale",nF n,nF c,Str.ofString "laid",nF i]++_=_;rw[xP];show Str.ofString "sale" ++Str.ofString " " ++nF n++Str.ofString " " ++nF c++Str.ofString " " ++Str.ofString "laid" ++Str.ofString " " ++nF i++_=_;rw[show Str.ofString "sale" ++Str.ofString " " =Str.ofString "sale " by decide+kernel,show Str.ofString " laid " =Str.ofString " " ++(Str.ofString "laid" ++Str.ofString " ") by decide+kernel];simp only[mW]
def akn(n:Int):rD [.str (Str.ofString "gain"),.int n]=Str.ofString "gain " ++nF n++Str.ofString "\n" :=by
 show Txt.join (Str.ofString " ") [Str.ofString "gain",nF n]++_=_;rw[xP];show Str.ofString "gain" ++Str.ofString " " ++nF n++_=_;rw[show Str.ofString "gain" ++Str.ofString " " =Str.ofString "gain " by decide+kernel]
theorem Vj{α:Type}{g:α->Str}{z:Str}:∀(ls:List α)(t:Str),(ls.map g).foldl (λt y=>t++z++y) t=t++ux (ls.map λl=>z++g l)
 |[],t=>(Hv t).symm
 |l::ls,t=>by
  rw[zi,yh,Vj ls,zi,show(z++g l)::ls.map (λl=>z++g l)=[z++g l]++ls.map (λl=>z++g l)from rfl,GJ];show _=t++((Str.ofString "" ++(z++g l))++_);rw[Es];simp only[mW]
def alW(z:Str)(ls:RL):rD (heldW z ls)=Str.ofString "held " ++z++Str.ofString " " ++nF (pcs ls)++Str.ofString " " ++nF (jX ls)++ux (ls.map λl=>Str.ofString " " ++Lh l.2)++Str.ofString "\n" :=by
 unfold rD heldW;rw[zj,zq];show Txt.join (Str.ofString " ") (Str.ofString "held" ::([z,nF (pcs ls),nF (jX ls)]++ls.map λl=>Lh l.2))++_=_;rw[xP,zzx,Vj];show Str.ofString "held" ++Str.ofString " " ++z++Str.ofString " " ++nF (pcs ls)++Str.ofString " " ++nF (jX ls)++_++_=_;rw[show Str.ofString "held" ++Str.ofString " " =Str.ofString "held " by decide+kernel]
theorem Ti{B:Nat}:∀{xs:List Str},(∀x∈xs,x.length<=B)->(xs.map (·.length)).sum<=B*xs.length
 |[],_=>zK _
 |x::xs,h=>by
  have h1:=h x (.head _);have h2:=Ti λy q=>h y (.tail _ q);rw[zi,zF,zE,Nat.mul_succ];omega
def la{s t:Str}{m n:Nat}(h:s.length<=m)(k:t.length<=n):(s++t).length<=m+n:=by rw[str_len];omega
def lz{a b m n:Nat}(h:a<=m)(k:b<=n)(e:m+n<=1000000:=by decide):a+b<=sizeLine:=by rw[zn];omega
inductive Jh(A:Adr)(vs:List V)(H:Hp)(Q:VK)(E:XK):Prop
 |mk (b:Addr) (k:BkD) (ns:List Int) (W:List Str) (_:vs=[.ref b]) (_:jf A H b k) (_:aao ns W k) (_:∀ss H',Same H H'->ss.Perm (k.rs.map (·.1))->sortedS ss=true->Q (.str (ake k ss)) H'):Jh A vs H Q E
def Ii(T:Txt K mg A D):jQ P w K mg base CX0 5 A.ab6 D.ab6 ["_law_book"] (Jh A):=by
 refine T.ad8.F.okv jP λ_ _ _ _ H vs Q E hr h=>?_
 ·obtain⟨b,kb,ns,W,rfl,hB,hR,k⟩:=h
  refine ⟨_,(iH (iY (i:=1) jP.nd rfl orl jj)
   (iH (iY (i:=2) jP.nd rfl orl iM)
   (iH (oh zW rfl (mC (K:=K) (lE (pv 0) (mc T.afO T.agv (qe T) hr (rK T) (mc T.afW T.agw (qe T) hr (rK T) .nil)) jB)) (iW (i:=3) jP.nd rfl orl)
    (iH (iY (i:=1) jP.nd rfl orl (jc ju (jc ju (jc ju (jc ju (pvD 1) jj) (jJ lY (by rfl) T.aep (by decide+kernel) (iG (fv K 3) iI))) jj) (jJ lY (by rfl) T.aep (by decide+kernel) (iG (lE (pv 3) (mc T.afH T.agu (nW T) hr (oV T) .nil) jB) iI))))
    (iH (kE (je (HX) (fv K 3) mF (ji _)) (iJ (iY (i:=1) jP.nd rfl orl (jc ju (jc ju (pvD 1) jj) (jJ lY (by rfl) T.aep (by decide+kernel) (iG (fv K 3) iI))))) jn)
    (iH (iY (i:=1) jP.nd rfl orl (jc ju (pvD 1) jj))
    (iJ (iY (i:=2) jP.nd rfl orl (jc kh (pvD 2) (lE (pv 3) (mc T.afH T.agu (nW T) hr (oV T) .nil) jB))))))))
   (iH (iY (i:=4) jP.nd rfl orl (lE (pv 0) (mc T.afO T.agz (nA T) hr (oF T) (mc T.afW T.agA (nA T) hr (oF T) .nil)) jB))
   (iH (oh zW rfl (mC (K:=K) (jl (Iw rfl) (by rfl) T.aes (by decide+kernel) (pav 4 iI))) (iW (i:=5) jP.nd rfl orl)
    (iH (iY (i:=6) jP.nd rfl orl (jy (pv 0) (mc T.afO T.agx (jF T) hr (jL T) (mc T.afW T.agy (jF T) hr (jL T) .nil)) jB (pav 5 iI)))
    (iH (iY (i:=1) jP.nd rfl orl (jc ju (jc ju (jc ju (jc ju (jc ju (jc ju (pvD 1) jj) (pvD 5)) jj) (jJ lY (by rfl) T.aep (by decide+kernel) (iG (ajP (Cm hr) (pvD 4) (pvD 5) (λ_ _=>rfl)) iI))) jj) (jJ lY (by rfl) T.aep (by decide+kernel) (iG (jl (qC (K:=K) rfl) (by rfl) T.aer (by decide+kernel) (iG (jW (cap:=[none]) (N':=["_law_lot"]) rfl (by walk_at "c") (jD (K:=K) (pv 6)) (λ_ _ _ _=>(iW (i:=0) nd1 rfl orl orr)) (λ_ _ _ _=>jO) (λ_ _ _ _=>(fv K 0))) iI)) iI))))
    (iH (oh zW rfl (jD (K:=K) (pv 6)) (iW (i:=7) jP.nd rfl orl)
     (iJ (iY (i:=1) jP.nd rfl orl (jc ju (jc ju (jc ju (jc ju (jc ju (jc ju (pvD 1) jj) (jJ lY (by rfl) T.aep (by decide+kernel) (iG (fv K 7) iI))) jj) (jJ lY (by rfl) T.aep (by decide+kernel) (iG (fv K 7) iI))) jj) (jJ lY (by rfl) T.aep (by decide+kernel) (iG (fv K 7) iI))))))
    (iJ (iY (i:=1) jP.nd rfl orl (jc ju (pvD 1) jj)))))))
   (iJ (jb (jc ju (jc ju (jc ju (pvD 1) jj) (jJ lY (by rfl) T.aep (by decide+kernel) (pav 2 iI))) jj)))))))),?_⟩
  obtain⟨db,hb⟩:=hB.i;have hl:=hR.l;simp only[start_eq]
  iterate 2 walk_at "n"
  (try dsimp only)
  refine lD λu hu=>?_;rw[ap_seq];refine Dd λv hv=>?_;rw[ap_for];walk_at "i";refine md hb hB.me (kb.noM _ (by decide+kernel)) ⟨b,kb,rfl,hB,by omega,λl sl H1 s1 hl h1 bd af=>⟨l,rfl,⟨_,iT h1⟩,?_⟩⟩;subst hv
  have bv:sl.length<=40:=by
   have:=congrArg List.length af;rw[za,za]at this;omega
  refine Kr.listN (K:=K) (a:=l) (xs:=vL sl) (λi σ Hx=>∃(v3 v4 v5 v6 v7:Option V),σ=[some (.ref b),some (.str (ux ((sl.take i).map λt=>rD (nM (qX t.2.dat))))),some (.int ((sl.take i).map λt=>(qX t.2.dat).2.1).sum),v3,v4,v5,v6,v7]/\Same H1 Hx)
   ⟨_,_,_,_,_,rfl,same_refl _⟩ (λi σ Hx _ ⟨_,_,_,_,_,_,s⟩=>iT (s _ _ h1)) ?_ ?_
  ·rintro i y σ Hx hy ⟨v3,v4,v5,v6,v7,rfl,sx⟩ N hN
   obtain⟨t,ht,rfl⟩:=HY hy;have bx:i<sl.length:=(zp.mp ht).1;have aq:=(bd t (zh ht)).1.same sx;obtain⟨dt,hi⟩:=aq.i;have bh:t.2.dat∈kb.sl.map (λt=>t.2.dat):=af▸zb.mpr ⟨t,zh ht,rfl⟩;obtain⟨b1,b2,b3⟩:=hR.s _ bh
   have e1:ux ((sl.take (i+1)).map λt=>rD (nM (qX t.2.dat)))=ux ((sl.take i).map λt=>rD (nM (qX t.2.dat)))++rD (nM (qX t.2.dat)):=by
    rw[zI,ht];show ux (List.map _ (List.take i sl++[t]))=_;rw[zj];exact Di _ _
   have e2:((sl.take (i+1)).map λt=>(qX t.2.dat).2.1).sum=((sl.take i).map λt=>(qX t.2.dat).2.1).sum+(qX t.2.dat).2.1:=by
    rw[zI,ht];show(List.map _ (List.take i sl++[t])).sum=_;rw[zj,yj];simp
   have hN:∀H',Same Hx H'->N [some (.ref b),some (.str (ux ((sl.take i).map λt=>rD (nM (qX t.2.dat)))++rD (nM (qX t.2.dat)))),some (.int (((sl.take i).map λt=>(qX t.2.dat).2.1).sum+(qX t.2.dat).2.1)),some (.ref t.1),v4,v5,v6,v7] H':=λH' s'=>hN _ _ ⟨some (.ref t.1),v4,v5,v6,v7,by rw[e1,e2],sx.trans s'⟩;clear e1 e2
   have ad:(ux ((sl.take i).map λt=>rD (nM (qX t.2.dat)))).length<=360680:=by
    rw[HB]
    have h1:=uQ (xs:=(sl.take i).map λt=>nM (qX t.2.dat)) (B:=5) λx hx=>by
     obtain⟨q,hq,rfl⟩:=zb.mp hx;refine(Qv hR (ss:=[]) λ_ h=>(zf h).elim).1 _ ?_;rw[<-IV (λc=>nM (qX c)) af];exact zb.mpr ⟨q,ye hq,rfl⟩
    have e0:((sl.take i).map λt=>nM (qX t.2.dat)).map rD=(sl.take i).map λt=>rD (nM (qX t.2.dat)):=by rw[zq];rfl
    rw[e0,za,zO]at h1;have h2:(1803*5+1)*min i sl.length<=(1803*5+1)*40:=yy _ (by omega);omega
   generalize ux ((sl.take i).map λt=>rD (nM (qX t.2.dat)))=tx at hN ad⊢;generalize((sl.take i).map λt=>(qX t.2.dat).2.1).sum=bc at hN⊢;have c1:=kW b1.nat;have c2:=kW b2.nat;have q1:(Str.ofString "sale ").length<=5:=by decide+kernel
   have q2:(Str.ofString " ").length<=1:=by decide+kernel
   have q3:(Str.ofString " laid ").length<=6:=by decide+kernel
   have q4:(Str.ofString "\n").length<=1:=by decide+kernel
   have c1:(nF t.2.n).length<=600:=c1;have c2:(nF t.2.cnt).length<=600:=c2;have l1:=la ad q1;have l2:=la l1 c1;have l3:=la l2 q2;have l4:=la l3 c2;walk_at "i";walk_at "n";refine⟨lz ad q1,rd hi T.afH T.afI (by rfl) (.inl ⟨t.2.n,rfl,b1.nat,lz l1 c1,lz l2 q2,md hi zg (by rfl) ⟨t.1,t.2,rfl,aq,λH2 s2=> .inl ⟨_,rfl,b2.nat,lz l3 c2,?_⟩⟩⟩)⟩;have as:=s2 _ _ hi;have ay:=aq.same s2
   (try dsimp only)
   refine GD (λσ' H'=>∃ah,σ'=[some (.ref b),some (.str ah),some (.int bc),some (.ref t.1),v4,v5,v6,v7]/\ah++Str.ofString "\n" =tx++rD (nM (qX t.2.dat))/\ah.length<=400000/\H'=H2) ?_ ?_
   ·rintro σ' H' ⟨ah,rfl,et,bm,rfl⟩
    walk_at "n";refine⟨lz bm q4,?_⟩
    (try dsimp only);walk_at "i"
    refine md as zg (by rfl) ⟨t.1,t.2,rfl,ay,λH3 s3=>⟨_,rfl,?_⟩⟩;rw[et];exact hN H3 (s2.trans s3)
   ·intro N2 ae
    walk_at "i";refine rd as T.afH T.afN (v:=loV t.2.lo) (by rfl) ?_;have ed:qX t.2.dat=(t.2.n,t.2.cnt,t.2.lo):=rfl;rw[ed]at ae
    cases e:t.2.lo with
    |none=>
     rw[ze (λc=>c rfl)];rw[e,alY]at ae;exact ae _ _ ⟨_,rfl,by simp only[mW],zN l4 (by decide),rfl⟩
    |some j=>
     rw[zl (λc=>by cases c)];have c3:=kW (b3 j e).nat;rw[e,akx]at ae;have l5:=la l4 q3;exact⟨lz l4 q3,rd as T.afH T.afN (v:=.int j) (by show some (loV t.2.lo)=_;rw[e];rfl) (.inl ⟨j,rfl,(b3 j e).nat,lz l5 c3,ae _ _ ⟨_,rfl,by simp only[mW],zN (la l5 c3) (by decide),rfl⟩⟩)⟩
  ·rintro σ Hx ⟨v3,v4,v5,v6,v7,rfl,sx⟩
   subst hu;have S1:=s1.trans sx;have ao:=hB.same S1;obtain⟨bt,bf⟩:=ao.i;rw[vW,zT,IV (λc=>rD (nM (qX c))) af,IV (λc=>(qX c).2.1) af]
   have ad:(ux (kb.sl.map λt=>rD (nM (qX t.2.dat)))).length<=360680:=by
    rw[HB];have h1:=uQ (Qv hR (ss:=[]) λ_ h=>(zf h).elim).1;have e0:(kb.sl.map λt=>nM (qX t.2.dat)).map rD=kb.sl.map λt=>rD (nM (qX t.2.dat)):=by rw[zq];rfl
    rw[e0,za]at h1;have h2:(1803*5+1)*kb.sl.length<=(1803*5+1)*40:=yy _ hR.l;omega
   walk_at "n";refine md bf ao.me (kb.noM _ (by decide+kernel)) ⟨b,kb,ns,W,rfl,ao,hR.r,by have:=hR.w;omega,by have:=hR.n;omega,λph kv H3 s3 bu h3 _ _ _ aw=>?_⟩;have S3:=S1.trans s3;have be:kb.rs.length<=6:=zN hR.r.len hR.w
   (try dsimp only)
   refine lD λu hu=>?_;rw[ap_seq];refine Dd λv hv=>?_;rw[ap_for];walk_at "i";have h3':=h3;rw[aw,WR]at h3';refine⟨_,h3',by rw[za];omega,λps ss bn aa al=>?_⟩;rw[zq]at aa;have aa:ss.Perm (kb.rs.map (·.1)):=aa
   have ap:∀z∈ss,z∈W/\∃t∈kb.rs,t.1=z:=λz hz=>by
    obtain⟨t,ht,rfl⟩:=zb.mp (aa.mem_iff.mp hz);exact⟨hR.r.w t ht,t,ht,rfl⟩
   have bs:ss.length<=6:=by rw[aa.length_eq,za];exact be
   have s4:=iR (o:=.lst (ss.map V.str)) bn;have h4:(upd H3 ps (.lst (ss.map V.str))) ps=some (.lst (ss.map V.str)):=iK;generalize upd H3 ps _=H4 at s4 h4⊢;have bl:=s4 _ _ h3;have S4:=S3.trans s4;refine⟨⟨_,iT h4⟩,?_⟩;subst hv
   have au:∀i,(ux ((ss.take i).map λz=>rD (heldW z (rowOf kb.rs z)))).length<=476000:=λi=>by
    rw[HB];have h1:=uQ (Qv hR (ss:=ss.take i) λz hz=>(ap z (ye hz)).1).2.1;have e0:((ss.take i).map λz=>heldW z (rowOf kb.rs z)).map rD=(ss.take i).map λz=>rD (heldW z (rowOf kb.rs z)):=by rw[zq];rfl
    rw[e0,za,zO]at h1;have h2:(1803*44+1)*min i ss.length<=(1803*44+1)*6:=yy _ (by omega);omega
   obtain⟨tx,bb⟩:∃tx,ux (kb.sl.map λt=>rD (nM (qX t.2.dat)))=tx:=⟨_,rfl⟩;rw[bb]at ad⊢
   refine Kr.listN (K:=K) (a:=ps) (xs:=ss.map V.str) (λi σ Hx=>∃(v3 v5 v6 v7:Option V),σ=[some (.ref b),some (.str (tx++ux ((ss.take i).map λz=>rD (heldW z (rowOf kb.rs z))))),some (.int (vP kb)),v3,some (.ref ph),v5,v6,v7]/\Same H4 Hx)
    ⟨_,_,_,_,by rw[zz4];show _=[_,some (V.str (tx++Str.ofString "")),_,_,_,_,_,_];rw[Hv];rfl,same_refl _⟩ (λi σ Hx _ ⟨_,_,_,_,_,s⟩=>iT (s _ _ h4)) ?_ ?_
   ·rintro i y σ Hx hy ⟨v3,v5,v6,v7,rfl,sx⟩ N hN
    obtain ⟨z,hz,rfl⟩:∃z,ss[i]? =some z/\y=.str z:=by
     rw[zm]at hy
     cases e:ss[i]? with
     |none=>rw[e]at hy;cases hy
     |some z=>rw[e]at hy;exact⟨z,rfl,(zy hy).symm⟩
    have ab:=au i
    have e1:ux ((ss.take (i+1)).map λz=>rD (heldW z (rowOf kb.rs z)))=ux ((ss.take i).map λz=>rD (heldW z (rowOf kb.rs z)))++rD (heldW z (rowOf kb.rs z)):=by
     rw[zI,hz];show ux (List.map _ (List.take i ss++[z]))=_;rw[zj];exact Di _ _
    have hN:∀(v6 v7:Option V) H',Same Hx H'->N [some (.ref b),some (.str (tx++ux ((ss.take i).map λz=>rD (heldW z (rowOf kb.rs z)))++rD (heldW z (rowOf kb.rs z)))),some (.int (vP kb)),v3,some (.ref ph),some (.str z),v6,v7] H':=λv6 v7 H' s'=>hN _ _ ⟨v3,some (.str z),v6,v7,by rw[e1,mW],sx.trans s'⟩;clear e1;generalize ux ((ss.take i).map λz=>rD (heldW z (rowOf kb.rs z)))=ty at hN ab⊢;obtain⟨b1,b2,b3⟩:=hR.b z;have ax:=hR.z z (ap z (zh hz)).1;have az:=hR.len z;have ak:=hB.same (S4.trans sx);obtain⟨bw,br⟩:=ak.i
    have ai:pF kv (Sum.inr z)=some (.int (pcs (rowOf kb.rs z))):=by
     obtain⟨t,ht,rfl⟩:=(ap z (zh hz)).2;rw[aw,GF hR.r.u ht];exact Wi (TJ hR.r).u (zb.mpr ⟨t,ht,rfl⟩)
    obtain⟨ls,av⟩:∃ls,rowOf kb.rs z=ls:=⟨_,rfl⟩;rw[av]at b1 b2 b3 az ai hN;have c1:=kW b1.nat;have c2:=kW b2.nat;have q1:(Str.ofString "held ").length<=5:=by decide+kernel
    have q2:(Str.ofString " ").length<=1:=by decide+kernel
    have q4:(Str.ofString "\n").length<=1:=by decide+kernel
    have q5:(Str.ofString ":").length<=1:=by decide+kernel
    have l0:=la ad ab;rw[alW]at hN;generalize tx++ty=tz at hN l0⊢;have l1:=la l0 q1;have l2:=la l1 ax;have l3:=la l2 q2;have l4:=la l3 c1;have l5:=la l4 q2;have l6:=la l5 c2;walk_at "i";walk_at "n";refine md br ak.me (kb.noM _ (by decide+kernel)) ⟨b,z,kb,rfl,ak,λq H6 s6 hq h6 am=>?_⟩;rw[av]at h6 am;have bj:=s6 _ _ (sx _ _ bl);walk_at "n";refine⟨lz l0 q1,lz l1 ax,lz l2 q2,_,.inl ⟨kv,Sum.inr z,.inl bj,rfl,ai.symm⟩,.inl ⟨_,rfl,b1.nat,lz l3 c1,lz l4 q2,⟨_,iT h6⟩,?_⟩⟩;refine kI.listE (K:=K) (λσ=>∃a,σ=[a]) (λi v _=>∃l,ls[i]? =some l/\v=.int l.2.c) (iT h6) ⟨_,rfl⟩ (by rw[iV,zn];omega) ?_ ?_
    ·rintro Da j x hx σ H7 R ⟨_,rfl⟩ sm hD _ kk
     obtain⟨l,ac,rfl⟩:=jG hx;obtain⟨dx,ag⟩:=(am l (get_mem ac)).same sm;walk_at "i";exact rd ag T.af6 T.aga (by rfl) (kk _ _ H7 ⟨_,rfl⟩ (same_refl _) λH' _=>⟨l,ac,rfl⟩)
    intro Da H7 acc hD s7 hA an hF;rw[xV (f:=λl=>l.2.c) (by rw[an,iV]) hF]at hA;rw[ap_rSum];refine⟨_,iT hA,.inl ⟨jX ls,rfl,b2.nat,lz l5 c2,?_⟩⟩;have S7:=s6.trans s7;have h7:=s7 _ _ h6;have bi:=am.same s7;have ar:=zN l6 (show _<=900000 by decide);obtain⟨tw,ba⟩:∃tw,tz++Str.ofString "held " ++z++Str.ofString " " ++nF (pcs ls)++Str.ofString " " ++nF (jX ls)=tw:=⟨_,rfl⟩;rw[ba]at ar⊢
    (try dsimp only)
    refine lD λu' bk=>?_;rw[ap_seq];refine Dd λv' bp=>?_;rw[ap_for];walk_at "i";refine⟨⟨_,iT h7⟩,?_⟩;subst bp
    have aj:∀j,(ux ((ls.take j).map λl=>Str.ofString " " ++Lh l.2)).length<=1803*40:=λj=>by
     rw[HB];refine zN (Ti (B:=1803) λx hx=>?_) (yy _ (show((ls.take j).map _).length<=40 by rw[za,zO];omega));obtain⟨q',bo,rfl⟩:=zb.mp hx;have:=UG (b3 q' (ye bo));rw[str_len];omega
    refine Kr.listN (K:=K) (a:=q) (xs:=jt ls) (λj σ Hy=>∃(v7:Option V),σ=[some (.ref b),some (.str (tw++ux ((ls.take j).map λl=>Str.ofString " " ++Lh l.2))),some (.int (vP kb)),v3,some (.ref ph),some (.str z),some (.ref q),v7]/\Hy=H7)
     ⟨_,by rw[zz4];show _=[_,some (V.str (tw++Str.ofString "")),_,_,_,_,_,_];rw[Hv],rfl⟩ (λj σ Hy _ ⟨_,_,e⟩=>e▸iT h7) ?_ ?_
    ·rintro j y σ Hy hy ⟨v7,rfl,rfl⟩ M hM
     obtain⟨l,ac,rfl⟩:=jG hy;obtain⟨dx,ag⟩:=bi l (get_mem ac);have bg:=b3 l (get_mem ac);have bz:j<ls.length:=(zp.mp ac).1;have d1:=kW bg.n.nat;have d2:=kW bg.p.nat;have d3:=kW bg.c.nat
     have e1:ux ((ls.take (j+1)).map λl=>Str.ofString " " ++Lh l.2)=ux ((ls.take j).map λl=>Str.ofString " " ++Lh l.2)++(Str.ofString " " ++Lh l.2):=by
      rw[zI,ac];show ux (List.map _ (List.take j ls++[l]))=_;rw[zj];exact Di _ _
     have hM:=hM [some (.ref b),some (.str (tw++ux ((ls.take (j+1)).map λl=>Str.ofString " " ++Lh l.2))),some (.int (vP kb)),v3,some (.ref ph),some (.str z),some (.ref q),some (.ref l.1)] Hy ⟨_,rfl,rfl⟩;rw[e1,<-mW]at hM;clear e1;have lj:=aj j;have m0:=la ar lj;generalize tw++ux ((ls.take j).map λl=>Str.ofString " " ++Lh l.2)=tc at hM m0⊢;have m1:=la m0 q2;have m2:=la m1 d1;have m3:=la m2 q5;have m4:=la m3 d2;have m5:=la m4 q5
     have bq:tc++Str.ofString " " ++nF l.2.n++Str.ofString ":" ++nF l.2.p++Str.ofString ":" ++nF l.2.c=tc++(Str.ofString " " ++Lh l.2):=by
      unfold Lh;simp only[mW]
     rw[<-bq]at hM;walk_at "i";exact⟨lz m0 q2,rd ag T.af6 T.af7 (by rfl) (.inl ⟨l.2.n,rfl,bg.n.nat,lz m1 d1,lz m2 q5,rd ag T.af6 T.af9 (by rfl) (.inl ⟨l.2.p,rfl,bg.p.nat,lz m3 d2,lz m4 q5,rd ag T.af6 T.aga (by rfl) (.inl ⟨l.2.c,rfl,bg.c.nat,lz m5 d3,hM⟩)⟩)⟩)⟩
    ·rintro σ Hy ⟨v7,rfl,rfl⟩
     rw[iV,zT];subst bk
     (try dsimp only);walk_at "i"
     have lj:=aj ls.length;rw[zT]at lj
     have e9:tw++ux (ls.map λl=>Str.ofString " " ++Lh l.2)++Str.ofString "\n" =tz++(Str.ofString "held " ++z++Str.ofString " " ++nF (pcs ls)++Str.ofString " " ++nF (jX ls)++ux (ls.map λl=>Str.ofString " " ++Lh l.2)++Str.ofString "\n"):=by
      rw[<-ba];simp only[mW]
     rw[e9];exact⟨lz (la ar lj) q4,hN _ _ _ S7⟩
   ·rintro σ Hx ⟨v3,v5,v6,v7,rfl,sx⟩
    subst hu;rw[za,zT];have ab:=au ss.length;rw[zT]at ab;have q1:(Str.ofString "gain ").length<=5:=by decide+kernel
    have q4:(Str.ofString "\n").length<=1:=by decide+kernel
    have c1:=kW hR.g.nat
    have eR:ake kb ss=tx++ux (ss.map λz=>rD (heldW z (rowOf kb.rs z)))++Str.ofString "gain " ++nF (vP kb)++Str.ofString "\n" :=by
     unfold ake Wb;rw[zj,zj,GJ,GJ,zq,zq,<-bb];show _++_++(Str.ofString "" ++rD [.str (Str.ofString "gain"),.int (vP kb)])=_;rw[Es,akn];simp only[mW];rfl
    have kk:=k ss Hx (S4.trans sx) aa al;rw[eR]at kk;generalize ux (ss.map λz=>rD (heldW z (rowOf kb.rs z)))=ty at ab kk⊢
    (try dsimp only);walk_at "a"
    have l0:=la ad ab;have l1:=la l0 q1;exact⟨lz l0 q1,.inl ⟨hR.g.nat,lz l1 c1,lz (la l1 c1) q4,kk⟩⟩
def ahw{B H H':Hp}{D x:Addr}{e:Ent}{xs:List V}(h:Made A B H x e)(z:H D=some (.lst xs))(q:e.lots=none)(b:But D H H'):IsE A H' x e:=by
 obtain⟨dx,nv,h1,h2,h3⟩:=h;refine⟨dx,nv,b _ _ (λc=>by rw[c]at h1;have:=h1.h;rw[z]at this;cases this) h1.h,?_⟩;rw[q]at h2⊢;exact h2
def Qi{B H:Hp}{x:Addr}{e:Ent}(h:Made A B H x e):Same B H:=let⟨_,_,g,_⟩:=h;g.s
theorem alH{H:Hp}:∀{tl:EL}{acc:List V},Ai (λr v=>∃x,v=.ref x/\IsE A H x r.2) tl acc->∃es:EL,acc=BV es/\es.map (·.2)=tl.map (·.2)/\Nr A H es
 |[],[],_=>⟨[],rfl,rfl,λt h=>(zf h).elim⟩
 |t::sl,v::acc,h=>by
  obtain⟨⟨y,rfl,hs⟩,h2⟩:=h;obtain⟨z,e1,e2,e3⟩:=alH h2;refine⟨(y,t.2)::z,by rw[e1];rfl,by rw[zi,e2];rfl,λu q=>?_⟩;rcases zt.mp q with rfl|q
  ·exact hs
  ·exact e3 u q
 |[],_::_,h=>h.elim
 |_::_,[],h=>h.elim
theorem Xj{B:Int}:∀{l:List Int},(∀x∈l, -B<=x/\x<=B)-> -((l.length:Int)*B)<=l.sum/\l.sum<=(l.length:Int)*B
 |[],_=>by simp
 |x::r,h=>by
  have h1:=h x zg;have h2:=Xj (l:=r) λy q=>h y (zk _ q);rw[zF,zE,yyn,Int.add_mul];omega
theorem Ent.good.num{e:Ent}(h:e.good):0<=e.num/\e.num<=1000000:=by
 cases e with
 |buy=>exact⟨h.1.n0,h.1.n1⟩
 |sell=>exact⟨h.1.n0,h.1.n1⟩
 |gift=>exact⟨h.1.n0,h.1.n1⟩
 |give=>exact⟨h.1.n0,h.1.n1⟩
 |split=>exact⟨h.1.n0,h.1.n1⟩
 |part=>exact⟨h.1.n0,h.1.n1⟩
def StB.rep{W:List Str}{hs:List Ent}{k:BkD}(h:StB W (hs.map Ent.num) hs k)(hH:Us W hs)(hl:hs.length<=40)(hw:W.length<=6)(hz:∀z∈W,z.length<=8):aao (hs.map Ent.num) W k:=by
 have aa:∀n∈hs.map Ent.num,Bd n:=λn hn=>by
  obtain⟨e,he,rfl⟩:=zb.mp hn;have:=(h.e e he).num;exact Bd.sm (by omega) (by omega)
 have ac:=h.sl
 have key:∀c∈k.sl.map (λt=>t.2.dat), -1100000000000000000000<=(qX c).2.1/\(qX c).2.1<=1100000000000000000000:=λc hc=>by
  obtain⟨t,ht,rfl⟩:=zb.mp hc;obtain⟨⟨p1,p2⟩,p3,p4⟩:=h.p _ (zb.mpr ⟨t,ht,rfl⟩);have p1:0<=coD t.2.dat:=p1;have p2: -1000000000<=prD t.2.dat:=p2;have p3:coD t.2.dat<=1000000000000000000000:=p3;have p4:prD t.2.dat<=1000000000000000000:=p4;unfold qX;show -1100000000000000000000<=(if t.2.dat.2=none then prD t.2.dat - coD t.2.dat else 0)/\(if t.2.dat.2=none then prD t.2.dat - coD t.2.dat else 0)<=_;split<;>omega
 refine⟨h.r,by rw[za];exact hl,hw,by omega,λc hc=>⟨?_,?_,λi ei=>?_⟩,?_,λz=>?_,hz⟩
 ·obtain⟨t,ht,rfl⟩:=zb.mp hc
  exact aa _ (h.n.subset (zb.mpr ⟨t,ht,rfl⟩))
 ·have:=key c hc
  exact Bd.sm (by omega) (by omega)
 ·have:=h.o c hc i ei
  exact Bd.sm (by omega) (by omega)
 ·have h1:=Xj (l:=k.sl.map λt=>(qX t.2.dat).2.1) (B:=1100000000000000000000) λx hx=>by
   obtain⟨t,ht,rfl⟩:=zb.mp hx;exact key _ (zb.mpr ⟨t,ht,rfl⟩)
  rw[za]at h1;unfold vP;exact Bd.sm (by omega) (by omega)
 ·have hS:=h.r.row z
  have hp:Bd (pcs (rowOf k.rs z)):=by
   rw[h.c z];have:=hH.big hl (zo _) z
   rwa [zT]at this
  have hc:=h.cost hl z;have ab:Bd (jX (rowOf k.rs z)):=Bd.sm (by omega) (by omega);refine⟨hp,ab,λl q=>⟨aa _ (hS.m l q),hp.of (by have:=hS.p l q;omega) (Mt hS.p q),ab.of (hS.c l q) (GC hS.c q)⟩⟩
def aiQ{k:BkD}(h:StB [] [] [] k){ss:List Str}(q:ss.Perm (k.rs.map (·.1))):ake k ss=Str.ofString "gain 0\n" :=by
 have z:k.rs=[]:=by
  cases e:k.rs with
  |nil=>rfl
  |cons t r=>exact(zf (h.r.w t (by rw[e];exact .head _))).elim
 have e2:k.sl=[]:=zzq.mp (Nat.le_zero.mp h.sl);rw[z]at q;rw[List.Perm.eq_nil q];unfold ake Wb vP;rw[e2];show Str.ofString "" ++rD [.str (Str.ofString "gain"),.int 0]=_;rw[Es,akn];decide+kernel
inductive Ot(K:Fg_)(vs:List V)(H:Hp)(Q:VK)(E:XK):Prop
 |mk (a:Addr) (ns:List Int) (_:vs=[.ref a]) (_:SqL K H a (ns.map V.int)) (_:ns.length<=63) (_:∀H',Q (.bl true) H'):Ot K vs H Q E
def akD(T:Txt K mg A D):jQ P w K mg base CX0 12 A.law D.law ["_law_script"] (Ot K):=by
 refine T.aee.F.okv Fp λ_ _ _ _ H vs Q E hr h=>?_
 ·obtain⟨a,ns,rfl,hS,hn,k⟩:=h
  refine ⟨_,(iH (iY (i:=1) Fp.nd rfl orl (pcg (Jl T) hr T.acK (KR T) (pav 0 (iG iM iI))))
   (iH (nC (i:=2) Fp.nd rfl rfl (cap:=[none]) (N':=["_law_row"]) rfl (by walk_at "c") (jD (K:=K) (pv 1)) (λ_ _ _ _=>(iW (i:=0) nd1 rfl orl orr)) (λ_ _ _ _=>jO) (λ_ _ _ _=>(pcg (Rk T) hr T.acZ (Su T) (pav 0 iI))))
   (iH (iY (i:=3) Fp.nd rfl orl (jC (mz (K:=K)) (jV (iG iM (iG iM (iG iM iI)))) (jc lq (pcg (lH T) hr T.acE (lZ T) (pav 0 (iG iM iI))) iM) (λ_ _=>rfl)))
   (iH (oh zW rfl (mC (K:=K) (jV (iG jj (iG jj (iG jj (iG jj iI)))))) (iW (i:=4) Fp.nd rfl orl)
    (iJ (oh zW rfl (mC (K:=K) (jV (iG (pcg (Lk T) hr T.ad5 (QW T) (iG (pcg (Jx T) hr T.aed (Nh T) (pav 4 iI)) (pav 2 iI))) (iG (pcg (DQ T) hr T.ad7 (Fz T) (iG (pcg (Jx T) hr T.aed (Nh T) (pav 4 iI)) (pav 3 (pav 2 iI)))) iI)))) (iW (i:=5) Fp.nd rfl orl)
     (iH (iY (i:=6) Fp.nd rfl orl (pcg (Ii T) hr T.ad8 (Lp T) (pav 5 iI)))
     (iH (iY (i:=7) Fp.nd rfl orl (pcg (wR T) hr T.ade (Bk T) (pav 5 iI)))
     (iH (kE (PW.pt (JQ (Uo (qw (jl (Dp (K:=K)) (by rfl) T.aem (by decide+kernel) (pav 7 (iG (aan "str" (by rfl) T.aep (by decide+kernel)) iI))))) (Cr (je (ZM) (pvD 7) (pvD 6) (ji _))))) (iJ (jb aiU)) jn)
     (iJ (kE (PW.pt (JQ (je (ZM) (pcg (wR T) hr T.ade (Bk T) (pav 5 iI)) (pvD 6) (ji _)) (Cr (je (ZM) (pcg (Ii T) hr T.ad8 (Lp T) (pav 5 iI)) (pvD 6) (ji _))))) (iJ (jb aiU)) jn))))))))
   (iJ (jb (uK (mR) (pcg (wR T) hr T.ade (Bk T) (iG (pcg (Lk T) hr T.ad5 (QW T) (iG (pcg (Jx T) hr T.aed (Nh T) (iG jj iI)) (iG (jV iI) iI))) iI)) jj (ji _)))))))),?_⟩
  simp only[start_eq];walk_at "n";refine⟨a,ns,40,rfl,hS,hn,by decide,λp tl W H1 s1 hp h1 hT hl ho hu hF hW hz=>?_⟩;walk_at "n";refine⟨⟨_,iT h1⟩,?_⟩;refine Ze (f:=λr:Addr×Ent=>V.ref r.1) (λσ=>∃v,σ=[v]) (λ_ r v H'=>∃x,v=.ref x/\IsE A H' x r.2) (iT h1) ⟨_,rfl⟩ (by omega) ?_ ?_
  ·rintro Da r ay σ H5 R ⟨_,rfl⟩ sm hD ⟨acc,hA⟩ kk
   obtain⟨g0,g1,g2⟩:=hT r ay;walk_at "i";exact⟨r.1,r.2,rfl,sm _ _ g0,g2,g1,λx B H6 s6 hM=>kk (.ref x) _ H6 ⟨_,rfl⟩ (s6.trans (Qi hM)) λH' hb=>⟨x,rfl,ahw hM ((s6.trans (Qi hM)) _ _ hA) g2 hb⟩⟩
  intro D2 H2 ba bc s2 ai av;obtain⟨es,e1,e2,hE⟩:=alH av;rw[e1]at ai;have hO:∀{w C dw:Addr}{H5:Hp},Same H2 H5->H5 w=some (.ins C dw [])->SQ A C->amf A H5 w D2 es W (tl.map (·.2)):=λs hw hC=>⟨⟨_,_,hw,hC⟩,s _ _ ai,hE.same s,hF,hW,ho,by rw[za];exact hl,by rw[zq];exact hu,e2▸List.Perm.refl _⟩;have ae:∀{k:BkD},StB W ((tl.map (·.2)).map Ent.num) (tl.map (·.2)) k->aao ((tl.map (·.2)).map Ent.num) W k:=λh=>h.rep hF (by rw[za];exact hl) hW.2 hz;generalize tl.map (·.2)=hs at hO ae;walk_at "n"
  obtain ⟨g,hg⟩:∃g:Int,atI [V.int 0,V.int 5,V.int 60] (ns.getD 3 0%3)=some (.int g):=by
   rcases(show ns.getD 3 0%3=0\/ns.getD 3 0%3=1\/ns.getD 3 0%3=2 by omega)with e|e|e<;>rw[e]
   ·exact⟨0,rfl⟩
   ·exact⟨5,rfl⟩
   ·exact⟨60,rfl⟩
  have S2:=s1.trans s2;refine⟨sz,λq hq=>⟨a,ns,3,rfl,(S2.trans (iR hq)).seq hS,_,rfl,by decide,_,iT iK,_,hg,?_⟩⟩;have s3:=iR (o:=.lst [V.int 0,V.int 5,V.int 60]) hq;generalize upd H2 q _=H3 at s3⊢
  (try dsimp only)
  refine lD λu hu=>?_;rw[ap_seq];refine Dd λtb ad=>?_;rw[ap_for];walk_at "i";refine⟨by rw[zn];show 4<=_;decide,λpw ao=>⟨⟨_,iT iK⟩,?_⟩⟩;have s4:=s3.trans (iR (o:=.lst [V.str (Str.ofString "eldest"),V.str (Str.ofString "newest"),V.str (Str.ofString "dearest"),V.str (Str.ofString "mean")]) ao);have h4:(upd H3 pw (.lst [V.str (Str.ofString "eldest"),V.str (Str.ofString "newest"),V.str (Str.ofString "dearest"),V.str (Str.ofString "mean")])) pw=some (.lst [V.str (Str.ofString "eldest"),V.str (Str.ofString "newest"),V.str (Str.ofString "dearest"),V.str (Str.ofString "mean")]):=iK;generalize upd H3 pw _=H4 at s4 h4⊢;refine Kr.listN (K:=K) (a:=pw) (xs:=[V.str (Str.ofString "eldest"),V.str (Str.ofString "newest"),V.str (Str.ofString "dearest"),V.str (Str.ofString "mean")]) (λi σ Hx=>(∃v4 v5 v6 v7,σ=[some (.ref a),some (.ref p),some (.ref D2),some (.int g),v4,v5,v6,v7])/\Same H4 Hx) ⟨⟨_,_,_,_,rfl⟩,same_refl _⟩ (λi σ Hx _ ⟨_,s⟩=>iT (s _ _ h4)) ?_ ?_
  ·rintro i y σ Hx hy ⟨⟨v4,v5,v6,v7,rfl⟩,sx⟩ N hN
   obtain ⟨z,C,rfl,ab⟩:∃z C,y=V.str z/\Ru A z C:=by
    rcases i with _|_|_|_|i
    ·cases hy;exact⟨_,_,rfl,.e⟩
    ·cases hy;exact⟨_,_,rfl,.n⟩
    ·cases hy;exact⟨_,_,rfl,.d⟩
    ·cases hy;exact⟨_,_,rfl,.m⟩
    ·cases hy
   subst ad;have S4:=s4.trans sx;rw[ap_name];refine Dd λtb ad=>?_;rw[ap_for];walk_at "i";refine⟨z,C,rfl,ab,λw dw H5 s5 _ hw=>⟨w,D2,es,W,hs,rfl,hO (S4.trans s5) hw ab.way,λb1 k1 H6 s6 ac _ al=>⟨z,C,rfl,ab,λw2 bb H7 s7 _ an=>⟨w2,D2,g,es,W,hs,rfl,hO (S4.trans (s5.trans (s6.trans s7))) an ab.way,λb2 k2 H8 s8 aa _ ax=>⟨by rw[zn];show 2<=_;decide,λpb as=>⟨⟨_,iT iK⟩,?_⟩⟩⟩⟩⟩⟩;have s9:=iR (o:=.lst [V.ref b1,V.ref b2]) as;have h9:(upd H8 pb (.lst [V.ref b1,V.ref b2])) pb=some (.lst [V.ref b1,V.ref b2]):=iK;have ac:=(ac.same (s7.trans s8)).same s9;have aa:=aa.same s9;have s9:=s5.trans (s6.trans (s7.trans (s8.trans s9)));generalize upd H8 pb _=H9 at s9 h9 ac aa⊢;subst ad;refine Kr.listN (K:=K) (a:=pb) (xs:=[V.ref b1,V.ref b2]) (λi σ Hy=>(∃v5 v6 v7,σ=[some (.ref a),some (.ref p),some (.ref D2),some (.int g),some (.str z),v5,v6,v7])/\Same H9 Hy) ⟨⟨_,_,_,rfl⟩,same_refl _⟩ (λi σ Hx _ ⟨_,s⟩=>iT (s _ _ h9)) ?_ ?_
   ·rintro j y σ Hy hy ⟨⟨v5,v6,v7,rfl⟩,sy⟩ M hM
    obtain ⟨b,kb,rfl,hB,hR⟩:∃b kb,y=V.ref b/\jf A H9 b kb/\aao (hs.map Ent.num) W kb:=by
     rcases j with _|_|j
     ·cases hy;exact⟨_,_,rfl,ac,ae al⟩
     ·cases hy;exact⟨_,_,rfl,aa,ae ax⟩
     ·cases hy
    have hB:=hB.same sy;rw[ap_name];walk_at "n";refine⟨b,kb,_,W,rfl,hB,hR,λss Ha sa ap az=>?_⟩;walk_at "n";refine⟨b,kb,_,W,rfl,hB.same sa,hR,λs2 Hb sb ah ak=>?_⟩;obtain rfl:=Mh (ah.trans ap.symm) ak az;walk_at "n";refine⟨_,.str _,true,by with_unfolding_all rfl,?_⟩;rw[ze (by decide)];have aa:=hB.same (sa.trans sb)
    (try dsimp only);walk_at "i"
    refine⟨b,kb,_,W,rfl,aa,hR,λs3 Hc sc ag aj=>?_⟩;obtain rfl:=Mh (ag.trans ah.symm) aj ak;refine⟨rfl,?_⟩;rw[ze (λc=>c rfl)];refine⟨b,kb,_,W,rfl,aa.same sc,hR,λs4 Hd sd au aq=>⟨rfl,?_⟩⟩;obtain rfl:=Mh (au.trans ag.symm) aq aj;rw[ze (λc=>c rfl)];exact hM _ _ ⟨⟨_,_,_,rfl⟩,sy.trans (sa.trans (sb.trans (sc.trans sd)))⟩
   ·rintro σ Hy ⟨⟨v5,v6,v7,rfl⟩,sy⟩
    exact hN _ _ ⟨⟨_,_,_,_,rfl⟩,sx.trans (s9.trans sy)⟩
  ·rintro σ Hx ⟨⟨v4,v5,v6,v7,rfl⟩,sx⟩
   subst hu
   (try dsimp only);walk_at "a"
   refine⟨_,_,rfl,.m,λw dw H5 s5 _ hw=>⟨zK _,λq0 am=>?_⟩⟩;have h0:(upd H5 q0 (.lst [])) q0=some (.lst (BV [])):=iK;have hw:=iR (o:=.lst []) am _ _ hw;refine⟨w,q0,[],[],[],rfl,⟨⟨_,_,hw,.m⟩,h0,λr h=>(zf h).elim,.nil,⟨.nil,by decide⟩,.nil,by decide,.nil,.nil⟩,λb0 k0 H6 s6 aw _ af=>⟨b0,k0,_,[],rfl,aw,af.rep .nil (by decide) (by decide) (λz h=>(zf h).elim),λss H7 s7 ar _=>⟨rfl,?_⟩⟩⟩;rw[aiQ af ar,zM rfl];exact k _
end
end My
namespace My
open PySem L2 PyProof.Rows
open PySem.W (codeIn findCls findIn fnOf hasDictIn isFn keepIn kitOne makesIn mg_none_of mg_of mroIn nsIn plainGet plainOver readsIn specialIn takesIn)
abbrev Dm_(K:Fg_)(c:Addr)(x q:Str)(st:Stmt)(f:Addr)(oc:Value)(od:Option Addr)(kV dc pm:Value)(an:Option Addr)(cd ct:Value)(sl:Array (Option Value)):Prop:=findIn K (.ref c) x=some (some (.ref f))∧K.lookup f=some ⟨oc,od,.func (fnOf x q (nq st) (lV st) (iQ st) .none kV dc pm an cd ct),sl⟩∧codeIn K cd q=true∧keepIn K (.ref f)=true
abbrev Df_(K:Fg_)(x:Str)(st:Stmt)(f:Addr)(oc:Value)(od:Option Addr)(kV dc pm:Value)(an:Option Addr)(cd ct:Value)(sl:Array (Option Value)):Prop:=nsIn K mainGlobals x=some (some (.ref f))∧K.lookup f=some ⟨oc,od,.func (fnOf x x (nq st) (lV st) (iQ st) .none kV dc pm an cd ct),sl⟩∧codeIn K cd x=true∧keepIn K (.ref f)=true
inductive Ef_(K:Fg_)(x:Str)(st:Stmt)(f:Addr)(fd:FuncData):Prop
  |mk {oc:Value} {od:Option Addr} {kV dc pm:Value} {an:Option Addr} {cd ct:Value} {sl:Array (Option Value)} (e:fd=fnOf x x (nq st) (lV st) (iQ st) .none kV dc pm an cd ct) (h:Df_ K x st f oc od kV dc pm an cd ct sl):Ef_ K x st f fd
inductive Em_(K:Fg_)(c:Addr)(x q:Str)(st:Stmt)(f:Addr)(fd:FuncData):Prop
  |mk {oc:Value} {od:Option Addr} {kV dc pm:Value} {an:Option Addr} {cd ct:Value} {sl:Array (Option Value)} (e:fd=fnOf x q (nq st) (lV st) (iQ st) .none kV dc pm an cd ct) (h:Dm_ K c x q st f oc od kV dc pm an cd ct sl):Em_ K c x q st f fd
def Ef_.n{K:Fg_}{x:Str}{st:Stmt}{f:Addr}{fd:FuncData}(a:Ef_ K x st f fd):nsIn K mainGlobals x=some (some (.ref f)):=by cases a with|mk e h=>exact h.1
def Ef_.k{K:Fg_}{x:Str}{st:Stmt}{f:Addr}{fd:FuncData}(a:Ef_ K x st f fd):keepIn K (.ref f)=true:=by cases a with|mk e h=>exact h.2.2.2
def Ef_.F{K:Fg_}{x:Str}{st:Stmt}{f:Addr}{fd:FuncData}(a:Ef_ K x st f fd):Fun K x x st f fd:=by cases a with|mk e h=>exact e▸Xh h.2.1 h.2.2.1 h.2.2.2
def Ef_.g{K:Fg_}{x:Str}{st:Stmt}{f:Addr}{fd:FuncData}{h:Heap}{mg:Str->Option Value}(a:Ef_ K x st f fd)(X:K.In h)(G:h.Ns mainGlobals mg):FG K mg x st f fd:=⟨mg_of X G a.n,a.k,a.F⟩
def Em_.n{K:Fg_}{c:Addr}{x q:Str}{st:Stmt}{f:Addr}{fd:FuncData}(a:Em_ K c x q st f fd):findIn K (.ref c) x=some (some (.ref f)):=by cases a with|mk e h=>exact h.1
def Em_.k{K:Fg_}{c:Addr}{x q:Str}{st:Stmt}{f:Addr}{fd:FuncData}(a:Em_ K c x q st f fd):keepIn K (.ref f)=true:=by cases a with|mk e h=>exact h.2.2.2
def Em_.F{K:Fg_}{c:Addr}{x q:Str}{st:Stmt}{f:Addr}{fd:FuncData}(a:Em_ K c x q st f fd):Fun K x q st f fd:=by cases a with|mk e h=>exact e▸Xh h.2.1 h.2.2.1 h.2.2.2
def all_mk{l:PySem.W.OpenLaw}{w:World}{K:Fg_}{h:Heap}{mg:Str->Option Value}{fa:Addr}(X:K.In h)(G:h.Ns mainGlobals mg)(nk:mg "law" =some (.ref fa))
  {f0 f1 f2 f3 f4 f5 f6 f7 f8 f9 kf ky g5 lr hp kw e3 eb g1 i9 fi le dw kc gc e2 l0 l1 i0 h5 me i6 bt b2 hs kt i1 hc bp ih ep d1 ii br e4 lc ha l5 e1 bw b0 is l2 mi hq bf g2 hb h7 k7 cd ew ez hk go hu cw co dp j6 j5 dv hl db ca h6 lm g4 hf d0 eu g7 ei em b1 mn da mf e7 ht mo ff g8 en fk kp ng:Addr}
  {kP xR:Option Addr}
  {qU:Array (Option Value)}
  {sf vJ nr vN zJ t9:Value}
  {c0 c1 c2 c3 c4 c5 c6 c7 q z ab ga bd ap an as j1:Addr}
  {dq fR ee d9 ef fU cK eK eg:Tok}
  (gp:nsIn K mainGlobals "Entry" =some (some (.ref c0)))
  (gO:nsIn K mainGlobals "Give" =some (some (.ref c1)))
  (hX:nsIn K mainGlobals "Buy" =some (some (.ref c2)))
  (gM:nsIn K mainGlobals "Gift" =some (some (.ref c3)))
  (fX:nsIn K mainGlobals "Split" =some (some (.ref c4)))
  (eQ:nsIn K mainGlobals "Parting" =some (some (.ref c5)))
  (gK:nsIn K mainGlobals "Sell" =some (some (.ref c6)))
  (gP:nsIn K mainGlobals "Sale" =some (some (.ref c7)))
  (gD:nsIn K mainGlobals "Book" =some (some (.ref q)))
  (cO:nsIn K mainGlobals "LayingBook" =some (some (.ref z)))
  (gY:nsIn K mainGlobals "Lot" =some (some (.ref ab)))
  (il:nsIn K mainGlobals "Way" =some (some (.ref ga)))
  (gQ:nsIn K mainGlobals "Mean" =some (some (.ref bd)))
  (fG:nsIn K mainGlobals "Eldest" =some (some (.ref ap)))
  (fF:nsIn K mainGlobals "Newest" =some (some (.ref an)))
  (eO:nsIn K mainGlobals "Dearest" =some (some (.ref as)))
  (gS:nsIn K mainGlobals "NoLot" =some (some (.ref j1)))
  {m3 or nn og n8 oo my nv oc od lp j3 j2 hd li i2 k4 k3 i7 ka j0 ld mp kk mu hh hz hr ml k2 kl mk i8 kv l9 h0 l3 k1 j9 hm l6 hn ly ia hy ms he h8 mr ix kg lb ll km lf i3 lj hv ma l7 j8 ke k6 lx lv k5 js j7 h9 hg iv kd it mb lh jp i4 ku k8 ho kn h3 lk ki i5 hw l8 ko j4 kb kr mv hx l4 ls hj:FuncData}
  (a0:Ef_ K "_law_digits" uD f0 m3)
  (a1:Ef_ K "_law_cell_at" tM f1 or)
  (a2:Ef_ K "_law_wares" vX f2 nn)
  (a3:Ef_ K "_law_entry" wj f3 og)
  (a4:Ef_ K "_law_held_behind" nU f4 n8)
  (a5:Ef_ K "_law_mixed" xu f5 oo)
  (a6:Ef_ K "_law_cells" wV f6 my)
  (a7:Ef_ K "_law_history" rY f7 nv)
  (a8:Ef_ K "is_whole_number" oK f8 oc)
  (a9:Ef_ K "check_number" sE f9 od)
  (a10:Ef_ K "is_name" Ip kf lp)
  (a11:Ef_ K "check_name" xH ky j3)
  (a12:Em_ K c0 "__init__" "Entry.__init__" pI g5 j2)
  (a13:Ef_ K "check_named" uJ lr hd)
  (a14:Ef_ K "named_copy" wA hp li)
  {bk:Addr} {qu oX:Option Addr} {ny:Array (Option Value)} {lU sk kZ yi ir mt:Value}
  (ni:findIn K (.ref c1) "__init__" =some (some (.ref bk)))
  {ip:Addr} {iw:Option Addr} {iC:Value} {iy:Array (Option Value)} {qH:Nat}
  (mx:K.lookup bk=some ⟨lU,qu,.func (fnOf "__init__" "Give.__init__" (nq lM) (lV lM) (iQ lM) (.ref ip) sk kZ yi oX ir mt),ny⟩)
  (ow:codeIn K ir "Give.__init__" =true)
  (oe:keepIn K (.ref bk)=true)
  (ig:K.lookup ip=some ⟨iC,iw,.seq #[.none] qH,iy⟩)
  (m1:Ef_ K "check_trade" uG kw i2)
  {bm:Addr} {tX wY:Option Addr} {ln:Array (Option Value)} {ja y8 oO xB iu su:Value}
  (n6:findIn K (.ref c2) "__init__" =some (some (.ref bm)))
  {io:Addr} {iB:Option Addr} {iE:Value} {iz:Array (Option Value)} {uL:Nat} {ie:Tok}
  (oj:K.lookup bm=some ⟨ja,tX,.func (fnOf "__init__" "Buy.__init__" (nq lX) (lV lX) (iQ lX) (.ref io) y8 oO xB wY iu su),ln⟩)
  (nh:codeIn K iu "Buy.__init__" =true)
  (m4:keepIn K (.ref bm)=true)
  (ij:K.lookup io=some ⟨iE,iB,.seq #[.int 0 ie] uL,iz⟩)
  (mm:Em_ K c3 "__init__" "Gift.__init__" qD e3 k4)
  (mw:Em_ K c4 "__init__" "Split.__init__" pK eb k3)
  (h4:Em_ K c5 "__init__" "Parting.__init__" nT g1 i7)
  {bl:Addr} {wO jN:Option Addr} {qo:Array (Option Value)} {sU jr mh sF iq yP:Value}
  (nd:findIn K (.ref c6) "__init__" =some (some (.ref bl)))
  {im:Addr} {iA:Option Addr} {iF:Value} {iD:Array (Option Value)} {vY:Nat} {ic:Tok}
  (m9:K.lookup bl=some ⟨sU,wO,.func (fnOf "__init__" "Sell.__init__" (nq lJ) (lV lJ) (iQ lJ) (.ref im) jr mh sF jN iq yP),qo⟩)
  (m5:codeIn K iq "Sell.__init__" =true)
  (m6:keepIn K (.ref bl)=true)
  (ik:K.lookup im=some ⟨iF,iA,.seq #[.int 0 ic,.none] vY,iD⟩)
  (m2:Ef_ K "_law_made" Bh i9 ka)
  (jv:Em_ K c7 "__init__" "Sale.__init__" qK fi j0)
  (nc:Ef_ K "copy_of_sale" rZ le ld)
  (dz:Em_ K q "sales" "Book.sales" wW dw mp)
  (on:Ef_ K "cost_of_parts" qT kc kk)
  (g0:Em_ K c7 "gain" "Sale.gain" Cp gc mu)
  (eq:Em_ K c7 "counted" "Sale.counted" sZ e2 hh)
  (n1:Ef_ K "words_of_sale" qO l0 hz)
  (n9:Ef_ K "pieces_in" Bt l1 hr)
  (n0:Ef_ K "cost_in" Ho i0 ml)
  (nf:Ef_ K "word_of_lot" uz h5 k2)
  (no:Ef_ K "words_of_held" qj me kl)
  (n7:Ef_ K "row_of_words" rP i6 mk)
  (bs:Em_ K q "row_of" "Book.row_of" uy bt i8)
  (cl:Em_ K q "held" "Book.held" Bl b2 kv)
  (nb:Ef_ K "report_of" BW hs l9)
  (op:Ef_ K "refuse_twice" sW kt h0)
  (n3:Ef_ K "place_of" DY i1 l3)
  (oq:Ef_ K "in_order" Eu hc k1)
  (dl:Em_ K q "keep_row" "Book.keep_row" qy bp j9)
  (ok:Ef_ K "place_in_row" sS ih hm)
  (kq:Em_ K ab "__init__" "Lot.__init__" rQ ep l6)
  (fl:Em_ K ab "with_more" "Lot.with_more" qQ d1 hn)
  (n2:Ef_ K "row_with" Ec ii ly)
  (dt:Em_ K q "put" "Book.put" Ej br ia)
  (er:Em_ K q "lay_on" "Book.lay_on" uH e4 hy)
  (nl:Ef_ K "is_open_loss" rW lc ms)
  (gv:Em_ K z "may_take" "LayingBook.may_take" mG ha he)
  (ne:Ef_ K "sale_laid_on" rR l5 h8)
  (ev:Em_ K z "lay_on" "LayingBook.lay_on" mZ e1 mr)
  (dd:Em_ K q "do_buy" "Book.do_buy" uO bw ix)
  (dc:Em_ K q "do_gift" "Book.do_gift" sJ b0 kg)
  (ov:Ef_ K "sum_of_weights" pL is lb)
  (of:Ef_ K "part_of" Io l2 ll)
  (ns:Ef_ K "dealt" Te mi km)
  (nz:Ef_ K "sale_of" JZ hq lf)
  (cp:Em_ K ga "levelled" "Way.levelled" rT bf i3)
  (e5:Em_ K bd "levelled" "Mean.levelled" qN g2 lj)
  (d2:Em_ K ab "taken" "Lot.taken" Bj hb hv)
  (nt:Ef_ K "row_without" uM h7 ma)
  (m0:Ef_ K "picks_in_turn" qI k7 l7)
  (cc:Em_ K ap "picks" "Eldest.picks" sG cd j8)
  (ea:Em_ K an "picks" "Newest.picks" tD ew ke)
  (et:Em_ K ab "is_dearer" "Lot.is_dearer" qx ez k6)
  (n4:Ef_ K "dearest_first" ql hk lx)
  (g6:Em_ K as "picks" "Dearest.picks" qG go lv)
  (oi:Ef_ K "gone_from" Bs hu k5)
  (cb:Em_ K q "taken_for" "Book.taken_for" pH cw js)
  (b3:Em_ K q "do_sell" "Book.do_sell" sI co j7)
  (ch:Em_ K q "do_give" "Book.do_give" tK dp h9)
  (nw:Ef_ K "pieces_split" tE j6 hg)
  (m8:Ef_ K "row_split" Ci j5 iv)
  (dy:Em_ K q "do_split" "Book.do_split" qL dv kd)
  (nx:Ef_ K "row_parted" xG hl it)
  (cz:Em_ K q "do_parting" "Book.do_parting" oJ db mb)
  (ct:Em_ K q "do_by_kind" "Book.do_by_kind" oN ca lh)
  (m7:Ef_ K "held_with" BK h6 jp)
  (oa:Ef_ K "held_with_more" pP lm i4)
  (gh:Em_ K c2 "held_behind" "Buy.held_behind" oA g4 ku)
  (ot:Ef_ K "held_with_fewer" ou hf k8)
  (ec:Em_ K c6 "held_behind" "Sell.held_behind" nR d0 ho)
  (ek:Em_ K c3 "held_behind" "Gift.held_behind" nO eu kn)
  (ej:Em_ K c1 "held_behind" "Give.held_behind" nG g7 h3)
  (e0:Em_ K c4 "held_behind" "Split.held_behind" nu ei lk)
  (ed:Em_ K c5 "held_behind" "Parting.held_behind" mJ em ki)
  (cs:Em_ K q "do" "Book.do" HS b1 i5)
  (ol:Ef_ K "with_all_done" qp mn hw)
  (kx:Em_ K q "__init__" "Book.__init__" qW da l8)
  (n5:Ef_ K "book_of" Iv mf ko)
  (k9:Em_ K z "__init__" "LayingBook.__init__" mH e7 j4)
  (ob:Ef_ K "laying_book_of" pO ht kb)
  (om:Ef_ K "_law_due" Eo mo kr)
  (g3:Em_ K ap "word" "Eldest.word" uI ff mv)
  (eh:Em_ K an "word" "Newest.word" uR g8 hx)
  (ey:Em_ K as "word" "Dearest.word" sO en l4)
  (d3:Em_ K bd "word" "Mean.word" Ce fk ls)
  (na:Ef_ K "way_by" Mp kp hj)
  (bg:Df_ K "law" aah ng sf kP vJ nr vN xR zJ t9 qU)
  (gZ:nsIn K mainGlobals "len" =some none)
  (gT:nsIn K mainGlobals "int" =some none)
  (hV:nsIn K mainGlobals "min" =some none)
  (gR:nsIn K mainGlobals "dict" =some none)
  (gW:nsIn K mainGlobals "max" =some none)
  (gA:nsIn K mainGlobals "range" =some none)
  (dg:nsIn K mainGlobals "enumerate" =some none)
  (cR:nsIn K mainGlobals "isinstance" =some none)
  (gN:nsIn K mainGlobals "bool" =some none)
  (gX:nsIn K mainGlobals "all" =some none)
  (gU:nsIn K mainGlobals "str" =some none)
  (gH:nsIn K mainGlobals "list" =some none)
  (ib:nsIn K mainGlobals "sum" =some none)
  (fL:nsIn K mainGlobals "sorted" =some none)
  (g9:nsIn K mainGlobals "zip" =some none)
  (hJ:nsIn K mainGlobals "any" =some none)
  (dC:nsIn K mainGlobals "reversed" =some none)
  (bX:nsIn K mainGlobals "MOST_LETTERS" =some (some (.int 8 dq)))
  (dL:nsIn K mainGlobals "MOST_DAY" =some (some (.int 1000000 fR)))
  (ce:nsIn K mainGlobals "MOST_NUMBER" =some (some (.int 1000000 ee)))
  (cf:nsIn K mainGlobals "MOST_PIECES" =some (some (.int 1000000000 d9)))
  (cE:nsIn K mainGlobals "MOST_PRICE" =some (some (.int 1000000000 ef)))
  (dQ:nsIn K mainGlobals "MOST_FEE" =some (some (.int 1000000000 fU)))
  (bC:nsIn K mainGlobals "MOST_GIFT_COST" =some (some (.int 1000000000000000000 cK)))
  (cQ:nsIn K mainGlobals "MOST_SPLIT" =some (some (.int 1000 eK)))
  (cL:nsIn K mainGlobals "MOST_WHOLE" =some (some (.int 1000000 eg)))
  (eE:specialIn K (.builtin "object.__class__") "__get__" =some (some (.builtin "getset_descriptor.__get__")))
  (eG:takesIn K (.builtin "object.__class__")=some true)
  (fm:plainGet K c1 Str.empty=true)
  (e8:hasDictIn K c1=true)
  (fg:plainOver K c1=true)
  (fc:findIn K (.ref c1) "__setattr__" =some (some (.builtin "object.__setattr__")))
  (fY:findIn K (.ref c1) "__class__" =some (some (.builtin "object.__class__")))
  (gB:mroIn K c1 (.type "object")=some true)
  (d8:findIn K (.ref c1) "day" =some none)
  (b7:findIn K (.ref c1) "number" =some none)
  (dk:findIn K (.ref c1) "ware" =some none)
  (cq:findIn K (.ref c1) "pieces" =some none)
  (cB:findIn K (.ref c1) "named" =some none)
  (fT:plainGet K c2 Str.empty=true)
  (fS:hasDictIn K c2=true)
  (fV:plainOver K c2=true)
  (fQ:findIn K (.ref c2) "__setattr__" =some (some (.builtin "object.__setattr__")))
  (gE:findIn K (.ref c2) "__class__" =some (some (.builtin "object.__class__")))
  (gJ:mroIn K c2 (.type "object")=some true)
  (eV:findIn K (.ref c2) "day" =some none)
  (cC:findIn K (.ref c2) "number" =some none)
  (dZ:findIn K (.ref c2) "ware" =some none)
  (cM:findIn K (.ref c2) "pieces" =some none)
  (df:findIn K (.ref c2) "price" =some none)
  (eM:findIn K (.ref c2) "fee" =some none)
  (dS:findIn K (.ref c2) "cost" =some none)
  (fe:plainGet K c3 Str.empty=true)
  (eY:hasDictIn K c3=true)
  (eX:plainOver K c3=true)
  (fj:findIn K (.ref c3) "__setattr__" =some (some (.builtin "object.__setattr__")))
  (gi:findIn K (.ref c3) "__class__" =some (some (.builtin "object.__class__")))
  (gj:mroIn K c3 (.type "object")=some true)
  (du:findIn K (.ref c3) "day" =some none)
  (b4:findIn K (.ref c3) "number" =some none)
  (cW:findIn K (.ref c3) "ware" =some none)
  (cr:findIn K (.ref c3) "pieces" =some none)
  (cX:findIn K (.ref c3) "cost" =some none)
  (cG:findIn K (.ref c3) "since" =some none)
  (d4:plainGet K c4 Str.empty=true)
  (dN:hasDictIn K c4=true)
  (d5:plainOver K c4=true)
  (dU:findIn K (.ref c4) "__setattr__" =some (some (.builtin "object.__setattr__")))
  (fu:findIn K (.ref c4) "__class__" =some (some (.builtin "object.__class__")))
  (fw:mroIn K c4 (.type "object")=some true)
  (cU:findIn K (.ref c4) "day" =some none)
  (bP:findIn K (.ref c4) "number" =some none)
  (cI:findIn K (.ref c4) "ware" =some none)
  (cH:findIn K (.ref c4) "many" =some none)
  (d6:findIn K (.ref c4) "of" =some none)
  (cy:plainGet K c5 Str.empty=true)
  (cx:hasDictIn K c5=true)
  (cu:plainOver K c5=true)
  (cv:findIn K (.ref c5) "__setattr__" =some (some (.builtin "object.__setattr__")))
  (dB:findIn K (.ref c5) "__class__" =some (some (.builtin "object.__class__")))
  (dr:mroIn K c5 (.type "object")=some true)
  (cj:findIn K (.ref c5) "day" =some none)
  (bE:findIn K (.ref c5) "number" =some none)
  (bU:findIn K (.ref c5) "ware" =some none)
  (bJ:findIn K (.ref c5) "other" =some none)
  (bI:findIn K (.ref c5) "share" =some none)
  (bK:findIn K (.ref c5) "whole" =some none)
  (fh:plainGet K c6 Str.empty=true)
  (eW:hasDictIn K c6=true)
  (eZ:plainOver K c6=true)
  (fb:findIn K (.ref c6) "__setattr__" =some (some (.builtin "object.__setattr__")))
  (fW:findIn K (.ref c6) "__class__" =some (some (.builtin "object.__class__")))
  (gu:mroIn K c6 (.type "object")=some true)
  (dM:findIn K (.ref c6) "day" =some none)
  (b6:findIn K (.ref c6) "number" =some none)
  (cZ:findIn K (.ref c6) "ware" =some none)
  (ci:findIn K (.ref c6) "pieces" =some none)
  (cD:findIn K (.ref c6) "price" =some none)
  (dF:findIn K (.ref c6) "fee" =some none)
  (cN:findIn K (.ref c6) "named" =some none)
  (bG:findIn K (.ref c6) "proceeds" =some none)
  (gl:plainGet K c7 Str.empty=true)
  (gz:hasDictIn K c7=true)
  (gq:plainOver K c7=true)
  (gr:findIn K (.ref c7) "__setattr__" =some (some (.builtin "object.__setattr__")))
  (cn:findIn K (.ref c7) "number" =some none)
  (dX:findIn K (.ref c7) "day" =some none)
  (de:findIn K (.ref c7) "ware" =some none)
  (bL:findIn K (.ref c7) "proceeds" =some none)
  (cF:findIn K (.ref c7) "parts" =some none)
  (bS:findIn K (.ref c7) "laid_on" =some none)
  (gf:plainGet K q Str.empty=true)
  (gy:hasDictIn K q=true)
  (gg:plainOver K q=true)
  (gm:findIn K (.ref q) "__setattr__" =some (some (.builtin "object.__setattr__")))
  (dW:findIn K (.ref q) "way" =some none)
  (cY:findIn K (.ref q) "rows" =some none)
  (bu:findIn K (.ref q) "last_place" =some none)
  (dj:findIn K (.ref q) "paid" =some none)
  (bQ:findIn K (.ref q) "brought" =some none)
  (ba:findIn K (.ref q) "sales_done" =some none)
  (aQ:findIn K (.ref q) "givings_done" =some none)
  (b9:plainGet K z Str.empty=true)
  (b5:hasDictIn K z=true)
  (b8:plainOver K z=true)
  (bZ:findIn K (.ref z) "__setattr__" =some (some (.builtin "object.__setattr__")))
  (bz:findIn K (.ref z) "way" =some none)
  (bh:findIn K (.ref z) "rows" =some none)
  (al:findIn K (.ref z) "last_place" =some none)
  (bo:findIn K (.ref z) "paid" =some none)
  (aM:findIn K (.ref z) "brought" =some none)
  (ak:findIn K (.ref z) "sales_done" =some none)
  (ad:findIn K (.ref z) "givings_done" =some none)
  (bn:findIn K (.ref z) "days" =some none)
  (aD:findIn K (.ref z) "layings" =some none)
  (gF:plainGet K ab Str.empty=true)
  (gG:hasDictIn K ab=true)
  (gI:plainOver K ab=true)
  (gL:findIn K (.ref ab) "__setattr__" =some (some (.builtin "object.__setattr__")))
  (cA:findIn K (.ref ab) "number" =some none)
  (cV:findIn K (.ref ab) "since" =some none)
  (cP:findIn K (.ref ab) "pieces" =some none)
  (dI:findIn K (.ref ab) "cost" =some none)
  (ge:plainGet K bd Str.empty=true)
  (gk:hasDictIn K bd=true)
  (fZ:plainOver K bd=true)
  (gC:findIn K (.ref bd) "__setattr__" =some (some (.builtin "object.__setattr__")))
  (eB:plainGet K ap Str.empty=true)
  (eI:hasDictIn K ap=true)
  (el:plainOver K ap=true)
  (eF:findIn K (.ref ap) "__setattr__" =some (some (.builtin "object.__setattr__")))
  (eL:plainGet K an Str.empty=true)
  (eo:hasDictIn K an=true)
  (eJ:plainOver K an=true)
  (eC:findIn K (.ref an) "__setattr__" =some (some (.builtin "object.__setattr__")))
  (dE:plainGet K as Str.empty=true)
  (dD:hasDictIn K as=true)
  (dY:plainOver K as=true)
  (dO:findIn K (.ref as) "__setattr__" =some (some (.builtin "object.__setattr__")))
  (fA:makesIn K c1=true)
  (fN:isFn K (.ref bk)=true)
  (fH:keepIn K (.ref c1)=true)
  (gb:makesIn K c2=true)
  (gw:isFn K (.ref bm)=true)
  (gn:keepIn K (.ref c2)=true)
  (fD:makesIn K c3=true)
  (fP:isFn K (.ref e3)=true)
  (fz:keepIn K (.ref c3)=true)
  (eD:makesIn K c4=true)
  (eT:isFn K (.ref eb)=true)
  (eS:keepIn K (.ref c4)=true)
  (dn:makesIn K c5=true)
  (dh:isFn K (.ref g1)=true)
  (cT:keepIn K (.ref c5)=true)
  (fE:makesIn K c6=true)
  (fC:isFn K (.ref bl)=true)
  (fM:keepIn K (.ref c6)=true)
  (fB:makesIn K c7=true)
  (ft:isFn K (.ref fi)=true)
  (fK:keepIn K (.ref c7)=true)
  (gt:makesIn K ab=true)
  (gd:isFn K (.ref ep)=true)
  (gx:keepIn K (.ref ab)=true)
  (fx:makesIn K q=true)
  (fq:isFn K (.ref da)=true)
  (fy:keepIn K (.ref q)=true)
  (bW:makesIn K z=true)
  (bR:isFn K (.ref e7)=true)
  (bT:keepIn K (.ref z)=true)
  (dR:makesIn K ap=true)
  (dA:findIn K (.ref ap) "__init__" =some (some (.builtin "object.__init__")))
  (dG:keepIn K (.ref ap)=true)
  (dJ:makesIn K an=true)
  (dP:findIn K (.ref an) "__init__" =some (some (.builtin "object.__init__")))
  (d7:keepIn K (.ref an)=true)
  (di:makesIn K as=true)
  (cS:findIn K (.ref as) "__init__" =some (some (.builtin "object.__init__")))
  (dm:keepIn K (.ref as)=true)
  (fr:makesIn K bd=true)
  (fo:findIn K (.ref bd) "__init__" =some (some (.builtin "object.__init__")))
  (fO:keepIn K (.ref bd)=true)
  (cm:isFn K (.ref gc)=true)
  (bD:isFn K (.ref e2)=true)
  (aY:isFn K (.ref dw)=true)
  (aE:findIn K (.ref z) "sales" =some (some (.ref dw)))
  (aS:isFn K (.ref bt)=true)
  (ay:findIn K (.ref z) "row_of" =some (some (.ref bt)))
  (bx:isFn K (.ref b2)=true)
  (aR:findIn K (.ref z) "held" =some (some (.ref b2)))
  (bq:isFn K (.ref d1)=true)
  (ax:isFn K (.ref bp)=true)
  (ao:findIn K (.ref z) "keep_row" =some (some (.ref bp)))
  (aj:isFn K (.ref ha)=true)
  (bO:isFn K (.ref br)=true)
  (aW:findIn K (.ref z) "put" =some (some (.ref br)))
  (bH:isFn K (.ref e4)=true)
  (aB:isFn K (.ref e1)=true)
  (cg:isFn K (.ref hb)=true)
  (aZ:isFn K (.ref ez)=true)
  (aN:findIn K (.ref ap) "levelled" =some (some (.ref bf)))
  (aa:isFn K (.ref bf)=true)
  (aO:findIn K (.ref an) "levelled" =some (some (.ref bf)))
  (aL:findIn K (.ref as) "levelled" =some (some (.ref bf)))
  (bj:isFn K (.ref g2)=true)
  (aG:isFn K (.ref cd)=true)
  (bF:isFn K (.ref ew)=true)
  (be:isFn K (.ref go)=true)
  (bV:findIn K (.ref bd) "picks" =some (some (.ref cd)))
  (aq:isFn K (.ref cw)=true)
  (af:findIn K (.ref z) "taken_for" =some (some (.ref cw)))
  (aT:isFn K (.ref bw)=true)
  (az:findIn K (.ref z) "do_buy" =some (some (.ref bw)))
  (aJ:isFn K (.ref b0)=true)
  (av:findIn K (.ref z) "do_gift" =some (some (.ref b0)))
  (aK:isFn K (.ref co)=true)
  (au:findIn K (.ref z) "do_sell" =some (some (.ref co)))
  (aC:isFn K (.ref dp)=true)
  (ar:findIn K (.ref z) "do_give" =some (some (.ref dp)))
  (aw:isFn K (.ref dv)=true)
  (am:findIn K (.ref z) "do_split" =some (some (.ref dv)))
  (ah:isFn K (.ref db)=true)
  (ac:findIn K (.ref z) "do_parting" =some (some (.ref db)))
  (ag:isFn K (.ref ca)=true)
  (ae:findIn K (.ref z) "do_by_kind" =some (some (.ref ca)))
  (aP:isFn K (.ref g4)=true)
  (aF:isFn K (.ref d0)=true)
  (aI:isFn K (.ref eu)=true)
  (aH:isFn K (.ref g7)=true)
  (aA:isFn K (.ref ei)=true)
  (ai:isFn K (.ref em)=true)
  (bY:isFn K (.ref b1)=true)
  (bi:findIn K (.ref z) "do" =some (some (.ref b1)))
  (bM:isFn K (.ref ff)=true)
  (bN:isFn K (.ref g8)=true)
  (bA:isFn K (.ref en)=true)
  (ck:isFn K (.ref fk)=true)
  (aV:specialIn K (.ref c0) "__getattribute__" =some (some (.builtin "type.__getattribute__")))
  (aX:readsIn K c0 (.type "type")=true)
  (aU:findCls K (.ref c0) (.type "type") "__init__" =some (.val (.ref g5)))
  (bc:specialIn K (.ref q) "__getattribute__" =some (some (.builtin "type.__getattribute__")))
  (bb:readsIn K q (.type "type")=true)
  (bv:findCls K (.ref q) (.type "type") "__init__" =some (.val (.ref da)))
  (fJ:kitOne K (.ref c2) (.ref c6)=some false/\kitOne K (.ref c2) (.ref c3)=some false/\kitOne K (.ref c2) (.ref c1)=some false/\kitOne K (.ref c2) (.ref c4)=some false/\kitOne K (.ref c2) (.ref c5)=some false)
  (eU:kitOne K (.ref c6) (.ref c2)=some false/\kitOne K (.ref c6) (.ref c3)=some false/\kitOne K (.ref c6) (.ref c1)=some false/\kitOne K (.ref c6) (.ref c4)=some false/\kitOne K (.ref c6) (.ref c5)=some false)
  (eP:kitOne K (.ref c3) (.ref c2)=some false/\kitOne K (.ref c3) (.ref c6)=some false/\kitOne K (.ref c3) (.ref c1)=some false/\kitOne K (.ref c3) (.ref c4)=some false/\kitOne K (.ref c3) (.ref c5)=some false)
  (eN:kitOne K (.ref c1) (.ref c2)=some false/\kitOne K (.ref c1) (.ref c6)=some false/\kitOne K (.ref c1) (.ref c3)=some false/\kitOne K (.ref c1) (.ref c4)=some false/\kitOne K (.ref c1) (.ref c5)=some false)
  (dH:kitOne K (.ref c4) (.ref c2)=some false/\kitOne K (.ref c4) (.ref c6)=some false/\kitOne K (.ref c4) (.ref c3)=some false/\kitOne K (.ref c4) (.ref c1)=some false/\kitOne K (.ref c4) (.ref c5)=some false)
  (cJ:kitOne K (.ref c5) (.ref c2)=some false/\kitOne K (.ref c5) (.ref c6)=some false/\kitOne K (.ref c5) (.ref c3)=some false/\kitOne K (.ref c5) (.ref c1)=some false/\kitOne K (.ref c5) (.ref c4)=some false)
  :∃fd:FuncData,(∀(s:Shared)(v:Value),BindsTo s fd ⟨[v],[]⟩ [("_law_script",v)])/\∀base:Heap,K.In base->base.Ns mainGlobals mg->jQ l.prog w K mg base CX0 12 fa fd ["_law_script"] (Ot K):=by
 have e:=nk.symm.trans (mg_of X G bg.1);cases e;have T:Txt K mg ⟨f0,f1,f2,f3,f4,f5,f6,f7,f8,f9,kf,ky,g5,lr,hp,bk,kw,bm,e3,eb,g1,bl,i9,fi,le,dw,kc,gc,e2,l0,l1,i0,h5,me,i6,bt,b2,hs,kt,i1,hc,bp,ih,ep,d1,ii,br,e4,lc,ha,l5,e1,bw,b0,is,l2,mi,hq,bf,g2,hb,h7,k7,cd,ew,ez,hk,go,hu,cw,co,dp,j6,j5,dv,hl,db,ca,h6,lm,g4,hf,d0,eu,g7,ei,em,b1,mn,da,mf,e7,ht,mo,ff,g8,en,fk,kp,fa,c0,c1,c2,c3,c4,c5,c6,c7,q,z,ab,ga,bd,ap,an,as,j1,dq,fR,ee,d9,ef,fU,cK,eK,eg⟩ ⟨_,_,_,_,_,_,_,_,_,_,_,_,_,_,_,_,_,_,_,_,_,_,_,_,_,_,_,_,_,_,_,_,_,_,_,_,_,_,_,_,_,_,_,_,_,_,_,_,_,_,_,_,_,_,_,_,_,_,_,_,_,_,_,_,_,_,_,_,_,_,_,_,_,_,_,_,_,_,_,_,_,_,_,_,_,_,_,_,_,_,_,_,_,_,_,_,_,_,_,_⟩:=⟨a0.g X G,a1.g X G,a2.g X G,a3.g X G,a4.g X G,a5.g X G,a6.g X G,a7.g X G,a8.g X G,a9.g X G,a10.g X G,a11.g X G,a12.F,a13.g X G,a14.g X G,SN (st:=lM) (its:=[.none]) mx ow oe ig rfl (.cons rfl .nil),m1.g X G,SN (st:=lX) (its:=[.int 0 ie]) oj nh m4 ij rfl (.cons ⟨_,rfl⟩ .nil),mm.F,mw.F,h4.F,SN (st:=lJ) (its:=[.int 0 ic,.none]) m9 m5 m6 ik rfl (.cons ⟨_,rfl⟩ (.cons rfl .nil)),m2.g X G,jv.F,nc.g X G,dz.F,on.g X G,g0.F,eq.F,n1.g X G,n9.g X G,n0.g X G,nf.g X G,no.g X G,n7.g X G,bs.F,cl.F,nb.g X G,op.g X G,n3.g X G,oq.g X G,dl.F,ok.g X G,kq.F,fl.F,n2.g X G,dt.F,er.F,nl.g X G,gv.F,ne.g X G,ev.F,dd.F,dc.F,ov.g X G,of.g X G,ns.g X G,nz.g X G,cp.F,e5.F,d2.F,nt.g X G,m0.g X G,cc.F,ea.F,et.F,n4.g X G,g6.F,oi.g X G,cb.F,b3.F,ch.F,nw.g X G,m8.g X G,dy.F,nx.g X G,cz.F,ct.F,m7.g X G,oa.g X G,gh.F,ot.g X G,ec.F,ek.F,ej.F,e0.F,ed.F,cs.F,ol.g X G,kx.F,n5.g X G,k9.F,ob.g X G,om.g X G,g3.F,eh.F,ey.F,d3.F,na.g X G,⟨mg_of X G bg.1,bg.2.2.2,Xh (st:=aah) bg.2.1 bg.2.2.1 bg.2.2.2⟩,mg_none_of X G gZ,mg_none_of X G gT,mg_none_of X G hV,mg_none_of X G gR,mg_none_of X G gW,mg_none_of X G gA,mg_none_of X G dg,mg_none_of X G cR,mg_none_of X G gN,mg_none_of X G gX,mg_none_of X G gU,mg_none_of X G gH,mg_none_of X G ib,mg_none_of X G fL,mg_none_of X G g9,mg_none_of X G hJ,mg_none_of X G dC,mg_of X G gp,mg_of X G gO,mg_of X G hX,mg_of X G gM,mg_of X G fX,mg_of X G eQ,mg_of X G gK,mg_of X G gP,mg_of X G gD,mg_of X G cO,mg_of X G gY,mg_of X G gQ,mg_of X G fG,mg_of X G fF,mg_of X G eO,mg_of X G bX,mg_of X G dL,mg_of X G ce,mg_of X G cf,mg_of X G cE,mg_of X G dQ,mg_of X G bC,mg_of X G cQ,mg_of X G cL,⟨fm,e8,fg,fc⟩,⟨⟨fm,e8,fg,fc⟩,fY,eE,eG,gB⟩,d8,b7,dk,cq,cB,⟨fT,fS,fV,fQ⟩,⟨⟨fT,fS,fV,fQ⟩,gE,eE,eG,gJ⟩,eV,cC,dZ,cM,df,eM,dS,⟨fe,eY,eX,fj⟩,⟨⟨fe,eY,eX,fj⟩,gi,eE,eG,gj⟩,du,b4,cW,cr,cX,cG,⟨d4,dN,d5,dU⟩,⟨⟨d4,dN,d5,dU⟩,fu,eE,eG,fw⟩,cU,bP,cI,cH,d6,⟨cy,cx,cu,cv⟩,⟨⟨cy,cx,cu,cv⟩,dB,eE,eG,dr⟩,cj,bE,bU,bJ,bI,bK,⟨fh,eW,eZ,fb⟩,⟨⟨fh,eW,eZ,fb⟩,fW,eE,eG,gu⟩,dM,b6,cZ,ci,cD,dF,cN,bG,⟨gl,gz,gq,gr⟩,cn,dX,de,bL,cF,bS,⟨gf,gy,gg,gm⟩,dW,cY,bu,dj,bQ,ba,aQ,⟨b9,b5,b8,bZ⟩,bz,bh,al,bo,aM,ak,ad,bn,aD,⟨gF,gG,gI,gL⟩,cA,cV,cP,dI,⟨ge,gk,fZ,gC⟩,⟨eB,eI,el,eF⟩,⟨eL,eo,eJ,eC⟩,⟨dE,dD,dY,dO⟩,⟨fA,ni,fN,fH⟩,⟨gb,n6,gw,gn⟩,⟨fD,mm.n,fP,fz⟩,⟨eD,mw.n,eT,eS⟩,⟨dn,h4.n,dh,cT⟩,⟨fE,nd,fC,fM⟩,⟨fB,jv.n,ft,fK⟩,⟨gt,kq.n,gd,gx⟩,⟨fx,kx.n,fq,fy⟩,⟨bW,k9.n,bR,bT⟩,⟨dR,dA,dG⟩,⟨dJ,dP,d7⟩,⟨di,cS,dm⟩,⟨fr,fo,fO⟩,⟨g0.n,cm,g0.k⟩,⟨eq.n,bD,eq.k⟩,⟨dz.n,aY,dz.k⟩,⟨aE,aY,dz.k⟩,⟨bs.n,aS,bs.k⟩,⟨ay,aS,bs.k⟩,⟨cl.n,bx,cl.k⟩,⟨aR,bx,cl.k⟩,⟨fl.n,bq,fl.k⟩,⟨dl.n,ax,dl.k⟩,⟨ao,ax,dl.k⟩,⟨gv.n,aj,gv.k⟩,⟨dt.n,bO,dt.k⟩,⟨aW,bO,dt.k⟩,⟨er.n,bH,er.k⟩,⟨ev.n,aB,ev.k⟩,⟨d2.n,cg,d2.k⟩,⟨et.n,aZ,et.k⟩,⟨aN,aa,cp.k⟩,⟨aO,aa,cp.k⟩,⟨aL,aa,cp.k⟩,⟨e5.n,bj,e5.k⟩,⟨cc.n,aG,cc.k⟩,⟨ea.n,bF,ea.k⟩,⟨g6.n,be,g6.k⟩,⟨bV,aG,cc.k⟩,⟨cb.n,aq,cb.k⟩,⟨af,aq,cb.k⟩,⟨dd.n,aT,dd.k⟩,⟨az,aT,dd.k⟩,⟨dc.n,aJ,dc.k⟩,⟨av,aJ,dc.k⟩,⟨b3.n,aK,b3.k⟩,⟨au,aK,b3.k⟩,⟨ch.n,aC,ch.k⟩,⟨ar,aC,ch.k⟩,⟨dy.n,aw,dy.k⟩,⟨am,aw,dy.k⟩,⟨cz.n,ah,cz.k⟩,⟨ac,ah,cz.k⟩,⟨ct.n,ag,ct.k⟩,⟨ae,ag,ct.k⟩,⟨gh.n,aP,gh.k⟩,⟨ec.n,aF,ec.k⟩,⟨ek.n,aI,ek.k⟩,⟨ej.n,aH,ej.k⟩,⟨e0.n,aA,e0.k⟩,⟨ed.n,ai,ed.k⟩,⟨cs.n,bY,cs.k⟩,⟨bi,bY,cs.k⟩,⟨g3.n,bM,g3.k⟩,⟨eh.n,bN,eh.k⟩,⟨ey.n,bA,ey.k⟩,⟨d3.n,ck,d3.k⟩,⟨aV,aX,aU⟩,⟨bc,bb,bv⟩,fJ,eU,eP,eN,dH,cJ⟩
 exact⟨_,λs v=> .of_eq rfl,λbase _ _=>akD T⟩
def walk{l:PySem.W.OpenLaw}{q:Program}{aa:List Str}{XP:(Str->Option Value)->Heap->Prop}{YP:World->Heap->Prop}{d:DefRec}{K:Params->Fg_}(hn:l.most=some 63)(ab:d.params.defaults=[])
  (hY:∀(w:World)(h:Heap),YP w h->(K w.params).In h)
  (F:∀(w:World)(mg:Str->Option Value)(fa:Addr)(h:Heap),(K w.params).In h->h.Ns mainGlobals mg->mg d.name=some (.ref fa)->
   ∃fd:FuncData,(∀(s:Shared)(u:Value),BindsTo s fd ⟨[u],[]⟩ [("_law_script",u)])/\∀base:Heap,(K w.params).In base->base.Ns mainGlobals mg->jQ l.prog w (K w.params) mg base CX0 12 fa fd ["_law_script"] (Ot (K w.params))):
  PySem.W.WalkO q aa XP YP l.row.toRowW d [] (λf vs=>PySem.call f vs):=
 L2.walk_of (n:=63) (k:=12) (x:= "_law_script") (CX:=λ_=>CX0) (sp:=λw=>Ot (K w.params)) hn (by decide) ab ⟨rfl,by decide,by decide⟩ hY F (λ_ _ a ns hl _ hS=>⟨a,ns,rfl,hS,hl,λ_=>rfl⟩) λ_ _ _ _ _ z=>z
end My
structure PySem.W.Fast:Prop where(tw3691959542573214437 tw3490865437871972474 tw8545886000588499048 tw14841169917325927575 tw16511153469028688969 tw6119778302279313595 tw16092148012952792536 tw18144962570905020250 tw8467639838989728419 tw1528690319919522911 tw10480707907345009350 tw1367022292538993388 tw9189798690647909458 tw3640258049924883263 tw405111540931044115 tw1027016016743294060 tw8803923652466493380 tw14492318103539078789 tw2161315518862611005 tw2515540607630052192 tw5112374395911700899 tw3029487304738276248 tw14941809395647418741 tw12854606952315539161 tw12630394384942244492 tw6131043747841240007 tw11600030866124521750 tw3192524425995538523 tw599621464875806442 tw12900584242373823840 tw8998222330096193630 tw12206316280570340408 tw14801371371379435101 tw12377454203560583533 tw18431264251280998842 tw8837776328545556913 tw4488484455388015684 tw5815356386016937254 tw6283876516318641601 tw5312989443778443898 tw16717254948861035735 tw8237630020717255174 tw4677570524416862884 tw13243621313078333705 tw1810394820017300296 tw13205825212676075210 tw5808914087050474465 tw7179346913102839425 tw7763247277579660560 tw2913015690741836343 tw8729841060990709029 tw16792569163723611196 tw15133798292044658870 tw3080382819528112017 tw15873701151343980116 tw11647650989617957729 tw13705674774484890431 tw8547745675749902382 tw9874419818505323276 tw12486898758667512531 tw608024446622721757 tw14435618915730717893 tw7501692957479353875 tw8934668133358542808 tw14280247467419479909 tw11300299864266620529 tw7153254291107311514 tw4186836884540343520 tw12300370080020230962 tw11907875154315185628 tw9051294216481393336 tw16704657986155010258 tw5669739828646641373 tw2969047701164012584 tw10831363889212044596 tw537045979446220742 tw3183983491229570899 tw13984473486118719805 tw12525961816683816522 tw14756876374065819962 tw17487016772282488351 tw10793366522856417455 tw2296393640184579231 tw4280354412752734522 tw1358559628813146436 tw432016562415408103 tw6365097940828194848 tw1827518409170197855 tw178111540941416687 tw17669463137962723787 tw12379339384075697247 tw1983516614194540489 tw10257681652631939339 tw2098083670458961512 tw18351701571563272011 tw1318997110673101061 tw3977349464026072241 tw10133365525975086665 tw1901025516769580641 tw3902770807822989016 tw341610412269433866 tw12748405607519130464 tw854694077463784089 tw11664903227026234530 tw11799555520707214826 tw11674274872115124975 tw5601473646366824177 tw10894081778479535369 tw5234823469949092880 tw1619951521661322855 tw3632179849292658083 tw18248602499354892457 tw9892786564808720023 tw5144360173910081528 tw2078035966675565666 tw16006491166462849058 tw3925005831053270521 tw18166054674354007567 tw66342194875510894 tw12204241758887269696 tw8602916945659764485 tw2763877640919494161 tw10827817835047707782 tw15556983702579430113 tw330842141272176622 tw6973986827884220880 tw5528248239533953811 tw17075726652958518013 tw7396592289950119582 tw13251725684153495193 tw8237104015055535210 tw11742171134924608288 tw11668864442150001668 tw11066203654711117458 tw17895579276042791316 tw1176997513155261628 tw12764468443999717391 tw10343021633947274843 tw17353751854464253227 tw12692626312797535542 tw4715174139423015242 tw5808815850057807905 tw6633180436100330538 tw16198919493316696672 tw158634146750339424 tw17447241755418585564 tw15617800994481069954 tw538796505542516429 tw14667086965644905688 tw7100764297672182286 tw10805689119212558457 tw15970624685784927392 tw16779059482983421510 tw7031158193711211725 tw18039676109572930049 tw14212389635532716702 tw2956764378384917558 tw7821586277005060005 tw4710783065759255840 tw14719782216130024021 tw9913187542518638329 tw5428154119349475366 tw16608100318385037079 tw10838233130223317840 tw229029649877561782 tw1215120168146445300 tw427458966625781511 tw11353895698443280590 tw8454967438226731790 tw18176592530353474484 tw11838853682544584401 tw4758373950962749924 tw13690876203067663316 tw8405127582058439130 tw15601980164996033159 tw15088151673252098417 tw9980992465486141586 tw16044769978728728626 tw672591180851365743 tw17796819613598626534 tw10545276190020624475 tw7888091758312651600 tw12371468736324790258 tw11396496393602074281 tw4857154394463053758 tw12309597718778561572 tw13306138818066345254 tw59741698747310529 tw6190614926237222142 tw4171525501369875508 tw17103215084558218723 tw10224569964987162355 tw7483717693330173846 tw2233406252152778711 tw15888922677805463550 tw7235964466790001376 tw10142376344021435283 tw8471681019497076281 tw12779801100298916351 tw18142808191989918576 tw13298343421394021405 tw10333355647843272765 tw14327162552291458613 tw10946444499002788477 tw13371080759065043783 tw3381590018385991815 tw12015131346007593169 tw667372799202359121 tw16832887124511265119 tw16975559241438368372 tw1413428144543220459 tw15772185155728188958 tw4780285314397530523 tw17974422262820571539 tw2850856512668190460 tw470016523970636816 tw6586124548573606812 tw8792547040400048229 tw12833394448793305223 tw708033607748363622 tw14353272593546828760 tw17919955038572773855 tw7343311768619765873 tw1681111917135011695 tw13221600375663489929 tw2391927345728173469 tw388936994460018777 tw1228092475161650166 tw14087341772782301588 tw7341889737643678213 tw16980972623464813751 tw15458947036996020126 tw12559086657374441888 tw10231016158317351542 tw17875822054061498095 tw7337872851097885274 tw9088171905127734366 tw7056657060419661151 tw3335358765781842030 tw5457685749589281401 tw2287948211316138195 tw17947975853878100314 tw15434966253723558941 tw14742334602930555456 tw16116613107817001689 tw6108129065373623685 tw3981703337606469616 tw9883571741614964245 tw12863575301957560954 tw2021102555937387078 tw6815392019479423427 tw11578673973367279310 tw15653139801523968591 tw8242128155914456022 tw16280332442666200115 tw17389477147738522249 tw14850928365961799396 tw1925645282052773672 tw8009844927060210610 tw9981769859887954786 tw16469472952971539079 tw4061340641992574182 tw6608908430906742608 tw10381615256860132971 tw14010203398313760340 tw8619295535910679682 tw9493487454301860239 tw3772726370156781674 tw13969573153658559183 tw13179806040329840448 tw17634942642163188003 tw8987117923320523082 tw2520478514409988562 tw11582516120735903389 tw11146456417388397954 tw16626713229971753897 tw856851233848076102 tw7344500474204432239 tw3037919172606302725 tw2487441360084118884 tw282301867366159460 tw6437131152724881443 tw16312803203889537645 tw8555345998537696176 tw11412802256366579357 tw10926272537127870608 tw262087699729835665 tw3093044443810252526 tw10065399008358856792 tw14822601232780793112 tw4245249124478989712 tw1157069714452906186 tw5727211631765459852 tw17752725911947971113 tw10873056672807056962 tw4293905723142310276 tw5604522566623890924 tw10611795333807787906 tw12947938150617000523 tw1537515172756495318 tw4529571714589637012 tw5389259294115014013 tw5001381878861168656 tw698828085803788643 tw12060235257950806219 tw10592942397194118786 tw16406766641609737394 tw1531391753951301984 tw8654934346923258111 tw7677022427470775261 tw1290475142739012078 tw17710907180312776024 tw16786967843196760372 tw11481138719480182209 tw13735915193668432446 tw3163415771495832480 tw12949713649121581060 tw8481563206960972385 tw6113313257316843046 tw4801148857868693125 tw8107138383989939334 tw17022493706946085795 tw16725316766009376503 tw2976662489596608719 tw6135989907967172086 tw7456285792281395581 tw3832851910609534577 tw8161915139115899592 tw18086486485721810629 tw18355987818829613940 tw1137216467093721169 tw9126610647264636845 tw8701638040801172955 tw7117023814428840357 tw8312737143385982820 tw7622195154605611904 tw6193038405298351505 tw6304310424951520357 tw5244228010703967562 tw5413423171008607053 tw6772620042219580672 tw6758263347013490636 tw10411218914311506391 tw2373178299849933739 tw11428064285695400926 tw1575782509932882302 tw430563003789297672 tw9788464954953974261 tw2163560409919174989 tw8407635387433108934 tw15543783077299274169 tw2554087088340969178 tw10235867000319873594 tw1732119962955846976 tw16491747534779295689 tw17463668483569772473 tw13397514545474930328 tw17808665599154607233 tw9447288649279774255 tw15019925169463827868 tw9455017735514628423 tw11531125968933249812 tw12280478422882775723 tw9250010598876337068 tw472553878174961159 tw12694914563067005177 tw12309472081476966969 tw16078097769262976208 tw6289396261992230445 tw15117390808802131044 tw12480686885796670710 tw16957683827949222276 tw14024455682046514404 tw13689938881845732313 tw11694365992264273886 tw13872528924641673524 tw15213121355714368233 tw11897676804534833527 tw7432605951362683579 tw8557090102170639353 tw1451289468039496865 tw18323720453468583653 tw12776450870905229678 tw1872055086594041898 tw6377567337406451109 tw14005036011589252641 tw2522995075809081241 tw2580819806200966965 tw12660646683530473541 tw16232188300377415113 tw5251242837923687746 tw1283058498462404769 tw10034176900700766686 tw9497387949394825293 tw579968412708938509 tw14579301074741974222 tw2424282752099931381 tw3469078473351023135 tw2657511140602595923 tw7738120939318083092 tw13633583098653070427 tw16538238671457847355 tw14471577675852812440 tw3662950625795410991 tw17663982491792054956 tw7497388072049747861 tw8602758823340656521 tw5521935154687837826 tw11418262477016093198 tw3340037671744848883 tw3418038991091682565 tw8866675256184974255 tw11795578181204716294 tw10538159534818848371 tw3431858200119448266 tw14525099027299077915 tw8833802768190135851 tw1262792688294002778 tw543034143284974213 tw5973635311642745929 tw16206734923141233878 tw13419752251764844880 tw15123063000660276063 tw12524428629351190519 tw5133020259338782487 tw8738094967514446494 tw14823270493549386373 tw728401176780419931 tw10321487686408922071 tw12509789375506069564 tw8364276600561769930 tw2700762242449132861 tw4224424569249384164 tw15343104006642508495 tw8904212089490956963 tw3198077050585250649 tw9212932931364244379 tw4430241178510407760 tw9376342209388475232 tw6523848038810612630 tw12215982456211766578 tw15364484366142039868 tw13012582085499665412 tw6753143996440918449 tw13858400136529746599 tw5814387348028395521 tw18288460115856437677 tw12950182071170378695 tw7504452778338812613 tw10645715404870187943 tw12285915716172343031 tw1546252809250345277 tw6909854236933285951 tw12841628419215750533 tw4672993120160455677 tw588269958887373852 tw7854225148035182622 tw6188127970800190475 tw10370053470071265385 tw2482343095752902540 tw7274869112745215055 tw3727696070631588461 tw3083737340304657720 tw6314513199082925947 tw3606462323804348749 tw6871161483847795094 tw15666108930937790769 tw144956287281372733 tw12976698953428188278 tw18076758411235376295 tw14632101407253941170 tw6014316157516468742 tw14484934276365297804 tw5664868968426177916 tw8651167072567410863 tw3282304650048140781 tw6503651728769365759 tw11710854813789053706 tw13404092610335994598 tw5371085588871940212 tw15303616712841896929 tw14444141878798475825 tw2548314232726097051 tw14963099005644225676 tw12597846597286844638 tw9251084423186593030 tw11366980618844351540 tw10708758144308801127 tw7928596847096346371 tw8655002829165752979 tw2565600201079537044 tw2878460679295282437 tw14801178122441120808 tw220899119995132350 tw1371722226811254383 tw8402374361103455210 tw6017199390869090112 tw6623121090417667166 tw17315112102356548658 tw11988705035211008621 tw4230813207818503563 tw1211837581343982051 tw10967112239358305697 tw12826778286772183054 tw13262778493622244894 tw3314505664999088740 tw14187584191482167802 tw15400664065017639410 tw18232438387114555049 tw15553941912194426235 tw1407014903492278612 tw12671800508584456026 tw7572338012430856192 tw4471018522705714806 tw4997519501096265497 tw17208060153112118301 tw16577812385210826088 tw15345760210294620097 tw8919093088119512978 tw15373942876614504635 tw16601362967636479333 tw3587213446586173542 tw6557483457712929606 tw296817597038432435 tw13826559591938116263 tw3275136973055149758 tw7560985898018999664 tw17570001344851749685 tw13535044051416487991 tw8915541907535524633 tw11953547954005120750 tw928732457925217624 tw5342820356016717495 tw17009944321095918767 tw7130637983460921252 tw15143912066844903232 tw14773061777960004973 tw13941426486391475716 tw5380395050967286681 tw13386609917757392268 tw12361997036906399729 tw17692014380998583535 tw16081492447429366815 tw16302772469909207959 tw1130985809862769792 tw15529937134594424761 tw9241259373493886564 tw3837946478575759287 tw9674673211188657399 tw8740846378326534591 tw9413450719123801025 tw7718274827729249580 tw14849592882909707067 tw16079619622525651042 tw6282149365903819900 tw14722050528664679193 tw14648100075817206937 tw13595675903006001915 tw17650706008630466757 tw437021083792063734 tw3914762150904654432 tw2720944531835100599 tw6059128398714389902 tw12872760784636414216 tw805105539605576606 tw12095563050198273433 tw2239947054210137515 tw17942273316725848429 tw16141242378442003815 tw1896793370931254797 tw15716685008491037218 tw15557876493443659816 tw16020903393803727026 tw5793808842345320703 tw9985228715079676526 tw4277803467597597218 tw6671993502181446515 tw9973220021097481082 tw17020041635020435061 tw5293060469749620577 tw5832247098145364836 tw15497990849385134931 tw10929765608485857299 tw11177514257419551316 tw2170287857222307643 tw9564776209502277521 tw4964403890246550747 tw7114551312012571164 tw10283333753039715226 tw11492154309269590373 tw13020829007971918831 tw735514065361188075 tw14103093974256966822 tw1011459521981586723 tw4027529815931075669 tw1260484627353952907 tw3257022687688712990 tw11537884197605695596 tw1021347866224608800 tw14801139850059324825 tw18348203431065261972 tw10264863684085235742 tw10417416659015456000 tw2595740923574341827 tw2890548346711421414 tw10295936776082172699 tw2639220897950463148 tw5077143217817598439 tw6510931050338357622 tw758288351806082447 tw12522553962275761415 tw16401747299343727463 tw7708591424860258745 tw6908814819859025744 tw15313437550968560089 tw17431621465952707168 tw14202382237570646160 tw5273407938257946922 tw4723483955014199001 tw10409996870460719093 tw1868187456625996006 tw16367654954697392075 tw5732533862943362681 tw4187027506786634468 tw2433377157416534010 tw5333997277519884163 tw2087130623210584211 tw16813578964046442975 tw1542516311164906902 tw17098764406901114649 tw211834314382195120 tw4353163686195504127 tw12557385711410839188 tw14166757884426929064 tw15879156404155156536 tw2633595895156296412 tw9567924688330859115 tw9946014292661106278 tw12415883893772487108 tw10069614796606028129 tw16192258355193408737 tw2413193714140082315 tw17664966153541397984 tw18237826945036865275 tw8641682702299691393 tw17699012411779783048 tw16975415751775000769 tw4308379967063464631 tw13938446110749935529 tw11945865216688423173 tw11573388663581333609 tw4336433366020466322 tw16205468628071962676 tw10349332090843582548 tw11135265813064295494 tw1707244659403095772 tw12894915774025075570 tw6189436683006067176 tw16000801628908484080 tw10663170007241712421 tw10415913337457245957 tw2501230179995473664 tw15649923346494852488 tw7527020970540102418 tw5326081923795644622 tw417912351686512271 tw1587632435534638562 tw1949359664494553635 tw2004434735281752864 tw13759877984049201230 tw11136143403126207764 tw3763174156873151371 tw12406158642385459840 tw2675201524621170576 tw6967536985763362443 tw10702374855795486244 tw2245290032538082999 tw8013643740597891491 tw4714496075265556197 tw584101270010820935 tw10892692778327865241 tw4301274379832461500 tw17924053905416341540 tw6819476421359556845 tw10300530362582634132 tw4727525217310394075 tw2122505891315866323 tw1206948982139294951 tw3145120491193550768 tw13837257096243648480 tw10498135894023294282 tw1552305410076911696 tw17714491195947515188 tw12919956329163672066:True)
open PySem PySem.W PyProof.Rows
set_option maxRecDepth 100000 in
set_option maxHeartbeats 0 in
theorem PySem.Challenge.cw_lotledger_k84_reports_holds : PySem.Challenge.rw_lotledger_k84_reports.Holds := by
 w_on;o_law;k_head;(case hw=>w_witness2)
 k_fill
 refine My.walk (l:=PySem.Challenge.rw_lotledger_k84_reports) rfl rfl (λw h Y=>PySem.W.kIn_of Y) ?F
 case F=>
  intro w mg fa h KX G hmg;refine' My.all_mk KX G hmg ?gp ?gO ?hX ?gM ?fX ?eQ ?gK ?gP ?gD ?cO ?gY ?il ?gQ ?fG ?fF ?eO ?gS ?a0 ?a1 ?a2 ?a3 ?a4 ?a5 ?a6 ?a7 ?a8 ?a9 ?a10 ?a11 ?a12 ?a13 ?a14 ?a15 ?l15 ?d15 ?k15 ?ig ?a16 ?a17 ?l17 ?d17 ?k17 ?ij ?a18 ?a19 ?a20 ?a21 ?l21 ?d21 ?k21 ?ik ?a22 ?a23 ?a24 ?a25 ?a26 ?a27 ?a28 ?a29 ?a30 ?a31 ?a32 ?a33 ?a34 ?a35 ?a36 ?a37 ?a38 ?a39 ?a40 ?a41 ?a42 ?a43 ?a44 ?a45 ?a46 ?a47 ?a48 ?a49 ?a50 ?a51 ?a52 ?a53 ?a54 ?a55 ?a56 ?a57 ?a58 ?a59 ?a60 ?a61 ?a62 ?a63 ?a64 ?a65 ?a66 ?a67 ?a68 ?a69 ?a70 ?a71 ?a72 ?a73 ?a74 ?a75 ?a76 ?a77 ?a78 ?a79 ?a80 ?a81 ?a82 ?a83 ?a84 ?a85 ?a86 ?a87 ?a88 ?a89 ?a90 ?a91 ?a92 ?a93 ?a94 ?a95 ?a96 ?a97 ?a98 ?a99 ?gZ ?gT ?hV ?gR ?gW ?gA ?dg ?cR ?gN ?gX ?gU ?gH ?ib ?fL ?g9 ?hJ ?dC ?bX ?dL ?ce ?cf ?cE ?dQ ?bC ?cQ ?cL ?eE ?eG ?fm ?e8 ?fg ?fc ?fY ?gB ?d8 ?b7 ?dk ?cq ?cB ?fT ?fS ?fV ?fQ ?gE ?gJ ?eV ?cC ?dZ ?cM ?df ?eM ?dS ?fe ?eY ?eX ?fj ?gi ?gj ?du ?b4 ?cW ?cr ?cX ?cG ?d4 ?dN ?d5 ?dU ?fu ?fw ?cU ?bP ?cI ?cH ?d6 ?cy ?cx ?cu ?cv ?dB ?dr ?cj ?bE ?bU ?bJ ?bI ?bK ?fh ?eW ?eZ ?fb ?fW ?gu ?dM ?b6 ?cZ ?ci ?cD ?dF ?cN ?bG ?gl ?gz ?gq ?gr ?cn ?dX ?de ?bL ?cF ?bS ?gf ?gy ?gg ?gm ?dW ?cY ?bu ?dj ?bQ ?ba ?aQ ?b9 ?b5 ?b8 ?bZ ?bz ?bh ?al ?bo ?aM ?ak ?ad ?bn ?aD ?gF ?gG ?gI ?gL ?cA ?cV ?cP ?dI ?ge ?gk ?fZ ?gC ?eB ?eI ?el ?eF ?eL ?eo ?eJ ?eC ?dE ?dD ?dY ?dO ?fA ?fN ?fH ?gb ?gw ?gn ?fD ?fP ?fz ?eD ?eT ?eS ?dn ?dh ?cT ?fE ?fC ?fM ?fB ?ft ?fK ?gt ?gd ?gx ?fx ?fq ?fy ?bW ?bR ?bT ?dR ?dA ?dG ?dJ ?dP ?d7 ?di ?cS ?dm ?fr ?fo ?fO ?cm ?bD ?aY ?aE ?aS ?ay ?bx ?aR ?bq ?ax ?ao ?aj ?bO ?aW ?bH ?aB ?cg ?aZ ?aN ?aa ?aO ?aL ?bj ?aG ?bF ?be ?bV ?aq ?af ?aT ?az ?aJ ?av ?aK ?au ?aC ?ar ?aw ?am ?ah ?ac ?ag ?ae ?aP ?aF ?aI ?aH ?aA ?ai ?bY ?bi ?bM ?bN ?bA ?ck ?aV ?aX ?aU ?bc ?bb ?bv ?fJ ?eU ?eP ?eN ?dH ?cJ
  (case gp|gO|hX|gM|fX|eQ|gK|gP|gD|cO|gY|il|gQ|fG|fF|eO|gS=>k_is)
  (case a0|a1|a2|a3|a4|a5|a6|a7|a8|a9|a10|a11|a12|a13|a14=>constructor;rfl;refine⟨?_,?_,?_,?_⟩<;>k_is)
  (case a15|l15|d15|k15|ig=>k_is)
  (case a16=>constructor;rfl;refine⟨?_,?_,?_,?_⟩<;>k_is)
  (case a17|l17|d17|k17|ij=>k_is)
  (case a18|a19|a20=>constructor;rfl;refine⟨?_,?_,?_,?_⟩<;>k_is)
  (case a21|l21|d21|k21|ik=>k_is)
  (case a22|a23|a24|a25|a26|a27|a28|a29|a30|a31|a32|a33|a34|a35|a36|a37|a38|a39|a40|a41|a42|a43|a44|a45|a46|a47|a48|a49|a50|a51|a52|a53|a54|a55|a56|a57|a58|a59|a60|a61|a62|a63|a64|a65|a66|a67|a68|a69|a70|a71|a72|a73|a74|a75|a76|a77|a78|a79|a80|a81|a82|a83|a84|a85|a86|a87|a88|a89|a90|a91|a92|a93|a94|a95|a96|a97|a98=>constructor;rfl;refine⟨?_,?_,?_,?_⟩<;>k_is)
  (case a99=>refine⟨?_,?_,?_,?_⟩<;>k_is)
  (case gZ|gT|hV|gR|gW|gA|dg|cR|gN|gX|gU|gH|ib|fL|g9|hJ|dC|bX|dL|ce|cf|cE|dQ|bC|cQ|cL|eE|eG|fm|e8|fg|fc|fY|gB|d8|b7|dk|cq|cB|fT|fS|fV|fQ|gE|gJ|eV|cC|dZ|cM|df|eM|dS|fe|eY|eX|fj|gi|gj|du|b4|cW|cr|cX|cG|d4|dN|d5|dU|fu|fw|cU|bP|cI|cH|d6|cy|cx|cu|cv|dB|dr|cj|bE|bU|bJ|bI|bK|fh|eW|eZ|fb|fW|gu|dM|b6|cZ|ci|cD|dF|cN|bG|gl|gz|gq|gr|cn|dX|de|bL|cF|bS|gf|gy|gg|gm|dW|cY|bu|dj|bQ|ba|aQ|b9|b5|b8|bZ|bz|bh|al|bo|aM|ak|ad|bn|aD|gF|gG|gI|gL|cA|cV|cP|dI|ge|gk|fZ|gC|eB|eI|el|eF|eL|eo|eJ|eC|dE|dD|dY|dO|fA|fN|fH|gb|gw|gn|fD|fP|fz|eD|eT|eS|dn|dh|cT|fE|fC|fM|fB|ft|fK|gt|gd|gx|fx|fq|fy|bW|bR|bT|dR|dA|dG|dJ|dP|d7|di|cS|dm|fr|fo|fO|cm|bD|aY|aE|aS|ay|bx|aR|bq|ax|ao|aj|bO|aW|bH|aB|cg|aZ|aN|aa|aO|aL|bj|aG|bF|be|bV|aq|af|aT|az|aJ|av|aK|au|aC|ar|aw|am|ah|ac|ag|ae|aP|aF|aI|aH|aA|ai|bY|bi|bM|bN|bA|ck|aV|aX|aU|bc|bb|bv=>k_is)
  (case fJ|eU|eP|eN|dH|cJ=>refine⟨?_,?_,?_,?_,?_⟩<;>kit_is)
