import PyProof.Rows.All
import Wide.All
import OpenK.AllK
import Wide.FinOn
import Lean
import PyProof.EqAt
import PyProof.EqKinds
import PyProof.TupleCall
import PyProof.P3Eq
import PyProof.NeKinds
import PyProof.NsDelKeeps
import PyProof.RulesAs
import PyProof.ExcAttrAll.ValueError
import KE.KSortKey
import PyProof.DictUpdate
import KE.KDictLaws
import PySem.Challenge.RW_looprank_k32_nests_walked
set_option Elab.async false
set_option linter.all false
set_option maxRecDepth 100000
def bIh:=@PySem.wpAny_bind
def bIi:=@PySem.Heap.get?_push_of_some
def bIj:=@List.getElem?_eq_getElem
def bIk:=@List.getElem?_eq_some_iff
def bIl:=@List.mem_cons_of_mem
def bIm:=@List.mem_cons_self
def bIn:=@Nat.le_refl
def bIo:=@List.mem_append_right
def bIp:=@List.getElem?_set
def bIq:=@List.mem_cons
def bIr:=@decide_eq_true
def bIs:=@decide_eq_false
def bIt:=@if_neg
def bIu:=@List.mem_singleton
def bIv:=@if_pos
def bIw:=@List.mem_append_left
def bIx:=@PySem.wpAny_pure
def bIy:=@PySem.Heap.get?_push_size
def bIz:=@PyProof.Rows.wpS_pure
def bJ0:=@PyProof.Rows.wpS_bind
def bJ1:=@Nat.lt_of_lt_of_le
def bJ2:=@PySem.Heap.lt_size
def bJ3:=@Option.some.inj
def bJ4:=@Array.length_toList
def bJ5:=@List.map_cons
def bJ6:=@List.size_toArray
def bJ7:=@List.length_cons
def bJ8:=@List.length_append
def bJ9:=@List.length_map
def bJa:=@List.mem_filter
def bJb:=@List.mem_append
def bJc:=@PySem.PassesOwn.never
def bJd:=@List.mem_of_getElem?
def bJe:=@List.mem_map
def bJf:=@decide_eq_true_eq
def bJg:=@List.getElem?_append_left
def bJh:=@Classical.byContradiction
def bJi:=@of_decide_eq_true
def bJj:=@Nat.le_trans
def bJk:=@List.mem_iff_getElem?
def bJl:=@Array.getElem?_toList
def bJm:=@Nat.ne_of_lt
def bJn:=@Bool.false_ne_true
def bJo:=@PySem.mem_of_lookup
def bJp:=@List.mem_range
def bJq:=@List.getD_eq_getElem?_getD
def bJr:=@List.getElem_mem
def bJs:=@List.map_append
def bJt:=@PySem.Heap.size_push
def bJu:=@List.getElem?_append_right
def bJv:=@Nat.lt_irrefl
def bJw:=@List.length_eq_zero_iff
def bJx:=@List.length_singleton
def bJy:=@List.length_set
def bJz:=@PyProof.Rows.wpS_forRange
def bK0:=@beq_eq_false_iff_ne
def bK1:=@List.map_map
def bK2:=@List.nodup_cons
def bK3:=@List.getElem?_map
def bK4:=@List.filter_cons_of_pos
def bK5:=@List.Nodup.length_le_of_subset
def bK6:=@Nat.zero_le
def bK7:=@PySem.wpAny_holding
def bK8:=@List.map_congr_left
def bK9:=@List.lookup_cons
def bKa:=@List.append_assoc
def bKb:=@PyProof.Rows.callWith_type1
def bKc:=@List.filter_cons_of_neg
def bKd:=@List.drop_eq_getElem_cons
def bKe:=@PyProof.Rows.wpS_modify
def bKf:=@PySem.wpAny_mono
def bKg:=@PySem.wpAny_truthy_bool
def bKh:=@List.nodup_append
def bKi:=@List.append_nil
def bKj:=@Nat.eq_of_testBit_eq
def bKk:=@PySem.sizeLine_eq
def bKl:=@Int.le_refl
def bKm:=@decide_eq_decide
def bKn:=@PySem.W.mg_none_of
def bKo:=@List.getElem?_cons_succ
def bKp:=@PySem.wpAny_setField_rec
def bKq:=@PyProof.Rows.wpS_mono
def bKr:=@PySem.wpAny_seqItems
def bKs:=@List.pairwise_iff_getElem
def bKt:=@List.take_succ_eq_append_getElem
def bKu:=@List.mem_iff_getElem
def bKv:=@List.pairwise_append
def bKw:=@PySem.wpAny_passesOwn
def bKx:=@Option.isSome_iff_exists
def bKy:=@PySem.wpAny_rule
def bKz:=@Int.toNat_natCast
def bL0:=@List.length_pos_iff
def bL1:=@PySem.wpAny_getItem_str_slice
def bL2:=@PySem.F.plainAttrs_list
def bL3:=@Nat.lt_succ_self
def bL4:=@PySem.F.plain_max_loop
def bL5:=@Ne.symm
def bL6:=@PySem.Heap.get?_update_other
def bL7:=@List.filter_eq_nil_iff
def bL8:=@PySem.wpAny_Call_Name_kw
def bL9:=@PySem.tupleKind_room_in1
def bLa:=@List.cons_lt_cons_iff
def bLb:=@Bool.and_eq_true
def bLc:=@List.eq_nil_or_concat
def bLd:=@List.concat_eq_append
def bLe:=@PySem.F.slot_zip_next
def bLf:=@getElem?_pos
def bLg:=@PySem.wpAny_standAt
def bLh:=@PySem.wpAny_pyIter_list
def bLi:=@List.take_of_length_le
def bLj:=@Nat.pow_le_pow_right
def bLk:=@List.all_eq_true
def bLl:=@List.length_filter_le
def bLm:=@PyProof.Rows.reverseSlice'_eq
def bLn:=@List.filterMap_cons
def bLo:=@Int.toNat_of_nonneg
def bLp:=@List.filter_eq_self
def bLq:=@PySem.wpAny_field
def bLr:=@PySem.wpAny_letGo
def bLs:=@beq_iff_eq
def bLt:=@Array.size_setIfInBounds
def bLu:=@List.zip_cons_cons
def bLv:=@List.findIdx?_eq_some_iff_getElem
def bLw:=@List.getLast?_cons_cons
def bLx:=@decide_eq_false_iff_not
def bLy:=@Nat.add_sub_cancel_left
def bLz:=@Array.toList_append
def bM0:=@PySem.Calls.callWith_builtin
def bM1:=@PySem.F.slot_list_append
def bM2:=@List.find?_cons_of_pos
def bM3:=@List.find?_cons_of_neg
def bM4:=@List.any_eq_false
def bM5:=@List.foldl_cons
def bM6:=@List.cons_append
def bM7:=@Int.emod_lt_of_pos
def bM8:=@Nat.le_of_lt
def bM9:=@PySem.Heap.get?_update_self
def bMa:=@PySem.F.slot_list_clear
def bMb:=@PySem.F.slot_dict_get
def bMc:=@Nat.zero_testBit
def bMd:=@PySem.exec_Assign_Name_used
def bMe:=@List.take_append_drop
def bMf:=@List.pairwise_reverse
def bMg:=@PySem.AutoSeq1.list_clear_list_0
def bMh:=@List.any_eq_true
def bMi:=@List.mem_reverse
def bMj:=@PySem.wpAny_updateSeq_pair
def bMk:=@List.any_cons
def bMl:=@List.nil_append
def bMm:=@PySem.wpAny_execs_nil
def bMn:=@PySem.W.plainGet_of
def bMo:=@List.length_nil
def bMp:=@Int.emod_nonneg
def bMq:=@PySem.post_val_or_str
def bMr:=@PyProof.Rows.wpS_get
def bMs:=@PySem.Heap.get?_update_ne
def bMt:=@PySem.Calls.Name_function_global
def bMu:=@Int.fdiv_eq_ediv_of_nonneg
def bMv:=@Array.perm_iff_toList_perm
def bMw:=@Int.natCast_nonneg
def bMx:=@PySem.codeAny_mono
def bMy:=@PySem.W.callWith_K
def bMz:=@List.map_singleton
def bN0:=@Nat.le_add_right
def bN1:=@List.filter_append
def bN2:=@List.length_range
def bN3:=@Nat.zero_add
def bN4:=@Nat.add_sub_cancel
def bN5:=@List.getElem?_drop
def bN6:=@List.getElem?_take
def bN7:=@PySem.F.slot_dict_getitem
def bN8:=@List.exists_mem_of_ne_nil
def bN9:=@List.getLast?_eq_getElem?
def bNa:=@Array.toList_reverse
def bNb:=@PySem.call_meets
def bNc:=@Option.isSome_map
def bNd:=@Nat.lt_trichotomy
def bNe:=@Nat.le_of_succ_le
def bNf:=@List.reverse_perm
def bNg:=@PySem.F.args_list_append_2
def bNh:=@PySem.F.args_dict_get_2
def bNi:=@PySem.F.plainAttrs_dict
def bNj:=@PySem.wpAny_onRaise
def bNk:=@PySem.wpAny_attempt
def bNl:=@PySem.F.slot_list_index
def bNm:=@PySem.F.slot_dict_items
def bNn:=@PyProof.Rows.wpS_lift
def bNo:=@Nat.exists_eq_add_of_le
def bNp:=@PyProof.Rows.listUpdate_at
def bNq:=@PySem.plainId_quiet
def bNr:=@List.getElem_map
def bNs:=@List.drop_length
def bNt:=@List.take_length
def bNu:=@List.getElem?_set_self
def bNv:=@PySem.W.cellsFrom_some
def bNw:=@PySem.F.entry_dict_get
def bNx:=@Nat.testBit_lt_two_pow
def bNy:=@List.range_succ_eq_map
def bNz:=@Nat.lt_of_succ_lt_succ
def bO0:=@PySem.F.entry_zip_next
def bO1:=@List.drop_of_length_le
def bO2:=@List.of_mem_zip
def bO3:=@PySem.wpAny_specialOf
def bO4:=@Classical.choose_spec
def bO5:=@Int.le_trans
def bO6:=@List.any_map
def bO7:=@List.pairwise_map
def bO8:=@Nat.not_lt_zero
def bO9:=@Bool.eq_iff_iff
def bOa:=@List.getElem?_eq_none
def bOb:=@List.getElem?_toArray
def bOc:=@List.dropLast_eq_take
def bOd:=@PySem.wpAny_updateSeq
def bOe:=@Nat.testBit_or
def bOf:=@List.getElem?_set_ne
def bOg:=@List.getElem_toArray
def bOh:=@List.mem_of_mem_drop
def bOi:=@List.mem_of_mem_take
def bOj:=@Nat.mul_le_mul
def bOk:=@Nat.or_comm
def bOl:=@Nat.lt_or_ge
def bOm:=@List.all_cons
def bOn:=@Nat.ne_of_gt
def bOo:=@List.map_nil
def bOp:=@Nat.lt_trans
def bOq:=@Int.zero_add
def bOr:=@Nat.sub_self
namespace L2
open PySem PySem.Spec PyProof.Rows
abbrev Key:=Sum Int Str
def aFr:Key->Value->Bool
 |.inl k,v=>Value.isInt k v
 |.inr x,v=>Value.isStrOf x v
def bHm(w:World):Key->Int
 |.inl k=>hashInt k
 |.inr x=>hashStr w x
def eX:∀{k:Key}{v:Value},aFr k v=true->(∃i t,k=Sum.inl i/\v=Value.int i t)\/(∃x t,k=Sum.inr x/\v=Value.str x t)
 |.inl i,v,h=>by
  obtain⟨t,e⟩:=Value.isInt_shape (k:=i) (v:=v) h;exact .inl ⟨i,t,rfl,e⟩
 |.inr x,v,h=>by
  obtain⟨t,e⟩:=Value.isStrOf_shape (x:=x) (v:=v) h;exact .inr ⟨x,t,rfl,e⟩
def aS5(i:Int)(t:Tok):aFr (.inl i) (.int i t)=true:=by simp[aFr,Value.isInt]
def aS6(x:Str)(t:Tok):aFr (.inr x) (.str x t)=true:=by simp[aFr,Value.isStrOf]
def aTu(a b:Int):decide ((Sum.inl a:Key)=Sum.inl b)=(a==b):=by
 by_cases e:a=b
 .subst e;simp
 .have h:¬ (Sum.inl a:Key)=Sum.inl b:=λq=>e (Sum.inl.inj q)
  rw[bIs h];exact(bK0.mpr e).symm
def aTv(a b:Str):decide ((Sum.inr a:Key)=Sum.inr b)=decide (a=b):=by
 by_cases e:a=b
 .subst e;simp
 .have h:¬ (Sum.inr a:Key)=Sum.inr b:=λq=>e (Sum.inr.inj q)
  rw[bIs h,bIs e]
def aTw(a:Int)(b:Str):decide ((Sum.inl a:Key)=Sum.inr b)=false:=bIs (λq=>nomatch q)
def aTx(a:Str)(b:Int):decide ((Sum.inr a:Key)=Sum.inl b)=false:=bIs (λq=>nomatch q)
def dD(prog:Program)(w:World):PySem.KeyKind prog w Key where
 is:=aFr
 hash:=bHm w
 inj:=λv a b ha hb=>by
  rcases eX ha with ⟨i,t,rfl,rfl⟩|⟨x,t,rfl,rfl⟩
  .rcases eX hb with ⟨j,u,rfl,e⟩|⟨y,u,rfl,e⟩
   .injection e with e1 _;rw[e1]
   .exact nomatch e
  .rcases eX hb with ⟨j,u,rfl,e⟩|⟨y,u,rfl,e⟩
   .exact nomatch e
   .injection e with e1 _;rw[e1]
 byValue:=λk v h=>by
  rcases eX h with ⟨i,t,rfl,rfl⟩|⟨x,t,rfl,rfl⟩ <;> rfl
 pyHash:=λhv h=>by
  rcases eX hv with ⟨i,t,rfl,rfl⟩|⟨x,t,rfl,rfl⟩
  .exact wpAny_pyHash_int h
  .exact wpAny_pyHash_str h
 eqBool:=λhu hv h=>by
  rcases eX hu with ⟨i,t,rfl,rfl⟩|⟨x,t,rfl,rfl⟩
  .rcases eX hv with ⟨j,u,rfl,rfl⟩|⟨y,u,rfl,rfl⟩
   .rw[aTu]at h;exact wpAny_eqBool_int h
   .rw[aTw]at h;exact SeqAt.EqAt.int_str i t y u _ _ _ _ h
  .rcases eX hv with ⟨j,u,rfl,rfl⟩|⟨y,u,rfl,rfl⟩
   .rw[aTx]at h;exact SeqAt.EqAt.str_int x t j u _ _ _ _ h
   .rw[aTv]at h;exact wpAny_eqBool_str h
 «strs» := λk x t v h=>by
  rcases eX h with ⟨i,u,rfl,e⟩|⟨y,u,rfl,e⟩
  .exact nomatch e
  .injection e with e1 _
   subst e1;cases v<;>rfl
def aL9(prog:Program)(w:World)(i:Int)(t:Tok):(dD prog w).is (.inl i) (.int i t)=true:=aS5 i t
def aLa(prog:Program)(w:World)(x:Str)(t:Tok):(dD prog w).is (.inr x) (.str x t)=true:=aS6 x t
end L2
namespace L2
open PySem PySem.Spec PyProof.Rows
inductive V where
 |non|bl (b:Bool)|int (i:Int)|str (x:Str)|byt (b:Array UInt8)|flt (b:UInt64)|ref (a:Addr)|ty (n:String)
 deriving DecidableEq
def RelV:V->Value->Prop
 |.non,u=>u=Value.none
 |.bl b,u=>u=Value.bool b
 |.int i,u=>∃t,u=Value.int i t
 |.str x,u=>∃t,u=Value.str x t
 |.byt b,u=>∃t,u=Value.bytes b t
 |.flt b,u=>∃t,u=Value.float b t
 |.ref a,u=>u=Value.ref a
 |.ty n,u=>u=Value.type n
abbrev Vals:List V->List Value->Prop:=Paired RelV
theorem Vals.length{xs:List V}{us:List Value}(r:Vals xs us):xs.length=us.length:=Paired.length r
theorem Vals.get:∀{xs:List V}{us:List Value}{i:Nat}{x:V},Vals xs us->xs[i]?=some x->∃u,us[i]?=some u/\RelV x u
 |_,_,_,_,.nil,e=>by simp at e
 |_,_,0,_,.cons r _,e=>by simp at e;subst e;exact⟨_,rfl,r⟩
 |_,_,i+1,x,.cons _ t,e=>by
  obtain⟨u,h1,h2⟩:=Vals.get (i:=i) (x:=x) t (by simpa using e)
  exact⟨u,by simpa using h1,h2⟩
theorem Vals.set{x:V}{u:Value}(r:RelV x u):∀{xs:List V}{us:List Value}(i:Nat),Vals xs us->Vals (xs.set i x) (us.set i u)
 |_,_,_,.nil=>.nil
 |_,_,0,.cons _ t=>.cons r t
 |_,_,i+1,.cons q t=>.cons q (Vals.set r i t)
theorem Vals.append:∀{xs ys:List V}{us ws:List Value},Vals xs us->Vals ys ws->Vals (xs++ys) (us++ws)
 |_,_,_,_,.nil,s=>s
 |_,_,_,_,.cons r t,s=>.cons r (Vals.append t s)
theorem Vals.take:∀{xs:List V}{us:List Value}(n:Nat),Vals xs us->Vals (xs.take n) (us.take n)
 |_,_,0,_=>.nil
 |_,_,_+1,.nil=>.nil
 |_,_,n+1,.cons r t=>.cons r (Vals.take n t)
theorem Vals.drop:∀{xs:List V}{us:List Value}(n:Nat),Vals xs us->Vals (xs.drop n) (us.drop n)
 |_,_,0,r=>r
 |_,_,_+1,.nil=>.nil
 |_,_,n+1,.cons _ t=>Vals.drop n t
def vH:Option V->Option Value->Prop
 |some v,some u=>RelV v u
 |none,none=>True
 |_,_=>False
def KV{κ:Type}:List (κ×V)->List (κ×Value)->Prop:=Paired λ(p:κ×V)(q:κ×Value)=>p.1=q.1/\RelV p.2 q.2
def kV:Key->V
 |.inl i=>.int i
 |.inr x=>.str x
inductive HO where
 |lst (xs:List V)
 |tup (xs:List V)
 |dK (kvs:List (Key×V))|dT (kvs:List (List Key×V))
 |set (S:Int->Bool) (n:Nat)
 |ins (C dx:Addr) (fs:List (Str×V))
 |own (x:Addr)
 |xd (fs:List (Str×V))
 |met (f x:Addr)
 |rng (lo hi:Int)
 |frz (o:Obj) (u:HO)
 |tbl (ps:Array Value)
 |ext (φ:Heap->Prop)
abbrev Hp:=Addr->Option HO
def upd(H:Hp)(a:Addr)(o:HO):Hp:=λb=>if b=a then some o else H b
def bJ{H:Hp}{a:Addr}{o:HO}:upd H a o a=some o:=by unfold upd;rw[bIv rfl]
def aY{H:Hp}{a b:Addr}{o:HO}(h:b≠a):upd H a o b=H b:=by unfold upd;rw[bIt h]
def aYa{H:Hp}{a:Addr}{o u:HO}:upd (upd H a o) a u=upd H a u:=by
 funext b;unfold upd;split<;>rfl
def bF2{H:Hp}{a b:Addr}{o u:HO}(h:H a=some o)(h':H b=some u)(d:o≠u):a≠b:=by
 intro e;subst e;rw[h]at h';exact d (bJ3 h')
def aX{H:Hp}{a b:Addr}{o:HO}(h:H a=some o)(h':H b=none):a≠b:=by
 intro e;subst e;rw[h]at h';cases h'
section
variable(P:Program)(w:World)
def iU(H:Hp)(h:Heap)(a:Addr):HO->Prop
 |.lst xs=>xs.length<=sizeLine/\∃(its:List Value)(n:Nat),Vals xs its/\h.get? a=some {cls:=.type "list",data:=.seq its.toArray n}
 |.tup xs=>xs.length<=sizeLine/\∃its:List Value,Vals xs its/\IsTup h a its.toArray
 |.dK kvs=>kvs.length<=sizeLine/\(a==sysModules)=false/\∃vs,KV kvs vs/\h.DictOf (dD P w) a vs
 |.dT kvs=>kvs.length<=sizeLine/\(a==sysModules)=false/\∃xs:List (List Key×Addr×Value),
   Paired (λ(p:List Key×V)(q:List Key×Addr×Value)=>p.1=q.1/\H q.2.1=some (.tup (p.1.map kV))/\RelV p.2 q.2.2) kvs xs/\
   ∃o es ep,h.get? a=some o/\o.ExactDict/\o.data=.dict es ep/\es.toList=xs.map (entryOfKey (tupleKind (dD P w)))/\(xs.map (·.1)).Nodup
 |.set S n=>h.SetOf (intKind P w) a S n
 |.ins C dx fs=>H dx=some (.own a)/\fs.length<=1000/\dx≠a/\h.get? a=some (PySem.W.instObj C dx)/\
   ∃mA,h.Ns1 dx mA/\(∀f,vH (fs.lookup f) (mA f))/\PySem.Within mA (fs.map (·.1))
 |.own _=>∃o,h.get? a=some o
 |.xd fs=>∃mA,h.Ns1 a mA/\∀f,vH (fs.lookup f) (mA f)
 |.rng lo hi=>∃t u v,h.get? a=some {cls:=.type "range",data:=.fields #[.int lo t,.int hi u,.int 1 v]}
 |.frz o u=>h.get? a=some o/\iU H h a u
 |.tbl ps=>h.get? a=some {cls:=.none,data:=.fields ps}
 |.met f x=>h.get? a=some (PySem.W.methodObj (.ref f) (.ref x))
 |.ext φ=>φ h/\(∃o,h.get? a=some o)/\∀h1 h2:Heap,φ h1->(∀o,h1.get? a=some o->h2.get? a=some o)->φ h2
def HOk(H:Hp)(h:Heap):Prop:=∀a o,H a=some o->iU P w H h a o
end
section
variable{P:Program}{w:World}{H H':Hp}{h h':Heap}{a:Addr}{o:HO}
theorem iU.lt(x:iU P w H h a o):a<h.objs.size:=by
 cases o with
 |lst xs=>obtain⟨_,_,_,_,e⟩:=x;exact bJ2 e
 |tup xs=>obtain⟨_,_,_,p⟩:=x;exact p.lt
 |dK kvs=>obtain⟨_,_,_,_,o,_,_,e,_⟩:=x;exact bJ2 e
 |dT kvs=>obtain⟨_,_,_,_,o,_,_,e,_⟩:=x;exact bJ2 e
 |set S n=>obtain⟨o,_,_,_,e,_⟩:=x;exact bJ2 e
 |ins C dx fs=>obtain⟨_,_,_,e,_⟩:=x;exact bJ2 e
 |own y=>obtain⟨_,e⟩:=x;exact bJ2 e
 |xd fs=>obtain⟨_,⟨_,_,_,e,_⟩,_⟩:=x;exact bJ2 e
 |rng lo hi=>obtain⟨_,_,_,e⟩:=x;exact bJ2 e
 |frz ob u=>obtain⟨e,_⟩:=x;exact bJ2 e
 |tbl ps=>exact bJ2 (show h.get? a=some _ from x)
 |met f y=>exact bJ2 (show h.get? a=some _ from x)
 |ext φ=>obtain⟨_,⟨_,e⟩,_⟩:=x;exact bJ2 e
theorem Paired.mapP{α β:Type}{F G:α->β->Prop}:∀{l₁:List α}{l₂:List β},Paired F l₁ l₂->(∀a b,F a b->G a b)->Paired G l₁ l₂
 |_,_,.nil,_=>.nil
 |_,_,.cons r t,f=>.cons (f _ _ r) (Paired.mapP t f)
def iU.stay(x:iU P w H h a o)(k:∀b u,(b=a\/H b=some (.own a))->h.get? b=some u->h'.get? b=some u)
  (ho:∀b,H b=some (.own a)->H' b=some (.own a)) (ht:∀b xs,H b=some (.tup xs)->H' b=some (.tup xs)):iU P w H' h' a o:=by
 induction o with
 |lst xs=>obtain⟨z,its,n,r,e⟩:=x;exact⟨z,its,n,r,k _ _ (.inl rfl) e⟩
 |tup xs=>obtain⟨z,its,r,ob,e,c⟩:=x;exact⟨z,its,r,ob,k _ _ (.inl rfl) e,c⟩
 |dK kvs=>obtain⟨z,y,vs,r,ob,es,ep,e,c⟩:=x;exact⟨z,y,vs,r,ob,es,ep,k _ _ (.inl rfl) e,c⟩
 |dT kvs=>
  obtain⟨z,y,xs,r,ob,es,ep,e,c⟩:=x;exact⟨z,y,xs,Paired.mapP r λp q z=>⟨z.1,ht _ _ z.2.1,z.2.2⟩,ob,es,ep,k _ _ (.inl rfl) e,c⟩
 |set S n=>obtain⟨ob,es,ep,t,e,c⟩:=x;exact⟨ob,es,ep,t,k _ _ (.inl rfl) e,c⟩
 |ins C dx fs=>
  obtain⟨d,z,ne,e,mA,⟨od,es,ep,e2,c⟩,r⟩:=x;exact⟨ho _ d,z,ne,k _ _ (.inl rfl) e,mA,⟨od,es,ep,k _ _ (.inr d) e2,c⟩,r⟩
 |own y=>obtain⟨ob,e⟩:=x;exact⟨ob,k _ _ (.inl rfl) e⟩
 |xd fs=>obtain⟨mA,⟨od,es,ep,e,c⟩,r⟩:=x;exact⟨mA,⟨od,es,ep,k _ _ (.inl rfl) e,c⟩,r⟩
 |rng lo hi=>obtain⟨t,u,v,e⟩:=x;exact⟨t,u,v,k _ _ (.inl rfl) e⟩
 |frz ob u ih=>obtain⟨e,q⟩:=x;exact⟨k _ _ (.inl rfl) e,ih q⟩
 |tbl ps=>
  have e:h.get? a=some {cls:=.none,data:=.fields ps}:=x;show h'.get? a=some {cls:=.none,data:=.fields ps};exact k a _ (.inl rfl) e
 |met f y=>
  have e:h.get? a=some (PySem.W.methodObj (.ref f) (.ref y)):=x;show h'.get? a=some (PySem.W.methodObj (.ref f) (.ref y));exact k a _ (.inl rfl) e
 |ext φ=>obtain⟨p,⟨o,e⟩,st⟩:=x;exact⟨st _ _ p λo q=>k _ _ (.inl rfl) q,⟨o,k _ _ (.inl rfl) e⟩,st⟩
theorem HOk.lt(x:HOk P w H h)(e:H a=some o):a<h.objs.size:=(x a o e).lt
def HOk.fresh(x:HOk P w H h)(e:h.objs.size<=a):H a=none:=by
 cases q:H a with
 |none=>rfl
 |some u=>exact absurd (bJ1 (x.lt q) e) (bJv _)
def HOk.kept(x:HOk P w H h)(k:∀b u,h.get? b=some u->h'.get? b=some u):HOk P w H h':=λa o e=>
 (x a o e).stay (λb u _ q=>k b u q) (λ_ q=>q) λ_ _ q=>q
def HOk.laid(x:HOk P w H h)(k:∀b u,h.get? b=some u->h'.get? b=some u)(hp:h.objs.size<=a)(new:iU P w (upd H a o) h' a o):HOk P w (upd H a o) h':=λb u e=>by
 have hn:=x.fresh hp
 by_cases hb:b=a
 .subst hb;rw[bJ]at e;cases e;exact new
 .rw[aY hb]at e;exact(x b u e).stay (λc v _ q=>k c v q) (λc q=>by rw[aY (aX q hn)];exact q) λc xs q=>by rw[aY (aX q hn)];exact q
end
def Rd(H:Hp)(a:Addr)(u:HO):Prop:=H a=some u\/∃o,H a=some (.frz o u)
def Rd.ok{P:Program}{w:World}{H:Hp}{h:Heap}{a:Addr}{u:HO}(r:Rd H a u)(x:HOk P w H h):iU P w H h a u:=by
 rcases r with r|⟨o,r⟩
 .exact x a u r
 .obtain⟨_,q⟩:=x a _ r;exact q
def Mut:Option HO->Prop
 |some (.lst _)=>True
 |some (.dK _)=>True
 |some (.dT _)=>True
 |some (.set _ _)=>True
 |some (.ins _ _ _)=>True
 |some (.ext _)=>True
 |_=>False
section
variable{P:Program}{w:World}{H:Hp}{h h':Heap}{x e:Addr}{o':HO}
def HOk.write(ok:HOk P w H h)(mu:Mut (H x))(he:e=x\/H e=some (.own x))(k:∀b u,b≠e->h.get? b=some u->h'.get? b=some u)(heo:∃u,h'.get? e=some u)
  (new:iU P w (upd H x o') h' x o'):HOk P w (upd H x o') h':=λb u q=>by
 have nown:∀c y,H c=some (.own y)->c≠x:=λc y r z=>by subst z;rw[r]at mu;exact mu
 have ntup:∀c xs,H c=some (.tup xs)->c≠x:=λc xs r z=>by subst z;rw[r]at mu;exact mu
 by_cases hb:b=x
 .subst hb;rw[bJ]at q;cases q;exact new
 .rw[aY hb]at q
  by_cases hbe:b=e
  .have q':H b=some (.own x):=by
    rcases he with z|z
    .exact absurd (hbe.trans z) hb
    .rw[hbe];exact z
   rw[q]at q';cases q';obtain⟨v,hv⟩:=heo;exact⟨v,by rw[hbe];exact hv⟩
  .refine(ok b u q).stay (λc v hc r=>k c v ?_ r) (λc r=>by rw[aY (nown c b r)];exact r) λc xs r=>by rw[aY (ntup c xs r)];exact r
   rcases hc with rfl|hc
   .exact hbe
   .rintro rfl;rcases he with z|z
    .exact nown c b hc z
    .rw[hc]at z;cases z;exact hb rfl
end
structure Un(fs ex:List Addr)(H H':Hp)(h h':Heap):Prop where
 keep:∀b o,h.get? b=some o->H b=none->b∉fs->b∉ex->h'.get? b=some o
 slot:∀b o,h.get? b=some o->H b=none->b∈fs->b∉ex->∃sl,h'.get? b=some {o with slots:=sl}
 free:∀b o,h.get? b=some o->H b=none->b∉ex->H' b=none
 there:∀b o,h.get? b=some o->b∉ex->∃o',h'.get? b=some o'
 tups:∀b xs,H b=some (.tup xs)->H' b=some (.tup xs)
 frzs:∀b o u,H b=some (.frz o u)->H' b=some (.frz o u)
 tbls:∀b ps,H b=some (.tbl ps)->∃more,H' b=some (.tbl (ps++more))
section
variable{fs fs' ex ex':List Addr}{H H1 H2:Hp}{h h1 h2 h':Heap}{a x e:Addr}{o:HO}
def Un.any(u:Un fs ex H H1 h h1){b:Addr}{ob:Obj}(q:h.get? b=some ob)(n:H b=none)(hx:b∉ex):∃sl,h1.get? b=some {ob with slots:=sl}:=by
 by_cases hb:b∈fs
 .exact u.slot b ob q n hb hx
 .exact⟨ob.slots,u.keep b ob q n hb hx⟩
def Un.kept(k:∀b u,h.get? b=some u->h'.get? b=some u):Un fs ex H H h h':=
 ⟨λb ob q _ _ _=>k b ob q,λb ob q _ _ _=>⟨ob.slots,k b ob q⟩,λ_ _ _ n _=>n,λb ob q _=>⟨ob,k b ob q⟩,λ_ _ q=>q,λ_ _ _ q=>q,λ_ ps q=>⟨#[],by rw[q];simp⟩⟩
def Un.refl:Un fs ex H H h h:=Un.kept λ_ _ q=>q
def Un.laid(k:∀b u,h.get? b=some u->h'.get? b=some u)(hp:h.objs.size<=a)(hn:H a=none):Un fs ex H (upd H a o) h h' where
 keep:=λb u q _ _ _=>k b u q
 slot:=λb u q _ _ _=>⟨u.slots,k b u q⟩
 free:=λb u q n _=>by rw[aY (bJm (bJ1 (bJ2 q) hp))];exact n
 there:=λb u q _=>⟨u,k b u q⟩
 tups:=λb xs q=>by rw[aY (aX q hn)];exact q
 frzs:=λb u xs q=>by rw[aY (aX q hn)];exact q
 tbls:=λb ps q=>⟨#[],by rw[aY (aX q hn),q];simp⟩
def Un.write(mu:Mut (H x))(he:e=x\/H e=some (.own x))(k:∀b u,b≠e->h.get? b=some u->h'.get? b=some u)(heo:∃u,h'.get? e=some u):Un fs ex H (upd H x o) h h':=by
 have hx:∀b,H b=none->b≠x:=λb n z=>by subst z;rw[n]at mu;exact mu
 have hb:∀b,H b=none->b≠e:=λb n z=>by
  subst z;rcases he with r|r
  .exact hx b n r
  .rw[n]at r;cases r
 have hm:∀b u,H b=some u->¬ Mut (some u)->b≠x:=λb u q nm z=>by subst z;rw[q]at mu;exact nm mu
 refine⟨λb u q n _ _=>k b u (hb b n) q,λb u q n _ _=>⟨u.slots,k b u (hb b n) q⟩,λb u q n _=>by rw[aY (hx b n)];exact n,λb u q _=>?_,
  λb xs q=>by rw[aY (hm b _ q λz=>z)];exact q,λb u xs q=>by rw[aY (hm b _ q λz=>z)];exact q,λb ps q=>⟨#[],by rw[aY (hm b _ q λz=>z),q];simp⟩⟩
 by_cases hbe:b=e
 .subst hbe;exact heo
 .exact⟨u,k b u hbe q⟩
end
def trk(h:Heap)(H:Hp):List Addr:=(List.range h.objs.size).filter λa=>(H a).isSome
def aJh(h:Heap)(H:Hp):Heap:=PySem.W.hideAll h (trk h H)
def aS7(h:Heap)(H:Hp):(aJh h H).objs.size=h.objs.size:=PySem.W.hideAll_size _ _
def aTy{h:Heap}{H:Hp}{b:Addr}{o:Obj}(e:h.get? b=some o)(n:H b=none):(aJh h H).get? b=some o:=
 PySem.W.hideAll_get _ e λhm=>by
  have q:(H b).isSome=true:=(bJa.mp hm).2;rw[n]at q;simp at q
def aYb{h:Heap}{H:Hp}{b:Addr}{o:Obj}(e:(aJh h H).get? b=some o):h.get? b=some o/\H b=none:=by
 have e':h.get? b=some o:=PySem.W.of_hideAll (trk h H) e;refine⟨e',?_⟩;cases q:H b with
 |none=>rfl
 |some x=>
  have hm:b∈trk h H:=bJa.mpr ⟨bJp.mpr (bJ2 e'),by simp[q]⟩
  have z:(aJh h H).get? b=none:=PySem.W.hideAll_none (trk h H) hm;rw[z]at e;cases e
def aYc(g h:Heap)(L:Addr):List (Addr×Obj):=(List.range h.objs.size).filterMap λa=>if a=L\/(g.get? a).isSome=true then none else (h.get? a).map λo=>(a,o)
def rest(g h:Heap)(L d:Addr):List (Addr×Obj):=(aYc g h L).filter λp=>decide (p.1≠d)
end L2
namespace L2
open PySem PySem.Spec PyProof.Rows
structure Mod(K:PySem.W.Frag)(mg:Str->Option Value)(base:Heap):Prop where
 kin:K.In base
 glob:base.Ns mainGlobals mg
 blt:∃mb,base.Ns builtinsNs mb/\∀x:Str,x≠"__name__"->mb x=bootBuiltins x
 nolimit:base.NoLimit
structure Cx where
 prog:Program
 w:World
 K:PySem.W.Frag
 mg:Str->Option Value
 base:Heap
 A:Around
 N:List Str
 s₀:Shared
 H₀:Hp
 env:Env
 outer:List Env
 stack:List Env
 ex:List Addr
 fn:Str->Bool
 calm:Bool
 pn:List (Addr×Obj)
 xe:Value->Shared->Prop
def frs(l:List Env):List Addr:=l.filterMap (·.frame)
abbrev Cx.fs(X:Cx):List Addr:=frs X.outer
def Vis(sc:Scope)(x:Str):Prop:=sc.names.lookup x=some .local\/sc.names.lookup x=some .cell\/sc.names.lookup x=some .free
def Loc(sc:Scope)(x:Str):Prop:=sc.names.lookup x=some .local\/sc.names.lookup x=some .cell
def Look(env:Env)(h:Heap)(m:Str->Option Value)(x:Str)(u:Value):Prop:=
 (env.kindOf x=some .local/\m x=some u)\/((env.kindOf x=some .cell\/env.kindOf x=some .free)/\∃c,env.cells.lookup x=some c/\h.IsCell c (some u))
structure Cx.Ok(X:Cx):Prop where
 mod:Mod X.K X.mg X.base
 kind:X.env.scope.kind=.function
 glob:X.env.globals=mainGlobals
 blt:X.env.builtins=builtinsNs
 above:X.s₀.heap.objs.size<=X.env.locals
 inj:∀x y c,X.env.cells.lookup x=some c->X.env.cells.lookup y=some c->x=y
 has:∀x,(X.env.kindOf x=some .cell\/X.env.kindOf x=some .free)->∃c,X.env.cells.lookup x=some c
 cab:∀x c,X.fn x=true->X.env.cells.lookup x=some c->X.s₀.heap.objs.size<=c
 hd:X.calm=true->X.A.handled=none
 frames:X.A.frames=some X.stack
 stk:X.stack=X.outer\/(X.stack=X.env::X.outer/\X.env.frame=some X.env.locals)
 exf:∀b∈X.ex,b≠X.env.locals/\∀x c,X.env.cells.lookup x=some c->c≠b
 bs:∀b o,X.base.get? b=some o->X.s₀.heap.get? b=some o/\X.H₀ b=none
 bsz:X.base.objs.size<=X.s₀.heap.objs.size
 noex:∀b o,X.base.get? b=some o->b∉X.ex
 exfs:∀b∈X.ex,b∉X.fs
 funs:X.s₀.heap.FunFrames X.base X.outer
 frf:∀b∈X.fs,X.H₀ b=none
structure Inv(X:Cx)(pins:List (Addr×Obj))(σ:List (Option V))(H:Hp)(s:Shared):Prop where
 ok:X.Ok
 os:s.os=X.s₀.os
 bare:AllBare s.gens
 base:Un X.fs X.ex X.H₀ H X.s₀.heap s.heap
 loc:∃m,s.heap.Ns X.env.locals m/\∀(i:Nat)(x:Str)(v:V),X.N[i]?=some x->σ[i]?=some (some v)->Vis X.env.scope x->∃u,RelV v u/\Look X.env s.heap m x u
 cell:∀x c,X.env.cells.lookup x=some c->∃v,s.heap.IsCell c v
 free:H X.env.locals=none
 freeC:∀x c,X.env.cells.lookup x=some c->H c=none
 pin:∀p∈X.pn++pins,s.heap.get? p.1=some p.2/\H p.1=none/\p.1≠X.env.locals/\p.1∉X.fs/\∀v,p.2.data≠.cell v
 hok:HOk X.prog X.w H s.heap
 len:σ.length=X.N.length
section
variable{X:Cx}{pins:List (Addr×Obj)}{σ:List (Option V)}{H H':Hp}{s:Shared}{h':Heap}
def Cx.Ok.nofr(ok:X.Ok){b:Addr}{o:Obj}(e:X.base.get? b=some o):b∉X.fs:=λhb=>by
 have:=(ok.funs.mem hb).1;rw[e]at this;cases this
theorem Inv.bs(I:Inv X pins σ H s):∀b o,X.base.get? b=some o->s.heap.get? b=some o/\H b=none:=λb o e=>
 ⟨I.base.keep b o (I.ok.bs b o e).1 (I.ok.bs b o e).2 (I.ok.nofr e) (I.ok.noex b o e),I.base.free b o (I.ok.bs b o e).1 (I.ok.bs b o e).2 (I.ok.noex b o e)⟩
def Inv.bk(I:Inv X pins σ H s):∀b o,X.base.get? b=some o->s.heap.get? b=some o:=λb o e=>(I.bs b o e).1
theorem Inv.mod(I:Inv X pins σ H s):Mod X.K X.mg X.base:=I.ok.mod
def Inv.kIn(I:Inv X pins σ H s):X.K.In s.heap:=I.ok.mod.kin.keeps I.bk
theorem Inv.lt(I:Inv X pins σ H s):X.env.locals<s.heap.objs.size:=let ⟨_,hn,_⟩:=I.loc;hn.lt
def Inv.sz(I:Inv X pins σ H s):X.s₀.heap.objs.size<=s.heap.objs.size:=bJj I.ok.above (bM8 I.lt)
def Inv.nofs(I:Inv X pins σ H s){a:Addr}(h:s.heap.objs.size<=a):a∉X.fs:=λhb=>by
 obtain⟨_,o,ho,_⟩:=I.ok.funs.mem hb;exact absurd (bJ1 (bJ2 ho) (bJj I.sz h)) (bJv _)
def Inv.cne(I:Inv X pins σ H s):∀x c,X.env.cells.lookup x=some c->c≠X.env.locals:=λx c e z=>by
 obtain⟨v,o,ho,hd⟩:=I.cell x c e;obtain⟨m,⟨o',es,ep,ho',hd',_⟩,_⟩:=I.loc;rw[z,ho']at ho;cases ho;rw[hd']at hd;cases hd
theorem Inv.funs(I:Inv X pins σ H s):s.heap.FunFrames X.base X.outer:=by
 have all:∀(l:List Env),(∀b∈frs l,b∈X.fs)->X.s₀.heap.FunFrames X.base l->s.heap.FunFrames X.base l:=by
  intro l
  induction l with
  |nil=>intro _ _;trivial
  |cons env r ih=>
   intro hs hl;obtain⟨hk,⟨L,o,hf,hn,ho,hd⟩,hr⟩:=hl;have hL:L∈X.fs:=hs L (by unfold frs;rw[bLn,hf];exact bIm)
   obtain⟨sl,e⟩:=I.base.slot L o ho (I.ok.frf L hL) hL λz=>I.ok.exfs L z hL
   exact⟨hk,⟨L,_,hf,hn,e,hd⟩,ih (λb hb=>hs b (by unfold frs;rw[bLn,hf];exact bIl _ hb)) hr⟩
 exact all X.outer (λ_ hb=>hb) I.ok.funs
theorem Inv.stack(I:Inv X pins σ H s):s.heap.FunFrames X.base X.stack:=by
 rcases I.ok.stk with e|⟨e,hf⟩
 .rw[e];exact I.funs
 .rw[e];obtain⟨m,hn,_⟩:=I.loc;refine .cons (by rw[I.ok.kind];decide) hf hn ?_ I.funs
  exact Heap.get?_none_of_le (bJj I.ok.bsz I.ok.above)
def Inv.stkSub(I:Inv X pins σ H s):∀b∈frs X.stack,b∈X.env.locals::X.fs:=λb hb=>by
 rcases I.ok.stk with e|⟨e,hf⟩
 .rw[e]at hb;exact bIl _ hb
 .rw[e]at hb;unfold frs at hb;rw[bLn,hf]at hb;exact hb
def Inv.stkFree(I:Inv X pins σ H s):∀b∈frs X.stack,H b=none:=λb hb=>by
 rcases bIq.mp (I.stkSub b hb) with e|hb
 .rw[e];exact I.free
 .obtain⟨_,o,ho,_⟩:=I.ok.funs.mem hb;exact I.base.free b o ho (I.ok.frf b hb) λz=>I.ok.exfs b z hb
def Inv.step{g':Array GenState}{t':Nat}{d':Drawn}{ch:List Addr}(I:Inv X pins σ H s)
  (hch:∀b∈ch,(b∈X.ex\/X.s₀.heap.objs.size<=b)/\b≠X.env.locals/\(∀x c,X.env.cells.lookup x=some c->c≠b)/\∀p∈X.pn++pins,p.1≠b)
  (keep:∀b o,b≠X.env.locals->b∉X.fs->b∉ch->s.heap.get? b=some o->H b=none->h'.get? b=some o)
  (slot:∀b o,b≠X.env.locals->b∈X.fs->b∉ch->s.heap.get? b=some o->H b=none->∃sl,h'.get? b=some {o with slots:=sl}) (free:∀b o,b∉ch->s.heap.get? b=some o->H b=none->H' b=none)
  (there:∀b o,b∉ch->s.heap.get? b=some o->∃o',h'.get? b=some o')
  (tups:∀b xs,H b=some (.tup xs)->H' b=some (.tup xs)) (frzs:∀b o u,H b=some (.frz o u)->H' b=some (.frz o u)) (tbls:∀b ps,H b=some (.tbl ps)->∃more,H' b=some (.tbl (ps++more)))
  (ns:∀m,s.heap.Ns X.env.locals m->h'.Ns X.env.locals m) (hok:HOk X.prog X.w H' h') (hg:AllBare g') :
  Inv X pins σ H' {s with heap:=h',gens:=g',drawn:=d',toks:=t'}:=by
 have neL:∀b o,X.s₀.heap.get? b=some o->b≠X.env.locals:=λb o e=>bJm (bJ1 (bJ2 e) I.ok.above)
 have neC:∀b o,X.s₀.heap.get? b=some o->b∉X.ex->b∉ch:=λb o e hx hb=>by
  rcases (hch b hb).1 with z|z
  .exact hx z
  .exact absurd (bJ1 (bJ2 e) z) (bJv _)
 have cellK:∀x c,X.env.cells.lookup x=some c->∀v,s.heap.IsCell c v->h'.IsCell c v:=λx c e v ⟨o,ho,hd⟩=>by
  have nch:c∉ch:=λz=>(hch c z).2.2.1 x c e rfl
  by_cases hc:c∈X.fs
  .obtain⟨sl,q⟩:=slot c o (I.cne x c e) hc nch ho (I.freeC x c e);exact⟨_,q,hd⟩
  .exact⟨o,keep c o (I.cne x c e) hc nch ho (I.freeC x c e),hd⟩
 refine⟨I.ok,I.os,hg,⟨λb o e n hb hx=>?_,λb o e n hb hx=>?_,λb o e n hx=>?_,λb o e hx=>?_,λb xs e=>tups b xs (I.base.tups b xs e),λb o xs e=>frzs b o xs (I.base.frzs b o xs e),λb ps e=>?_⟩,?_,λx c e=>?_,?_,λx c e=>?_,λp hp=>?_,hok,I.len⟩
 .exact keep b o (neL b o e) hb (neC b o e hx) (I.base.keep b o e n hb hx) (I.base.free b o e n hx)
 .obtain⟨sl,e1⟩:=I.base.slot b o e n hb hx;obtain⟨sl',e2⟩:=slot b _ (neL b o e) hb (neC b o e hx) e1 (I.base.free b o e n hx);exact⟨sl',e2⟩
 .obtain⟨o',e1⟩:=I.base.there b o e hx;exact free b o' (neC b o e hx) e1 (I.base.free b o e n hx)
 .obtain⟨o',e1⟩:=I.base.there b o e hx;exact there b o' (neC b o e hx) e1
 .obtain⟨m1,e1⟩:=I.base.tbls b ps e;obtain⟨m2,e2⟩:=tbls b _ e1;exact⟨m1++m2,by rw[e2,Array.append_assoc]⟩
 .obtain⟨m,hn,hl⟩:=I.loc;refine⟨m,ns m hn,λi x v e1 e2 e3=>?_⟩
  obtain⟨u,r,l⟩:=hl i x v e1 e2 e3;refine⟨u,r,?_⟩;rcases l with l|⟨k,c,e,z⟩
  .exact .inl l
  .exact .inr ⟨k,c,e,cellK x c e _ z⟩
 .obtain⟨v,z⟩:=I.cell x c e;exact⟨v,cellK x c e v z⟩
 .obtain⟨m,⟨o,_,_,ho,_⟩,_⟩:=I.loc;exact free _ o (λz=>(hch _ z).2.1 rfl) ho I.free
 .obtain⟨v,o,ho,hd⟩:=I.cell x c e;exact free c o (λz=>(hch c z).2.2.1 x c e rfl) ho (I.freeC x c e)
 .obtain⟨e,n,ne,nf,d⟩:=I.pin p hp;have nch:p.1∉ch:=λz=>(hch p.1 z).2.2.2 p hp rfl
  exact⟨keep p.1 p.2 ne nf nch e n,free p.1 p.2 nch e n,ne,nf,d⟩
def Inv.un{t':Nat}(I:Inv X pins σ H s)(u:Un X.fs [] H H' s.heap h')(hok:HOk X.prog X.w H' h'):Inv X pins σ H' {s with heap:=h',toks:=t'}:=by
 obtain⟨m,⟨o,es,ep,ho,r⟩,_⟩:=id I.loc;obtain⟨sl,hL⟩:=u.any ho I.free (by simp)
 exact I.step (g':=s.gens) (d':=s.drawn) (ch:=[]) (λ_ z=>nomatch z) (λb o _ hb _ e n=>u.keep b o e n hb (by simp)) (λb o _ hb _ e n=>u.slot b o e n hb (by simp)) (λb o _ e n=>u.free b o e n (by simp)) (λb o _ e=>u.there b o e (by simp)) u.tups u.frzs u.tbls (λm' hm=>by
  obtain⟨o',es',ep',ho',r'⟩:=hm;rw[ho]at ho';cases ho';exact⟨_,es',ep',hL,r'⟩) hok I.bare
def Inv.call{g':Array GenState}{t':Nat}{d':Drawn}{ch:List Addr}(I:Inv X pins σ H s)(u:Un (frs X.stack) ch H H' s.heap h')(hok:HOk X.prog X.w H' h')(hg:AllBare g')
  (hch:∀b∈ch,(b∈X.ex\/X.s₀.heap.objs.size<=b)/\b≠X.env.locals/\(∀x c,X.env.cells.lookup x=some c->c≠b)/\∀p∈X.pn++pins,p.1≠b) :
  Inv X pins σ H' {s with heap:=h',gens:=g',drawn:=d',toks:=t'}:=by
 obtain⟨m,⟨o,es,ep,ho,r⟩,_⟩:=id I.loc;obtain⟨sl,hL⟩:=u.any ho I.free λz=>(hch _ z).2.1 rfl
 exact I.step (ch:=ch) hch (λb o hL hb hc e n=>u.keep b o e n (λz=>(bIq.mp (I.stkSub b z)).elim hL hb) hc) (λb o _ _ hc e n=>u.any e n hc) (λb o hc e n=>u.free b o e n hc) (λb o hc e=>u.there b o e hc) u.tups u.frzs u.tbls (λm' hm=>by
  obtain⟨o',es',ep',ho',r'⟩:=hm;rw[ho]at ho';cases ho';exact⟨_,es',ep',hL,r'⟩) hok hg
def Inv.turned{t':Nat}{it:Addr}(I:Inv X pins σ H s)(k:∀b o,b≠it->s.heap.get? b=some o->h'.get? b=some o)(hn:H it=none)(hL:it≠X.env.locals)
  (h1:it∈X.ex\/X.s₀.heap.objs.size<=it) (h2:∀x c,X.env.cells.lookup x=some c->c≠it) (h3:∀p∈X.pn++pins,p.1≠it):Inv X pins σ H {s with heap:=h',toks:=t'}:=by
 have nit:∀b u,H b=some u->b≠it:=λb u e z=>by rw[z,hn]at e;cases e
 refine I.step (g':=s.gens) (d':=s.drawn) (ch:=[it]) (λb hb=>?_) (λb o _ _ hc e _=>k b o (λz=>hc (by simp[z])) e) (λb o _ _ hc e _=>⟨o.slots,k b o (λz=>hc (by simp[z])) e⟩) (λ_ _ _ _ n=>n)
  (λb o hc e=>⟨o,k b o (λz=>hc (by simp[z])) e⟩) (λ_ _ e=>e) (λ_ _ _ e=>e) (λb ps e=>⟨#[],by rw[e];simp⟩) (λm hm=>?_) (λb u e=>?_) I.bare
 .have e:b=it:=by simpa using hb
  subst e;exact⟨h1,hL,h2,h3⟩
 .obtain⟨o,es,ep,ho,r⟩:=hm;exact⟨o,es,ep,k _ o (bL5 hL) ho,r⟩
 .refine(I.hok b u e).stay (λc v hc q=>k c v ?_ q) (λ_ q=>q) λ_ _ q=>q
  rcases hc with z|z
  .rw[z];exact nit b u e
  .exact nit c _ z
def Inv.tok(I:Inv X pins σ H s)(t:Nat):Inv X pins σ H {s with toks:=t}:=I.un (h':=s.heap) (t':=t) Un.refl I.hok
theorem Inv.kept{t':Nat}(I:Inv X pins σ H s)(k:∀b u,s.heap.get? b=some u->h'.get? b=some u):Inv X pins σ H {s with heap:=h',toks:=t'}:=I.un (Un.kept k) (I.hok.kept k)
theorem Inv.laid{a:Addr}{o:HO}{t':Nat}(I:Inv X pins σ H s)(k:∀b u,s.heap.get? b=some u->h'.get? b=some u)(hp:s.heap.objs.size<=a)(new:iU X.prog X.w (upd H a o) h' a o) :
  Inv X pins σ (upd H a o) {s with heap:=h',toks:=t'}:=I.un (Un.laid k hp (I.hok.fresh hp)) (I.hok.laid k hp new)
theorem Inv.write{x e:Addr}{o:HO}{t':Nat}(I:Inv X pins σ H s)(mu:Mut (H x))(he:e=x\/H e=some (.own x))(k:∀b u,b≠e->s.heap.get? b=some u->h'.get? b=some u)(heo:∃u,h'.get? e=some u)
  (new:iU X.prog X.w (upd H x o) h' x o):Inv X pins σ (upd H x o) {s with heap:=h',toks:=t'}:=I.un (Un.write mu he k heo) (I.hok.write mu he k heo new)
def Inv.pins_of{pins':List (Addr×Obj)}(I:Inv X pins σ H s)(h:∀p∈pins',s.heap.get? p.1=some p.2/\H p.1=none/\p.1≠X.env.locals/\p.1∉X.fs/\∀v,p.2.data≠.cell v):Inv X pins' σ H s:=
 ⟨I.ok,I.os,I.bare,I.base,I.loc,I.cell,I.free,I.freeC,λp hp=>(bJb.mp hp).elim (λz=>I.pin p (bIw _ z)) (h p),I.hok,I.len⟩
def aLb{N:List Str}(hN:N.Nodup){i j:Nat}{x:Str}(a:N[i]?=some x)(b:N[j]?=some x):i=j:=by
 obtain⟨h1,e1⟩:=bIk.mp a;obtain⟨h2,e2⟩:=bIk.mp b;exact(List.getElem_inj hN).mp (e1.trans e2.symm)
def aI7{M:Model}{A:Around}{E:Value->Shared->Prop}{i:Nat}{x:Str}{v:V}{u:Value}{Q:Unit->Shared->Prop}(I:Inv X pins σ H s)(hN:X.N.Nodup)(hi:X.N[i]?=some x)(hx:Loc X.env.scope x)(r:RelV v u)
  (h:∀s',Inv X pins (σ.set i (some v)) H s'->(∃a,Heap.SameBut a s.heap s'.heap/\(a=X.env.locals\/X.env.cells.lookup x=some a))->Q () s') (hf:X.fn x=true\/X.env.scope.names.lookup x=some .local:=by first|exact .inl rfl|exact .inr rfl|assumption):wpAny M A (storeName X.env x u) Q E s:=by
 obtain⟨m,hn,hl⟩:=id I.loc;have hcls:(X.env.scope.kind == .class||(X.env.scope.kind == .module&&X.env.locals !=X.env.globals))=false:=by rw[I.ok.kind];rfl
 have hiσ:i<σ.length:=by rw[I.len];exact(bIk.mp hi).1
 have cne:=I.cne;have tracked:∀{a:Addr}{h':Heap},(∃o,s.heap.get? a=some o/\H a=none)->Heap.SameBut a s.heap h'->HOk X.prog X.w H h':=λ{a h'} ha hs b ob e=>by
  obtain⟨_,_,hfree⟩:=ha;refine(I.hok b ob e).stay (λc w' hc q=>(hs.2 c ?_).trans q) (λ_ q=>q) λ_ _ q=>q
  rintro rfl;rcases hc with rfl|hc
  .rw[hfree]at e;cases e
  .rw[hfree]at hc;cases hc
 rcases hx with hk|hk
 .refine wpAny_storeName_local hk hn (λh' hn' hs=>?_) hcls
  obtain⟨oL,_,_,hoL,_⟩:=id hn;refine h _ ⟨I.ok,I.os,I.bare,⟨λb o e n hb hx=>?_,λb o e n hb hx=>?_,I.base.free,λb o e hx=>?_,I.base.tups,I.base.frzs,I.base.tbls⟩,⟨_,hn',λj y v' e1 e2 e3=>?_⟩,λy c e=>?_,I.free,I.freeC,λp hp=>?_,tracked ⟨oL,hoL,I.free⟩ hs,by simpa using I.len⟩ ⟨_,hs,.inl rfl⟩
  .exact(hs.2 b (bJm (bJ1 (bJ2 e) I.ok.above))).trans (I.base.keep b o e n hb hx)
  .obtain⟨sl,e1⟩:=I.base.slot b o e n hb hx;exact⟨sl,(hs.2 b (bJm (bJ1 (bJ2 e) I.ok.above))).trans e1⟩
  .obtain⟨o',e1⟩:=I.base.there b o e hx;exact⟨o',(hs.2 b (bJm (bJ1 (bJ2 e) I.ok.above))).trans e1⟩
  .by_cases hj:j=i
   .subst hj;rw[hi]at e1;cases e1;rw[bNu hiσ]at e2;cases e2;exact⟨u,r,.inl ⟨hk,by simp⟩⟩
   .rw[bOf (bL5 hj)]at e2;obtain⟨u',r',q⟩:=hl j y v' e1 e2 e3;refine⟨u',r',?_⟩;rcases q with ⟨k,e⟩|⟨k,c,e,z⟩
    .refine .inl ⟨k,?_⟩;have:y≠x:=λe=>hj (aLb hN e1 (e ▸ hi))
     simp[this,e]
    .exact .inr ⟨k,c,e,z.sameBut hs (cne y c e)⟩
  .obtain⟨w',z⟩:=I.cell y c e;exact⟨w',z.sameBut hs (cne y c e)⟩
  .obtain⟨e,n,ne,nf,d⟩:=I.pin p hp;exact⟨(hs.2 p.1 ne).trans e,n,ne,nf,d⟩
 .have hfn:X.fn x=true:=by
   rcases hf with z|z
   .exact z
   .rw[z]at hk;cases hk
  obtain⟨c,hc⟩:=I.ok.has x (.inl hk);obtain⟨w',z⟩:=I.cell x c hc;refine wpAny_storeName_cell I.ok.kind hk hc z (λh' hc' hs=>?_)
  obtain⟨oc,hoc,hocd⟩:=id z;refine h {s with heap:=h'} ⟨I.ok,I.os,I.bare,⟨λb o e n hb hx=>?_,λb o e n hb hx=>?_,I.base.free,λb o e hx=>?_,I.base.tups,I.base.frzs,I.base.tbls⟩,⟨m,hn.sameBut hs (bL5 (cne x c hc)),λj y v' e1 e2 e3=>?_⟩,λy c' e=>?_,I.free,I.freeC,λp hp=>?_,tracked ⟨oc,hoc,I.freeC x c hc⟩ hs,by simpa using I.len⟩ ⟨c,hs,.inr hc⟩
  .exact(hs.2 b (bJm (bJ1 (bJ2 e) (I.ok.cab x c hfn hc)))).trans (I.base.keep b o e n hb hx)
  .obtain⟨sl,e1⟩:=I.base.slot b o e n hb hx;exact⟨sl,(hs.2 b (bJm (bJ1 (bJ2 e) (I.ok.cab x c hfn hc)))).trans e1⟩
  .obtain⟨o',e1⟩:=I.base.there b o e hx;exact⟨o',(hs.2 b (bJm (bJ1 (bJ2 e) (I.ok.cab x c hfn hc)))).trans e1⟩
  .by_cases hj:j=i
   .subst hj;rw[hi]at e1;cases e1;rw[bNu hiσ]at e2;cases e2;exact⟨u,r,.inr ⟨.inl hk,c,hc,hc'⟩⟩
   .rw[bOf (bL5 hj)]at e2;obtain⟨u',r',q⟩:=hl j y v' e1 e2 e3;refine⟨u',r',?_⟩;rcases q with q|⟨k,c',e,z'⟩
    .exact .inl q
    .refine .inr ⟨k,c',e,z'.sameBut hs ?_⟩;rintro rfl;exact hj (aLb hN e1 (I.ok.inj _ _ _ e hc ▸ hi))
  .by_cases hcc:c'=c
   .subst hcc;exact⟨_,hc'⟩
   .obtain⟨w2,z2⟩:=I.cell y c' e;exact⟨w2,z2.sameBut hs hcc⟩
  .obtain⟨e,n,ne,nf,d⟩:=I.pin p hp;refine⟨(hs.2 p.1 ?_).trans e,n,ne,nf,d⟩;intro q;rw[q,hoc]at e;have q':oc=p.2:=bJ3 e;exact d w' (by rw[<-q'];exact hocd)
def aLc{M:Model}{A:Around}{E:Value->Shared->Prop}{i:Nat}{x:Str}{v:V}{u:Value}{Q:Unit->Shared->Prop}(I:Inv X pins σ H s)(hN:X.N.Nodup)(hi:X.N[i]?=some x)(hx:Loc X.env.scope x)(r:RelV v u)
  (h:∀s',Inv X pins (σ.set i (some v)) H s'->Q () s') (hf:X.fn x=true\/X.env.scope.names.lookup x=some .local:=by first|exact .inl rfl|exact .inr rfl|assumption):wpAny M A (storeName X.env x u) Q E s:=
 aI7 I hN hi hx r (λs' I' _=>h s' I') hf
end
abbrev XK:=Value->Option Addr->Hp->Prop
abbrev St:=List (Option V)
abbrev VK:=V->Hp->Prop
abbrev TE:=St->Hp->VK->Prop
abbrev TT:=St->Hp->(Bool->Hp->Prop)->Prop
abbrev TA:=St->Hp->(List V->Hp->Prop)->Prop
structure Ends where
 nx:St->Hp->Prop
 rt:VK
 bk:St->Hp->Prop:=λ_ _=>False
 ct:St->Hp->Prop:=λ_ _=>False
abbrev TS:=Ends->St->Hp->Prop
def EP(X:Cx)(pins:List (Addr×Obj))(σ:St)(Q:VK)(u:Value)(s':Shared):Prop:=∃v H',Inv X pins σ H' s'/\RelV v u/\Q v H'
def TP(X:Cx)(pins:List (Addr×Obj))(σ:St)(Q:Bool->Hp->Prop)(b:Bool)(s':Shared):Prop:=∃H',Inv X pins σ H' s'/\Q b H'
def AP(X:Cx)(pins:List (Addr×Obj))(σ:St)(Q:List V->Hp->Prop)(us:List Value)(s':Shared):Prop:=∃vs H',Inv X pins σ H' s'/\Vals vs us/\Q vs H'
def SP(X:Cx)(pins:List (Addr×Obj))(D:Ends)(f:Flow)(s':Shared):Prop:=
 match f with
 |.next=>∃σ' H',Inv X pins σ' H' s'/\D.nx σ' H'
 |.brk=>∃σ' H',Inv X pins σ' H' s'/\D.bk σ' H'
 |.cont=>∃σ' H',Inv X pins σ' H' s'/\D.ct σ' H'
 |.ret u=>∃v σ' H',Inv X pins σ' H' s'/\RelV v u/\D.rt v H'
def PE(X:Cx)(e:Expr)(t:TE):Prop:=
 ∀(pins:List (Addr×Obj)) (s:Shared) (σ:St) (H:Hp) (Q:VK),Inv X pins σ H s->t σ H Q->wpAny (model X.prog X.w) X.A (eval e X.env) (EP X pins σ Q) X.xe s
def PT(X:Cx)(e:Expr)(t:TT):Prop:=
 ∀(pins:List (Addr×Obj)) (s:Shared) (σ:St) (H:Hp) (Q:Bool->Hp->Prop),Inv X pins σ H s->t σ H Q->wpAny (model X.prog X.w) X.A (isTrue e X.env (eval e X.env)) (TP X pins σ Q) X.xe s
def PW(X:Cx)(e:Expr)(t:TT):Prop:=
 ∀(whole:Sem Value) (pins:List (Addr×Obj)) (s:Shared) (σ:St) (H:Hp) (Q:Bool->Hp->Prop),Inv X pins σ H s->t σ H Q->wpAny (model X.prog X.w) X.A (isTrue e X.env whole) (TP X pins σ Q) X.xe s
def PW.pt{X:Cx}{e:Expr}{t:TT}(h:PW X e t):PT X e t:=h _
def PA(X:Cx)(es:List Expr)(t:TA):Prop:=
 ∀(pos:Pos) (pins:List (Addr×Obj)) (s:Shared) (σ:St) (H:Hp) (Q:List V->Hp->Prop),Inv X pins σ H s->t σ H Q->wpAny (model X.prog X.w) X.A (spliced (backTo pos (starEach es X.env))) (AP X pins σ Q) X.xe s
def PS(X:Cx)(st:Stmt)(t:TS):Prop:=
 ∀(pins:List (Addr×Obj)) (s:Shared) (σ:St) (H:Hp) (D:Ends),Inv X pins σ H s->t D σ H->wpAny (model X.prog X.w) X.A (exec st X.env) (SP X pins D) X.xe s
def PSs(X:Cx)(st:List Stmt)(t:TS):Prop:=
 ∀(pins:List (Addr×Obj)) (s:Shared) (σ:St) (H:Hp) (D:Ends),Inv X pins σ H s->t D σ H->wpAny (model X.prog X.w) X.A (execs st X.env) (SP X pins D) X.xe s
def thn{α:Type}{t:Sem α}{Q Q':α->Shared->Prop}{M:Model}{A:Around}{E:Value->Shared->Prop}{s:Shared}(h:wpAny M A t Q E s)(hQ:∀a s,Q a s->Q' a s):wpAny M A t Q' E s:=bKf h hQ λ_ _ x=>x
end L2
namespace L2
open PySem PySem.Spec PyProof.Rows
section
variable{X:Cx}
def tM(i:Nat):TE:=λσ H Q=>∃v,σ[i]?=some (some v)/\Q v H
def tC(v:V):TE:=λ_ H Q=>Q v H
def kJ{i:Nat}{x:Str}{pos:Pos}(hN:X.N[i]?=some x)(hv:Vis X.env.scope x)(hd:(x==("__debug__":Str))=false:=by decide)(hcd:(x==("__classdict__":Str))=false:=by decide):PE X (.Name x pos) (tM i):=by
 intro pins s σ H Q I h;obtain⟨v,e,h⟩:=h;obtain⟨m,hn,hl⟩:=I.loc;obtain⟨u,r,l⟩:=hl i x v hN e hv;have fin:EP X pins σ Q u s:=⟨v,H,I,r,h⟩;rcases l with ⟨hk,hm⟩|⟨hk,c,hc,hcell⟩
 .exact wpAny_Name (wpAny_loadName_local I.ok.kind hk hn hm fin) hd
 .rcases hk with hk|hk
  .exact wpAny_Name (wpAny_loadName_cell I.ok.kind hk hc hcell fin) hd
  .exact wpAny_Name (wpAny_loadName_free I.ok.kind hk hc hcell fin hcd) hd
def aD6{i j pos}:PE X (.Constant (.int i) j pos) (tC (.int i)):=λ_ _ _ H _ I h=>wpAny_Constant_int ⟨.int i,H,I.tok _,⟨_,rfl⟩,h⟩
def bF3{b j pos}:PE X (.Constant (.bool b) j pos) (tC (.bl b)):=λ_ _ _ H _ I h=>Constant_bool ⟨.bl b,H,I,rfl,h⟩
def bC3{j pos}:PE X (.Constant .none j pos) (tC .non):=λ_ _ _ H _ I h=>Constant_none ⟨.non,H,I,rfl,h⟩
def bC4{x j pos}:PE X (.Constant (.str x) j pos) (tC (.str x)):=λ_ _ _ H _ I h=>Calls.Constant_str ⟨.str x,H,I.tok _,⟨_,rfl⟩,h⟩
def Gl(X:Cx)(x:Str):Prop:=X.env.kindOf x=some .globalImplicit
def aJi{E:Value->Shared->Prop}{pins:List (Addr×Obj)}{s:Shared}{σ:St}{H:Hp}{x:Str}{u:Value}{pos:Pos}{Q:Value->Shared->Prop}(I:Inv X pins σ H s)(hg:Gl X x)(hm:X.mg x=some u)(h:Q u s)
  (hd:(x==("__debug__":Str))=false:=by decide):wpAny (model X.prog X.w) X.A (eval (.Name x pos) X.env) Q E s:=
 bMt I.ok.kind hg (Calls.loadGlobal_global (by rw[I.ok.glob];exact I.mod.glob.keeps I.bk) hm h) hd
def xW{E:Value->Shared->Prop}{pins:List (Addr×Obj)}{s:Shared}{σ:St}{H:Hp}{x:Str}{u:Value}{pos:Pos}{Q:Value->Shared->Prop}(I:Inv X pins σ H s)(hg:Gl X x)(hm:X.mg x=none)(hv:bootBuiltins x=some u)(h:Q u s)
  (hn:x≠"__name__":=by decide) (hd:(x==("__debug__":Str))=false:=by decide):wpAny (model X.prog X.w) X.A (eval (.Name x pos) X.env) Q E s:=by
 obtain⟨mb,h1,h2⟩:=I.mod.blt;exact bMt I.ok.kind hg (Calls.loadGlobal_builtin (by rw[I.ok.glob];exact I.mod.glob.keeps I.bk) hm (by rw[I.ok.blt];exact h1.keeps I.bk) ((h2 x hn).trans hv) h) hd
def aJj{x:Str}{v:V}{u:Value}{pos:Pos}(hg:Gl X x)(hm:X.mg x=some u)(r:RelV v u)(hd:(x==("__debug__":Str))=false:=by decide):PE X (.Name x pos) (tC v):=
 λ_ _ _ H _ I h=>aJi I hg hm ⟨v,H,I,r,h⟩ hd
def aYd{x:Str}{v:V}{u:Value}{pos:Pos}(hg:Gl X x)(hm:X.mg x=none)(hv:bootBuiltins x=some u)(r:RelV v u)(hn:x≠"__name__":=by decide)(hd:(x==("__debug__":Str))=false:=by decide):PE X (.Name x pos) (tC v):=
 λ_ _ _ H _ I h=>xW I hg hm hv ⟨v,H,I,r,h⟩ hn hd
variable{a b:Expr}{ta tb:TE}{pos:Pos}
def PC(X:Cx)(op:CmpOp)(a b:Expr)(t:TE):Prop:=
 ∀(pins:List (Addr×Obj)) (s:Shared) (σ:St) (H:Hp) (Q:VK),Inv X pins σ H s->t σ H Q->
  wpAny (model X.prog X.w) X.A (eval a X.env) (λv s₁=>wpAny (model X.prog X.w) X.A (eval b X.env) (λu s₂=>wpAny (model X.prog X.w) X.A (compareOp op v u) (EP X pins σ Q) X.xe s₂) X.xe s₁) X.xe s
def aLd(b:Expr){op:CmpOp}(h:op≠.In)(h2:op≠.NotIn):behindInMarks op b=false:=by
 have e1:(op==CmpOp.In)=false:=by cases op<;>first|rfl|exact absurd rfl h
 have e2:(op==CmpOp.NotIn)=false:=by cases op<;>first|rfl|exact absurd rfl h2
 cases b<;>simp[behindInMarks,e1,e2]
def bBf(ta:TE):TE:=λσ H Q=>ta σ H λx H1=>Q (.bl (!decide (x=.non))) H1
def RelV.none_iff{x:V}{v:Value}(r:RelV x v):(v==Value.none)=decide (x=.non):=by
 cases x with
 |non=>cases r;rfl
 |bl _=>cases r;rfl
 |int _=>obtain⟨t,rfl⟩:=r;rfl
 |str _=>obtain⟨t,rfl⟩:=r;rfl
 |byt _=>obtain⟨t,rfl⟩:=r;rfl
 |flt _=>obtain⟨t,rfl⟩:=r;rfl
 |ref _=>cases r;rfl
 |ty _=>cases r;rfl
def aPt{j pos'}(ha:PE X a ta):PC X .IsNot a (.Constant .none j pos') (bBf ta):=by
 intro pins s σ H Q I h;refine thn (ha pins s σ H _ I h) λv s1 ⟨x,H1,I1,r1,q1⟩=>?_
 exact Constant_none (isnot_none_gen ⟨.bl _,H1,I1,by rw[r1.none_iff];rfl,q1⟩)
def tB(t:TE):TT:=λσ H Q=>t σ H λx H1=>∃c,x=.bl c/\Q c H1
def aTz{op:CmpOp}{t:TE}(h:PC X op a b t)(h1:behindInMarks op b=false:=by first|exact aLd _ (by decide) (by decide)|rfl):PT X (.Compare a [op] [b] pos) (tB t):=by
 intro pins s σ H Q I hw;refine wpAny_isTrue_Compare1 (thn (h pins s σ H _ I hw) λv s1 h1=>thn h1 λu s2 h2=>thn h2 λc s3 ⟨x,H1,I1,r1,q1⟩=>?_) h1
 obtain⟨d,rfl,q⟩:=q1;cases r1;exact bKg ⟨H1,I1,q⟩
def bC5{e:Expr}{t:TE}(h:PE X e t)(he:∀whole,isTrue e X.env whole=(do let v <- whole;standAt e.pos;holding [v] (truthy v)):=by intro _;rfl):PT X e (tB t):=by
 intro pins s σ H Q I hw;refine isTrue_plain (thn (h pins s σ H _ I hw) λv s1 ⟨x,H1,I1,r1,q1⟩=>?_) (he _)
 obtain⟨d,rfl,q⟩:=q1;cases r1;exact bKg ⟨H1,I1,q⟩
variable{tA tB':TT}{rest:List Expr}
def bC6(t u:TT):TT:=λσ H Q=>t σ H λc H1=>if c=true then u σ H1 Q else Q false H1
def tOr(t u:TT):TT:=λσ H Q=>t σ H λc H1=>if c=true then Q true H1 else u σ H1 Q
def bHn(t:TT):TT:=λσ H Q=>t σ H λc H1=>Q (!c) H1
def aPu(ha:PT X a tA):PW X (.BoolOp .And [a] pos) tA:=by
 intro wh pins s σ H Q I h;refine isTrue_and (thn (ha pins s σ H Q I h) λc s1 e=>?_)
 cases c with
 |true=>exact isTrue_and_nil e
 |false=>exact e
def bC7(ha:PT X a tA):PW X (.BoolOp .Or [a] pos) tA:=by
 intro wh pins s σ H Q I h;refine isTrue_or (thn (ha pins s σ H Q I h) λc s1 e=>?_)
 cases c with
 |false=>exact isTrue_or_nil e
 |true=>exact e
def aNp(ha:PT X a tA)(hb:PW X (.BoolOp .And (b::rest) pos) tB'):PW X (.BoolOp .And (a::b::rest) pos) (bC6 tA tB'):=by
 intro wh pins s σ H Q I h;refine isTrue_and (thn (ha pins s σ H _ I h) λc s1 ⟨H1,I1,q1⟩=>?_)
 cases c with
 |true=>exact hb wh pins s1 σ H1 Q I1 q1
 |false=>exact⟨H1,I1,q1⟩
def bF4(ha:PT X a tA)(hb:PW X (.BoolOp .Or (b::rest) pos) tB'):PW X (.BoolOp .Or (a::b::rest) pos) (tOr tA tB'):=by
 intro wh pins s σ H Q I h;refine isTrue_or (thn (ha pins s σ H _ I h) λc s1 ⟨H1,I1,q1⟩=>?_)
 cases c with
 |true=>exact⟨H1,I1,q1⟩
 |false=>exact hb wh pins s1 σ H1 Q I1 q1
def bC8(ha:PT X a tA):PT X (.UnaryOp .Not a pos) (bHn tA):=by
 intro pins s σ H Q I h;exact isTrue_not (ha pins s σ H (λc H1=>Q (!c) H1) I h)
def bF5(ta tb:TE):TE:=λσ H Q=>ta σ H λx H1=>∃c,x=.bl c/\if c=true then tb σ H1 Q else Q (.bl false) H1
def bHo(ta tb:TE):TE:=λσ H Q=>ta σ H λx H1=>∃c,x=.bl c/\if c=true then Q (.bl true) H1 else tb σ H1 Q
def bF6(ta:TE):TE:=λσ H Q=>ta σ H λx H1=>∃c,x=.bl c/\Q (.bl (!c)) H1
def aU0{op}{t:TE}(h:PE X a t):PE X (.BoolOp op [a] pos) t:=λpins s σ H Q I hw=>BoolOp_one (h pins s σ H Q I hw)
def bC9(ha:PE X a ta)(hb:PE X (.BoolOp .And (b::rest) pos) tb):PE X (.BoolOp .And (a::b::rest) pos) (bF5 ta tb):=by
 intro pins s σ H Q I h;refine BoolOp_and (thn (ha pins s σ H _ I h) λv s1 ⟨x,H1,I1,r1,q1⟩=>?_)
 obtain⟨c,rfl,q1⟩:=q1;cases r1;refine bKg ?_
 cases c with
 |true=>exact hb pins s1 σ H1 Q I1 q1
 |false=>exact⟨.bl false,H1,I1,rfl,q1⟩
def bF7(ha:PE X a ta)(hb:PE X (.BoolOp .Or (b::rest) pos) tb):PE X (.BoolOp .Or (a::b::rest) pos) (bHo ta tb):=by
 intro pins s σ H Q I h;refine BoolOp_or (thn (ha pins s σ H _ I h) λv s1 ⟨x,H1,I1,r1,q1⟩=>?_)
 obtain⟨c,rfl,q1⟩:=q1;cases r1;refine bKg ?_
 cases c with
 |false=>exact hb pins s1 σ H1 Q I1 q1
 |true=>exact⟨.bl true,H1,I1,rfl,q1⟩
def bCa(ha:PE X a ta):PE X (.UnaryOp .Not a pos) (bF6 ta):=by
 intro pins s σ H Q I h;refine UnaryOp_ (thn (ha pins s σ H _ I h) λv s1 ⟨x,H1,I1,r1,q1⟩=>?_)
 obtain⟨c,rfl,q1⟩:=q1;cases r1;exact not_of (bKg ⟨.bl (!c),H1,I1,rfl,q1⟩)
def tIf(t:TT)(ta tb:TE):TE:=λσ H Q=>t σ H λc H1=>if c=true then ta σ H1 Q else tb σ H1 Q
def aU1{c:Expr}(hc:PT X c tA)(ha:PE X a ta)(hb:PE X b tb):PE X (.IfExp c a b pos) (tIf tA ta tb):=by
 intro pins s σ H Q I h;refine wpAny_IfExp (thn (hc pins s σ H _ I h) λd s1 ⟨H1,I1,q1⟩=>?_)
 cases d with
 |true=>exact ha pins s1 σ H1 Q I1 q1
 |false=>exact hb pins s1 σ H1 Q I1 q1
end
end L2
namespace L2
open PySem PySem.Spec PyProof.Rows
def SqL(K:PySem.W.Frag)(H:Hp)(a:Addr)(xs:List V):Prop:=
 Rd H a (.lst xs)\/
  ∃(o:Obj)(its:Array Value)(n:Nat),K.lookup a=some o/\o.cls=.type "list"/\o.dict=none/\o.data=.seq its n/\its.size<=sizeLine/\Vals xs its.toList
def SqT(K:PySem.W.Frag)(H:Hp)(a:Addr)(xs:List V):Prop:=
 Rd H a (.tup xs)\/
  ∃(o:Obj)(its:Array Value)(n:Nat),K.lookup a=some o/\o.cls=.type "tuple"/\o.data=.seq its n/\its.size<=sizeLine/\Vals xs its.toList
def bHp:Value->Option V
 |.none=>some .non
 |.bool b=>some (.bl b)
 |.int i _=>some (.int i)
 |.str x _=>some (.str x)
 |.bytes b _=>some (.byt b)
 |.float b _=>some (.flt b)
 |.ref a=>some (.ref a)
 |.type n=>some (.ty n)
 |_=>none
def RelV.abs{x:V}{u:Value}(r:RelV x u):bHp u=some x:=by
 cases x with
 |non=>cases r;rfl
 |bl _=>cases r;rfl
 |int _=>obtain⟨t,rfl⟩:=r;rfl
 |str _=>obtain⟨t,rfl⟩:=r;rfl
 |byt _=>obtain⟨t,rfl⟩:=r;rfl
 |flt _=>obtain⟨t,rfl⟩:=r;rfl
 |ref _=>cases r;rfl
 |ty _=>cases r;rfl
def RelV.inj{x y:V}{u:Value}(r:RelV x u)(q:RelV y u):x=y:=bJ3 (r.abs.symm.trans q.abs)
theorem Vals.inj:∀{xs ys:List V}{us:List Value},Vals xs us->Vals ys us->xs=ys
 |_,_,_,.nil,.nil=>rfl
 |_,_,_,.cons r t,.cons r' t'=>by rw[r.inj r',Vals.inj t t']
section
variable{X:Cx}{pins:List (Addr×Obj)}{σ:St}{H:Hp}{s:Shared}{a:Addr}{xs ys:List V}
def SqL.of{K:PySem.W.Frag}(h:H a=some (.lst xs)):SqL K H a xs:=.inl (.inl h)
def SqT.of{K:PySem.W.Frag}(h:H a=some (.tup xs)):SqT K H a xs:=.inl (.inl h)
def Inv.list(I:Inv X pins σ H s)(h:SqL X.K H a xs):∃its:List Value,Vals xs its/\PlainL s.heap a its.toArray/\xs.length<=sizeLine:=by
 rcases h with h|⟨o,its,n,hk,hc,hd,hs,hz,r⟩
 .obtain⟨z,its,n,r,e⟩:=h.ok I.hok;exact⟨its,r,⟨_,n,e,rfl,rfl,rfl⟩,z⟩
 .refine⟨its.toList,r,⟨o,n,I.kIn a o hk,hc,hd,by simpa using hs⟩,?_⟩
  have e:=r.length;simp only[Array.length_toList]at e;omega
def Inv.tuple(I:Inv X pins σ H s)(h:SqT X.K H a xs):∃its:List Value,Vals xs its/\IsTup s.heap a its.toArray/\xs.length<=sizeLine:=by
 rcases h with h|⟨o,its,n,hk,hc,hs,hz,r⟩
 .obtain⟨z,its,r,p⟩:=h.ok I.hok;exact⟨its,r,p,z⟩
 .refine⟨its.toList,r,⟨o,I.kIn a o hk,hc,n,by simpa using hs⟩,?_⟩
  have e:=r.length;simp only[Array.length_toList]at e;omega
def Inv.list_inj(I:Inv X pins σ H s)(h:SqL X.K H a xs)(h':SqL X.K H a ys):xs=ys:=by
 obtain⟨its,r,⟨o,n,e,_,_,d⟩,_⟩:=I.list h;obtain⟨its',r',⟨o',n',e',_,_,d'⟩,_⟩:=I.list h';rw[e]at e';cases e';rw[d]at d';injection d' with d1 _
 have:its=its':=by simpa using congrArg Array.toList d1
 subst this;exact r.inj r'
def Inv.tuple_inj(I:Inv X pins σ H s)(h:SqT X.K H a xs)(h':SqT X.K H a ys):xs=ys:=by
 obtain⟨its,r,⟨o,e,_,n,d⟩,_⟩:=I.tuple h;obtain⟨its',r',⟨o',e',_,n',d'⟩,_⟩:=I.tuple h';rw[e]at e';cases e';rw[d]at d';injection d' with d1 _
 have:its=its':=by simpa using congrArg Array.toList d1
 subst this;exact r.inj r'
end
abbrev Cx.wish(X:Cx)(E:Value->Shared->Prop):Cx:={X with xe:=E}
abbrev Cx.nox(X:Cx):Cx:=X.wish λ_ _=>False
theorem Cx.Ok.wish{X:Cx}(ok:X.Ok)(E:Value->Shared->Prop):(X.wish E).Ok:=
 ⟨ok.mod,ok.kind,ok.glob,ok.blt,ok.above,ok.inj,ok.has,ok.cab,ok.hd,ok.frames,ok.stk,ok.exf,ok.bs,ok.bsz,ok.noex,ok.exfs,ok.funs,ok.frf⟩
def Cx.Ok.unwish{X:Cx}{E:Value->Shared->Prop}(ok:(X.wish E).Ok):X.Ok:=
 ⟨ok.mod,ok.kind,ok.glob,ok.blt,ok.above,ok.inj,ok.has,ok.cab,ok.hd,ok.frames,ok.stk,ok.exf,ok.bs,ok.bsz,ok.noex,ok.exfs,ok.funs,ok.frf⟩
section
variable{X:Cx}{pins:List (Addr×Obj)}{σ:St}{H:Hp}{s:Shared}{E:Value->Shared->Prop}
theorem Inv.wish(I:Inv X pins σ H s)(E:Value->Shared->Prop):Inv (X.wish E) pins σ H s:=⟨I.ok.wish E,I.os,I.bare,I.base,I.loc,I.cell,I.free,I.freeC,I.pin,I.hok,I.len⟩
theorem Inv.unwish(I:Inv (X.wish E) pins σ H s):Inv X pins σ H s:=⟨I.ok.unwish,I.os,I.bare,I.base,I.loc,I.cell,I.free,I.freeC,I.pin,I.hok,I.len⟩
theorem SP.unwish{D:Ends}{f:Flow}{s':Shared}(h:SP (X.wish E) pins D f s'):SP X pins D f s':=by
 cases f with
 |next=>obtain⟨σ',H',I,q⟩:=h;exact⟨σ',H',I.unwish,q⟩
 |brk=>obtain⟨σ',H',I,q⟩:=h;exact⟨σ',H',I.unwish,q⟩
 |cont=>obtain⟨σ',H',I,q⟩:=h;exact⟨σ',H',I.unwish,q⟩
 |ret u=>obtain⟨v,σ',H',I,r,q⟩:=h;exact⟨v,σ',H',I.unwish,r,q⟩
theorem PSs.nox{st:List Stmt}{t:TS}(h:PSs X.nox st t):PSs X st t:=λpins s σ H D I hw=>
 bKf (h pins s σ H D (I.wish _) hw) (λ_ _ q=>q.unwish) λ_ _ z=>False.elim z
end
section
variable{X:Cx}{st:Stmt}{rest:List Stmt}{t u:TS}{e:Expr}{te:TE}{pos:Pos}
def aU2:TS:=λD σ H=>D.nx σ H
def bF8(t u:TS):TS:=λD σ H=>t {D with nx:=u D} σ H
def aJk:PSs X [] aU2:=λ_ _ σ H _ I h=>bMm ⟨σ,H,I,h⟩
def pH(h1:PS X st t)(h2:PSs X rest u):PSs X (st::rest) (bF8 t u):=by
 intro pins s σ H D I h;refine wpAny_execs_cons (thn (h1 pins s σ H {D with nx:=u D} I h) λf s1 q=>?_)
 cases f with
 |next=>
  obtain⟨σ',H',I',q⟩:=q;exact h2 pins s1 σ' H' D I' q
 |ret v=>exact q
 |brk=>exact q
 |cont=>exact q
def rR(h1:PS X st t):PSs X [st] t:=by
 intro pins s σ H D I h;refine wpAny_execs_cons (thn (h1 pins s σ H D I h) λf s1 q=>?_)
 cases f with
 |next=>exact bMm q
 |ret v=>exact q
 |brk=>exact q
 |cont=>exact q
def Inv.quiet{pins:List (Addr×Obj)}{σ:St}{H:Hp}{s:Shared}(I:Inv X pins σ H s):interactive X.env=false:=by simp[interactive,I.ok.kind]
def bBg(te:TE):TS:=λD σ H=>te σ H λ_ H1=>D.nx σ H1
def aPv(he:PE X e te)(hs:swapsWith e none pos.line X.env=pure false:=by rfl):PS X (.Expr e pos) (bBg te):=by
 intro pins s σ H D I h;exact wpAny_Expr_any (thn (he pins s σ H _ I h) λv s1 ⟨x,H1,I1,r1,q1⟩=>⟨σ,H1,I1,q1⟩) I.quiet hs
def bHq(te:TE):TS:=λD σ H=>te σ H D.rt
def aNq(he:PE X e te):PS X (.Return (some e) pos) (bHq te):=by
 intro pins s σ H D I h;exact wpAny_Return_some (thn (he pins s σ H _ I h) λv s1 ⟨x,H1,I1,r1,q1⟩=>⟨x,σ,H1,I1,r1,q1⟩)
def bCb(c:TT)(t u:TS):TS:=λD σ H=>c σ H λb H1=>if b=true then t D σ H1 else u D σ H1
def aU3{c:Expr}{a b:List Stmt}{tc:TT}(hc:PT X c tc)(ha:PSs X a t)(hb:PSs X b u):PS X (.If c a b pos) (bCb tc t u):=by
 intro pins s σ H D I h;refine wpAny_If (thn (hc pins s σ H _ I h) λd s1 ⟨H1,I1,q1⟩=>?_)
 cases d with
 |true=>exact ha pins s1 σ H1 D I1 q1
 |false=>exact hb pins s1 σ H1 D I1 q1
end
abbrev TG:=V->St->Hp->(St->Hp->Prop)->Prop
abbrev TGs:=List V->St->Hp->(St->Hp->Prop)->Prop
def PG(X:Cx)(target:Expr)(t:TG):Prop:=
 ∀(pins:List (Addr×Obj)) (s:Shared) (σ:St) (H:Hp) (v:V) (u:Value) (Q:St->Hp->Prop),Inv X pins σ H s->RelV v u->t v σ H Q->
  wpAny (model X.prog X.w) X.A (assign target X.env u) (λ_ s'=>∃σ' H',Inv X pins σ' H' s'/\Q σ' H') X.xe s
def PGs(X:Cx)(ts:List Expr)(t:TGs):Prop:=
 ∀(pins:List (Addr×Obj)) (s:Shared) (σ:St) (H:Hp) (vs:List V) (us:List Value) (Q:St->Hp->Prop),Inv X pins σ H s->Vals vs us->t vs σ H Q->
  wpAny (model X.prog X.w) X.A (assignInOrder ((assignEach ts X.env).map (·.2)) us) (λ_ s'=>∃σ' H',Inv X pins σ' H' s'/\Q σ' H') X.xe s
abbrev bCc:=V->V->V->Hp->(Hp->Prop)->Prop
def bCd(X:Cx)(t:bCc):Prop:=
 ∀(pins:List (Addr×Obj)) (s:Shared) (σ:St) (H:Hp) (o i v:V) (ov iv u:Value) (Q:Hp->Prop),Inv X pins σ H s->RelV o ov->RelV i iv->RelV v u->t o i v H Q->
  wpAny (model X.prog X.w) X.A (setItem ov iv u) (λ_ s'=>∃H',Inv X pins σ H' s'/\Q H') X.xe s
section
variable{X:Cx}{pos:Pos}
def aU4(i:Nat):TG:=λv σ H Q=>Q (σ.set i (some v)) H
def aJl{i:Nat}{x:Str}(hN:X.N.Nodup)(hi:X.N[i]?=some x)(hx:Loc X.env.scope x)(hf:X.fn x=true\/X.env.scope.names.lookup x=some .local:=by first|exact .inl rfl|exact .inr rfl|assumption):PG X (.Name x pos) (aU4 i):=by
 intro pins s σ H v u Q I r h;exact wpAny_assign_Name (aLc I hN hi hx r (λs' I'=>⟨_,H,I',h⟩) hf)
def bHr:TGs:=λvs σ H Q=>vs=[]/\Q σ H
def bF9(t:TG)(u:TGs):TGs:=λvs σ H Q=>∃v r,vs=v::r/\t v σ H λσ' H'=>u r σ' H' Q
def aYe:PGs X [] bHr:=by
 intro pins s σ H vs us Q I r h;obtain⟨e,h⟩:=h;subst e;cases r;exact assignInOrder_nil ⟨σ,H,I,h⟩
def aU5{e:Expr}{es:List Expr}{t:TG}{u:TGs}(h1:PG X e t)(h2:PGs X es u)
  (hs:(assignEach (e::es) X.env).map (·.2)=assign e X.env::(assignEach es X.env).map (·.2):=by rfl):PGs X (e::es) (bF9 t u):=by
 intro pins s σ H vs us Q I r h;obtain⟨v,vr,e1,h⟩:=h;subst e1;cases r with
 |cons r rr=>
  rw[hs];refine assignInOrder_cons (thn (h1 pins s σ H _ _ _ I r h) λ_ s1 ⟨σ1,H1,I1,q1⟩=>?_)
  exact h2 pins s1 σ1 H1 _ _ Q I1 rr q1
def bHs(K:PySem.W.Frag)(n:Nat)(t:TGs):TG:=λv σ H Q=>∃a xs,v=.ref a/\SqT K H a xs/\xs.length=n/\t xs σ H Q
def bCe{es:List Expr}{k:Nat}{t:TGs}{n:Nat}(hc:X.calm=true)(h:PGs X es t)
  (hn:(assignEach es X.env).length=n:=by rfl) (hst:(assignEach es X.env).findIdx? (·.1)=none:=by rfl):PG X (.Tuple es k pos) (bHs X.K n t):=by
 intro pins s σ H v u Q I r hw;obtain⟨a,xs,e1,hq,hl,hw⟩:=hw;subst e1;cases r;obtain⟨its,rv,ht,hz⟩:=I.tuple hq;refine assign_Tuple_tuple (I.ok.hd hc) ht (by simp[hn,<-hl,rv.length]) hst λh' hx=>?_
 have I1:Inv X pins σ H {s with heap:=h'}:=I.kept (t':=s.toks) λb o e=>hx b o (bJm (bJ2 e)) e
 exact h pins _ σ H xs _ Q I1 (by simpa using rv) hw
def bHt(to ti:TE)(t:bCc):TG:=λv σ H Q=>to σ H λo H1=>ti σ H1 λi H2=>t o i v H2 λH3=>Q σ H3
def aU6{o i:Expr}{to ti:TE}{t:bCc}(ho:PE X o to)(hi:PE X i ti)(hs:bCd X t)
  (ha:∀v,assign (.Subscript o i pos) X.env v=(do
   let ov <- holding [v] (eval o X.env)
   let iv <- holding [v,ov] (eval i X.env)
   standAt pos
   holding [v,ov,iv] (setItem ov iv v)
   release [v,ov,iv] []):=by intro _;rfl):PG X (.Subscript o i pos) (bHt to ti t):=by
 intro pins s σ H v u Q I r h;rw[ha];refine bIh (bK7 (thn (ho pins s σ H _ I h) λov s1 ⟨x,H1,I1,r1,q1⟩=>?_))
 refine bIh (bK7 (thn (hi pins s1 σ H1 _ I1 q1) λiv s2 ⟨y,H2,I2,r2,q2⟩=>?_))
 refine bIh (bLg (bIh (bK7 (thn (hs pins s2 σ H2 x y v ov iv u _ I2 r1 r2 r q2) λ_ s3 ⟨H3,I3,q3⟩=>?_))))
 exact wpAny_release ⟨σ,H3,I3,q3⟩
def bCf(te:TE)(g:TG):TS:=λD σ H=>te σ H λx H1=>g x σ H1 D.nx
def aNr{tg e:Expr}{te:TE}{g:TG}(he:PE X e te)(hg:PG X tg g)(hs:swapsWithSole [tg] e pos.line X.env=pure false:=by rfl)(hw:swappedStores [tg] e X.env=pure none:=by rfl)
  (h1:(assignEach [tg] X.env).map (·.2)=[assign tg X.env]:=by rfl):PS X (.Assign [tg] e pos) (bCf te g):=by
 intro pins s σ H D I h;refine wpAny_Assign_stores (thn (he pins s σ H _ I h) λv s1 ⟨x,H1,I1,r1,q1⟩=>?_) hs hw
 rw[h1];exact thn (hg pins s1 σ H1 x v _ I1 r1 q1) λ_ s2 q=>q
def aD7{i:Nat}{x:Str}{e:Expr}{te:TE}{pos':Pos}(hN:X.N.Nodup)(hi:X.N[i]?=some x)(hx:Loc X.env.scope x)(he:PE X e te)(hs:swapsWith e (some (.Name x pos')) pos.line X.env=pure false:=by rfl)(hf:X.fn x=true\/X.env.scope.names.lookup x=some .local:=by first|exact .inl rfl|exact .inr rfl|assumption) :
  PS X (.Assign [.Name x pos'] e pos) (bCf te (aU4 i)):=by
 intro pins s σ H D I h;refine wpAny_Assign_Name (thn (he pins s σ H _ I h) λv s1 ⟨y,H1,I1,r1,q1⟩=>?_) hs
 exact aLc I1 hN hi hx r1 (λs2 I2=>⟨_,H1,I2,q1⟩) hf
end
section
variable{X:Cx}{pos:Pos}
def bCg(c:TT)(tb:TS):TS:=λD σ H=>∃W:Nat->St->Hp->Prop,(∃m,W m σ H)/\∀m σ H,W m σ H->
 c σ H λb H1=>if b=true then ∃N:St->Hp->Prop,(∀σ' H',N σ' H'->∃m',m' < m/\W m' σ' H')/\tb {D with nx:=N,ct:=N,bk:=D.nx} σ H1 else D.nx σ H1
def aU7{c:Expr}{body:List Stmt}{tc:TT}{tb:TS}(hp:PassesOwn (model X.prog X.w) X.A X.env X.xe)(hc:PT X c tc)(hb:PSs X body tb):PS X (.While c body [] pos) (bCg tc tb):=by
 intro pins s σ H D I h;obtain⟨W,⟨m0,w0⟩,turn⟩:=h;refine wpAny_While (codeAny_whileLoop (λn s'=>∃σ' H',Inv X pins σ' H' s'/\W n σ' H') ?_ m0 ⟨σ,H,I,w0⟩)
 rintro n s1 ⟨σ1,H1,I1,w1⟩;refine bKw hp (thn (hc pins s1 σ1 H1 _ I1 (turn n σ1 H1 w1)) λb s2 ⟨H2,I2,q2⟩=>?_)
 cases b with
 |true=>
  obtain⟨N,hN,q2⟩:=q2;rw[bIv rfl];refine bKw hp (thn (hb pins s2 σ1 H2 _ I2 q2) λf s3 q3=>?_)
  cases f with
  |next=>
   obtain⟨σ3,H3,I3,n3⟩:=q3;obtain⟨m',hm,w3⟩:=hN σ3 H3 n3;exact⟨m',hm,σ3,H3,I3,w3⟩
  |cont=>
   obtain⟨σ3,H3,I3,n3⟩:=q3;obtain⟨m',hm,w3⟩:=hN σ3 H3 n3;exact⟨m',hm,σ3,H3,I3,w3⟩
  |brk=>exact q3
  |ret v=>exact q3
 |false=>
  rw[bIt bJn];exact bMm ⟨σ1,H2,I2,q2⟩
end
structure It where
 go:Nat->Hp->Prop
 yld:Nat->Hp->V->Hp->Prop
 stop:Nat->Hp->Prop
def aBx(X:Cx)(pins:List (Addr×Obj))(H:Hp)(b:Addr):Prop:=
 H b=none/\b≠X.env.locals/\b∉X.fs/\(b∈X.ex\/X.s₀.heap.objs.size<=b)/\(∀x c,X.env.cells.lookup x=some c->c≠b)/\∀p∈X.pn++pins,p.1≠b
def Inv.fpOk{X:Cx}{pins:List (Addr×Obj)}{σ:St}{H H':Hp}{s:Shared}{b:Addr}(I:Inv X pins σ H s)(hb:s.heap.objs.size<=b)(hn:H' b=none):aBx X pins H' b:=by
 refine⟨hn,bOn (bJ1 I.lt hb),I.nofs hb,.inr (bJj I.sz hb),λx c e z=>?_,λp hp z=>?_⟩
 .obtain⟨v,q⟩:=I.cell x c e;exact absurd (bJ1 q.lt (by rw[z];exact hb)) (bJv _)
 .exact absurd (bJ1 (bJ2 (I.pin p hp).1) (by rw[z];exact hb)) (bJv _)
structure Turn(P:Program)(w:World)(K:PySem.W.Frag)(tg:Expr)(J:It)(fp:List Addr)(it:Addr)(tn:Nat->Heap->Prop):Prop where
 mem:it∈fp
 obj:∀i h,tn i h->∀b∈fp,∃o,h.get? b=some o/\∀v,o.data≠.cell v
 keep:∀i h h',tn i h->(∀b∈fp,∀o,h.get? b=some o->h'.get? b=some o)->tn i h'
 item:∀(X:Cx),X.prog=P->X.w=w->X.K=K->X.calm=true->∀(i:Nat) (pins:List (Addr×Obj)) (s:Shared) (σ:St) (H:Hp) (E:Value->Shared->Prop),Inv X pins σ H s->(∀b∈fp,aBx X pins H b)->tn i s.heap->J.go i H->
  wpAny (model P w) X.A (pyNext (.ref it)) (λr s1=>∃u,r=some u/\
   wpAny (model P w) X.A (letOwnedTupleGo tg (.ref it) u) (λ_ s2=>∃x H',Inv X pins σ H' s2/\RelV x u/\J.yld i H x H'/\tn (i+1) s2.heap/\∀b∈fp,H' b=none) E s1) E s
 done:∀(X:Cx),X.prog=P->X.w=w->X.K=K->X.calm=true->∀(i:Nat) (pins:List (Addr×Obj)) (s:Shared) (σ:St) (H:Hp) (E:Value->Shared->Prop),Inv X pins σ H s->(∀b∈fp,aBx X pins H b)->tn i s.heap->J.stop i H->
  wpAny (model P w) X.A (pyNext (.ref it)) (λr s1=>r=none/\Inv X pins σ H s1) E s
 self:∀(A:Around)(i:Nat)(s:Shared)(Q:Value->Shared->Prop)(E:Value->Shared->Prop),tn i s.heap->Q (.ref it) s->wpAny (model P w) A (pyIter (.ref it)) Q E s
abbrev TI:=St->Hp->(It->Hp->Prop)->Prop
def PIE(X:Cx)(pins:List (Addr×Obj))(σ:St)(tg:Expr)(R:It->Hp->Prop)(itv:Value)(s2:Shared):Prop:=
 ∃(it:Addr)(fp:List Addr)(tn:Nat->Heap->Prop)(J:It)(H':Hp),itv=.ref it/\Inv X pins σ H' s2/\Turn X.prog X.w X.K tg J fp it tn/\tn 0 s2.heap/\(∀b∈fp,aBx X pins H' b)/\R J H'
def PI(X:Cx)(tg iter:Expr)(wi:TI):Prop:=
 ∀(pins:List (Addr×Obj)) (s:Shared) (σ:St) (H:Hp) (R:It->Hp->Prop),Inv X pins σ H s->wi σ H R->
  wpAny (model X.prog X.w) X.A (eval iter X.env) (λv s1=>wpAny (model X.prog X.w) X.A (pyIter v) (PIE X pins σ tg R) X.xe s1) X.xe s
def aLe{M:Model}{A:Around}{E:Value->Shared->Prop}{s:Shared}{tg:Expr}{it:Addr}{u:Value}{o:Obj}{n:String}{vs:Array Value}{Q:Unit->Shared->Prop}(ho:s.heap.get? it=some o)(hc:o.cls=.type n)(hd:o.data=.fields vs)
  (hn:["enumerate","zip","dict_itemiterator","dict_reverseitemiterator","odict_iterator","itertools.zip_longest","itertools.pairwise"].contains n=false) (hQ:Q () s):wpAny M A (letOwnedTupleGo tg (.ref it) u) Q E s:=by
 unfold letOwnedTupleGo;cases tg<;>first
  |exact bIx hQ
  |(cases u<;>first
    |exact bIx hQ
    | (refine bIh (wpAny_load ho ?_)
       rw[hc,hd];show wpAny M A (if (["enumerate","zip","dict_itemiterator","dict_reverseitemiterator","odict_iterator","itertools.zip_longest","itertools.pairwise"].contains n&&vs[0]?==some (rawInt _))=true then _ else _) Q E s
       rw[bIt (by intro h;rw[hn,Bool.false_and]at h;cases h)]
       exact bIx hQ))
def Itl(K:PySem.W.Frag)(a:Addr):It:=
 ⟨λi H=>∃xs x,SqL K H a xs/\xs[i]?=some x,λi H x H'=>H'=H/\∀xs,SqL K H a xs->xs[i]?=some x,λi H=>∃xs,SqL K H a xs/\xs.length<=i⟩
def Itt(K:PySem.W.Frag)(a:Addr):It:=
 ⟨λi H=>∃xs x,SqT K H a xs/\xs[i]?=some x,λi H x H'=>H'=H/\∀xs,SqT K H a xs->xs[i]?=some x,λi H=>∃xs,SqT K H a xs/\xs.length<=i⟩
def Itr(lo:Int)(n:Nat):It:=⟨λi _=>i<n,λi H x H'=>H'=H/\x=.int (lo+i),λi _=>n<=i⟩
def aI8{P:Program}{w:World}{K:PySem.W.Frag}{tg:Expr}(a it:Addr):Turn P w K tg (Itl K a) [it] it (λi h=>h.IsListIter it a i) where
 mem:=by simp
 obj:=λi h st b hb=>by
  have e:b=it:=by simpa using hb
  subst e;obtain⟨o,e,c,d⟩:=st;exact⟨o,e,λv z=>by rw[d]at z;cases z⟩
 keep:=λi h h' st k=>st.at λo e=>k it (by simp) o e
 item:=by
  intro X hP hw hK hc i pins s σ H E I hf st hg;subst hP hw hK;obtain⟨xs,x,hq,hx⟩:=hg;obtain⟨its,rv,p,hz⟩:=I.list hq;obtain⟨u,hu,ru⟩:=rv.get hx;obtain⟨f0,f1,f2,f3,f4,f5⟩:=hf it (by simp)
  refine wpAny_pyNext_list_item st p.isList (x:=u) (by simpa using hu) λh' st' sb=>?_
  have I1:Inv X pins σ H {s with heap:=h'}:=I.turned (t':=s.toks) (λb o hb e=>(sb.2 b hb).trans e) f0 f1 f3 f4 f5
  obtain⟨o,e,c,d⟩:=id st';exact⟨u,rfl,aLe (s:={s with heap:=h'}) e c d (by decide) ⟨x,H,I1,ru,⟨rfl,λys hy=>by rw[I.list_inj hy hq];exact hx⟩,st',λb hb=>(hf b hb).1⟩⟩
 done:=by
  intro X hP hw hK hc i pins s σ H E I hf st hg;subst hP hw hK;obtain⟨xs,hq,hx⟩:=hg;obtain⟨its,rv,p,hz⟩:=I.list hq;obtain⟨f0,f1,f2,f3,f4,f5⟩:=hf it (by simp)
  have hl:=rv.length;exact wpAny_pyNext_list_end (I.ok.hd hc) st p.isList (by simp;omega) λh' eb=>⟨rfl,I.turned (t':=s.toks) (λb o hb e=>eb b o hb e) f0 f1 f3 f4 f5⟩
 self:=λ_ _ _ _ _ st h=>wpAny_pyIter_listiter st h
def aFs{P:Program}{w:World}{K:PySem.W.Frag}{tg:Expr}(a it:Addr):Turn P w K tg (Itt K a) [it] it (λi h=>h.IsTupleIter it a i) where
 mem:=by simp
 obj:=λi h st b hb=>by
  have e:b=it:=by simpa using hb
  subst e;obtain⟨o,e,c,d⟩:=st;exact⟨o,e,λv z=>by rw[d]at z;cases z⟩
 keep:=λi h h' st k=>st.at λo e=>k it (by simp) o e
 item:=by
  intro X hP hw hK hc i pins s σ H E I hf st hg;subst hP hw hK;obtain⟨xs,x,hq,hx⟩:=hg;obtain⟨its,rv,p,hz⟩:=I.tuple hq;obtain⟨u,hu,ru⟩:=rv.get hx;obtain⟨f0,f1,f2,f3,f4,f5⟩:=hf it (by simp)
  refine wpAny_pyNext_tuple_item st (show s.heap.IsTuple a its.toArray from p) (x:=u) (by simpa using hu) λh' st' sb=>?_
  have I1:Inv X pins σ H {s with heap:=h'}:=I.turned (t':=s.toks) (λb o hb e=>(sb.2 b hb).trans e) f0 f1 f3 f4 f5
  obtain⟨o,e,c,d⟩:=id st';exact⟨u,rfl,aLe (s:={s with heap:=h'}) e c d (by decide) ⟨x,H,I1,ru,⟨rfl,λys hy=>by rw[I.tuple_inj hy hq];exact hx⟩,st',λb hb=>(hf b hb).1⟩⟩
 done:=by
  intro X hP hw hK hc i pins s σ H E I hf st hg;subst hP hw hK;obtain⟨xs,hq,hx⟩:=hg;obtain⟨its,rv,p,hz⟩:=I.tuple hq;obtain⟨f0,f1,f2,f3,f4,f5⟩:=hf it (by simp)
  have hl:=rv.length;exact wpAny_pyNext_tuple_end (I.ok.hd hc) st (show s.heap.IsTuple a its.toArray from p) (by simp;omega) λh' eb=>⟨rfl,I.turned (t':=s.toks) (λb o hb e=>eb b o hb e) f0 f1 f3 f4 f5⟩
 self:=λ_ _ _ _ _ st h=>wpAny_pyIter_tupleiter st h
def aNs{P:Program}{w:World}{K:PySem.W.Frag}{tg:Expr}(it:Addr)(lo:Int)(n:Nat):Turn P w K tg (Itr lo n) [it] it (λi h=>IsRangeIter h it (lo+(i:Nat)*1) ((n:Int)-(i:Nat)) 1) where
 mem:=by simp
 obj:=λi h st b hb=>by
  have e:b=it:=by simpa using hb
  subst e;exact⟨_,st,λv z=>by
   have z':Data.fields _=Data.cell v:=z;cases z'⟩
 keep:=λi h h' st k=>k it (by simp) _ st
 item:=by
  intro X hP hw hK hc i pins s σ H E I hf st hg;subst hP hw hK;obtain⟨f0,f1,f2,f3,f4,f5⟩:=hf it (by simp)
  have W:=Walks.range (prog:=X.prog) (w:=X.w) (I.ok.hd hc) it lo 1 n;refine W.item i s _ _ hg st λv h' tk hv st' kk=>?_
  obtain⟨t,rfl⟩:=hv;have I1:Inv X pins σ H {s with heap:=h',toks:=tk}:=I.turned (λb o hb e=>kk b o (by simpa using hb) e) f0 f1 f3 f4 f5
  refine⟨_,rfl,aLe (s:={s with heap:=h',toks:=tk}) (n:="range_iterator") st' rfl rfl (by decide) ⟨.int (lo+i),H,I1,⟨t,?_⟩,⟨rfl,rfl⟩,st',λb hb=>(hf b hb).1⟩⟩
  rw[Int.mul_one]
 done:=by
  intro X hP hw hK hc i pins s σ H E I hf st hg;subst hP hw hK;obtain⟨f0,f1,f2,f3,f4,f5⟩:=hf it (by simp)
  exact wpAny_pyNext_range_end (I.ok.hd hc) st (by have:n<=i:=hg;omega) λh' eb=>⟨rfl,I.turned (t':=s.toks) (λb o hb e=>eb b o hb e) f0 f1 f3 f4 f5⟩
 self:=λ_ _ _ _ _ st h=>wpAny_pyIter_rangeiter st h
end L2
namespace L2
open PySem PySem.Spec PyProof.Rows
section
variable{X:Cx}{tg:Expr}
def bFa(K:PySem.W.Frag)(tl:TE):TI:=λσ H R=>tl σ H λx H1=>∃a,x=.ref a/\(∃xs,SqL K H1 a xs)/\R (Itl K a) H1
def aNt(K:PySem.W.Frag)(tl:TE):TI:=λσ H R=>tl σ H λx H1=>∃a,x=.ref a/\(∃xs,SqT K H1 a xs)/\R (Itt K a) H1
def aYf{l:Expr}{tl:TE}(hl:PE X l tl):PI X tg l (bFa X.K tl):=by
 intro pins s σ H R I h;refine thn (hl pins s σ H _ I h) λv s1 ⟨x,H1,I1,r1,q1⟩=>?_
 obtain⟨a,e,⟨xs,hq⟩,q⟩:=q1;subst e;cases r1;obtain⟨its,rv,p,hz⟩:=I1.list hq;refine bLh p.isList ?_
 refine⟨s1.heap.objs.size,[s1.heap.objs.size],_,_,H1,rfl,I1.kept (t':=s1.toks) λb o e=>bIi _ e,aI8 a _,⟨_,bIy _ rfl,rfl,rfl⟩,λb hb=>?_,q⟩
 have e:b=s1.heap.objs.size:=by simpa using hb
 subst e;exact I1.fpOk (bIn _) (I1.hok.fresh (bIn _))
def aU8{l:Expr}{tl:TE}(hl:PE X l tl):PI X tg l (aNt X.K tl):=by
 intro pins s σ H R I h;refine thn (hl pins s σ H _ I h) λv s1 ⟨x,H1,I1,r1,q1⟩=>?_
 obtain⟨a,e,⟨xs,hq⟩,q⟩:=q1;subst e;cases r1;obtain⟨its,rv,p,hz⟩:=I1.tuple hq;refine wpAny_pyIter_tuple (show s1.heap.IsTuple a its.toArray from p) ?_
 refine⟨s1.heap.objs.size,[s1.heap.objs.size],_,_,H1,rfl,I1.kept (t':=s1.toks) λb o e=>bIi _ e,aFs a _,⟨_,bIy _ rfl,rfl,rfl⟩,λb hb=>?_,q⟩
 have e:b=s1.heap.objs.size:=by simpa using hb
 subst e;exact I1.fpOk (bIn _) (I1.hok.fresh (bIn _))
def aLf{pins:List (Addr×Obj)}{σ:St}{H:Hp}{s:Shared}{R:It->Hp->Prop}{E:Value->Shared->Prop}{lo hi:Int}{t u v:Tok}{tk:Nat}(I:Inv X pins σ H s)(h1 : -(2^62)<=lo)(h2:lo<2^62)(h3 : -(2^62)<=hi)(h4:hi<2^62)
  (q:R (Itr lo (hi-lo).toNat) H):wpAny (model X.prog X.w) X.A (pyIter (.ref s.heap.objs.size)) (PIE X pins σ tg R) E {s with heap:=s.heap.push {cls:=.type "range",data:=.fields #[.int lo t,.int hi u,.int 1 v]},toks:=tk}:=by
 refine wpAny_pyIter_range (IsRange.new ..) (small_one h1 h2 h3 h4) ?_
 have I1:Inv X pins σ H {s with heap:=s.heap.push {cls:=.type "range",data:=.fields #[.int lo t,.int hi u,.int 1 v]},toks:=tk}:=I.kept λb o e=>bIi _ e
 refine⟨(s.heap.push {cls:=.type "range",data:=.fields #[.int lo t,.int hi u,.int 1 v]}).objs.size,[(s.heap.push {cls:=.type "range",data:=.fields #[.int lo t,.int hi u,.int 1 v]}).objs.size],_,_,H,rfl,
  I1.kept (t':=tk) λb o e=>bIi _ e,aNs _ lo (hi-lo).toNat,?_,λb hb=>?_,q⟩
 .have e1:lo+((0:Nat):Int)*1=lo:=by simp
  have e2:(((hi-lo).toNat:Nat):Int)-((0:Nat):Int)=Builtin.Range.rangeSize lo hi 1:=by rw[rangeSize_one];split<;>omega
  show IsRangeIter _ _ (lo+((0:Nat):Int)*1) ((((hi-lo).toNat:Nat):Int)-((0:Nat):Int)) 1;rw[e1,e2];exact bIy _ rfl
 .have e:b=(s.heap.push {cls:=.type "range",data:=.fields #[.int lo t,.int hi u,.int 1 v]}).objs.size:=by simpa using hb
  subst e;exact I1.fpOk (bIn _) (I1.hok.fresh (bIn _))
def bFb(ta:TA):TI:=λσ H R=>ta σ H λvs H1=>∃j:Int,vs=[.int j]/\-(2^62)<=j/\j<2^62/\R (Itr 0 j.toNat) H1
def bFc(ta:TA):TI:=λσ H R=>ta σ H λvs H1=>∃i j:Int,vs=[.int i,.int j]/\(-(2^62)<=i/\i<2^62/\-(2^62)<=j/\j<2^62)/\R (Itr i (j-i).toNat) H1
def aS8{a:Expr}{ta:TA}{p pos:Pos}(hg:Gl X "range")(hm:X.mg "range"=none)(ha:PA X [a] ta)(hs:starEach [a] X.env=[(false,eval a X.env)]:=by rfl):PI X tg (.Call (.Name "range" p) [a] [] pos) (bFb ta):=by
 intro pins s σ H R I h;refine Call_ (xW I hg hm boot_range (bKb (thn (ha pos pins s σ H _ I h) λus s1 ⟨vs,H1,I1,r1,q1⟩=>?_) hs rfl))
 obtain⟨j,e,q1,q2,q⟩:=q1;subst e;cases r1 with
 |cons r rr=>
  cases rr;obtain⟨t,rfl⟩:=r;exact call_range_1 (aLf I1 (by omega) (by omega) q1 q2 (by simpa using q))
def aS9{a b:Expr}{ta:TA}{p pos:Pos}(hg:Gl X "range")(hm:X.mg "range"=none)(ha:PA X [a,b] ta)(hs:starEach [a,b] X.env=[(false,eval a X.env),(false,eval b X.env)]:=by rfl)(hs2:starEach [b] X.env=[(false,eval b X.env)]:=by rfl) :
  PI X tg (.Call (.Name "range" p) [a,b] [] pos) (bFc ta):=by
 intro pins s σ H R I h;refine Call_ (xW I hg hm boot_range (bKb (thn (ha pos pins s σ H _ I h) λus s1 ⟨vs,H1,I1,r1,q1⟩=>?_) (by rw[hs,hs2]) (by rw[hs2];rfl)))
 obtain⟨i,j,e,⟨q1,q2,q3,q4⟩,q⟩:=q1;subst e;cases r1 with
 |cons r rr=>
  cases rr with
  |cons r' rr=>
   cases rr;obtain⟨t,rfl⟩:=r;obtain⟨t',rfl⟩:=r';exact call_range_2 (aLf I1 q1 q2 q3 q4 q)
def bHu(wi:TI)(g:TG)(tb:TS):TS:=λD σ H=>wi σ H λJ H1=>∃W:Nat->Nat->St->Hp->Prop,(∃m,W 0 m σ H1)/\∀i m σ H,W i m σ H->
 (J.stop i H/\D.nx σ H)\/(J.go i H/\∃N:St->Hp->Prop,(∀σ' H',N σ' H'->∃m',m' < m/\W (i+1) m' σ' H')/\∀x H',J.yld i H x H'->g x σ H' λσ2 H2=>tb {D with nx:=N,ct:=N,bk:=D.nx} σ2 H2)
def aJm(fp:List Addr)(h:Heap):List (Addr×Obj):=fp.filterMap λb=>(h.get? b).map λo=>(b,o)
def vI{fp:List Addr}{h:Heap}{b:Addr}{o:Obj}(hb:b∈fp)(e:h.get? b=some o):(b,o)∈aJm fp h:=List.mem_filterMap.mpr ⟨b,hb,by rw[e];rfl⟩
def aSa{fp:List Addr}{h:Heap}{p:Addr×Obj}(hp:p∈aJm fp h):p.1∈fp/\h.get? p.1=some p.2:=by
 obtain⟨b,hb,e⟩:=List.mem_filterMap.mp hp;cases q:h.get? b with
 |none=>rw[q]at e;cases e
 |some o=>
  rw[q]at e;have e':(b,o)=p:=bJ3 e;subst e';exact⟨hb,q⟩
def Inv.pinned{pins:List (Addr×Obj)}{σ:St}{H:Hp}{s:Shared}{fp:List Addr}(I:Inv X pins σ H s)(hf:∀b∈fp,aBx X pins H b)(ho:∀b∈fp,∃o,s.heap.get? b=some o/\∀v,o.data≠.cell v):Inv X (pins++aJm fp s.heap) σ H s:=
 I.pins_of λp hp=>(bJb.mp hp).elim (λz=>I.pin p (bIo _ z)) λz=>by
  obtain⟨hb,e⟩:=aSa z;obtain⟨f0,f1,f2,_⟩:=hf p.1 hb;obtain⟨o,e',d⟩:=ho p.1 hb;rw[e]at e';cases e';exact⟨e,f0,f1,f2,d⟩
def Inv.unpinned{pins pl:List (Addr×Obj)}{σ:St}{H:Hp}{s:Shared}(I:Inv X (pins++pl) σ H s):Inv X pins σ H s:=I.pins_of λp hp=>I.pin p (bIo _ (bIw _ hp))
def aJn{iter:Expr}{body:List Stmt}{wi:TI}{g:TG}{tb:TS}{pos:Pos}(hp:PassesOwn (model X.prog X.w) X.A X.env X.xe)(hc:X.calm=true)(hi:PI X tg iter wi)(hg:PG X tg g)(hb:PSs X body tb)
  (hs:∀x,foldedSetIterable iter X.env x=pure x:=by intro _;rfl):PS X (.For tg iter body [] pos) (bHu wi g tb):=by
 intro pins s σ H D I h;refine wpAny_For (thn (hi pins s σ H _ I h) λv s1 h1=>thn h1 λitv s2 h2=>?_) hs
 obtain⟨it,fp,tn,J,H2,e,I2,T,st2,f2,W,⟨m0,w0⟩,turn⟩:=h2;subst e;have stat:∀{H':Hp},(∀b∈fp,H' b=none)->∀b∈fp,aBx X pins H' b:=λhn b hb=>⟨hn b hb,(f2 b hb).2⟩
 refine codeAny_forLoop_any (λn s'=>∃i σ' H',Inv X pins σ' H' s'/\tn i s'.heap/\(∀b∈fp,H' b=none)/\W i n σ' H') ?_ m0 ⟨0,σ,H2,I2,st2,λb hb=>(f2 b hb).1,w0⟩
 rintro n s3 ⟨i,σ3,H3,I3,st3,fr3,w3⟩;rcases turn i n σ3 H3 w3 with ⟨stop,qn⟩|⟨go,N,hN,step⟩
 .refine bKw hp (thn (T.done X rfl rfl rfl hc i pins s3 σ3 H3 X.xe I3 (stat fr3) st3 stop) λr s4 ⟨hr,I4⟩=>?_)
  subst hr;exact bMm ⟨σ3,H3,I4,qn⟩
 .refine bKw hp (thn (T.item X rfl rfl rfl hc i pins s3 σ3 H3 X.xe I3 (stat fr3) st3 go) λr s4 ⟨u,hr,h4⟩=>?_)
  subst hr;refine bKw hp (thn h4 λ_ s5 ⟨x,H5,I5,r5,y5,st5,fr5⟩=>?_)
  have I5':=I5.pinned (stat fr5) (T.obj _ _ st5);refine bKw hp (thn (hg _ s5 σ3 H5 x u _ I5' r5 (step x H5 y5)) λ_ s6 ⟨σ6,H6,I6,q6⟩=>?_)
  refine bKw hp (thn (hb _ s6 σ6 H6 _ I6 q6) λf s7 q7=>?_)
  have again:∀{σ7:St}{H7:Hp},Inv X (pins++aJm fp s5.heap) σ7 H7 s7->N σ7 H7->∃m,m<n/\∃i σ' H',Inv X pins σ' H' s7/\tn i s7.heap/\(∀b∈fp,H' b=none)/\W i m σ' H':=λ{σ7 H7} I7 n7=>by
   obtain⟨m',hm,w7⟩:=hN σ7 H7 n7;refine⟨m',hm,i+1,σ7,H7,I7.unpinned,T.keep _ _ _ st5 λb hb o e=>(I7.pin (b,o) (bIo _ (bIo _ (vI hb e)))).1,λb hb=>?_,w7⟩
   obtain⟨o,e,d⟩:=T.obj _ _ st5 b hb;exact(I7.pin (b,o) (bIo _ (bIo _ (vI hb e)))).2.1
  cases f with
  |next=>obtain⟨σ7,H7,I7,n7⟩:=q7;exact again I7 n7
  |cont=>obtain⟨σ7,H7,I7,n7⟩:=q7;exact again I7 n7
  |brk=>obtain⟨σ7,H7,I7,q7⟩:=q7;exact⟨σ7,H7,I7.unpinned,q7⟩
  |ret v=>obtain⟨x7,σ7,H7,I7,r7,q7⟩:=q7;exact⟨x7,σ7,H7,I7.unpinned,r7,q7⟩
end
end L2
namespace L2
open PySem PySem.Spec PyProof.Rows
abbrev R2:=V->V->Hp->VK->Prop
def OpR(X:Cx)(f:Value->Value->Sem Value)(r:R2):Prop:=
 ∀(pins:List (Addr×Obj)) (s:Shared) (σ:St) (H:Hp) (x y:V) (v u:Value) (Q:VK),Inv X pins σ H s->RelV x v->RelV y u->r x y H Q->
  wpAny (model X.prog X.w) X.A (f v u) (EP X pins σ Q) X.xe s
def UnR(X:Cx)(f:Value->Sem Value)(r:V->Hp->VK->Prop):Prop:=
 ∀(pins:List (Addr×Obj)) (s:Shared) (σ:St) (H:Hp) (x:V) (v:Value) (Q:VK),Inv X pins σ H s->RelV x v->r x H Q->
  wpAny (model X.prog X.w) X.A (f v) (EP X pins σ Q) X.xe s
def nA(X:Cx)(f:Value)(r:List V->Hp->VK->Prop):Prop:=
 ∀(pins:List (Addr×Obj)) (s:Shared) (σ:St) (H:Hp) (xs:List V) (us:List Value) (Q:VK),Inv X pins σ H s->Vals xs us->r xs H Q->
  wpAny (model X.prog X.w) X.A (call f us) (EP X pins σ Q) X.xe s
def tOp(r:R2)(ta tb:TE):TE:=λσ H Q=>ta σ H λx H1=>tb σ H1 λy H2=>r x y H2 Q
def tUn(r:V->Hp->VK->Prop)(ta:TE):TE:=λσ H Q=>ta σ H λx H1=>r x H1 Q
def rI(C:Int->Int->Prop)(g:Int->Int->V):R2:=λx y H Q=>∃i j,x=.int i/\y=.int j/\C i j/\Q (g i j) H
def rI0(g:Int->Int->V):R2:=λx y H Q=>∃i j,x=.int i/\y=.int j/\Q (g i j) H
def rU(g:Int->V):V->Hp->VK->Prop:=λx H Q=>∃i,x=.int i/\Q (g i) H
section
variable{X:Cx}{a b c:Expr}{ta tb tc:TE}{pos:Pos}
def bCh(ha:PE X a ta)(hb:PE X b tb){pins:List (Addr×Obj)}{s:Shared}{σ:St}{H:Hp}{R:V->V->Hp->Prop}(I:Inv X pins σ H s)
  (h:ta σ H λx H1=>tb σ H1 λy H2=>R x y H2) {Q:Value->Shared->Prop} {f:Value->Value->Sem Value}
  (hf:∀v u s2 x y H2,Inv X pins σ H2 s2->RelV x v->RelV y u->R x y H2->wpAny (model X.prog X.w) X.A (f v u) Q X.xe s2) :
  wpAny (model X.prog X.w) X.A (eval a X.env) (λv s₁=>wpAny (model X.prog X.w) X.A (eval b X.env) (λu s₂=>wpAny (model X.prog X.w) X.A (f v u) Q X.xe s₂) X.xe s₁) X.xe s:=by
 refine thn (ha pins s σ H _ I h) λv s1 ⟨x,H1,I1,r1,q1⟩=>?_
 refine thn (hb pins s1 σ H1 _ I1 q1) λu s2 ⟨y,H2,I2,r2,q2⟩=>?_
 exact hf v u s2 x y H2 I2 r1 r2 q2
def bBh{op:Operator}{r:R2}(ho:OpR X (binaryOp op) r)(ha:PE X a ta)(hb:PE X b tb):PE X (.BinOp a op b pos) (tOp r ta tb):=by
 intro pins s σ H Q I h;exact wpAny_BinOp (bCh ha hb I h λv u s2 x y H2 I2 rx ry q=>ho pins s2 σ H2 x y v u Q I2 rx ry q)
def bFd{op:UnaryOp}{r:V->Hp->VK->Prop}(ho:UnR X (unaryOp op) r)(ha:PE X a ta):PE X (.UnaryOp op a pos) (tUn r ta):=by
 intro pins s σ H Q I h;exact UnaryOp_ (thn (ha pins s σ H _ I h) λv s1 ⟨x,H1,I1,r1,q1⟩=>ho pins s1 σ H1 x v Q I1 r1 q1)
def opI{f:Value->Value->Sem Value}{C:Int->Int->Prop}{g:Int->Int->Int}
  (rule:∀(i j:Int)(t u:Tok)(s:Shared)(Q:Value->Shared->Prop)(E:Value->Shared->Prop),C i j->Q (.int (g i j) s.toks) {s with toks:=s.toks+1}->wpAny (model X.prog X.w) X.A (f (.int i t) (.int j u)) Q E s) :
  OpR X f (rI C λi j=>.int (g i j)):=by
 intro pins s σ H x y v u Q I rx ry h;obtain⟨i,j,rfl,rfl,hc,q⟩:=h;obtain⟨t,rfl⟩:=rx;obtain⟨t',rfl⟩:=ry;exact rule i j t t' s _ _ hc ⟨.int (g i j),H,I.tok _,⟨_,rfl⟩,q⟩
def aYg{f:Value->Value->Sem Value}{g:Int->Int->Int}
  (rule:∀(i j:Int)(t u:Tok)(s:Shared)(Q:Value->Shared->Prop)(E:Value->Shared->Prop),Q (.int (g i j) s.toks) {s with toks:=s.toks+1}->wpAny (model X.prog X.w) X.A (f (.int i t) (.int j u)) Q E s) :
  OpR X f (rI0 λi j=>.int (g i j)):=by
 intro pins s σ H x y v u Q I rx ry h;obtain⟨i,j,rfl,rfl,q⟩:=h;obtain⟨t,rfl⟩:=rx;obtain⟨t',rfl⟩:=ry;exact rule i j t t' s _ _ ⟨.int (g i j),H,I.tok _,⟨_,rfl⟩,q⟩
def aYh{f:Value->Value->Sem Value}{g:Int->Int->Bool}
  (rule:∀(i j:Int)(t u:Tok)(s:Shared)(Q:Value->Shared->Prop)(E:Value->Shared->Prop),Q (.bool (g i j)) s->wpAny (model X.prog X.w) X.A (f (.int i t) (.int j u)) Q E s) :
  OpR X f (rI0 λi j=>.bl (g i j)):=by
 intro pins s σ H x y v u Q I rx ry h;obtain⟨i,j,rfl,rfl,q⟩:=h;obtain⟨t,rfl⟩:=rx;obtain⟨t',rfl⟩:=ry;exact rule i j t t' s _ _ ⟨.bl (g i j),H,I,rfl,q⟩
def bHv(i j:Int):Prop:=0<j/\j<1073741824
def bFe(i j:Int):Prop:=0<=j/\j<=1000000/\i.natAbs<2^64
def aU9(i j:Int):Prop:=(-(2^64)<i/\i<2^64)\/(-(2^64)<j/\j<2^64)
def aU9.ok{i j:Int}(h:aU9 i j):IntMulOk i j:=by
 rcases h with ⟨h1,h2⟩|⟨h1,h2⟩
 .exact .of_left (intBits_le_64 h1 h2)
 .exact .of_right (intBits_le_64 h1 h2)
def aNu(k:Nat):(0:Int)<=2^k:=by
 rw[two_pow_cast];exact bMw _
def aUa:OpR X (binaryOp .Add) (rI0 λi j=>.int (i+j)):=aYg λ_ _ _ _ _ _ _ q=>add_int q
def bCi:OpR X (binaryOp .Sub) (rI0 λi j=>.int (i-j)):=aYg λ_ _ _ _ _ _ _ q=>sub_int q
def bCj:OpR X (binaryOp .Mult) (rI aU9 λi j=>.int (i*j)):=opI λ_ _ _ _ _ _ _ hc q=>mul_int q hc.ok
def aYi:OpR X (binaryOp .FloorDiv) (rI bHv λi j=>.int (i/j)):=opI λi j _ _ _ _ _ hc q=>by
 have h1:(0:Int)<j:=hc.1;have h2:j<1073741824:=hc.2;exact floordiv_int (by omega) (by rw[bMu i (by omega)];exact q) (.inl (PyProof.noPylong_small (by omega)))
def bCk:OpR X (binaryOp .Mod) (rI (λ_ j=>0<j) λi j=>.int (i%j)):=opI λi j _ _ _ _ _ hc q=>by
 have h1:(0:Int)<j:=hc;exact mod_int' (by omega) (by rw[Int.fmod_eq_emod_of_nonneg i (by omega)];exact q)
def bCl:OpR X (binaryOp .Pow) (rI bFe λi j=>.int (i^j.toNat)):=opI λ_ _ _ _ _ _ _ hc q=>pow_int_small hc.1 hc.2.1 hc.2.2 q
def bCm:OpR X (binaryOp .LShift) (rI bFe λi j=>.int (i*2^j.toNat)):=opI λ_ _ _ _ _ _ _ hc q=>lshift_int_small hc.1 hc.2.1 hc.2.2 q
def bCn:OpR X (binaryOp .RShift) (rI (λ_ j=>0<=j) λi j=>.int (i/2^j.toNat)):=opI λi j _ _ _ _ _ hc q=>
 rshift_int hc (by rw[bMu i (aNu _)];exact q)
def bCo:OpR X (binaryOp .BitAnd) (rI0 λi j=>.int (Builtin.bitAnd i j)):=aYg λ_ _ _ _ _ _ _ q=>and_int q
def bFf:OpR X (binaryOp .BitOr) (rI0 λi j=>.int (Builtin.bitOr i j)):=aYg λ_ _ _ _ _ _ _ q=>or_int q
def unI{f:Value->Sem Value}{g:Int->Int}
  (rule:∀(i:Int)(t:Tok)(s:Shared)(Q:Value->Shared->Prop)(E:Value->Shared->Prop),Q (.int (g i) s.toks) {s with toks:=s.toks+1}->wpAny (model X.prog X.w) X.A (f (.int i t)) Q E s) :
  UnR X f (rU λi=>.int (g i)):=by
 intro pins s σ H x v Q I rx h;obtain⟨i,rfl,q⟩:=h;obtain⟨t,rfl⟩:=rx;exact rule i t s _ _ ⟨.int (g i),H,I.tok _,⟨_,rfl⟩,q⟩
def bCp:UnR X (unaryOp .USub) (rU λi=>.int (-i)):=unI λ_ _ _ _ _ q=>neg_int q
end
section
variable{X:Cx}{a b c:Expr}{ta tb tc:TE}{pos:Pos}
def aNv{pins:List (Addr×Obj)}{σ:St}{H:Hp}{s:Shared}{Q:VK}{k k':Bool}(I:Inv X pins σ H s)(q:Q (.bl k) H)(e:k=k'):EP X pins σ Q (.bool k') s:=by
 subst e;exact⟨.bl k,H,I,rfl,q⟩
def aPw:OpR X (compareOp .Lt) (rI0 λi j=>.bl (decide (i<j))):=aYh λ_ _ _ _ _ _ _ q=>lt_int q
def bFg:OpR X (compareOp .LtE) (rI0 λi j=>.bl (decide (i<=j))):=aYh λ_ _ _ _ _ _ _ q=>le_int q
def aFt:OpR X (compareOp .Gt) (rI0 λi j=>.bl (decide (j<i))):=aYh λ_ _ _ _ _ _ _ q=>gt_int q
def aPx:OpR X (compareOp .GtE) (rI0 λi j=>.bl (decide (j<=i))):=aYh λ_ _ _ _ _ _ _ q=>ge_int q
def aSb:OpR X (compareOp .In) (λx y H Q=>∃i j,x=.str i/\y=.str j/\Q (.bl (!(Builtin.Str.occurrences j i 0 j.length 1).isEmpty)) H):=by
 intro pins s σ H x y v u Q I rx ry h;obtain⟨i,j,rfl,rfl,q⟩:=h;obtain⟨t,rfl⟩:=rx;obtain⟨t',rfl⟩:=ry;exact in_str (aNv I q rfl)
def aYj:OpR X (compareOp .IsNot) (λx y H Q=>y=.non/\Q (.bl (!decide (x=.non))) H):=by
 intro pins s σ H x y v u Q I rx ry h;obtain⟨rfl,q⟩:=h;cases ry;refine isnot_none_gen (aNv I q ?_);cases x<;>first
  |(cases rx;rfl)
  |(obtain⟨t,rfl⟩:=rx;rfl)
def aJo:OpR X (compareOp .NotIn) (λx y H Q=>∃i j,x=.str i/\y=.str j/\Q (.bl (!(!(Builtin.Str.occurrences j i 0 j.length 1).isEmpty))) H):=by
 intro pins s σ H x y v u Q I rx ry h;obtain⟨i,j,rfl,rfl,q⟩:=h;obtain⟨t,rfl⟩:=rx;obtain⟨t',rfl⟩:=ry;exact notIn_str (aNv I q rfl)
def OpR.or{f:Value->Value->Sem Value}{r r':R2}(h:OpR X f r)(h':OpR X f r'):OpR X f (λx y H Q=>r x y H Q\/r' x y H Q):=by
 intro pins s σ H x y v u Q I rx ry q;rcases q with q|q
 .exact h pins s σ H x y v u Q I rx ry q
 .exact h' pins s σ H x y v u Q I rx ry q
def bN(b:Expr){op:CmpOp}(h:op≠.In:=by decide)(h2:op≠.NotIn:=by decide):behindInMarks op b=false:=by
 have e1:(op==CmpOp.In)=false:=by cases op<;>first|rfl|exact absurd rfl h
 have e2:(op==CmpOp.NotIn)=false:=by cases op<;>first|rfl|exact absurd rfl h2
 cases b<;>simp[behindInMarks,e1,e2]
def aYk{op:CmpOp}{r:R2}(ho:OpR X (compareOp op) r)(ha:PE X a ta)(hb:PE X b tb)(hm:behindInMarks op b=false):PE X (.Compare a [op] [b] pos) (tOp r ta tb):=by
 intro pins s σ H Q I h;exact wpAny_Compare1 (bCh ha hb I h λv u s2 x y H2 I2 rx ry q=>ho pins s2 σ H2 x y v u Q I2 rx ry q) hm
def bBi(t:TE):TT:=λσ H Q=>t σ H λx H'=>∃k,x=.bl k/\Q k H'
def aPy{op:CmpOp}{r:R2}(ho:OpR X (compareOp op) r)(ha:PE X a ta)(hb:PE X b tb)(hm:behindInMarks op b=false):PT X (.Compare a [op] [b] pos) (bBi (tOp r ta tb)):=by
 intro pins s σ H Q I h;refine wpAny_isTrue_Compare1 (thn (ha pins s σ H _ I h) λv s1 ⟨x,H1,I1,r1,q1⟩=>thn (hb pins s1 σ H1 _ I1 q1) λu s2 ⟨y,H2,I2,r2,q2⟩=>
  thn (ho pins s2 σ H2 x y v u _ I2 r1 r2 q2) λc s3 ⟨z,H3,I3,r3,k,e,q3⟩=>?_) hm
 subst e;cases r3;exact bKg ⟨H3,I3,q3⟩
def aD8:(sizeLine:Nat)<2^63:=by rw[bKk];decide
def aNw:OpR X (binaryOp .Add) (λx y H Q=>∃i j,x=.str i/\y=.str j/\i.length+j.length<=sizeLine/\Q (.str (i++j)) H):=by
 intro pins s σ H x y v u Q I rx ry h;obtain⟨i,j,rfl,rfl,hz,q⟩:=h;obtain⟨t,rfl⟩:=rx;obtain⟨t',rfl⟩:=ry;exact add_str (λt' tk=>⟨.str (i++j),H,I.tok _,⟨_,rfl⟩,q⟩) hz
def vals1{x:V}{us:List Value}(r:Vals [x] us):∃u,us=[u]/\RelV x u:=by
 cases r with
 |cons r1 r2=>cases r2;exact⟨_,rfl,r1⟩
def vals2{x y:V}{us:List Value}(r:Vals [x,y] us):∃u w',us=[u,w']/\RelV x u/\RelV y w':=by
 cases r with
 |cons r1 r2=>
  cases r2 with
  |cons r3 r4=>cases r4;exact⟨_,_,rfl,r1,r3⟩
def aSc(hc:X.calm=true):nA X (.builtin "max") (λxs H Q=>∃i j,xs=[.int i,.int j]/\Q (.int (if j>i then j else i)) H):=by
 intro pins s σ H xs us Q I r h;obtain⟨i,j,rfl,q⟩:=h;obtain⟨u,w',rfl,⟨t,rfl⟩,⟨t',rfl⟩⟩:=vals2 r;refine max_two_ints (I.ok.hd hc) λh' tk k=>⟨_,H,I.kept k,?_,q⟩
 by_cases hj:j>i
 .rw[bIv hj,bIv hj];exact⟨_,rfl⟩
 .rw[bIt hj,bIt hj];exact⟨_,rfl⟩
def aSd:nA X (.type "int") (λxs H Q=>(∃i,xs=[.int i]/\Q (.int i) H)\/∃k,xs=[.bl k]/\Q (.int (if k then 1 else 0)) H):=by
 intro pins s σ H xs us Q I r h;rcases h with ⟨i,rfl,q⟩|⟨k,rfl,q⟩
 .obtain⟨u,rfl,t,rfl⟩:=vals1 r;exact call_int_int ⟨.int i,H,I,⟨_,rfl⟩,q⟩
 .obtain⟨u,rfl,r1⟩:=vals1 r;cases r1;exact call_int_bool ⟨.int (if k then 1 else 0),H,I.tok _,⟨_,rfl⟩,q⟩
end
end L2
namespace L2
open PySem PySem.Spec PyProof.Rows
structure ObjM(h:Heap)(x dx C:Addr)(mA:Str->Option Value):Prop where
 obj:h.get? x=some (PySem.W.instObj C dx)
 ns:h.Ns1 dx mA
 ne:dx≠x
def aSe{h:Heap}{dx:Addr}{mA:Str->Option Value}(n:h.Ns1 dx mA):∃od,h.get? dx=some od/\∀name,PySem.W.lookIn name od=some (mA name):=by
 obtain⟨o,es,ep,ho,hd,hk,_,hm⟩:=n;refine⟨o,ho,λname=>?_⟩
 have e:=hm name;unfold nsFind findBy at e;rw[<-Array.find?_toList]at e;unfold PySem.W.lookIn;rw[hd];dsimp only;split
 .rename_i y q;rw[q]at e;exact congrArg some e
 .rename_i q;rw[q]at e;have a:es.toList.any (·.refKey)=false:=by
   rw[bM4];intro y hy;obtain⟨z,t,hkey⟩:=hk y (Array.mem_toList_iff.mp hy);simp[DictEntry.refKey,hkey]
  have a':¬ es.toList.any (·.refKey)=true:=by rw[a];exact bJn
  rw[bIt a'];exact congrArg some e
def ObjM.look{h:Heap}{x dx C:Addr}{mA:Str->Option Value}(I:ObjM h x dx C mA):∃od,PySem.W.InstAt h x (PySem.W.instObj C dx) C (some od)/\∀name,PySem.W.lookIn name od=some (mA name):=
 let ⟨od,ho,hl⟩:=aSe I.ns
 ⟨od,⟨I.obj,rfl,rfl,ho⟩,hl⟩
section
variable{prog:Program}{w:World}{A:Around}{E:Value->Shared->Prop}{s:Shared}{K:PySem.W.Frag}{x dx C f:Addr}{mA:Str->Option Value}{name:Str}{v:Value}
def aYl{expr:Bool}{Q:Value->Shared->Prop}(X:K.In s.heap)(I:ObjM s.heap x dx C mA)(hg:PySem.W.plainGet K C name=true)(hh:PySem.W.hasDictIn K C=true)
  (ha:PySem.W.findIn K (.ref C) name=some none) (hv:mA name=some v) (hv':PySem.W.handedIn v=true) (h:Q v {s with toks:=s.toks+1}) :
  wpAny (model prog w) A (getAttr (.ref x) name expr) Q E s:=by
 obtain⟨od,J,hl⟩:=I.look;exact PySem.W.get_value X J (bMn hg).1 (PySem.W.findObj_own hh ha rfl (by rw[hl,hv])) hv' h
def aUb{pl:Sem Bool}{Q:Value×List Value->Shared->Prop}(X:K.In s.heap)(I:ObjM s.heap x dx C mA)(hg:PySem.W.plainGet K C name=true)
  (hf:PySem.W.findIn K (.ref C) name=some (some (.ref f))) (ht:PySem.W.isFn K (.ref f)=true) (hv:mA name=none) (h:Q (.ref f,[.ref x]) s) :
  wpAny (model prog w) A (getMethod (.ref x) name pl) Q E s:=by
 obtain⟨od,J,hl⟩:=I.look;exact PySem.W.method_fn X J (bMn hg).1 (bMn hg).2 hf (bLs.mp ht) (by show (PySem.W.lookIn name od).map (·.isSome)=some false;rw[hl,hv];rfl) h
def aYm{ns:List Str}{Q:Unit->Shared->Prop}(X:K.In s.heap)(I:ObjM s.heap x dx C mA)
  (hs:PySem.W.findIn K (.ref C) "__setattr__"=some (some (.builtin "object.__setattr__"))) (hp:PySem.W.plainOver K C=true) (ht:PySem.W.takerIn K C name=some none) (hh:PySem.W.hasDictIn K C=true)
  (hw:PySem.Within mA ns) (hsz:ns.length<=sizeLine)
  (h:∀h',ObjM h' x dx C (λy=>if y=name then some v else mA y)->Heap.SameBut dx s.heap h'->Q () {s with heap:=h',toks:=s.toks+2}) :
  wpAny (model prog w) A (setAttr (.ref x) name v) Q E s:=by
 obtain⟨od,J,hl⟩:=I.look;refine PySem.W.set_plain X J hs (PySem.W.osa_open (s:={s with toks:=s.toks+1}) (r:=none) X J hp ht λb=>?_)
 obtain⟨cd,hc,hd'⟩:=PySem.W.any_some hh;have hx:s.heap.get? x=some ⟨.ref C,some dx,.plain, #[]⟩:=I.obj;refine bIh (bIx (bIh (bIh (wpAny_loadPart hx (bIh (PySem.W.Looks.here (s:={s with toks:=s.toks+1}) (PySem.W.looks_clsIn X hc) ?_))))))
 rw[hd'];refine bIx (a:=some dx) (bIh (bIx (bIh ?_)));refine wpAny_nsSet1 (s:={s with toks:=s.toks+1}) I.ns λh' hn2 hs2=>?_
 obtain⟨oD,esD,epD,hoD,hdD,hcD⟩:=hn2.count (PySem.Within.cons name v hw);refine bIh (wpAny_lookBehind hoD (by rw[hdD];exact pastItsLine_dict (bJj hcD (by rw[bJ7];omega))) ?_)
 exact bIx (h _ ⟨(hs2.2 _ (bL5 I.ne)).trans I.obj,hn2,I.ne⟩ hs2)
def aUc{R:Result->Shared->Prop}{vs:List Value}{kw:List (Str×Value)}(X:K.In s.heap)(hm:PySem.W.makesIn K C=true)
  (hi:PySem.W.findIn K (.ref C) "__init__"=some (some (.ref f))) (hf:PySem.W.typeIn K (.ref f)=some (.type "function"))
  (h:codeAny (model prog w) (A.under (.builtin "type.__call__" ⟨.ref C::vs,kw⟩)) (.call (.ref f) ⟨.ref (s.heap.objs.size+1)::vs,kw⟩) (PySem.W.InitBack (s.heap.objs.size+1) R)
   {s with heap:=(s.heap.push PySem.W.emptyDict).push (PySem.W.instObj C s.heap.objs.size)}) :
  codeAny (model prog w) A (.call (.ref C) ⟨vs,kw⟩) R s:=by
 obtain⟨hh,g,d,t,os⟩:=s;exact PySem.W.make_core (PySem.W.makes_of X hm) (PySem.W.looks_findIn X hi) (λself=>PySem.W.bind_fn X self hf) (.inl rfl) h
end
def xN(f:Str)(v:V):List (Str×V)->List (Str×V)
 |[]=>[(f,v)]
 |(g,x)::r=>if g=f then (g,v)::r else (g,x)::xN f v r
theorem aEb(f g:Str)(v:V):∀fs:List (Str×V),(xN f v fs).lookup g=if g=f then some v else fs.lookup g
 |[]=>by
  show List.lookup g [(f,v)]=_
  by_cases h:g=f
  .have hb:(g==f)=true:=bLs.mpr h;simp only[List.lookup,hb,if_pos h]
  .have hb:(g==f)=false:=bK0.mpr h;simp only[List.lookup,hb,if_neg h]
 |(k,x)::r=>by
  have ih:=aEb f g v r;rw[show xN f v ((k,x)::r)=(if k=f then (k,v)::r else (k,x)::xN f v r) from rfl]
  by_cases hk:k=f
  .rw[bIv hk]
   by_cases h:g=k
   .have hb:(g==k)=true:=bLs.mpr h;simp only[List.lookup,hb,if_pos (h.trans hk)]
   .have hb:(g==k)=false:=bK0.mpr h;simp only[List.lookup,hb,if_neg (λe:g=f=>h (e.trans hk.symm))]
  .rw[bIt hk]
   by_cases h:g=k
   .have hb:(g==k)=true:=bLs.mpr h;simp only[List.lookup,hb,if_neg (λe:g=f=>hk (h.symm.trans e))]
   .have hb:(g==k)=false:=bK0.mpr h;simp only[List.lookup,hb];exact ih
theorem aD9(f:Str)(v:V):∀fs:List (Str×V),f∈(xN f v fs).map (·.1)/\∀g,g∈fs.map (·.1)->g∈(xN f v fs).map (·.1)
 |[]=>⟨by simp[xN],λg h=>by simp at h⟩
 |(k,x)::r=>by
  obtain⟨i1,i2⟩:=aD9 f v r;rw[show xN f v ((k,x)::r)=(if k=f then (k,v)::r else (k,x)::xN f v r) from rfl]
  by_cases hk:k=f
  .rw[bIv hk];subst hk;exact⟨by simp,λg h=>by simpa using h⟩
  .rw[bIt hk];refine⟨?_,λg h=>?_⟩
   .rw[bJ5];exact bIl _ i1
   .rw[bJ5]at h ⊢;rcases bIq.mp h with e|e
    .exact bIq.mpr (.inl e)
    .exact bIl _ (i2 g e)
theorem aEc(f:Str)(v:V):∀fs:List (Str×V),(xN f v fs).length<=fs.length+1
 |[]=>by simp[xN]
 |(k,x)::r=>by
  have ih:=aEc f v r;rw[show xN f v ((k,x)::r)=(if k=f then (k,v)::r else (k,x)::xN f v r) from rfl]
  by_cases hk:k=f
  .rw[bIv hk,bJ7,bJ7];omega
  .rw[bIt hk,bJ7,bJ7];omega
def vH.some_of{v:V}{o:Option Value}(r:vH (some v) o):∃u,o=some u/\RelV v u:=by
 cases o with
 |none=>exact(show False from r).elim
 |some u=>exact⟨u,rfl,r⟩
def vH.none_of{o:Option Value}(r:vH none o):o=none:=by
 cases o with
 |none=>rfl
 |some u=>exact(show False from r).elim
def aSf{v:V}{u:Value}(r:RelV v u):PySem.W.handedIn u=true:=by
 cases v with
 |non=>cases (show u=Value.none from r);rfl
 |bl b=>cases (show u=Value.bool b from r);rfl
 |int i=>obtain⟨t,e⟩:=(show ∃t,u=Value.int i t from r);cases e;rfl
 |str x=>obtain⟨t,e⟩:=(show ∃t,u=Value.str x t from r);cases e;rfl
 |byt b=>obtain⟨t,e⟩:=(show ∃t,u=Value.bytes b t from r);cases e;rfl
 |flt b=>obtain⟨t,e⟩:=(show ∃t,u=Value.float b t from r);cases e;rfl
 |ref a=>cases (show u=Value.ref a from r);rfl
 |ty n=>cases (show u=Value.type n from r);rfl
section
variable{P:Program}{w:World}{H H':Hp}{h h':Heap}{a C dx:Addr}{fs fs':List (Str×V)}
def aJp(hok:HOk P w H h)(e:H a=some (.ins C dx fs)):∃mA,ObjM h a dx C mA/\(∀f,vH (fs.lookup f) (mA f))/\PySem.Within mA (fs.map (·.1))/\fs.length<=1000/\H dx=some (.own a):=by
 obtain⟨d,z,ne,ob,mA,n,r,q⟩:=(show iU P w H h a (.ins C dx fs) from hok a _ e)
 exact⟨mA,⟨ob,n,ne⟩,r,q,z,d⟩
end
structure Cls(K:PySem.W.Frag)(C:Addr):Prop where
 pg:PySem.W.plainGet K C Str.empty=true
 hd:PySem.W.hasDictIn K C=true
 po:PySem.W.plainOver K C=true
 sa:PySem.W.findIn K (.ref C) "__setattr__"=some (some (.builtin "object.__setattr__"))
def Cls.get{K:PySem.W.Frag}{C:Addr}(c:Cls K C)(f:Str):PySem.W.plainGet K C f=true:=c.pg
def kO(K:PySem.W.Frag)(C:Addr)(f:Str):Prop:=PySem.W.findIn K (.ref C) f=some none
def kO.taker{K:PySem.W.Frag}{C:Addr}{f:Str}(n:kO K C f):PySem.W.takerIn K C f=some none:=by
 unfold PySem.W.takerIn;rw[show PySem.W.findIn K (.ref C) f=some none from n]
 rfl
structure Meth(K:PySem.W.Frag)(C:Addr)(m:Str)(f:Addr):Prop where
 at_:PySem.W.findIn K (.ref C) m=some (some (.ref f))
 fn:PySem.W.isFn K (.ref f)=true
 kp:PySem.W.keepIn K (.ref f)=true
section
variable{X:Cx}{pins:List (Addr×Obj)}{σ:St}{H:Hp}{s:Shared}{a C dx:Addr}{fs:List (Str×V)}{f:Str}{v:V}{A:Around}{E:Value->Shared->Prop}
def aNx{b:Bool}{Q:Value->Shared->Prop}(I:Inv X pins σ H s)(e:H a=some (.ins C dx fs))(c:Cls X.K C)(n:kO X.K C f)(l:fs.lookup f=some v)
  (h:∀u s',Inv X pins σ H s'->RelV v u->Q u s'):wpAny (model X.prog X.w) A (getAttr (.ref a) f b) Q E s:=by
 obtain⟨mA,O,r,_,_,_⟩:=aJp I.hok e;obtain⟨u,hu,ru⟩:=vH.some_of (v:=v) (o:=mA f) (by rw[<-l];exact r f)
 exact aYl I.kIn O (c.get f) c.hd n hu (aSf ru) (h u _ (I.tok _) ru)
def aNy{m:Str}{g:Addr}{pl:Sem Bool}{Q:Value×List Value->Shared->Prop}(I:Inv X pins σ H s)(e:H a=some (.ins C dx fs))(c:Cls X.K C)(k:Meth X.K C m g)(l:fs.lookup m=none)
  (h:Q (.ref g,[.ref a]) s):wpAny (model X.prog X.w) A (getMethod (.ref a) m pl) Q E s:=by
 obtain⟨mA,O,r,_,_,_⟩:=aJp I.hok e;have hn:mA m=none:=vH.none_of (by rw[<-l];exact r m)
 exact aUb I.kIn O (c.get m) k.at_ k.fn hn h
def aNz{y:V}{u:Value}{Q:Unit->Shared->Prop}(I:Inv X pins σ H s)(e:H a=some (.ins C dx fs))(c:Cls X.K C)(n:kO X.K C f)(hl:fs.length<1000)(ry:RelV y u)
  (h:∀s',Inv X pins σ (upd H a (.ins C dx (xN f y fs))) s'->Q () s'):wpAny (model X.prog X.w) A (setAttr (.ref a) f u) Q E s:=by
 obtain⟨mA,O,r,wi,_,ho⟩:=aJp I.hok e;have hz:(fs.map (·.1)).length<=sizeLine:=by rw[bJ9,bKk];omega
 refine aYm I.kIn O c.sa c.po n.taker c.hd wi hz λh' O' sb=>h _ ?_
 have hd:∃o,h'.get? dx=some o:=let ⟨o,_,_,e',_⟩:=O'.ns;⟨o,e'⟩;refine I.write (x:=a) (e:=dx) (by rw[e];exact True.intro) (.inr ho) (λb q hb z=>(sb.2 b hb).trans z) hd ?_
 refine⟨by rw[aY O.ne];exact ho,?_,O.ne,O'.obj,_,O'.ns,λg=>?_,λg hg=>?_⟩
 .have:=aEc f y fs;omega
 .show vH ((xN f y fs).lookup g) (if g=f then some u else mA g)
  rw[aEb]
  by_cases q:g=f
  .rw[bIv q,bIv q];exact ry
  .rw[bIt q,bIt q];exact r g
 .by_cases q:g=f
  .rw[q];exact(aD9 f y fs).1
  .refine(aD9 f y fs).2 g (wi g λz=>hg ?_)
   show (if g=f then some u else mA g)=none
   rw[bIt q];exact z
def Inv.made(I:Inv X pins σ H s):Inv X pins σ (upd (upd H s.heap.objs.size (.own (s.heap.objs.size+1))) (s.heap.objs.size+1) (.ins C s.heap.objs.size []))
  {s with heap:=(s.heap.push PySem.W.emptyDict).push (PySem.W.instObj C s.heap.objs.size)}:=by
 have e1:(s.heap.push PySem.W.emptyDict).get? s.heap.objs.size=some PySem.W.emptyDict:=bIy s.heap rfl;have e2:((s.heap.push PySem.W.emptyDict).push (PySem.W.instObj C s.heap.objs.size)).get? (s.heap.objs.size+1)=some (PySem.W.instObj C s.heap.objs.size):=by
  have:=bIy (s.heap.push PySem.W.emptyDict) (o:=PySem.W.instObj C s.heap.objs.size) rfl
  rwa [bJt]at this
 have e3:(s.heap.push PySem.W.emptyDict).Ns s.heap.objs.size (λ_=>none):=⟨PySem.W.emptyDict, #[],_,e1,rfl,(λe he=>absurd he (by simp)),λ_=>rfl⟩
 have I1:=I.laid (a:=s.heap.objs.size) (o:=.own (s.heap.objs.size+1)) (h':=s.heap.push PySem.W.emptyDict) (t':=s.toks) (λb u q=>bIi _ q) (bIn _) ⟨_,e1⟩
 refine I1.laid (a:=s.heap.objs.size+1) (o:=.ins C s.heap.objs.size []) (t':=s.toks) (λb u q=>bIi _ q) (Nat.le_of_eq (bJt _ _)) ?_
 have ne:s.heap.objs.size≠s.heap.objs.size+1:=bJm (bL3 _);refine⟨by rw[aY ne,bJ],bK6 _,ne,e2,λ_=>none,(Heap.Ns1.of_empty e3).at λo q=>bIi _ q,λ_=>True.intro,λy hy=>absurd rfl hy⟩
def aYn{prog:Program}{w:World}{env:Env}{e:Expr}{f:Str}{pos:Pos}{s:Shared}{Q:Value->Shared->Prop}(hb:attributeBase e f env (eval e env)=eval e env)
  (h:wpAny (model prog w) A (eval e env) (λo s₁=>wpAny (model prog w) A (getAttr o f true) Q E s₁) E s):wpAny (model prog w) A (eval (.Attribute e f pos) env) Q E s:=
 Attribute_any_ h (by rw[arm_eval_Attribute,hb])
end
def bHw(K:PySem.W.Frag)(ta:TE)(f:Str):TE:=λσ H Q=>ta σ H λx H1=>∃a C dx fs v,x=.ref a/\H1 a=some (.ins C dx fs)/\Cls K C/\kO K C f/\fs.lookup f=some v/\Q v H1
def bHx(K:PySem.W.Frag)(ta tv:TE)(f:Str):TS:=λD σ H=>tv σ H λy H1=>ta σ H1 λx H2=>∃a C dx fs,x=.ref a/\H2 a=some (.ins C dx fs)/\Cls K C/\kO K C f/\fs.length<1000/\
 D.nx σ (upd H2 a (.ins C dx (xN f y fs)))
section
variable{X:Cx}{o e value:Expr}{f:Str}{pos pos' tpos:Pos}{ta tv:TE}
def bCq(he:PE X e ta)(hb:attributeBase e f X.env (eval e X.env)=eval e X.env):PE X (.Attribute e f pos) (bHw X.K ta f):=by
 intro pins s σ H Q I h;refine aYn hb (thn (he pins s σ H _ I h) λu s1 ⟨x,H1,I1,rx,a,C,dx,fs,v,ex,ea,c,n,l,q⟩=>?_)
 subst ex;obtain rfl:u=Value.ref a:=rx;exact aNx I1 ea c n l λu' s2 I2 ru=>⟨v,H1,I2,ru,q⟩
def bCr(ha:PE X o ta)(hv:PE X value tv)(hs:swapsWith value (some (.Attribute o f pos')) pos.line X.env=pure false):PS X (.Assign [.Attribute o f pos'] value pos) (bHx X.K ta tv f):=by
 intro pins s σ H D I h;refine plainObj_wpAny_Assign_Attribute (thn (hv pins s σ H _ I h) λu s1 ⟨y,H1,I1,ry,q⟩=>thn (ha pins s1 σ H1 _ I1 q) λov s2 ⟨x,H2,I2,rx,a,C,dx,fs,ex,ea,c,n,l,q2⟩=>?_) hs
 subst ex;obtain rfl:ov=Value.ref a:=rx;exact aNz I2 ea c n l ry λs3 I3=>⟨σ,_,I3,q2⟩
end
section
variable{X:Cx}{pins:List (Addr×Obj)}{σ:St}{H:Hp}{s:Shared}{A:Around}{E:Value->Shared->Prop}{Q:Value->Shared->Prop}{c:Value}{b:Bool}
inductive TyOf (K:PySem.W.Frag) (H:Hp):V->Value->Prop where
 |non:TyOf K H .non (.type "NoneType")
 |bl (x:Bool):TyOf K H (.bl x) (.type "bool")
 |int (i:Int):TyOf K H (.int i) (.type "int")
 |str (x:Str):TyOf K H (.str x) (.type "str")
 |flt (x:UInt64):TyOf K H (.flt x) (.type "float")
 |lst {a:Addr} {xs:List V} (e:H a=some (.lst xs)):TyOf K H (.ref a) (.type "list")
 |frz {a:Addr} {o:Obj} {xs:List V} (e:H a=some (.frz o (.lst xs))):TyOf K H (.ref a) (.type "list")
 |tup {a:Addr} {xs:List V} (e:H a=some (.tup xs)):TyOf K H (.ref a) (.type "tuple")
 |dK {a:Addr} {kvs:List (Key×V)} (e:H a=some (.dK kvs)):TyOf K H (.ref a) (.type "dict")
 |dT {a:Addr} {kvs:List (List Key×V)} (e:H a=some (.dT kvs)):TyOf K H (.ref a) (.type "dict")
 |ins {a C dx:Addr} {fs:List (Str×V)} (e:H a=some (.ins C dx fs)) (cl:Cls K C) (ha:PySem.W.findIn K (.ref C) "__class__"=some (some (.builtin "object.__class__")))
   (hn:PySem.W.specialIn K (.builtin "object.__class__") "__get__"=some (some (.builtin "getset_descriptor.__get__"))) (htk:PySem.W.takesIn K (.builtin "object.__class__")=some true)
   (hm:PySem.W.mroIn K C (.type "object")=some true):TyOf K H (.ref a) (.ref C)
end
end L2
namespace L2
open PySem PySem.Spec PyProof.Rows
structure Room(k:Nat)(A:Around):Prop where
 hd:A.handled=none
 dp:A.depth+3*k+5<recursionLimit
 un:A.units+16*k+200<cLine
def Room.mono{j k:Nat}{A:Around}(r:Room k A)(h:j<=k):Room j A:=⟨r.hd,by have:=r.dp;omega,by have:=r.un;omega⟩
theorem Room.deeper{k:Nat}{A:Around}(r:Room (k+1) A)(env:Env):Room k (A.deeper env):=
 ⟨r.hd,by have:=r.dp;show A.depth+1+3*k+5<_;omega,by have:=r.un;show A.units+3+16*k+200<_;omega⟩
theorem Room.in1{k:Nat}{A:Around}(r:Room (k+1) A):Room k A.in1:=
 ⟨r.hd,by have:=r.dp;show A.depth+3*k+5<_;omega,by have:=r.un;show A.units+1+16*k+200<_;omega⟩
def aO0{A:Around}{C:Addr}{us:List Value}{kw:List (Str×Value)}:(A.under (.builtin "type.__call__" ⟨.ref C::us,kw⟩)).depth=A.depth+1:=by
 first|rfl|simp[Around.under,Code.weight,Code.isCreation,Code.isGuard,Code.isCaller,Code.frames,Code.isFrame,guardIds]
def aO1{A:Around}{C:Addr}{us:List Value}{kw:List (Str×Value)}:(A.under (.builtin "type.__call__" ⟨.ref C::us,kw⟩)).units=A.units+1:=by
 first|rfl|simp[Around.under,Code.cUnits,Code.frames,Code.isFrame]
def Room.make{k:Nat}{A:Around}(r:Room (k+1) A)(C:Addr)(us:List Value)(kw:List (Str×Value)):Room k (A.under (.builtin "type.__call__" ⟨.ref C::us,kw⟩)):=
 ⟨r.hd,by have:=r.dp;rw[aO0];omega,by have:=r.un;rw[aO1];omega⟩
theorem Room.depth{k:Nat}{A:Around}(r:Room k A):A.depth<recursionLimit:=by have:=r.dp;omega
theorem Room.units{k:Nat}{A:Around}(r:Room k A):A.units+64<cLine:=by have:=r.un;omega
def bFh:TA:=λ_ H Q=>Q [] H
def aUd(ta:TE)(tr:TA):TA:=λσ H Q=>ta σ H λx H1=>tr σ H1 λxs H2=>Q (x::xs) H2
section
variable{X:Cx}{e:Expr}{es:List Expr}{te:TE}{t:TA}{pos:Pos}
def gU:PA X [] bFh:=λ_ _ _ _ H Q I h=>Calls.spliced_nil ⟨[],H,I,.nil,h⟩
def dF(ha:PE X e te)(hr:PA X es t)(hs:starEach (e::es) X.env=(false,eval e X.env)::starEach es X.env:=by rfl):PA X (e::es) (aUd te t):=by
 intro pos pins s σ H Q I h;rw[hs];show wpAny _ _ (spliced ((false,eval e X.env)::backTo pos (starEach es X.env))) _ _ s;refine Calls.spliced_cons (thn (ha pins s σ H _ I h) λu s1 ⟨x,H1,I1,r1,q1⟩=>?_)
 exact thn (hr pos pins s1 σ H1 _ I1 q1) λus s2 ⟨xs,H2,I2,r2,q2⟩=>⟨x::xs,H2,I2,.cons r1 r2,q2⟩
def bHy(t:TA):TE:=λσ H Q=>t σ H λxs H1=>xs.length<=sizeLine/\∀p,H1 p=none->Q (.ref p) (upd H1 p (.tup xs))
def bHz(t:TA):TE:=λσ H Q=>t σ H λxs H1=>xs.length<=sizeLine/\∀p,H1 p=none->Q (.ref p) (upd H1 p (.lst xs))
def bCs{x1}(h:PA X es t):PE X (.Tuple es x1 pos) (bHy t):=by
 intro pins s σ H Q I hq;refine wpAny_Tuple_spliced (thn (h pos pins s σ H _ I hq) λus s1 ⟨xs,H1,I1,r,z,q⟩=>⟨by rw[<-r.length];exact z,?_⟩)
 have hf:H1 s1.heap.objs.size=none:=I1.hok.fresh (bIn _);refine⟨.ref s1.heap.objs.size,upd H1 s1.heap.objs.size (.tup xs),I1.laid (t':=s1.toks) (λb u e=>bIi _ e) (bIn _) ?_,rfl,q _ hf⟩
 exact⟨z,us,r,⟨_,bIy _ rfl,rfl,_,rfl⟩⟩
def aUe(h:PA X es t):PE X (.List es pos) (bHz t):=by
 intro pins s σ H Q I hq;refine wpAny_List_spliced (thn (h pos pins s σ H _ I hq) λus s1 ⟨xs,H1,I1,r,z,q⟩=>⟨by rw[<-r.length];exact z,?_⟩)
 have hf:H1 s1.heap.objs.size=none:=I1.hok.fresh (bIn _);refine⟨.ref s1.heap.objs.size,upd H1 s1.heap.objs.size (.lst xs),I1.laid (t':=s1.toks) (λb u e=>bIi _ e) (bIn _) ?_,rfl,q _ hf⟩
 exact⟨z,us,0,r,bIy _ rfl⟩
end
abbrev Sp:=List V->Hp->VK->XK->Prop
abbrev CXT:=List Env->Hp->Shared->XK->Value->Shared->Prop
structure Env0(P:Program)(w:World)(K:PySem.W.Frag)(mg:Str->Option Value)(base:Heap)(A:Around)(outer:List Env)(s:Shared)(H:Hp):Prop where
 frames:A.frames=some outer
 mod:Mod K mg base
 bs:∀b o,base.get? b=some o->s.heap.get? b=some o/\H b=none
 bsz:base.objs.size<=s.heap.objs.size
 funs:s.heap.FunFrames base outer
 frf:∀b∈frs outer,H b=none
 hok:HOk P w H s.heap
 bare:AllBare s.gens
def CE(outer:List Env)(P:Program)(w:World)(H:Hp)(s:Shared)(Q:VK)(u:Value)(s':Shared):Prop:=
 ∃v H',s'.os=s.os/\AllBare s'.gens/\Un (frs outer) [] H H' s.heap s'.heap/\HOk P w H' s'.heap/\RelV v u/\Q v H'
def CR(CX:CXT)(outer:List Env)(P:Program)(w:World)(H:Hp)(s:Shared)(Q:VK)(E:XK)(r:Result)(s':Shared):Prop:=
 match r with
 |.ok (.ret u)=>CE outer P w H s Q u s'
 |.ok _=>False
 |.error e=>CX outer H s E e s'
structure FnOk(P:Program)(w:World)(K:PySem.W.Frag)(mg:Str->Option Value)(base:Heap)(CX:CXT)(k:Nat)(f:Addr)(fd:FuncData)(ps:List Str)(sp:Sp):Prop where
 len:∀vs H Q E,sp vs H Q E->vs.length=ps.length
 run:∀(A:Around)(outer:List Env)(s:Shared)(H:Hp)(args:Args)(us:List Value)(vs:List V)(Q:VK)(E:XK),Room k A->Env0 P w K mg base A outer s H->BindsTo s fd args (ps.zip us)->Vals vs us->sp vs H Q E->
  codeAny (model P w) A (.call (.ref f) args) (CR CX outer P w H s Q E) s
def FnOk.imp{P:Program}{w:World}{K:PySem.W.Frag}{mg:Str->Option Value}{base:Heap}{CX:CXT}{k:Nat}{f:Addr}{fd:FuncData}{ps:List Str}{sp sp':Sp}(F:FnOk P w K mg base CX k f fd ps sp)
  (h:∀vs H Q E,sp' vs H Q E->sp vs H Q E):FnOk P w K mg base CX k f fd ps sp':=
 ⟨λvs H Q E q=>F.len vs H Q E (h _ _ _ _ q),λA outer s H args us vs Q E hr he hb hv hs=>F.run A outer s H args us vs Q E hr he hb hv (h _ _ _ _ hs)⟩
def Env0.make{P:Program}{w:World}{K:PySem.W.Frag}{mg:Str->Option Value}{base:Heap}{A:Around}{outer:List Env}{s:Shared}{H:Hp}(e:Env0 P w K mg base A outer s H)(C:Addr)(us:List Value)(kw:List (Str×Value)) :
  Env0 P w K mg base (A.under (.builtin "type.__call__" ⟨.ref C::us,kw⟩)) outer s H:=⟨by first|exact e.frames|(simpa [Around.under,Code.envs,Code.isFrame,pushEnvs] using e.frames),e.mod,e.bs,e.bsz,e.funs,e.frf,e.hok,e.bare⟩
theorem Env0.in1{P:Program}{w:World}{K:PySem.W.Frag}{mg:Str->Option Value}{base:Heap}{A:Around}{outer:List Env}{s:Shared}{H:Hp}(e:Env0 P w K mg base A outer s H) :
  Env0 P w K mg base A.in1 outer s H:=⟨e.frames,e.mod,e.bs,e.bsz,e.funs,e.frf,e.hok,e.bare⟩
section
variable{X:Cx}{pins:List (Addr×Obj)}{σ:St}{H:Hp}{s s':Shared}
def Inv.env0(I:Inv X pins σ H s):Env0 X.prog X.w X.K X.mg X.base X.A X.stack s H:=
 ⟨I.ok.frames,I.ok.mod,I.bs,bJj I.ok.bsz I.sz,I.stack,I.stkFree,I.hok,I.bare⟩
def Inv.after{Q:VK}{u:Value}(I:Inv X pins σ H s)(h:CE X.stack X.prog X.w H s Q u s'):EP X pins σ Q u s':=by
 obtain⟨v,H',os,bare,un,hok,r,q⟩:=h;obtain⟨hh,g,d,t,os'⟩:=s';obtain rfl:os'=s.os:=os;exact⟨v,H',I.call (h':=hh) (g':=g) (d':=d) (t':=t) (ch:=[]) un hok bare (λb z=>absurd z (by simp)),r,q⟩
end
def bFi(sp:Sp)(dvs:List V)(E:XK)(t:TA):TE:=λσ H Q=>t σ H λvs H1=>sp (vs++dvs) H1 Q E
def bFj(C:Addr)(m:Str)(sp:Sp)(dvs:List V)(E:XK)(ta:TE)(t:TA):TE:=λσ H Q=>ta σ H λx H1=>∃a dx fs,x=.ref a/\H1 a=some (.ins C dx fs)/\fs.lookup m=none/\
 t σ H1 λvs H2=>sp (x::(vs++dvs)) H2 Q E
def bFk(C:Addr)(sp:Sp)(dvs:List V)(E:XK)(t:TA):TE:=λσ H Q=>t σ H λvs H1=>∀x dx,H1 x=none->H1 dx=none->dx≠x->
 sp (.ref x::(vs++dvs)) (upd (upd H1 dx (.own x)) x (.ins C dx [])) (λv H2=>v=.non/\Q (.ref x) H2) E
def Binds(K:PySem.W.Frag)(fd:FuncData)(ps:List Str)(ds:List Value):Prop:=
 ∀(s:Shared)(us:List Value),K.In s.heap->(us++ds).length=ps.length->BindsTo s fd ⟨us,[]⟩ (ps.zip (us++ds))
def Binds.all{K:PySem.W.Frag}{fd:FuncData}{ps:List Str}(h:∀us:List Value,us.length=ps.length->bindArgs fd ⟨us,[]⟩=pure (ps.zip us)):Binds K fd ps []:=λs us _ hl=>by
 rw[bKi]at hl ⊢;exact .of_eq (h us hl)
def aDa(CX:CXT)(X:Cx)(E:XK):Prop:=∀(pins:List (Addr×Obj)) (σ:St) (H:Hp) (s:Shared) (e:Value) (s':Shared),Inv X pins σ H s->CX X.stack H s E e s'->X.xe e s'
section
variable{X:Cx}{CX:CXT}{k:Nat}{f C:Addr}{fd:FuncData}{ps:List Str}{sp:Sp}{dvs:List V}{ds:List Value}{E:XK}{x m:Str}{p pos apos:Pos}{e o:Expr}{es:List Expr}{ta:TE}{t:TA}
def aUf{pins:List (Addr×Obj)}{σ:St}{H:Hp}{s:Shared}{Q:VK}{us:List Value}{vs:List V}(F:FnOk X.prog X.w X.K X.mg X.base CX k f fd ps sp)(hr:Room k X.A)(hb:Binds X.K fd ps ds)(hd:Vals dvs ds)(hx:aDa CX X E)
  (I:Inv X pins σ H s) (r:Vals vs us) (h:sp (vs++dvs) H Q E):wpAny (model X.prog X.w) X.A (call (.ref f) us) (EP X pins σ Q) X.xe s:=by
 have r2:Vals (vs++dvs) (us++ds):=r.append hd;have hl:(us++ds).length=ps.length:=by rw[<-r2.length];exact F.len _ _ _ _ h
 refine wpAny_call (bMx (F.run X.A X.stack s H ⟨us,[]⟩ (us++ds) (vs++dvs) Q E hr I.env0 (hb s us I.kIn hl) r2 h) λr s' hq=>?_)
 cases r with
 |error e=>exact hx pins σ H s e s' I hq
 |ok fl=>
  cases fl with
  |ret u=>exact I.after hq
  |next=>exact False.elim hq
  |brk=>exact False.elim hq
  |cont=>exact False.elim hq
def aPz(F:FnOk X.prog X.w X.K X.mg X.base CX k f fd ps sp)(hr:Room k X.A)(hg:Gl X x)(hm:X.mg x=some (.ref f))(hk:PySem.W.keepIn X.K (.ref f)=true)(hb:Binds X.K fd ps ds)(hd:Vals dvs ds)(hx:aDa CX X E)
  (ha:PA X (e::es) t) (hdb:(x==("__debug__":Str))=false:=by decide) (he:starEach (e::es) X.env=(false,eval e X.env)::starEach es X.env:=by rfl) (hpl:(backTo pos (starEach es X.env)).any (·.1)=false:=by rfl) :
  PE X (.Call (.Name x p) (e::es) [] pos) (bFi sp dvs E t):=by
 intro pins s σ H Q I h;refine bL8 (aJi I hg hm ?_ hdb);refine bMy (h₀:=X.base) I.ok.mod.kin hk (thn (ha pos pins s σ H _ I h) λus s1 ⟨vs,H1,I1,r,q⟩=>⟨I1.kIn,?_⟩) he hpl
 exact aUf F hr hb hd hx I1 r q
def aYo{pl:Sem Bool}(he:PE X o ta)(c:Cls X.K C)(hm:Meth X.K C m f)(F:FnOk X.prog X.w X.K X.mg X.base CX k f fd ps sp)(hr:Room k X.A)(hb:Binds X.K fd ps ds)(hd:Vals dvs ds)(hx:aDa CX X E)(ha:PA X (e::es) t)
  (hst:starEach (e::es) X.env=(false,eval e X.env)::starEach es X.env:=by rfl) (hpl:(backTo pos (starEach es X.env)).any (·.1)=false:=by rfl)
  (ht:eval (.Call (.Attribute o m apos) (e::es) [] pos) X.env=(do
   let ov <- eval o X.env
   standAt apos.atName
   let (f,first) <- holding [ov] (getMethod ov m pl)
   callWith pos f first (backTo pos (starEach (e::es) X.env)) (backToKw pos (keywordEach [] X.env))):=by rfl) :
  PE X (.Call (.Attribute o m apos) (e::es) [] pos) (bFj C m sp dvs E ta t):=by
 intro pins s σ H Q I h;refine PySem.W.methodCall_KW (pl:=pl) (thn (he pins s σ H _ I h) λu s1 ⟨x,H1,I1,rx,a,dx,fs,ex,ea,l,q⟩=>?_) ht
 subst ex;obtain rfl:u=Value.ref a:=rx;refine aNy I1 ea c hm l ?_
 refine bMy (first:=[.ref a]) (h₀:=X.base) I.ok.mod.kin hm.kp (thn (ha pos pins s1 σ H1 _ I1 q) λus s2 ⟨vs,H2,I2,r,q2⟩=>⟨I2.kIn,?_⟩) hst hpl
 exact aUf (us:=.ref a::us) (vs:=.ref a::vs) F hr hb hd hx I2 (.cons rfl r) q2
structure Mk(K:PySem.W.Frag)(C f:Addr):Prop where
 makes:PySem.W.makesIn K C=true
 init:PySem.W.findIn K (.ref C) "__init__"=some (some (.ref f))
 fn:PySem.W.isFn K (.ref f)=true
 kp:PySem.W.keepIn K (.ref C)=true
def aUg{pins:List (Addr×Obj)}{σ:St}{H:Hp}{s:Shared}{Q:VK}{us:List Value}{vs:List V}(M:Mk X.K C f)(F:FnOk X.prog X.w X.K X.mg X.base CX k f fd ps sp)(hr:Room (k+1) X.A)(hb:Binds X.K fd ps ds)(hd:Vals dvs ds)
  (hx:aDa CX X E) (I:Inv X pins σ H s) (r:Vals vs us)
  (h:∀x dx,H x=none->H dx=none->dx≠x->sp (.ref x::(vs++dvs)) (upd (upd H dx (.own x)) x (.ins C dx [])) (λv H2=>v=.non/\Q (.ref x) H2) E) :
  wpAny (model X.prog X.w) X.A (call (.ref C) us) (EP X pins σ Q) X.xe s:=by
 have hq:=h (s.heap.objs.size+1) s.heap.objs.size (I.hok.fresh (Nat.le_succ _)) (I.hok.fresh (bIn _)) (bJm (bL3 _));have I2:=Inv.made (C:=C) I;have r2:Vals (V.ref (s.heap.objs.size+1)::(vs++dvs)) (Value.ref (s.heap.objs.size+1)::(us++ds)):=.cons rfl (r.append hd);have hl:(Value.ref (s.heap.objs.size+1)::us++ds).length=ps.length:=by
  have e:=r2.length;rw[F.len _ _ _ _ hq]at e;exact e.symm
 refine wpAny_call (aUc (f:=f) I.kIn M.makes M.init (bLs.mp M.fn) (bMx (F.run _ X.stack _ _ ⟨Value.ref (s.heap.objs.size+1)::us,[]⟩ (Value.ref (s.heap.objs.size+1)::(us++ds)) _ _ E (hr.make C us [])
  (I2.env0.make C us []) (hb _ (Value.ref (s.heap.objs.size+1)::us) I2.kIn hl) r2 hq) λr s' hq'=>?_))
 cases r with
 |error e=>exact hx pins σ _ _ e s' I2 hq'
 |ok fl=>
  cases fl with
  |ret u=>
   obtain⟨v,H',I3,rv,ev,q3⟩:=I2.after hq';subst ev;exact⟨rv,⟨V.ref (s.heap.objs.size+1),H',I3,rfl,q3⟩⟩
  |next=>exact False.elim hq'
  |brk=>exact False.elim hq'
  |cont=>exact False.elim hq'
def aYp(M:Mk X.K C f)(F:FnOk X.prog X.w X.K X.mg X.base CX k f fd ps sp)(hr:Room (k+1) X.A)(hg:Gl X x)(hm:X.mg x=some (.ref C))(hb:Binds X.K fd ps ds)(hd:Vals dvs ds)(hx:aDa CX X E)
  (ha:PA X (e::es) t) (hdb:(x==("__debug__":Str))=false:=by decide) (he:starEach (e::es) X.env=(false,eval e X.env)::starEach es X.env:=by rfl) (hpl:(backTo pos (starEach es X.env)).any (·.1)=false:=by rfl) :
  PE X (.Call (.Name x p) (e::es) [] pos) (bFk C sp dvs E t):=by
 intro pins s σ H Q I h;refine bL8 (aJi I hg hm ?_ hdb);refine bMy (h₀:=X.base) I.ok.mod.kin M.kp (thn (ha pos pins s σ H _ I h) λus s1 ⟨vs,H1,I1,r,q⟩=>⟨I1.kIn,?_⟩) he hpl
 exact aUg M F hr hb hd hx I1 r q
end
structure FnScope(N P:List Str)(sc:Scope):Prop where
 kind:sc.kind=.function
 co:sc.isCoroutine=false
 gen:sc.isGenerator=false
 nd:N.Nodup
 pre:N.take P.length=P
 par:∀x∈P,sc.names.lookup x=some .local\/sc.names.lookup x=some .cell
 nofree:∀y∈sc.names,y.2≠.free
theorem aI9{kindOf:Str->Option NameKind}{x:Str}:∀{binds:List (Str×Value)} {m:Str->Option Value},(∀v,(x,v)∉binds)->bindL kindOf binds m x=m x
 |[],_,_=>rfl
 |(n,v)::r,m,h=>by
  unfold bindL;rw[aI9 λw hw=>h w (bIl _ hw)]
  split
  .have:x≠n:=by rintro rfl;exact h v bIm
   simp[this]
  .rfl
theorem aIa{kindOf:Str->Option NameKind}{x:Str}:∀{binds:List (Str×Value)} {m:Str->Option Value},(∀v,(x,v)∉binds)->bindC kindOf binds m x=m x
 |[],_,_=>rfl
 |(n,v)::r,m,h=>by
  unfold bindC;rw[aIa λw hw=>h w (bIl _ hw)]
  split
  .rfl
  .have:x≠n:=by rintro rfl;exact h v bIm
   simp[this]
theorem aIb{kindOf:Str->Option NameKind}{x:Str}{v:Value}:∀{P:List Str}{vs:List Value}{i:Nat}{m:Str->Option Value},P.Nodup->P[i]?=some x->vs[i]?=some v->kindOf x=some .local->
  bindL kindOf (P.zip vs) m x=some v
 |[],_,_,_,_,h,_,_=>by simp at h
 |_::_,[],_,_,_,_,h,_=>by simp at h
 |p::P,w::vs,0,m,nd,h1,h2,hk=>by
  simp at h1 h2;subst h1;subst h2;show bindL kindOf ((p,w)::P.zip vs) m p=_;unfold bindL;rw[aI9 λv hv=>(bK2.mp nd).1 (bO2 hv).1,bIv hk]
  simp
 |p::P,w::vs,i+1,m,nd,h1,h2,hk=>by
  show bindL kindOf ((p,w)::P.zip vs) m x=_;unfold bindL;exact aIb (i:=i) (bK2.mp nd).2 (by simpa using h1) (by simpa using h2) hk
theorem aIc{kindOf:Str->Option NameKind}{x:Str}{v:Value}:∀{P:List Str}{vs:List Value}{i:Nat}{m:Str->Option Value},P.Nodup->P[i]?=some x->vs[i]?=some v->kindOf x≠some .local->
  bindC kindOf (P.zip vs) m x=some v
 |[],_,_,_,_,h,_,_=>by simp at h
 |_::_,[],_,_,_,_,h,_=>by simp at h
 |p::P,w::vs,0,m,nd,h1,h2,hk=>by
  simp at h1 h2;subst h1;subst h2;show bindC kindOf ((p,w)::P.zip vs) m p=_;unfold bindC;rw[aIa λv hv=>(bK2.mp nd).1 (bO2 hv).1,bIt hk]
  simp
 |p::P,w::vs,i+1,m,nd,h1,h2,hk=>by
  show bindC kindOf ((p,w)::P.zip vs) m x=_;unfold bindC;exact aIc (i:=i) (bK2.mp nd).2 (by simpa using h1) (by simpa using h2) hk
def start(N:List Str)(vs:List V):St:=vs.map some++List.replicate (N.length-vs.length) none
def aF6(CX:CXT)(P:Program)(w:World)(K:PySem.W.Frag)(mg:Str->Option Value)(base:Heap)(N:List Str)(qual:Str)(scope:Scope)(f:Addr)(cd:Value)(A:Around)(outer:List Env)(s:Shared)(H:Hp)(E:XK):Cx where
 prog:=P
 w:=w
 K:=K
 mg:=mg
 base:=base
 A:=A.deeper (envOfC qual scope s.heap.objs.size f cd)
 N:=N
 s₀:=s
 H₀:=H
 env:=envOfC qual scope s.heap.objs.size f cd
 outer:=outer
 stack:=envOfC qual scope s.heap.objs.size f cd::outer
 ex:=[]
 calm:=true
 fn:=λ_=>true
 pn:=[]
 xe:=λe s'=>wpAny (model P w) (A.deeper (envOfC qual scope s.heap.objs.size f cd)) (leaving (envOfC qual scope s.heap.objs.size f cd) e) (λ_ s''=>CX outer H s E e s'') (λe' s''=>CX outer H s E e' s'') s'
def aLg{sc:Scope}{n:Nat}{x:Str}(h:sc.names.lookup x=some .cell):∃c,(cellsFrom n sc.names []).lookup x=some c:=by
 have q:=bNv sc.names n [] (.inl h);exact bKx.mp q
def aSg{CX:CXT}{P:Program}{w:World}{K:PySem.W.Frag}{mg:Str->Option Value}{base:Heap}{N ps:List Str}{qual:Str}{scope:Scope}{f:Addr}{cd:Value}{A:Around}{outer:List Env}{s s1:Shared}{H:Hp}{E:XK}{us:List Value}{vs:List V}
  (S:FnScope N ps scope) (hd:A.handled=none) (e0:Env0 P w K mg base A outer s H) (hl:vs.length=ps.length) (r:Vals vs us)
  (x:InCallC s s.heap.objs.size (bindL (envOfC qual scope s.heap.objs.size f cd).kindOf (ps.zip us) λ_=>none) (cellsFrom (s.heap.objs.size+1) scope.names []) (bindC (envOfC qual scope s.heap.objs.size f cd).kindOf (ps.zip us) λ_=>none) s1) :
  Inv (aF6 CX P w K mg base N qual scope f cd A outer s H E) [] (start N vs) H s1:=by
 have hpl:ps.length<=N.length:=by have:=congrArg List.length S.pre;rw[List.length_take]at this;omega
 obtain⟨h1,tk,rfl,hk⟩:=x.done;have noA:∀b:Addr,b∉(aF6 CX P w K mg base N qual scope f cd A outer s H E).ex:=λb z=>absurd (show b∈([]:List Addr) from z) (by simp)
 refine⟨⟨e0.mod,S.kind,rfl,rfl,bIn _,λy z c h1 h2=>?_,λy hy=>?_,λy c _ h=>?_,λ_=>hd,Around.frames_deeper e0.frames,.inr ⟨rfl,rfl⟩,λb z=>absurd z (noA b),e0.bs,e0.bsz,λb _ _=>noA b,λb z=>absurd z (noA b),e0.funs,e0.frf⟩,
  rfl,e0.bare,Un.kept hk,⟨_,x.toInCall.ns,λi y v h1 h2 h3=>?_⟩,λy c h=>⟨_,x.cell y c h⟩,e0.hok.fresh (bIn _),λy c h=>?_,λp hp=>absurd (show p∈([]:List (Addr×Obj)) from hp) (by simp),e0.hok.kept hk,?_⟩
 .exact name_of_addr x.apart (bJo h1) (bJo h2)
 .have hy:scope.names.lookup y=some .cell\/scope.names.lookup y=some .free:=hy;rcases hy with hy|hy
  .exact aLg hy
  .exact absurd rfl (S.nofree _ (bJo hy))
 .exact bM8 (x.above y c (bJo h))
 .have hi:i<vs.length:=by
   unfold start at h2
   by_cases hi:i<vs.length
   .exact hi
   .rw[bJu (by simpa using hi)]at h2
    rw[List.getElem?_replicate]at h2;split at h2<;>cases h2
  have ha:vs[i]?=some v:=by
   unfold start at h2;rw[bJg (by simpa using hi),List.getElem?_map]at h2
   cases e:vs[i]? with
   |none=>rw[e]at h2;cases h2
   |some a=>rw[e]at h2;cases h2;rfl
  obtain⟨u,hu,rv⟩:=r.get ha;have hp:ps[i]?=some y:=by
   rw[<-S.pre,List.getElem?_take_of_lt (by omega)];exact h1
  have ndP:ps.Nodup:=by rw[<-S.pre];exact S.nd.sublist (List.take_sublist _ _)
  refine⟨u,rv,?_⟩;rcases S.par y (bJd hp) with k|k
  .exact .inl ⟨k,aIb ndP hp hu k⟩
  .obtain⟨c,e⟩:=aLg (n:=s.heap.objs.size+1) k;refine .inr ⟨.inl k,c,e,?_⟩;have q:=x.cell y c e;rw[aIc ndP hp hu (by show scope.names.lookup y≠_;rw[k];decide)]at q
   exact q
 .exact e0.hok.fresh (bM8 (x.above y c (bJo h)))
 .unfold start;show _=N.length;rw[bJ8,bJ9,List.length_replicate];omega
def bBj{CX:CXT}{P:Program}{w:World}{K:PySem.W.Frag}{mg:Str->Option Value}{base:Heap}{k:Nat}{f:Addr}{name qual:Str}{params:Arguments}{body:List Stmt}{scope:Scope}{dV kV doc pm cdv ct oc:Value}{an od:Option Addr}
  {osl:Array (Option Value)} {N ps:List Str} {sp:Sp} (lk:K.lookup f=some ⟨oc,od,.func (PySem.W.fnOf name qual params body scope dV kV doc pm an cdv ct),osl⟩) (hcd:PySem.W.codeIn K cdv qual=true) (S:FnScope N ps scope)
  (len:∀vs H Q E,sp vs H Q E->vs.length=ps.length)
  (hbody:∀(A:Around)(outer:List Env)(s:Shared)(H:Hp)(vs:List V)(Q:VK)(E:XK),Room k (A.deeper (envOfC qual scope s.heap.objs.size f cdv))->sp vs H Q E->
   ∃t,PSs (aF6 CX P w K mg base N qual scope f cdv A outer s H E) body t/\t {nx:=λ_ H'=>Q .non H',rt:=Q} (start N vs) H) :
  FnOk P w K mg base CX (k+1) f (PySem.W.fnOf name qual params body scope dV kV doc pm an cdv ct) ps sp:=by
 refine⟨len,λA outer s H args us vs Q E hr e0 hb r hsp=>?_⟩
 have hl:=len _ _ _ _ hsp;have KX:K.In s.heap:=e0.mod.kin.keeps λb o e=>(e0.bs b o e).1
 have lim:s.heap.NoLimit:=e0.mod.nolimit.keeps λb o e=>(e0.bs b o e).1
 have hkind:∀y∈ps.zip us,scope.names.lookup y.1=some .local\/(scope.names.lookup y.1=some .cell/\((cellsFrom (s.heap.objs.size+1) scope.names []).lookup y.1).isSome=true):=λ⟨n,v⟩ hy=>by
  rcases S.par n (bO2 hy).1 with q|q
  .exact .inl q
  .exact .inr ⟨q,bNv _ _ _ (.inl q)⟩
 refine codeAny_call_function hr.depth (KX _ _ lk) rfl S.co S.gen rfl (PySem.W.codeRec_of KX hcd) (hb _ _ _ _ ?_);refine wpAny_newFunctionEnv_cells S.kind hkind λenv he s1 x=>?_
 subst he;refine⟨lim.keeps x.toInCall.keep,codeAny_func ?_⟩;obtain⟨t,ht,hq⟩:=hbody A outer s H vs Q E (hr.deeper _) hsp;have I:Inv (aF6 CX P w K mg base N qual scope f cdv A outer s H E) [] (start N vs) H s1:=aSg S hr.hd e0 hl r x;refine bKf (ht [] s1 (start N vs) H _ I hq) (λfl s' hs=>?_) λe s' hs=>hs
 have fin:∀{σ':St}{H':Hp}{v:V}{u:Value},Inv (aF6 CX P w K mg base N qual scope f cdv A outer s H E) [] σ' H' s'->RelV v u->Q v H'->CE outer P w H s Q u s':=
  λ{σ' H' v u} J rv q=>⟨v,H',J.os,J.bare,J.base,J.hok,rv,q⟩
 cases fl with
 |ret u=>
  obtain⟨v,σ',H',J,rv,q⟩:=hs;exact fin J rv q
 |next=>
  obtain⟨σ',H',J,q⟩:=hs;exact fin (v:=V.non) (u:=Value.none) J rfl q
 |brk=>
  obtain⟨_,_,_,q⟩:=hs;exact False.elim q
 |cont=>
  obtain⟨_,_,_,q⟩:=hs;exact False.elim q
end L2
namespace L2
open PySem PySem.Spec PyProof.Rows
section
variable{X:Cx}{x:Str}{p pos:Pos}{e:Expr}{es:List Expr}{t:TA}{id T:String}{r:List V->Hp->VK->Prop}
def tCB(r:List V->Hp->VK->Prop)(t:TA):TE:=λσ H Q=>t σ H λvs H1=>r vs H1 Q
def uH(hc:nA X (.builtin id) r)(hg:Gl X x)(hm:X.mg x=none)(hv:bootBuiltins x=some (.builtin id))(ha:PA X (e::es) t)(hn:x≠"__name__":=by decide)(hdb:(x==("__debug__":Str))=false:=by decide)
  (he:starEach (e::es) X.env=(false,eval e X.env)::starEach es X.env:=by rfl) (hpl:(backTo pos (starEach es X.env)).any (·.1)=false:=by rfl):PE X (.Call (.Name x p) (e::es) [] pos) (tCB r t):=by
 intro pins s σ H Q I h;refine bL8 (xW I hg hm hv ?_ hn hdb);exact PyProof.Rows.callWith_builtin1 (thn (ha pos pins s σ H _ I h) λus s1 ⟨vs,H1,I1,r1,q1⟩=>hc pins s1 σ H1 vs us Q I1 r1 q1) he hpl
def uI(hc:nA X (.type T) r)(hg:Gl X x)(hm:X.mg x=none)(hv:bootBuiltins x=some (.type T))(ha:PA X (e::es) t)(hn:x≠"__name__":=by decide)(hdb:(x==("__debug__":Str))=false:=by decide)
  (he:starEach (e::es) X.env=(false,eval e X.env)::starEach es X.env:=by rfl) (hpl:(backTo pos (starEach es X.env)).any (·.1)=false:=by rfl):PE X (.Call (.Name x p) (e::es) [] pos) (tCB r t):=by
 intro pins s σ H Q I h;refine bL8 (xW I hg hm hv ?_ hn hdb);exact bKb (thn (ha pos pins s σ H _ I h) λus s1 ⟨vs,H1,I1,r1,q1⟩=>hc pins s1 σ H1 vs us Q I1 r1 q1) he hpl
end
end L2
namespace HT
open PySem PyProof.Rows
section
open PySem.SeqAt
open PySem.AutoSeq1 (wpAny_loadPart')
open PySem.MeetsSeq PySem.MeetsSeq2 PySem.MeetsSeq3
end
section
variable{prog:Program}{w:World}{A:Around}{E:Value->Shared->Prop}{s:Shared}
def sIx(n d:Nat):Option Int->Nat
 |none=>d
 |some v=>if v<0 then (v+(n:Int)).toNat else min v.toNat n
end
end HT
namespace L2
open PySem PySem.Spec PyProof.Rows
abbrev TO:=St->Hp->(Option Int->Hp->Prop)->Prop
def PO(X:Cx)(e:Option Expr)(t:TO):Prop:=
 ∀(pins:List (Addr×Obj)) (s:Shared) (σ:St) (H:Hp) (Q:Option Int->Hp->Prop),Inv X pins σ H s->t σ H Q->
  wpAny (model X.prog X.w) X.A (evalPart e X.env) (λu s'=>∃o H',Inv X pins σ H' s'/\IsPart u o/\Q o H') X.xe s
def aYq:TO:=λ_ H Q=>Q none H
def bFl(t:TE):TO:=λσ H Q=>t σ H λx H1=>∃i,x=.int i/\Q (some i) H1
section
variable{X:Cx}{e:Expr}{te:TE}{lo hi:Option Expr}{tl th:TO}{pos p2:Pos}
def aYr:PO X none aYq:=by
 intro pins s σ H Q I h;rw[evalPart_none];exact bIx ⟨none,H,I,.none,h⟩
def aYs(h:PE X e te):PO X (some e) (bFl te):=by
 intro pins s σ H Q I hw;rw[evalPart_some];refine thn (h pins s σ H _ I hw) λu s1 ⟨x,H1,I1,r1,q1⟩=>?_
 obtain⟨i,rfl,q⟩:=q1;obtain⟨t,rfl⟩:=r1;exact⟨some i,H1,I1,.int i t,q⟩
def SlR(X:Cx)(r:V->Option Int->Option Int->Hp->VK->Prop):Prop:=
 ∀(pins:List (Addr×Obj)) (s:Shared) (σ:St) (H:Hp) (x:V) (v vl vu:Value) (lo hi:Option Int) (sl:Addr) (Q:VK),Inv X pins σ H s->RelV x v->s.heap.IsSliceOf sl vl vu .none->IsPart vl lo->IsPart vu hi->r x lo hi H Q->
  ∃T id,typeLookup (.type T) "__getitem__"=pure (some (.builtin id))/\s.TypeIs v T/\wpAny (model X.prog X.w) X.A (getItem v (.ref sl)) (EP X pins σ Q) X.xe s
def SlR.or{r r':V->Option Int->Option Int->Hp->VK->Prop}(h:SlR X r)(h':SlR X r'):SlR X (λx lo hi H Q=>r x lo hi H Q\/r' x lo hi H Q):=by
 intro pins s σ H x v vl vu lo hi sl Q I rx hs pl pu q;rcases q with q|q
 .exact h pins s σ H x v vl vu lo hi sl Q I rx hs pl pu q
 .exact h' pins s σ H x v vl vu lo hi sl Q I rx hs pl pu q
def tSl(r:V->Option Int->Option Int->Hp->VK->Prop)(te:TE)(tl th:TO):TE:=λσ H Q=>te σ H λx H1=>tl σ H1 λl H2=>th σ H2 λu H3=>r x l u H3 Q
def aUh{r:V->Option Int->Option Int->Hp->VK->Prop}(hr:SlR X r)(he:PE X e te)(hl:PO X lo tl)(hu:PO X hi th):PE X (.Subscript e (.Slice lo hi none p2) pos) (tSl r te tl th):=by
 intro pins s σ H Q I h;refine Subscript_ (thn (he pins s σ H _ I h) λv s1 ⟨x,H1,I1,r1,q1⟩=>?_)
 refine wpAny_Slice (thn (hl pins s1 σ H1 _ I1 q1) λvl s2 ⟨l,H2,I2,pl,q2⟩=>thn (hu pins s2 σ H2 _ I2 q2) λvu s3 ⟨u,H3,I3,pu,q3⟩=>?_)
 rw[evalPart_none];refine bIx ?_
 have I4:Inv X pins σ H3 {s3 with heap:=s3.heap.push {cls:=.type "slice",data:=.fields #[vl,vu,.none]} }:=I3.kept (t':=s3.toks) λb ob q=>bIi _ q
 obtain⟨T,id,hT,ht,hg⟩:=hr pins {s3 with heap:=s3.heap.push {cls:=.type "slice",data:=.fields #[vl,vu,.none]} } σ H3 x v vl vu l u s3.heap.objs.size Q I4 r1 (Heap.IsSliceOf.new ..) pl pu q3
 show wpAny (model X.prog X.w) X.A (subscriptTail e (.Slice lo hi none p2) v (.ref s3.heap.objs.size)) (EP X pins σ Q) X.xe {s3 with heap:=s3.heap.push {cls:=.type "slice",data:=.fields #[vl,vu,.none]} }
 exact tail_any (ops:=[.ref s3.heap.objs.size,v]) ht hT hg (by with_unfolding_all rfl)
def aSh(xs:List V)(lo hi:Option Int):List V:=(xs.drop (HT.sIx xs.length 0 lo)).take (HT.sIx xs.length xs.length hi-HT.sIx xs.length 0 lo)
def aLh(xs:List V)(lo hi:Option Int):(aSh xs lo hi).length<=xs.length:=by
 unfold aSh;rw[List.length_take,List.length_drop];omega
end
end L2
namespace L2
open PySem PySem.Spec PyProof.Rows
def ixN(n:Nat)(i:Int):Option Nat:=if 0<=i then (if i<n then some i.toNat else none) else if -(n:Int)<=i then some (i+n).toNat else none
def atI{α:Type}(xs:List α)(i:Int):Option α:=(ixN xs.length i).bind λj=>xs[j]?
def aQ0{n:Nat}{i:Int}{j:Nat}(h:ixN n i=some j):seqIndex? i n=some j/\j<n/\-(n:Int)<=i/\i<n:=by
 unfold ixN at h
 by_cases h0:0<=i
 .rw[bIv h0]at h
  by_cases h1:i<n
  .rw[bIv h1]at h;have e:i.toNat=j:=bJ3 h;exact⟨by rw[seqIndex_of h0 h1,e],by omega,by omega,h1⟩
  .rw[bIt h1]at h;cases h
 .rw[bIt h0]at h
  by_cases h1 : -(n:Int)<=i
  .rw[bIv h1]at h;have e:(i+n).toNat=j:=bJ3 h;exact⟨by rw[seqIndex_neg (by omega) h1,e],by omega,h1,by omega⟩
  .rw[bIt h1]at h;cases h
def aJq{α:Type}{xs:List α}{i:Int}{v:α}(h:atI xs i=some v):∃j,seqIndex? i xs.length=some j/\xs[j]?=some v/\j<xs.length/\-(xs.length:Int)<=i/\i<xs.length:=by
 unfold atI at h;cases e:ixN xs.length i with
 |none=>rw[e]at h;cases h
 |some j=>
  rw[e]at h;obtain⟨h1,h2,h3,h4⟩:=aQ0 e;exact⟨j,h1,h,h2,h3,h4⟩
def atI_nat{α:Type}{xs:List α}{j:Nat}{v:α}(h:xs[j]?=some v):atI xs (j:Int)=some v:=by
 have hj:j<xs.length:=(bIk.mp h).1;have e:ixN xs.length (j:Int)=some j:=by
  unfold ixN;rw[bIv (by omega),bIv (by omega)];simp
 unfold atI;rw[e];exact h
def aQ1(b:Expr):Prop:=∀o i,subscripted b false o i=operate [o,i] (getItem o i)
def IxR(X:Cx)(r:R2):Prop:=
 ∀(value slice:Expr) (pins:List (Addr×Obj)) (s:Shared) (σ:St) (H:Hp) (x y:V) (v u:Value) (Q:VK),Inv X pins σ H s->RelV x v->RelV y u->r x y H Q->
  subscripted slice false v u=operate [v,u] (getItem v u)->wpAny (model X.prog X.w) X.A (subscriptTail value slice v u) (EP X pins σ Q) X.xe s
def MtR(X:Cx)(id:String)(r:V->List V->Hp->VK->Prop):Prop:=
 ∀(pins:List (Addr×Obj)) (s:Shared) (σ:St) (H:Hp) (x:V) (xs:List V) (v:Value) (us:List Value) (Q:VK),Inv X pins σ H s->RelV x v->Vals xs us->r x xs H Q->
  wpAny (model X.prog X.w) X.A (call (.builtin id) (v::us)) (EP X pins σ Q) X.xe s
section
variable{X:Cx}{a b:Expr}{ta tb:TE}{pos:Pos}
def IxR.or{r r':R2}(h:IxR X r)(h':IxR X r'):IxR X (λx y H Q=>r x y H Q\/r' x y H Q):=by
 intro value slice pins s σ H x y v u Q I rx ry q hs;rcases q with q|q
 .exact h value slice pins s σ H x y v u Q I rx ry q hs
 .exact h' value slice pins s σ H x y v u Q I rx ry q hs
def aUi{r:R2}(hr:IxR X r)(ha:PE X a ta)(hb:PE X b tb)(hs:aQ1 b):PE X (.Subscript a b pos) (tOp r ta tb):=by
 intro pins s σ H Q I h;exact Subscript_ (bCh ha hb I h λv u s2 x y H2 I2 rx ry q=>hr a b pins s2 σ H2 x y v u Q I2 rx ry q (hs _ _))
def bFm(K:PySem.W.Frag):R2:=λx y H Q=>∃p xs i v,x=.ref p/\y=.int i/\SqL K H p xs/\atI xs i=some v/\Q v H
def bFn(K:PySem.W.Frag):R2:=λx y H Q=>∃p xs i v,x=.ref p/\y=.int i/\SqT K H p xs/\atI xs i=some v/\Q v H
def bFo:R2:=λx y H Q=>∃z i c,x=.str z/\y=.int i/\z.length<=sizeLine/\atI z.cps.toList i=some c/\Q (.str ⟨#[c]⟩) H
def aYt:IxR X (bFm X.K):=by
 intro value slice pins s σ H x y v u Q I rx ry h hs;obtain⟨p,xs,i,z,rfl,rfl,hq,he,q⟩:=h;cases rx;obtain⟨t,rfl⟩:=ry;obtain⟨its,r,pl,hz⟩:=I.list hq;obtain⟨j,h1,h2,h3,h4,h5⟩:=aJq he;obtain⟨w,ew,rw'⟩:=r.get h2;have hl:=r.length;have hn:=aD8;have fin:EP X pins σ Q w s:=⟨z,H,I,rw',q⟩
 by_cases h0:0<=i
 .have hj:i.toNat=j:=by
   rw[seqIndex_of h0 h5]at h1;exact bJ3 h1
  exact item_listR pl.isList h0 (by omega) (by rw[hj];simpa using ew) fin hs
 .have hj:(i+(its.toArray.size:Int)).toNat=j:=by
   rw[seqIndex_neg (by omega) h4]at h1
   rw[bJ6,<-hl];exact bJ3 h1
  exact subscriptTail_builtinR (x:=w) pl.isList.typeIs slot_list_getitem.lookup
   (wpAny_getItem_list_neg (Q:=λr s'=>r=w/\EP X pins σ Q r s') pl.isList (by omega) (by rw[bJ6] <;> omega) (by omega) (by rw[hj];simpa using ew) ⟨rfl,fin⟩) hs
def bCt:IxR X (bFn X.K):=by
 intro value slice pins s σ H x y v u Q I rx ry h hs;obtain⟨p,xs,i,z,rfl,rfl,hq,he,q⟩:=h;cases rx;obtain⟨t,rfl⟩:=ry;obtain⟨its,r,pl,hz⟩:=I.tuple hq;obtain⟨j,h1,h2,h3,h4,h5⟩:=aJq he;obtain⟨w,ew,rw'⟩:=r.get h2;have hl:=r.length;have hn:=aD8;have fin:EP X pins σ Q w s:=⟨z,H,I,rw',q⟩;exact subscriptTail_builtinR (x:=w) pl.typeIs slot_tuple_getitem.lookup
  (getItem_tuple (j:=j) (Q:=λr s'=>r=w/\EP X pins σ Q r s') pl (by omega) (by omega) (by rw[bJ6,<-hl];exact h1) (by simpa using ew) ⟨rfl,fin⟩) hs
def bCu:IxR X bFo:=by
 intro value slice pins s σ H x y v u Q I rx ry h hs;obtain⟨z,i,c,rfl,rfl,hz,he,q⟩:=h;obtain⟨t,rfl⟩:=rx;obtain⟨t',rfl⟩:=ry;obtain⟨j,h1,h2,h3,h4,h5⟩:=aJq he;have hl:z.cps.toList.length=z.length:=by simp[Str.length]
 rw[hl]at h1 h4 h5;have hn:=aD8;exact tail_any (typeIs_str s z t) slot_str_getitem.lookup (getItem_str (c:=c) (by
  have e1:decide (i < -(2^63:Int))=false:=bIs (by omega)
  have e2:decide (i ≥ 2^63)=false:=bIs (by omega)
  rw[e1,e2,Bool.or_false]) (by rw[h1];simpa using h2) ⟨.str ⟨#[c]⟩,H,I.tok _,⟨_,rfl⟩,q⟩) hs
def rIx(K:PySem.W.Frag):R2:=λx y H Q=>bFm K x y H Q\/bFn K x y H Q\/bFo x y H Q
def aO2:IxR X (rIx X.K):=aYt.or (bCt.or bCu)
def aO3(its:List Value)(n j:Nat)(u:Value):Obj.mapSeq (·.setIfInBounds j u) {cls:=.type "list",data:=.seq its.toArray n}={cls:=.type "list",data:=.seq (its.set j u).toArray n}:=by
 simp[Obj.mapSeq]
theorem Inv.lst{pins:List (Addr×Obj)}{σ:St}{H:Hp}{s:Shared}{p:Addr}{xs:List V}(I:Inv X pins σ H s)(h:H p=some (.lst xs)) :
  ∃(its:List Value)(n:Nat),Vals xs its/\s.heap.get? p=some {cls:=.type "list",data:=.seq its.toArray n}/\xs.length<=sizeLine:=by
 obtain⟨z,its,n,r,e⟩:=I.hok p _ h;exact⟨its,n,r,e,z⟩
def Inv.lstUpd{pins:List (Addr×Obj)}{σ:St}{H:Hp}{s:Shared}{p:Addr}{xs ys:List V}{its its':List Value}{n n':Nat}{f:Obj->Obj}(I:Inv X pins σ H s)(h:H p=some (.lst xs))
  (ho:s.heap.get? p=some {cls:=.type "list",data:=.seq its.toArray n}) (hf:f {cls:=.type "list",data:=.seq its.toArray n}={cls:=.type "list",data:=.seq its'.toArray n'}) (r:Vals ys its') (hz:ys.length<=sizeLine) (t:Nat) :
  Inv X pins σ (upd H p (.lst ys)) {s with heap:=s.heap.update p f,toks:=t}:=by
 have e:(s.heap.update p f).get? p=some {cls:=.type "list",data:=.seq its'.toArray n'}:=by
  rw[bM9 f ho (by rw[hf] <;> rfl),hf]
 refine I.write (x:=p) (e:=p) (by rw[h];trivial) (.inl rfl) (λb u hb q=>(bL6 _ _ (bL5 hb)).trans q) ⟨_,e⟩ ?_
 exact⟨hz,its',n',r,e⟩
def bFp:V->V->V->Hp->(Hp->Prop)->Prop:=λo i v H Q=>∃p xs k j,o=.ref p/\i=.int k/\H p=some (.lst xs)/\ixN xs.length k=some j/\Q (upd H p (.lst (xs.set j v)))
def set_list:bCd X bFp:=by
 intro pins s σ H o i v ov iv u Q I ro ri rv h;obtain⟨p,xs,k,j,rfl,rfl,hp,hj,q⟩:=h;cases ro;obtain⟨t,rfl⟩:=ri;obtain⟨its,n,r,ho,hz⟩:=I.lst hp;obtain⟨h1,h2,h3,h4⟩:=aQ0 hj;have hl:=r.length;have hn:=aD8;have I':Inv X pins σ (upd H p (.lst (xs.set j v))) {s with heap:=s.heap.update p (Obj.mapSeq (·.setIfInBounds j u))}:=
  I.lstUpd hp ho (aO3 its n j u) (r.set rv j) (by rw[bJy];exact hz) s.toks
 by_cases h0:0<=k
 .have hk:k.toNat=j:=by
   rw[seqIndex_of h0 h4]at h1;exact bJ3 h1
  exact PySem.W.ki_setAt ho h0 (by omega) (by rw[bJ6,<-hl];exact h4) (by rw[hk];exact⟨_,I',q⟩)
 .have hk:(k+(its.toArray.size:Int)).toNat=j:=by
   rw[seqIndex_neg (by omega) h3]at h1
   rw[bJ6,<-hl];exact bJ3 h1
  exact PySem.W.ki_setBack ho (by omega) (by rw[bJ6,<-hl];exact h3) (by omega) (by rw[hk];exact⟨_,I',q⟩)
def aJr(lo hi:Option Int)(n:Nat):(sliceBounds lo hi none n).1=((HT.sIx n 0 lo:Nat):Int)/\(sliceBounds lo hi none n).2.1=((HT.sIx n n hi:Nat):Int)/\(sliceBounds lo hi none n).2.2=1:=by
 refine⟨?_,?_,rfl⟩
 .cases lo with
  |none=>simp[sliceBounds,HT.sIx]
  |some i=>
   simp only[sliceBounds,HT.sIx,Option.getD_none,show (1:Int)>0 by decide,if_true]
   by_cases h:i<0
   .simp only[h,if_true] <;> omega
   .simp only[h,if_false] <;> omega
 .cases hi with
  |none=>simp[sliceBounds,HT.sIx]
  |some i=>
   simp only[sliceBounds,HT.sIx,Option.getD_none,show (1:Int)>0 by decide,if_true]
   by_cases h:i<0
   .simp only[h,if_true] <;> omega
   .simp only[h,if_false] <;> omega
def aHy(its:List Value)(lo hi:Option Int):slicePick its.toArray lo hi none=((its.drop (HT.sIx its.length 0 lo)).take (HT.sIx its.length its.length hi-HT.sIx its.length 0 lo)).toArray:=by
 obtain⟨h1,h2,h3⟩:=aJr lo hi its.toArray.size;unfold slicePick;rw[h1,h2,h3];simp only[sliceRange_one,pick_run,List.size_toArray] <;> rfl
def bI0(K:PySem.W.Frag):V->Option Int->Option Int->Hp->VK->Prop:=λx lo hi H Q=>∃a xs,x=.ref a/\SqL K H a xs/\∀p,H p=none->Q (.ref p) (upd H p (.lst (aSh xs lo hi)))
def aYu:SlR X (bI0 X.K):=by
 intro pins s σ H x v vl vu lo hi sl Q I rx hs pl pu h;obtain⟨a,xs,rfl,hx,q⟩:=h;cases rx;obtain⟨its,r,ht,hz⟩:=I.list hx;have hlen:=r.length;refine⟨"list",_,slot_list_getitem.lookup,ht.isList.typeIs,?_⟩;refine wpAny_getItem_list_slice ht.isList hs pl pu .none (by simp) ?_ (by rw[bJ6] <;> omega)
 rw[aHy,<-hlen];refine⟨.ref s.heap.objs.size,_,I.laid (t':=s.toks) (o:=.lst (aSh xs lo hi)) (λb ob q=>bIi _ q) (bIn _) ?_,rfl,q _ (I.hok.fresh (bIn _))⟩
 exact⟨bJj (aLh xs lo hi) hz,_,0,(r.drop (HT.sIx xs.length 0 lo)).take (HT.sIx xs.length xs.length hi-HT.sIx xs.length 0 lo),bIy _ rfl⟩
def aJs:nA X (.builtin "len") (λxs H Q=>∃p ys,xs=[.ref p]/\(SqL X.K H p ys\/SqT X.K H p ys)/\Q (.int ys.length) H):=by
 intro pins s σ H xs us Q I r h;obtain⟨p,ys,rfl,hq,q⟩:=h;obtain⟨u,rfl,rx⟩:=vals1 r;cases rx;have hn:=aD8;rcases hq with hq|hq
 .obtain⟨its,r',pl,hz⟩:=I.list hq;have hlen:=r'.length;exact Calls.call_len_list pl.isList (by simp only[List.size_toArray] <;> omega) ⟨.int ys.length,H,I.tok _,⟨s.toks+1,by rw[bJ6,hlen]⟩,q⟩
 .obtain⟨its,r',pl,hz⟩:=I.tuple hq;have hlen:=r'.length;exact len_tuple pl (by simp only[List.size_toArray] <;> omega) ⟨.int ys.length,H,I.tok _,⟨s.toks+1,by rw[bJ6,hlen]⟩,q⟩
def aJt:nA X (.builtin "len") (λxs H Q=>∃z,xs=[.str z]/\z.length<=sizeLine/\Q (.int z.length) H):=by
 intro pins s σ H xs us Q I r h;obtain⟨z,rfl,hz,q⟩:=h;obtain⟨u,rfl,t,rfl⟩:=vals1 r;have hn:=aD8;exact len_str (by omega) ⟨.int z.length,H,I.tok _,⟨_,rfl⟩,q⟩
def nA.or{f:Value}{r r':List V->Hp->VK->Prop}(h:nA X f r)(h':nA X f r'):nA X f (λxs H Q=>r xs H Q\/r' xs H Q):=by
 intro pins s σ H xs us Q I rs q;rcases q with q|q
 .exact h pins s σ H xs us Q I rs q
 .exact h' pins s σ H xs us Q I rs q
def tyV(K:PySem.W.Frag)(T:String)(x:V)(H:Hp):Prop:=match x with
 |.str _=>T="str"
 |.int _=>T="int"
 |.ref p=>(T="list"/\∃xs,SqL K H p xs)\/(T="tuple"/\∃o,K.lookup p=some o/\o.cls=.type "tuple"/\o.dict=none)\/
   (T="dict"/\((∃kvs,H p=some (.dK kvs))\/∃kvs,H p=some (.dT kvs)))\/(T="set"/\∃S n,H p=some (.set S n))
 |_=>False
def aUj{pins:List (Addr×Obj)}{σ:St}{H:Hp}{s:Shared}{T:String}{x:V}{v:Value}(I:Inv X pins σ H s)(r:RelV x v)(ty:tyV X.K T x H) :
  s.TypeIs v T/\∀a,v=.ref a->∃ob,s.heap.get? a=some ob/\ob.dict=none:=by
 cases x with
 |str z=>
  obtain⟨t,rfl⟩:=r;cases (show T="str" from ty)
  exact⟨typeIs_str s z t,λ_ e=>nomatch e⟩
 |int i=>
  obtain⟨t,rfl⟩:=r;cases (show T="int" from ty)
  exact⟨typeIs_int s i t,λ_ e=>nomatch e⟩
 |ref p=>
  cases r;rcases ty with ⟨rfl,xs,hq⟩|⟨rfl,o,hk,hc,hd⟩|⟨rfl,hk⟩|⟨rfl,S,n,hk⟩
  .obtain⟨its,_,pl,_⟩:=I.list hq;refine⟨pl.isList.typeIs,λa e=>?_⟩
   cases e;obtain⟨o,n,e,c,hd,_⟩:=pl;exact⟨o,e,hd⟩
  .refine⟨⟨o,I.kIn p o hk,hc⟩,λa e=>?_⟩
   cases e;exact⟨o,I.kIn _ o hk,hd⟩
  .have z:∃o,s.heap.get? p=some o/\o.ExactDict:=by
    rcases hk with ⟨kvs,hk⟩|⟨kvs,hk⟩
    .obtain⟨_,_,_,_,o,_,_,e,ex,_⟩:=I.hok p _ hk;exact⟨o,e,ex⟩
    .obtain⟨_,_,_,_,o,_,_,e,ex,_⟩:=I.hok p _ hk;exact⟨o,e,ex⟩
   obtain⟨o,e,ex⟩:=z;refine⟨⟨o,e,ex.1⟩,λa e2=>?_⟩
   cases e2;exact⟨o,e,ex.2.1⟩
  .obtain⟨o,_,_,_,e,ex,_⟩:=I.hok p _ hk;refine⟨⟨o,e,ex.1⟩,λa e2=>?_⟩
   cases e2;exact⟨o,e,ex.2.1⟩
 |_=>exact False.elim ty
def bFq(K:PySem.W.Frag)(T:String)(r:V->List V->Hp->VK->Prop)(to:TE):TE:=λσ H Q=>to σ H λx H1=>tyV K T x H1/\r x [] H1 Q
def tBM(K:PySem.W.Frag)(T:String)(r:V->List V->Hp->VK->Prop)(to:TE)(t:TA):TE:=λσ H Q=>to σ H λx H1=>tyV K T x H1/\t σ H1 λxs H2=>r x xs H2 Q
variable{o e:Expr}{es:List Expr}{to:TE}{t:TA}{name:Str}{apos cpos:Pos}{T id:String}{r:V->List V->Hp->VK->Prop}
def aJu(pa:PlainAttrs T)(slot:Slot T name id)(hty:typeOf (.builtin id)=pure (.type "method_descriptor"))(hm:MtR X id r)(ho:PE X o to)
  (hbase:attributeBase o name X.env (eval o X.env)=eval o X.env:=by rfl) (hline:(apos.endLine==cpos.line)=true:=by rfl):PE X (.Call (.Attribute o name apos) [] [] cpos) (bFq X.K T r to):=by
 intro pins s σ H Q I h;refine wpAny_Call_method0_late hbase hline (thn (ho pins s σ H _ I h) λv s1 ⟨x,H1,I1,r1,ty,q1⟩=>?_)
 obtain⟨h1,h2⟩:=aUj I1 r1 ty;exact⟨T,id,pa,slot,hty,h1,h2,bM0 rfl (PySem.evalArgs_none (hm pins s1 σ H1 x [] v [] Q I1 r1 .nil q1))⟩
def aUk(pa:PlainAttrs T)(slot:Slot T name id)(hty:typeOf (.builtin id)=pure (.type "method_descriptor"))(hm:MtR X id r)(ho:PE X o to)(ha:PA X (e::es) t)
  (hbase:attributeBase o name X.env (eval o X.env)=eval o X.env:=by rfl)
  (hfew:((backTo cpos (starEach (e::es) X.env)).all (λx=>!x.1)&&(backToKw cpos (keywordEach [] X.env)).all (λx=>x.1.isSome)
   && decide ((e::es).length+([]:List Keyword).length+(if ([]:List Keyword).isEmpty then 0 else 1)<30))=true:=by rfl)
  (hline:(apos.endLine==cpos.line)=true:=by rfl) (hs:starEach (e::es) X.env=(false,eval e X.env)::starEach es X.env:=by rfl) (hplain:(backTo cpos (starEach es X.env)).any (·.1)=false:=by rfl) :
  PE X (.Call (.Attribute o name apos) (e::es) [] cpos) (tBM X.K T r to t):=by
 intro pins s σ H Q I h;refine wpAny_Call_method_late hbase hfew hline rfl (thn (ho pins s σ H _ I h) λv s1 ⟨x,H1,I1,r1,ty,q1⟩=>?_)
 obtain⟨h1,h2⟩:=aUj I1 r1 ty;refine⟨T,id,pa,slot,hty,h1,h2,?_⟩;have hA:=ha cpos pins s1 σ H1 _ I1 q1;rw[hs]at hA ⊢;refine bM0 (by show (false||(backTo cpos (starEach es X.env)).any (·.1))=false;rw[hplain] <;> rfl) (Calls.evalArgs_plain ?_)
 exact thn hA λus s2 ⟨vs,H2,I2,r2,q2⟩=>hm pins s2 σ H2 x vs v us Q I2 r1 r2 q2
end
end L2
namespace L2
open PySem PySem.Spec PyProof.Rows
def MtM(X:Cx)(id:String)(r:V->List V->Hp->VK->Prop):Prop:=
 ∀(pins:List (Addr×Obj)) (s:Shared) (σ:St) (H:Hp) (x:V) (xs:List V) (v:Value) (us:List Value) (Q:VK),Inv X pins σ H s->RelV x v->Vals xs us->r x xs H Q->
  wpAny (model X.prog X.w) X.A (call (.builtin id) (v::us)) (EP X pins σ Q) X.xe s
def Vals.one:∀{x:V}{us:List Value},Vals [x] us->∃u,us=[u]/\RelV x u
 |_,_,.cons r .nil=>⟨_,rfl,r⟩
def Vals.two:∀{x y:V}{us:List Value},Vals [x,y] us->∃u v,us=[u,v]/\RelV x u/\RelV y v
 |_,_,_,.cons r (.cons q .nil)=>⟨_,_,rfl,r,q⟩
def Vals.zero:∀{us:List Value},Vals [] us->us=[]
 |_,.nil=>rfl
theorem Vals.dropLast{xs:List V}{us:List Value}(h:Vals xs us):Vals xs.dropLast us.dropLast:=by
 induction h with
 |nil=>exact .nil
 |cons r t ih=>
  cases t with
  |nil=>exact .nil
  |cons q t'=>exact .cons r ih
theorem Vals.reverse{xs:List V}{us:List Value}(h:Vals xs us):Vals xs.reverse us.reverse:=by
 induction h with
 |nil=>exact .nil
 |cons r t ih=>rw[List.reverse_cons,List.reverse_cons];exact Vals.append ih (.cons r .nil)
def aO4{α:Type}(l:List α):l.eraseIdx (l.length-1)=l.dropLast:=by
 induction l with
 |nil=>rfl
 |cons a r ih=>
  cases r with
  |nil=>rfl
  |cons b r=>
   have e:(a::b::r).length-1=((b::r).length-1)+1:=by
    have h1:(a::b::r).length=r.length+2:=rfl;have h2:(b::r).length=r.length+1:=rfl;omega
   rw[e,List.eraseIdx_cons_succ,ih]
   all_goals rfl
section
variable{X:Cx}{pins:List (Addr×Obj)}{σ:St}{H:Hp}{s:Shared}{l b:Addr}{xs ys zs:List V}
def Inv.lset{its its':List Value}{n:Nat}{f:Array Value->Array Value}{t':Nat}(I:Inv X pins σ H s)(hH:H l=some (.lst xs))
  (e:s.heap.get? l=some {cls:=.type "list",data:=.seq its.toArray n}) (hf:f its.toArray=its'.toArray) (hv:Vals ys its') (hz:ys.length<=sizeLine) :
  Inv X pins σ (upd H l (.lst ys)) {s with heap:=s.heap.update l (Obj.mapSeq f),toks:=t'}:=by
 have q:=PySem.IsL.update e f;rw[hf]at q;refine I.write (x:=l) (e:=l) (by rw[hH];exact trivial) (.inl rfl) (λb' u hb hu=>(bL6 s.heap (Obj.mapSeq f) (bL5 hb)).trans hu) ⟨_,q⟩ ?_
 exact⟨hz,its',_,hv,q⟩
def Inv.lnew{its:List Value}{t':Nat}(I:Inv X pins σ H s)(hv:Vals ys its)(hz:ys.length<=sizeLine) :
  Inv X pins σ (upd H s.heap.objs.size (.lst ys)) {s with heap:=s.heap.push {cls:=.type "list",data:=.seq its.toArray},toks:=t'}:=
 I.laid (λ_ _ q=>bIi _ q) (bIn _) ⟨hz,its,0,hv,bIy _ rfl⟩
theorem Inv.fresh(I:Inv X pins σ H s):H s.heap.objs.size=none:=I.hok.fresh (bIn _)
def Inv.lstM(I:Inv X pins σ H s)(hH:H l=some (.lst xs)):xs.length<=sizeLine/\∃(its:List Value)(n:Nat),Vals xs its/\xs.length=its.length/\s.heap.get? l=some {cls:=.type "list",data:=.seq its.toArray n}:=by
 obtain⟨z,its,n,r,e⟩:=I.hok l _ hH;exact⟨z,its,n,r,r.length,e⟩
end
section
variable{X:Cx}
def aYv:V->List V->Hp->VK->Prop:=λx vs H Q=>∃l xs y,x=.ref l/\vs=[y]/\H l=some (.lst xs)/\xs.length<sizeLine/\Q .non (upd H l (.lst (xs++[y])))
def aSi:MtM X "list.append" aYv:=by
 intro pins s σ H x vs v us Q I rx rv h;obtain⟨l,xs,y,rfl,rfl,hH,hz,q⟩:=h;cases rx;obtain⟨u,rfl,ru⟩:=rv.one;obtain⟨z,its,n,r,hl,e⟩:=I.lstM hH;refine bNb bM1 ⟨_,e,rfl⟩ F.entry_list_append (bNg _ _) (PySem.list_append l its.toArray n u (by rw[bJ6];omega)) ⟨e,?_⟩
 refine⟨.non,_,I.lset (its':=its++[u]) hH e (by simp) (r.append (.cons ru .nil)) ?_,rfl,q⟩
 rw[bJ8,bJx];omega
def bI1:V->List V->Hp->VK->Prop:=λx vs H Q=>∃l xs y,x=.ref l/\vs=[]/\H l=some (.lst xs)/\xs[xs.length-1]?=some y/\Q y (upd H l (.lst xs.dropLast))
def bCv:MtM X "list.pop" bI1:=by
 intro pins s σ H x vs v us Q I rx rv h;obtain⟨l,xs,y,rfl,rfl,hH,hy,q⟩:=h;cases rx;have hus:=rv.zero;subst hus;obtain⟨z,its,n,r,hl,e⟩:=I.lstM hH;obtain⟨u,hu,ru⟩:=r.get hy;have hy':its.toArray[its.toArray.size-1]?=some u:=by
  show its.toArray[its.length-1]?=some u;rw[<-bJl,<-hl];exact hu
 refine bNb F.slot_list_pop ⟨_,e,rfl⟩ F.entry_list_pop (F.args_list_pop_1 _) (MeetsSeq.list_pop_last l its.toArray n u hy' (by rw[bJ6];omega)) ⟨e,?_⟩
 refine⟨y,_,I.lset (its':=its.dropLast) hH e ?_ r.dropLast ?_,ru,q⟩
 .show its.toArray.eraseIdxIfInBounds (its.toArray.size-1)=its.dropLast.toArray;rw[bJ6,List.eraseIdxIfInBounds_toArray,aO4]
 .rw[List.length_dropLast];omega
def rClear:V->List V->Hp->VK->Prop:=λx vs H Q=>∃l xs,x=.ref l/\vs=[]/\H l=some (.lst xs)/\Q .non (upd H l (.lst []))
def mt_clear:MtM X "list.clear" rClear:=by
 intro pins s σ H x vs v us Q I rx rv h;obtain⟨l,xs,rfl,rfl,hH,q⟩:=h;cases rx;have hus:=rv.zero;subst hus;obtain⟨z,its,n,r,hl,e⟩:=I.lstM hH;refine bNb bMa ⟨_,e,rfl⟩ F.entry_list_clear (F.args_list_clear_1 _) (bMg l its.toArray n (by rw[bJ6];omega)) ⟨e,?_⟩
 exact⟨.non,_,I.lset (its':=[]) (ys:=[]) hH e rfl .nil (bK6 _),rfl,q⟩
end
end L2
namespace Att
open PySem PySem.W PySem.Calls PyProof.Rows
def aF7{P:Params}{h:Heap}:∀(ns:List Int)(vs:List Value),WellAll P h vs (ns.map WData.int)->IntsAre vs ns:=by
 intro ns
 induction ns with
 |nil=>
  intro vs w;rw[bOo]at w;cases w;exact .nil
 |cons n ns ih=>
  intro vs w;rw[bJ5]at w;cases w with
  |cons a b=>
   cases a;exact .cons _ _ (ih _ b)
def aSj{l:OpenLaw}{n:Nat}(hn:l.most=some n){P:Params}{h:Heap}{args:List WData}{vals:List Value}
  (hpre:l.row.toRowW.claim.pre args=true) (hwl:WellAll P h vals args) :
  ∃a vs ns,vals=[Value.ref a]/\args=[WData.list (ns.map WData.int)]/\h.get? a=some {cls:=.type "list",data:=.seq vs.toArray}/\IntsAre vs ns/\ns.length<=n:=by
 have hsh:WShape.hasAll [] args [.list .int]=true:=(pre_splitW hpre).1;have hc:l.pre.holds [] {args:=args}=true:=(pre_splitW hpre).2;obtain⟨d,r,rfl,h1,h2⟩:=hasAllW_cons hsh;obtain rfl:=hasAllW_nil h2;obtain⟨xs,rfl,h3⟩:=hasW_list h1;obtain⟨ns,rfl⟩:=items_int h3;have hlen:ns.length<=n:=by
  unfold OpenLaw.pre at hc;have h4:(WTm.not (.lt (.lit (.int (n:Int))) (.len (.arg 0)))).holds [] {args:=[.list (ns.map .int)]}=true:=by
   have h4:=(holds_andW hc).1;rw[hn]at h4;exact h4
  have h5:=condW_of h4 (w_not (w_lt w_lit (w_len_list (w_arg rfl))));rw[bJ9]at h5;refine Nat.le_of_not_lt λq=>?_
  have q':(n:Int)<((ns.length:Nat):Int):=by omega
  first
   |(rw[bIr q']at h5;exact absurd h5 (by decide))
   |(simp at h5;omega)
 cases hwl with
 |cons w1 w2=>
  cases w2;cases w1 with
  |list ho hall=>exact⟨_,_,ns,rfl,rfl,ho,aF7 ns _ hall,hlen⟩
def aSk(l:OpenLaw)(args:List WData):l.row.toRowW.claim.post args (.bool true) args=true:=
 postW_of (r:=l.row.toRowW) (X:=(true==true))
  (show WShape.has [] (.bool true) .bool=true by first|rfl|decide|simp[WShape.has,WShape.arms,WShape.armsAll])
  (show (WTm.eq .res (.lit (.bool true))).value [] {args:=args,res:=some (.bool true),after:=args}=some (.bool (true==true)) from w_eq_bool (w_res rfl) w_lit) rfl
def attach_call{l:OpenLaw}{n:Nat}{q:Program}{loose:List Str}{XP:(Str->Option Value)->Heap->Prop}{YP:World->Heap->Prop}{d:DefRec}
  (hn:l.most=some n) (hdf:d.params.defaults=[])
  (call:∀(w:World)(s₀ s₁:Shared)(mg mb:Str->Option Value)(fa:Addr)(o:Obj)(pm cd doc:Value)(a:Addr)(vs:List Value)(ns:List Int),
   Ground q loose [] XP w s₀ mg mb s₁.heap->YP w s₁.heap->
   s₁.heap.get? fa=some o->o.data=.func (docDef d.name d.params d.body d.scope pm cd doc)->s₁.heap.CodeRec cd d.name->mg d.name=some (.ref fa)->
   s₁.heap.get? a=some {cls:=.type "list",data:=.seq vs.toArray}->IntsAre vs ns->ns.length<=n->s₁.gens = #[]->
   codeAny (model l.prog w) callerA (.call (.ref fa) ⟨[.ref a],[]⟩) (λr s'=>r=.ok (.ret (.bool true))/\OldK s₁.heap s'.heap/\s'.os=s₁.os/\AllBare s'.gens) s₁) :
  WalkO q loose XP YP l.row.toRowW d [] (λf vs=>PySem.call f vs):=by
 intro w s₀ s₁ mg mb G Y fa o pm cd doc dV kV ho hd hcd hD hmg hg args vals as hpre hlay hrd hwl hlo;obtain rfl:dV=.none:=Dflts.none hD hdf;obtain rfl:kV=.none:=Dflts.noKw hD;obtain⟨a,vs,ns,rfl,rfl,hobj,hints,hlen⟩:=aSj hn hpre hwl;refine enter_call (bMx (call w s₀ s₁ mg mb fa o pm cd doc a vs ns G Y ho (fd_plain hd) hcd hmg hobj hints hlen hg) λr s' hq=>?_)
 obtain⟨rfl,h2,h3,h4⟩:=hq;exact⟨.inl ⟨.bool true,.bool true,[],rfl,λ_=>rfl,.bool true,aSk l _,λ_=>⟨List.Pairwise.nil,λ_ hm=>(nomatch hm)⟩⟩,h2,h3,h4⟩
end Att
namespace L2
open PySem PySem.Spec PyProof.Rows
theorem vals_ints:∀{vs:List Value}{ns:List Int},IntsAre vs ns->Vals (ns.map V.int) vs
 |_,_,.nil=>.nil
 |_,_,.cons n t h=>.cons ⟨t,rfl⟩ (vals_ints h)
def Only(H:Hp):Prop:=∀b,H b=none\/∃o xs,H b=some (.frz o (.lst xs))
def aUl{P:Program}{w:World}{K:PySem.W.Frag}{mg mb:Str->Option Value}{CX:CXT}{k:Nat}{fa a:Addr}{fd:FuncData}{x:Str}{sp:Sp}{s₁:Shared}{vs:List Value}{ns:List Int}
  (KX:K.In s₁.heap) (hns:s₁.heap.Ns mainGlobals mg) (hb:s₁.heap.Ns builtinsNs mb) (hbb:∀x:Str,x≠"__name__"->mb x=bootBuiltins x) (hlim:s₁.heap.NoLimit) (hg:s₁.gens = #[])
  (ha:s₁.heap.get? a=some {cls:=.type "list",data:=.seq vs.toArray}) (hi:IntsAre vs ns) (hl:ns.length<=sizeLine) (hr:Room k callerA)
  (F:∀base:Heap,K.In base->base.Ns mainGlobals mg->FnOk P w K mg base CX k fa fd [x] sp) (hbind:∀(s:Shared)(u:Value),BindsTo s fd ⟨[u],[]⟩ [(x,u)])
  (hsp:∀H:Hp,Only H->SqL K H a (ns.map V.int)->sp [.ref a] H (λv _=>v=.bl true) λ_ _ _=>False)
  (hCX:∀H e s',CX [] H s₁ (λ_ _ _=>False) e s'->False) :
  codeAny (model P w) callerA (.call (.ref fa) ⟨[.ref a],[]⟩) (λr s'=>r=.ok (.ret (.bool true))/\OldK s₁.heap s'.heap/\s'.os=s₁.os/\AllBare s'.gens) s₁:=by
 have rv:=vals_ints hi;have lenV:=hi.length;have core:∀H:Hp,Only H->SqL K H a (ns.map V.int)->HOk P w H s₁.heap->(∀b,H b≠none->b=a)->(H a≠none->K.lookup a=none)->
   codeAny (model P w) callerA (.call (.ref fa) ⟨[.ref a],[]⟩) (λr s'=>r=.ok (.ret (.bool true))/\OldK s₁.heap s'.heap/\s'.os=s₁.os/\AllBare s'.gens) s₁:=by
  intro H hO hS hok hA hK;have base_of:∀{b:Addr}{o:Obj},s₁.heap.get? b=some o->H b=none->(aJh s₁.heap H).get? b=some o:=λe n=>aTy e n
  have noA:∀{b:Addr}{o:Obj}{es:Array DictEntry}{ep:Nat},s₁.heap.get? b=some o->o.data=.dict es ep->H b=none:=λ{b o es ep} e d=>by
   cases q:H b with
   |none=>rfl
   |some u=>
    have e':b=a:=hA b (by rw[q];simp)
    subst e';rw[ha]at e;cases e;have d':Data.seq vs.toArray _=Data.dict es ep:=d;cases d'
  have nsK:∀{b:Addr}{m:Str->Option Value},s₁.heap.Ns b m->(aJh s₁.heap H).Ns b m:=λ{b m} ⟨o,es,ep,e,d,r⟩=>⟨o,es,ep,base_of e (noA e d),d,r⟩
  have hKb:K.In (aJh s₁.heap H):=λb o e=>base_of (KX b o e) (by
   cases q:H b with
   |none=>rfl
   |some u=>
    have e':b=a:=hA b (by rw[q];simp)
    subst e';rw[hK (by rw[q];simp)]at e;cases e)
  have hM:Mod K mg (aJh s₁.heap H):=⟨hKb,nsK hns,⟨mb,nsK hb,hbb⟩,let ⟨mc,h1,h2⟩:=hlim;⟨mc,nsK h1,h2⟩⟩;have e0:Env0 P w K mg (aJh s₁.heap H) callerA [] s₁ H:=⟨rfl,hM,λb o e=>aYb e,Nat.le_of_eq (aS7 _ _),trivial,λb hb=>absurd (show b∈([]:List Addr) from hb) (by simp),hok,.of_eq hg⟩
  refine bMx ((F _ hKb (nsK hns)).run callerA [] s₁ H ⟨[.ref a],[]⟩ [.ref a] [.ref a] _ _ hr e0 (hbind s₁ (.ref a)) (.cons rfl .nil) (hsp H hO hS)) λr s' h=>?_
  cases r with
  |error e=>exact(hCX H e s' h).elim
  |ok fl=>
   cases fl with
   |next=>exact False.elim h
   |brk=>exact False.elim h
   |cont=>exact False.elim h
   |ret u=>
    obtain⟨v,H',os,bare,un,hok',r',q⟩:=h;have q':v=.bl true:=q;subst q';obtain rfl:u=Value.bool true:=r';refine⟨rfl,OldK.of_keep λb o e=>?_,os,bare⟩
    cases q:H b with
    |none=>exact un.keep b o e q (by intro z;exact absurd (show b∈([]:List Addr) from z) (by simp)) (by simp)
    |some u=>
     rcases hO b with z|⟨ob,xs,z⟩
     .rw[q]at z;cases z
     .have z2:=un.frzs b ob _ z;obtain⟨e1,_⟩:=hok b _ z;obtain⟨e2,_⟩:=hok' b _ z2;rw[e]at e1;cases e1;exact e2
 cases hk:K.lookup a with
 |some o=>
  have e:=KX a o hk;rw[ha]at e;cases e;refine core (λ_=>none) (λ_=>.inl rfl) (.inr ⟨_,vs.toArray,_,hk,rfl,rfl,rfl,by rw[bJ6,lenV];exact hl,by simpa using rv⟩) (λb u z=>by have z':(none:Option HO)=some u:=z;cases z') (λb z=>absurd rfl z) λz=>absurd rfl z
 |none=>
  refine core (λb=>if b=a then some (.frz {cls:=.type "list",data:=.seq vs.toArray} (.lst (ns.map V.int))) else none) (λb=>?_) (.inl (.inr ⟨{cls:=.type "list",data:=.seq vs.toArray},bIv rfl⟩)) (λb u z=>?_) (λb z=>?_) λ_=>hk
  .by_cases hb:b=a
   .exact .inr ⟨_,_,bIv hb⟩
   .exact .inl (bIt hb)
  .by_cases hb:b=a
   .have z':=(bIv hb).symm.trans z;cases z';subst hb;exact⟨ha,by rw[bJ9];exact hl,vs,_,rv,ha⟩
   .have z':=(bIt hb).symm.trans z;cases z'
  .by_cases hb:b=a
   .exact hb
   .exact absurd (bIt hb) z
end L2
namespace L2
open PySem PySem.Spec PyProof.Rows
def walk_of{l:PySem.W.OpenLaw}{n k:Nat}{q:Program}{loose:List Str}{XP:(Str->Option Value)->Heap->Prop}{YP:World->Heap->Prop}{d:DefRec}{K:Params->PySem.W.Frag}{CX:World->CXT}{sp:World->Sp}{x:Str}
  (hn:l.most=some n) (hn2:n<=sizeLine) (hdf:d.params.defaults=[]) (hr:Room k callerA)
  (hY:∀(w:World)(h:Heap),YP w h->(K w.params).In h)
  (F:∀(w:World)(mg:Str->Option Value)(fa:Addr)(h:Heap),(K w.params).In h->h.Ns mainGlobals mg->mg d.name=some (.ref fa)->
   ∃fd:FuncData,(∀(s:Shared)(u:Value),BindsTo s fd ⟨[u],[]⟩ [(x,u)])/\
    ∀base:Heap,(K w.params).In base->base.Ns mainGlobals mg->FnOk l.prog w (K w.params) mg base (CX w) k fa fd [x] (sp w))
  (hsp:∀(w:World)(H:Hp)(a:Addr)(ns:List Int),ns.length<=n->Only H->SqL (K w.params) H a (ns.map V.int)->sp w [.ref a] H (λv _=>v=.bl true) λ_ _ _=>False)
  (hCX:∀(w:World)(H:Hp)(s:Shared)(e:Value)(s':Shared),CX w [] H s (λ_ _ _=>False) e s'->False) :
  PySem.W.WalkO q loose XP YP l.row.toRowW d [] (λf vs=>PySem.call f vs):=by
 refine Att.attach_call hn hdf λw s₀ s₁ mg mb fa o pm cd doc a vs ns G Y ho hd hcd hmg hobj hints hlen hg=>?_
 have KX:=hY w _ Y;obtain⟨fd,hb,hF⟩:=F w mg fa _ KX G.T.g hmg;exact aUl KX G.T.g G.T.b G.T.builtins G.T.nolimit hg hobj hints (bJj hlen hn2) hr hF hb (λH hO hS=>hsp w H a ns hlen hO hS) λH e s'=>hCX w H s₁ e s'
end L2
namespace L2
open PySem PySem.Spec PyProof.Rows
def gW(s:Stmt):Arguments:=match s with
 |.FunctionDef _ a _ _ _ _ _ _ _ _=>a
 |_=>{posonlyargs:=[],args:=[],vararg:=none,kwonlyargs:=[],kw_defaults:=[],kwarg:=none,defaults:=[]}
def dJ(s:Stmt):List Stmt:=match s with
 |.FunctionDef _ _ b _ _ _ _ _ _ _=>b
 |_=>[]
def aG(s:Stmt):Scope:=match s with
 |.FunctionDef _ _ _ _ _ _ sc _ _ _=>sc
 |_=>{kind:=.function,names:=[],isGenerator:=false,isCoroutine:=false}
abbrev CX0:CXT:=λ_ _ _ _ _ _=>False
abbrev E0:XK:=λ_ _ _=>False
def aQ2{X:Cx}:aDa CX0 X E0:=λ_ _ _ _ _ _ _ h=>h.elim
structure Fun(K:PySem.W.Frag)(x qual:Str)(st:Stmt)(f:Addr)(fd:FuncData):Prop where
 ex:∃(oc:Value)(od:Option Addr)(kV doc pm:Value)(an:Option Addr)(cdv ct:Value) (osl:Array (Option Value)),
  fd=PySem.W.fnOf x qual (gW st) (dJ st) (aG st) .none kV doc pm an cdv ct/\K.lookup f=some ⟨oc,od,.func fd,osl⟩/\PySem.W.codeIn K cdv qual=true
 kp:PySem.W.keepIn K (.ref f)=true
section
variable{P:Program}{w:World}{K:PySem.W.Frag}{mg:Str->Option Value}{base:Heap}
def Fun.ok{x qual:Str}{st:Stmt}{f:Addr}{fd:FuncData}{N ps:List Str}{k:Nat}{sp:Sp}(F:Fun K x qual st f fd)(S:FnScope N ps (aG st))(len:∀vs H Q E,sp vs H Q E->vs.length=ps.length)
  (hbody:∀(cdv:Value)(A:Around)(outer:List Env)(s:Shared)(H:Hp)(vs:List V)(Q:VK)(E:XK),Room k (A.deeper (envOfC qual (aG st) s.heap.objs.size f cdv))->sp vs H Q E->
   ∃t,PSs (aF6 CX0 P w K mg base N qual (aG st) f cdv A outer s H E).nox (dJ st) t/\t {nx:=λ_ H'=>Q .non H',rt:=Q} (start N vs) H):FnOk P w K mg base CX0 (k+1) f fd ps sp:=by
 obtain⟨oc,od,kV,doc,pm,an,cdv,ct,osl,rfl,lk,hcd⟩:=F.ex;refine bBj lk hcd S len λA outer s H vs Q E hr hsp=>?_
 obtain⟨t,h,q⟩:=hbody cdv A outer s H vs Q E hr hsp;exact⟨t,h.nox,q⟩
def Fun.binds{x qual:Str}{st:Stmt}{f:Addr}{fd:FuncData}{ps:List Str}(F:Fun K x qual st f fd)
  (h:∀(kV doc pm:Value)(an:Option Addr)(cdv ct:Value)(us:List Value),us.length=ps.length->bindArgs (PySem.W.fnOf x qual (gW st) (dJ st) (aG st) .none kV doc pm an cdv ct) ⟨us,[]⟩=pure (ps.zip us)):Binds K fd ps []:=by
 obtain⟨oc,od,kV,doc,pm,an,cdv,ct,osl,rfl,lk,hcd⟩:=F.ex;exact .all (h kV doc pm an cdv ct)
def bCw{x qual:Str}{st:Stmt}{f:Addr}{oc:Value}{od an:Option Addr}{osl:Array (Option Value)}{kV doc pm cdv ct:Value}(l:K.lookup f=some ⟨oc,od,.func (PySem.W.fnOf x qual (gW st) (dJ st) (aG st) .none kV doc pm an cdv ct),osl⟩)
  (c:PySem.W.codeIn K cdv qual=true) (k:PySem.W.keepIn K (.ref f)=true):Fun K x qual st f (PySem.W.fnOf x qual (gW st) (dJ st) (aG st) .none kV doc pm an cdv ct):=⟨⟨oc,od,kV,doc,pm,an,cdv,ct,osl,rfl,l,c⟩,k⟩
end
def bC(H H':Hp):Prop:=∀b o,H b=some o->H' b=some o
def bC.refl(H:Hp):bC H H:=λ_ _ h=>h
def bC.trans{H H1 H2:Hp}(a:bC H H1)(b:bC H1 H2):bC H H2:=λc o h=>b c o (a c o h)
def bC.free{H H':Hp}(e:bC H H'){l:Addr}(h:H' l=Option.none):H l=Option.none:=by
 cases q:H l with
 |none=>rfl
 |some o=>
  rw[e l o q]at h;cases h
def bC.seq{K:PySem.W.Frag}{H H':Hp}{a:Addr}{xs:List V}(e:bC H H')(h:SqL K H a xs):SqL K H' a xs:=by
 rcases h with (h|⟨o,h⟩)|h
 .exact .inl (.inl (e _ _ h))
 .exact .inl (.inr ⟨o,e _ _ h⟩)
 .exact .inr h
end L2
namespace L2
open PySem PySem.Spec PyProof.Rows
section
variable{κ:Type}[DecidableEq κ]
def xO(kvs:List (κ×V))(k:κ):Option V:=(kvs.find? λkv=>decide (kv.1=k)).map (·.2)
def putK(kvs:List (κ×V))(k:κ)(v:V):List (κ×V):=
 if (kvs.any λkv=>decide (kv.1=k))=true then kvs.map (λkv=>if kv.1=k then (kv.1,v) else kv) else kvs++[(k,v)]
def bBk(kvs:List (κ×V))(k:κ):List (κ×V):=kvs.filter λkv=>decide (kv.1≠k)
def xX{p:κ×V}{r:List (κ×V)}{k:κ}(e:p.1=k):xO (p::r) k=some p.2:=by simp[xO,List.find?_cons,e]
def xY{p:κ×V}{r:List (κ×V)}{k:κ}(e:¬ p.1=k):xO (p::r) k=xO r k:=by simp[xO,List.find?_cons,e]
theorem aLi(k:κ):∀kvs:List (κ×V),(kvs.any λkv=>decide (kv.1=k))=(xO kvs k).isSome
 |[]=>rfl
 |p::r=>by
  rw[bMk]
  by_cases e:p.1=k
  .simp only[xX e,decide_eq_true e,Bool.true_or,Option.isSome_some]
  .rw[xY e,bIs e,Bool.false_or];exact aLi k r
def xZ(kvs:List (κ×V))(k:κ)(v:V):(putK kvs k v).length<=kvs.length+1:=by
 unfold putK;split
 .rw[bJ9];omega
 .rw[bJ8,bJ7,bMo];omega
def vH.isSome_eq{o:Option V}{u:Option Value}(r:vH o u):o.isSome=u.isSome:=by
 cases o with
 |none=>cases u with
  |none=>rfl
  |some _=>exact(show False from r).elim
 |some _=>cases u with
  |none=>exact(show False from r).elim
  |some _=>rfl
theorem vH.getD{o:Option V}{u:Option Value}{d:V}{d':Value}(r:vH o u)(rd:RelV d d'):RelV (o.getD d) (u.getD d'):=by
 cases o with
 |none=>cases u with
  |none=>exact rd
  |some _=>exact(show False from r).elim
 |some _=>cases u with
  |none=>exact(show False from r).elim
  |some _=>exact r
def KV.val{kvs:List (κ×V)}{vs:List (κ×Value)}(r:KV kvs vs)(k:κ):vH (xO kvs k) (valueAt vs k):=by
 unfold KV at r
 induction r with
 |nil=>exact True.intro
 |@cons p q ps qs h t ih=>
  obtain⟨h1,h2⟩:=h
  by_cases e:p.1=k
  .have e':q.1=k:=h1.symm.trans e;have b:valueAt (q::qs) k=some q.2:=by simp[valueAt,List.find?_cons,e']
   rw[xX e,b];exact h2
  .have e':¬ q.1=k:=λz=>e (h1.trans z)
   have b:valueAt (q::qs) k=valueAt qs k:=by simp[valueAt,List.find?_cons,e']
   rw[xY e,b];exact ih
theorem KV.any{kvs:List (κ×V)}{vs:List (κ×Value)}(r:KV kvs vs)(k:κ):(kvs.any λkv=>decide (kv.1=k))=vs.any λkv=>decide (kv.1=k):=by
 unfold KV at r
 induction r with
 |nil=>rfl
 |cons h t ih=>rw[bMk,bMk,ih,h.1]
def KV.repl{kvs:List (κ×V)}{vs:List (κ×Value)}(r:KV kvs vs)(k:κ){y:V}{u:Value}(ry:RelV y u) :
  KV (kvs.map λkv=>if kv.1=k then (kv.1,y) else kv) (vs.map λkv=>if kv.1=k then (kv.1,u) else kv):=by
 unfold KV at r ⊢
 induction r with
 |nil=>exact .nil
 |@cons p q ps qs h t ih=>
  rw[bJ5,bJ5];refine .cons ?_ ih;obtain⟨h1,h2⟩:=h
  by_cases e:p.1=k
  .rw[bIv e,bIv (h1.symm.trans e)];exact⟨h1,ry⟩
  .rw[bIt e,bIt (λz=>e (h1.trans z))];exact⟨h1,h2⟩
def KV.put{kvs:List (κ×V)}{vs:List (κ×Value)}(r:KV kvs vs)(k:κ){y:V}{u:Value}(ry:RelV y u):KV (putK kvs k y) (stored vs k u):=by
 unfold putK stored;rw[r.any k]
 by_cases e:(vs.any λkv=>decide (kv.1=k))=true
 .rw[bIv e,bIv e];exact r.repl k ry
 .rw[bIt e,bIt e];exact Paired.snoc r ⟨rfl,ry⟩
def KV.drop{kvs:List (κ×V)}{vs:List (κ×Value)}(r:KV kvs vs)(k:κ):KV (bBk kvs k) (without vs k):=by
 unfold KV at r ⊢;unfold bBk without
 induction r with
 |nil=>exact .nil
 |@cons p q ps qs h t ih=>
  obtain⟨h1,h2⟩:=h;rw[List.filter_cons,List.filter_cons]
  by_cases e:p.1=k
  .have a:¬ decide (p.1≠k)=true:=by simp[e]
   have b:¬ decide (q.1≠k)=true:=by simp[h1.symm.trans e]
   rw[bIt a,bIt b];exact ih
  .have e':¬ q.1=k:=λz=>e (h1.trans z)
   have a:decide (p.1≠k)=true:=by simp[e]
   have b:decide (q.1≠k)=true:=by simp[e']
   rw[bIv a,bIv b];exact .cons ⟨h1,h2⟩ ih
theorem KV.length{kvs:List (κ×V)}{vs:List (κ×Value)}(r:KV kvs vs):kvs.length=vs.length:=Paired.length r
end
def aFu{P:Program}{w:World}{k:Key}{u:Value}(r:RelV (kV k) u):(dD P w).is k u=true:=by
 cases k with
 |inl i=>obtain⟨t,e⟩:=(show ∃t,u=Value.int i t from r);subst e;exact aL9 P w i t
 |inr x=>obtain⟨t,e⟩:=(show ∃t,u=Value.str x t from r);subst e;exact aLa P w x t
theorem aIe{P:Program}{w:World}:∀{ks:List Key}{us:List Value},Vals (ks.map kV) us->ItemsAre (dD P w) ks us
 |[],_,r=>by rw[bOo]at r;cases r;exact .nil
 |k::ks,_,r=>by
  rw[bJ5]at r;cases r with
  |cons h t=>exact .cons (aFu h) (aIe t)
abbrev KT(H:Hp):List (List Key×V)->List (List Key×Addr×Value)->Prop:=Paired λp q=>p.1=q.1/\H q.2.1=some (.tup (p.1.map kV))/\RelV p.2 q.2.2
def KT.val{H:Hp}{kvs:List (List Key×V)}{xs:List (List Key×Addr×Value)}(r:KT H kvs xs)(k:List Key):vH (xO kvs k) ((atKey xs k).map (·.2)):=by
 induction r with
 |nil=>exact True.intro
 |@cons p q ps qs h t ih=>
  obtain⟨h1,_,h2⟩:=h
  by_cases e:p.1=k
  .have e':q.1=k:=h1.symm.trans e;have b:atKey (q::qs) k=some q.2:=by simp[atKey,List.find?_cons,e']
   rw[xX e,b];exact h2
  .have e':¬ q.1=k:=λz=>e (h1.trans z)
   have b:atKey (q::qs) k=atKey qs k:=by simp[atKey,List.find?_cons,e']
   rw[xY e,b];exact ih
def KT.repl{H:Hp}{kvs:List (List Key×V)}{xs:List (List Key×Addr×Value)}(r:KT H kvs xs)(k:List Key){y:V}{u:Value}(ry:RelV y u) :
  KT H (kvs.map λkv=>if kv.1=k then (kv.1,y) else kv) (xs.map (putAt k u)):=by
 induction r with
 |nil=>exact .nil
 |@cons p q ps qs h t ih=>
  rw[bJ5,bJ5];refine .cons ?_ ih;obtain⟨h1,h2,h3⟩:=h;unfold putAt
  by_cases e:p.1=k
  .rw[bIv e,bIv (h1.symm.trans e)];exact⟨h1,h2,ry⟩
  .rw[bIt e,bIt (λz=>e (h1.trans z))];exact⟨h1,h2,h3⟩
def KT.put{H:Hp}{kvs:List (List Key×V)}{xs:List (List Key×Addr×Value)}(r:KT H kvs xs)(k:List Key){b:Addr}{y:V}{u:Value}(hb:H b=some (.tup (k.map kV)))(ry:RelV y u) :
  KT H (putK kvs k y) (storedH xs k b u):=by
 have e:(kvs.any λkv=>decide (kv.1=k))=(atKey xs k).isSome:=by
  rw[aLi,(r.val k).isSome_eq,bNc]
 unfold putK storedH;rw[e]
 by_cases q:(atKey xs k).isSome=true
 .rw[bIv q,bIv q];exact r.repl k ry
 .rw[bIt q,bIt q];exact Paired.snoc r ⟨rfl,hb,ry⟩
def KT.keeps{H H':Hp}{kvs:List (List Key×V)}{xs:List (List Key×Addr×Value)}(r:KT H kvs xs)(ht:∀b ys,H b=some (.tup ys)->H' b=some (.tup ys)):KT H' kvs xs:=
 Paired.mapP r λ_ _ z=>⟨z.1,ht _ _ z.2.1,z.2.2⟩
section
variable{P:Program}{w:World}{H:Hp}{h:Heap}{a:Addr}
def bBl{u:HO}(ok:HOk P w H h)(e:Rd H a u):iU P w H h a u:=e.ok ok
def aEd{kvs:List (Key×V)}(ok:HOk P w H h)(e:Rd H a (.dK kvs)):kvs.length<=sizeLine/\(a==sysModules)=false/\∃vs,KV kvs vs/\h.DictOf (dD P w) a vs:=
 show iU P w H h a (.dK kvs) from bBl ok e
def aQ3{kvs:List (Key×V)}(ok:HOk P w H h)(e:H a=some (.dK kvs)):kvs.length<=sizeLine/\(a==sysModules)=false/\∃vs,KV kvs vs/\h.DictOf (dD P w) a vs:=aEd ok (.inl e)
def aDb{ks:List Key}(ok:HOk P w H h)(e:H a=some (.tup (ks.map kV))):(tupleKind (dD P w)).is h ks a:=by
 obtain⟨_,its,r,o,h1,h2,n,h3⟩:=(show iU P w H h a (.tup (ks.map kV)) from ok a _ e)
 exact⟨o,its.toArray,n,h1,h2,h3,by simpa using aIe r⟩
def aFv{kvs:List (List Key×V)}(ok:HOk P w H h)(e:Rd H a (.dT kvs)):kvs.length<=sizeLine/\(a==sysModules)=false/\
  ∃xs,KT H kvs xs/\h.DictOfH (tupleKind (dD P w)) a xs:=by
 obtain⟨z,y,xs,r,o,es,ep,h1,h2,h3,h4,h5⟩:=(show iU P w H h a (.dT kvs) from bBl ok e)
 refine⟨z,y,xs,r,o,es,ep,h1,h2,h3,h4,λx hx=>?_,h5⟩
 have all:∀{l:List (List Key×V)} {m:List (List Key×Addr×Value)},KT H l m->∀x∈m,(tupleKind (dD P w)).is h x.1 x.2.1:=by
  intro l m q
  induction q with
  |nil=>intro x hx;exact nomatch hx
  |@cons p q ps qs hq t ih=>
   intro x hx;rcases bIq.mp hx with e|hx
   .subst e;exact aDb ok (by rw[<-hq.1];exact hq.2.1)
   .exact ih x hx
 exact all r x hx
def bFr{kvs:List (List Key×V)}(ok:HOk P w H h)(e:H a=some (.dT kvs)):kvs.length<=sizeLine/\(a==sysModules)=false/\
  ∃xs,KT H kvs xs/\h.DictOfH (tupleKind (dD P w)) a xs:=aFv ok (.inl e)
end
def yC(H:Hp)(a:Addr)(y:V)(r:Option V):Prop:=
 (∃kvs k,Rd H a (.dK kvs)/\y=kV k/\r=xO kvs k)\/∃kvs k b,Rd H a (.dT kvs)/\y=.ref b/\H b=some (.tup (k.map kV))/\r=xO kvs k
def aJv(H:Hp)(a:Addr)(y v:V)(H':Hp):Prop:=
 (∃kvs k,H a=some (.dK kvs)/\y=kV k/\kvs.length<sizeLine/\H'=upd H a (.dK (putK kvs k v)))\/
 ∃kvs k b,H a=some (.dT kvs)/\y=.ref b/\H b=some (.tup (k.map kV))/\kvs.length<sizeLine/\H'=upd H a (.dT (putK kvs k v))
theorem yC.k{H:Hp}{a:Addr}{kvs:List (Key×V)}{k:Key}(e:H a=some (.dK kvs)):yC H a (kV k) (xO kvs k):=.inl ⟨kvs,k,.inl e,rfl,rfl⟩
def yC.t{H:Hp}{a b:Addr}{kvs:List (List Key×V)}{k:List Key}(e:H a=some (.dT kvs))(eb:H b=some (.tup (k.map kV))):yC H a (.ref b) (xO kvs k):=.inr ⟨kvs,k,b,.inl e,rfl,eb,rfl⟩
theorem aJv.k{H:Hp}{a:Addr}{kvs:List (Key×V)}{k:Key}{v:V}(e:H a=some (.dK kvs))(hl:kvs.length<sizeLine):aJv H a (kV k) v (upd H a (.dK (putK kvs k v))):=.inl ⟨kvs,k,e,rfl,hl,rfl⟩
def aJv.t{H:Hp}{a b:Addr}{kvs:List (List Key×V)}{k:List Key}{v:V}(e:H a=some (.dT kvs))(eb:H b=some (.tup (k.map kV)))(hl:kvs.length<sizeLine) :
  aJv H a (.ref b) v (upd H a (.dT (putK kvs k v))):=.inr ⟨kvs,k,b,e,rfl,eb,hl,rfl⟩
section
variable{X:Cx}{pins:List (Addr×Obj)}{σ:St}{H:Hp}{s:Shared}{a:Addr}{y v:V}{u r:Value}{o:Option V}{A:Around}{E:Value->Shared->Prop}
def Inv.big(I:Inv X pins σ H s):sysModules<s.heap.objs.size:=by
 have h:mainGlobals<s.heap.objs.size:=(I.mod.glob.keeps I.bk).lt;exact bOp (by decide) h
def aIf{Q:Value->Shared->Prop}(hu:A.units+1<cLine)(I:Inv X pins σ H s)(g:yC H a y (some v))(ry:RelV y u)(h:∀w' s',Inv X pins σ H s'->RelV v w'->Q w' s') :
  wpAny (model X.prog X.w) A (getItem (.ref a) u) Q E s:=by
 rcases g with ⟨kvs,k,e,ey,l⟩|⟨kvs,k,b,e,ey,eb,l⟩
 .subst ey;obtain⟨z,hd,vs,rel,dd⟩:=aEd I.hok e;obtain⟨w',hw,rw'⟩:=vH.some_of (v:=v) (o:=valueAt vs k) (by rw[l];exact rel.val k)
  exact wpAny_getItem_of (aFu ry) dd.mapOf hw (h w' _ (I.tok _) rw')
 .subst ey;cases (show u=Value.ref b from ry)
  obtain⟨z,hd,xs,rel,dd⟩:=aFv I.hok e;obtain⟨w',hw,rw'⟩:=vH.some_of (v:=v) (o:=(atKey xs k).map (·.2)) (by rw[l];exact rel.val k)
  obtain⟨p,hp,hp2⟩:=Option.map_eq_some_iff.mp hw;refine wpAny_getItem_heap (bL9 hu) (aDb I.hok eb) dd hp ?_
  rw[hp2];exact h w' _ (I.tok _) rw'
def bI2{Q:Value->Shared->Prop}(hu:A.units+1<cLine)(I:Inv X pins σ H s)(g:yC H a y o)(ry:RelV y u)(h:∀s',Inv X pins σ H s'->Q (.bool o.isSome) s') :
  wpAny (model X.prog X.w) A (compareOp .In u (.ref a)) Q E s:=by
 rcases g with ⟨kvs,k,e,ey,l⟩|⟨kvs,k,b,e,ey,eb,l⟩
 .subst ey;obtain⟨z,hd,vs,rel,dd⟩:=aEd I.hok e;refine wpAny_in_of (aFu ry) hd dd.mapOf ?_
  rw[<-(rel.val k).isSome_eq,<-l];exact h _ (I.tok _)
 .subst ey;cases (show u=Value.ref b from ry)
  obtain⟨z,hd,xs,rel,dd⟩:=aFv I.hok e;refine wpAny_in_heap (bL9 hu) (aDb I.hok eb) hd dd ?_
  have q:=(rel.val k).isSome_eq;rw[bNc]at q;rw[<-q,<-l];exact h _ (I.tok _)
def aYw{Q:Value->Shared->Prop}(hu:A.units+1<cLine)(I:Inv X pins σ H s)(g:yC H a y o)(ry:RelV y u)(h:∀s',Inv X pins σ H s'->Q (.bool (!o.isSome)) s') :
  wpAny (model X.prog X.w) A (compareOp .NotIn u (.ref a)) Q E s:=by
 rcases g with ⟨kvs,k,e,ey,l⟩|⟨kvs,k,b,e,ey,eb,l⟩
 .subst ey;obtain⟨z,hd,vs,rel,dd⟩:=aEd I.hok e;refine wpAny_notIn_of (aFu ry) hd dd.mapOf ?_
  rw[<-(rel.val k).isSome_eq,<-l];exact h _ (I.tok _)
 .subst ey;cases (show u=Value.ref b from ry)
  obtain⟨z,hd,xs,rel,dd⟩:=aFv I.hok e;refine wpAny_notIn_heap (bL9 hu) (aDb I.hok eb) hd dd ?_
  have q:=(rel.val k).isSome_eq;rw[bNc]at q;rw[<-q,<-l];exact h _ (I.tok _)
def aJw{h':Heap}{t':Nat}{ob:HO}(I:Inv X pins σ H s)(mu:Mut (H a))(hs:Heap.SameBut a s.heap h')(he:∃q,h'.get? a=some q)(new:iU X.prog X.w (upd H a ob) h' a ob) :
  Inv X pins σ (upd H a ob) {s with heap:=h',toks:=t'}:=
 I.write (x:=a) (e:=a) mu (.inl rfl) (λb q hb z=>(hs.2 b hb).trans z) he new
def aUm{P:Program}{w:World}{H':Hp}{h':Heap}{kvs:List (Key×V)}{vs:List (Key×Value)}(z:kvs.length<=sizeLine)(hd:(a==sysModules)=false)(rel:KV kvs vs)(dd:h'.DictOf (dD P w) a vs) :
  iU P w H' h' a (.dK kvs):=⟨z,hd,vs,rel,dd⟩
def aSl{H':Hp}{Q:Unit->Shared->Prop}(hu:A.units+1<cLine)(I:Inv X pins σ H s)(g:aJv H a y v H')(ry:RelV y u)(rv:RelV v r)(h:∀s',Inv X pins σ H' s'->Q () s') :
  wpAny (model X.prog X.w) A (setItem (.ref a) u r) Q E s:=by
 rcases g with ⟨kvs,k,e,ey,l,eH⟩|⟨kvs,k,b,e,ey,eb,l,eH⟩
 .subst ey eH;obtain⟨z,hd,vs,rel,dd⟩:=aQ3 I.hok e;have hz:vs.length<=sizeLine:=by rw[<-rel.length];exact z
  have hl:(putK kvs k v).length<=sizeLine:=by have:=xZ kvs k v;omega
  refine wpAny_setItem_pairs (hsz:=hz) (aFu ry) dd λh' dd' hs=>h _ ?_
  have he:∃q,h'.get? a=some q:=let ⟨q,_,_,hq,_⟩:=dd';⟨q,hq⟩;exact aJw I (by rw[e];exact True.intro) hs he (aUm hl hd (rel.put k rv) dd')
 .subst ey eH;cases (show u=Value.ref b from ry)
  obtain⟨z,hd,xs,rel,dd⟩:=bFr I.hok e;have hz:xs.length<=sizeLine:=by rw[<-Paired.length rel];exact z
  have hl:(putK kvs k v).length<=sizeLine:=by have:=xZ kvs k v;omega
  refine wpAny_setItem_heap (hsz:=hz) (bL9 hu) (aDb I.hok eb) dd λh' dd' hs=>h _ ?_
  obtain⟨q,es,ep,hq,h2,h3,h4,_,h5⟩:=dd';refine aJw I (by rw[e];exact True.intro) hs ⟨q,hq⟩ ⟨hl,hd,_,(rel.put k eb rv).keeps λc ys ec=>?_,q,es,ep,hq,h2,h3,h4,h5⟩
  rw[aY (bF2 ec e (λz=>nomatch z))]
  exact ec
end
section
variable{X:Cx}{pins:List (Addr×Obj)}{σ:St}{H:Hp}{s:Shared}{a:Addr}{kvs:List (Key×V)}{k:Key}{u:Value}{A:Around}{E:Value->Shared->Prop}
def bFs{Q:Value->Shared->Prop}(I:Inv X pins σ H s)(e:Rd H a (.dK kvs))(h:∀t s',Inv X pins σ H s'->Q (.int kvs.length t) s'):wpAny (model X.prog X.w) A (call (.builtin "len") [.ref a]) Q E s:=by
 obtain⟨z,hd,vs,rel,dd⟩:=aEd I.hok e;refine call_len_dict hd dd (by rw[<-rel.length];rw[bKk]at z;omega) ?_
 rw[<-rel.length];exact h _ _ (I.tok _)
end
def aYx(i:Expr):Prop:=∀ov iv,subscripted i false ov iv=operate [ov,iv] (getItem ov iv)
def aYy{prog:Program}{w:World}{A:Around}{E:Value->Shared->Prop}{s:Shared}{env:Env}{value slice:Expr}{pos:Pos}{T id:String}{Q:Value->Shared->Prop}
  (hl:typeLookup (.type T) "__getitem__"=pure (some (.builtin id))) (hs:aYx slice)
  (h:wpAny (model prog w) A (eval value env) (λo s₁=>wpAny (model prog w) A (eval slice env) (λi s₂=>s₂.TypeIs o T/\wpAny (model prog w) A (getItem o i) Q E s₂) E s₁) E s) :
  wpAny (model prog w) A (eval (.Subscript value slice pos) env) Q E s:=by
 refine Subscript_ (bKf h (λo s₁ h₁=>bKf h₁ (λi s₂ h₂=>?_) λ_ _ x=>x) λ_ _ x=>x)
 obtain⟨hT,h₂⟩:=h₂;unfold subscriptTail;refine bIh ?_
 rw[getitemInPython_of_ne hT.not_modules];refine bIh (bO3 hT hl ?_);have fin:wpAny (model prog w) A (subscripted slice false o i) (λr s₃=>wpAny (model prog w) A (letTemporaryGo value o r >>= λ_=>pure r) Q E s₃) E s₂:=by
  rw[hs o i];exact wpAny_operating (bKf h₂ (λr s₃ h₃=>bIh (wpAny_letTemporaryGo (bIx h₃))) λ_ _ x=>x)
 first
  |exact bIx (bIh fin)
  |exact bIh (bIx (bIh fin))
  |exact bIh fin
def aEe{X:Cx}{pins:List (Addr×Obj)}{σ:St}{H:Hp}{s:Shared}{a:Addr}{y:V}{o:Option V}(I:Inv X pins σ H s)(g:yC H a y o):s.TypeIs (.ref a) "dict":=by
 rcases g with ⟨kvs,k,e,_,_⟩|⟨kvs,k,b,e,_,_,_⟩
 .obtain⟨_,_,vs,_,dd⟩:=aEd I.hok e;exact dd.typeIs
 .obtain⟨_,_,xs,_,dd⟩:=aFv I.hok e;exact dd.typeIs
def aIg(td ty:TE):TE:=λσ H Q=>td σ H λx H1=>ty σ H1 λy H2=>∃a v,x=.ref a/\yC H2 a y (some v)/\Q v H2
def sDPut(td ty tv:TE):TS:=λD σ H=>tv σ H λv H1=>td σ H1 λx H2=>ty σ H2 λy H3=>∃a H4,x=.ref a/\aJv H3 a y v H4/\D.nx σ H4
section
variable{X:Cx}{o i e value:Expr}{pos pos' tpos:Pos}{td ty tv:TE}
def aQ4(hu:X.A.units+1<cLine)(ho:PE X o td)(hi:PE X i ty)(hs:aYx i):PE X (.Subscript o i pos) (aIg td ty):=by
 intro pins s σ H Q I h;refine aYy bN7.lookup hs (thn (ho pins s σ H _ I h) λu s1 ⟨x,H1,I1,rx,q1⟩=>thn (hi pins s1 σ H1 _ I1 q1) λiv s2 ⟨y,H2,I2,ry,a,v,ex,g,q2⟩=>?_)
 subst ex;obtain rfl:u=Value.ref a:=rx;exact⟨aEe I2 g,aIf hu I2 g ry λw' s3 I3 rw'=>⟨v,H2,I3,rw',q2⟩⟩
end
def aLj{P:Program}{w:World}{H:Hp}(h:Heap)(hb:sysModules<h.objs.size):iU P w H (h.push {cls:=.type "dict",data:=.dict #[]}) h.objs.size (.dK []):=
 ⟨bK6 _,bK0.mpr (bL5 (bJm hb)),[],.nil,Heap.DictOf.new h⟩
def bCx:TE:=λ_ H Q=>∀p,H p=none->Q (.ref p) (upd H p (.dK []))
section
variable{X:Cx}{pos:Pos}
def aUn:PE X (.Dict [] [] pos) bCx:=λpins s σ H Q I h=>
 wpAny_Dict_empty ⟨.ref s.heap.objs.size,_,I.laid (a:=s.heap.objs.size) (o:=.dK []) (t':=s.toks) (λ_ _ q=>bIi _ q) (bIn _) (aLj s.heap I.big),rfl,h _ (I.hok.fresh (bIn _))⟩
end
def aO5:List (TE×TE)->St->Hp->(List (V×V)->Hp->Prop)->Prop
 |[],_,H,Q=>Q [] H
 |(tk,tv)::r,σ,H,Q=>tk σ H λx H1=>tv σ H1 λy H2=>aO5 r σ H2 λps H3=>Q ((x,y)::ps) H3
abbrev VV:List (V×V)->List (Value×Value)->Prop:=Paired λp q=>RelV p.1 q.1/\RelV p.2 q.2
def PPs(X:Cx)(pos:Pos)(keys:List (Option Expr))(values:List Expr)(trs:List (TE×TE)):Prop:=
 ∀(pins:List (Addr×Obj)) (s:Shared) (σ:St) (H:Hp) (Q:List (V×V)->Hp->Prop),Inv X pins σ H s->aO5 trs σ H Q->
  wpAny (model X.prog X.w) X.A (evalPairs (pairTrees keys values X.env pos)) (λvs s'=>∃ps H',Inv X pins σ H' s'/\VV ps vs/\Q ps H') X.xe s
def aYz{X:Cx}{pos:Pos}:PPs X pos [] [] []:=λpins s σ H Q I h=>pairTrees_nil_walk ⟨[],H,I,.nil,h⟩
def aUo{X:Cx}{pos:Pos}{k v:Expr}{ks:List (Option Expr)}{vs:List Expr}{tk tv:TE}{trs:List (TE×TE)}(hk:PE X k tk)(hv:PE X v tv)(hr:PPs X pos ks vs trs) :
  PPs X pos (some k::ks) (v::vs) ((tk,tv)::trs):=λpins s σ H Q I h=>
 pairTrees_cons_walk (thn (hk pins s σ H _ I h) λu s1 ⟨x,H1,I1,rx,q1⟩=>thn (hv pins s1 σ H1 _ I1 q1) λw2 s2 ⟨y,H2,I2,ry,q2⟩=>
  thn (hr pins s2 σ H2 _ I2 q2) λws s3 ⟨ps,H3,I3,rel,q3⟩=>⟨(x,y)::ps,H3,I3,.cons ⟨rx,ry⟩ rel,q3⟩)
def aDc(kvs more:List (Key×V)):List (Key×V):=more.foldl (λacc kv=>putK acc kv.1 kv.2) kvs
def KV.merge:∀{more:List (Key×V)} {rs:List (Key×Value)} {kvs:List (Key×V)} {vs:List (Key×Value)},KV more rs->KV kvs vs->KV (aDc kvs more) (merged vs rs):=by
 intro more rs kvs vs r;unfold KV at r
 induction r generalizing kvs vs with
 |nil=>intro q;exact q
 |@cons p q ps qs h t ih=>
  intro r0;have e:KV (putK kvs p.1 p.2) (stored vs q.1 q.2):=by
   have:=r0.put p.1 h.2;rw[<-h.1];exact this
  exact ih e
theorem aAl:∀(more kvs:List (Key×V)),(aDc kvs more).length<=kvs.length+more.length
 |[],kvs=>by show kvs.length<=kvs.length+0;omega
 |p::r,kvs=>by
  have h1:=aAl r (putK kvs p.1 p.2);have h2:=xZ kvs p.1 p.2;show (aDc (putK kvs p.1 p.2) r).length<=_;rw[bJ7];omega
theorem aFw{P:Program}{w:World}:∀{kvs:List (Key×V)} {ws:List (Value×Value)},VV (kvs.map λkv=>(kV kv.1,kv.2)) ws->∃rs,Carries (dD P w) ws rs/\KV kvs rs
 |[],_,r=>by rw[bOo]at r;cases r;exact⟨[],True.intro,.nil⟩
 |p::kvs,_,r=>by
  rw[bJ5]at r;cases r with
  |@cons a b as bs h t=>
   obtain⟨rs,c,q⟩:=aFw (P:=P) (w:=w) t;obtain⟨b1,b2⟩:=b;exact⟨(p.1,b2)::rs,⟨aFu h.1,rfl,c⟩,.cons ⟨rfl,h.2⟩ q⟩
def bFt(trs:List (TE×TE)):TE:=λσ H Q=>∀p,H p=none->aO5 trs σ (upd H p (.dK [])) λps H2=>H2 p=some (.dK [])/\∃kvs:List (Key×V),ps=kvs.map (λkv=>(kV kv.1,kv.2))/\kvs.length<=15/\Q (.ref p) (upd H2 p (.dK (aDc [] kvs)))
def aZ0{X:Cx}{pos:Pos}{keys:List (Option Expr)}{values:List Expr}{trs:List (TE×TE)}(h:PPs X pos keys values trs)(hall:keys.all (·.isSome)=true)(hl:keys.length=values.length)(h0:keys≠[])
  (h15:keys.length<=15):PE X (.Dict keys values pos) (bFt trs):=by
 intro pins s σ H Q I q;have hn:=I.hok.fresh (bIn s.heap.objs.size);have I1:=I.laid (a:=s.heap.objs.size) (o:=.dK []) (h':=s.heap.push {cls:=.type "dict",data:=.dict #[]}) (t':=s.toks) (λ_ _ q=>bIi _ q) (bIn _) (aLj s.heap I.big)
 refine wpAny_Dict_walk (knd:=dD X.prog X.w) hall hl h0 h15 (thn (h pins _ σ _ _ I1 (q _ hn)) λws s2 ⟨ps,H2,I2,rel,e,kvs,ep,lk,q2⟩=>?_)
 subst ep;obtain⟨rs,c,rk⟩:=aFw (P:=X.prog) (w:=X.w) rel;obtain⟨z,hd,vs0,r0,dd⟩:=aQ3 I2.hok e;cases r0;refine⟨rs,c,dd,λh' dd' hs=>⟨.ref s.heap.objs.size,_,?_,rfl,q2⟩⟩
 have hz:(aDc [] kvs).length<=sizeLine:=by
  have h1:=aAl kvs [];rw[bMo]at h1;rw[bKk];omega
 have he:∃q,h'.get? s.heap.objs.size=some q:=let ⟨q,_,_,hq,_⟩:=dd';⟨q,hq⟩;exact aJw I2 (by rw[e];exact True.intro) hs he (aUm hz hd (rk.merge .nil) dd')
structure M1(X:Cx)(o:Expr)(m:Str)(apos:Pos)(e:Expr)(cpos:Pos):Prop where
 base:attributeBase o m X.env (eval o X.env)=eval o X.env
 few:((backTo cpos (starEach [e] X.env)).all (λx=>!x.1)&&(backToKw cpos (keywordEach [] X.env)).all (λx=>x.1.isSome)
  && decide (([e]:List Expr).length+([]:List Keyword).length+(if ([]:List Keyword).isEmpty then 0 else 1)<30))=true
 line:(apos.endLine==cpos.line)=true
 trees:backTo cpos (starEach [e] X.env)=[(false,eval e X.env)]
def IsD(H:Hp)(a:Addr):Prop:=(∃kvs,Rd H a (.dK kvs))\/∃kvs,Rd H a (.dT kvs)
def bCy{X:Cx}{pins:List (Addr×Obj)}{σ:St}{H:Hp}{s:Shared}{a:Addr}(I:Inv X pins σ H s)(d:IsD H a) :
  s.TypeIs (.ref a) "dict"/\(∀b,Value.ref a=.ref b->∃ob,s.heap.get? b=some ob/\ob.dict=none)/\(a==sysModules)=false:=by
 rcases d with ⟨kvs,e⟩|⟨kvs,e⟩
 .obtain⟨_,hd,vs,_,dd⟩:=aEd I.hok e;refine⟨dd.typeIs,λb q=>?_,hd⟩
  cases q;obtain⟨ob,_,_,h1,h2,_⟩:=dd;exact⟨ob,h1,h2.2.1⟩
 .obtain⟨_,hd,xs,_,dd⟩:=aFv I.hok e;refine⟨dd.typeIs,λb q=>?_,hd⟩
  cases q;obtain⟨ob,_,_,h1,h2,_⟩:=dd;exact⟨ob,h1,h2.2.1⟩
section
variable{X:Cx}{pins:List (Addr×Obj)}{σ:St}{H:Hp}{s:Shared}{a:Addr}{y d:V}{u r:Value}{o:Option V}{A:Around}{E:Value->Shared->Prop}
def bCz{Q:Value->Shared->Prop}(hu:A.units+1<cLine)(I:Inv X pins σ H s)(g:yC H a y o)(ry:RelV y u)(h:∀w' s',Inv X pins σ H s'->RelV (o.getD .non) w'->Q w' s') :
  wpAny (model X.prog X.w) A (call (.builtin "dict.get") [.ref a,u]) Q E s:=by
 rcases g with ⟨kvs,k,e,ey,l⟩|⟨kvs,k,b,e,ey,eb,l⟩
 .subst ey;obtain⟨z,hd,vs,rel,dd⟩:=aEd I.hok e;refine call_meetsIn bMb dd.typeIs bNw (bNh _ _) (meets_dict_get (dD X.prog X.w) a (aFu ry) hd) ⟨_,dd.mapOf,h _ _ (I.tok _) ?_⟩;rw[l];exact(rel.val k).getD rfl
 .subst ey;cases (show u=Value.ref b from ry)
  obtain⟨z,hd,xs,rel,dd⟩:=aFv I.hok e;refine call_meetsIn bMb dd.typeIs bNw (bNh _ _) (meetsH_dict_get (tupleKind (dD X.prog X.w)) a b hd) ⟨bL9 hu,k,xs,aDb I.hok eb,dd,h _ _ (I.tok _) ?_⟩;rw[l];exact(rel.val k).getD rfl
end
def bD0(td ty:TE):TE:=λσ H Q=>td σ H λx H1=>∃a,x=.ref a/\IsD H1 a/\ty σ H1 λy H2=>∃o,yC H2 a y o/\Q (o.getD .non) H2
section
variable{X:Cx}{o e f:Expr}{apos cpos:Pos}{td ty tx:TE}
def aUp(hu:X.A.units+1<cLine)(ho:PE X o td)(he:PE X e ty)(m:M1 X o "get" apos e cpos):PE X (.Call (.Attribute o "get" apos) [e] [] cpos) (bD0 td ty):=by
 intro pins s σ H Q I h;refine wpAny_Call_method m.base m.few m.line bNi bMb PySem.F.type_dict_get (thn (ho pins s σ H _ I h) λu s1 ⟨x,H1,I1,rx,a,ex,d,q1⟩=>?_)
 subst ex;obtain rfl:u=Value.ref a:=rx;obtain⟨t1,t2,_⟩:=bCy I1 d;refine⟨t1,t2,?_⟩;rw[m.trees];refine bM0 rfl (Calls.evalArgs_plain (Calls.spliced_cons (thn (he pins s1 σ H1 _ I1 q1) λiv s2 ⟨y,H2,I2,ry,ov,g,q2⟩=>Calls.spliced_nil ?_)))
 exact bCz hu I2 g ry λw' s3 I3 rw'=>⟨_,H2,I3,rw',q2⟩
end
end L2
set_option maxHeartbeats 1000000
open PySem.W (Frag findIn mroIn nsIn notCls keepIn kia_one fnOf codeIn mg_of OpenLaw isFn mg_none_of WalkO InK)
open List (foldl_cons mem_cons_self mem_cons_of_mem map_cons getD_eq_getElem?_getD length_cons length_append length_singleton cons_append length_map find?_cons nodup_cons filter_cons_of_pos filter_cons_of_neg length_range getElem?_cons_succ append_nil zip_cons_cons nil_append length_filter_le length_set mem_cons not_mem_nil nodup_nil filter_nil pairwise_map all_cons any_cons drop_eq_getElem_cons drop_zero take_of_length_le forIn_nil forIn_cons lookup_cons zipIdx_cons)
open Nat (zero_le testBit_or zero_testBit eq_of_testBit_eq lt_or_ge le_add_right)
open Array (getElem?_toList toList_append toList_push toList_reverse)
open Int (toNat_natCast emod_nonneg emod_lt_of_pos)
open Option (getD_some map_some)
open Bool (or_eq_true and_eq_true false_eq_true)
variable{α β:Type}{c n np i m r j q Z x1 t' hi N' nrem ep:Nat}{b tg e elt:PySem.Expr}{l z rk u ks Ws:List Nat}{a arr:Array PyProof.Rows.Keyed}{x qual name:PySem.Str}{E Qf:PySem.Value->PySem.Shared->Prop}{C fa A_Machine:PySem.Addr}{v:L2.V}{S:List (List Nat)}{s:PySem.Shared}{al:Nat->Bool}{acc:List (Nat×List Nat)}{w:PySem.World}{B A fp:List PySem.Addr}{ns:List Int}{o:L2.HO}{Y X:L2.Cx}{base h' h0:PySem.Heap}{H H' H1:L2.Hp}{vs ws:List L2.V}{es elts:List PySem.Expr}{pos p0 pos' p2 p1 apos cpos px spos:PySem.Pos}{Q:Option Nat->PyProof.Rows.SortSt->Prop}{op:PySem.CmpOp}{gv:Int->Int->L2.V}{fd:PySem.FuncData}{ps N loose:List PySem.Str}{sm:PySem.Stmt}{items:Array PySem.Value}{M:PySem.Model}{env:PySem.Env}{body:List PySem.Stmt}{P prog:PySem.Program}{mg:PySem.Str->Option PySem.Value}{scope:PySem.Scope}{pins:List (PySem.Addr×PySem.Obj)}{wi:L2.TI}{te:L2.TE}{tt:L2.TT}{dV oc:PySem.Value}{osl:Array (Option PySem.Value)}{newId:String}{kvs:List (L2.Key×L2.V)}{left:Bool}{key:PyProof.Rows.Keyed}{ρ:PyProof.Rows.Keyed->Int}{κ:PyProof.Rows.SortKind}{T:List PyProof.Rows.Keyed}{st0:PyProof.Rows.SortSt}{ob:PySem.Obj}{t_LETTERS t_MOST_ROOMS t_MOST_LETTERS:PySem.Tok}{XP:(PySem.Str->Option PySem.Value)->PySem.Heap->Prop}
namespace Pu
inductive D where
 |non|bl (b:Bool)|int (i:Int)|str (s:List Nat)|tup (xs:List D)|lst (xs:List D)
 |dct (t:Bool) (ks vs:List D)
 |ins (c:String) (ns:List String) (xs:List D)
 |exn (c:String) (ns:List String) (xs:List D)
 |fn (f:String)
inductive R (α:Type) where
 |ok (a:α)|exc (x:D)|bad
@[inline] def R.bind{α β:Type}(r:R α)(f:α->R β):R β:=match r with
 |.ok a=>f a
 |.exc x=>.exc x
 |.bad=>.bad
def R.ok_of{r:R α}{f:α->R β}{b:β}(h:r.bind f=.ok b):∃a,r=.ok a/\f a=.ok b:=by
 cases r with
 |ok a=>exact⟨a,rfl,h⟩
 |exc x=>exact nomatch h
 |bad=>exact nomatch h
noncomputable section
open Classical in
def aV{α:Type}(c:Prop)(r:R α):R α:=if c then r else .bad
def aF{c:Prop}{r:R α}(h:c):aV c r=r:=bIv h
def aK{c:Prop}{r:R α}{a:α}(h:aV c r=.ok a):c/\r=.ok a:=by
 unfold aV at h;split at h
 .exact⟨by assumption,h⟩
 .exact nomatch h
inductive OK where
 |l|d (t:Bool) (ks:List D)|i (n:Nat) (c:String) (ns:List String)
def ofK:OK->List D->D
 |.l,xs=>.lst xs
 |.d t ks,xs=>.dct t ks xs
 |.i _ c ns,xs=>.ins c ns xs
inductive Sl where
 |v (d:D)|o (k:OK) (xs:List D)
abbrev PSt:=List (Option Sl)
abbrev Ex:=PSt->R D
inductive Fl where
 |nx (st:PSt)|rt (d:D)|bk (st:PSt)|ct (st:PSt)
abbrev Bd:=PSt->R Fl
@[irreducible] def big:Nat:=10000000
def nG:big=10000000:=by unfold big;rfl
def dN(h:n<=10000000):n<=big:=by rw[nG];exact h
def aJx(h:n<10000000):n<big:=by rw[nG];exact h
def rT{n:Int}(h:n<=10000000):n<=(big:Int):=by rw[nG];exact h
def aBy{n:Int}(h : -10000000<=n) : -(big:Int)<=n:=by rw[nG];exact h
def sIx(n d:Nat):Option Int->Nat
 |none=>d
 |some v=>if v<0 then (v+(n:Int)).toNat else min v.toNat n
def ixN(n:Nat)(i:Int):Option Nat:=if 0<=i then (if i<n then some i.toNat else none) else if -(n:Int)<=i then some (i+n).toNat else none
def atI{α:Type}(xs:List α)(i:Int):Option α:=(ixN xs.length i).bind λj=>xs[j]?
def cut{α:Type}(xs:List α)(lo hi:Option Int):List α:=(xs.drop (sIx xs.length 0 lo)).take (sIx xs.length xs.length hi-sIx xs.length 0 lo)
def ofO{α:Type}:Option α->R α
 |some a=>.ok a
 |none=>.bad
abbrev Op2:=D->D->R D
def nJ:Op2
 |.int i,.int j=>.ok (.int (i+j))
 |.str x,.str y=>aV (x.length+y.length<=big) (.ok (.str (x++y)))
 |.lst x,.lst y=>aV (x.length+y.length<=big) (.ok (.lst (x++y)))
 |_,_=>.bad
def aUq:Op2
 |.int i,.int j=>.ok (.int (i-j))
 |_,_=>.bad
def aFx:Op2
 |.int i,.int j=>aV (0<j/\j<1073741824) (.ok (.int (i/j)))
 |_,_=>.bad
def qF:Op2
 |.int i,.int j=>aV (0<j) (.ok (.int (i%j)))
 |_,_=>.bad
def aZ1:Op2
 |.int i,.int j=>aV (0<=j/\j<=1000000/\i.natAbs<18446744073709551616) (.ok (.int (i^j.toNat)))
 |_,_=>.bad
def aUr:D->R D
 |.int i=>.ok (.int (-i))
 |_=>.bad
def aUs:D->Bool
 |.int _=>true
 |.str _=>true
 |_=>false
def keyOk(t:Bool)(d:D):Bool:=match d with
 |.int _=>!t
 |.str _=>!t
 |.tup xs=>t&&xs.all aUs
 |_=>false
mutual
def eqK:D->D->Bool
 |.int i,.int j=>i==j
 |.str x,.str y=>x==y
 |.tup x,.tup y=>aO6 x y
 |_,_=>false
def aO6:List D->List D->Bool
 |[],[]=>true
 |a::x,b::y=>eqK a b&&aO6 x y
 |_,_=>false
end
def yD(ks vs:List D)(k:D):Option D:=((ks.zip vs).find? λp=>eqK p.1 k).map (·.2)
def vJ(ks:List D)(k:D):Bool:=ks.any λx=>eqK x k
def wR(ks:List D)(k:D):List D:=if vJ ks k=true then ks else ks++[k]
def aAm(ks vs:List D)(k v:D):List D:=if vJ ks k=true then (ks.zip vs).map (λp=>if eqK p.1 k=true then v else p.2) else vs++[v]
def dIx:Op2
 |.dct t ks vs,k=>aV (keyOk t k=true) (ofO (yD ks vs k))
 |.lst x,.int i=>ofO (atI x i)
 |.tup x,.int i=>ofO (atI x i)
 |.str x,.int i=>aV (x.length<=big) (ofO ((atI x i).map λc=>.str [c]))
 |_,_=>.bad
mutual
def eqD:D->D->Bool
 |.non,.non=>true
 |.bl a,.bl b=>a==b
 |.bl a,.int j=>(if a then (1:Int) else 0)==j
 |.int i,.bl b=>i==(if b then (1:Int) else 0)
 |.int i,.int j=>i==j
 |.str x,.str y=>x==y
 |.tup x,.tup y=>gC x y
 |.lst x,.lst y=>gC x y
 |_,_=>false
def gC:List D->List D->Bool
 |[],[]=>true
 |a::x,b::y=>eqD a b&&gC x y
 |_,_=>false
end
mutual
def dep:D->Nat
 |.tup x=>iH x+1
 |.lst x=>iH x+1
 |.non=>0
 |.bl _=>0
 |.int _=>0
 |.str _=>0
 |.dct _ _ _=>0
 |.ins _ _ _=>0
 |.exn _ _ _=>0
 |.fn _=>0
def iH:List D->Nat
 |[]=>0
 |a::x=>max (dep a) (iH x)
end
mutual
def plain:D->Bool
 |.tup x=>cQ x
 |.lst x=>cQ x
 |.non=>true
 |.bl _=>true
 |.int _=>true
 |.str _=>true
 |.dct _ _ _=>false
 |.ins _ _ _=>false
 |.exn _ _ _=>false
 |.fn _=>false
def cQ:List D->Bool
 |[]=>true
 |a::x=>plain a&&cQ x
end
def dEq:Op2:=λa b=>aV (dep a<=64/\plain a=true/\plain b=true) (.ok (.bl (eqD a b)))
def dNe:Op2:=λa b=>aV (dep a<=64/\plain a=true/\plain b=true) (.ok (.bl (!eqD a b)))
def dLe:Op2
 |.int i,.int j=>.ok (.bl (decide (i<=j)))
 |_,_=>.bad
def dGt:Op2
 |.int i,.int j=>.ok (.bl (decide (j<i)))
 |_,_=>.bad
def dGe:Op2
 |.int i,.int j=>.ok (.bl (decide (j<=i)))
 |_,_=>.bad
def dG:D->R D
 |.dct false ks _=>.ok (.int ks.length)
 |.lst x=>.ok (.int x.length)
 |.tup x=>.ok (.int x.length)
 |.str x=>aV (x.length<=big) (.ok (.int x.length))
 |_=>.bad
def aSm:D->Bool
 |.ins _ _ _=>false
 |.exn _ _ _=>false
 |.fn _=>false
 |_=>true
def isN:D->Bool
 |.non=>true
 |_=>false
def aZ2:D->Bool
 |.str _=>true
 |_=>false
def bD1:D->Bool
 |.bl _=>true
 |_=>false
def isIn:D->Bool
 |.bl _=>true
 |.int _=>true
 |_=>false
def aZ3:D->Bool
 |.tup _=>true
 |_=>false
def bFu:D->Bool
 |.dct _ _ _=>true
 |_=>false
def aO7:D->Bool
 |.lst _=>true
 |_=>false
def iZ(x y:List Nat)(lo:Nat):Option Nat:=(List.range' lo (x.length+1-lo)).find? λi=>decide (i+y.length<=x.length)&&((x.drop i).take y.length==y)
def yE:Option Nat->Int
 |some i=>i
 |none=>-1
abbrev Mop:=D->List D->R D
def aLk:Mop
 |.str x,[.str y]=>.ok (.int (yE (iZ x y 0)))
 |.str x,[.str y,.int i]=>aV (0<=i) (.ok (.int (yE (iZ x y i.toNat))))
 |_,_=>.bad
def aFy:Mop
 |.str x,[.str y]=>(ofO (iZ x y 0)).bind λi=>.ok (.int i)
 |_,_=>.bad
def inD(x:D)(ys:List D):Bool:=ys.any λy=>eqD y x
def dIn:D->D->R D
 |k,.dct t ks _=>aV (keyOk t k=true) (.ok (.bl (vJ ks k)))
 |x,.lst ys=>aV (iH ys<=60/\plain x=true/\cQ ys=true) (.ok (.bl (inD x ys)))
 |x,.tup ys=>aV (iH ys<=60/\plain x=true/\cQ ys=true) (.ok (.bl (inD x ys)))
 |.str x,.str y=>.ok (.bl (iZ y x 0).isSome)
 |_,_=>.bad
def jA:D->D->R D
 |k,.dct t ks _=>aV (keyOk t k=true) (.ok (.bl (!vJ ks k)))
 |x,.lst ys=>aV (iH ys<=60/\plain x=true/\cQ ys=true) (.ok (.bl (!inD x ys)))
 |x,.tup ys=>aV (iH ys<=60/\plain x=true/\cQ ys=true) (.ok (.bl (!inD x ys)))
 |.str x,.str y=>.ok (.bl (!(iZ y x 0).isSome))
 |_,_=>.bad
def aFz:D->D->R D
 |x,.non=>.ok (.bl (!isN x))
 |.bl a,.bl b=>.ok (.bl (!(a==b)))
 |_,_=>.bad
def aA(i:Nat):Ex:=λst=>match st[i]? with
 |some (some (.v d))=>.ok d
 |_=>.bad
def kI(i:Nat):Ex:=λst=>match st[i]? with
 |some (some (.v d))=>.ok d
 |some (some (.o k xs))=>.ok (ofK k xs)
 |_=>.bad
def eC(d:D):Ex:=λ_=>.ok d
def e2(op:Op2)(f g:Ex):Ex:=λst=>(f st).bind λx=>(g st).bind λy=>op x y
def e1(op:D->R D)(f:Ex):Ex:=λst=>(f st).bind op
def eB(p:D->Bool)(f:Ex):Ex:=λst=>(f st).bind λx=>aV (aSm x=true) (.ok (.bl (p x)))
def onB{α:Type}(d:D)(f:Bool->R α):R α:=match d with
 |.bl b=>f b
 |_=>.bad
def pP{d:D}{f:Bool->R α}{a:α}(h:onB d f=.ok a):∃b,d=.bl b/\f b=.ok a:=by
 cases d<;>first|exact⟨_,rfl,h⟩|exact nomatch h
def qG(f g:Ex):Ex:=λst=>(f st).bind λx=>onB x λb=>if b=true then g st else .ok (.bl false)
def eOr(f g:Ex):Ex:=λst=>(f st).bind λx=>onB x λb=>if b=true then .ok (.bl true) else g st
def pI(f:Ex):Ex:=λst=>(f st).bind λx=>onB x λb=>.ok (.bl (!b))
def eIf(c f g:Ex):Ex:=λst=>(c st).bind λx=>onB x λb=>if b=true then f st else g st
abbrev Exs:=PSt->R (List D)
def aR:Exs:=λ_=>.ok []
def aC(f:Ex)(r:Exs):Exs:=λst=>(f st).bind λx=>(r st).bind λxs=>.ok (x::xs)
def aZ4(r:Exs):Ex:=λst=>(r st).bind λxs=>aV (xs.length<=big) (.ok (.tup xs))
def fQ(r:Exs):Ex:=λst=>(r st).bind λxs=>aV (xs.length<=big) (.ok (.lst xs))
def aN(p:List D->R D)(r:Exs):Ex:=λst=>(r st).bind p
def eMt(m:Mop)(f:Ex)(r:Exs):Ex:=λst=>(f st).bind λx=>(r st).bind λxs=>m x xs
def inI(d:D){α:Type}(f:Int->R α):R α:=match d with
 |.int i=>f i
 |_=>.bad
def aB4{d:D}{f:Int->R α}{a:α}(h:inI d f=.ok a):∃i,d=.int i/\f i=.ok a:=by
 cases d<;>first|exact⟨_,rfl,h⟩|exact nomatch h
abbrev ExO:=PSt->R (Option Int)
def aQ5:ExO:=λ_=>.ok none
def aQ6(f:Ex):ExO:=λst=>(f st).bind λx=>inI x λi=>.ok (some i)
def dSl(x:D)(lo hi:Option Int):R D:=match x with
 |.lst xs=>.ok (.lst (cut xs lo hi))
 |.str xs=>aV (xs.length<=big) (.ok (.str (cut xs lo hi)))
 |_=>.bad
def eSl(f:Ex)(lo hi:ExO):Ex:=λst=>(f st).bind λx=>(lo st).bind λl=>(hi st).bind λh=>dSl x l h
abbrev ItE:=PSt->R (List D)
def itE(f:Ex):ItE:=λst=>(f st).bind λx=>match x with
 |.lst xs=>.ok xs
 |.tup xs=>.ok xs
 |.str xs=>aV (xs.length<=big) (.ok (xs.map λc=>.str [c]))
 |_=>.bad
def fU(lo:Int)(n:Nat):List D:=(List.range n).map λ(k:Nat)=>.int (lo+(k:Int))
def xP(f:Ex):ItE:=λst=>(f st).bind λx=>inI x λj=>aV (-(big:Int)<=j/\j<=(big:Int)) (.ok (fU 0 j.toNat))
def aZ5(f g:Ex):ItE:=λst=>(f st).bind λx=>(g st).bind λy=>inI x λi=>inI y λj=>aV (-(big:Int)<=i/\i<=(big:Int)/\-(big:Int)<=j/\j<=(big:Int)) (.ok (fU i (j-i).toNat))
abbrev Tg:=D->PSt->R PSt
def tgN(i:Nat):Tg:=λd st=>.ok (st.set i (some (.v d)))
def aG0:List Nat->List D->PSt->R PSt
 |[],[],st=>.ok st
 |i::is,d::ds,st=>aG0 is ds (st.set i (some (.v d)))
 |_,_,_=>.bad
def tgT(is:List Nat):Tg:=λd st=>match d with
 |.tup xs=>aG0 is xs st
 |.lst xs=>aG0 is xs st
 |_=>.bad
def iI(tg:Tg)(c f:Ex)(st:PSt):List D->R (List D)
 |[]=>.ok []
 |d::ds=>(tg d st).bind λs1=>(c s1).bind λx=>onB x λb=>if b=true then (f s1).bind λy=>(iI tg c f st ds).bind λys=>.ok (y::ys) else iI tg c f st ds
def clr(is:List Nat)(st:PSt):PSt:=is.foldl (λs i=>s.set i none) st
def cC(is:List Nat)(tg:Tg)(it:ItE)(c f:Ex):Ex:=λst=>(it st).bind λxs=>aV (xs.length<=big) ((iI tg c f (clr is st) xs).bind λys=>.ok (.lst ys))
def dM:Ex:=λ_=>.ok (.bl true)
def aBz(r:R Fl)(f:PSt->R Fl):R Fl:=r.bind λx=>match x with
 |.nx st=>f st
 |.rt d=>.ok (.rt d)
 |.bk st=>.ok (.bk st)
 |.ct st=>.ok (.ct st)
def cZ:Bd:=λst=>.ok (.nx st)
def bG(a b:Bd):Bd:=λst=>aBz (a st) b
def cR(i:Nat)(f:Ex):Bd:=λst=>(f st).bind λd=>.ok (.nx (st.set i (some (.v d))))
def pY(i:Nat)(f:Ex):Bd:=λst=>(f st).bind λd=>match d with
 |.lst xs=>.ok (.nx (st.set i (some (.o .l xs))))
 |_=>.bad
def bFv(tg:Tg)(f:Ex):Bd:=λst=>(f st).bind λd=>(tg d st).bind λs1=>.ok (.nx s1)
def aAi(i:Nat)(f:Ex):Bd:=λst=>(f st).bind λd=>match st[i]? with
 |some (some (.o .l xs))=>aV (xs.length<big) (.ok (.nx (st.set i (some (.o .l (xs++[d]))))))
 |_=>.bad
def aUt(i:Nat)(g f:Ex):Bd:=λst=>(f st).bind λd=>(g st).bind λx=>inI x λj=>match st[i]? with
 |some (some (.o .l xs))=>(ofO (ixN xs.length j)).bind λk=>.ok (.nx (st.set i (some (.o .l (xs.set k d)))))
 |_=>.bad
def aIh(i:Nat)(t:Bool):Bd:=λst=>.ok (.nx (st.set i (some (.o (.d t []) []))))
def sDPut(i:Nat)(g f:Ex):Bd:=λst=>(f st).bind λd=>(g st).bind λk=>match st[i]? with
 |some (some (.o (.d t ks) vs))=>aV (keyOk t k=true/\vs.length<big) (.ok (.nx (st.set i (some (.o (.d t (wR ks k)) (aAm ks vs k d))))))
 |_=>.bad
def aIi(i:Nat)(c f:String)(e:Ex):Bd:=λst=>(e st).bind λd=>match st[i]? with
 |some (some (.o (.i n c' ns) xs))=>aV (c'=c/\f∉ns/\ns.length<900) (.ok (.nx (st.set i (some (.o (.i n c' (ns++[f])) (xs++[d]))))))
 |_=>.bad
def nM(c f:String):D->R D
 |.ins c' ns xs=>aV (c'=c) (ofO ((ns.zip xs).lookup f))
 |_=>.bad
def aLl(c m:String)(p:List D->R D)(dv:List D)(f:Ex)(r:Exs):Ex:=λst=>(f st).bind λx=>(r st).bind λxs=>match x with
 |.ins c' ns _=>aV (c'=c/\m∉ns) (p (x::(xs++dv)))
 |_=>.bad
def qQ:Bd:=λ_=>.bad
def fz1(st:PSt)(i:Nat):PSt:=match st[i]? with
 |some (some (.o k xs))=>st.set i (some (.v (ofK k xs)))
 |_=>st
def sFz(is:List Nat)(b:Bd):Bd:=λst=>b (is.foldl fz1 st)
def cM(f:Ex):Bd:=λst=>(f st).bind λd=>.ok (.rt d)
def sIf(c:Ex)(a b:Bd):Bd:=λst=>(c st).bind λx=>onB x λq=>if q=true then a st else b st
def forR(tg:Tg)(body:Bd):List D->PSt->R Fl
 |[],st=>.ok (.nx st)
 |d::ds,st=>(tg d st).bind λs1=>(body s1).bind λx=>match x with
  |.nx s2=>forR tg body ds s2
  |.ct s2=>forR tg body ds s2
  |.bk s2=>.ok (.nx s2)
  |.rt v=>.ok (.rt v)
def tQ(tg:Tg)(it:ItE)(body:Bd):Bd:=λst=>(it st).bind λxs=>forR tg body xs st
def lG(c:Ex)(body:Bd):Nat->PSt->R Fl
 |0,_=>.bad
 |n+1,st=>(c st).bind λx=>onB x λq=>if q=true then (body st).bind λx=>(match x with
  |.nx s2=>lG c body n s2
  |.ct s2=>lG c body n s2
  |.bk s2=>.ok (.nx s2)
  |.rt v=>.ok (.rt v)) else .ok (.nx st)
def aG1(n:Nat)(c:Ex)(body:Bd):Bd:=λst=>lG c body n st
def dC(np n:Nat)(b:Bd)(ds:List D):R D:=
 aV (ds.length=np) ((b (ds.map (λd=>some (.v d))++List.replicate (n-np) none)).bind λx=>match x with
  |.nx _=>.ok .non
  |.rt d=>.ok d
  |_=>.bad)
def aIj(c:String)(np n:Nat)(b:Bd)(x:Nat)(ds:List D):R D:=
 aV (ds.length=np) ((b (some (.o (.i x c []) [])::(ds.map (λd=>some (.v d))++List.replicate (n-np-1) none))).bind λ(fl:Fl)=>match fl with
  |.nx st=>(match (st[0]?:Option (Option Sl)) with
   |some (some (.o (.i y c' ns) xs))=>aV (y=x) (.ok (.ins c' ns xs))
   |_=>.bad)
  |_=>.bad)
open Classical in
def aJy(c:String)(np n:Nat)(b:Bd)(ds:List D):R D:=if h:∃d,∀x,aIj c np n b x ds=.ok d then .ok (choose h) else .bad
def aZ6{c:String} {b:Bd} {ds:List D} {d:D} (h:∀x,aIj c np n b x ds=.ok d):aJy c np n b ds=.ok d:=by
 unfold aJy;rw[dif_pos ⟨d,h⟩];have:=bO4 (p:=λd=>∀x,aIj c np n b x ds=.ok d) ⟨d,h⟩ 0
 rw[h 0]at this;exact this.symm
def aQ7{c:String} {b:Bd} {ds:List D} {d:D} (h:aJy c np n b ds=.ok d) (x:Nat):aIj c np n b x ds=.ok d:=by
 unfold aJy at h;split at h
 .rename_i e;have:=bO4 e x;rw[this];exact h
 .cases h
end
end Pu
variable{d y:Pu.D}{ds xs ys dv:List Pu.D}{f g:Pu.Ex}{bd L bd':Pu.Bd}{bds:List Pu.D->Pu.Bd}{st' s1:Pu.PSt}{p:List Pu.D->Pu.R Pu.D}{it:Pu.ItE}
namespace Pu
@[simp] theorem bg1:1<=big:=dN (by decide)
@[simp] theorem aH(a:α)(f:α->R β):(R.ok a).bind f=f a:=rfl
@[simp] theorem nO(b:Bool)(f:Bool->R α):onB (.bl b) f=f b:=rfl
@[simp] theorem bHb(i:Int)(f:Int->R α):inI (.int i) f=f i:=rfl
@[simp] theorem bHc(st:PSt)(f:PSt->R Fl):aBz (.ok (.nx st)) f=f st:=rfl
@[simp] theorem aQ8(i:Nat)(st:PSt):aA i st=(match st[i]? with|some (some (.v d))=>R.ok d|_=>.bad):=rfl
@[simp] theorem aQ9(d:D)(st:PSt):eC d st=.ok d:=rfl
@[simp] theorem aEf(op:Op2)(f g:Ex)(st:PSt):e2 op f g st=(f st).bind λx=>(g st).bind λy=>op x y:=rfl
@[simp] theorem bBm(op:D->R D)(f:Ex)(st:PSt):e1 op f st=(f st).bind op:=rfl
@[simp] theorem bIf(p:D->Bool)(f:Ex)(st:PSt):eB p f st=(f st).bind λx=>aV (aSm x=true) (.ok (.bl (p x))):=rfl
@[simp] theorem aQa(f g:Ex)(st:PSt):qG f g st=(f st).bind λx=>onB x λb=>if b=true then g st else .ok (.bl false):=rfl
@[simp] theorem bD2(f g:Ex)(st:PSt):eOr f g st=(f st).bind λx=>onB x λb=>if b=true then .ok (.bl true) else g st:=rfl
@[simp] theorem aQb(f:Ex)(st:PSt):pI f st=(f st).bind λx=>onB x λb=>.ok (.bl (!b)):=rfl
@[simp] theorem bHd(st:PSt):aR st=.ok []:=rfl
@[simp] theorem aUu(f:Ex)(r:Exs)(st:PSt):aC f r st=(f st).bind λx=>(r st).bind λxs=>.ok (x::xs):=rfl
@[simp] theorem aZ7(r:Exs)(st:PSt):fQ r st=(r st).bind λxs=>aV (xs.length<=big) (.ok (.lst xs)):=rfl
@[simp] theorem aUv(p:List D->R D)(r:Exs)(st:PSt):aN p r st=(r st).bind p:=rfl
@[simp] theorem bI3(m:Mop)(f:Ex)(r:Exs)(st:PSt):eMt m f r st=(f st).bind λx=>(r st).bind λxs=>m x xs:=rfl
@[simp] theorem aUw(st:PSt):aQ5 st=.ok none:=rfl
@[simp] theorem aUx(f:Ex)(st:PSt):aQ6 f st=(f st).bind λx=>inI x λi=>.ok (some i):=rfl
@[simp] theorem bD3(f:Ex)(lo hi:ExO)(st:PSt):eSl f lo hi st=(f st).bind λx=>(lo st).bind λl=>(hi st).bind λh=>dSl x l h:=rfl
@[simp] theorem aZ8(f:Ex)(st:PSt):xP f st=(f st).bind λx=>inI x λj=>aV (-(big:Int)<=j/\j<=(big:Int)) (.ok (fU 0 j.toNat)):=rfl
@[simp] theorem bHe(f g:Ex)(st:PSt):aZ5 f g st=(f st).bind λx=>(g st).bind λy=>inI x λi=>inI y λj=>aV (-(big:Int)<=i/\i<=(big:Int)/\-(big:Int)<=j/\j<=(big:Int)) (.ok (fU i (j-i).toNat)):=rfl
@[simp] theorem bFw(tg:Tg)(b:Bd)(st:PSt):forR tg b [] st=.ok (.nx st):=rfl
def nQ(tg:Tg)(b:Bd)(d:D)(ds:List D)(st:PSt):forR tg b (d::ds) st=(tg d st).bind λs1=>(b s1).bind λx=>match x with
  |.nx s2=>forR tg b ds s2
  |.ct s2=>forR tg b ds s2
  |.bk s2=>.ok (.nx s2)
  |.rt v=>.ok (.rt v):=rfl
def aEg(c:Ex)(b:Bd)(n:Nat)(st:PSt):lG c b (n+1) st=(c st).bind λx=>onB x λq=>if q=true then (b st).bind λx=>(match x with
  |.nx s2=>lG c b n s2
  |.ct s2=>lG c b n s2
  |.bk s2=>.ok (.nx s2)
  |.rt v=>.ok (.rt v)) else .ok (.nx st):=rfl
@[simp] theorem aO8(f:Ex)(st:PSt):itE f st=(f st).bind λx=>match x with|.lst xs=>.ok xs|.tup xs=>.ok xs|.str xs=>aV (xs.length<=big) (.ok (xs.map λc=>.str [c]))|_=>.bad:=rfl
@[simp] theorem aIk(n:Nat)(c:Ex)(b:Bd)(st:PSt):aG1 n c b st=lG c b n st:=rfl
@[simp] theorem aZ9(i:Nat)(f:Ex)(st:PSt):aAi i f st=(f st).bind λd=>match st[i]? with|some (some (.o .l xs))=>aV (xs.length<big) (.ok (.nx (st.set i (some (.o .l (xs++[d]))))))|_=>.bad:=rfl
@[simp] theorem aUy(i:Nat)(f:Ex)(st:PSt):pY i f st=(f st).bind λd=>match d with|.lst xs=>.ok (.nx (st.set i (some (.o .l xs))))|_=>.bad:=rfl
@[simp] theorem aZa(i:Nat)(g f:Ex)(st:PSt):aUt i g f st=(f st).bind λd=>(g st).bind λx=>inI x λj=>match st[i]? with|some (some (.o .l xs))=>(ofO (ixN xs.length j)).bind λk=>.ok (.nx (st.set i (some (.o .l (xs.set k d)))))|_=>.bad:=rfl
@[simp] theorem aUz(i:Nat)(c f:String)(e:Ex)(st:PSt):aIi i c f e st=(e st).bind λd=>match st[i]? with|some (some (.o (.i n c' ns) xs))=>aV (c'=c/\f∉ns/\ns.length<900) (.ok (.nx (st.set i (some (.o (.i n c' (ns++[f])) (xs++[d]))))))|_=>.bad:=rfl
@[simp] theorem aG2(c f c':String)(ns:List String)(xs:List D):nM c f (.ins c' ns xs)=aV (c'=c) (ofO ((ns.zip xs).lookup f)):=rfl
@[simp] theorem aV0(c m:String)(p:List D->R D)(dv:List D)(f:Ex)(r:Exs)(st:PSt):aLl c m p dv f r st=(f st).bind λx=>(r st).bind λxs=>match x with|.ins c' ns _=>aV (c'=c/\m∉ns) (p (x::(xs++dv)))|_=>.bad:=rfl
@[simp] theorem bI4(is:List Nat)(b:Bd)(st:PSt):sFz is b st=b (is.foldl fz1 st):=rfl
@[simp] theorem bI5(st:PSt)(i:Nat):fz1 st i=(match st[i]? with|some (some (.o k xs))=>st.set i (some (.v (ofK k xs)))|_=>st):=rfl
@[simp] theorem bHf(x y:List Nat):aLk (.str x) [.str y]=.ok (.int (yE (iZ x y 0))):=rfl
@[simp] theorem bBn(i:Nat):yE (some i)=i:=rfl
@[simp] theorem bHg(i j:Int):dGe (.int i) (.int j)=.ok (.bl (decide (j<=i))):=rfl
@[simp] theorem bFx(b:Int):aSm (.int b)=true:=rfl
@[simp] theorem bFy(b:List D):aSm (.lst b)=true:=rfl
@[simp] theorem bD4(i:Nat)(d:D)(st:PSt):tgN i d st=.ok (st.set i (some (.v d))):=rfl
@[simp] theorem bHh(st:PSt):clr [] st=st:=rfl
@[simp] theorem bFz(i:Nat)(is:List Nat)(st:PSt):clr (i::is) st=clr is (st.set i none):=rfl
def vK(tg:Tg)(c f:Ex)(st:PSt)(d:D)(ds:List D):iI tg c f st (d::ds)=(tg d st).bind λs1=>(c s1).bind λx=>onB x λb=>if b=true then (f s1).bind λy=>(iI tg c f st ds).bind λys=>.ok (y::ys) else iI tg c f st ds:=rfl
@[simp] theorem yF(is:List Nat)(tg:Tg)(it:ItE)(c f:Ex)(st:PSt):cC is tg it c f st=(it st).bind λxs=>aV (xs.length<=big) ((iI tg c f (clr is st) xs).bind λys=>.ok (.lst ys)):=rfl
@[simp] theorem bG0(st:PSt):cZ st=.ok (.nx st):=rfl
@[simp] theorem aQc(a b:Bd)(st:PSt):bG a b st=aBz (a st) b:=rfl
@[simp] theorem aQd(i:Nat)(f:Ex)(st:PSt):cR i f st=(f st).bind λd=>.ok (.nx (st.set i (some (.v d)))):=rfl
@[simp] theorem qH(f:Ex)(st:PSt):cM f st=(f st).bind λd=>.ok (.rt d):=rfl
@[simp] theorem aO9(c:Ex)(a b:Bd)(st:PSt):sIf c a b st=(c st).bind λx=>onB x λq=>if q=true then a st else b st:=rfl
@[simp] theorem aQe(tg:Tg)(it:ItE)(body:Bd)(st:PSt):tQ tg it body st=(it st).bind λxs=>forR tg body xs st:=rfl
@[simp] theorem bG1(i j:Int):nJ (.int i) (.int j)=.ok (.int (i+j)):=rfl
@[simp] theorem bG2(i j:Int):qF (.int i) (.int j)=aV (0<j) (.ok (.int (i%j))):=rfl
@[simp] theorem bHi(i j:Int):dLe (.int i) (.int j)=.ok (.bl (decide (i<=j))):=rfl
@[simp] theorem bI6(x y:D):dEq x y=aV (dep x<=64/\plain x=true/\plain y=true) (.ok (.bl (eqD x y))):=rfl
@[simp] theorem bD5(x y:D):dNe x y=aV (dep x<=64/\plain x=true/\plain y=true) (.ok (.bl (!eqD x y))):=rfl
@[simp] theorem bHj(i:Int):dep (.int i)=0:=by unfold dep;rfl
@[simp] theorem aZb(s:List Nat):dep (.str s)=0:=by unfold dep;rfl
@[simp] theorem aJz(x:List D):dep (.lst x)=iH x+1:=by conv=>lhs;unfold dep
@[simp] theorem bEu:plain .non=true:=by unfold plain;rfl
@[simp] theorem bG3(b:Bool):plain (.bl b)=true:=by unfold plain;rfl
@[simp] theorem bEv(i:Int):plain (.int i)=true:=by unfold plain;rfl
@[simp] theorem aSn(s:List Nat):plain (.str s)=true:=by unfold plain;rfl
@[simp] theorem bEw(x:List D):plain (.tup x)=cQ x:=by conv=>lhs;unfold plain
@[simp] theorem uJ(x:List D):plain (.lst x)=cQ x:=by conv=>lhs;unfold plain
@[simp] theorem bEx(t:Bool)(k v:List D):plain (.dct t k v)=false:=by unfold plain;rfl
@[simp] theorem bEy(c:String)(n:List String)(v:List D):plain (.ins c n v)=false:=by unfold plain;rfl
@[simp] theorem bEz(c:String)(n:List String)(v:List D):plain (.exn c n v)=false:=by unfold plain;rfl
@[simp] theorem bG4(f:String):plain (.fn f)=false:=by unfold plain;rfl
@[simp] theorem bD6:cQ []=true:=by unfold cQ;rfl
@[simp] theorem pJ(a:D)(x:List D):cQ (a::x)=(plain a&&cQ x):=by conv=>lhs;unfold cQ
@[simp] theorem bG5:iH []=0:=by unfold iH;rfl
@[simp] theorem aSo(a:D)(x:List D):iH (a::x)=max (dep a) (iH x):=by conv=>lhs;unfold iH
@[simp] theorem bHk(i j:Int):eqD (.int i) (.int j)=(i==j):=by unfold eqD;rfl
@[simp] theorem bBo(x:List D)(y:List D):eqD (.lst x) (.lst y)=gC x y:=by conv=>lhs;unfold eqD
@[simp] theorem aZc:gC [] []=true:=by unfold gC;rfl
@[simp] theorem aY8(b:D)(y:List D):gC [] (b::y)=false:=by unfold gC;rfl
@[simp] theorem aY9(b:D)(y:List D):gC (b::y) []=false:=by unfold gC;rfl
@[simp] theorem bG6(x:List D):dG (.lst x)=.ok (.int x.length):=rfl
@[simp] theorem bHl(x:List D)(i:Int):dIx (.lst x) (.int i)=ofO (atI x i):=rfl
@[simp] theorem bG7(a:α):ofO (some a)=.ok a:=rfl
@[simp] theorem gR{c:Prop}{r:R α}(h:c):aV c r=r:=aF h
@[simp] theorem aZd{b:Bd} (h:ds.length=np):dC np n b ds=(b (ds.map (λd=>some (.v d))++List.replicate (n-np) none)).bind λx=>match x with
  |.nx _=>.ok .non
  |.rt d=>.ok d
  |_=>.bad:=aF h
def aV1{xs:List α}{i:Int}(h0:0<=i)(h:i<xs.length):atI xs i=some (xs[i.toNat]'(by omega)):=by
 unfold atI ixN;rw[bIv h0,bIv h];exact bIj (by omega)
def atI_nat{xs:List α}{i:Nat}(h:i<xs.length):atI xs (i:Int)=some xs[i]:=by
 rw[aV1 (by omega) (by omega)]
 simp
def aAn(lo:Int)(n:Nat):(fU lo n).length=n:=by simp[fU]
def aIl:D->R D
 |.lst x=>.ok (.lst x)
 |.tup x=>.ok (.lst x)
 |_=>.bad
def bls:List D->R (List Bool)
 |[]=>.ok []
 |.bl b::r=>(bls r).bind λx=>.ok (b::x)
 |_::_=>.bad
def rW:List D->R (List Int)
 |[]=>.ok []
 |.int i::r=>(rW r).bind λx=>.ok (i::x)
 |_::_=>.bad
def aF8:D->R D
 |.lst x=>(bls x).bind λl=>.ok (.bl (l.all id))
 |_=>.bad
def yG:List Int->Int
 |[]=>0
 |i::r=>r.foldl (λa b=>if b>a then b else a) i
noncomputable def aEh:D->R D
 |.lst x=>(rW x).bind λl=>aV (0<l.length) (.ok (.int (yG l)))
 |_=>.bad
theorem aV2:∀{x:List D}{l:List Bool},bls x=.ok l->x=l.map D.bl
 |[],l,h=>by cases h;rfl
 |d::x,l,h=>by
  cases d<;>first|(cases h;done)|skip
  obtain⟨l',h1,h2⟩:=R.ok_of h;cases h2;rw[aV2 h1];rfl
theorem yH:∀{x:List D}{l:List Int},rW x=.ok l->x=l.map D.int
 |[],l,h=>by cases h;rfl
 |d::x,l,h=>by
  cases d<;>first|(cases h;done)|skip
  obtain⟨l',h1,h2⟩:=R.ok_of h;cases h2;rw[yH h1];rfl
theorem aQf:∀(l:List Bool),bls (l.map D.bl)=.ok l
 |[]=>rfl
 |b::l=>by show (bls (l.map D.bl)).bind _=_;rw[aQf l];rfl
theorem nR:∀(l:List Int),rW (l.map D.int)=.ok l
 |[]=>rfl
 |b::l=>by show (rW (l.map D.int)).bind _=_;rw[nR l];rfl
theorem aDd:∀(r:List Int)(a:Int),a<=r.foldl (λa b=>if b>a then b else a) a/\(∀x∈r,x<=r.foldl (λa b=>if b>a then b else a) a)/\(r.foldl (λa b=>if b>a then b else a) a=a\/r.foldl (λa b=>if b>a then b else a) a∈r)
 |[],a=>⟨bKl _,λ_ h=>(by cases h),.inl rfl⟩
 |b::r,a=>by
  obtain⟨h1,h2,h3⟩:=aDd r (if b>a then b else a)
  rw[bM5];have ha:a<=(if b>a then b else a):=by split<;>omega
  have hb:b<=(if b>a then b else a):=by split<;>omega
  refine⟨bO5 ha h1,λx hx=>?_,?_⟩
  .rcases bIq.mp hx with rfl|hx
   .exact bO5 hb h1
   .exact h2 x hx
  .rcases h3 with h3|h3
   .rw[h3];split
    .exact .inr bIm
    .exact .inl rfl
   .exact .inr (bIl _ h3)
def aK0{l:List Int}{m:Int}(hm:m∈l)(hx:∀x∈l,x<=m):yG l=m:=by
 cases l with
 |nil=>cases hm
 |cons i r=>
  obtain⟨h1,h2,h3⟩:=aDd r i;have ha:yG (i::r)<=m:=by
   rcases h3 with h3|h3
   .exact hx _ (by show r.foldl _ i∈_;rw[h3];exact bIm)
   .exact hx _ (bIl _ h3)
  have hb:m<=yG (i::r):=by
   rcases bIq.mp hm with e|e
   .rw[e];exact h1
   .exact h2 _ e
  omega
inductive NFl where
 |nx (xss:List (List D)) (st:PSt)|rt (d:D)
abbrev NB:=List (List D)->PSt->R NFl
def aV3(i:Nat):Bd:=λst=>match st[i]? with
 |some (some (.o .l xs))=>.ok (.rt (.lst xs))
 |_=>.bad
def aC0(bd:Bd)(i:Nat):Bd:=λst=>match bd st with
 |.ok (.nx s)=>aV3 i s
 |_=>.bad
def atom:D->Bool
 |.non=>true
 |.bl _=>true
 |.int _=>true
 |.str _=>true
 |_=>false
def bG8:D->Bool
 |.lst xs=>xs.all atom
 |_=>false
noncomputable section
def bD7:D->R D
 |.lst xs=>aV (xs.length<=big/\xs.all bG8=true) (.ok (.lst xs))
 |_=>.bad
def unL:D->List D
 |.lst xs=>xs
 |_=>[]
open Classical in
def bIg(c:String)(np n:Nat)(b:Bd)(ds:List D):R D:=if h:∃r,∀x,aIj c np n b x ds=r then choose h else .bad
end
def aC1:List Nat->List D->List D
 |c::z,d::ds=>.tup [.str [c],d] :: aC1 z ds
 |_,_=>[]
def bBp(f g:Ex):ItE:=λst=>(f st).bind λx=>(g st).bind λy=>match x,y with
 |.str z,.lst ds=>.ok (aC1 z ds)
 |_,_=>.bad
noncomputable section
def aC2:D->R D
 |.int n=>aV (-(big:Int)<=n/\n<=(big:Int)) (.ok (.lst (fU 0 n.toNat)))
 |_=>.bad
def aOa(i:Nat)(g f:Ex):Bd:=λst=>(g st).bind λk=>(f st).bind λd=>aV (aUs k=true/\atom d=true) (.ok (.nx (st.set i (some (.o (.d false [k]) [d])))))
end
noncomputable section
def aDe:Op2
 |.int i,.int j=>aV (0<=j/\j<=1000000/\i.natAbs<18446744073709551616) (.ok (.int (i*2^j.toNat)))
 |_,_=>.bad
def aDf:Op2
 |.int i,.int j=>aV (0<=j) (.ok (.int (i/2^j.toNat)))
 |_,_=>.bad
def aC3:Op2
 |.int i,.int j=>aV (0<=i/\0<=j) (.ok (.int ((i.toNat&&&j.toNat:Nat):Int)))
 |_,_=>.bad
def dOr:Op2
 |.int i,.int j=>aV (0<=i/\0<=j) (.ok (.int ((i.toNat|||j.toNat:Nat):Int)))
 |_,_=>.bad
def aQg:Mop
 |.lst xs,[.int k]=>(rW xs).bind λl=>(ofO (l.findIdx? λi=>i==k)).bind λn=>aV (xs.length<=big) (.ok (.int (n:Int)))
 |_,_=>.bad
end
def pZ(i:Int):Nat:=if i=0 then 0 else i.natAbs.log2+1
def aFd:D->R D
 |.int i=>.ok (.int (pZ i:Nat))
 |_=>.bad
noncomputable def aG3:D->R D
 |.dct false ks ds=>aV (ks.length<=big) (.ok (.lst (List.zipWith (λk d=>.tup [k,d]) ks ds)))
 |_=>.bad
def yI(bd:Bd)(f:Ex):Bd:=λst=>match bd st with
 |.ok (.nx s)=>(f s).bind λd=>match d with
  |.lst xs=>.ok (.rt (.lst xs))
  |_=>.bad
 |_=>.bad
def bG9:D->R D
 |.lst xs=>(rW xs).bind λl=>.ok (.int l.sum)
 |_=>.bad
def aOb:Op2
 |.int i,.int j=>.ok (.bl (decide (i<j)))
 |_,_=>.bad
noncomputable def pK:Op2
 |.int i,.int j=>aV ((-18446744073709551616<i/\i<18446744073709551616)\/(-18446744073709551616<j/\j<18446744073709551616)) (.ok (.int (i*j)))
 |_,_=>.bad
@[simp] theorem bGa(i j:Int):aOb (.int i) (.int j)=.ok (.bl (decide (i<j))):=rfl
@[simp] theorem bF0(i j:Int):pK (.int i) (.int j)=aV ((-18446744073709551616<i/\i<18446744073709551616)\/(-18446744073709551616<j/\j<18446744073709551616)) (.ok (.int (i*j))):=rfl
end Pu
variable{nb:Pu.NB}
namespace Pu
noncomputable section
def aG4:D->D->D->R D
 |.dct t ks vs,k,x=>aV (keyOk t k=true) (if vJ ks k=true then ofO (yD ks vs k) else .ok x)
 |_,_,_=>.bad
def aV4(f g h:Ex):Ex:=λst=>(f st).bind λd=>(g st).bind λk=>(h st).bind λx=>aG4 d k x
end
noncomputable section
def aQh(i j:Nat)(p:List D->R D)(f:Ex):Bd:=λst=>(f st).bind λx=>match st[j]? with
 |some (some (.o .l ys))=>(match ys.getLast? with
  |some d=>aV (ys.length<=big) ((p [x,d]).bind λy=>.ok (.nx ((st.set j (some (.o .l ys.dropLast))).set i (some (.v y)))))
  |none=>.bad)
 |_=>.bad
end
noncomputable section
def aZe:D->R D
 |.int i=>.ok (.int i)
 |.bl b=>.ok (.int (if b then 1 else 0))
 |_=>.bad
end
noncomputable section
def aLm(y:Nat)(c d:Ex)(n:Int)(st:PSt):R PSt:=(c st).bind λx=>onB x λb=>if b=true/\0<n then (d st).bind λx=>onB x λb=>if b=true then (aA y st).bind λw=>inI w λm=>.ok (st.set y (some (.v (.int (if n+1>m then n+1 else m))))) else .ok st else .ok st
def aIm(j y:Nat)(c d:Ex):List D->List D->PSt->R PSt
 |k::ks,z::zs,st=>inI z λn=>(aLm y c d n (st.set j (some (.v k)))).bind (aIm j y c d ks zs)
 |[],[],st=>.ok st
 |_,_,_=>.bad
def aV5(i j y:Nat)(c d:Ex):Bd:=λst=>match st[i]? with
 |some (some (.o (.d false ks) ds))=>(aIm j y c d ks ds (st.set i none)).bind λs=>.ok (.nx (s.set i (some (.o (.d false ks) ds))))
 |_=>.bad
def aOc(g:List D->R D)(ds out:List D):Prop:=out.Perm ds/\out.Pairwise λx y=>∃i j,g [x]=.ok (.int i)/\g [y]=.ok (.int j)/\i<=j
def wU(t:Tg)(f:Ex)(g:List D->R D)(bd:Bd)(out:List D):Bd:=λst=>(f st).bind λx=>match x with
 |.lst ds=>aV (ds.length<=1000/\∀d∈ds,∃n m,d=.int n/\g [d]=.ok (.int m)) (open Classical in if aOc g ds out then forR t bd out st else .ok (.bk []))
 |_=>.bad
def aLn{t:Tg} {g:List D->R D} {out ds:List D} {st:PSt} (hf:f st=.ok (.lst ds)) (hg:ds.length<=1000/\∀d∈ds,∃n m,d=.int n/\g [d]=.ok (.int m)) (ho:aOc g ds out):wU t f g bd out st=forR t bd out st:=by
 unfold wU;rw[hf];show aV _ _=_;rw[aF hg,bIv ho]
def aV6{t:Tg} {g:List D->R D} {out ds:List D} {st:PSt} (hf:f st=.ok (.lst ds)) (hg:ds.length<=1000/\∀d∈ds,∃n m,d=.int n/\g [d]=.ok (.int m)) (ho:¬ aOc g ds out):wU t f g bd out st=.ok (.bk []):=by
 unfold wU;rw[hf];show aV _ _=_;rw[aF hg,bIt ho]
def aDg(bds:List D->Bd)(st:PSt)(d:D):Prop:=∀out,bds out st=.ok (.rt d)\/bds out st=.ok (.bk [])
def pN(bds:List D->Bd)(st:PSt):R D:=open Classical in if h:∃d,(∃out,bds out st=.ok (.rt d))/\aDg bds st d then .ok h.choose else .bad
def bGb{st:PSt} (h:pN bds st=.ok d):aDg bds st d:=by
 unfold pN at h;split at h
 .rename_i q;cases h;exact q.choose_spec.2
 .cases h
def bGc{st:PSt} (out:List D) (h:bds out st=.ok (.rt d)) (ha:aDg bds st d):pN bds st=.ok d:=by
 unfold pN;have q:∃d,(∃out,bds out st=.ok (.rt d))/\aDg bds st d:=⟨d,⟨out,h⟩,ha⟩;rw[dif_pos q];rcases q.choose_spec.2 out with e|e
 .rw[h]at e;cases e;rfl
 .rw[h]at e;cases e
def bGd(bds:List D->Bd):Bd:=λst=>(pN bds st).bind λd=>.ok (.rt d)
def aIn(c:Int):D->R D
 |.lst ds=>(rW ds).bind λl=>.ok (.int (if l=[] then c else yG l))
 |_=>.bad
end
def tx1:List D->Bool
 |.str _::_=>true
 |_=>false
mutual
def ntx:D->Bool
 |.lst ds=>!tx1 ds&&rP ds
 |.tup ds=>rP ds
 |.dct _ _ ds=>rP ds
 |.ins _ _ ds=>rP ds
 |.exn _ _ ds=>rP ds
 |_=>true
def rP:List D->Bool
 |[]=>true
 |d::ds=>ntx d&&rP ds
end
def cl1:Option Sl->Option Sl
 |some (.v d)=>if ntx d=true then some (.v d) else none
 |some (.o k xs)=>if rP xs=true then some (.o k xs) else none
 |none=>none
def aDh:D->Bool
 |.non=>true
 |.tup [.str _,.lst x]=>tx1 x&&x.all atom
 |_=>false
def kx1:D->List (List D)
 |.tup [_,.lst x]=>[x]
 |_=>[]
def kx(ds:List D):List (List D):=ds.flatMap kx1
noncomputable def aK1(iF iN iK:Nat):Bd:=λst=>match (st[iF]?:Option (Option Sl)) with
 |some (some (.v (.tup ds)))=>aV (ds.length<=big/\ds.all aDh=true) (.ok (.nx (((st.map cl1).set iN none).set iK (some (.v (.lst ((kx ds).map D.lst)))))))
 |_=>.bad
noncomputable def bGe(np n:Nat)(bd:Bd):List D->R D:=λds=>aV (ds.length=np) ((bd (ds.map (λd=>some (Sl.v d))++List.replicate (n-np) none)).bind λfl=>match fl with
 |.rt d=>.ok d
 |_=>.bad)
noncomputable section
def aEi:Bd:=bG (sIf (e2 aOb (aA 1) (e1 dG (aA 0))) (cM (e2 dIx (aA 0) (aA 1))) (cZ)) (bG (sIf (e2 dEq (aA 0) (fQ (aR))) (cM (e2 pK (eC (.int 7919)) (aA 1))) (cZ)) (cM (e2 nJ (e2 aFx (e2 dIx (aA 0) (e2 qF (aA 1) (e1 dG (aA 0)))) (e2 nJ (aA 1) (eC (.int 1)))) (e2 pK (eC (.int 7919)) (aA 1)))))
def gO:List D->R D:=dC 2 2 aEi
def aB5:Bd:=bG (cR 3 (e2 qF (e2 pK (e2 nJ (e2 qF (aA 0) (eC (.int 2147483647))) (e2 pK (eC (.int 7919)) (aA 1))) (eC (.int 48271))) (eC (.int 2147483629)))) (bG (cR 3 (e2 qF (e2 pK (e2 qF (e2 pK (aA 3) (aA 3)) (eC (.int 2147483647))) (eC (.int 69621))) (eC (.int 2147483587)))) (cM (e2 qF (e2 qF (e2 pK (aA 3) (aA 3)) (eC (.int 2147483629))) (aA 2))))
def cA:List D->R D:=dC 3 4 aB5
def uK(st:PSt):R D:=(aN cA (aC (aA 10) (aC (e2 nJ (eC (.int 11)) (aA 13)) (aC (aA 4) (aR))))) st
def jN(st:PSt):R D:=(e2 qF (e2 aFx (aA 10) (e2 dIx (fQ (aC (eC (.int 1)) (aC (eC (.int 8)) (aC (eC (.int 64)) (aR))))) (aA 13))) (aA 4)) st
def jO(st:PSt):R Fl:=(bG (cR 10 (aN gO (aC (aA 0) (aC (e2 nJ (e2 nJ (aA 1) (eC (.int 2))) (aA 9)) (aR))))) (bG (pY 11 (cC [13] (tgN 13) (xP (aA 5)) dM (uK))) (bG (cR 12 (aN cA (aC (aA 10) (aC (eC (.int 10)) (aC (eC (.int 7)) (aR)))))) (bG (sIf (e2 dEq (aN cA (aC (aA 3) (aC (eC (.int 6)) (aC (eC (.int 2)) (aR))))) (eC (.int 0))) (bG (pY 11 (cC [13] (tgN 13) (xP (aA 5)) dM (jN))) (cR 12 (e2 qF (e2 aFx (aA 10) (eC (.int 512))) (eC (.int 7))))) (sIf (qG (e2 dEq (aN cA (aC (aA 3) (aC (eC (.int 3)) (aC (eC (.int 2)) (aR))))) (eC (.int 0))) (e2 dGt (aN cA (aC (aA 10) (aC (eC (.int 8)) (aC (eC (.int 4)) (aR))))) (eC (.int 0)))) (aUt 11 (aN cA (aC (aA 10) (aC (eC (.int 9)) (aC (aA 5) (aR))))) (e2 qF (e2 nJ (aA 9) (eC (.int 1))) (aA 4))) (cZ))) (bG (sFz [11] (aAi 7 (aA 11))) (aAi 8 (e2 pK (aA 12) (aA 6)))))))) st
def yJ:Bd:=bG (cR 3 (aN gO (aC (aA 0) (aC (aA 1) (aR))))) (bG (cR 4 (e2 nJ (eC (.int 1)) (aN cA (aC (aA 3) (aC (eC (.int 1)) (aC (e2 dIx (fQ (aC (eC (.int 4)) (aC (eC (.int 5)) (aC (eC (.int 5)) (aC (aA 2) (aR)))))) (aN cA (aC (aA 3) (aC (eC (.int 5)) (aC (eC (.int 4)) (aR)))))) (aR))))))) (bG (cR 5 (e2 nJ (eC (.int 1)) (aN cA (aC (aA 3) (aC (eC (.int 2)) (aC (eC (.int 3)) (aR))))))) (bG (cR 6 (e2 dIx (fQ (aC (eC (.int 1)) (aC (eC (.int 1)) (aC (eC (.int 1)) (aC (e2 nJ (eC (.int 1)) (e2 pK (eC (.int 2)) (e2 qF (aN gO (aC (aA 0) (aC (e2 nJ (aA 1) (eC (.int 1))) (aR)))) (e2 aZ1 (eC (.int 10)) (eC (.int 27)))))) (aR)))))) (aN cA (aC (aA 3) (aC (eC (.int 4)) (aC (eC (.int 4)) (aR))))))) (bG (pY 7 (fQ (aR))) (bG (pY 8 (fQ (aR))) (bG (tQ (tgN 9) (xP (aA 4)) (jO)) (sFz [7,8] (cM (aZ4 (aC (aA 7) (aC (aA 8) (aR))))))))))))
def jB:List D->R D:=dC 3 14 yJ
def lX(st:PSt):R Fl:=(sIf (qG (e2 dEq (e2 aC3 (e2 aDf (aA 1) (aA 5)) (eC (.int 1))) (eC (.int 1))) (e2 jA (aA 5) (kI 3))) (aAi 3 (aA 5)) (cZ)) st
def yK(st:PSt):R Fl:=(bG (tQ (tgN 5) (itE (e2 dIx (aA 0) (e2 dIx (kI 3) (aA 4)))) (lX)) (cR 4 (e2 nJ (aA 4) (eC (.int 1))))) st
def qR(st:PSt):R D:=(e2 aOb (aA 4) (e1 dG (kI 3))) st
def vL:Bd:=bG (pY 3 (fQ (aC (aA 2) (aR)))) (bG (cR 4 (eC (.int 0))) (bG (aG1 100000 (qR) (yK)) (sFz [3] (cM (aA 3)))))
def gY:List D->R D:=dC 3 6 vL
def aAo(st:PSt):R D:=(e2 aDe (eC (.int 1)) (aA 1)) st
def aEj:Bd:=cM (e1 bG9 (cC [1] (tgN 1) (itE (aN gY (aC (aA 0) (aC (e2 aUq (e2 aDe (eC (.int 1)) (e1 dG (aA 0))) (eC (.int 1))) (aC (eC (.int 0)) (aR)))))) dM (aAo)))
def rY:List D->R D:=dC 1 2 aEj
def uM(st:PSt):R D:=(aA 3) st
def uN(st:PSt):R D:=(e2 dEq (e2 aC3 (e2 aDf (aA 1) (aA 3)) (eC (.int 1))) (eC (.int 1))) st
def uO(st:PSt):R Fl:=(sIf (e2 dNe (e1 dG (aN gY (aC (aA 0) (aC (aA 1) (aC (aA 3) (aR)))))) (e1 dG (aA 2))) (cM (eC (.bl false))) (cZ)) st
def yL:Bd:=bG (cR 2 (cC [3] (tgN 3) (xP (e1 dG (aA 0))) (uN) (uM))) (bG (tQ (tgN 3) (itE (aA 2)) (uO)) (cM (eOr (e2 dGt (e1 dG (aA 2)) (eC (.int 1))) (qG (e2 dEq (e1 dG (aA 2)) (eC (.int 1))) (e2 dIn (e2 dIx (aA 2) (eC (.int 0))) (e2 dIx (aA 0) (e2 dIx (aA 2) (eC (.int 0)))))))))
def lY:List D->R D:=dC 2 4 yL
def qT(st:PSt):R D:=(aA 1) st
def qU(st:PSt):R D:=(aN lY (aC (aA 0) (aC (aA 1) (aR)))) st
def vM:Bd:=cM (cC [1] (tgN 1) (aZ5 (eC (.int 1)) (e2 aDe (eC (.int 1)) (e1 dG (aA 0)))) (qU) (qT))
def qI:List D->R D:=dC 1 2 vM
def aAp(st:PSt):R D:=(aA 2) st
def aAq(st:PSt):R D:=(e2 dEq (e2 dOr (aA 2) (aA 1)) (aA 1)) st
def aEk:Bd:=bG (cR 1 (aN rY (aC (aA 0) (aR)))) (cM (cC [2] (tgN 2) (itE (aN qI (aC (aA 0) (aR)))) (aAq) (aAp)))
def rZ:List D->R D:=dC 1 3 aEk
def aB6:Bd:=cM (e2 dEq (e2 aC3 (e2 aDf (aA 0) (aA 1)) (eC (.int 1))) (eC (.int 1)))
def fY:List D->R D:=dC 2 2 aB6
def vN(st:PSt):R D:=(aA 1) st
def vO(st:PSt):R D:=(aN fY (aC (aA 0) (aC (aA 1) (aR)))) st
def aB7:Bd:=cM (cC [1] (tgN 1) (xP (e1 aFd (aA 0))) (vO) (vN))
def cD:List D->R D:=dC 1 2 aB7
def lQ(st:PSt):R Fl:=(cR 1 (e2 dOr (aA 1) (e2 aDe (eC (.int 1)) (aA 2)))) st
def aDi:Bd:=bG (cR 1 (eC (.int 0))) (bG (tQ (tgN 2) (itE (aA 0)) (lQ)) (cM (aA 1)))
def jP:List D->R D:=dC 1 3 aDi
def yM(st:PSt):R Fl:=(sDPut 3 (aA 4) (e2 aC3 (e2 dOr (aN jP (aC (e2 dIx (aA 0) (aA 4)) (aR))) (e2 aDe (eC (.int 1)) (aA 4))) (aA 1))) st
def lZ(st:PSt):R Fl:=(sIf (aN fY (aC (e2 dIx (kI 3) (aA 4)) (aC (aA 5) (aR)))) (sDPut 3 (aA 4) (e2 dOr (e2 dIx (kI 3) (aA 4)) (e2 dIx (kI 3) (aA 5)))) (cZ)) st
def yN(st:PSt):R Fl:=(tQ (tgN 4) (itE (aA 2)) (lZ)) st
def aC4:Bd:=bG (cR 2 (aN cD (aC (aA 1) (aR)))) (bG (aIh 3 false) (bG (tQ (tgN 4) (itE (aA 2)) (yM)) (bG (tQ (tgN 5) (itE (aA 2)) (yN)) (sFz [3] (cM (aA 3))))))
def jQ:List D->R D:=dC 2 6 aC4
def aC5:Bd:=bG (cR 2 (aN cD (aC (aA 1) (aR)))) (cM (eOr (e2 dGt (e1 dG (aA 2)) (eC (.int 1))) (e2 dIn (e2 dIx (aA 2) (eC (.int 0))) (e2 dIx (aA 0) (e2 dIx (aA 2) (eC (.int 0)))))))
def qJ:List D->R D:=dC 2 3 aC5
def wV(st:PSt):R D:=(aA 6) st
def wW(st:PSt):R D:=(aN fY (aC (e2 dIx (aA 2) (aA 6)) (aC (aA 4) (aR)))) st
def pQ(st:PSt):R Fl:=(bG (cR 5 (aN jP (aC (cC [6] (tgN 6) (itE (aN cD (aC (e2 dIx (aA 2) (aA 4)) (aR)))) (wW) (wV)) (aR)))) (sIf (qG (e2 jA (aA 5) (kI 3)) (aN qJ (aC (aA 0) (aC (aA 5) (aR))))) (aAi 3 (aA 5)) (cZ))) st
def aAr:Bd:=bG (cR 2 (aN jQ (aC (aA 0) (aC (aA 1) (aR))))) (bG (pY 3 (fQ (aR))) (bG (tQ (tgN 4) (itE (aN cD (aC (aA 1) (aR)))) (pQ)) (sFz [3] (cM (aA 3)))))
def oK:List D->R D:=dC 2 7 aAr
def aC6:Bd:=cM (aN oK (aC (e1 (nM "Machine" "steps") (aA 0)) (aC (aA 1) (aR))))
def jR:List D->R D:=dC 2 2 aC6
def aEm:Bd:=cM (aN jP (aC (e1 aC2 (e1 (nM "Machine" "many") (aA 0))) (aR)))
def pL:List D->R D:=dC 1 1 aEm
def aEn:Bd:=cM (e2 dIx (aN jQ (aC (e1 (nM "Machine" "steps") (aA 0)) (aC (aN pL (aC (aA 0) (aR))) (aR)))) (aA 1))
def sH:List D->R D:=dC 2 2 aEn
def aAs:Bd:=cM (aN jR (aC (aA 0) (aC (aN sH (aC (aA 0) (aC (eC (.int 0)) (aR)))) (aR))))
def oM:List D->R D:=dC 1 1 aAs
def qK(st:PSt):R D:=(e2 dIx (e1 (nM "Machine" "ranks") (aA 0)) (aA 2)) st
def aB8:Bd:=bG (sIf (e2 dEq (aA 1) (eC (.int 0))) (qQ) (cZ)) (cM (e1 aEh (cC [2] (tgN 2) (itE (aN cD (aC (aA 1) (aR)))) dM (qK))))
def qW:List D->R D:=dC 2 3 aB8
def aDj:Bd:=cM (e2 dEq (e2 qF (aN qW (aC (aA 0) (aC (aA 1) (aR)))) (eC (.int 2))) (eC (.int 0)))
def gD:List D->R D:=dC 2 2 aDj
def wX(st:PSt):R D:=(aA 3) st
def wY(st:PSt):R D:=(e2 dNe (e2 dIx (e1 (nM "Machine" "ranks") (aA 0)) (aA 3)) (aA 2)) st
def aAt:Bd:=bG (cR 2 (aN qW (aC (aA 0) (aC (aA 1) (aR))))) (cM (aN jP (aC (cC [3] (tgN 3) (itE (aN cD (aC (aA 1) (aR)))) (wY) (wX)) (aR))))
def oN:List D->R D:=dC 2 4 aAt
def wZ(st:PSt):R Fl:=(sIf (e2 dEq (aN gD (aC (aA 0) (aC (aA 5) (aR)))) (aN gD (aC (aA 0) (aC (aA 1) (aR))))) (aAi 3 (aA 5)) (aAi 2 (aA 5))) st
def xF(st:PSt):R Fl:=(bG (aQh 4 3 oN (aA 0)) (tQ (tgN 5) (itE (aN jR (aC (aA 0) (aC (aA 4) (aR))))) (wZ))) st
def xG(st:PSt):R D:=(e2 dNe (kI 3) (fQ (aR))) st
def aAu:Bd:=bG (pY 2 (fQ (aR))) (bG (pY 3 (fQ (aC (aA 1) (aR)))) (bG (aG1 100000 (xG) (xF)) (sFz [2] (cM (aA 2)))))
def iT:List D->R D:=dC 2 6 aAu
def pR(rec:List D->R D)(st:PSt):R Fl:=(bG (cR 5 (aN rec (aC (aA 0) (aC (aA 4) (aC (aA 2) (aR)))))) (sIf (e2 dGe (e1 dG (aA 5)) (e1 dG (aA 3))) (cR 3 (e2 nJ (aA 5) (fQ (aC (aA 1) (aR))))) (cZ))) st
def tR(rec:List D->R D):Bd:=bG (cR 3 (eIf (e2 dEq (aN gD (aC (aA 0) (aC (aA 1) (aR)))) (aA 2)) (fQ (aC (aA 1) (aR))) (fQ (aR)))) (bG (tQ (tgN 4) (itE (aN iT (aC (aA 0) (aC (aA 1) (aR))))) ((pR rec))) (cM (aA 3)))
def jC:Nat->List D->R D
 |0=>dC 3 6 qQ
 |n+1=>dC 3 6 (tR (jC n))
def lC:List D->R D:=jC 12
def oO(st:PSt):R Fl:=(sIf (qG (e2 dIn (aA 8) (aA 2)) (e2 jA (aA 8) (kI 3))) (bG (sDPut 3 (aA 8) (e2 nJ (e2 dIx (kI 3) (aA 6)) (aA 7))) (aAi 4 (aA 8))) (cZ)) st
def aAv(st:PSt):R Fl:=(bG (cR 6 (e2 dIx (kI 4) (aA 5))) (bG (tQ (tgT [7,8]) (bBp (eC (.str [97,98,99])) (e2 dIx (aA 0) (aA 6))) (oO)) (cR 5 (e2 nJ (aA 5) (eC (.int 1)))))) st
def tU(st:PSt):R D:=(e2 aOb (aA 5) (e1 dG (kI 4))) st
def yO:Bd:=bG (aOa 3 (aA 1) (eC (.str []))) (bG (pY 4 (fQ (aC (aA 1) (aR)))) (bG (cR 5 (eC (.int 0))) (bG (aG1 100000 (tU) (aAv)) (sFz [3] (cM (aA 3))))))
def jD:List D->R D:=dC 3 9 yO
def jT:Bd:=bG (cR 1 (aN jD (aC (e1 (nM "Machine" "steps") (aA 0)) (aC (eC (.int 0)) (aC (e1 aC2 (e1 (nM "Machine" "many") (aA 0))) (aR)))))) (cZ)
def aF9:Bd:=yI jT (e1 aG3 (aA 1))
def iJ:List D->R D:=dC 1 2 aF9
def aDk:Bd:=cM (e2 dEq (aN jR (aC (aA 0) (aC (aA 1) (aR)))) (fQ (aC (aA 1) (aR))))
def uP:List D->R D:=dC 2 2 aDk
def aLo:Bd:=bG (sIf (pI (aN fY (aC (aA 1) (aC (aA 2) (aR))))) (cM (eC .non)) (cZ)) (cM (aV4 (aN jD (aC (e1 (nM "Machine" "steps") (aA 0)) (aC (aA 2) (aC (aN cD (aC (aA 1) (aR))) (aR))))) (aA 3) (eC .non)))
def pM:List D->R D:=dC 4 4 aLo
def gF(st:PSt):R Fl:=(bG (cR 1 (e2 dIx (e2 dIx (e1 (nM "Machine" "steps") (aA 0)) (aA 1)) (eMt aLk (eC (.str [97,98,99])) (aC (aA 4) (aR))))) (aAi 3 (aA 1))) st
def dH:Bd:=bG (pY 3 (fQ (aC (aA 1) (aR)))) (bG (tQ (tgN 4) (itE (aA 2)) (gF)) (cZ))
def xQ:Bd:=aC0 dH 3
def cT:List D->R D:=dC 3 5 xQ
def aC7(st:PSt):R Fl:=(sIf (e2 jA (aA 5) (aLl "Machine" "rooms_along" (cT) [] (aA 0) (aC (aA 2) (aC (aA 3) (aR))))) (bG (cR 3 (e2 nJ (aA 3) (aN pM (aC (aA 0) (aC (aA 1) (aC (aA 4) (aC (aA 5) (aR)))))))) (cR 4 (aA 5))) (cZ)) st
def aG5:Bd:=bG (sIf (pI (aN uP (aC (aA 0) (aC (aA 1) (aR))))) (qQ) (cZ)) (bG (sIf (pI (aN fY (aC (aA 1) (aC (aA 2) (aR))))) (qQ) (cZ)) (bG (sIf (e2 dEq (aN cD (aC (aA 1) (aR))) (fQ (aC (aA 2) (aR)))) (cM (e2 dIx (eC (.str [97,98,99])) (eMt aQg (e2 dIx (e1 (nM "Machine" "steps") (aA 0)) (aA 2)) (aC (aA 2) (aR))))) (cZ)) (bG (cR 3 (eC (.str []))) (bG (cR 4 (aA 2)) (bG (tQ (tgN 5) (itE (aN cD (aC (aA 1) (aR)))) (aC7)) (cM (e2 nJ (aA 3) (aN pM (aC (aA 0) (aC (aA 1) (aC (aA 4) (aC (aA 2) (aR)))))))))))))
def nU:List D->R D:=dC 3 6 aG5
def aEo(st:PSt):R D:=(aA 5) st
def aEp(st:PSt):R D:=(aN fY (aC (e2 dIx (aA 1) (eC (.int 0))) (aC (e2 dIx (aA 5) (eC (.int 0))) (aR)))) st
def sI(st:PSt):R D:=(aN nU (aC (aA 0) (aC (aA 6) (aC (aA 3) (aR))))) st
def aIo:Bd:=bG (cR 2 (cC [5] (tgN 5) (itE (aN iJ (aC (aA 0) (aR)))) (aEp) (aEo))) (bG (cR 3 (e2 dIx (e2 dIx (aA 2) (eC (.int 0))) (eC (.int 0)))) (bG (cR 4 (e2 dIx (e2 dIx (aA 2) (eC (.int 0))) (eC (.int 1)))) (cM (aZ4 (aC (aA 4) (aC (cC [6] (tgN 6) (itE (aA 1)) dM (sI)) (aR)))))))
def qO:List D->R D:=dC 2 7 aIo
def jU(st:PSt):R Fl:=(bG (cR 4 (aN lC (aC (aA 0) (aC (aA 3) (aC (aA 1) (aR)))))) (sIf (e2 dGt (e1 dG (aA 4)) (e1 dG (aA 2))) (cR 2 (aA 4)) (cZ))) st
def yP:Bd:=bG (cR 2 (fQ (aR))) (bG (tQ (tgN 3) (itE (aN oM (aC (aA 0) (aR)))) (jU)) (cM (eIf (e2 dNe (aA 2) (fQ (aR))) (aN qO (aC (aA 0) (aC (aA 2) (aR)))) (eC .non))))
def dZ:List D->R D:=dC 2 5 yP
def aQi:Bd:=cM (aZ4 (aC (aN dZ (aC (aA 0) (aC (eC (.bl true)) (aR)))) (aC (aN dZ (aC (aA 0) (aC (eC (.bl false)) (aR)))) (aR))))
def vP:List D->R D:=dC 1 1 aQi
def oR(st:PSt):R D:=(aA 1) st
def oU(st:PSt):R D:=(e2 dEq (e2 aC3 (e2 aDf (aA 0) (aA 1)) (eC (.int 1))) (eC (.int 1))) st
def aEq:Bd:=cM (e1 dG (cC [1] (tgN 1) (xP (eC (.int 8))) (oU) (oR)))
def fV:List D->R D:=dC 1 2 aEq
def vQ(st:PSt):R D:=(e2 dIx (aA 0) (aA 2)) st
def vR(st:PSt):R D:=(e2 dEq (e2 aC3 (e2 aDf (aA 1) (aA 2)) (eC (.int 1))) (eC (.int 1))) st
def aB9:Bd:=cM (e1 aEh (cC [2] (tgN 2) (xP (e1 dG (aA 0))) (vR) (vQ)))
def nW:List D->R D:=dC 2 3 aB9
def eY(st:PSt):R D:=(e2 dEq (e2 dOr (aA 7) (aA 4)) (aA 4)) st
def eZ(st:PSt):R D:=(e2 dNe (e2 qF (aN nW (aC (aA 1) (aC (aA 7) (aR)))) (eC (.int 2))) (aA 5)) st
def gG(st:PSt):R Fl:=(bG (cR 5 (e2 qF (aN nW (aC (aA 1) (aC (aA 4) (aR)))) (eC (.int 2)))) (bG (cR 6 (e1 aZe (e2 dEq (aA 5) (aA 2)))) (bG (aV5 3 7 6 eY eZ) (sDPut 3 (aA 4) (aA 6))))) st
def fB(st:PSt):R D:=(e2 dIx (kI 3) (aA 4)) st
def yQ:Bd:=bGd λout=>bG (aIh 3 false) (bG (wU (tgN 4) (aA 0) fV (gG) out) (cM (e1 (aIn 0) (cC [4] (tgN 4) (itE (aA 0)) dM (fB)))))
def jE:List D->R D:=dC 3 8 yQ
def aG6(st:PSt):R D:=(aA 3) st
def aG7(st:PSt):R D:=(e2 jA (aA 3) (aA 1)) st
def yR(st:PSt):R Fl:=(sIf (eOr (pI (eB aZ2 (aA 2))) (eOr (e2 dEq (aA 2) (eC (.str []))) (e2 dNe (cC [3] (tgN 3) (itE (aA 2)) (aG7) (aG6)) (fQ (aR))))) (cM (eC (.bl false))) (cZ)) st
def aC8:Bd:=bG (sIf (eOr (pI (eB aO7 (aA 0))) (e2 dEq (aA 0) (fQ (aR)))) (cM (eC (.bl false))) (cZ)) (bG (tQ (tgN 2) (itE (aA 0)) (yR)) (cM (eC (.bl true))))
def mC:List D->R D:=dC 2 4 aC8
def aC9(st:PSt):R Fl:=(bG (cR 1 (e2 dIx (e2 dIx (aA 0) (aA 1)) (eMt aFy (eC (.str [97,98,99])) (aC (aA 4) (aR))))) (aAi 3 (aA 1))) st
def aG8:Bd:=bG (pY 3 (fQ (aR))) (bG (tQ (tgN 4) (itE (aA 2)) (aC9)) (sFz [3] (cM (aA 3))))
def nY:List D->R D:=dC 3 5 aG8
def qX(st:PSt):R D:=(aA 9) st
def qY(st:PSt):R D:=(e2 jA (aA 9) (aA 4)) st
def lH(st:PSt):R D:=(aA 10) st
def lJ(st:PSt):R D:=(e2 jA (aA 10) (aA 8)) st
def gZ(st:PSt):R D:=(e2 dIx (aA 1) (aA 10)) st
def qZ(st:PSt):R Fl:=(bG (cR 8 (aN nY (aC (aA 0) (aC (aA 5) (aC (aA 7) (aR)))))) (bG (sIf (eOr (e2 dNe (e2 dIx (aA 8) (e1 aUr (eC (.int 1)))) (aA 5)) (e2 dNe (cC [10] (tgN 10) (itE (aA 6)) (lJ) (lH)) (fQ (aR)))) (cM (eC (.bl false))) (cZ)) (bG (sIf (e2 dNe (e2 qF (e1 aEh (cC [10] (tgN 10) (itE (aA 8)) dM (gZ))) (eC (.int 2))) (aA 3)) (cM (eC (.bl false))) (cZ)) (bG (cR 6 (aA 8)) (cR 3 (e2 aUq (eC (.int 1)) (aA 3))))))) st
def uQ:Bd:=bG (sIf (eOr (pI (eB aZ3 (aA 2))) (eOr (e2 dNe (e1 dG (aA 2)) (eC (.int 2))) (pI (eB aZ2 (e2 dIx (aA 2) (eC (.int 0))))))) (cM (eC (.bl false))) (cZ)) (bG (cR 4 (eSl (eC (.str [97,98,99])) (aQ5) (aQ6 (e1 dG (e2 dIx (aA 0) (eC (.int 0))))))) (bG (sIf (eOr (e2 dNe (cC [9] (tgN 9) (itE (e2 dIx (aA 2) (eC (.int 0)))) (qY) (qX)) (fQ (aR))) (pI (aN mC (aC (e2 dIx (aA 2) (eC (.int 1))) (aC (aA 4) (aR)))))) (cM (eC (.bl false))) (cZ)) (bG (cR 5 (e2 dIx (e2 nJ (fQ (aC (eC (.int 0)) (aR))) (aN nY (aC (aA 0) (aC (eC (.int 0)) (aC (e2 dIx (aA 2) (eC (.int 0))) (aR)))))) (e1 aUr (eC (.int 1))))) (bG (cR 6 (fQ (aR))) (bG (tQ (tgN 7) (itE (e2 dIx (aA 2) (eC (.int 1)))) (qZ)) (cM (eC (.bl true))))))))
def gH:List D->R D:=dC 4 11 uQ
def nZ:Bd:=cM (qG (eB aO7 (aA 0)) (qG (e2 dGe (e1 dG (aA 0)) (eC (.int 1))) (e2 dLe (e1 dG (aA 0)) (aA 1))))
def dO:List D->R D:=dC 2 2 nZ
def aBa:Bd:=cM (qG (eB isIn (aA 0)) (pI (eB bD1 (aA 0))))
def oA:List D->R D:=dC 1 1 aBa
def aBb:Bd:=cM (qG (aN oA (aC (aA 0) (aR))) (qG (e2 dGe (aA 0) (eC (.int 0))) (e2 aOb (aA 0) (aA 1))))
def rA:List D->R D:=dC 2 2 aBb
def aBc(st:PSt):R D:=(aN rA (aC (aA 3) (aC (aA 2) (aR)))) st
def aG9:Bd:=cM (qG (e2 dEq (e1 dG (aA 0)) (aA 1)) (e1 aF8 (cC [3] (tgN 3) (itE (aA 0)) dM (aBc))))
def aCa:List D->R D:=dC 3 4 aG9
def tV(st:PSt):R D:=(aN dO (aC (aA 1) (aC (eC (.int 3)) (aR)))) st
def tW(st:PSt):R D:=(aN aCa (aC (aA 1) (aC (e1 dG (e2 dIx (aA 0) (eC (.int 0)))) (aC (e1 dG (aA 0)) (aR))))) st
def yS:Bd:=bG (sIf (pI (aN dO (aC (aA 0) (aC (eC (.int 8)) (aR))))) (cM (eC (.bl false))) (cZ)) (bG (sIf (pI (e1 aF8 (cC [1] (tgN 1) (itE (aA 0)) dM (tV)))) (cM (eC (.bl false))) (cZ)) (cM (e1 aF8 (cC [1] (tgN 1) (itE (aA 0)) dM (tW)))))
def sJ:List D->R D:=dC 1 2 yS
def tX(st:PSt):R D:=(qG (aN oA (aC (aA 2) (aR))) (e2 dGe (aA 2) (eC (.int 0)))) st
def yU:Bd:=bG (sIf (eOr (pI (eB aO7 (aA 0))) (e2 dNe (e1 dG (aA 0)) (aA 1))) (cM (eC (.bl false))) (cZ)) (cM (e1 aF8 (cC [2] (tgN 2) (itE (aA 0)) dM (tX))))
def sO:List D->R D:=dC 2 3 yU
def jF(st:PSt):R D:=(e1 aIl (aA 3)) st
def fD:Bd:=bG (sIf (pI (aN sJ (aC (aA 1) (aR)))) (qQ) (cZ)) (bG (sIf (pI (aN sO (aC (aA 2) (aC (e1 dG (aA 1)) (aR))))) (qQ) (cZ)) (bG (aIi 0 "Machine" "steps" (cC [3] (tgN 3) (itE (aA 1)) dM (jF))) (bG (aIi 0 "Machine" "ranks" (e1 aIl (aA 2))) (bG (aIi 0 "Machine" "many" (e1 dG (aA 1))) (aIi 0 "Machine" "letters" (e1 dG (e2 dIx (aA 1) (eC (.int 0)))))))))
def iB:List D->R D:=aJy "Machine" 2 4 fD
def aQj(st:PSt):R D:=(e1 aIl (aA 10)) st
def aQk(st:PSt):R Fl:=(bG (cR 9 (aN jE (aC (aA 2) (aC (aA 8) (aC (aA 4) (aR)))))) (bG (cR 6 (e2 dIx (aA 3) (aA 4))) (bG (sIf (qG (e2 dEq (aA 9) (eC (.int 0))) (e2 aFz (aA 6) (eC .non))) (cM (eC (.bl false))) (cZ)) (bG (sIf (qG (e2 dGt (aA 9) (eC (.int 0))) (pI (aN gH (aC (aA 7) (aC (aA 8) (aC (aA 6) (aC (aA 4) (aR)))))))) (cM (eC (.bl false))) (cZ)) (sIf (qG (e2 dGt (aA 9) (eC (.int 0))) (e2 dNe (e1 dG (e2 dIx (aA 6) (eC (.int 1)))) (aA 9))) (cM (eC (.bl false))) (cZ)))))) st
def aFe(st:PSt):R D:=(e2 dIx (aA 6) (eC (.int 1))) st
def aFf(st:PSt):R D:=(e2 aFz (aA 6) (eC .non)) st
def aQl:Bd:=bG (bFv (tgT [7,8]) (aN jB (aC (aA 0) (aC (eC (.int 0)) (aC (eC (.int 8)) (aR)))))) (bG (cR 1 (aN iB (aC (cC [10] (tgN 10) (itE (aA 7)) dM (aQj)) (aC (e1 aIl (aA 8)) (aR))))) (bG (cR 2 (aN rZ (aC (aA 7) (aR)))) (bG (cR 3 (aN vP (aC (aA 1) (aR)))) (bG (sIf (eOr (pI (eB aZ3 (aA 3))) (e2 dNe (e1 dG (aA 3)) (eC (.int 2)))) (cM (eC (.bl false))) (cZ)) (bG (tQ (tgN 4) (itE (fQ (aC (eC (.int 0)) (aC (eC (.int 1)) (aR))))) (aQk)) (bG (aK1 3 6 5) (cM (e2 dEq (cC [6] (tgN 6) (itE (aN vP (aC (aA 1) (aR)))) (aFf) (aFe)) (aA 5)))))))))
def aIp:List D->R D:=bGe 1 11 aQl
end
@[simp] theorem aLp(x:List D):aF8 (.lst x)=(bls x).bind λl=>.ok (.bl (l.all id)):=rfl
@[simp] theorem bF1(x:List D):aIl (.lst x)=.ok (.lst x):=rfl
def aV7{x:List D}{l:List Bool}(h:x=l.map D.bl)(ht:∀b∈l,b=true):aF8 (.lst x)=.ok (.bl true):=by
 subst h;rw[aLp,aQf];have:l.all id=true:=bLk.mpr λb hb=>by simp[ht b hb]
 simp[this]
def Ltr(m:Int)(x:List Nat):Prop:=∀c∈x,97<=c/\(c:Int)<97+m
def aM{a b:Bd}{st:PSt}{r:R Fl}(h:a st=.ok (.nx st'))(h2:b st'=r):bG a b st=r:=by
 rw[aQc,h];exact h2
def iM{a b:Bd}{st:PSt}{r:R Fl}(h:a st=.ok (.nx st))(h2:b st=r):bG a b st=r:=aM h h2
def aGa{a b:Bd}{st:PSt} (h:a st=.ok (.rt d)):bG a b st=.ok (.rt d):=by
 rw[aQc,h];rfl
def cB{b:Bd} {d:D} (h:ds.length=np) (hb:b (ds.map (λd=>some (.v d))++List.replicate (n-np) none)=.ok (.rt d)):dC np n b ds=.ok d:=by
 rw[aZd h,hb];rfl
def yV(n:Nat):fU 0 n=(List.range n).map λ(k:Nat)=>D.int (k:Int):=by
 unfold fU;refine bK8 λk _=>?_
 rw[bOq]
theorem aGb{L:Bd}{j:Nat}(S:Option Sl->PSt)(hset:∀x d,(S x).set j (some (.v d))=S (some (.v d)))(p:Nat->Bool)(r:Nat->D):∀(ks:List Nat),(∀k∈ks,L (S (some (.v (.int (k:Int)))))=if p k=true then .ok (.rt (r k)) else .ok (.nx (S (some (.v (.int (k:Int)))))))->
  ∀x,∃x',forR (tgN j) L (ks.map λ(k:Nat)=>D.int (k:Int)) (S x)=match ks.find? p with|some k=>.ok (.rt (r k))|none=>.ok (.nx (S x'))
 |[],_,x=>⟨x,rfl⟩
 |k::ks,hb,x=>by
  have h0:=hb k bIm;rw[bJ5,nQ];simp only[bD4,aH,hset,h0]
  by_cases hp:p k=true
  .refine⟨x,?_⟩;rw[bIv hp,bM2 hp];rfl
  .obtain⟨x',e⟩:=aGb S hset p r ks (λk hk=>hb k (bIl _ hk)) (some (.v (.int (k:Int))))
   refine⟨x',?_⟩;rw[bIt hp,bM3 hp];exact e
theorem aA3{tg:Tg}{c f:Ex}{st:PSt}(g:D->D):∀(ds:List D),(∀d∈ds,∃s1,tg d st=.ok s1/\c s1=.ok (.bl true)/\f s1=.ok (g d))->iI tg c f st ds=.ok (ds.map g)
 |[],_=>rfl
 |d::ds,h=>by
  obtain⟨s1,e1,e2,e3⟩:=h d bIm;rw[vK,e1];simp only[aH,e2,nO,if_true,e3,aA3 g ds λd hd=>h d (mem_cons_of_mem _ hd),map_cons]
def bU{st:PSt} (h:f st=.ok d):cR i f st=.ok (.nx (st.set i (some (.v d)))):=by rw[aQd,h,aH]
def sS{st:PSt} (h:f st=.ok (.lst xs)):pY i f st=.ok (.nx (st.set i (some (.o .l xs)))):=by rw[aUy,h,aH]
def aW{r:Exs}{st:PSt} {x:R D} (h:r st=.ok ds) (hp:p ds=x):aN p r st=x:=by rw[aUv,h,aH,hp]
def aP{op:Op2} {st:PSt} {x:D} {z:R D} (hf:f st=.ok x) (hg:g st=.ok y) (h:op x y=z):e2 op f g st=z:=by rw[aEf,hf,aH,hg,aH,h]
def aBd{c:Ex}{a b:Bd}{st:PSt}{r:R Fl}(h:c st=.ok (.bl true))(ha:a st=r):sIf c a b st=r:=by rw[aO9,h,aH,nO,bIv rfl,ha]
def mZ{c:Ex}{a b:Bd}{st:PSt}{r:R Fl}(h:c st=.ok (.bl false))(hb:b st=r):sIf c a b st=r:=by rw[aO9,h,aH,nO,bIt bJn,hb]
def pU{st:PSt}{p q:Bool}(hf:f st=.ok (.bl p))(hg:p=true->g st=.ok (.bl q)):qG f g st=.ok (.bl (p&&q)):=by
 rw[aQa,hf,aH,nO];cases p with
 |true=>rw[bIv rfl,hg rfl];rfl
 |false=>rfl
def yW{st:PSt}{p q:Bool}(hf:f st=.ok (.bl p))(hg:p=false->g st=.ok (.bl q)):eOr f g st=.ok (.bl (p||q)):=by
 rw[bD2,hf,aH,nO];cases p with
 |true=>rfl
 |false=>rw[bIt bJn,hg rfl];rfl
def rB{st:PSt}{p:Bool}(hf:f st=.ok (.bl p)):pI f st=.ok (.bl (!p)):=by rw[aQb,hf,aH,nO]
def dR{st:PSt} (h:f st=.ok d):cM f st=.ok (.rt d):=by rw[qH,h,aH]
def jG{tg:Tg} {st:PSt} {r:R Fl} (h:it st=.ok xs) (hr:forR tg L xs st=r):tQ tg it L st=r:=by rw[aQe,h,aH,hr]
def bV{r:Exs}{st:PSt}{d:D} (h:f st=.ok d) (hr:r st=.ok ds):aC f r st=.ok (d::ds):=by rw[aUu,h,aH,hr,aH]
def eQ{r:Exs}{st:PSt} (h:r st=.ok ds) (hl:ds.length<=1000:=by exact bJi rfl):fQ r st=.ok (.lst ds):=by rw[aZ7,h,aH,aF (dN (bJj hl (by decide)))]
def aBe{i j:Int}(h:0<j):qF (.int i) (.int j)=.ok (.int (i%j)):=aF h
def aK2{i j:Int}(h:0<j/\j<1073741824):aFx (.int i) (.int j)=.ok (.int (i/j)):=aF h
def aDl(i j:Int):dEq (.int i) (.int j)=.ok (.bl (decide (i=j))):=by
 have:(i==j)=decide (i=j):=by by_cases h:i=j<;>simp[h]
 rw[<-this];exact aF ⟨bK6 64,rfl,rfl⟩
def yX(i j:Int):dNe (.int i) (.int j)=.ok (.bl (!decide (i=j))):=by
 have:(i==j)=decide (i=j):=by by_cases h:i=j<;>simp[h]
 rw[<-this];exact aF ⟨bK6 64,rfl,rfl⟩
def yZ{st:PSt} (h:f st=.ok d) (hs:st[i]?=some (some (.o .l xs))) (hl:xs.length<1000000):aAi i f st=.ok (.nx (st.set i (some (.o .l (xs++[d]))))):=by
 rw[aZ9,h,aH,hs];exact aF (aJx (bOp hl (by decide)))
def aV8{st:PSt} (h:f st=.ok (.int n)) (hn:n<=1000000):xP f st=.ok ((List.range n).map λ(k:Nat)=>D.int (k:Int)):=by
 rw[aZ8,h,aH,<-yV];exact aF ⟨aBy (by omega),rT (by omega)⟩
def jV{E C:Ex}{is:List Nat}{tg:Tg} {st:PSt} (h:it st=.ok xs) (hl:xs.length<=1000000) (hc:iI tg C E (clr is st) xs=.ok ys):cC is tg it C E st=.ok (.lst ys):=by
 rw[yF,h,aH,aF (dN (bJj hl (by decide))),hc,aH]
def aGc{c:Ex}{b:Bd}{st:PSt} {r:R Fl} (hc:c st=.ok (.bl true)) (hb:b st=.ok (.nx st')) (hr:lG c b n st'=r):lG c b (n+1) st=r:=by
 rw[aEg,hc,aH,nO,bIv rfl,hb];exact hr
def aA4{c:Ex}{b:Bd}{st:PSt} (hc:c st=.ok (.bl false)):lG c b (n+1) st=.ok (.nx st):=by rw[aEg,hc,aH,nO,bIt bJn]
def kW{tg:Tg} {d:D} {st s2:PSt} {r:R Fl} (ht:tg d st=.ok s1) (hL:L s1=.ok (.nx s2)) (hr:forR tg L ds s2=r):forR tg L (d::ds) st=r:=by
 rw[nQ,ht,aH,hL];exact hr
def mF{i:Int} (h:atI xs i=some d):dIx (.lst xs) (.int i)=.ok d:=by
 show ofO (atI xs i)=_;rw[h];rfl
def bD8{p q:Nat}(h:p<q):decide ((p:Int)<(q:Int))=true:=bIr (by omega)
def bD9{p q:Nat}(h:¬ p<q):decide ((p:Int)<(q:Int))=false:=bIs (by omega)
def iV{r:R D}{p q:Bool}(h:r=.ok (.bl p))(e:p=q):r=.ok (.bl q):=by rw[h,e]
def uR{st:PSt} (h:f st=.ok (.lst xs)):itE f st=.ok xs:=by rw[aO8,h,aH]
def nats(l:List Nat):List D:=l.map λ(x:Nat)=>D.int (x:Int)
structure Mch(S:List (List Nat))(rk:List Nat)(c:Nat):Prop where
 one:1<=S.length
 most:S.length<=8
 c1:1<=c
 c3:c<=3
 row:∀r∈S,r.length=c/\∀x∈r,x<S.length
 rks:rk.length=S.length
def stD(S:List (List Nat)):List D:=S.map λr=>D.lst (nats r)
theorem aLq{tg:Tg}{c f:Ex}{st:PSt}{P:D->D->Prop}:∀(ds:List D),(∀d∈ds,∃s1 y,tg d st=.ok s1/\c s1=.ok (.bl true)/\f s1=.ok y/\P d y)->∃ys,iI tg c f st ds=.ok ys/\ys.length=ds.length/\∀y∈ys,∃d∈ds,P d y
 |[],_=>⟨[],rfl,rfl,λ_ h=>nomatch h⟩
 |d::ds,h=>by
  obtain⟨s1,y,e1,e2,e3,e4⟩:=h d bIm;obtain⟨ys,e5,e6,e7⟩:=aLq ds λd hd=>h d (bIl _ hd)
  refine⟨y::ys,?_,by simp[e6],λz hz=>?_⟩
  .rw[vK,e1];simp[e2,e3,e5]
  .rcases bIq.mp hz with rfl|hz
   .exact⟨d,bIm,e4⟩
   .obtain⟨d',h1,h2⟩:=e7 z hz;exact⟨d',bIl _ h1,h2⟩
def aOd{lo:Int} (h:d∈fU lo n):∃k:Nat,k<n/\d=.int (lo+k):=by
 unfold fU at h;obtain⟨k,h1,h2⟩:=bJe.mp h;exact⟨k,bJp.mp h1,h2.symm⟩
theorem aQm:∀(ys:List D)(n:Int),(∀y∈ys,∃i:Int,y=.int i/\0<=i/\i<n)->∃r:List Nat,ys=nats r/\∀x∈r,(x:Int)<n
 |[],_,_=>⟨[],rfl,λ_ h=>nomatch h⟩
 |y::ys,n,h=>by
  obtain⟨i,rfl,h0,h1⟩:=h y bIm;obtain⟨r,rfl,h2⟩:=aQm ys n λy hy=>h y (bIl _ hy)
  refine⟨i.toNat::r,?_,λx hx=>?_⟩
  .unfold nats;rw[bJ5,bLo h0]
  .rcases bIq.mp hx with rfl|hx
   .rw[bLo h0];exact h1
   .exact h2 x hx
def aV9{E:Ex}{st:PSt}{v:Nat}{P:D->Prop}(hv:st[v]?=some (some (.v (.int n))))(hn:n<=100000)(hE:∀k:Nat,k<n->∃y,E ((st.set j none).set j (some (.v (.int k))))=.ok y/\P y) :
  ∃ys,cC [j] (tgN j) (xP (aA v)) dM E st=.ok (.lst ys)/\ys.length=n/\∀y∈ys,P y:=by
 obtain⟨ys,e1,e2,e3⟩:=aLq (tg:=tgN j) (c:=dM) (f:=E) (st:=st.set j none) (P:=λ_ y=>P y) (fU 0 n) (λd hd=>by
  obtain⟨k,hk,rfl⟩:=aOd hd;obtain⟨y,h1,h2⟩:=hE k hk;rw[bOq];exact⟨_,y,rfl,rfl,h1,h2⟩)
 rw[aAn]at e2;refine⟨ys,?_,e2,λy hy=>let ⟨_,_,h⟩:=e3 y hy;h⟩
 simp[hv,show (n:Int)<=(big:Int) from rT (by omega),aAn,show n<=big from dN (by omega),e1]
def aIq{E:Ex}{st:PSt}{v:Nat}{m:Int}(hv:st[v]?=some (some (.v (.int n))))(hn:n<=100000)(hE:∀k:Nat,k<n->∃i,E ((st.set j none).set j (some (.v (.int k))))=.ok (.int i)/\0<=i/\i<m) :
  ∃r,cC [j] (tgN j) (xP (aA v)) dM E st=.ok (.lst (nats r))/\r.length=n/\∀x∈r,(x:Int)<m:=by
 obtain⟨ys,e1,e2,e3⟩:=aV9 (P:=λy=>∃i:Int,y=.int i/\0<=i/\i<m) hv hn λk hk=>let ⟨i,h1,h2⟩:=hE k hk;⟨_,h1,i,rfl,h2⟩
 obtain⟨r,rfl,h⟩:=aQm ys m e3;exact⟨r,e1,by rw[<-e2];unfold nats;simp,h⟩
def aZf{xs:List α}{i:Int}(h0:0<=i)(h:i<xs.length):∃a∈xs,atI xs i=some a:=⟨_,bJr _,aV1 h0 h⟩
def aCb{E:Ex}{st:PSt}{v:Nat}{xs:List D}(hv:st[v]?=some (some (.v (.lst xs))))(hl:xs.length<=100000)(h:∀d∈xs,E ((st.set j none).set j (some (.v d)))=.ok (.bl true)):e1 aF8 (cC [j] (tgN j) (itE (aA v)) dM E) st=.ok (.bl true):=by
 have e:=aA3 (tg:=tgN j) (c:=dM) (f:=E) (st:=st.set j none) (λ_=>D.bl true) xs λd hd=>⟨_,rfl,rfl,h d hd⟩
 have e2:xs.map (λ_=>D.bl true)=(xs.map λ_=>true).map D.bl:=by simp
 simp[hv,show xs.length<=big from dN (by omega),e]
 rw[e2,<-aLp];exact aV7 rfl λb hb=>by obtain⟨_,_,z⟩:=bJe.mp hb;exact z.symm
def aIr{E:Ex}{st:PSt}{v:Nat}{xs:List D}(hv:st[v]?=some (some (.v (.lst xs))))(hl:xs.length<=100000)(h:∀d∈xs,E ((st.set j none).set j (some (.v d)))=.ok d):cC [j] (tgN j) (itE (aA v)) dM E st=.ok (.lst xs):=by
 have e:=aA3 (tg:=tgN j) (c:=dM) (f:=E) (st:=st.set j none) id xs λd hd=>⟨_,rfl,rfl,h d hd⟩
 simp[hv,show xs.length<=big from dN (by omega),e]
def aIs(i:Int):oA [.int i]=.ok (.bl true):=by
 unfold oA aBa;simp[isIn,bD1]
def aSp{x:Nat}(h:x<n):rA [.int x,.int n]=.ok (.bl true):=by
 have hw:=aIs x;unfold rA aBb;simp[hw,h]
def aIt(xs:List D)(m:Int):dO [.lst xs,.int m]=.ok (.bl (decide (1<=(xs.length:Int))&&decide ((xs.length:Int)<=m))):=by
 unfold dO nZ
 by_cases h:1<=xs.length
 .have h':(1:Int)<=xs.length:=by omega
  simp[aO7,h,h']
 .have h':¬ (1:Int)<=xs.length:=by omega
  simp[aO7,h,h']
def bF(r:List Nat):(nats r).length=r.length:=by unfold nats;simp
def iW(S:List (List Nat)):(stD S).length=S.length:=by unfold stD;simp
def zA{r:List Nat} (h:d∈nats r):∃x∈r,d=.int (x:Nat):=by
 obtain⟨x,h1,h2⟩:=bJe.mp h;exact⟨x,h1,h2.symm⟩
def aFg{S:List (List Nat)} (h:d∈stD S):∃r∈S,d=.lst (nats r):=by
 obtain⟨x,h1,h2⟩:=bJe.mp h;exact⟨x,h1,h2.symm⟩
def bDa(r:List Nat)(n:Nat)(h:∀x∈r,x<n)(hl:r.length<=1000):aCa [.lst (nats r),.int r.length,.int n]=.ok (.bl true):=by
 have e:=aCb (E:=aBc) (st:=[some (.v (.lst (nats r))),some (.v (.int r.length)),some (.v (.int n)),none]) (j:=3) (v:=0) (xs:=nats r) rfl (by rw[bF];omega) (λd hd=>by
  obtain⟨x,hx,rfl⟩:=zA hd;have:=h x hx;simp[aBc,aSp this])
 refine cB rfl ?_
 unfold aG9;have h1:e2 dEq (e1 dG (aA 0)) (aA 1) [some (.v (.lst (nats r))),some (.v (.int r.length)),some (.v (.int n)),none]=.ok (.bl true):=by simp[bF]
 show cM _ [some (.v (.lst (nats r))),some (.v (.int r.length)),some (.v (.int n)),none]=_;rw[qH,aQa,h1];show (e1 aF8 _ _).bind _=_;rw[e];rfl
def mD(S:List (List Nat))(rk:List Nat)(c:Nat):D:=.ins "Machine" ["steps","ranks","many","letters"] [.lst (stD S),.lst (nats rk),.int S.length,.int c]
section
def Mch.row0(M:Mch S rk c):∃r T,S=r::T/\r.length=c:=by
 cases S with
 |nil=>exact absurd M.one (by simp)
 |cons r T=>exact⟨r,T,rfl,(M.row r bIm).1⟩
def Mch.at0(M:Mch S rk c):∃r,r∈S/\atI (stD S) 0=some (.lst (nats r))/\r.length=c:=by
 obtain⟨r,T,rfl,h⟩:=M.row0;refine⟨r,bIm,?_,h⟩;have:=atI_nat (xs:=stD (r::T)) (i:=0) (by simp[stD])
 simpa [stD] using this
def aVa(M:Mch S rk c):sJ [.lst (stD S)]=.ok (.bl true):=by
 obtain⟨r0,hr0,e0,l0⟩:=M.at0;have h1:=M.one;have h8:=M.most;have f1:=aIt (stD S) 8;rw[iW]at f1;have f1':dO [.lst (stD S),.int 8]=.ok (.bl true):=by rw[f1];congr 2;simp;omega
 have a1:=aCb (E:=tV) (st:=[some (.v (.lst (stD S))),none]) (j:=1) (v:=0) (xs:=stD S) rfl (by rw[iW];omega) (λd hd=>by
  obtain⟨r,hr,rfl⟩:=aFg hd;have f:=aIt (nats r) 3;rw[bF,(M.row r hr).1]at f;have h3:=M.c3;have h0:=M.c1;simp[tV,f];omega)
 have a2:=aCb (E:=tW) (st:=[some (.v (.lst (stD S))),none]) (j:=1) (v:=0) (xs:=stD S) rfl (by rw[iW];omega) (λd hd=>by
  obtain⟨r,hr,rfl⟩:=aFg hd;have h3:=M.c3;have f:=bDa r S.length (M.row r hr).2 (by rw[(M.row r hr).1];omega)
  have el:(nats r0).length=r.length:=by rw[bF,l0,(M.row r hr).1]
  simp[tW,e0,el,iW,f])
 refine cB rfl ?_
 unfold yS;refine iM (by simp[f1']) (iM ?_ ?_)
 .rw[aO9,aQb];show ((e1 aF8 _ [some (.v (.lst (stD S))),none]).bind _).bind _=_;rw[a1];rfl
 .rw[qH];show (e1 aF8 _ [some (.v (.lst (stD S))),none]).bind _=_;rw[a2];rfl
def aVb(M:Mch S rk c):sO [.lst (nats rk),.int S.length]=.ok (.bl true):=by
 have h8:=M.most;have a1:=aCb (E:=tX) (st:=[some (.v (.lst (nats rk))),some (.v (.int S.length)),none]) (j:=2) (v:=0) (xs:=nats rk) rfl (by rw[bF,M.rks];omega) (λd hd=>by
  obtain⟨x,hx,rfl⟩:=zA hd;simp[tX,aIs])
 refine cB rfl ?_
 unfold yU;refine iM (by simp[aO7,bF,M.rks]) ?_
 rw[qH];show (e1 aF8 _ [some (.v (.lst (nats rk))),some (.v (.int S.length)),none]).bind _=_;rw[a1];rfl
def aLr:nM "Machine" "many" (mD S rk c)=.ok (.int S.length):=by unfold mD;rw[aG2,aF rfl];rfl
def qP:nM "Machine" "steps" (mD S rk c)=.ok (.lst (stD S)):=by unfold mD;rw[aG2,aF rfl];rfl
end
section
def aZg(M:Mch S rk c):iB [.lst (stD S),.lst (nats rk)]=.ok (mD S rk c):=by
 obtain⟨r0,hr0,e0,l0⟩:=M.at0;have h8:=M.most;refine aZ6 λx=>?_
 unfold aIj;rw[aF (show ([D.lst (stD S),D.lst (nats rk)]:List D).length=2 from rfl)]
 have hs:=aVa M;have hk:=aVb M;have cp:=aIr (E:=jF) (st:=[some (.o (.i x "Machine" []) []),some (.v (.lst (stD S))),some (.v (.lst (nats rk))),none]) (j:=3) (v:=1) (xs:=stD S) rfl (by rw[iW];omega) (λd hd=>by
  obtain⟨r,hr,rfl⟩:=aFg hd;simp[jF])
 have key:fD [some (.o (.i x "Machine" []) []),some (.v (.lst (stD S))),some (.v (.lst (nats rk))),none]=.ok (.nx [some (.o (.i x "Machine" ["steps","ranks","many","letters"]) [.lst (stD S),.lst (nats rk),.int S.length,.int c]),some (.v (.lst (stD S))),some (.v (.lst (nats rk))),none]):=by
  unfold fD;refine iM (by simp[hs]) (iM (by simp[iW,hk]) ?_)
  refine aM (st':=[some (.o (.i x "Machine" ["steps"]) [.lst (stD S)]),some (.v (.lst (stD S))),some (.v (.lst (nats rk))),none]) ?_ ?_
  .rw[aUz,cp];simp
  refine aM (st':=[some (.o (.i x "Machine" ["steps","ranks"]) [.lst (stD S),.lst (nats rk)]),some (.v (.lst (stD S))),some (.v (.lst (nats rk))),none]) (by simp) ?_
  refine aM (st':=[some (.o (.i x "Machine" ["steps","ranks","many"]) [.lst (stD S),.lst (nats rk),.int S.length]),some (.v (.lst (stD S))),some (.v (.lst (nats rk))),none]) (by simp[iW]) ?_
  simp[e0,bF,l0]
 show (fD [some (.o (.i x "Machine" []) []),some (.v (.lst (stD S))),some (.v (.lst (nats rk))),none]).bind _=_;rw[key];simp[mD]
end
def aDm(x:Nat)(l:List Nat):nats (x::l)=.int (x:Nat)::nats l:=rfl
theorem fG:∀l:List Nat,cQ (nats l)=true/\iH (nats l)=0/\gC (nats l) (nats l)=true
 |[]=>⟨rfl,by unfold nats;simp,by unfold nats;simp[gC]⟩
 |x::l=>by
  obtain⟨h1,h2,h3⟩:=fG l;rw[aDm];refine⟨by simp[h1],by simp[h2],?_⟩
  unfold gC;rw[h3];simp
section
variable{S:List (List Nat)}{rk:List Nat}{c:Nat}
def stp(S:List (List Nat))(q a:Nat):Nat:=(S.getD q []).getD a 0
def aOe(M:Mch S rk c){q a:Nat}(hq:q<S.length)(ha:a<c):∃r,atI (stD S) (q:Int)=some (.lst (nats r))/\atI (nats r) (a:Int)=some (.int (stp S q a))/\stp S q a<S.length:=by
 have hr:=M.row S[q] (bJr hq);have ha':a<S[q].length:=by rw[hr.1];exact ha
 have e:stp S q a=S[q][a]:=by
  simp[stp,getD_eq_getElem?_getD,List.getElem?_eq_getElem hq,List.getElem?_eq_getElem ha']
 refine⟨S[q],?_,?_,?_⟩
 .rw[atI_nat (by rw[iW];exact hq)];simp[stD]
 .rw[atI_nat (by rw[bF];exact ha'),e];simp[nats]
 .rw[e];exact hr.2 _ (bJr ha')
def aLs(h:m<=3){ch:Nat}(h1:97<=ch)(h2:(ch:Int)<97+m):iZ [97,98,99] [ch] 0=some (ch-97):=by
 have:ch=97\/ch=98\/ch=99:=by omega
 rcases this with rfl|rfl|rfl<;>rfl
def aQn(M:Mch S rk c){q ch:Nat}(hq:q<S.length)(h1:97<=ch)(h2:(ch:Int)<97+c):∃r,atI (stD S) (q:Int)=some (.lst (nats r))/\atI (nats r) (((ch-97:Nat)):Int)=some (.int (stp S q (ch-97)))/\stp S q (ch-97)<S.length:=aOe M hq (by omega)
def runs(S:List (List Nat)):Nat->List Nat->List Nat
 |_,[]=>[]
 |q,ch::x=>stp S q (ch-97)::runs S (stp S q (ch-97)) x
def mG(S:List (List Nat)):Nat->List Nat->Nat
 |q,[]=>q
 |q,ch::x=>mG S (stp S q (ch-97)) x
end
theorem jH:∀(n:Nat)(l:List Nat),l.Nodup->(∀x∈l,x<n)->l.length<=n
 |0,l,_,h=>by
  cases l with
  |nil=>exact bIn _
  |cons x l=>exact absurd (h x bIm) (by omega)
 |n+1,l,nd,h=>by
  have ih:=jH n (l.erase n) (nd.erase n) λx hx=>by
   have h1:=h x (List.mem_of_mem_erase hx);have h2:x≠n:=λe=>((nd.mem_erase_iff).mp hx).1 e
   omega
  by_cases hm:n∈l
  .rw[List.length_erase_of_mem hm]at ih;omega
  .rw[List.erase_of_not_mem hm]at ih;omega
def vU(g:Nat)(l:List Nat):inD (.int g) (nats l)=decide (g∈l):=by
 unfold inD nats;rw[bO6]
 by_cases h:g∈l
 .rw[bIr h,bMh];exact⟨g,h,by simp[eqD]⟩
 .rw[bIs h,bM4];intro x hx
  have : ¬ (x : Int) = (g : Int) := fun z => h (by have : x = g := by omega
                                                   rw[<-this];exact hx)
  simp[eqD,this]
def aBf{q:Nat}(hq:q<S.length):atI (stD S) (q:Int)=some (.lst (nats S[q])):=by
 rw[atI_nat (by rw[iW];exact hq)]
 unfold stD;rw[bNr]
section
theorem aGd(M:Mch S rk c)(a t:Option Sl)(ha:a=some (.v (mD S rk c))):∀(x:List Nat)(q:Nat)(acc:List Nat)(l:Option Sl),q<S.length->Ltr c x->acc.length+x.length<=1000000->∃l',forR (tgN 4) gF (x.map λch=>D.str [ch]) [a,some (.v (.int q)),t,some (.o .l (nats acc)),l] =
  .ok (.nx [a,some (.v (.int (mG S q x))),t,some (.o .l (nats (acc++runs S q x))),l'])
 |[],q,acc,l,_,_,_=>⟨l,by simp[mG,runs]⟩
 |ch::x,q,acc,l,h,hx,hl=>by
  rw[bJ7]at hl;obtain⟨h1,h2⟩:=hx ch bIm;obtain⟨r,e1,e2,h3⟩:=aQn M h h1 h2;obtain⟨l',e⟩:=aGd M a t ha x (stp S q (ch-97)) (acc++[stp S q (ch-97)]) (some (.v (.str [ch]))) h3 (λz hz=>hx z (bIl _ hz)) (by rw[bJ8,bJx];omega)
  refine⟨l',?_⟩;have f:=aLs M.c3 h1 h2;have en:nats (acc++[stp S q (ch-97)])=nats acc++[D.int (stp S q (ch-97))]:=by unfold nats;simp
  rw[en]at e;rw[bJ5,nQ,show runs S q (ch::x)=stp S q (ch-97)::runs S (stp S q (ch-97)) x from rfl,show acc++stp S q (ch-97)::runs S (stp S q (ch-97)) x=acc++[stp S q (ch-97)]++runs S (stp S q (ch-97)) x by simp,show mG S q (ch::x)=mG S (stp S q (ch-97)) x from rfl,<-e]
  subst ha;simp[gF,qP,e1,f,e2,bF,show acc.length<big from aJx (by omega)]
def aVc(M:Mch S rk c){q:Nat}(hq:q<S.length)(x:List Nat)(hx:Ltr c x)(hl:x.length<=500000):cT [mD S rk c,.int q,.str x]=.ok (.lst (nats (q::runs S q x))):=by
 obtain⟨l',e⟩:=aGd M _ (some (.v (.str x))) rfl x q [q] none hq hx (by simp;omega)
 refine cB rfl ?_
 have hb:dH [some (.v (mD S rk c)),some (.v (.int q)),some (.v (.str x)),none,none]=.ok (.nx [some (.v (mD S rk c)),some (.v (.int (mG S q x))),some (.v (.str x)),some (.o .l (nats ([q]++runs S q x))),l']):=by
  unfold dH;refine aM (st':=[some (.v (mD S rk c)),some (.v (.int q)),some (.v (.str x)),some (.o .l (nats [q])),none]) (by simp[nats]) (aM (by
   simp[show x.length<=big from dN (by omega)]
   exact e) rfl)
 show aC0 dH 3 [some (.v (mD S rk c)),some (.v (.int q)),some (.v (.str x)),none,none]=_;unfold aC0;rw[hb];rfl
end
def slB(u v:List Nat):Prop:=u.length<v.length\/(u.length=v.length/\u<v)
theorem aVd:∀{u v:List Nat}(a b:Nat),u.length=v.length->u<v->u++[a] < v++[b]
 |[],[],_,_,_,h=>absurd h (List.lt_irrefl _)
 |[],_::_,_,_,h,_=>by simp at h
 |_::_,[],_,_,h,_=>by simp at h
 |x::u,y::v,a,b,h,h2=>by
  rw[bM6,bM6,bLa];rcases bLa.mp h2 with h3|⟨h3,h4⟩
  .exact .inl h3
  .exact .inr ⟨h3,aVd a b (by simpa using h) h4⟩
theorem aQo:∀(u:List Nat){a b:Nat},a<b->u++[a] < u++[b]
 |[],a,b,h=>by
  show [a] < [b];rw[bLa];exact .inl h
 |x::u,a,b,h=>by
  rw[bM6,bM6,bLa];exact .inr ⟨rfl,aQo u h⟩
def aQp{v:List Nat}(a b:Nat)(h:slB u v):slB (u++[a]) (v++[b]):=by
 rcases h with h|⟨h1,h2⟩
 .exact .inl (by rw[bJ8,bJ8];simpa using h)
 .exact .inr ⟨by rw[bJ8,bJ8,h1];rfl,aVd a b h1 h2⟩
def aVe(u:List Nat){a b:Nat}(h:a<b):slB (u++[a]) (u++[b]):=.inr ⟨by simp,aQo u h⟩
def aZh(u:List Nat)(a:Nat):slB [] (u++[a]):=.inl (by simp)
theorem aA5(S:List (List Nat)):∀(x:List Nat)(q ch:Nat),mG S q (x++[ch])=stp S (mG S q x) (ch-97)
 |[],_,_=>rfl
 |y::x,q,ch=>aA5 S x _ ch
def bst(al:Nat->Bool)(acc:List (Nat×List Nat))(g:Nat)(w:List Nat):List (Nat×List Nat):=if al g=true/\g∉acc.map (·.1) then acc++[(g,w)] else acc
structure BM(S:List (List Nat))(s c:Nat)(al:Nat->Bool)(p j:Nat)(acc:List (Nat×List Nat)):Prop where
 nd:(acc.map (·.1)).Nodup
 hd:acc[0]?=some (s,[])
 lt:∀x∈acc,x.1<S.length/\mG S s x.2=x.1/\Ltr c x.2
 par:∀(k:Nat)(x:Nat×List Nat),acc[k]?=some x->1<=k->al x.1=true/\∃q y ch,acc[q]?=some y/\x.2=y.2++[ch]/\(q<p\/(q=p/\ch<97+j))
 ord:∀(i k:Nat)(x y:Nat×List Nat),acc[i]?=some x->acc[k]?=some y->i<k->slB x.2 y.2
 cls:∀(i:Nat)(x:Nat×List Nat)(l:Nat),acc[i]?=some x->l<c->(i<p\/(i=p/\l<j))->al (stp S x.1 l)=true->∃y∈acc,y.1=stp S x.1 l/\(y.2=x.2++[97+l]\/slB y.2 (x.2++[97+l]))
section
variable{S:List (List Nat)}{rk:List Nat}{s c p j:Nat}{al:Nat->Bool}{acc:List (Nat×List Nat)}
def BM.start(hs:s<S.length):BM S s c al 0 0 [(s,[])] where
 nd:=by simp
 hd:=rfl
 lt:=λx hx=>by rw[bIu.mp hx];exact⟨hs,rfl,λ_ h=>nomatch h⟩
 par:=λk x e h=>by
  have:k<1:=(bIk.mp e).1;omega
 ord:=λi k x y e1 e2 h=>by
  have:k<1:=(bIk.mp e2).1;omega
 cls:=λi x l _ _ h=>by omega
def BM.next(b:BM S s c al p c acc):BM S s c al (p+1) 0 acc where
 nd:=b.nd
 hd:=b.hd
 lt:=b.lt
 par:=λk x e h=>by
  obtain⟨h0,q,y,ch,h1,h2,h3⟩:=b.par k x e h;exact⟨h0,q,y,ch,h1,h2,.inl (by omega)⟩
 ord:=b.ord
 cls:=λi x l e hl h ha=>b.cls i x l e hl (by omega) ha
def BM.below(b:BM S s c al p j acc){x y:Nat×List Nat}{k:Nat}(hx:acc[p]?=some x)(hy:acc[k]?=some y):slB y.2 (x.2++[97+j]):=by
 by_cases hk:k=0
 .subst hk;rw[b.hd]at hy;cases hy;exact aZh _ _
 .obtain⟨_,q,z,ch,h1,h2,h3⟩:=b.par k y hy (by omega)
  rw[h2];rcases h3 with h3|⟨rfl,h3⟩
  .exact aQp _ _ (b.ord q p z x h1 hx h3)
  .rw[hx]at h1;cases h1;exact aVe _ h3
def BM.turn(M:Mch S rk c)(b:BM S s c al p j acc){x:Nat×List Nat}(hx:acc[p]?=some x)(hj:j<c):BM S s c al p (j+1) (bst al acc (stp S x.1 j) (x.2++[97+j])):=by
 have hxm:x∈acc:=bJd hx;obtain⟨x1,x2,x3⟩:=b.lt x hxm;have hg:stp S x.1 j<S.length:=by obtain⟨_,_,_,h⟩:=aOe M x1 hj;exact h
 unfold bst
 by_cases hc:al (stp S x.1 j)=true/\stp S x.1 j∉acc.map (·.1)
 .rw[bIv hc];have old:∀{k:Nat}{y:Nat×List Nat},acc[k]?=some y->(acc++[(stp S x.1 j,x.2++[97+j])])[k]?=some y:=λ{k y} e=>by
   rw[bJg (bIk.mp e).1];exact e
  have inv:∀{k:Nat}{y:Nat×List Nat},(acc++[(stp S x.1 j,x.2++[97+j])])[k]?=some y->acc[k]?=some y\/(k=acc.length/\y=(stp S x.1 j,x.2++[97+j])):=λ{k y} e=>by
   by_cases hk:k<acc.length
   .rw[bJg hk]at e;exact .inl e
   .have hlt:=(bIk.mp e).1;rw[bJ8,bJx]at hlt;have:k=acc.length:=by omega
    subst this;rw[bJu (bIn _),bOr]at e;simp at e;exact .inr ⟨rfl,e.symm⟩
  have lt_of:∀{k:Nat}{y:Nat×List Nat},acc[k]?=some y->k<acc.length:=λe=>(bIk.mp e).1
  refine⟨?_,old b.hd,λy hy=>?_,λk y e h=>?_,λi k y z e1 e2 h=>?_,λi y l e hl h ha=>?_⟩
  .rw[bJs,bKh];refine⟨b.nd,by simp,λa ha b' hb=>?_⟩
   rw[bMz,bIu]at hb;rw[hb];show a≠stp S x.1 j;exact λz=>hc.2 (by rw[<-z];exact ha)
  .rcases bJb.mp hy with hy|hy
   .exact b.lt y hy
   .rw[bIu.mp hy];refine⟨hg,?_,λch hch=>?_⟩
    .show mG S s (x.2++[97+j])=_;rw[aA5,x2,show 97+j-97=j by omega]
    .rcases bJb.mp hch with h|h
     .exact x3 ch h
     .rw[bIu.mp h];constructor<;>omega
  .rcases inv e with e|⟨rfl,rfl⟩
   .obtain⟨h0,q,z,ch,h1,h2,h3⟩:=b.par k y e h;exact⟨h0,q,z,ch,old h1,h2,h3.imp id λh=>⟨h.1,by omega⟩⟩
   .exact⟨hc.1,p,x,97+j,old hx,rfl,.inr ⟨rfl,by omega⟩⟩
  .rcases inv e2 with e2|⟨rfl,rfl⟩
   .rcases inv e1 with e1|⟨rfl,_⟩
    .exact b.ord i k y z e1 e2 h
    .have:=lt_of e2;omega
   .rcases inv e1 with e1|⟨rfl,_⟩
    .exact b.below hx e1
    .omega
  .rcases inv e with e'|⟨rfl,rfl⟩
   .by_cases hip:i=p/\l=j
    .obtain⟨rfl,rfl⟩:=hip;rw[hx]at e';cases e';exact⟨_,bIo _ (bIu.mpr rfl),rfl,.inl rfl⟩
    .obtain⟨z,h1,h2⟩:=b.cls i y l e' hl (by omega) ha
     exact⟨z,bIw _ h1,h2⟩
   .have:=lt_of hx;omega
 .rw[bIt hc];refine⟨b.nd,b.hd,b.lt,λk y e h=>?_,b.ord,λi y l e hl h ha=>?_⟩
  .obtain⟨h0,q,z,ch,h1,h2,h3⟩:=b.par k y e h;exact⟨h0,q,z,ch,h1,h2,h3.imp id λh=>⟨h.1,by omega⟩⟩
  .by_cases hip:i=p/\l=j
   .obtain⟨rfl,rfl⟩:=hip;rw[hx]at e;cases e;have hm:stp S x.1 l∈acc.map (·.1):=bJh λz=>hc ⟨ha,z⟩
    obtain⟨y,hy,ey⟩:=bJe.mp hm;obtain⟨k,hk⟩:=bJk.mp hy;exact⟨y,hy,ey,.inr (b.below hx hk)⟩
   .exact b.cls i y l e hl (by omega) ha
def BM.len(b:BM S s c al p j acc):acc.length<=S.length:=by
 have h:=b.nd;have hsub:∀x∈acc.map (·.1),x∈List.range S.length:=λx hx=>by
  obtain⟨y,hy,rfl⟩:=bJe.mp hx;exact bJp.mpr (b.lt y hy).1
 have:=jH S.length (acc.map (·.1)) h λx hx=>bJp.mp (hsub x hx)
 rwa [bJ9]at this
def kD(acc:List (Nat×List Nat)):List D:=acc.map λx=>D.int (x.1:Nat)
def aDn(acc:List (Nat×List Nat)):(kD acc).length=acc.length:=by unfold kD;simp
def aOf(acc:List (Nat×List Nat))(g:Nat)(w:List Nat):kD (acc++[(g,w)])=kD acc++[.int g]:=by unfold kD;simp
def bBq{k:Nat}{x:Nat×List Nat}(h:acc[k]?=some x):atI (kD acc) (k:Int)=some (.int x.1):=by
 have hk:=(bIk.mp h).1;rw[atI_nat (by rw[aDn];exact hk)]
 unfold kD;rw[bNr,(bIk.mp h).2]
def aVf{g:Nat}{w:List Nat}{k:Nat}{x:Nat×List Nat}(h:acc[k]?=some x):(bst al acc g w)[k]?=some x:=by
 unfold bst;split
 .rw[bJg (bIk.mp h).1];exact h
 .exact h
def aOg(g:Nat)(acc:List (Nat×List Nat)):vJ (kD acc) (.int g)=decide (g∈acc.map (·.1)):=by
 unfold vJ kD;rw[bO6]
 by_cases h:g∈acc.map (·.1)
 .rw[bIr h,bMh];obtain⟨x,hx,e⟩:=bJe.mp h;exact⟨x,hx,by simp[eqK,e]⟩
 .rw[bIs h,bM4];intro x hx;have:¬ (x.1:Int)=(g:Int):=λz=>h (bJe.mpr ⟨x,hx,by omega⟩)
  simp[eqK,this]
def aQq(acc:List (Nat×List Nat)):kD acc=nats (acc.map (·.1)):=by
 unfold kD nats;rw[bK1];rfl
end
def wD(acc:List (Nat×List Nat)):List D:=acc.map λx=>D.str x.2
def aVg(nd:(acc.map (·.1)).Nodup){x:Nat×List Nat}(hx:x∈acc):yD (kD acc) (wD acc) (.int x.1)=some (.str x.2):=by
 unfold yD kD wD;rw[List.zip_map',List.find?_map];have:acc.find? ((λp:D×D=>eqK p.1 (.int x.1)) ∘ λa=>(D.int (a.1:Nat),D.str a.2))=some x:=by
  induction acc with
  |nil=>cases hx
  |cons y acc ih=>
   rw[find?_cons];rw[bJ5,bK2]at nd;rcases bIq.mp hx with rfl|hx
   .simp[eqK]
   .have:¬ (y.1:Int)=(x.1:Int):=λz=>nd.1 (bJe.mpr ⟨x,hx,by omega⟩)
    simp only[Function.comp,eqK,beq_eq_false_iff_ne.mpr this];exact ih nd.2 hx
 rw[this];rfl
section
variable{S:List (List Nat)}{rk:List Nat}{s c p j:Nat}{al:Nat->Bool}{acc:List (Nat×List Nat)}
def BM.wlen(b:BM S s c al p j acc):∀(k:Nat)(x:Nat×List Nat),acc[k]?=some x->x.2.length<=k:=by
 intro k
 induction k using Nat.strongRecOn with
 |ind k ih=>
  intro x hx
  by_cases hk:k=0
  .subst hk;rw[b.hd]at hx;cases hx;exact bIn _
  .obtain⟨_,q,y,ch,h1,h2,_⟩:=b.par k x hx (by omega)
   have hl:x.2.length=y.2.length+1:=by rw[h2];simp
   have hq:q<k:=by
    rcases bNd q k with h|h|h
    .exact h
    .subst h;rw[hx]at h1;cases h1;omega
    .rcases b.ord k q x y hx h1 h with h3|⟨h3,_⟩ <;> omega
   have:=ih q hq y h1;omega
def wst(S:List (List Nat))(s:Nat)(als:List Nat)(acc:List (Nat×List Nat))(p:Nat)(x6 x7 x8:Option Sl):PSt:=
 [some (.v (.lst (stD S))),some (.v (.int s)),some (.v (.lst (nats als))),some (.o (.d false (kD acc)) (wD acc)),some (.o .l (kD acc)),some (.v (.int p)),x6,x7,x8]
def bDb(acc:List (Nat×List Nat)):(wD acc).length=acc.length:=by unfold wD;simp
def bDc(acc:List (Nat×List Nat))(g:Nat)(w:List Nat):wD (acc++[(g,w)])=wD acc++[.str w]:=by unfold wD;simp
def aSq(M:Mch S rk c)(als:List Nat)(b:BM S s c (λg=>decide (g∈als)) p j acc){x:Nat×List Nat}(hx:acc[p]?=some x)(ch g:Nat) :
  oO (wst S s als acc p (some (.v (.int x.1))) (some (.v (.str [ch]))) (some (.v (.int g))))=.ok (.nx (wst S s als (bst (λg=>decide (g∈als)) acc g (x.2++[ch])) p (some (.v (.int x.1))) (some (.v (.str [ch]))) (some (.v (.int g))))):=by
 have n8:=M.most;have hlen:=b.len;have hw:=b.wlen p x hx;have hp:p<acc.length:=(bIk.mp hx).1;obtain⟨p1,p2,_⟩:=fG als;have t1:e2 dIn (aA 8) (aA 2) (wst S s als acc p (some (.v (.int x.1))) (some (.v (.str [ch]))) (some (.v (.int g))))=.ok (.bl (decide (g∈als))):=aP rfl rfl (by rw[<-vU];exact aF ⟨by rw[p2];decide,rfl,p1⟩)
 have t2:e2 jA (aA 8) (kI 3) (wst S s als acc p (some (.v (.int x.1))) (some (.v (.str [ch]))) (some (.v (.int g))))=.ok (.bl (!decide (g∈acc.map (·.1)))):=aP rfl rfl (by rw[<-aOg];exact aF rfl)
 have t:=pU t1 λ_=>t2
 unfold bst
 by_cases h:decide (g∈als)=true/\g∉acc.map (·.1)
 .rw[bIv h];rw[h.1,bIs h.2]at t;have hk:vJ (kD acc) (.int g)=false:=by rw[aOg,bIs h.2]
  have ek:wR (kD acc) (.int g)=kD (acc++[(g,x.2++[ch])]):=by
   unfold wR;rw[hk,aOf];rfl
  have ev:aAm (kD acc) (wD acc) (.int g) (.str (x.2++[ch]))=wD (acc++[(g,x.2++[ch])]):=by
   unfold aAm;rw[hk,bDc];rfl
  refine aBd t (aM (st':=[some (.v (.lst (stD S))),some (.v (.int s)),some (.v (.lst (nats als))),some (.o (.d false (kD (acc++[(g,x.2++[ch])]))) (wD (acc++[(g,x.2++[ch])]))),some (.o .l (kD acc)),some (.v (.int p)),some (.v (.int x.1)),some (.v (.str [ch])),some (.v (.int g))]) ?_ ?_)
  .have e:e2 nJ (e2 dIx (kI 3) (aA 6)) (aA 7) (wst S s als acc p (some (.v (.int x.1))) (some (.v (.str [ch]))) (some (.v (.int g))))=.ok (.str (x.2++[ch])):=by
    refine aP (x:=.str x.2) (y:=.str [ch]) (aP rfl rfl ?_) rfl (aF (dN (by show x.2.length+1<=_;omega)))
    show aV (keyOk false (.int x.1)=true) (ofO (yD (kD acc) (wD acc) (.int x.1)))=_;rw[aF (c:=keyOk false (.int x.1)=true) rfl,aVg b.nd (bJd hx)];rfl
   unfold sDPut;rw[e,<-ek,<-ev];exact aF ⟨rfl,aJx (by rw[bDb];omega)⟩
  .rw[yZ (xs:=kD acc) (d:=.int g) rfl rfl (by rw[aDn];omega),<-aOf acc g (x.2++[ch])]
   rfl
 .rw[bIt h];refine mZ (iV t ?_) rfl;cases h1:decide (g∈als) with
  |false=>rfl
  |true=>rw[bIr (bJh λz=>h ⟨h1,z⟩)];rfl
theorem aGe(M:Mch S rk c)(als:List Nat):∀(m j:Nat) (acc:List (Nat×List Nat)) (x7 x8:Option Sl) (x:Nat×List Nat),j+m=c->BM S s c (λg=>decide (g∈als)) p j acc->acc[p]?=some x->
  ∃acc' x7' x8',forR (tgT [7,8]) oO ((List.range' j m).map λl=>D.tup [.str [97+l],.int (stp S x.1 l)]) (wst S s als acc p (some (.v (.int x.1))) x7 x8)=.ok (.nx (wst S s als acc' p (some (.v (.int x.1))) x7' x8'))/\BM S s c (λg=>decide (g∈als)) p c acc'/\acc'[p]?=some x
 |0,j,acc,x7,x8,x,hj,b,hx=>⟨acc,x7,x8,rfl,by rw[show c=j by omega]at b ⊢; exact b,hx⟩
 |m+1,j,acc,x7,x8,x,hj,b,hx=>by
  obtain⟨acc',x7',x8',e,b',hx'⟩:=aGe M als m (j+1) _ (some (.v (.str [97+j]))) (some (.v (.int (stp S x.1 j)))) x (by omega) (b.turn M hx (by omega)) (aVf hx)
  refine⟨acc',x7',x8',?_,b',hx'⟩;rw[List.range'_succ,bJ5,nQ];show (oO (wst S s als acc p (some (.v (.int x.1))) (some (.v (.str [97+j]))) (some (.v (.int (stp S x.1 j)))))).bind _=_;rw[aSq M als b hx];exact e
def aZi(M:Mch S rk c){h:Nat}(hh:h<S.length):aC1 [97,98,99] (nats S[h])=(List.range' 0 c).map λl=>D.tup [.str [97+l],.int (stp S h l)]:=by
 have hr:=(M.row S[h] (bJr hh)).1;have e:∀l,stp S h l=S[h].getD l 0:=λl=>by simp[stp,getD_eq_getElem?_getD,List.getElem?_eq_getElem hh]
 have h1:=M.c1;have h3:=M.c3;simp only[e];generalize S[h]=r at hr
 match r,hr with
 |[],hr=>simp at hr;omega
 |[a],hr=>subst hr;rfl
 |[a,b],hr=>subst hr;rfl
 |[a,b,d],hr=>subst hr;rfl
 |_::_::_::_::r,hr=>simp at hr;omega
theorem aGf(M:Mch S rk c)(als:List Nat):∀(m p:Nat) (acc:List (Nat×List Nat)) (x6 x7 x8:Option Sl) (f:Nat),S.length+1<=m+p->m<=f->BM S s c (λg=>decide (g∈als)) p 0 acc->p<=acc.length->
  ∃acc' x6' x7' x8',lG tU aAv f (wst S s als acc p x6 x7 x8)=.ok (.nx (wst S s als acc' acc'.length x6' x7' x8'))/\BM S s c (λg=>decide (g∈als)) acc'.length 0 acc'
 |0,p,acc,x6,x7,x8,f,hm,hf,b,hp=>by have:=b.len;omega
 |m+1,p,acc,x6,x7,x8,f,hm,hf,b,hp=>by
  obtain⟨f,rfl⟩:∃g,f=g+1:=⟨f-1,by omega⟩
  have test:tU (wst S s als acc p x6 x7 x8)=.ok (.bl (decide ((p:Int)<((kD acc).length:Nat)))):=aP rfl rfl rfl;rw[aDn]at test
  by_cases h:p<acc.length
  .have hx:acc[p]?=some acc[p]:=bIj h;generalize acc[p]=x at hx;obtain⟨l1,_,_⟩:=b.lt x (bJd hx);obtain⟨acc',x7',x8',e,b',hx'⟩:=aGe M als c 0 acc x7 x8 x (by omega) b hx
   have hp':p<acc'.length:=(bIk.mp hx').1;obtain⟨acc2,y6,y7,y8,ew,b3⟩:=aGf M als m (p+1) acc' (some (.v (.int x.1))) x7' x8' f (by omega) (by omega) b'.next (by omega)
   refine⟨acc2,y6,y7,y8,aGc (iV test (bD8 h)) (st':=wst S s als acc' (p+1) (some (.v (.int x.1))) x7' x8') ?_ ew,b3⟩;refine aM (st':=wst S s als acc p (some (.v (.int x.1))) x7 x8) (bU (aP rfl rfl (mF (bBq hx)))) (aM (st':=wst S s als acc' p (some (.v (.int x.1))) x7' x8') (jG (xs:=aC1 [97,98,99] (nats S[x.1])) ?_ ?_) (bU rfl))
   .show ((e2 dIx (aA 0) (aA 6)) (wst S s als acc p (some (.v (.int x.1))) x7 x8)).bind _=_;rw[aP (rfl:aA 0 (wst S s als acc p (some (.v (.int x.1))) x7 x8)=.ok (.lst (stD S))) rfl (mF (aBf l1))];rfl
   .rw[aZi M l1];exact e
  .have:p=acc.length:=by omega
   subst this;exact⟨acc,x6,x7,x8,aA4 (iV test (bD9 h)),b⟩
def aQr(M:Mch S rk c){s:Nat}(hs:s<S.length)(als:List Nat):∃acc,jD [.lst (stD S),.int s,.lst (nats als)]=.ok (.dct false (kD acc) (wD acc))/\BM S s c (λg=>decide (g∈als)) acc.length 0 acc:=by
 have n8:=M.most;obtain⟨acc,x6,x7,x8,e,b⟩:=aGf M als (S.length+1) 0 [(s,[])] none none none 100000 (by omega) (by omega) (BM.start hs) (by simp)
 refine⟨acc,cB rfl ?_,b⟩;unfold yO;refine aM (st':=[some (.v (.lst (stD S))),some (.v (.int s)),some (.v (.lst (nats als))),some (.o (.d false (kD [(s,[])])) (wD [(s,[])])),none,none,none,none,none]) (by simp[aOa,aUs,atom,kD,wD]) ?_
 refine aM (st':=[some (.v (.lst (stD S))),some (.v (.int s)),some (.v (.lst (nats als))),some (.o (.d false (kD [(s,[])])) (wD [(s,[])])),some (.o .l (kD [(s,[])])),none,none,none,none]) (by simp[kD]) ?_
 refine aM (st':=wst S s als [(s,[])] 0 none none none) (by simp[wst]) ?_
 refine aM (st':=wst S s als acc acc.length x6 x7 x8) (by rw[aIk];exact e) ?_
 simp[wst,ofK]
end
def prD(acc:List (Nat×List Nat)):List D:=acc.map λx=>D.tup [.int (x.1:Nat),.str x.2]
theorem aVh:∀acc:List (Nat×List Nat),List.zipWith (λk d=>D.tup [k,d]) (kD acc) (wD acc)=prD acc
 |[]=>rfl
 |x::l=>congrArg (D.tup [.int (x.1:Nat),.str x.2] :: ·) (aVh l)
def aZj(acc:List (Nat×List Nat)):(prD acc).length=acc.length:=by unfold prD;rw[bJ9]
section
variable{S:List (List Nat)}{rk:List Nat}{c:Nat}{acc:List (Nat×List Nat)}
abbrev bDd(S:List (List Nat))(c:Nat)(acc:List (Nat×List Nat)):Prop:=BM S 0 c (λg=>decide (g∈List.range S.length)) acc.length 0 acc
def aOh(M:Mch S rk c):∃acc,iJ [mD S rk c]=.ok (.lst (prD acc))/\bDd S c acc:=by
 have n8:=M.most;obtain⟨acc,e,b⟩:=aQr M (show 0<S.length from M.one) (List.range S.length)
 have hl:=b.len;refine⟨acc,cB rfl ?_,b⟩;have h1:jT [some (.v (mD S rk c)),none]=.ok (.nx [some (.v (mD S rk c)),some (.v (.dct false (kD acc) (wD acc)))]):=by
  refine aM (st':=[some (.v (mD S rk c)),some (.v (.dct false (kD acc) (wD acc)))]) (bU (aW (bV (show nM "Machine" "steps" (mD S rk c)=_ from qP) (bV rfl (bV (d:=.lst (nats (List.range S.length))) ?_ rfl))) e)) rfl
  show R.bind (nM "Machine" "many" (mD S rk c)) aC2=_;rw[aLr,aH,<-(show fU 0 S.length=nats (List.range S.length) by rw[yV];rfl)]
  exact aF ⟨aBy (by omega),rT (by omega)⟩
 show yI jT (e1 aG3 (aA 1)) [some (.v (mD S rk c)),none]=_;unfold yI;rw[h1];show R.bind (aV ((kD acc).length<=big) (.ok (D.lst (List.zipWith (λk d=>D.tup [k,d]) (kD acc) (wD acc))))) _=_
 rw[aF (dN (by rw[aDn];omega)),aVh]
 rfl
def bDd.wl(M:Mch S rk c)(b:bDd S c acc){x:Nat×List Nat}(hx:x∈acc):x.2.length<=8:=by
 obtain⟨k,hk⟩:=bJk.mp hx;have h1:=b.wlen k x hk;have h2:=(bIk.mp hk).1;have h3:=b.len;have h4:=M.most;omega
end
def orN(l:List Nat):Nat->Nat:=λb=>l.foldl (λb r=>b|||2^r) b
theorem aQs(r:Nat):∀(l:List Nat)(b:Nat),(orN l b).testBit r=(b.testBit r||decide (r∈l))
 |[],b=>by simp[orN]
 |x::l,b=>by
  show (orN l (b|||2^x)).testBit r=_
  rw[aQs r l,bOe,Nat.testBit_two_pow]
  by_cases h:x=r
  .simp[h]
  .have h':¬ r=x:=λz=>h z.symm
   simp[h,h']
def iQ(l:List Nat):Nat:=orN l 0
def iR(l:List Nat)(r:Nat):(iQ l).testBit r=decide (r∈l):=by
 unfold iQ;rw[aQs,bMc,Bool.false_or]
def aQt{l':List Nat}(h:∀r,r∈l↔r∈l'):iQ l=iQ l':=bKj λr=>by
 rw[iR,iR,bKm.mpr (h r)]
def aL(n:Nat):List Nat:=(List.range (pZ n)).filter λr=>n.testBit r
def aLt(h:pZ n<=r):n.testBit r=false:=by
 unfold pZ at h
 by_cases h0:(n:Int)=0
 .have:n=0:=by omega
  rw[this,bMc]
 .rw[bIt h0]at h;have hn:n≠0:=λz=>h0 (by rw[z];rfl)
  have h1:n<2^(n.log2+1):=(Nat.log2_lt hn).mp (bL3 _);exact bNx (bJ1 h1 (bLj (by decide) (by simpa using h)))
def bB:r∈aL n↔n.testBit r=true:=by
 unfold aL;rw[bJa,bJp];refine⟨λh=>h.2,λh=>⟨?_,h⟩⟩
 rcases bOl r (pZ n) with h1|h1
 .exact h1
 .rw[aLt h1]at h;cases h
def gJ(n:Nat):iQ (aL n)=n:=bKj λr=>by
 rw[iR];cases h:n.testBit r with
 |true=>exact bIr (bB.mpr h)
 |false=>exact bIs λz=>by rw[bB.mp z]at h;cases h
def aIu:r∈aL (iQ l)↔r∈l:=by
 rw[bB,iR,bJf]
def bY{k:Nat}(h:n<2^k)(hr:r∈aL n):r<k:=by
 rw[bB]at hr;rcases bOl r k with h1|h1
 .exact h1
 .rw[bNx (bJ1 h (bLj (by decide) h1))]at hr
  cases hr
def aLu{k:Nat}(h:n<2^k):pZ n<=k:=by
 unfold pZ
 by_cases h0:(n:Int)=0
 .rw[bIv h0];exact bK6 _
 .rw[bIt h0];have hn:n≠0:=λz=>h0 (by rw[z];rfl)
  have:n.log2<k:=(Nat.log2_lt hn).mpr h;show (n:Int).natAbs.log2+1<=k;rw[Int.natAbs_natCast];omega
@[simp] theorem aVi(i j:Int):aDe (.int i) (.int j)=aV (0<=j/\j<=1000000/\i.natAbs<18446744073709551616) (.ok (.int (i*2^j.toNat))):=rfl
@[simp] theorem bGf(i j:Int):aDf (.int i) (.int j)=aV (0<=j) (.ok (.int (i/2^j.toNat))):=rfl
@[simp] theorem aLv(i j:Int):aC3 (.int i) (.int j)=aV (0<=i/\0<=j) (.ok (.int ((i.toNat&&&j.toNat:Nat):Int))):=rfl
@[simp] theorem aZk(i j:Int):dOr (.int i) (.int j)=aV (0<=i/\0<=j) (.ok (.int ((i.toNat|||j.toNat:Nat):Int))):=rfl
@[simp] theorem bBr(i:Int):aFd (.int i)=.ok (.int (pZ i:Nat)):=rfl
def aLw(n r:Nat):(((n:Int)/2^r).toNat&&&(1:Int).toNat)=if n.testBit r=true then 1 else 0:=by
 have e:((n:Int)/2^r).toNat=n/2^r:=by
  have:(n:Int)/2^r=((n/2^r:Nat):Int):=by push_cast;rfl
  rw[this,bKz]
 rw[e,show (1:Int).toNat=1 from rfl,Nat.and_one_is_mod,Nat.testBit_eq_decide_div_mod_eq]
 by_cases h:n/2^r%2=1
 .simp[h]
 .have:n/2^r%2=0:=by omega
  simp[this]
def aBg(n r:Nat):fY [.int n,.int r]=.ok (.bl (n.testBit r)):=by
 have hb:=aLw n r;have h0:0<=(n:Int)/2^r:=Int.ediv_nonneg (by omega) (Int.pow_nonneg (by decide))
 refine cB rfl ?_
 unfold aB6;show cM _ [some (.v (.int n)),some (.v (.int r))]=_;have e1:e2 aDf (aA 0) (aA 1) [some (.v (.int n)),some (.v (.int r))]=.ok (.int ((n:Int)/2^r)):=by simp
 have e2':e2 aC3 (e2 aDf (aA 0) (aA 1)) (eC (.int 1)) [some (.v (.int n)),some (.v (.int r))]=.ok (.int ((if n.testBit r=true then 1 else 0:Nat):Int)):=by
  rw[aEf,e1,aH,aQ9,aH,aLv,aF ⟨h0,by decide⟩,hb]
 rw[qH,aEf,e2'];cases n.testBit r<;>simp
theorem gK{tg:Tg}{C E:Ex}{st:PSt}{q:Nat->Bool}{G:Nat->D}:∀(ks:List Nat),(∀k∈ks,∃s1,tg (.int k) st=.ok s1/\C s1=.ok (.bl (q k))/\E s1=.ok (G k))->iI tg C E st (nats ks)=.ok ((ks.filter q).map G)
 |[],_=>rfl
 |k::ks,h=>by
  obtain⟨s1,e1,e2,e3⟩:=h k bIm;have ih:=gK ks λk hk=>h k (bIl _ hk)
  show iI tg C E st (.int k::nats ks)=_;rw[vK,e1];cases hq:q k with
  |true=>
   rw[bK4 hq,bJ5];simp[e2,e3,hq,ih]
  |false=>
   rw[bKc (by rw[hq];decide)]
   simp[e2,hq,ih]
def zB(n:Nat):fU 0 n=nats (List.range n):=by
 rw[yV];rfl
def pO{k:Nat}(h:n<2^k)(hk:k<=2000):cD [.int n]=.ok (.lst (nats (aL n))):=by
 have hb:=aLu h;have e:=gK (tg:=tgN 1) (C:=vO) (E:=vN) (st:=[some (.v (.int n)),none]) (q:=λr=>n.testBit r) (G:=λr=>.int r) (List.range (pZ n)) (λr _=>⟨_,rfl,by
  simp[vO,aBg n r],by simp[vN]⟩)
 refine cB rfl ?_
 unfold aB7;show cM _ [some (.v (.int n)),none]=_;have hi:xP (e1 aFd (aA 0)) [some (.v (.int n)),none]=.ok (nats (List.range (pZ n))):=by
  simp[show ((pZ n:Nat):Int)<=(big:Int) from rT (by omega)]
  exact zB _
 rw[qH,yF,hi];simp only[aH,bF,length_range];rw[aF (dN (by omega)),show clr [1] [some (Sl.v (D.int n)),none]=[some (.v (.int n)),none] from rfl,e]
 rfl
theorem aIv(a:Option Sl):∀(l:List Nat)(b:Nat)(x2:Option Sl),(∀r∈l,r<=1000000)->∃x2',forR (tgN 2) lQ (nats l) [a,some (.v (.int b)),x2]=.ok (.nx [a,some (.v (.int (orN l b))),x2'])
 |[],b,x2,_=>⟨x2,rfl⟩
 |r::l,b,x2,h=>by
  obtain⟨x2',e⟩:=aIv a l (b|||2^r) (some (.v (.int r))) λr hr=>h r (bIl _ hr)
  refine⟨x2',?_⟩;have hr:=h r bIm;have hr':(r:Int)<=1000000:=by omega
  have ee:((1:Int)*2^(r:Int).toNat)=((2^r:Nat):Int):=by push_cast;simp
  show forR (tgN 2) lQ (.int r::nats l) _=_;rw[nQ];have e3:(2:Int)^r=((2^r:Nat):Int):=by push_cast;rfl
  have t:lQ [a,some (.v (.int b)),some (.v (.int r))]=.ok (.nx [a,some (.v (.int ((b|||2^r:Nat):Int))),some (.v (.int r))]):=by
   have h1:e2 aDe (eC (.int 1)) (aA 2) [a,some (.v (.int b)),some (.v (.int r))]=.ok (.int ((2^r:Nat):Int)):=by
    simp only[aEf,aQ9,aQ8,aH,getElem?_cons_succ,List.getElem?_cons_zero];rw[aVi,aF ⟨by omega,hr',by decide⟩,ee]
   unfold lQ;rw[aQd,aEf,h1];simp only[aQ8,aH,getElem?_cons_succ,List.getElem?_cons_zero];rw[aZk,aF ⟨bMw _,bMw _⟩,bKz,bKz];rfl
  show (lQ [a,some (.v (.int b)),some (.v (.int r))]).bind _=_;rw[t];exact e
def aFh{l:List Nat}(h:∀r∈l,r<=1000000)(hl:l.length<=1000000):jP [.lst (nats l)]=.ok (.int (iQ l)):=by
 obtain⟨x2',e⟩:=aIv (some (.v (.lst (nats l)))) l 0 none h;refine cB rfl ?_
 unfold aDi;refine aM (st':=[some (.v (.lst (nats l))),some (.v (.int 0)),none]) (by simp) ?_
 refine aM (st':=[some (.v (.lst (nats l))),some (.v (.int (iQ l))),x2']) ?_ (by simp)
 rw[aQe,show itE (aA 0) [some (Sl.v (D.lst (nats l))),some (.v (.int 0)),none]=.ok (nats l) from rfl,aH]
 exact e
def aBh{k:Nat}(h:n<2^k):(List.range k).filter (λr=>n.testBit r)=aL n:=by
 have hb:=aLu h;unfold aL;obtain⟨d,rfl⟩:∃d,k=pZ n+d:=⟨k-pZ n,by omega⟩
 have h0:((List.range d).map (pZ n + ·)).filter (λr=>n.testBit r)=[]:=bL7.mpr λx hx=>by
  obtain⟨y,_,rfl⟩:=bJe.mp hx;rw[aLt (bN0 _ _)];decide
 rw[List.range_add,bN1,h0,bKi]
inductive Rch (S:List (List Nat)) (c:Nat) (al:Nat->Bool) (s:Nat):Nat->Prop where
 |here:Rch S c al s s
 |on {r l:Nat}:Rch S c al s r->l<c->al (stp S r l)=true->Rch S c al s (stp S r l)
def dB(n:Nat):(aL n).Nodup:=List.nodup_range.filter _
def vV{l:List Nat}{k:Nat}(h:∀r∈l,r<k):iQ l<2^k:=Nat.lt_pow_two_of_testBit _ λr hr=>by
 rw[iR];exact bIs λz=>by have:=h r z;omega
open Classical in
noncomputable def fW(S:List (List Nat))(c n r:Nat):Nat:=iQ ((List.range S.length).filter λg=>decide (Rch S c (λg=>n.testBit g) r g))
section
def aDo(M:Mch S rk c) {s g:Nat} (hs:s<S.length) (h:Rch S c al s g):g<S.length:=by
 induction h with
 |here=>exact hs
 |on _ hl _ ih=>obtain⟨_,_,_,h⟩:=aOe M ih hl;exact h
def aGg{s g:Nat}(hs:al s=true)(h:Rch S c al s g):al g=true:=by
 cases h with
 |here=>exact hs
 |on _ _ ha=>exact ha
open Classical in
def lR(M:Mch S rk c){r:Nat}(hr:r<S.length)(g:Nat):(fW S c n r).testBit g=true↔Rch S c (λg=>n.testBit g) r g:=by
 unfold fW;rw[iR,bJf,bJa,bJp,bJf];exact⟨λh=>h.2,λh=>⟨aDo M hr h,h⟩⟩
def zE:fW S c n r<2^S.length:=vV λg hg=>bJp.mp (bJa.mp hg).1
def aLx(M:Mch S rk c){a b:Nat}(ha:a<S.length):b∈S.getD a []↔∃l,l<c/\stp S a l=b:=by
 have hr:=(M.row S[a] (bJr ha)).1;have hg:S.getD a []=S[a]:=by rw[bJq,bIj ha];rfl
 have e:∀l,stp S a l=S[a].getD l 0:=λl=>by unfold stp;rw[hg]
 rw[hg];constructor
 .intro h;obtain⟨l,hl,rfl⟩:=bKu.mp h;exact⟨l,by omega,by rw[e,bJq,bIj hl];rfl⟩
 .rintro⟨l,hl,rfl⟩;have hl':l<S[a].length:=by omega
  rw[e,bJq,bIj hl'];exact bJr hl'
def Rch.trans{a b d:Nat}(h1:Rch S c al a b)(h2:Rch S c al b d):Rch S c al a d:=by
 induction h2 with
 |here=>exact h1
 |on _ hl ha ih=>exact .on ih hl ha
end
def aVj(g:Nat)(l:List Nat):dIn (.int g) (.lst (nats l))=.ok (.bl (decide (g∈l))):=by
 obtain⟨p1,p2,_⟩:=fG l;rw[<-vU];exact aF ⟨by rw[p2];exact bK6 60,rfl,p1⟩
def aOi(h:n<=1000000):aDe (.int 1) (.int n)=.ok (.int ((2^n:Nat):Int)):=by
 have e:((2^n:Nat):Int)=1*2^(n:Int).toNat:=by rw[Int.one_mul,bKz];push_cast;rfl
 rw[e];exact aF ⟨by omega,by omega,by decide⟩
def aZl(a b:Nat):aC3 (.int a) (.int b)=.ok (.int ((a&&&b:Nat):Int)):=by
 rw[<-bKz a,<-bKz b];exact aF ⟨by omega,by omega⟩
def aLy(g:Nat)(l:List Nat):vJ (nats l) (.int g)=decide (g∈l):=by
 unfold vJ nats;rw[bO6]
 by_cases h:g∈l
 .rw[bIr h,bMh];exact⟨g,h,by simp[eqK]⟩
 .rw[bIs h,bM4];intro x hx
  have : ¬ (x : Int) = (g : Int) := fun z => h (by have e : x = g := by omega
                                                   rw[<-e];exact hx)
  simp[eqK,this]
theorem uT(V:Nat->D){g:Nat}:∀{l:List Nat},g∈l->yD (nats l) (l.map V) (.int g)=some (V g)
 |[],h=>nomatch h
 |x::l,h=>by
  show yD (.int x::nats l) (V x::l.map V) (.int g)=_;unfold yD;rw[bLu,find?_cons]
  by_cases e:x=g
  .simp[eqK,e]
  .have:¬ (x:Int)=(g:Int):=by omega
   simp only[eqK,beq_eq_false_iff_ne.mpr this];exact uT V ((bIq.mp h).resolve_left λz=>e z.symm)
def uU(l:List Nat)(x:Nat):nats (l++[x])=nats l++[.int x]:=by unfold nats;simp
def aA6{ks vs:List D}{g:Nat} (h:yD ks vs (.int g)=some d):dIx (.dct false ks vs) (.int g)=.ok d:=by
 show aV (keyOk false (.int g)=true) (ofO (yD ks vs (.int g)))=_;rw[aF (c:=keyOk false (.int g)=true) rfl,h];rfl
section
variable {s p:Nat}
def BM.sound(b:BM S s c al p j acc):∀(k:Nat)(x:Nat×List Nat),acc[k]?=some x->Rch S c al s x.1:=by
 intro k
 induction k using Nat.strongRecOn with
 |ind k ih=>
  intro x hx
  by_cases hk:k=0
  .subst hk;rw[b.hd]at hx;cases hx;exact .here
  .obtain⟨h0,q,y,ch,h1,h2,_⟩:=b.par k x hx (by omega)
   have hl:x.2.length=y.2.length+1:=by rw[h2];simp
   have hq:q<k:=by
    rcases bNd q k with h|h|h
    .exact h
    .subst h;rw[hx]at h1;cases h1;omega
    .rcases b.ord k q x y hx h1 h with h3|⟨h3,_⟩ <;> omega
   obtain⟨_,x2,x3⟩:=b.lt x (bJd hx);obtain⟨_,y2,_⟩:=b.lt y (bJd h1);have hch:=x3 ch (by rw[h2];simp)
   have e:x.1=stp S y.1 (ch-97):=by rw[<-x2,h2,aA5,y2]
   rw[e]at h0 ⊢;exact .on (ih q hq y h1) (by omega) h0
def BM.whole(b:BM S s c al acc.length 0 acc){g:Nat}:g∈acc.map (·.1)↔Rch S c al s g:=by
 constructor
 .intro h;obtain⟨x,hx,rfl⟩:=bJe.mp h;obtain⟨k,hk⟩:=bJk.mp hx;exact b.sound k x hk
 .intro h
  induction h with
  |here=>exact bJe.mpr ⟨_,bJd b.hd,rfl⟩
  |on _ hl ha ih=>
   obtain⟨x,hx,rfl⟩:=bJe.mp ih;obtain⟨k,hk⟩:=bJk.mp hx;obtain⟨y,h1,h2,_⟩:=b.cls k x _ hk hl (.inl (bIk.mp hk).1) ha;exact bJe.mpr ⟨y,h1,h2⟩
end
inductive Pw (B:Nat->Nat->Prop) (K:Nat->Prop):Nat->Nat->Prop where
 |one {a b:Nat}:B a b->Pw B K a b
 |mid {a m b:Nat}:K m->Pw B K a m->Pw B K m b->Pw B K a b
def Pw.cut{B:Nat->Nat->Prop}{K K':Nat->Prop}{k a b:Nat}(hK:∀m,K' m->K m\/m=k)(h:Pw B K' a b):Pw B K a b\/(Pw B K a k/\Pw B K k b):=by
 induction h with
 |one h=>exact .inl (.one h)
 |mid hm _ _ i1 i2=>
  rename_i a m b _ _;rcases hK m hm with hm|rfl
  .rcases i1 with x|⟨x1,x2⟩
   .rcases i2 with y|⟨y1,y2⟩
    .exact .inl (.mid hm x y)
    .exact .inr ⟨.mid hm x y1,y2⟩
   .rcases i2 with y|⟨y1,y2⟩
    .exact .inr ⟨x1,.mid hm x2 y⟩
    .exact .inr ⟨x1,y2⟩
  .exact .inr ⟨i1.elim id λz=>z.1,i2.elim id λz=>z.2⟩
def Pw.mono{B:Nat->Nat->Prop}{K K':Nat->Prop}{a b:Nat}(hK:∀m,K m->K' m)(h:Pw B K a b):Pw B K' a b:=by
 induction h with
 |one h=>exact .one h
 |mid hm _ _ i1 i2=>exact .mid (hK _ hm) i1 i2
def gP(V:Nat->Nat)(m:Nat):Nat->Nat:=λr=>if (V r).testBit m=true then V r|||V m else V r
theorem aQu{B:Nat->Nat->Prop}{R:Nat->Prop}(hR:∀a b,R a->B a b->R b):∀(ks ds:List Nat)(V:Nat->Nat),(∀k∈ks,R k)->(∀r,R r->∀g,(V r).testBit g=true↔Pw B (· ∈ ds) r g)->∀r,R r->∀g,((ks.foldl gP V) r).testBit g=true↔Pw B (· ∈ ds++ks) r g
 |[],ds,V,_,h,r,hr,g=>by rw[bKi];exact h r hr g
 |k::ks,ds,V,hk,h,r,hr,g=>by
  have e:ds++k::ks=(ds++[k])++ks:=by simp
  rw[e];refine aQu hR ks (ds++[k]) (gP V k) (λx hx=>hk x (bIl _ hx)) (λr hr g=>?_) r hr g
  have hk':=hk k bIm;have up:∀{a b:Nat},Pw B (· ∈ ds) a b->Pw B (· ∈ ds++[k]) a b:=λz=>z.mono λm hm=>bIw _ hm
  have in_k:k∈ds++[k]:=by simp
  unfold gP
  by_cases hb:(V r).testBit k=true
  .rw[bIv hb,bOe,or_eq_true,h r hr g,h k hk' g];constructor
   .rintro(z|z)
    .exact up z
    .exact .mid in_k (up ((h r hr k).mp hb)) (up z)
   .intro z;rcases z.cut (K:=(· ∈ ds)) (k:=k) (λm hm=>by simpa using hm) with y|⟨_,y⟩
    .exact .inl y
    .exact .inr y
  .rw[bIt hb,h r hr g];constructor
   .exact up
   .intro z;rcases z.cut (K:=(· ∈ ds)) (k:=k) (λm hm=>by simpa using hm) with y|⟨y,_⟩
    .exact y
    .exact absurd ((h r hr k).mpr y) hb
section
variable{S:List (List Nat)}{rk:List Nat}{c n:Nat}
def qC(S:List (List Nat))(n:Nat):Nat->Nat:=λr=>(iQ (S.getD r [])|||2^r)&&&n
def aVk{g:Nat}:(qC S n r).testBit g=true↔(r=g\/g∈S.getD r [])/\n.testBit g=true:=by
 unfold qC;rw[Nat.testBit_and,bOe,iR,Nat.testBit_two_pow,bLb,or_eq_true,bJf,bJf];exact⟨λh=>⟨h.1.symm,h.2⟩,λh=>⟨h.1.symm,h.2⟩⟩
def aSr(M:Mch S rk c)(hn:n<2^S.length) (hr:r∈aL n) (g:Nat):(((aL n).foldl gP (qC S n)) r).testBit g=true↔Rch S c (λg=>n.testBit g) r g:=by
 have hp:=aQu (B:=λa b=>(a=b\/b∈S.getD a [])/\n.testBit b=true) (R:=(· ∈ aL n)) (λa b _ h=>bB.mpr h.2) (aL n) [] (qC S n) (λk hk=>hk) (λr _ g=>by
  rw[aVk];constructor
  .exact λh=>.one h
  .intro h;cases h with
   |one h=>exact h
   |mid h _ _=>cases h) r hr g
 rw[hp,bMl];clear hp;constructor
 .intro h;have hi:∀{a b:Nat},Pw (λa b=>(a=b\/b∈S.getD a [])/\n.testBit b=true) (· ∈ aL n) a b->a∈aL n->Rch S c (λg=>n.testBit g) a b:=by
   intro a b h
   induction h with
   |one h=>
    intro ha;obtain⟨rfl|h1,h2⟩:=h
    .exact .here
    .obtain⟨l,hl,rfl⟩:=(aLx M (bY hn ha)).mp h1;exact .on .here hl h2
   |mid hm _ _ i1 i2=>exact λha=>Rch.trans (i1 ha) (i2 hm)
  exact hi h hr
 .intro h
  induction h with
  |here=>exact .one ⟨.inl rfl,bB.mp hr⟩
  |on h1 hl ha ih=>
   have hx:_∈aL n:=bB.mpr (aGg (al:=λg=>n.testBit g) (bB.mp hr) h1)
   exact .mid hx ih (.one ⟨.inr ((aLx M (bY hn hx)).mpr ⟨_,hl,rfl⟩),ha⟩)
def aVl(M:Mch S rk c)(hn:n<2^S.length) (hr:r∈aL n):((aL n).foldl gP (qC S n)) r=fW S c n r:=bKj λg=>by
 have e:=(aSr M hn hr g).trans (lR M (bY hn hr) g).symm;cases h1:(((aL n).foldl gP (qC S n)) r).testBit g with
 |true=>exact(e.mp h1).symm
 |false=>
  cases h2:(fW S c n r).testBit g with
  |true=>rw[e.mpr h2]at h1;cases h1
  |false=>rfl
def aQv(a b:Nat):dOr (.int a) (.int b)=.ok (.int ((a|||b:Nat):Int)):=by
 rw[<-bKz a,<-bKz b];exact aF ⟨by omega,by omega⟩
def xR(S:List (List Nat))(n:Nat)(ks:List Nat)(V:Nat->Nat)(x4 x5:Option Sl):PSt:=[some (.v (.lst (stD S))),some (.v (.int n)),some (.v (.lst (nats (aL n)))),some (.o (.d false (nats ks)) (ks.map λr=>D.int (V r:Nat))),x4,x5]
def aQw{V:Nat->Nat}{r:Nat}{x:D}(hr:r∉ks):wR (nats ks) (.int r)=nats (ks++[r])/\aAm (nats ks) (ks.map λr=>D.int (V r:Nat)) (.int r) x=(ks.map λr=>D.int (V r:Nat))++[x]:=by
 have hk:vJ (nats ks) (.int r)=false:=by rw[aLy,bIs hr]
 unfold wR aAm;rw[hk,uU];exact⟨rfl,rfl⟩
def aZm{V:Nat->Nat}{r x:Nat}(hr:r∈ks):wR (nats ks) (.int r)=nats ks/\aAm (nats ks) (ks.map λr=>D.int (V r:Nat)) (.int r) (.int x)=ks.map λk=>D.int ((if k=r then x else V k:Nat):Int):=by
 have hk:vJ (nats ks) (.int r)=true:=by rw[aLy,bIr hr]
 unfold wR aAm;rw[hk,bIv rfl,bIv rfl];refine⟨rfl,?_⟩;unfold nats;rw[List.zip_map',bK1];refine bK8 λk _=>?_
 show (if eqK (.int (k:Int)) (.int (r:Int))=true then D.int (x:Int) else D.int (V k:Int))=_
 by_cases e:k=r
 .rw[bIv e,bIv (by rw[e];simp[eqK])]
 .have:¬ (k:Int)=(r:Int):=by omega
  rw[bIt e,bIt (by simp[eqK,this])]
def aK3{st:PSt}{k:D}{ks vs:List D}(hf:f st=.ok d)(hg:g st=.ok k)(hs:st[i]?=some (some (.o (.d false ks) vs)))(hk:keyOk false k=true)(hl:vs.length<1000):sDPut i g f st=.ok (.nx (st.set i (some (.o (.d false (wR ks k)) (aAm ks vs k d))))):=by
 unfold sDPut;rw[hf,aH,hg,aH,hs];exact aF ⟨hk,aJx (by omega)⟩
theorem aIw(M:Mch S rk c):∀(rs ks:List Nat)(x4:Option Sl),(ks++rs).Nodup->(∀r∈ks++rs,r<S.length)->∃x4',forR (tgN 4) yM (nats rs) (xR S n ks (qC S n) x4 none)=.ok (.nx (xR S n (ks++rs) (qC S n) x4' none))
 |[],ks,x4,_,_=>⟨x4,by rw[bKi];rfl⟩
 |r::rs,ks,x4,nd,hl=>by
  have n8:=M.most;have h1:ks++r::rs=(ks++[r])++rs:=by simp
  rw[h1]at nd hl;obtain⟨x4',e⟩:=aIw M rs (ks++[r]) (some (.v (.int r))) nd hl;refine⟨x4',?_⟩;rw[h1];have hr:r∉ks:=λz=>(bKh.mp (bKh.mp nd).1).2.2 r z r (bIu.mpr rfl) rfl
  have hrl:r<S.length:=hl r (by simp)
  have hlen:ks.length<=S.length:=jH S.length ks (bKh.mp (bKh.mp nd).1).1 λx hx=>hl x (by simp[hx])
  have hg:S.getD r []=S[r]:=by rw[bJq,bIj hrl];rfl
  have hrow:=M.row S[r] (bJr hrl);have c3:=M.c3;have hb:=aFh (l:=S[r]) (λx hx=>by have:=hrow.2 x hx;omega) (by rw[hrow.1];omega)
  obtain⟨p1,p2⟩:=aQw (V:=qC S n) (x:=.int (qC S n r:Nat)) hr;refine kW rfl (s2:=xR S n (ks++[r]) (qC S n) (some (.v (.int r))) none) ?_ e;have hv:e2 aC3 (e2 dOr (aN jP (aC (e2 dIx (aA 0) (aA 4)) aR)) (e2 aDe (eC (.int 1)) (aA 4))) (aA 1) (xR S n ks (qC S n) (some (.v (.int r))) none)=.ok (.int (qC S n r:Nat)):=by
   unfold qC;rw[hg];exact aP (aP (aW (bV (aP rfl rfl (mF (aBf hrl))) rfl) hb) (aP rfl rfl (aOi (by omega))) (aQv _ _)) rfl (aZl _ _)
  refine(aK3 hv rfl rfl rfl (by rw[bJ9];omega)).trans ?_
  rw[p1,p2];unfold xR;rw[bJs];rfl
def aSs{V:Nat->Nat} (hl:ks.length<1000) (hr:r∈ks) (hm:m∈ks):lZ (xR S n ks V (some (.v (.int r))) (some (.v (.int m))))=.ok (.nx (xR S n ks (λk=>if k=r then gP V m r else V k) (some (.v (.int r))) (some (.v (.int m))))):=by
 have gr:e2 dIx (kI 3) (aA 4) (xR S n ks V (some (.v (.int r))) (some (.v (.int m))))=.ok (.int (V r:Nat)):=aP rfl rfl (aA6 (uT (λr=>D.int (V r:Nat)) hr))
 have gm:e2 dIx (kI 3) (aA 5) (xR S n ks V (some (.v (.int r))) (some (.v (.int m))))=.ok (.int (V m:Nat)):=aP rfl rfl (aA6 (uT (λr=>D.int (V r:Nat)) hm))
 have t:=aW (bV gr (show aC (aA 5) aR (xR S n ks V (some (.v (.int r))) (some (.v (.int m))))=.ok [.int m] from rfl)) (aBg (V r) m)
 by_cases hb:(V r).testBit m=true
 .rw[hb]at t;obtain⟨p1,p2⟩:=aZm (V:=V) (x:=V r|||V m) hr
  refine aBd t ((aK3 (aP gr gm (aQv _ _)) rfl rfl rfl (by rw[bJ9];omega)).trans ?_)
  rw[p1,p2];unfold gP;rw[bIv hb];rfl
 .rw[Bool.eq_false_iff.mpr hb]at t;refine mZ t ?_
  have:(λk=>if k=r then gP V m r else V k)=V:=funext λk=>by
   by_cases e:k=r
   .rw[bIv e,e];unfold gP;rw[bIt hb]
   .rw[bIt e]
  rw[this];rfl
theorem aIx{ks:List Nat}{V:Nat->Nat}{m:Nat}(hl:ks.length<1000)(hm:m∈ks):∀(rs:List Nat)(W:Nat->Nat)(x4:Option Sl),(∀r∈rs,r∈ks)->W m=V m->(∀r∈rs,W r=V r\/W r=gP V m r)->∃W' x4',forR (tgN 4) lZ (nats rs) (xR S n ks W x4 (some (.v (.int m))))=.ok (.nx (xR S n ks W' x4' (some (.v (.int m)))))/\∀r,W' r=if r∈rs then gP V m r else W r
 |[],W,x4,_,_,_=>⟨W,x4,rfl,λr=>by rw[bIt (by simp)]⟩
 |r::rs,W,x4,hs,hw,hv=>by
  have ho:gP W m r=gP V m r:=by
   rcases hv r bIm with h|h
   .unfold gP;rw[h,hw]
   .unfold gP at h ⊢;rw[h,hw]
    by_cases hb:(V r).testBit m=true
    .rw[bIv hb]
     by_cases hb2:(V r|||V m).testBit m=true
     .rw[bIv hb2,Nat.or_assoc,Nat.or_self]
     .rw[bIt hb2]
    .rw[bIt hb,bIt hb]
  have hom:gP V m m=V m:=by
   unfold gP;split
   .exact Nat.or_self _
   .rfl
  obtain⟨W',x4',e,h⟩:=aIx hl hm rs (λk=>if k=r then gP W m r else W k) (some (.v (.int r))) (λx hx=>hs x (bIl _ hx)) (by
   show (if m=r then gP W m r else W m)=V m
   by_cases e:m=r
   .rw[bIv e,ho,<-e,hom]
   .rw[bIt e,hw]) (λx hx=>by
   show (if x=r then gP W m r else W x)=V x\/(if x=r then gP W m r else W x)=gP V m x
   by_cases e:x=r
   .rw[bIv e,ho,e];exact .inr rfl
   .rw[bIt e];exact hv x (bIl _ hx))
  refine⟨W',x4',kW rfl (aSs hl (hs r bIm) hm) e,λx=>?_⟩
  rw[h x]
  by_cases hx:x∈rs
  .rw[bIv hx,bIv (bIl _ hx)]
  .rw[bIt hx]
   by_cases e:x=r
   .rw[bIv e,bIv (by rw[e];exact bIm),ho,e]
   .rw[bIt e,bIt (by simp[e,hx])]
def aGh{ks:List Nat}{V W:Nat->Nat}{x4 x5:Option Sl}(h:∀k∈ks,V k=W k):xR S n ks V x4 x5=xR S n ks W x4 x5:=by
 unfold xR;rw[bK8 λk hk=>congrArg (λx:Nat=>D.int (x:Int)) (h k hk)]
theorem aIy(hl:(aL n).length<1000):∀(ms:List Nat)(V:Nat->Nat)(x4 x5:Option Sl),(∀m∈ms,m∈aL n)->∃x4' x5',forR (tgN 5) yN (nats ms) (xR S n (aL n) V x4 x5)=.ok (.nx (xR S n (aL n) (ms.foldl gP V) x4' x5'))
 |[],V,x4,x5,_=>⟨x4,x5,rfl⟩
 |m::ms,V,x4,x5,hs=>by
  obtain⟨W,y4,e,h⟩:=aIx (S:=S) (n:=n) (V:=V) hl (hs m bIm) (aL n) V x4 (λr hr=>hr) rfl λr _=>.inl rfl
  obtain⟨z4,z5,e'⟩:=aIy hl ms (gP V m) y4 (some (.v (.int m))) λx hx=>hs x (bIl _ hx)
  refine⟨z4,z5,kW rfl (jG (L:=lZ) rfl e) ?_⟩;rw[aGh (W:=gP V m) λk hk=>by rw[h k,bIv hk]]
  exact e'
def aLz(M:Mch S rk c)(hn:n<2^S.length):jQ [.lst (stD S),.int n]=.ok (.dct false (nats (aL n)) ((aL n).map λr=>D.int (fW S c n r:Nat))):=by
 have n8:=M.most;have hro:=pO hn (by omega)
 have hlen:(aL n).length<=S.length:=jH S.length _ (dB _) λx hx=>bY hn hx
 obtain⟨x4,e1⟩:=aIw (n:=n) M (aL n) [] none (dB n) λr hr=>bY hn hr
 obtain⟨y4,y5,e2⟩:=aIy (S:=S) (n:=n) (by omega) (aL n) (qC S n) x4 none λm hm=>hm
 refine cB rfl (aM (st':=[some (.v (.lst (stD S))),some (.v (.int n)),some (.v (.lst (nats (aL n)))),none,none,none]) (bU (aW rfl hro)) (aM (st':=xR S n [] (qC S n) none none) rfl (aM (jG rfl e1) (aM (jG rfl e2) ?_))));rw[aGh λk hk=>aVl M hn hk]
 rfl
end
noncomputable def fP(S:List (List Nat))(c n r:Nat):Nat:=iQ ((aL (fW S c n r)).filter λg=>(fW S c n g).testBit r)
def roundN(S:List (List Nat))(m:Nat):Bool:=decide (1<(aL m).length)||decide ((aL m).headD 0∈S.getD ((aL m).headD 0) [])
noncomputable def dI(S:List (List Nat))(c n:Nat):List Nat:=(aL n).foldl (λps r=>if fP S c n r∉ps/\roundN S (fP S c n r)=true then ps++[fP S c n r] else ps) []
section
variable{S:List (List Nat)}{rk:List Nat}{c n:Nat}
def aQx{n:Nat}:fP S c n r<2^S.length:=vV λg hg=>bY zE (bJa.mp hg).1
def aVm(M:Mch S rk c) (hm:m<2^S.length) (h0:m≠0):qJ [.lst (stD S),.int m]=.ok (.bl (roundN S m)):=by
 have n8:=M.most;have hro:=pO hm (by omega)
 obtain⟨r,T,eT⟩:∃r T,aL m=r::T:=by
  cases h:aL m with
  |nil=>
   refine absurd ?_ h0;have:=gJ m;rw[h]at this;exact this.symm
  |cons r T=>exact⟨r,T,rfl⟩
 rw[eT]at hro;have hr:r<S.length:=bY hm (by rw[eT];exact bIm)
 refine cB rfl (aM (st':=[some (.v (.lst (stD S))),some (.v (.int m)),some (.v (.lst (nats (r::T))))]) (bU (aW rfl hro)) (dR ?_));have ln:e1 dG (aA 2) [some (.v (.lst (stD S))),some (.v (.int m)),some (.v (.lst (nats (r::T))))]=.ok (.int ((T.length+1:Nat):Int)):=by
  show R.ok (D.int (((nats (r::T)).length:Nat):Int))=_;rw[bF];rfl
 have v0:e2 dIx (aA 2) (eC (.int 0)) [some (.v (.lst (stD S))),some (.v (.int m)),some (.v (.lst (nats (r::T))))]=.ok (.int r):=aP rfl rfl (mF (atI_nat (i:=0) (by rw[bF];exact Nat.succ_pos _)))
 have hg:S.getD r []=S[r]:=by rw[bJq,bIj hr];rfl
 have t:=yW (aP ln (rfl:eC (.int 1) _=_) (rfl:dGt _ _=_)) λ_=>aP v0 (aP (rfl:aA 0 _=.ok (.lst (stD S))) v0 (mF (aBf hr))) (aVj r S[r])
 refine iV t ?_
 unfold roundN;rw[eT];show (decide ((1:Int)<((T.length+1:Nat):Int))||decide (r∈S[r]))=(decide (1<T.length+1)||decide (r∈S.getD r []))
 rw[hg];congr 1;exact bKm.mpr (by omega)
noncomputable def pst(S:List (List Nat))(c n:Nat)(ps:List Nat)(x4 x5:Option Sl):PSt:=[some (.v (.lst (stD S))),some (.v (.int n)),some (.v (.dct false (nats (aL n)) ((aL n).map λr=>D.int (fW S c n r:Nat)))),some (.o .l (nats ps)),x4,x5,none]
def aOj(M:Mch S rk c)(hn:n<2^S.length) (hr:r∈aL n) (ps:List Nat) (hps:ps.length<=1000) (x5:Option Sl):∃x5',pQ (pst S c n ps (some (.v (.int r))) x5)=.ok (.nx (pst S c n (if fP S c n r∉ps/\roundN S (fP S c n r)=true then ps++[fP S c n r] else ps) (some (.v (.int r))) x5')):=by
 have n8:=M.most;have hrl:=bY hn hr;have hrb:=bB.mp hr;have hro:=pO (zE (S:=S) (c:=c) (n:=n) (r:=r)) (by omega)
 have hin:∀g∈aL (fW S c n r),g∈aL n:=λg hg=>bB.mpr (aGg (al:=λg=>n.testBit g) hrb ((lR M hrl g).mp (bB.mp hg)))
 have gk:∀{g:Nat},g∈aL n->yD (nats (aL n)) ((aL n).map λr=>D.int (fW S c n r:Nat)) (.int g)=some (.int (fW S c n g:Nat)):=λ{g} h=>uT (λr=>D.int (fW S c n r:Nat)) h
 have hlen:(aL (fW S c n r)).length<=S.length:=jH S.length _ (dB _) λx hx=>bY zE hx
 have ce:=gK (tg:=tgN 6) (C:=wW) (E:=wV) (st:=pst S c n ps (some (.v (.int r))) x5) (q:=λg=>(fW S c n g).testBit r) (G:=λg=>.int g) (aL (fW S c n r)) (λg hg=>⟨_,rfl,aW (bV (aP rfl rfl (aA6 (gk (hin g hg)))) rfl) (aBg (fW S c n g) r),rfl⟩)
 have hi:itE (aN cD (aC (e2 dIx (aA 2) (aA 4)) aR)) (pst S c n ps (some (.v (.int r))) x5)=.ok (nats (aL (fW S c n r))):=uR (aW (bV (aP rfl rfl (aA6 (gk hr))) rfl) hro);have hcomp:=jV (is:=[6]) hi (by rw[bF];omega) ce
 have hbi:jP [.lst (nats ((aL (fW S c n r)).filter λg=>(fW S c n g).testBit r))]=.ok (.int (fP S c n r)):=aFh (λg hg=>by have:=bY zE (bJa.mp hg).1;omega) (by have:=bLl (λg=>(fW S c n g).testBit r) (aL (fW S c n r));omega)
 have hne:fP S c n r≠0:=λz=>by
  have:(fP S c n r).testBit r=true:=by
   unfold fP;rw[iR,bJf,bJa];have h0:(fW S c n r).testBit r=true:=(lR M hrl r).mpr .here;exact⟨bB.mpr h0,h0⟩
  rw[z,bMc]at this;cases this
 have hgo:=aVm M (aQx (S:=S) (c:=c) (n:=n) (r:=r)) hne;obtain⟨p1,p2,_⟩:=fG ps;refine⟨some (.v (.int (fP S c n r))),aM (st':=pst S c n ps (some (.v (.int r))) (some (.v (.int (fP S c n r))))) (bU (aW (bV hcomp rfl) hbi)) ?_⟩;have t:=pU (st:=pst S c n ps (some (.v (.int r))) (some (.v (.int (fP S c n r))))) (aP (f:=aA 5) (g:=kI 3) rfl rfl (show jA (.int (fP S c n r)) (.lst (nats ps))=.ok (.bl (!decide (fP S c n r∈ps))) by rw[<-vU];exact aF ⟨by rw[p2];exact bK6 60,rfl,p1⟩)) λ_=>aW (r:=aC (aA 0) (aC (aA 5) aR)) rfl hgo
 by_cases h:fP S c n r∉ps/\roundN S (fP S c n r)=true
 .rw[bIv h];refine aBd (iV t (by rw[bIs h.1,h.2];rfl)) ?_
  rw[yZ (xs:=nats ps) (d:=.int (fP S c n r)) rfl rfl (by rw[bF];omega),<-uU]
  rfl
 .rw[bIt h];refine mZ (iV t ?_) rfl;cases h1:roundN S (fP S c n r) with
  |false=>rw[Bool.and_false]
  |true=>rw[bIr (bJh λz=>h ⟨z,h1⟩)];rfl
theorem aGi(M:Mch S rk c)(hn:n<2^S.length):∀(rs:List Nat)(ps:List Nat)(x4 x5:Option Sl),(∀r∈rs,r∈aL n)->ps.length+rs.length<=1000->∃x4' x5',forR (tgN 4) pQ (nats rs) (pst S c n ps x4 x5)=.ok (.nx (pst S c n (rs.foldl (λps r=>if fP S c n r∉ps/\roundN S (fP S c n r)=true then ps++[fP S c n r] else ps) ps) x4' x5'))
 |[],ps,x4,x5,_,_=>⟨x4,x5,rfl⟩
 |r::rs,ps,x4,x5,h,hl=>by
  rw[bJ7]at hl;obtain⟨x5',e1⟩:=aOj M hn (h r bIm) ps (by omega) x5
  obtain⟨y4,y5,e2⟩:=aGi M hn rs (if fP S c n r∉ps/\roundN S (fP S c n r)=true then ps++[fP S c n r] else ps) (some (.v (.int r))) x5' (λr hr=>h r (bIl _ hr)) (by
   split
   .rw[bJ8,bJx];omega
   .omega)
  exact⟨y4,y5,kW rfl e1 e2⟩
def aM0(M:Mch S rk c)(hn:n<2^S.length):oK [.lst (stD S),.int n]=.ok (.lst (nats (dI S c n))):=by
 have n8:=M.most;have hro:=pO hn (by omega)
 have hlen:(aL n).length<=S.length:=jH S.length _ (dB _) λx hx=>bY hn hx
 obtain⟨y4,y5,e⟩:=aGi M hn (aL n) [] none none (λ_ h=>h) (by simp;omega)
 exact cB rfl (aM (bU (aW rfl (aLz M hn))) (aM (st':=pst S c n [] none none) (sS (eQ rfl)) (aM (jG (uR (aW rfl hro)) e) rfl)))
def aGj(M:Mch S rk c)(hn:n<2^S.length):jR [mD S rk c,.int n]=.ok (.lst (nats (dI S c n))):=
 cB rfl (dR (aW (bV (show nM "Machine" "steps" (mD S rk c)=_ from qP) rfl) (aM0 M hn)))
end
section
variable{S:List (List Nat)}{rk:List Nat}{c n:Nat}
def aGk:nM "Machine" "ranks" (mD S rk c)=.ok (.lst (nats rk)):=by unfold mD;rw[aG2,aF rfl];rfl
theorem aFi:∀(l m:List Nat),gC (nats l) (nats m)=decide (l=m)
 |[],[]=>by simp[nats,gC]
 |[],y::m=>by simp[nats,gC]
 |x::l,[]=>by simp[nats,gC]
 |x::l,y::m=>by
  rw[aDm,aDm];unfold gC;rw[aFi l m]
  by_cases h:x=y
  .subst h;simp[eqD]
  .have:¬ (x:Int)=(y:Int):=by omega
   simp[eqD,h,this]
def Rch.mono{al':Nat->Bool}(m:∀g,al g=true->al' g=true){a b:Nat}(h:Rch S c al a b):Rch S c al' a b:=by
 induction h with
 |here=>exact .here
 |on _ hl ha ih=>exact .on ih hl (m _ ha)
def inN(n:Nat):Nat->Bool:=λg=>n.testBit g
def Mut(S:List (List Nat))(c n a b:Nat):Prop:=Rch S c (inN n) a b/\Rch S c (inN n) b a
def jW(M:Mch S rk c){g:Nat}(hr:r<S.length):(fP S c n r).testBit g=true↔Mut S c n r g:=by
 unfold fP;rw[iR,bJf,bJa,bB,lR M hr];constructor
 .rintro⟨h1,h2⟩;exact⟨h1,(lR M (aDo M hr h1) r).mp h2⟩
 .rintro⟨h1,h2⟩;exact⟨h1,(lR M (aDo M hr h1) r).mpr h2⟩
def aM1(M:Mch S rk c){g:Nat}(hr:r<S.length)(h:Rch S c (inN n) r g)(hb:Rch S c (inN n) g r):Rch S c (inN (fP S c n r)) r g:=by
 induction h with
 |here=>exact .here
 |on h1 hl ha ih=>
  rename_i y l;have hy:Rch S c (inN n) y r:=Rch.trans (.on .here hl ha) hb;exact .on (ih hy) hl ((jW M hr).mpr ⟨.on h1 hl ha,hb⟩)
def Mut.symm{a b:Nat}(h:Mut S c n a b):Mut S c n b a:=⟨h.2,h.1⟩
theorem Mut.trans{a b d:Nat}(h1:Mut S c n a b)(h2:Mut S c n b d):Mut S c n a d:=⟨Rch.trans h1.1 h2.1,Rch.trans h2.2 h1.2⟩
def aM2(M:Mch S rk c){g:Nat}(hr:r<S.length)(h:Mut S c n r g):fP S c n g=fP S c n r:=bKj λx=>by
 have hg:=aDo M hr h.1;have e:(fP S c n g).testBit x=true↔(fP S c n r).testBit x=true:=by
  rw[jW M hg,jW M hr];exact⟨λz=>h.trans z,λz=>h.symm.trans z⟩
 cases h1:(fP S c n g).testBit x with
 |true=>exact(e.mp h1).symm
 |false=>
  cases h2:(fP S c n r).testBit x with
  |true=>rw[e.mpr h2]at h1;cases h1
  |false=>rfl
def LpN(S:List (List Nat))(c n:Nat):Prop:=n≠0/\(∀a∈aL n,∀b∈aL n,Rch S c (inN n) a b)/\roundN S n=true
theorem aM3(f:Nat->Nat)(q:Nat->Bool):∀(rs ps:List Nat)(m:Nat),m∈rs.foldl (λps r=>if f r∉ps/\q (f r)=true then ps++[f r] else ps) ps↔m∈ps\/∃r∈rs,f r=m/\q m=true
 |[],ps,m=>by simp
 |r::rs,ps,m=>by
  rw[bM5,aM3 f q rs]
  by_cases h:f r∉ps/\q (f r)=true
  .rw[bIv h];constructor
   .rintro(h1|⟨r',h1,h2⟩)
    .rcases bJb.mp h1 with h1|h1
     .exact .inl h1
     .rw[bIu]at h1;exact .inr ⟨r,bIm,h1.symm,by rw[h1];exact h.2⟩
    .exact .inr ⟨r',bIl _ h1,h2⟩
   .rintro(h1|⟨r',h1,h2,h3⟩)
    .exact .inl (bIw _ h1)
    .rcases bIq.mp h1 with rfl|h1
     .exact .inl (bIo _ (by rw[h2];simp))
     .exact .inr ⟨r',h1,h2,h3⟩
  .rw[bIt h];constructor
   .rintro(h1|⟨r',h1,h2⟩)
    .exact .inl h1
    .exact .inr ⟨r',bIl _ h1,h2⟩
   .rintro(h1|⟨r',h1,h2,h3⟩)
    .exact .inl h1
    .rcases bIq.mp h1 with rfl|h1
     .refine .inl (bJh λz=>h ⟨by rw[h2];exact z,by rw[h2];exact h3⟩)
     .exact .inr ⟨r',h1,h2,h3⟩
def uV:m∈dI S c n↔∃r∈aL n,fP S c n r=m/\roundN S m=true:=by
 unfold dI;rw[aM3 (λr=>fP S c n r) (roundN S)]
 simp
theorem aM4(f:Nat->Nat)(q:Nat->Bool)(m:Nat):∀(rs:List Nat),(∀r∈rs,f r=m)->rs.foldl (λps r=>if f r∉ps/\q (f r)=true then ps++[f r] else ps) [m]=[m]
 |[],_=>rfl
 |r::rs,h=>by
  rw[bM5,bIt λz=>z.1 (by rw[h r bIm];simp)]
  exact aM4 f q m rs λr hr=>h r (bIl _ hr)
def aZn(M:Mch S rk c) (hn:n<2^S.length) (hr:r∈aL n) {g:Nat} (hg:g∈aL (fP S c n r)):g∈aL n:=by
 have h:=(jW M (bY hn hr)).mp (bB.mp hg);exact bB.mpr (aGg (al:=inN n) (bB.mp hr) h.1)
def aVn(M:Mch S rk c) (hn:n<2^S.length) (hr:r∈aL n):r∈aL (fP S c n r):=bB.mpr ((jW M (bY hn hr)).mpr ⟨.here,.here⟩)
def aSt(M:Mch S rk c)(hn:n<2^S.length):dI S c n=[n]↔LpN S c n:=by
 constructor
 .intro h;have hm:n∈dI S c n:=by rw[h];simp
  obtain⟨r,hr,e,hq⟩:=uV.mp hm;have hrl:=bY hn hr;refine⟨(λz=>by rw[z]at hr;rw[bB,bMc]at hr;cases hr),λa ha b hb=>?_,hq⟩
  have ha':=(jW (n:=n) M hrl).mp (by rw[e];exact bB.mp ha)
  have hb':=(jW (n:=n) M hrl).mp (by rw[e];exact bB.mp hb)
  exact Rch.trans ha'.2 hb'.1
 .rintro⟨h0,hs,hq⟩;have all:∀r∈aL n,fP S c n r=n:=λr hr=>bKj λg=>by
   have e:(fP S c n r).testBit g=true↔n.testBit g=true:=by
    rw[jW M (bY hn hr)];constructor
    .exact λz=>aGg (al:=inN n) (bB.mp hr) z.1
    .exact λz=>⟨hs r hr g (bB.mpr z),hs g (bB.mpr z) r hr⟩
   cases h1:(fP S c n r).testBit g with
   |true=>exact(e.mp h1).symm
   |false=>
    cases h2:n.testBit g with
    |true=>rw[e.mpr h2]at h1;cases h1
    |false=>rfl
  unfold dI;cases h:aL n with
  |nil=>
   refine absurd ?_ h0;have:=gJ n;rw[h]at this;exact this.symm
  |cons r T=>
   rw[h]at all;have er:=all r bIm;rw[bM5,bIv ⟨by simp,by rw[er];exact hq⟩,er,bMl]
   exact aM4 (λr=>fP S c n r) (roundN S) n T λr hr=>all r (bIl _ hr)
def aSu(M:Mch S rk c) (hn:n<2^S.length) (hr:r∈aL n) (hq:roundN S (fP S c n r)=true):LpN S c (fP S c n r):=by
 have hrl:=bY hn hr;refine⟨(λz=>by have:=aVn M hn hr;rw[z,bB,bMc]at this;cases this),λa ha b hb=>?_,hq⟩
 have ha':=(jW M hrl).mp (bB.mp ha);have hb':=(jW M hrl).mp (bB.mp hb);have hal:=aDo M hrl ha'.1;have h1:=aM1 (n:=n) M hal ha'.2 ha'.1;rw[aM2 M hrl ha']at h1;exact Rch.trans h1 (aM1 M hrl hb'.1 hb'.2)
def aZo(M:Mch S rk c){m:Nat}(hn:n<2^S.length)(hm:LpN S c m)(hs:∀g∈aL m,g∈aL n)(hr:r∈aL m):∀g∈aL m,g∈aL (fP S c n r):=λg hg=>by
 have up:∀{a b:Nat},Rch S c (inN m) a b->Rch S c (inN n) a b:=λh=>Rch.mono (λg hg=>bB.mp (hs g (bB.mpr hg))) h
 exact bB.mpr ((jW M (bY hn (hs r hr))).mpr ⟨up (hm.2.1 r hr g hg),up (hm.2.1 g hg r hr)⟩)
end
def aQy{l:List Int}(h:l≠[]):yG l∈l/\∀x∈l,x<=yG l:=by
 cases l with
 |nil=>exact(h rfl).elim
 |cons i r=>
  obtain⟨h1,h2,h3⟩:=aDd r i;refine⟨?_,λx hx=>?_⟩
  .rcases h3 with h3|h3
   .show r.foldl _ i∈_;rw[h3];exact bIm
   .exact bIl _ h3
  .rcases bIq.mp hx with rfl|hx
   .exact h1
   .exact h2 x hx
section
variable{S:List (List Nat)}{rk:List Nat}{c n:Nat}
def fH(rk:List Nat)(n:Nat):Int:=yG ((aL n).map λr=>(rk.getD r 0:Int))
def aVo(M:Mch S rk c)(hn:n<2^S.length)(h0:n≠0):qW [mD S rk c,.int n]=.ok (.int (fH rk n)):=by
 have n8:=M.most;have hro:=pO hn (by omega)
 have hlen:(aL n).length<=S.length:=jH S.length _ (dB _) λx hx=>bY hn hx
 have hpos:0<(aL n).length:=by
  cases h:aL n with
  |nil=>
   refine absurd ?_ h0;have:=gJ n;rw[h]at this;exact this.symm
  |cons r T=>simp
 have ce:=aA3 (tg:=tgN 2) (c:=dM) (f:=qK) (st:=[some (.v (mD S rk c)),some (.v (.int n)),none]) (λd=>match d with|.int i=>.int (rk.getD i.toNat 0:Nat)|d=>d) (nats (aL n)) λd hd=>by
  obtain⟨r,hr,rfl⟩:=zA hd;have hr':r<rk.length:=by rw[M.rks];exact bY hn hr
  have ea:atI (nats rk) (r:Int)=some (.int (rk.getD r 0:Nat)):=by
   rw[atI_nat (by rw[bF];exact hr')]
   simp[nats,getD_eq_getElem?_getD,List.getElem?_eq_getElem hr']
  refine⟨_,rfl,rfl,?_⟩;simp[qK,aGk,ea]
 have em:(nats (aL n)).map (λd=>match d with|.int i=>D.int (rk.getD i.toNat 0:Nat)|d=>d)=((aL n).map λr=>(rk.getD r 0:Int)).map D.int:=by
  unfold nats;simp[Function.comp_def]
 rw[em]at ce;have hc:cC [2] (tgN 2) (itE (aN cD (aC (aA 1) aR))) dM qK [some (.v (mD S rk c)),some (.v (.int n)),none]=.ok (.lst (((aL n).map λr=>(rk.getD r 0:Int)).map D.int)):=by
  have hi:itE (aN cD (aC (aA 1) aR)) [some (.v (mD S rk c)),some (.v (.int n)),none]=.ok (nats (aL n)):=by simp[hro]
  rw[yF,hi];simp only[aH,bF];rw[aF (dN (by omega)),show clr [2] [some (Sl.v (mD S rk c)),some (.v (.int n)),none]=[some (.v (mD S rk c)),some (.v (.int n)),none] from rfl,ce]
  rfl
 refine cB rfl ?_
 unfold aB8;have h0':¬ (n:Int)=0:=by omega
 refine iM (by simp[h0',h0]) ?_
 show cM _ [some (.v (mD S rk c)),some (.v (.int n)),none]=_;rw[qH,bBm,hc];have hm:aEh (.lst (((aL n).map λr=>(rk.getD r 0:Int)).map D.int))=.ok (.int (fH rk n)):=by
  show (rW _).bind _=_;rw[nR,aH,aF (by rw[bJ9];exact hpos)]
  rfl
 rw[aH,hm];rfl
end
section
def aOk(M:Mch S rk c)(hn:n<2^S.length):uP [mD S rk c,.int n]=.ok (.bl (decide (dI S c n=[n]))):=by
 have e:=aGj M hn;obtain⟨p1,p2,_⟩:=fG (dI S c n);have h:=aFi (dI S c n) [n];refine cB rfl ?_
 unfold aDk;have e1:[D.int (n:Int)]=nats [n]:=rfl;simp[e,p1,p2];rw[e1,h]
end
section
def aZp(M:Mch S rk c)(hn:n<2^S.length)(h0:n≠0):gD [mD S rk c,.int n]=.ok (.bl (decide (fH rk n%2=0))):=by
 have e:=aVo M hn h0;refine cB rfl ?_
 unfold aDj
 by_cases h:fH rk n%2=0
 .simp[e,h]
 .simp[e,h]
end
def cvL(ns:List Int)(k:Nat):Int:=if k<ns.length then ns.getD k 0 else if ns.length=0 then 7919*(k:Int) else ns.getD (k%ns.length) 0/((k:Int)+1)+7919*(k:Int)
def aQz{k:Nat}(h:k<ns.length):atI (ns.map D.int) (k:Int)=some (.int (ns.getD k 0)):=by
 rw[atI_nat (by simpa using h)]
 simp[getD_eq_getElem?_getD,List.getElem?_eq_getElem h]
theorem aGl:∀ns:List Int,cQ (ns.map D.int)=true/\iH (ns.map D.int)=0
 |[]=>⟨rfl,by simp⟩
 |x::ns=>by
  obtain⟨h1,h2⟩:=aGl ns;rw[bJ5];exact⟨by simp[h1],by simp[h2]⟩
def aVp(ns:List Int):gC (ns.map D.int) []=decide (ns.length=0):=by
 cases ns<;>simp[gC]
def aVq(ns:List Int)(k:Nat)(hk:k<=100000):gO [.lst (ns.map D.int),.int k]=.ok (.int (cvL ns k)):=by
 have ln:e1 dG (aA 0) [some (.v (.lst (ns.map D.int))),some (.v (.int k))]=.ok (.int (ns.length:Nat)):=by
  show R.ok (D.int (((ns.map D.int).length:Nat):Int))=_;rw[bJ9]
 have m7:∀i:Int,pK (.int 7919) (.int i)=.ok (.int (7919*i)):=λi=>aF (.inl (by decide))
 refine cB rfl ?_
 unfold cvL
 by_cases h:k<ns.length
 .rw[bIv h];exact aGa (aBd (aP rfl ln (by show R.ok (D.bl (decide ((k:Int)<(ns.length:Nat))))=_;rw[bD8 h])) (dR (aP rfl rfl (mF (aQz h)))))
 .rw[bIt h];obtain⟨p1,p2⟩:=aGl ns;have t2:e2 dEq (aA 0) (fQ aR) [some (.v (.lst (ns.map D.int))),some (.v (.int k))]=.ok (.bl (decide (ns.length=0))):=aP rfl (eQ rfl) (by
   rw[<-aVp];exact aF ⟨by show iH (ns.map D.int)+1<=64;rw[p2];decide,p1,rfl⟩)
  refine aM (mZ (aP rfl ln (by show R.ok (D.bl (decide ((k:Int)<(ns.length:Nat))))=_;rw[bD9 h])) rfl) ?_
  by_cases h0:ns.length=0
  .rw[bIv h0];exact aGa (aBd (iV t2 (bIr h0)) (dR (aP rfl rfl (m7 _))))
  .rw[bIt h0];have hm:k%ns.length<ns.length:=Nat.mod_lt _ (Nat.pos_of_ne_zero h0);have ec:((k%ns.length:Nat):Int)=(k:Int)%(ns.length:Nat):=by push_cast;rfl
   have e:=aQz hm;rw[ec]at e;exact aM (mZ (iV t2 (bIs h0)) rfl) (dR (aP (aP (aP rfl (aP rfl ln (aBe (by omega))) (mF e)) (aP rfl rfl rfl) (aK2 ⟨by omega,by omega⟩)) (aP rfl rfl (m7 _)) rfl))
def aDp(ns:List Int)(i:Int)(h:0<=i)(hi:i<=100000):gO [.lst (ns.map D.int),.int i]=.ok (.int (cvL ns i.toNat)):=by
 have:=aVq ns i.toNat (by omega)
 rwa [bLo h]at this
def aBi(c k m:Int):Int:=
 let a:=(c%2147483647+7919*k)*48271%2147483629
 let b:=a*a%2147483647*69621%2147483587
 b*b%2147483629%m
def vW(c k:Int){m:Int}(h:0<m):0<=aBi c k m/\aBi c k m<m:=⟨bMp _ (by omega),bM7 _ h⟩
def oV(c k m:Int)(h:0<m):cA [.int c,.int k,.int m]=.ok (.int (aBi c k m)):=by
 unfold cA aB5 aBi;have a0:∀x:Int,0<=x%2147483629:=λx=>bMp _ (by decide)
 have a1:∀x:Int,x%2147483629<2147483629:=λx=>bM7 _ (by decide)
 have b0:∀x:Int,0<=x%2147483587:=λx=>bMp _ (by decide)
 have b1:∀x:Int,x%2147483587<2147483587:=λx=>bM7 _ (by decide)
 generalize hA:(c%2147483647+7919*k)*48271%2147483629=a;have h1:=a0 ((c%2147483647+7919*k)*48271);have h2:=a1 ((c%2147483647+7919*k)*48271);rw[hA]at h1 h2;generalize hB:a*a%2147483647*69621%2147483587=b;have h3:=b0 (a*a%2147483647*69621);have h4:=b1 (a*a%2147483647*69621);rw[hB]at h3 h4;have g1 : -18446744073709551616<a:=by omega
 have g2:a<18446744073709551616:=by omega
 have g3 : -18446744073709551616<b:=by omega
 have g4:b<18446744073709551616:=by omega
 simp[hA,g1,g2,hB,g3,g4,h]
section
variable{ns:List Int}{cl f:Int}{n c:Nat}
def mst(ns:List Int)(mo cl f:Int)(n c:Nat)(S rk:List D)(x9 x10 x11 x12:Option Sl):PSt:=
 [some (.v (.lst (ns.map D.int))),some (.v (.int 0)),some (.v (.int mo)),some (.v (.int cl)),some (.v (.int n)),some (.v (.int c)),some (.v (.int f)),some (.o .l S),some (.o .l rk),x9,x10,x11,x12,none]
def aVr(r:List Nat)(k v:Nat):(nats r).set k (.int (v:Int))=nats (r.set k v):=by
 unfold nats;rw[List.map_set]
def aZq(S:List (List Nat))(r:List Nat):stD (S++[r])=stD S++[.lst (nats r)]:=by unfold stD;simp
def aSv(rk:List Nat){v:Int}(h:0<=v):nats (rk++[v.toNat])=nats rk++[.int v]:=by
 unfold nats;rw[bJs,bMz,bLo h]
def aZr{v f:Int}(h0:0<=v)(h7:v<7):pK (.int v) (.int f)=.ok (.int (v*f)):=aF (.inl ⟨by omega,by omega⟩)
def bDe{e:Ex}{st:PSt} {j:Int} (he:e st=.ok d) (hg:g st=.ok (.int j)) (hs:st[i]?=some (some (.o .l xs))) (h0:0<=j) (h1:j<xs.length):aUt i g e st=.ok (.nx (st.set i (some (.o .l (xs.set j.toNat d))))):=by
 have:ixN xs.length j=some j.toNat:=by
  unfold ixN;rw[bIv h0,bIv h1]
 rw[aZa,he,aH,hg,aH,hs];show R.bind (ofO (ixN xs.length j)) _=_;rw[this];rfl
def aOl(mo:Int)(hf:0<=f)(hn:1<=n/\n<=8)(hc:1<=c/\c<=3)(S:List (List Nat))(rk:List Nat)(hS:S.length<=1000)(hrk:rk.length<=1000)(x:Nat)(hx:x<n)(x10 x11 x12:Option Sl) :
  ∃r v y10 y11 y12,jO (mst ns mo cl f n c (stD S) (nats rk) (some (.v (.int x))) x10 x11 x12)=.ok (.nx (mst ns mo cl f n c (stD (S++[r])) (nats (rk++[v])) (some (.v (.int x))) y10 y11 y12))/\r.length=c/\∀z∈r,z<n:=by
 have hcell:=aDp ns (0+2+x) (by omega) (by omega)
 generalize cvL ns (0+2+(x:Int)).toNat=one at hcell;have n0:(0:Int)<n:=by omega
 have c0:(0:Int)<c:=by omega
 obtain⟨r0,e0,l0,b0⟩:=aIq (E:=uK) (st:=mst ns mo cl f n c (stD S) (nats rk) (some (.v (.int x))) (some (.v (.int one))) x11 x12) (j:=13) (v:=5) (n:=c) (m:=n) rfl (by omega) (λk hk=>⟨aBi one (11+k) n,aW rfl (oV _ _ _ n0),vW _ _ n0⟩)
 have m0:=oV one 10 7 (by decide)
 obtain⟨m1,m2⟩:=vW one 10 (m:=7) (by decide)
 generalize aBi one 10 7=rv at m0 m1 m2;obtain⟨r1,e1',l1,b1⟩:=aIq (E:=jN) (st:=mst ns mo cl f n c (stD S) (nats rk) (some (.v (.int x))) (some (.v (.int one))) (some (.o .l (nats r0))) (some (.v (.int rv)))) (j:=13) (v:=5) (n:=c) (m:=n) rfl (by omega) (λk hk=>by
  have go:∀w:Int,0<w/\w<1073741824->atI [D.int 1,.int 8,.int 64] (k:Int)=some (.int w)->∃i,jN (((mst ns mo cl f n c (stD S) (nats rk) (some (.v (.int x))) (some (.v (.int one))) (some (.o .l (nats r0))) (some (.v (.int rv)))).set 13 none).set 13 (some (.v (.int k))))=.ok (.int i)/\0<=i/\i<n:=λw hw ha=>by
   refine⟨one/w%n,aP (aP rfl (aP (eQ rfl) rfl (?_:_=R.ok (D.int w))) (aK2 hw)) rfl (aBe n0),bMp _ (by omega),bM7 _ n0⟩
   show ofO (atI [D.int 1,.int 8,.int 64] (k:Int))=_;rw[ha];rfl
  have h3:k=0\/k=1\/k=2:=by omega
  rcases h3 with rfl|rfl|rfl
  .exact go 1 (by decide) rfl
  .exact go 8 (by decide) rfl
  .exact go 64 (by decide) rfl)
 have m6:=oV cl 6 2 (by decide)
 have m3:=oV cl 3 2 (by decide)
 have m8:=oV one 8 4 (by decide)
 have m9:=oV one 9 c c0;obtain⟨m91,m92⟩:=vW one 9 (m:=c) c0;have up:∀{r:List Nat}{v:Int}(b:Bd),0<=v->v<7->r.length=c->(∀z∈r,z<n)->b (mst ns mo cl f n c (stD S) (nats rk) (some (.v (.int x))) (some (.v (.int one))) (some (.o .l (nats r0))) (some (.v (.int rv))))=.ok (.nx (mst ns mo cl f n c (stD S) (nats rk) (some (.v (.int x))) (some (.v (.int one))) (some (.o .l (nats r))) (some (.v (.int v)))))->
   ∃r v y10 y11 y12,(bG b (bG (sFz [11] (aAi 7 (aA 11))) (aAi 8 (e2 pK (aA 12) (aA 6))))) (mst ns mo cl f n c (stD S) (nats rk) (some (.v (.int x))) (some (.v (.int one))) (some (.o .l (nats r0))) (some (.v (.int rv))))=.ok (.nx (mst ns mo cl f n c (stD (S++[r])) (nats (rk++[v])) (some (.v (.int x))) y10 y11 y12))/\r.length=c/\∀z∈r,z<n:=λ{r v} b h0 h7 hl hr h=>by
  refine⟨r,(v*f).toNat,some (.v (.int one)),some (.v (.lst (nats r))),some (.v (.int v)),aM h ?_,hl,hr⟩;rw[aZq,aSv rk (Int.mul_nonneg h0 hf)];refine aM (st':=mst ns mo cl f n c (stD S++[.lst (nats r)]) (nats rk) (some (.v (.int x))) (some (.v (.int one))) (some (.v (.lst (nats r)))) (some (.v (.int v)))) ?_ ?_
  .exact yZ (st:=mst ns mo cl f n c (stD S) (nats rk) (some (.v (.int x))) (some (.v (.int one))) (some (.v (.lst (nats r)))) (some (.v (.int v)))) rfl rfl (by rw[iW];omega)
  .exact yZ (aP rfl rfl (aZr h0 h7)) rfl (by rw[bF];omega)
 have key:∃r v y10 y11 y12,(bG (sIf (e2 dEq (aN cA (aC (aA 3) (aC (eC (.int 6)) (aC (eC (.int 2)) aR)))) (eC (.int 0))) (bG (pY 11 (cC [13] (tgN 13) (xP (aA 5)) dM jN)) (cR 12 (e2 qF (e2 aFx (aA 10) (eC (.int 512))) (eC (.int 7))))) (sIf (qG (e2 dEq (aN cA (aC (aA 3) (aC (eC (.int 3)) (aC (eC (.int 2)) aR)))) (eC (.int 0))) (e2 dGt (aN cA (aC (aA 10) (aC (eC (.int 8)) (aC (eC (.int 4)) aR)))) (eC (.int 0)))) (aUt 11 (aN cA (aC (aA 10) (aC (eC (.int 9)) (aC (aA 5) aR)))) (e2 qF (e2 nJ (aA 9) (eC (.int 1))) (aA 4))) cZ)) (bG (sFz [11] (aAi 7 (aA 11))) (aAi 8 (e2 pK (aA 12) (aA 6))))) (mst ns mo cl f n c (stD S) (nats rk) (some (.v (.int x))) (some (.v (.int one))) (some (.o .l (nats r0))) (some (.v (.int rv))))=.ok (.nx (mst ns mo cl f n c (stD (S++[r])) (nats (rk++[v])) (some (.v (.int x))) y10 y11 y12))/\r.length=c/\∀z∈r,z<n:=by
  have t6:=aP (op:=dEq) (f:=aN cA (aC (aA 3) (aC (eC (.int 6)) (aC (eC (.int 2)) aR)))) (g:=eC (.int 0)) (st:=mst ns mo cl f n c (stD S) (nats rk) (some (.v (.int x))) (some (.v (.int one))) (some (.o .l (nats r0))) (some (.v (.int rv)))) (aW rfl m6) rfl (aDl _ _)
  by_cases h6:aBi cl 6 2=0
  .rw[bIr h6]at t6;refine up (r:=r1) (v:=one/512%7) _ (bMp _ (by decide)) (bM7 _ (by decide)) l1 (λz hz=>by have:=b1 z hz;omega) (aBd t6 ?_)
   exact aM (st':=mst ns mo cl f n c (stD S) (nats rk) (some (.v (.int x))) (some (.v (.int one))) (some (.o .l (nats r1))) (some (.v (.int rv)))) (sS e1') (bU (aP (aP rfl rfl (aK2 (by decide))) rfl (aBe (by decide))))
  .rw[bIs h6]at t6;have t3:=pU (st:=mst ns mo cl f n c (stD S) (nats rk) (some (.v (.int x))) (some (.v (.int one))) (some (.o .l (nats r0))) (some (.v (.int rv)))) (aP (aW (r:=aC (aA 3) (aC (eC (.int 3)) (aC (eC (.int 2)) aR))) rfl m3) (rfl:eC (.int 0) _=_) (aDl _ _)) (λ_=>aP (op:=dGt) (aW (r:=aC (aA 10) (aC (eC (.int 8)) (aC (eC (.int 4)) aR))) rfl m8) (rfl:eC (.int 0) _=_) rfl)
   cases h3:decide (aBi cl 3 2=0)&&decide (0<aBi one 8 4) with
   |true=>
    rw[h3]at t3;have hv:((x:Int)+1)%n=(((x+1)%n:Nat):Int):=by push_cast;rfl
    have hp:=aVr r0 (aBi one 9 c).toNat ((x+1)%n);rw[<-hv]at hp;refine up (r:=r0.set (aBi one 9 c).toNat ((x+1)%n)) (v:=rv) _ m1 m2 (by rw[bJy];exact l0) (λz hz=>by
     rcases List.mem_or_eq_of_mem_set hz with hz|rfl
     .have:=b0 z hz;omega
     .exact Nat.mod_lt _ (by omega)) (mZ t6 (aBd t3 ?_))
    rw[<-hp];exact bDe (aP (aP rfl rfl rfl) rfl (aBe n0)) (aW rfl m9) rfl m91 (by rw[bF,l0];exact m92)
   |false=>
    rw[h3]at t3;exact up (r:=r0) (v:=rv) _ m1 m2 l0 (λz hz=>by have:=b0 z hz;omega) (mZ t6 (mZ t3 rfl))
 obtain⟨r,v,y10,y11,y12,hk,hl,hr⟩:=key;refine⟨r,v,y10,y11,y12,?_,hl,hr⟩;exact aM (st':=mst ns mo cl f n c (stD S) (nats rk) (some (.v (.int x))) (some (.v (.int one))) x11 x12) (bU (aW rfl hcell)) (aM (st':=mst ns mo cl f n c (stD S) (nats rk) (some (.v (.int x))) (some (.v (.int one))) (some (.o .l (nats r0))) x12) (sS e0) (aM (st':=mst ns mo cl f n c (stD S) (nats rk) (some (.v (.int x))) (some (.v (.int one))) (some (.o .l (nats r0))) (some (.v (.int rv)))) (bU (aW rfl m0)) hk))
theorem aGm(mo:Int)(hf:0<=f)(hn:1<=n/\n<=8)(hc:1<=c/\c<=3):∀(ks:List Nat) (S:List (List Nat)) (rk:List Nat) (x9 x10 x11 x12:Option Sl),(∀x∈ks,x<n)->S.length+ks.length<=1000->rk.length=S.length->(∀r∈S,r.length=c/\∀z∈r,z<n)->
  ∃S' rk' y9 y10 y11 y12,forR (tgN 9) jO (ks.map λ(k:Nat)=>D.int (k:Int)) (mst ns mo cl f n c (stD S) (nats rk) x9 x10 x11 x12)=.ok (.nx (mst ns mo cl f n c (stD S') (nats rk') y9 y10 y11 y12))/\S'.length=S.length+ks.length/\rk'.length=S'.length/\∀r∈S',r.length=c/\∀z∈r,z<n
 |[],S,rk,x9,x10,x11,x12,_,_,he,hr=>⟨S,rk,x9,x10,x11,x12,rfl,rfl,he,hr⟩
 |x::ks,S,rk,x9,x10,x11,x12,hk,hl,he,hr=>by
  rw[bJ7]at hl;obtain⟨r,v,y10,y11,y12,t,tl,tr⟩:=aOl (ns:=ns) (cl:=cl) mo hf hn hc S rk (by omega) (by omega) x (hk x bIm) x10 x11 x12
  obtain⟨S',rk',z9,z10,z11,z12,e,h1,h2,h3⟩:=aGm mo hf hn hc ks (S++[r]) (rk++[v]) (some (.v (.int x))) y10 y11 y12 (λx hx=>hk x (bIl _ hx)) (by rw[bJ8,bJx];omega) (by rw[bJ8,bJ8,bJx,bJx,he]) (λr' hr'=>by
   rcases bJb.mp hr' with h|h
   .exact hr r' h
   .rw[bIu.mp h];exact⟨tl,tr⟩)
  refine⟨S',rk',z9,z10,z11,z12,?_,by rw[h1,bJ8,bJx,bJ7];omega,h2,h3⟩
  rw[<-e,bJ5,nQ];show (jO (mst ns mo cl f n c (stD S) (nats rk) (some (.v (.int x))) x10 x11 x12)).bind _=_;rw[t];rfl
end
def bBs{xs:List D}{a:Int}(h:xs.length=4)(h0:0<=a)(h1:a<4):∃d∈xs,dIx (.lst xs) (.int a)=.ok d:=by
 obtain⟨d,hd,e⟩:=aZf h0 (show a<xs.length by omega)
 exact⟨d,hd,by show ofO (atI xs a)=_;rw[e];rfl⟩
def aVs(ns:List Int){mo:Int}(h1:1<=mo)(h8:mo<=8):∃S rk c,jB [.lst (ns.map D.int),.int 0,.int mo]=.ok (.tup [.lst (stD S),.lst (nats rk)])/\Mch S rk c:=by
 have hc0:=aDp ns 0 (by decide) (by decide)
 have hc1:=aDp ns (0+1) (by decide) (by decide)
 generalize cvL ns (0:Int).toNat=cl at hc0;generalize cvL ns (0+1:Int).toNat=cl1 at hc1
 let st (x3 x4 x5 x6 x7 x8:Option Sl):PSt:=[some (.v (.lst (ns.map D.int))),some (.v (.int 0)),some (.v (.int mo)),x3,x4,x5,x6,x7,x8,none,none,none,none,none]
 obtain⟨w,hw,w1,w8⟩:∃w:Int,e2 dIx (fQ (aC (eC (.int 4)) (aC (eC (.int 5)) (aC (eC (.int 5)) (aC (aA 2) aR))))) (aN cA (aC (aA 3) (aC (eC (.int 5)) (aC (eC (.int 4)) aR)))) (st (some (.v (.int cl))) none none none none none)=.ok (.int w)/\1<=w/\w<=8:=by
  obtain⟨a1,a2⟩:=vW cl 5 (m:=4) (by decide)
  obtain⟨d,hd,e⟩:=bBs (xs:=[.int 4,.int 5,.int 5,.int mo]) rfl a1 a2;have:∃w:Int,d=.int w/\1<=w/\w<=8:=by
   simp only[mem_cons,not_mem_nil,or_false]at hd;rcases hd with rfl|rfl|rfl|rfl
   .exact⟨4,rfl,by decide,by decide⟩
   .exact⟨5,rfl,by decide,by decide⟩
   .exact⟨5,rfl,by decide,by decide⟩
   .exact⟨mo,rfl,h1,h8⟩
  obtain⟨w,rfl,hw⟩:=this;exact⟨w,aP (eQ rfl) (aW rfl (oV cl 5 4 (by decide))) e,hw⟩
 have m1:=oV cl 1 w (by omega)
 obtain⟨m11,m12⟩:=vW cl 1 (m:=w) (by omega)
 have m2:=oV cl 2 3 (by decide)
 obtain⟨m21,m22⟩:=vW cl 2 (m:=3) (by decide)
 obtain⟨n,hn⟩:∃n:Nat,1+aBi cl 1 w=n:=⟨(1+aBi cl 1 w).toNat,by omega⟩
 obtain⟨c,hc⟩:∃c:Nat,1+aBi cl 2 3=c:=⟨(1+aBi cl 2 3).toNat,by omega⟩
 obtain⟨f,hf,f0⟩:∃f:Int,e2 dIx (fQ (aC (eC (.int 1)) (aC (eC (.int 1)) (aC (eC (.int 1)) (aC (e2 nJ (eC (.int 1)) (e2 pK (eC (.int 2)) (e2 qF (aN gO (aC (aA 0) (aC (e2 nJ (aA 1) (eC (.int 1))) aR))) (e2 aZ1 (eC (.int 10)) (eC (.int 27)))))) aR))))) (aN cA (aC (aA 3) (aC (eC (.int 4)) (aC (eC (.int 4)) aR)))) (st (some (.v (.int cl))) (some (.v (.int n))) (some (.v (.int c))) none none none)=.ok (.int f)/\0<=f:=by
  obtain⟨a1,a2⟩:=vW cl 4 (m:=4) (by decide)
  have g0:0<=cl1%10^27:=bMp _ (by decide)
  obtain⟨d,hd,e⟩:=bBs (xs:=[.int 1,.int 1,.int 1,.int (1+2*(cl1%10^27))]) rfl a1 a2;have:∃w:Int,d=.int w/\0<=w:=by
   simp only[mem_cons,not_mem_nil,or_false]at hd;rcases hd with rfl|rfl|rfl|rfl
   .exact⟨1,rfl,by decide⟩
   .exact⟨1,rfl,by decide⟩
   .exact⟨1,rfl,by decide⟩
   .exact⟨_,rfl,by omega⟩
  obtain⟨w,rfl,hw⟩:=this;refine⟨w,aP (eQ (bV rfl (bV rfl (bV rfl (bV (aP rfl (aP rfl (aP (aW rfl hc1) (aP rfl rfl (?_:_=R.ok (D.int (10^27)))) (aBe (j:=10^27) (by decide))) (?_:_=R.ok (D.int (2*(cl1%10^27))))) rfl) rfl))))) (aW rfl (oV cl 4 4 (by decide))) e,hw⟩
  .exact aF ⟨by decide,by decide,by decide⟩
  .exact aF (.inl (by decide))
 obtain⟨S,rk,y9,y10,y11,y12,e,k1,k2,k3⟩:=aGm (ns:=ns) (cl:=cl) (f:=f) (n:=n) (c:=c) mo f0 (by omega) (by omega) (List.range n) [] [] none none none none (λx hx=>bJp.mp hx) (by simp;omega) rfl (λ_ h=>nomatch h)
 rw[bN2,bMo,bN3]at k1;refine⟨S,rk,c,cB rfl ?_,⟨by omega,by omega,by omega,by omega,by rw[k1];exact k3,k2⟩⟩
 refine aM (st':=st (some (.v (.int cl))) none none none none none) (bU (aW rfl hc0)) ?_
 refine aM (st':=st (some (.v (.int cl))) (some (.v (.int n))) none none none none) (bU (aP rfl (aW (bV rfl (bV rfl (bV hw rfl))) m1) (by rw[<-hn];rfl))) ?_
 refine aM (st':=st (some (.v (.int cl))) (some (.v (.int n))) (some (.v (.int c))) none none none) (bU (aP rfl (aW rfl m2) (by rw[<-hc];rfl))) ?_
 refine aM (st':=st (some (.v (.int cl))) (some (.v (.int n))) (some (.v (.int c))) (some (.v (.int f))) none none) (bU hf) ?_
 refine aM (st':=st (some (.v (.int cl))) (some (.v (.int n))) (some (.v (.int c))) (some (.v (.int f))) (some (.o .l [])) none) (sS (eQ rfl)) ?_
 refine aM (st':=mst ns mo cl f n c [] [] none none none none) (sS (eQ rfl)) ?_
 refine aM (st':=mst ns mo cl f n c (stD S) (nats rk) y9 y10 y11 y12) (jG (aV8 rfl (by omega)) e) ?_
 exact dR (aF (dN (by show 2<=_;decide)))
def aZs{a b n r:Nat}{st:PSt}(ha:st[a]?=some (some (.v (.int (n:Int)))))(hb:st[b]?=some (some (.v (.int (r:Int))))):(e2 dEq (e2 aC3 (e2 aDf (aA a) (aA b)) (eC (.int 1))) (eC (.int 1))) st=.ok (.bl (n.testBit r)):=by
 have ht:=aLw n r;have h0:0<=(n:Int)/2^r:=Int.ediv_nonneg (by omega) (Int.pow_nonneg (by decide))
 have t1:e2 aDf (aA a) (aA b) st=.ok (.int ((n:Int)/2^r)):=by simp[ha,hb]
 have t2:e2 aC3 (e2 aDf (aA a) (aA b)) (eC (.int 1)) st=.ok (.int ((if n.testBit r=true then 1 else 0:Nat):Int)):=by
  rw[aEf,t1,aH,aQ9,aH,aLv,aF ⟨h0,by decide⟩,ht]
 rw[aEf,t2];cases n.testBit r<;>simp
section
variable{S:List (List Nat)}{rk:List Nat}{s c p j n:Nat}{acc:List (Nat×List Nat)}
def ast(S:List (List Nat))(n s:Nat)(acc:List (Nat×List Nat))(p:Nat)(x5:Option Sl):PSt:=
 [some (.v (.lst (stD S))),some (.v (.int n)),some (.v (.int s)),some (.o .l (kD acc)),some (.v (.int p)),x5]
def aOm(M:Mch S rk c)(b:BM S s c (inN n) p j acc)(g:Nat)(w:List Nat):lX (ast S n s acc p (some (.v (.int g))))=.ok (.nx (ast S n s (bst (inN n) acc g w) p (some (.v (.int g))))):=by
 have n8:=M.most;have hlen:=b.len;obtain⟨p1,p2,_⟩:=fG (acc.map (·.1));have t2:e2 jA (aA 5) (kI 3) (ast S n s acc p (some (.v (.int g))))=.ok (.bl (!decide (g∈acc.map (·.1)))):=aP rfl rfl (by
  show jA (.int g) (.lst (kD acc))=_;rw[<-vU,aQq];exact aF ⟨by rw[p2];decide,rfl,p1⟩)
 have t:=pU (aZs (a:=1) (b:=5) (n:=n) (r:=g) (st:=ast S n s acc p (some (.v (.int g)))) rfl rfl) λ_=>t2
 unfold bst
 by_cases h:inN n g=true/\g∉acc.map (·.1)
 .rw[bIv h];rw[show n.testBit g=true from h.1,bIs h.2]at t
  refine aBd t ?_
  rw[yZ (xs:=kD acc) (d:=.int g) rfl rfl (by rw[aDn];omega),<-aOf acc g w]
  rfl
 .rw[bIt h];refine mZ (iV t ?_) rfl;cases h1:n.testBit g with
  |false=>rfl
  |true=>rw[bIr (bJh λz=>h ⟨h1,z⟩)];rfl
theorem aEr(M:Mch S rk c):∀(m j:Nat) (acc:List (Nat×List Nat)) (x5:Option Sl) (x:Nat×List Nat),j+m=c->BM S s c (inN n) p j acc->acc[p]?=some x->
  ∃acc' y5,forR (tgN 5) lX ((List.range' j m).map λl=>D.int (stp S x.1 l:Nat)) (ast S n s acc p x5)=.ok (.nx (ast S n s acc' p y5))/\BM S s c (inN n) p c acc'/\acc'[p]?=some x
 |0,j,acc,x5,x,hj,b,hx=>⟨acc,x5,rfl,by rw[show c=j by omega]at b ⊢; exact b,hx⟩
 |m+1,j,acc,x5,x,hj,b,hx=>by
  obtain⟨acc',y5,e,b',hx'⟩:=aEr M m (j+1) _ (some (.v (.int (stp S x.1 j)))) x (by omega) (b.turn M hx (by omega)) (aVf hx)
  refine⟨acc',y5,?_,b',hx'⟩;rw[List.range'_succ,bJ5,nQ];show (lX (ast S n s acc p (some (.v (.int (stp S x.1 j)))))).bind _=_;rw[aOm M b _ (x.2++[97+j])];exact e
def aVt(M:Mch S rk c){h:Nat}(hh:h<S.length):nats S[h]=(List.range' 0 c).map λl=>D.int (stp S h l:Nat):=by
 have hr:=(M.row S[h] (bJr hh)).1;have e:∀l,stp S h l=S[h].getD l 0:=λl=>by simp[stp,getD_eq_getElem?_getD,List.getElem?_eq_getElem hh]
 have h1:=M.c1;have h3:=M.c3;simp only[e];generalize S[h]=r at hr
 match r,hr with
 |[],hr=>simp at hr;omega
 |[a],hr=>subst hr;rfl
 |[a,b],hr=>subst hr;rfl
 |[a,b,d],hr=>subst hr;rfl
 |_::_::_::_::r,hr=>simp at hr;omega
theorem aEs(M:Mch S rk c):∀(m p:Nat) (acc:List (Nat×List Nat)) (x5:Option Sl) (f:Nat),S.length+1<=m+p->m<=f->BM S s c (inN n) p 0 acc->p<=acc.length->
  ∃acc' y5,lG qR yK f (ast S n s acc p x5)=.ok (.nx (ast S n s acc' acc'.length y5))/\BM S s c (inN n) acc'.length 0 acc'
 |0,p,acc,x5,f,hm,hf,b,hp=>by have:=b.len;omega
 |m+1,p,acc,x5,f,hm,hf,b,hp=>by
  obtain⟨f,rfl⟩:∃g,f=g+1:=⟨f-1,by omega⟩
  have test:qR (ast S n s acc p x5)=.ok (.bl (decide ((p:Int)<((kD acc).length:Nat)))):=aP rfl rfl rfl;rw[aDn]at test
  by_cases h:p<acc.length
  .have hx:acc[p]?=some acc[p]:=bIj h;generalize acc[p]=x at hx;obtain⟨l1,_,_⟩:=b.lt x (bJd hx);obtain⟨acc',y5,e,b',hx'⟩:=aEr M c 0 acc x5 x (by omega) b hx
   have hp':p<acc'.length:=(bIk.mp hx').1;obtain⟨acc2,z5,ew,b3⟩:=aEs M m (p+1) acc' y5 f (by omega) (by omega) b'.next (by omega)
   refine⟨acc2,z5,aGc (iV test (bD8 h)) (st':=ast S n s acc' (p+1) y5) (aM (st':=ast S n s acc' p y5) (jG (xs:=nats S[x.1]) ?_ ?_) (bU rfl)) ew,b3⟩
   .show ((e2 dIx (aA 0) (e2 dIx (kI 3) (aA 4))) (ast S n s acc p x5)).bind _=_;rw[aP (rfl:aA 0 (ast S n s acc p x5)=_) (aP rfl rfl (mF (bBq hx))) (mF (aBf l1))];rfl
   .rw[aVt M l1];exact e
  .have:p=acc.length:=by omega
   subst this;exact⟨acc,x5,aA4 (iV test (bD9 h)),b⟩
def aM5(M:Mch S rk c){s:Nat}(hs:s<S.length)(n:Nat):∃l:List Nat,gY [.lst (stD S),.int n,.int s]=.ok (.lst (nats l))/\l.Nodup/\∀g,g∈l↔Rch S c (inN n) s g:=by
 have n8:=M.most;obtain⟨acc,x5,e,b⟩:=aEs (n:=n) M (S.length+1) 0 [(s,[])] none 100000 (by omega) (by omega) (BM.start hs) (by simp)
 refine⟨acc.map (·.1),cB rfl ?_,b.nd,λg=>b.whole⟩
 unfold vL;refine aM (st':=[some (.v (.lst (stD S))),some (.v (.int n)),some (.v (.int s)),some (.o .l (kD [(s,[])])),none,none]) (by simp[kD,dN]) ?_
 refine aM (st':=ast S n s [(s,[])] 0 none) (by simp[ast]) ?_
 refine aM (st':=ast S n s acc acc.length x5) (by rw[aIk];exact e) ?_
 simp[ast,ofK,aQq]
def sub_len{l m:List Nat}(h1:l.Nodup)(hs:∀x∈l,x∈m)(he:l.length=m.length){x:Nat}(hx:x∈m):x∈l:=by
 refine bJh λhn=>?_
 have:(x::l).length<=m.length:=bK5 (bK2.mpr ⟨hn,h1⟩) λy hy=>by
  rcases bIq.mp hy with rfl|hy
  .exact hx
  .exact hs y hy
 rw[bJ7]at this;omega
def aSw(M:Mch S rk c){r:Nat}{T:List Nat}(hr:r<S.length){x0:D}{e:Ex}{st:PSt}(hm:aL n=r::T)(hv:st[2]?=some (some (.v (.lst (nats (r::T))))))(he:e st=.ok (.lst (stD S))):(eOr (e2 dGt (e1 dG (aA 2)) (eC (.int 1))) (qG (e2 dEq (e1 dG (aA 2)) (eC (.int 1))) (e2 dIn (e2 dIx (aA 2) (eC (.int 0))) (e2 dIx e (e2 dIx (aA 2) (eC (.int 0))))))) st=.ok (.bl (roundN S n)):=by
 have v2:aA 2 st=.ok (.lst (nats (r::T))):=by unfold aA;rw[hv]
 have ln:e1 dG (aA 2) st=.ok (.int ((T.length+1:Nat):Int)):=by
  show (aA 2 st).bind dG=_;rw[v2];show R.ok (D.int (((nats (r::T)).length:Nat):Int))=_;rw[bF];rfl
 have v0:e2 dIx (aA 2) (eC (.int 0)) st=.ok (.int r):=aP v2 rfl (mF (atI_nat (i:=0) (by rw[bF];exact Nat.succ_pos _)))
 have hg:S.getD r []=S[r]:=by rw[bJq,bIj hr];rfl
 obtain⟨p1,p2,_⟩:=fG S[r];have i0:e2 dIn (e2 dIx (aA 2) (eC (.int 0))) (e2 dIx e (e2 dIx (aA 2) (eC (.int 0)))) st=.ok (.bl (decide (r∈S[r]))):=aP v0 (aP he v0 (mF (aBf hr))) (by rw[<-vU];exact aF ⟨by rw[p2];exact bK6 60,rfl,p1⟩)
 have t:=yW (aP ln (rfl:eC (.int 1) st=_) (rfl:dGt _ _=_)) λ_=>pU (aP ln (rfl:eC (.int 1) st=_) (aDl _ _)) λ_=>i0
 refine iV t ?_
 unfold roundN;rw[hm];show (decide ((1:Int)<((T.length+1:Nat):Int))||(decide (((T.length+1:Nat):Int)=1)&&decide (r∈S[r])))=(decide (1<T.length+1)||decide (r∈S.getD r []))
 rw[hg]
 by_cases h:1<T.length+1
 .rw[bIr h,bIr (by omega:(1:Int)<((T.length+1:Nat):Int))];rfl
 .rw[bIs h,bIs (by omega:¬ (1:Int)<((T.length+1:Nat):Int)),bIr (by omega:((T.length+1:Nat):Int)=1)];rfl
open Classical in
def aOn(M:Mch S rk c)(hn:n<2^S.length):lY [.lst (stD S),.int n]=.ok (.bl (decide (LpN S c n))):=by
 have n8:=M.most;have ce:=gK (tg:=tgN 3) (C:=uN) (E:=uM) (st:=[some (.v (.lst (stD S))),some (.v (.int n)),none,none]) (q:=λr=>n.testBit r) (G:=λr=>.int r) (List.range S.length) (λr _=>⟨_,rfl,aZs (a:=1) (b:=3) rfl rfl,rfl⟩)
 rw[aBh hn]at ce;have hi:xP (e1 dG (aA 0)) [some (.v (.lst (stD S))),some (.v (.int n)),none,none]=.ok (nats (List.range S.length)):=aV8 (by rw[<-iW S];rfl) (by omega)
 refine cB rfl (aM (st':=[some (.v (.lst (stD S))),some (.v (.int n)),some (.v (.lst (nats (aL n)))),none]) (bU (jV hi (by rw[bF,bN2];omega) ce)) ?_)
 obtain⟨x',look⟩:=aGb (L:=uO) (j:=3) (λx=>[some (.v (.lst (stD S))),some (.v (.int n)),some (.v (.lst (nats (aL n)))),x]) (λ_ _=>rfl) (λr=>!decide (∀b∈aL n,Rch S c (inN n) r b)) (λ_=>.bl false) (aL n) (λr hr=>by
  have hrl:=bY hn hr;obtain⟨l,e,nd,hl⟩:=aM5 M hrl n;have hsub:∀x∈l,x∈aL n:=λx hx=>bB.mpr (aGg (al:=inN n) (bB.mp hr) ((hl x).mp hx))
  have t:=aP (op:=dNe) (f:=e1 dG (aN gY (aC (aA 0) (aC (aA 1) (aC (aA 3) aR))))) (g:=e1 dG (aA 2)) (st:=[some (.v (.lst (stD S))),some (.v (.int n)),some (.v (.lst (nats (aL n)))),some (.v (.int r))]) (x:=.int (l.length:Nat)) (y:=.int ((aL n).length:Nat)) (by rw[<-bF l];show R.bind (gY [.lst (stD S),.int n,.int r]) _=_;rw[e];rfl) (by rw[<-bF (aL n)];rfl) (yX _ _)
  by_cases h:∀b∈aL n,Rch S c (inN n) r b
  .have he:l.length=(aL n).length:=Nat.le_antisymm (bK5 nd hsub) (bK5 (dB n) λx hx=>(hl x).mpr (h x hx))
   rw[bIt (by rw[bIr h];decide)]
   exact mZ (iV t (by rw[bIr (by omega)];rfl)) rfl
  .have he:¬ l.length=(aL n).length:=λz=>h λb hb=>(hl b).mp (sub_len nd hsub z hb)
   rw[bIv (by rw[bIs h];rfl)]
   exact aBd (iV t (by rw[bIs (by omega)];rfl)) rfl) none
 cases hf:(aL n).find? (λr=>!decide (∀b∈aL n,Rch S c (inN n) r b)) with
 |some k=>
  rw[hf]at look;have h1:=List.find?_some hf;have h2:=List.mem_of_find?_eq_some hf;have hno:¬ LpN S c n:=λz=>by
   rw[bIr (z.2.1 k h2)]at h1;cases h1
  rw[bIs hno];exact aGa (jG rfl look)
 |none=>
  rw[hf]at look;have hall:∀a∈aL n,∀b∈aL n,Rch S c (inN n) a b:=λa ha=>by
   have:=List.find?_eq_none.mp hf a ha;exact bJh λz=>this (by rw[bIs z];rfl)
  refine aM (jG rfl look) (dR ?_);cases hm:aL n with
  |nil=>
   have h0:n=0:=by
    have:=gJ n;rw[hm]at this;exact this.symm
   rw[bIs λz=>z.1 h0]
   exact yW (p:=false) (q:=false) (aP rfl rfl rfl) λ_=>pU (p:=false) (q:=false) (aP rfl rfl (aDl 0 1)) λh=>nomatch h
  |cons r T=>
   have h0:n≠0:=λz=>by
    have:r∈aL n:=by rw[hm];exact bIm
    rw[z,bB,bMc]at this;cases this
   have hrl:r<S.length:=bY hn (by rw[hm];exact bIm)
   have hd:decide (LpN S c n)=roundN S n:=by
    by_cases h:roundN S n=true
    .rw[h,bIr ⟨h0,hall,h⟩]
    .rw[bIs λz=>h z.2.2];simpa using h
   rw[hd];exact aSw M (x0:=.non) hrl hm rfl rfl
open Classical in
noncomputable def tY(S:List (List Nat))(c:Nat):List Nat:=(List.range' 1 (2^S.length-1)).filter λm=>decide (LpN S c m)
open Classical in
def aSx{m:Nat}:m∈tY S c↔m<2^S.length/\LpN S c m:=by
 unfold tY;rw[bJa,List.mem_range'_1,bJf];constructor
 .rintro⟨h1,h2⟩;exact⟨by omega,h2⟩
 .rintro⟨h1,h2⟩;have:=h2.1;exact⟨by omega,h2⟩
def aM6:(tY S c).Nodup:=List.Pairwise.filter _ List.nodup_range'
def aOo(n:Nat):fU 1 n=nats (List.range' 1 n):=by
 unfold fU nats;rw[List.range'_eq_map_range,bK1];refine bK8 λk _=>?_
 show D.int (1+(k:Int))=D.int ((1+k:Nat):Int)
 push_cast
 rfl
def aK4(M:Mch S rk c):2^S.length<=256:=by
 have:=M.most;have:2^S.length<=2^8:=bLj (by decide) this
 omega
def aSy(M:Mch S rk c):qI [.lst (stD S)]=.ok (.lst (nats (tY S c))):=by
 have n8:=M.most;have n2:=aK4 M;have n1:1<=2^S.length:=Nat.one_le_two_pow;have ce:=gK (tg:=tgN 1) (C:=qU) (E:=qT) (st:=[some (.v (.lst (stD S))),none]) (q:=λm=>@decide (LpN S c m) (Classical.propDecidable _)) (G:=λr=>.int r) (List.range' 1 (2^S.length-1)) (λm hm=>⟨_,rfl,by
  have hlt:m<2^S.length:=by have:=(List.mem_range'_1.mp hm).2;omega
  have:=aOn M hlt;simp[qU,this],by simp[qT]⟩)
 refine cB rfl ?_
 unfold vM;show cM _ [some (.v (.lst (stD S))),none]=_;have hi:aZ5 (eC (.int 1)) (e2 aDe (eC (.int 1)) (e1 dG (aA 0))) [some (.v (.lst (stD S))),none]=.ok (nats (List.range' 1 (2^S.length-1))):=by
  rw[<-aOo];have g1:(S.length:Int)<=1000000:=by omega
  have g2:(2:Int)^S.length=((2^S.length:Nat):Int):=by push_cast;rfl
  have g3:(2:Int)^S.length<=(big:Int):=by rw[g2];exact rT (by omega)
  have g4 : -(big:Int)<=(2:Int)^S.length:=by rw[g2];exact aBy (by omega)
  have g5 : -(big:Int)<=1:=aBy (by decide)
  have g6:(1:Int)<=(big:Int):=rT (by decide)
  have g7:((2:Int)^S.length-1).toNat=2^S.length-1:=by rw[g2];omega
  simp[iW,g1,g3,g4,g5,g6,g7]
 rw[qH,yF,hi];simp only[aH,bF,List.length_range'];rw[aF (dN (by omega)),show clr [1] [some (Sl.v (.lst (stD S))),none]=[some (.v (.lst (stD S))),none] from rfl,ce]
 rfl
end
section
def aZt(M:Mch S rk c)(hn:n<2^S.length)(h0:n≠0):nW [.lst (nats rk),.int n]=.ok (.int (fH rk n)):=by
 have n8:=M.most;have hpos:0<(aL n).length:=by
  cases h:aL n with
  |nil=>
   refine absurd ?_ h0;have:=gJ n;rw[h]at this;exact this.symm
  |cons r T=>simp
 have ce:=gK (tg:=tgN 2) (C:=vR) (E:=vQ) (st:=[some (.v (.lst (nats rk))),some (.v (.int n)),none]) (q:=λr=>n.testBit r) (G:=λr=>.int (rk.getD r 0:Nat)) (List.range rk.length) (λr hr=>⟨_,rfl,by
  unfold vR;exact aZs (a:=1) (b:=2) rfl rfl,by
  have hr':=bJp.mp hr;have ea:atI (nats rk) (r:Int)=some (.int (rk.getD r 0:Nat)):=by
   rw[atI_nat (by rw[bF];exact hr')]
   simp[nats,getD_eq_getElem?_getD,List.getElem?_eq_getElem hr']
  simp[vQ,ea]⟩)
 rw[M.rks,aBh hn]at ce;have em:(aL n).map (λr=>D.int (rk.getD r 0:Nat))=((aL n).map λr=>(rk.getD r 0:Int)).map D.int:=by simp[Function.comp_def]
 rw[em]at ce;refine cB rfl ?_
 unfold aB9;show cM _ [some (.v (.lst (nats rk))),some (.v (.int n)),none]=_;have hi:xP (e1 dG (aA 0)) [some (.v (.lst (nats rk))),some (.v (.int n)),none]=.ok (nats (List.range S.length)):=by
  rw[<-zB];simp[bF,M.rks,show (S.length:Int)<=(big:Int) from rT (by omega)]
 have hm:aEh (.lst (((aL n).map λr=>(rk.getD r 0:Int)).map D.int))=.ok (.int (fH rk n)):=by
  show (rW _).bind _=_;rw[nR,aH,aF (by rw[bJ9];exact hpos)]
  rfl
 rw[qH,bBm,yF,hi];simp only[aH,bF,length_range];rw[aF (dN (by omega)),show clr [2] [some (Sl.v (.lst (nats rk))),some (.v (.int n)),none]=[some (.v (.lst (nats rk))),some (.v (.int n)),none] from rfl,ce,aH,aH,hm]
 rfl
end
section
def aOp{m o:Nat}:o|||m=o↔∀g∈aL m,g∈aL o:=by
 constructor
 .intro h g hg;rw[bB]at hg ⊢;rw[<-h,bOe,hg,Bool.or_true]
 .intro h;refine bKj λg=>?_
  rw[bOe];cases hm:m.testBit g with
  |false=>rw[Bool.or_false]
  |true=>rw[bB.mp (h g (bB.mpr hm))];rfl
def aVu{m o:Nat}(h1:∀g∈aL m,g∈aL o)(h2:∀g∈aL o,g∈aL m):m=o:=by
 rw[<-gJ m,<-gJ o];exact aQt λr=>⟨h1 r,h2 r⟩
def aVv{m o:Nat}(hm:LpN S c m)(hs:∀g∈aL m,g∈aL o):roundN S o=true:=by
 have hq:=hm.2.2;have hne:∃r,r∈aL m:=by
  cases h:aL m with
  |nil=>
   refine absurd ?_ hm.1;have:=gJ m;rw[h]at this;exact this.symm
  |cons r T=>exact⟨r,by simp⟩
 obtain⟨r,hr⟩:=hne;have hl:(aL m).length<=(aL o).length:=bK5 (dB m) λx hx=>hs x hx
 unfold roundN at hq ⊢
 by_cases h1:1<(aL o).length
 .rw[bIr h1];rfl
 .have he:(aL m).length=(aL o).length:=by
   have:0<(aL m).length:=List.length_pos_of_mem hr;omega
  have:m=o:=aVu hs λg hg=>sub_len (dB m) hs he hg
  rw[<-this];exact hq
def orE{a b m o:Nat}{st:PSt}(ha:st[a]?=some (some (.v (.int (m:Int)))))(hb:st[b]?=some (some (.v (.int (o:Int))))):e2 dOr (aA a) (aA b) st=.ok (.int ((m|||o:Nat):Int)):=by
 simp[ha,hb]
def eqE{a b:Ex}{m o:Nat}{st:PSt}(ha:a st=.ok (.int (m:Int)))(hb:b st=.ok (.int (o:Int))):e2 dEq a b st=.ok (.bl (decide (m=o))):=by
 rw[aEf,ha,aH,hb,aH]
 by_cases h:m=o
 .subst h;simp
 .have:¬ (m:Int)=(o:Int):=by omega
  simp[h,this]
def aCc{a m:Nat}{st:PSt}(ha:st[a]?=some (some (.v (.int (m:Int))))):aA a st=.ok (.int (m:Int)):=by simp[ha]
def aIz:(tY S c).length<=2^S.length:=by
 unfold tY;refine bJj (bLl _ _) ?_
 rw[List.length_range'];exact Nat.sub_le _ _
end
section
def bDf:iQ (List.range n)<2^n:=vV λr hr=>bJp.mp hr
def aZu(M:Mch S rk c):pL [mD S rk c]=.ok (.int (iQ (List.range S.length))):=by
 have n8:=M.most;refine cB rfl (dR (aW (bV (d:=.lst (nats (List.range S.length))) ?_ rfl) (aFh (λr hr=>by have:=bJp.mp hr;omega) (by rw[bN2];omega))))
 show R.bind (nM "Machine" "many" (mD S rk c)) aC2=_;rw[aLr,aH,<-zB];exact aF ⟨aBy (by omega),rT (by omega)⟩
def aZv(M:Mch S rk c){st:PSt}(h:st[0]?=some (some (.v (mD S rk c)))):aN jQ (aC (e1 (nM "Machine" "steps") (aA 0)) (aC (aN pL (aC (aA 0) (aR))) (aR))) st=.ok (.dct false (nats (aL (iQ (List.range S.length)))) ((aL (iQ (List.range S.length))).map λr=>D.int (fW S c (iQ (List.range S.length)) r:Nat))):=by
 have e:aA 0 st=.ok (mD S rk c):=by unfold aA;rw[h]
 exact aW (bV (show R.bind (aA 0 st) (nM "Machine" "steps")=_ by rw[e,aH,qP]) (bV (aW (bV e rfl) (aZu M)) rfl)) (aLz M bDf)
def aZw{r:Nat}(hr:r<S.length):dIx (.dct false (nats (aL (iQ (List.range S.length)))) ((aL (iQ (List.range S.length))).map λr=>D.int (fW S c (iQ (List.range S.length)) r:Nat))) (.int r)=.ok (.int (fW S c (iQ (List.range S.length)) r:Nat)):=aA6 (uT (λr=>D.int (fW S c (iQ (List.range S.length)) r:Nat)) (aIu.mpr (bJp.mpr hr)))
end
section
def aVw(M:Mch S rk c) (hr:r<S.length):sH [mD S rk c,.int r]=.ok (.int (fW S c (iQ (List.range S.length)) r)):=
 cB rfl (dR (aP (aZv M rfl) rfl (aZw hr)))
end
section
variable{S:List (List Nat)}{rk:List Nat}{c n s g:Nat}{al:Nat->Bool}{acc:List (Nat×List Nat)}
def Pat(S:List (List Nat))(c:Nat)(al:Nat->Bool):List Nat->Nat->Nat->Prop
 |[],s,g=>s=g
 |ch::u,s,g=>∃l,l<c/\ch=97+l/\al (stp S s l)=true/\Pat S c al u (stp S s l) g
theorem aA7:∀{u v:List Nat}{s r g:Nat},Pat S c al u s r->Pat S c al v r g->Pat S c al (u++v) s g
 |[],v,s,r,g,h1,h2=>by
  have e:s=r:=h1;rw[e];exact h2
 |ch::u,v,s,r,g,h1,h2=>by
  obtain⟨l,a,b,d,e⟩:=h1;exact⟨l,a,b,d,aA7 e h2⟩
theorem aR0:∀{u v:List Nat}{s g:Nat},Pat S c al (u++v) s g->∃r,Pat S c al u s r/\Pat S c al v r g
 |[],v,s,g,h=>⟨s,rfl,h⟩
 |ch::u,v,s,g,h=>by
  obtain⟨l,a,b,d,e⟩:=h;obtain⟨r,h1,h2⟩:=aR0 e;exact⟨r,⟨l,a,b,d,h1⟩,h2⟩
def aSz{v w:List Nat}(h1:slB u v)(h2:slB v w):slB u w:=by
 rcases h1 with h1|⟨h1,h3⟩
 .rcases h2 with h2|⟨h2,_⟩
  .exact .inl (by omega)
  .exact .inl (by omega)
 .rcases h2 with h2|⟨h2,h4⟩
  .exact .inl (by omega)
  .exact .inr ⟨by omega,List.lt_trans h3 h4⟩
theorem snoc_ind{P:List Nat->Prop}(h0:P [])(h1:∀u a,P u->P (u++[a])):∀(k:Nat)(u:List Nat),u.length=k->P u
 |0,u,h=>by rw[bJw.mp h];exact h0
 |k+1,u,h=>by
  rcases bLc u with e|⟨v,a,e⟩
  .rw[e]at h;simp at h
  .rw[bLd]at e;rw[e]at h ⊢;exact h1 v a (snoc_ind h0 h1 k v (by simpa using h))
def BM.least(b:BM S s c al acc.length 0 acc):∀(u:List Nat)(g:Nat),Pat S c al u s g->∃y∈acc,y.1=g/\(y.2=u\/slB y.2 u):=λu=>
 snoc_ind (P:=λu=>∀g,Pat S c al u s g->∃y∈acc,y.1=g/\(y.2=u\/slB y.2 u)) (λg h=>⟨(s,[]),bJd b.hd,h,.inl rfl⟩) (λu a ih g h=>by
  obtain⟨r,h1,l,hl,ea,ha,e⟩:=aR0 h;obtain⟨y,hy,rfl,hq⟩:=ih r h1;have e':stp S y.1 l=g:=e;obtain⟨i,hi⟩:=bJk.mp hy;obtain⟨z,hz,ez,hw⟩:=b.cls i y l hi hl (.inl (bIk.mp hi).1) ha;refine⟨z,hz,ez.trans e',?_⟩;rw[ea];rcases hq with rfl|hq
  .exact hw
  .have:=aQp (97+l) (97+l) hq;rcases hw with hw|hw
   .rw[hw];exact .inr this
   .exact .inr (aSz hw this)) u.length u rfl
def BM.path(b:BM S s c al acc.length 0 acc):∀(k:Nat)(x:Nat×List Nat),acc[k]?=some x->Pat S c al x.2 s x.1:=by
 intro k
 induction k using Nat.strongRecOn with
 |ind k ih=>
  intro x hx
  by_cases hk:k=0
  .subst hk;rw[b.hd]at hx;cases hx;exact rfl
  .obtain⟨h0,q,y,ch,h1,h2,_⟩:=b.par k x hx (by omega)
   have hl:x.2.length=y.2.length+1:=by rw[h2];simp
   have hq:q<k:=by
    rcases bNd q k with h|h|h
    .exact h
    .subst h;rw[hx]at h1;cases h1;omega
    .rcases b.ord k q x y hx h1 h with h3|⟨h3,_⟩ <;> omega
   obtain⟨_,x2,x3⟩:=b.lt x (bJd hx);obtain⟨_,y2,_⟩:=b.lt y (bJd h1);have hch:=x3 ch (by rw[h2];simp)
   have e:x.1=stp S y.1 (ch-97):=by rw[<-x2,h2,aA5,y2]
   rw[h2];exact aA7 (ih q hq y h1) ⟨ch-97,by omega,by omega,by rw[<-e];exact h0,e.symm⟩
def Lst(S:List (List Nat))(c:Nat)(al:Nat->Bool)(s g:Nat)(u:List Nat):Prop:=Pat S c al u s g/\∀v,Pat S c al v s g->u=v\/slB u v
def bDg(n:Nat):(λg=>decide (g∈aL n))=λg=>n.testBit g:=funext λg=>by
 cases h:n.testBit g with
 |true=>exact bIr (bB.mpr h)
 |false=>exact bIs λz=>by rw[bB.mp z]at h;cases h
def bDh(M:Mch S rk c)(hn:n<2^S.length)(hs:s<S.length)(g:Nat):(pM [mD S rk c,.int n,.int s,.int g]=.ok .non/\¬ (n.testBit s=true/\∃u,Pat S c (λg=>n.testBit g) u s g))\/∃u,pM [mD S rk c,.int n,.int s,.int g]=.ok (.str u)/\n.testBit s=true/\Lst S c (λg=>n.testBit g) s g u/\Ltr c u/\u.length+1<=(aL n).length:=by
 have n8:=M.most;cases hb:n.testBit s with
 |false=>exact .inl ⟨cB rfl (aGa (aBd (rB (p:=false) (aW rfl (by rw[aBg,hb]))) (dR rfl))),λz=>nomatch z.1⟩
 |true=>
  obtain⟨acc,e,b⟩:=aQr M hs (aL n);rw[bDg]at b;have hr:∀{d:D},aV4 (aN jD (aC (e1 (nM "Machine" "steps") (aA 0)) (aC (aA 2) (aC (aN cD (aC (aA 1) aR)) aR)))) (aA 3) (eC .non) [some (.v (mD S rk c)),some (.v (.int n)),some (.v (.int s)),some (.v (.int g))]=.ok d->pM [mD S rk c,.int n,.int s,.int g]=.ok d:=λhd=>cB rfl (iM (mZ (rB (p:=true) (aW rfl (by rw[aBg,hb]))) rfl) (dR hd))
  have hg:∀{r:R D},aG4 (.dct false (kD acc) (wD acc)) (.int g) .non=r->aV4 (aN jD (aC (e1 (nM "Machine" "steps") (aA 0)) (aC (aA 2) (aC (aN cD (aC (aA 1) aR)) aR)))) (aA 3) (eC .non) [some (.v (mD S rk c)),some (.v (.int n)),some (.v (.int s)),some (.v (.int g))]=r:=λh=>by
   unfold aV4;rw[aW (bV (show nM "Machine" "steps" (mD S rk c)=_ from qP) (bV rfl (bV (aW rfl (pO hn (by omega))) rfl))) e]
   exact h
  have hh:=aOg g acc
  by_cases hm:g∈acc.map (·.1)
  .rw[bIr hm]at hh;obtain⟨x,hx,rfl⟩:=bJe.mp hm;obtain⟨k,hk⟩:=bJk.mp hx;have hkl:=(bIk.mp hk).1;refine .inr ⟨x.2,hr (hg ?_),rfl,⟨b.path k x hk,λv hv=>?_⟩,(b.lt x hx).2.2,?_⟩
   .show aV (keyOk false (.int x.1)=true) _=_;rw[aF (c:=keyOk false (.int x.1)=true) rfl,bIv hh,aVg b.nd hx];rfl
   .obtain⟨y,hy,ey,hq⟩:=b.least v x.1 hv;obtain⟨j,hj⟩:=bJk.mp hy;have:y=x:=by
     have hkj:j=k:=by
      have h1:(acc.map (·.1))[j]?=some x.1:=by rw[bK3,hj,<-ey];rfl
      have h2:(acc.map (·.1))[k]?=some x.1:=by rw[bK3,hk];rfl
      obtain⟨a1,b1⟩:=bIk.mp h1;obtain⟨a2,b2⟩:=bIk.mp h2;exact(List.getElem_inj b.nd).mp (b1.trans b2.symm)
     rw[hkj,hk]at hj;exact(bJ3 hj).symm
    rw[this]at hq;exact hq
   .have h1:=b.wlen k x hk;have h2:(acc.map (·.1)).length<=(aL n).length:=bK5 b.nd λy hy=>by
     obtain⟨z,hz,rfl⟩:=bJe.mp hy;obtain⟨j,hj⟩:=bJk.mp hz
     by_cases hj0:j=0
     .subst hj0;rw[b.hd]at hj;cases hj;exact bB.mpr hb
     .exact bB.mpr (b.par j z hj (by omega)).1
    rw[bJ9]at h2;omega
  .rw[bIs hm]at hh;refine .inl ⟨hr (hg ?_),λ⟨_,u,hu⟩=>?_⟩
   .show aV (keyOk false (.int g)=true) _=_;rw[aF (c:=keyOk false (.int g)=true) rfl,bIt (by rw[hh];decide)]
   .obtain⟨y,hy,ey,_⟩:=b.least u g hu;exact hm (bJe.mpr ⟨y,hy,ey⟩)
end
def aZx{l:Nat}(h:l<3):dIx (.str [97,98,99]) (.int l)=.ok (.str [97+l]):=by
 show aV _ _=_;rw[aF (dN (by show 3<=_;omega)),atI_nat (xs:=[97,98,99]) (i:=l) (by show l<3;exact h)]
 have:l=0\/l=1\/l=2:=by omega
 rcases this with rfl|rfl|rfl<;>rfl
def bDi(l m:List Nat):dEq (.lst (nats l)) (.lst (nats m))=.ok (.bl (decide (l=m))):=by
 obtain⟨p1,p2,_⟩:=fG l;obtain⟨q1,_,_⟩:=fG m;have:=aFi l m;simp[p1,p2,q1,this]
def bDj{m ch:Nat}(h1:1<=m)(h3:m<=3)(a:97<=ch)(b:ch<97+m):(iZ (cut [97,98,99] none (some (m:Int))) [ch] 0).isSome=true:=by
 have hm:m=1\/m=2\/m=3:=by omega
 have hc:ch=97\/ch=98\/ch=99:=by omega
 rcases hm with rfl|rfl|rfl<;>rcases hc with rfl|rfl|rfl<;>first|rfl|omega
section
variable{S:List (List Nat)}{rk:List Nat}{c n s g r:Nat}{al:Nat->Bool}
theorem aFj:∀{u:List Nat}{s g:Nat},Pat S c al u s g->Ltr c u
 |[],_,_,_=>λ_ h=>nomatch h
 |ch::u,s,g,⟨l,a,b,_,e⟩=>λx hx=>by
  rcases bIq.mp hx with rfl|hx
  .omega
  .exact aFj e x hx
theorem aCd:∀{u:List Nat}{s g:Nat},Pat S c al u s g->mG S s u=g
 |[],_,_,h=>h
 |ch::u,s,g,⟨l,a,b,_,e⟩=>by
  show mG S (stp S s (ch-97)) u=g;rw[b,show 97+l-97=l by omega]
  exact aCd e
theorem aM7:∀{u:List Nat}{s g:Nat},Pat S c al u s g->∀y∈runs S s u,al y=true
 |[],_,_,_=>λ_ h=>nomatch h
 |ch::u,s,g,⟨l,a,b,d,e⟩=>λy hy=>by
  have hy':y∈stp S s (ch-97)::runs S (stp S s (ch-97)) u:=hy;rw[b,show 97+l-97=l by omega]at hy'
  rcases bIq.mp hy' with rfl|hy'
  .exact d
  .exact aM7 e y hy'
theorem aGn:∀(x y:List Nat)(q:Nat),runs S q (x++y)=runs S q x++runs S (mG S q x) y
 |[],_,_=>rfl
 |ch::x,y,q=>congrArg (stp S q (ch-97) :: ·) (aGn x y _)
theorem aK5:∀(x:List Nat)(q:Nat),mG S q x∈q::runs S q x
 |[],_=>bIm
 |ch::x,q=>bIl _ (aK5 x (stp S q (ch-97)))
def aVx{x:List Nat}(h:x≠[])(q:Nat):mG S q x∈runs S q x:=by
 cases x with
 |nil=>exact absurd rfl h
 |cons ch x=>exact aK5 x (stp S q (ch-97))
theorem aGo:∀(x:List Nat)(q:Nat),(runs S q x).length=x.length
 |[],_=>rfl
 |_::x,_=>congrArg (· + 1) (aGo x _)
def aZy{s g:Nat}(h:Rch S c al s g):∃u,Pat S c al u s g:=by
 induction h with
 |here=>exact⟨[],rfl⟩
 |on _ hl ha ih=>
  obtain⟨u,hu⟩:=ih;exact⟨u++[97+_],aA7 hu ⟨_,hl,rfl,ha,rfl⟩⟩
structure Rnd(S:List (List Nat))(c n r:Nat)(u:List Nat):Prop where
 pat:Pat S c (λg=>n.testBit g) u r r
 ne:u≠[]
 len:u.length<=(aL n).length*(aL n).length
 all:∀g∈aL n,g∈runs S r u
def aVy(S:List (List Nat))(rk:List Nat)(c n r:Nat)(x:List Nat)(h:Nat)(x5:Option Sl):PSt:=[some (.v (mD S rk c)),some (.v (.int n)),some (.v (.int r)),some (.v (.str x)),some (.v (.int h)),x5]
def aOq{e:Exs}{st:PSt}(hf:f st=.ok (mD S rk c))(hr:e st=.ok xs):aLl "Machine" "rooms_along" p [] f e st=p (mD S rk c::xs):=by
 rw[aV0,hf,hr];show aV _ (p (mD S rk c::(xs++[])))=_;rw[bKi];exact aF ⟨rfl,by decide⟩
def aM8(M:Mch S rk c)(hn:n<2^S.length)(hL:LpN S c n){a b:Nat}(ha:a∈aL n)(hb:b∈aL n):∃u,pM [mD S rk c,.int n,.int a,.int b]=.ok (.str u)/\Pat S c (λg=>n.testBit g) u a b/\u.length+1<=(aL n).length:=by
 rcases bDh M hn (bY hn ha) b with ⟨_,h2⟩|⟨u,h1,_,h3,_,h5⟩
 .exact absurd ⟨bB.mp ha,aZy (hL.2.1 a ha b hb)⟩ h2
 .exact⟨u,h1,h3.1,h5⟩
theorem aBj(M:Mch S rk c)(hn:n<2^S.length)(hL:LpN S c n)(hr:r∈aL n):∀(gs:List Nat)(x:List Nat)(h j:Nat)(x5:Option Sl),(∀g∈gs,g∈aL n)->Pat S c (λg=>n.testBit g) x r h->h∈aL n->x.length<=j*((aL n).length-1)->j+gs.length<=8->
  ∃x' h' j' x5',forR (tgN 5) aC7 (nats gs) (aVy S rk c n r x h x5)=.ok (.nx (aVy S rk c n r x' h' x5'))/\Pat S c (λg=>n.testBit g) x' r h'/\h'∈aL n/\x'.length<=j' * ((aL n).length-1)/\j'<=j+(gs.filter λg=>!decide (g=r)).length/\(∀g∈gs,g∈r::runs S r x')/\∀g∈r::runs S r x,g∈r::runs S r x'
 |[],x,h,j,x5,_,h1,h2,h3,_=>⟨x,h,j,x5,rfl,h1,h2,h3,bN0 _ _,λ_ z=>(nomatch z),λ_ z=>z⟩
 |g::gs,x,h,j,x5,hg,h1,h2,h3,h4=>by
  have n8:=M.most;rw[bJ7]at h4;have hk:(aL n).length<=8:=bJj (jH S.length _ (dB _) λy hy=>bY hn hy) n8
  have hx:x.length<=100:=by
   have:j*((aL n).length-1)<=8*7:=bOj (by omega) (by omega)
   omega
  have hrl:=bY hn hr;obtain⟨p1,p2,_⟩:=fG (r::runs S r x);have t:e2 jA (aA 5) (aLl "Machine" "rooms_along" (cT) [] (aA 0) (aC (aA 2) (aC (aA 3) aR))) (aVy S rk c n r x h (some (.v (.int g))))=.ok (.bl (!decide (g∈r::runs S r x))):=aP rfl ((aOq rfl rfl).trans (aVc M hrl x (aFj h1) (by omega))) (by
   rw[<-vU];exact aF ⟨by rw[p2];exact bK6 60,rfl,p1⟩)
  by_cases hm:g∈r::runs S r x
  .rw[bIr hm]at t;obtain⟨x',h',j',x5',e,k1,k2,k3,k4,k5,k6⟩:=aBj M hn hL hr gs x h j (some (.v (.int g))) (λy hy=>hg y (bIl _ hy)) h1 h2 h3 (by omega)
   refine⟨x',h',j',x5',kW rfl (mZ t rfl) e,k1,k2,k3,bJj k4 ?_,λy hy=>?_,k6⟩
   .by_cases z:(!decide (g=r))=true
    .rw[bK4 (p:=λg=>!decide (g=r)) z,bJ7];omega
    .rw[bKc (p:=λg=>!decide (g=r)) z];exact bIn _
   .rcases bIq.mp hy with rfl|hy
    .exact k6 _ hm
    .exact k5 y hy
  .rw[bIs hm]at t;have hgr:g≠r:=λz=>hm (by rw[z];exact bIm)
   obtain⟨u,w1,w2,w3⟩:=aM8 M hn hL h2 (hg g bIm);have hl:(x++u).length<=(j+1)*((aL n).length-1):=by
    rw[bJ8,Nat.add_mul,Nat.one_mul];omega
   obtain⟨x',h',j',x5',e,k1,k2,k3,k4,k5,k6⟩:=aBj M hn hL hr gs (x++u) g (j+1) (some (.v (.int g))) (λy hy=>hg y (bIl _ hy)) (aA7 h1 w2) (hg g bIm) hl (by omega)
   have up:∀y∈r::runs S r x,y∈r::runs S r (x++u):=λy hy=>by
    rw[aGn];rcases bIq.mp hy with rfl|hy
    .exact bIm
    .exact bIl _ (bIw _ hy)
   refine⟨x',h',j',x5',kW rfl (aBd t (aM (st':=aVy S rk c n r (x++u) h (some (.v (.int g)))) (bU (aP rfl (aW rfl w1) (aF (dN (by omega))))) (bU rfl))) e,k1,k2,k3,bJj k4 ?_,λy hy=>?_,λy hy=>k6 y (up y hy)⟩
   .rw[bK4 (by rw[bIs hgr];rfl),bJ7];omega
   .rcases bIq.mp hy with rfl|hy
    .refine k6 _ ?_
     have:=aK5 (S:=S) (x++u) r;rw[aCd (aA7 h1 w2)]at this;exact this
    .exact k5 y hy
def bDk(nd:l.Nodup)(hr:r∈l):(l.filter λg=>!decide (g=r)).length+1<=l.length:=by
 have h1:(l.filter λg=>!decide (g=r)).length<l.length:=by
  rcases Nat.lt_or_eq_of_le (bLl (λg=>!decide (g=r)) l) with h|h
  .exact h
  .have:=List.length_filter_eq_length_iff.mp h r hr;rw[bIr rfl]at this;cases this
 omega
def aOr(M:Mch S rk c)(hn:n<2^S.length)(hL:LpN S c n)(hr:r∈aL n):∃u,nU [mD S rk c,.int n,.int r]=.ok (.str u)/\Rnd S c n r u:=by
 have n8:=M.most;have c3:=M.c3;have hrl:=bY hn hr;have hro:=pO hn (by omega)
 have hk:(aL n).length<=8:=bJj (jH S.length _ (dB _) λy hy=>bY hn hy) n8
 have a1:sIf (pI (aN uP (aC (aA 0) (aC (aA 1) aR)))) qQ cZ [some (.v (mD S rk c)),some (.v (.int n)),some (.v (.int r)),none,none,none]=.ok (.nx [some (.v (mD S rk c)),some (.v (.int n)),some (.v (.int r)),none,none,none]):=mZ ((rB (p:=true) (aW rfl (by rw[aOk M hn,bIr ((aSt M hn).mpr hL)])))) rfl
 have a2:sIf (pI (aN fY (aC (aA 1) (aC (aA 2) aR)))) qQ cZ [some (.v (mD S rk c)),some (.v (.int n)),some (.v (.int r)),none,none,none]=.ok (.nx [some (.v (mD S rk c)),some (.v (.int n)),some (.v (.int r)),none,none,none]):=mZ ((rB (p:=true) (aW rfl (by rw[aBg,bB.mp hr])))) rfl
 have t3:=aP (op:=dEq) (f:=aN cD (aC (aA 1) aR)) (g:=fQ (aC (aA 2) aR)) (st:=[some (.v (mD S rk c)),some (.v (.int n)),some (.v (.int r)),none,none,none]) (aW rfl hro) (eQ (ds:=nats [r]) rfl) (bDi (aL n) [r])
 by_cases h1:aL n=[r]
 .rw[bIr h1]at t3;have hq:=hL.2.2;unfold roundN at hq;rw[h1]at hq;have hq':r∈S.getD r []:=by
   have:=bJi (show decide (r∈S.getD r [])=true from hq)
   exact this
  have hg:S.getD r []=S[r]:=by rw[bJq,bIj hrl];rfl
  rw[hg]at hq';have hrow:=(M.row S[r] (bJr hrl)).1;have hs:((S[r].map λ(x:Nat)=>(x:Int)).findIdx? λi=>i==(r:Int)).isSome=true:=by
   rw[List.findIdx?_isSome,bMh];exact⟨(r:Int),bJe.mpr ⟨r,hq',rfl⟩,by simp⟩
  obtain⟨k,hk'⟩:=bKx.mp hs;obtain⟨k1,k2,_⟩:=bLv.mp hk';rw[bJ9]at k1;have hkr:S[r][k]=r:=by
   rw[bNr,bLs]at k2;exact Int.ofNat_inj.mp k2
  have hst:stp S r k=r:=by
   unfold stp;rw[hg,bJq,bIj k1];exact hkr
  have hix:eMt aQg (e2 dIx (e1 (nM "Machine" "steps") (aA 0)) (aA 2)) (aC (aA 2) aR) [some (.v (mD S rk c)),some (.v (.int n)),some (.v (.int r)),none,none,none]=.ok (.int k):=by
   unfold eMt;rw[aP (show e1 (nM "Machine" "steps") (aA 0) [some (.v (mD S rk c)),some (.v (.int n)),some (.v (.int r)),none,none,none]=_ from qP) rfl (mF (aBf hrl))]
   show (rW (nats S[r])).bind _=_;rw[show nats S[r]=(S[r].map λ(x:Nat)=>(x:Int)).map D.int by rw[bK1];rfl,nR,aH,hk']
   show R.bind (.ok k) _=_;rw[aH];exact aF (dN (by rw[bJ9,bJ9];omega))
  refine⟨[97+k],cB rfl (iM a1 (iM a2 (aGa ((aBd t3 (dR (aP rfl hix (aZx (by omega)))))))) ),⟨⟨k,by omega,rfl,by rw[hst];exact bB.mp hr,hst⟩,by simp,by rw[h1];exact bIn _,λg hg=>?_⟩⟩
  rw[h1,bIu]at hg;show g∈stp S r (97+k-97)::[];rw[show 97+k-97=k by omega,hst,hg]
  exact bIm
 .rw[bIs h1]at t3;obtain⟨g0,hg0,hne⟩:∃g0∈aL n,g0≠r:=bJh λz=>h1 (by
   have all:∀y∈aL n,y=r:=λy hy=>bJh λw=>z ⟨y,hy,w⟩
   have nd:=dB n;cases hm:aL n with
   |nil=>rw[hm]at hr;cases hr
   |cons a T=>
    rw[hm]at all nd;have ea:=all a bIm;cases T with
    |nil=>rw[ea]
    |cons b T=>
     have eb:=all b (by simp)
     exact absurd (by simp[ea,eb]) (bK2.mp nd).1)
  obtain⟨x,h,j,x5,e,k1,k2,k3,k4,k5,_⟩:=aBj M hn hL hr (aL n) [] r 0 none (λ_ z=>z) rfl hr (bK6 _) (by omega)
  obtain⟨y,w1,w2,w3⟩:=aM8 M hn hL k2 hr;have hc:=bDk (dB n) hr;have hxl:x.length<=((aL n).length-1)*((aL n).length-1):=bJj k3 (Nat.mul_le_mul_right _ (by omega))
  have hxn:x≠[]:=λz=>by
   rw[z]at k5;rcases bIq.mp (k5 g0 hg0) with z'|z'
   .exact hne z'
   .cases z'
  have hp:=aA7 k1 w2;have hne':x++y≠[]:=λz=>hxn (List.append_eq_nil_iff.mp z).1
  have hlen:(x++y).length<=(aL n).length*(aL n).length:=by
   obtain⟨k,hk2⟩:∃k,(aL n).length=k+1:=⟨(aL n).length-1,by omega⟩
   rw[hk2,bN4]at hxl;rw[bJ8,hk2,Nat.add_mul,Nat.mul_add,Nat.one_mul];omega
  have h64:(aL n).length*(aL n).length<=8*8:=bOj hk hk;refine⟨x++y,cB rfl (iM a1 (iM a2 (iM ((mZ t3 rfl)) (aM ((bU rfl)) (aM (st':=aVy S rk c n r [] r none) ((bU rfl)) (aM ((jG (uR (aW rfl hro)) e)) ((dR (aP rfl (aW rfl w1) (aF (dN (by rw[bJ8]at hlen;omega)))))))))))),⟨hp,hne',hlen,λg hg=>?_⟩⟩
  rcases bIq.mp (k5 g hg) with rfl|z
  .have:=aVx (S:=S) hne' g
   rwa [aCd hp]at this
  .rw[aGn];exact bIw _ z
end
section
variable{S:List (List Nat)}{rk:List Nat}{c n:Nat}
abbrev lD(m n:Nat):Prop:=∀g∈aL m,g∈aL n
def zF(h0:n≠0):aL n≠[]:=λz=>h0 (by
 have:=gJ n;rw[z]at this;exact this.symm)
def uW(h0:n≠0):(∃r∈aL n,(rk.getD r 0:Int)=fH rk n)/\∀r∈aL n,(rk.getD r 0:Int)<=fH rk n:=by
 obtain⟨h1,h2⟩:=aQy (l:=(aL n).map λr=>(rk.getD r 0:Int)) (by simpa using zF h0)
 obtain⟨r,hr,e⟩:=bJe.mp h1;exact⟨⟨r,hr,e⟩,λr hr=>h2 _ (bJe.mpr ⟨r,hr,rfl⟩)⟩
def evN(rk:List Nat)(m:Nat):Bool:=decide (fH rk m%2=0)
def szN(m:Nat):Nat:=(aL m).length
def woN(rk:List Nat)(m:Nat):Nat:=iQ ((aL m).filter λr=>!decide ((rk.getD r 0:Int)=fH rk m))
def uA:r∈aL (woN rk m)↔r∈aL m/\(rk.getD r 0:Int)≠fH rk m:=by
 unfold woN;rw[aIu,bJa];simp
def uX{k:Nat}(h:m<2^k):woN rk m<2^k:=vV λr hr=>bY h (bJa.mp hr).1
def fJ(M:Mch S rk c) (hm:m<2^S.length) (h:q∈dI S c m):LpN S c q/\lD q m/\q<2^S.length:=by
 obtain⟨r,hr,rfl,hq⟩:=uV.mp h;exact⟨aSu M hm hr hq,λg hg=>aZn M hm hr hg,aQx⟩
def aR1(M:Mch S rk c){m z:Nat}(hm:m<2^S.length)(hz:LpN S c z)(hs:lD z m):∃q∈dI S c m,lD z q:=by
 obtain⟨r,hr⟩:=bN8 _ (zF hz.1);have hsub:=aZo M hm hz hs hr;exact⟨_,uV.mpr ⟨r,hs r hr,rfl,aVv hz hsub⟩,hsub⟩
def aK6(M:Mch S rk c){p g:Nat}(hm:m<2^S.length)(hp:p∈dI S c m)(hq:q∈dI S c m)(h1:g∈aL p)(h2:g∈aL q):p=q:=by
 obtain⟨a,ha,rfl,_⟩:=uV.mp hp;obtain⟨b,hb,rfl,_⟩:=uV.mp hq;have la:=bY hm ha;have lb:=bY hm hb;have m1:Mut S c m a g:=(jW M la).mp (bB.mp h1);have m2:Mut S c m b g:=(jW M lb).mp (bB.mp h2);exact(aM2 M lb (m2.trans m1.symm))
def aVz{p:Nat}(h:lD m p)(hr:r∈aL p)(hn:r∉aL m):szN m<szN p:=by
 have nd:(r::aL m).Nodup:=bK2.mpr ⟨hn,dB m⟩;have:=nd.length_le_of_subset (l₂:=aL p) λx hx=>by
  rcases bIq.mp hx with z|z
  .rw[z];exact hr
  .exact h x z
 rw[bJ7]at this;exact this
def aK7(M:Mch S rk c){p:Nat}(h0:p≠0)(hp:p<2^S.length)(h:q∈dI S c (woN rk p)):szN q<szN p/\lD q p:=by
 obtain⟨⟨r,hr,e⟩,_⟩:=uW (rk:=rk) h0;obtain⟨_,h2,_⟩:=fJ M (uX hp) h;exact⟨aVz (λg hg=>(uA.mp (h2 g hg)).1) hr λz=>(uA.mp (h2 r z)).2 e,λg hg=>(uA.mp (h2 g hg)).1⟩
inductive Inl (S:List (List Nat)) (c:Nat) (rk:List Nat) (w:Bool):Nat->Nat->Prop
 |out {P Y:Nat}:Y∈dI S c (woN rk P)->evN rk Y≠w->Inl S c rk w P Y
 |go {P Q Y:Nat}:Q∈dI S c (woN rk P)->evN rk Q=w->Inl S c rk w Q Y->Inl S c rk w P Y
def aDq(M:Mch S rk c){w:Bool}{P Y:Nat}(h:Inl S c rk w P Y):P≠0->P<2^S.length->LpN S c Y/\lD Y (woN rk P)/\Y<2^S.length/\szN Y<szN P/\evN rk Y≠w:=by
 induction h with
 |out h1 h2=>
  intro h0 hp;obtain⟨a,b,d⟩:=fJ M (uX hp) h1;exact⟨a,b,d,(aK7 M h0 hp h1).1,h2⟩
 |go h1 h2 _ ih=>
  intro h0 hp;obtain⟨a,b,d⟩:=fJ M (uX hp) h1;obtain⟨i1,i2,i3,i4,i5⟩:=ih a.1 d;have hs:=aK7 M h0 hp h1;exact⟨i1,λg hg=>b g (uA.mp (i2 g hg)).1,i3,by omega,i5⟩
def aZz{z p:Nat}(h0:z≠0)(hs:lD z p) (hr:r∈aL z) (e:(rk.getD r 0:Int)=fH rk p):fH rk z=fH rk p:=by
 obtain⟨⟨r',hr',e'⟩,hx⟩:=uW (rk:=rk) h0;have hp0:p≠0:=λz'=>by
  have:=hs r hr;rw[z']at this;exact absurd (bB.mp this) (by simp)
 obtain⟨_,hy⟩:=uW (rk:=rk) hp0;have h1:=hx r hr;have h2:=hy r' (hs r' hr');omega
theorem aDr(M:Mch S rk c){w:Bool}:∀(k P:Nat),szN P<=k->P≠0->P<2^S.length->evN rk P=w->∀{Z:Nat},LpN S c Z->lD Z P->(∃Y,Inl S c rk w P Y/\lD Z Y)\/(evN rk Z=w/\∃r∈aL Z,∀Y,Inl S c rk w P Y->r∉aL Y)
 |0,P,hk,h0,_,_,_,_,_=>absurd (bJw.mp (Nat.le_zero.mp hk)) (zF h0)
 |k+1,P,hk,h0,hp,hw,Z,hz,hs=>by
  by_cases ht:∃r∈aL Z,(rk.getD r 0:Int)=fH rk P
  .obtain⟨r,hr,e⟩:=ht;refine .inr ⟨?_,r,hr,λY hy hry=>?_⟩
   .unfold evN at hw ⊢;rw[aZz hz.1 hs hr e];exact hw
   .obtain⟨_,i2,_⟩:=aDq M hy h0 hp;exact(uA.mp (i2 r hry)).2 e
  .obtain⟨Q,hQ,hsQ⟩:=aR1 M (uX (rk:=rk) hp) hz λg hg=>uA.mpr ⟨hs g hg,λe=>ht ⟨g,hg,e⟩⟩
   obtain⟨q1,q2,q3⟩:=fJ M (uX hp) hQ;have hsz:=aK7 M h0 hp hQ
   by_cases hq:evN rk Q=w
   .rcases aDr M k Q (by omega) q1.1 q3 hq hz hsQ with ⟨Y,hy,hzy⟩|⟨e1,r,hr,hY⟩
    .exact .inl ⟨Y,.go hQ hq hy,hzy⟩
    .refine .inr ⟨e1,r,hr,λY hy hry=>?_⟩
     have hrQ:=hsQ r hr;cases hy with
     |out h3 h4=>
      have:=aK6 M (uX hp) hQ h3 hrQ hry;rw[<-this]at h4;exact h4 hq
     |go h3 h4 h5=>
      obtain⟨a,_,d⟩:=fJ M (uX hp) h3;obtain⟨_,i2,_⟩:=aDq M h5 a.1 d;have:=aK6 M (uX hp) hQ h3 hrQ (uA.mp (i2 r hry)).1;subst this;exact hY Y h5 hry
   .exact .inl ⟨Q,.out hQ hq,hsQ⟩
def bDl(base:Nat)(good:Bool):Nat:=if (decide (base%2=0))==good then base else base+1
section
variable{L:Nat->List Nat}{base:Nat}
def aDs{X:Nat}(h:X≠0):1<=szN X:=bL0.mpr (zF h)
inductive Row (S:List (List Nat)) (c:Nat) (rk:List Nat) (base:Nat):Nat->Nat->Prop
 |one {Z:Nat}:LpN S c Z->Row S c rk base Z (bDl base (evN rk Z))
 |up {Y Z v:Nat}:Row S c rk base Y v->LpN S c Z->lD Y Z->evN rk Y≠evN rk Z->Row S c rk base Z (v+1)
end
end
section
variable{S:List (List Nat)}{rk:List Nat}{c n:Nat}
def aT0(M:Mch S rk c)(hn:n<2^S.length):(aL n).length<=8:=by
 have:=jH S.length _ (dB n) λx hx=>bY hn hx
 have:=M.most;omega
def aW0(M:Mch S rk c)(hn:n<2^S.length){a:Nat}{st:PSt}(h:st[a]?=some (some (.v (.int (n:Int))))):aN cD (aC (aA a) aR) st=.ok (.lst (nats (aL n))):=
 aW (bV (aCc h) rfl) (pO hn (by have:=M.most;omega))
def aOs(M:Mch S rk c)(hn:n<2^S.length)(h0:n≠0):oN [mD S rk c,.int n]=.ok (.int (woN rk n)):=by
 have h8:=aT0 M hn;refine cB rfl ?_
 refine aM (st':=[some (.v (mD S rk c)),some (.v (.int n)),some (.v (.int (fH rk n))),none]) (bU (aW rfl (aVo M hn h0))) ?_
 have ce:iI (tgN 3) wY wX [some (.v (mD S rk c)),some (.v (.int n)),some (.v (.int (fH rk n))),none] (nats (aL n))=.ok (nats ((aL n).filter λr=>!decide ((rk.getD r 0:Int)=fH rk n))):=gK (aL n) λr hr=>by
  have hr':r<rk.length:=by rw[M.rks];exact bY hn hr
  have ea:atI (nats rk) (r:Int)=some (.int (rk.getD r 0:Nat)):=by
   rw[atI_nat (by rw[bF];exact hr')]
   simp[nats,getD_eq_getElem?_getD,List.getElem?_eq_getElem hr']
  refine⟨_,rfl,?_,rfl⟩;exact aP (aP (show e1 (nM "Machine" "ranks") (aA 0) _=.ok (.lst (nats rk)) from aGk) rfl (mF ea)) rfl (yX _ _)
 refine dR (aW (bV (jV (uR (aW0 M hn rfl)) (by rw[bF];omega) ce) rfl) ?_)
 exact aFh (λr hr=>by have:=bY hn (bJa.mp hr).1;have:=M.most;omega) (by have:=bLl (λr=>!decide ((rk.getD r 0:Int)=fH rk n)) (aL n);omega)
theorem aGp(f:Nat->Nat)(q:Nat->Bool):∀(rs ps:List Nat),ps.Nodup->(rs.foldl (λps r=>if f r∉ps/\q (f r)=true then ps++[f r] else ps) ps).Nodup
 |[],_,h=>h
 |r::rs,ps,h=>by
  rw[bM5];refine aGp f q rs _ ?_
  split
  .rename_i z;refine bKh.mpr ⟨h,bK2.mpr ⟨not_mem_nil,nodup_nil⟩,λa ha b hb e=>?_⟩
   rw[bIu.mp hb]at e;exact z.1 (e ▸ ha)
  .exact h
def aM9:(dI S c m).Nodup:=aGp _ _ _ _ nodup_nil
def szs(l:List Nat):Nat:=(l.map szN).sum
def aK8(l m:List Nat):szs (l++m)=szs l+szs m:=by unfold szs;simp
def bDm{l:List Nat}(nd:l.Nodup)(hs:∀q∈l,lD q m)(hd:∀p∈l,∀q∈l,∀g,g∈aL p->g∈aL q->p=q):szs l<=szN m:=by
 have key:∀l:List Nat,l.Nodup->(∀p∈l,∀q∈l,∀g,g∈aL p->g∈aL q->p=q)->(l.flatMap aL).Nodup/\(l.flatMap aL).length=szs l:=λl=>by
  induction l with
  |nil=>exact λ_ _=>⟨nodup_nil,rfl⟩
  |cons p l ih=>
   intro nd hd;obtain⟨n1,n2⟩:=bK2.mp nd;obtain⟨i1,i2⟩:=ih n2 λp hp q hq=>hd p (bIl _ hp) q (bIl _ hq)
   rw[List.flatMap_cons];refine⟨bKh.mpr ⟨dB p,i1,λa ha b hb e=>?_⟩,?_⟩
   .obtain⟨q,hq,hb⟩:=List.mem_flatMap.mp hb;subst e;rw[hd p bIm q (bIl _ hq) a ha hb]at n1;exact n1 hq
   .rw[bJ8,i2];unfold szs szN;simp
 obtain⟨k1,k2⟩:=key l nd hd;rw[<-k2];exact k1.length_le_of_subset λg hg=>by
  obtain⟨q,hq,hg⟩:=List.mem_flatMap.mp hg;exact hs q hq g hg
def aT1(M:Mch S rk c){p:Nat}(h0:p≠0)(hp:p<2^S.length):szs (dI S c (woN rk p))<szN p:=by
 obtain⟨⟨r,hr,e⟩,_⟩:=uW (rk:=rk) h0;have h1:=bDm (m:=woN rk p) aM9 (λq hq=>(fJ M (uX hp) hq).2.1) λa ha b hb g h1 h2=>aK6 M (uX hp) ha hb h1 h2
 have h2:szN (woN rk p)<szN p:=aVz (λg hg=>(uA.mp hg).1) hr λz=>(uA.mp z).2 e
 omega
theorem aJ0(q:Nat->Bool):∀(l:List Nat),(∀x∈l,1<=szN x)->(l.filter λx=>!q x).length+szs (l.filter q)<=szs l
 |[],_=>bIn _
 |x::l,h=>by
  have ih:=aJ0 q l λx hx=>h x (bIl _ hx)
  have hx:=h x bIm;have e:szs (x::l)=szN x+szs l:=by unfold szs;simp
  cases hq:q x
  .rw[bK4 (by simp[hq]),bKc (by simp[hq]),bJ7]
   omega
  .rw[bKc (by simp[hq]),bK4 (by simp[hq])]
   have e2:szs (x::l.filter q)=szN x+szs (l.filter q):=by unfold szs;simp
   omega
abbrev ist(S:List (List Nat))(rk:List Nat)(c n:Nat)(F T:List Nat)(x4 x5:Option Sl):PSt:=[some (.v (mD S rk c)),some (.v (.int n)),some (.o .l (nats F)),some (.o .l (nats T)),x4,x5]
def aK9(M:Mch S rk c)(hn:n<2^S.length)(h0:n≠0){a:Nat}{st:PSt}(h:st[a]?=some (some (.v (.int (n:Int)))))(hm:st[0]?=some (some (.v (mD S rk c)))):aN gD (aC (aA 0) (aC (aA a) aR)) st=.ok (.bl (evN rk n)):=
 aW (bV (d:=mD S rk c) (by simp[hm]) (bV (aCc h) rfl)) (aZp M hn h0)
def aR2(p q:Bool):dEq (.bl p) (.bl q)=.ok (.bl (p==q)):=aF ⟨bK6 64,rfl,rfl⟩
theorem aDt(M:Mch S rk c)(hn:n<2^S.length)(h0:n≠0){x4:Option Sl}:∀(l F T:List Nat)(x5:Option Sl),(∀q∈l,q≠0/\q<2^S.length)->F.length+l.length<=1000->T.length+l.length<=1000->
  ∃y5,forR (tgN 5) wZ (nats l) (ist S rk c n F T x4 x5)=.ok (.nx (ist S rk c n (F++l.filter λq=>!(evN rk q==evN rk n)) (T++l.filter λq=>evN rk q==evN rk n) x4 y5))
 |[],F,T,x5,_,_,_=>⟨x5,by rw[filter_nil,filter_nil,bKi,bKi];rfl⟩
 |q::l,F,T,x5,h,hF,hT=>by
  rw[bJ7]at hF hT;obtain⟨q0,q1⟩:=h q bIm;have test:(e2 dEq (aN gD (aC (aA 0) (aC (aA 5) aR))) (aN gD (aC (aA 0) (aC (aA 1) aR)))) (ist S rk c n F T x4 (some (.v (.int q))))=.ok (.bl (evN rk q==evN rk n)):=aP (aK9 M q1 q0 rfl rfl) (aK9 M hn h0 rfl rfl) (aR2 _ _);cases hq:evN rk q==evN rk n
  .obtain⟨y5,e⟩:=aDt M hn h0 (x4:=x4) l (F++[q]) T (some (.v (.int q))) (λq hq=>h q (bIl _ hq)) (by simp;omega) (by omega)
   refine⟨y5,kW (s1:=ist S rk c n F T x4 (some (.v (.int q)))) rfl (mZ (test.trans (by rw[hq])) (yZ (d:=.int q) rfl rfl (by rw[bF];omega))) ?_⟩
   rw[bK4 (by simp[hq]),bKc (by simp[hq])]
   rw[bKa]at e;show forR _ _ (nats l) [some (.v (mD S rk c)),some (.v (.int n)),some (.o .l (nats F++[.int q])),some (.o .l (nats T)),x4,some (.v (.int q))]=_;rw[<-uU];exact e
  .obtain⟨y5,e⟩:=aDt M hn h0 (x4:=x4) l F (T++[q]) (some (.v (.int q))) (λq hq=>h q (bIl _ hq)) (by omega) (by simp;omega)
   refine⟨y5,kW (s1:=ist S rk c n F T x4 (some (.v (.int q)))) rfl (aBd (test.trans (by rw[hq])) (yZ (d:=.int q) rfl rfl (by rw[bF];omega))) ?_⟩
   rw[bKc (by simp[hq]),bK4 (by simp[hq])]
   rw[bKa]at e;show forR _ _ (nats l) [some (.v (mD S rk c)),some (.v (.int n)),some (.o .l (nats F)),some (.o .l (nats T++[.int q])),x4,some (.v (.int q))]=_;rw[<-uU];exact e
def aGq{w:Bool}{P Y:Nat}:Inl S c rk w P Y↔(Y∈dI S c (woN rk P)/\evN rk Y≠w)\/∃Q∈dI S c (woN rk P),evN rk Q=w/\Inl S c rk w Q Y:=by
 constructor
 .intro h;cases h with
  |out h1 h2=>exact .inl ⟨h1,h2⟩
  |go h1 h2 h3=>exact .inr ⟨_,h1,h2,h3⟩
 .rintro(⟨h1,h2⟩|⟨Q,h1,h2,h3⟩)
  .exact .out h1 h2
  .exact .go h1 h2 h3
def aDu(T:List Nat):dNe (.lst (nats T)) (.lst [])=.ok (.bl (!decide (T=[]))):=by
 obtain⟨k1,k2,_⟩:=fG T;have kd:dep (.lst (nats T))=1:=by unfold dep;rw[k2]
 have kp:plain (.lst (nats T))=true:=by(conv=>lhs;unfold plain);exact k1
 have ke:eqD (.lst (nats T)) (.lst [])=decide (T=[]):=by(conv=>lhs;unfold eqD);exact aFi T []
 rw[bD5,aF ⟨by omega,kp,rfl⟩,ke]
def bA0{st:PSt}{x:D} (hf:f st=.ok x) (hs:st[j]?=some (some (.o .l (ys++[d])))) (hl:ys.length<1000) (hp:p [x,d]=.ok y):aQh i j p f st=.ok (.nx ((st.set j (some (.o .l ys))).set i (some (.v y)))):=by
 unfold aQh;rw[hf,aH,hs];dsimp only;rw[List.getLast?_append,List.getLast?_singleton,Option.some_or];dsimp only;rw[aF (dN (by rw[bJ8,bJx];omega)),hp,aH,List.dropLast_concat]
def aOt(M:Mch S rk c)(hn:n<2^S.length)(h0:n≠0):∀(k f:Nat)(F T:List Nat)(x4 x5:Option Sl),szs T<=k->k<f->(∀q∈T,q≠0/\q<2^S.length)->F.length+szs T<=100->
  ∃F' y4 y5,lG xG xF f (ist S rk c n F T x4 x5)=.ok (.nx (ist S rk c n F' [] y4 y5))/\F'.length<=100/\∀Y,Y∈F'↔Y∈F\/∃P∈T,Inl S c rk (evN rk n) P Y:=by
 intro k
 induction k with
 |zero=>
  intro f F T x4 x5 hk hf hT hl;obtain⟨f,rfl⟩:∃g,f=g+1:=⟨f-1,by omega⟩
  cases T with
  |nil=>exact⟨F,x4,x5,aA4 (aP rfl (eQ rfl) (aDu [])),by omega,λY=>⟨.inl,λz=>z.elim id λ⟨_,h,_⟩=>nomatch h⟩⟩
  |cons p T=>
   have:=aDs (hT p bIm).1;unfold szs at hk;simp at hk;omega
 |succ k ih=>
  intro f F T x4 x5 hk hf hT hl;obtain⟨f,rfl⟩:∃g,f=g+1:=⟨f-1,by omega⟩
  rcases bLc T with rfl|⟨T',p,rfl⟩
  .exact⟨F,x4,x5,aA4 (aP rfl (eQ rfl) (aDu [])),by omega,λY=>⟨.inl,λz=>z.elim id λ⟨_,h,_⟩=>nomatch h⟩⟩
  .rw[bLd]at *;obtain⟨p0,p1⟩:=hT p (bIo _ bIm);have hpz:=aDs p0;have es:szs (T'++[p])=szs T'+szN p:=by rw[aK8];unfold szs;simp
   have hps:=aT1 M p0 p1;have parts:∀q∈dI S c (woN rk p),q≠0/\q<2^S.length:=λq hq=>⟨(fJ M (uX p1) hq).1.1,(fJ M (uX p1) hq).2.2⟩
   have hsp:=aJ0 (λq=>evN rk q==evN rk n) (dI S c (woN rk p)) λq hq=>aDs (parts q hq).1
   have lle:∀l:List Nat,(∀q∈l,q≠0)->l.length<=szs l:=λl hl=>by
    induction l with
    |nil=>exact bIn _
    |cons q l ih=>
     have e:szs (q::l)=szN q+szs l:=by unfold szs;simp
     have:=aDs (hl q bIm);have:=ih λq hq=>hl q (bIl _ hq)
     rw[bJ7];omega
   have hlp:=lle _ λq hq=>(parts q hq).1
   have hlT:=lle T' λq hq=>(hT q (bIw _ hq)).1
   obtain⟨y5,e1⟩:=aDt M hn h0 (x4:=some (.v (.int (woN rk p)))) (dI S c (woN rk p)) F T' x5 parts (by omega) (by omega)
   obtain⟨F',z4,z5,e3,l3,i3⟩:=ih f (F++(dI S c (woN rk p)).filter λq=>!(evN rk q==evN rk n)) (T'++(dI S c (woN rk p)).filter λq=>evN rk q==evN rk n) (some (.v (.int (woN rk p)))) y5 (by rw[aK8];omega) (by omega) (λq hq=>by
    rcases bJb.mp hq with h|h
    .exact hT q (bIw _ h)
    .exact parts q (bJa.mp h).1) (by rw[aK8,bJ8];omega)
   refine⟨F',z4,z5,aGc (st':=ist S rk c n (F++(dI S c (woN rk p)).filter λq=>!(evN rk q==evN rk n)) (T'++(dI S c (woN rk p)).filter λq=>evN rk q==evN rk n) (some (.v (.int (woN rk p)))) y5) (aP rfl (eQ rfl) ?_) (aM (st':=ist S rk c n F T' (some (.v (.int (woN rk p)))) x5) ?_ (jG (uR (aW rfl (aGj M (uX p1)))) e1)) e3,l3,λY=>?_⟩
   .rw[show ofK .l (nats (T'++[p]))=.lst (nats (T'++[p])) from rfl,aDu]
    simp
   .exact bA0 (x:=mD S rk c) (ys:=nats T') (d:=.int p) rfl (by rw[<-uU];rfl) (by rw[bF];omega) (aOs M p1 p0)
   .rw[i3 Y];constructor
    .rintro(h|⟨P,hP,h⟩)
     .rcases bJb.mp h with h|h
      .exact .inl h
      .obtain⟨h1,h2⟩:=bJa.mp h;exact .inr ⟨p,bIo _ bIm,aGq.mpr (.inl ⟨h1,by simpa using h2⟩)⟩
     .rcases bJb.mp hP with h'|h'
      .exact .inr ⟨P,bIw _ h',h⟩
      .obtain⟨h1,h2⟩:=bJa.mp h';exact .inr ⟨p,bIo _ bIm,aGq.mpr (.inr ⟨P,h1,by simpa using h2,h⟩)⟩
    .rintro(h|⟨P,hP,h⟩)
     .exact .inl (bIw _ h)
     .rcases bJb.mp hP with h'|h'
      .exact .inr ⟨P,bIw _ h',h⟩
      .rw[bIu.mp h']at h;rcases aGq.mp h with ⟨h1,h2⟩|⟨Q,h1,h2,h3⟩
       .exact .inl (bIo _ (bJa.mpr ⟨h1,by simpa using h2⟩))
       .exact .inr ⟨Q,bIo _ (bJa.mpr ⟨h1,by simpa using h2⟩),h3⟩
def aW1(M:Mch S rk c)(hn:n<2^S.length)(h0:n≠0):∃F,iT [mD S rk c,.int n]=.ok (.lst (nats F))/\F.length<=100/\∀Y,Y∈F↔Inl S c rk (evN rk n) n Y:=by
 have h8:=aT0 M hn;have e1:szs [n]=szN n:=by unfold szs;simp
 have e2':szN n<=8:=h8;obtain⟨F,y4,y5,e,l,i⟩:=aOt M hn h0 8 100000 [] [n] none none (by omega) (by omega) (λq hq=>by rw[bIu.mp hq];exact⟨h0,hn⟩) (by simp;omega)
 refine⟨F,cB rfl ?_,l,λY=>?_⟩
 .refine aM (sS (eQ rfl)) (aM (st':=ist S rk c n [] [n] none none) (sS (eQ (ds:=[.int n]) rfl)) (aM e ?_));exact dR rfl
 .rw[i Y];constructor
  .rintro(h|⟨P,hP,h⟩)
   .exact nomatch h
   .rw[bIu.mp hP]at h;exact h
  .exact λh=>.inr ⟨n,bIm,h⟩
end
section
variable{S:List (List Nat)}{rk:List Nat}{c n base:Nat}
open Classical in
noncomputable def aW2(S:List (List Nat))(rk:List Nat)(c X:Nat):List Nat:=if h:∃F,iT [mD S rk c,.int X]=.ok (.lst (nats F))/\F.length<=100/\∀Y,Y∈F↔Inl S c rk (evN rk X) X Y then h.choose else []
def bA1(M:Mch S rk c)(hn:n<2^S.length)(h0:n≠0):iT [mD S rk c,.int n]=.ok (.lst (nats (aW2 S rk c n)))/\(aW2 S rk c n).length<=100/\∀Y,Y∈aW2 S rk c n↔Inl S c rk (evN rk n) n Y:=by
 have h:=aW1 M hn h0;unfold aW2;rw[dif_pos h];exact h.choose_spec
noncomputable def aDv(S:List (List Nat))(c:Nat):Nat:=fW S c (iQ (List.range S.length)) 0
def aCe:aDv S c<2^S.length:=zE
noncomputable def aDw(S:List (List Nat))(c:Nat):List Nat:=dI S c (aDv S c)
def aW3(M:Mch S rk c):oM [mD S rk c]=.ok (.lst (nats (aDw S c))):=
 cB rfl (dR (aW (bV rfl (bV (aW (ds:=[mD S rk c,.int (0:Nat)]) rfl (aVw M (by have:=M.one;omega))) rfl)) (aGj M aCe)))
end
section
variable{S:List (List Nat)}{rk:List Nat}{c n base:Nat}
abbrev dW(W:Nat->Nat)(l:List Nat):List D:=l.map λg=>D.int (W g:Nat)
end
section
variable{S:List (List Nat)}{rk:List Nat}{c n:Nat}
inductive Ch (S:List (List Nat)) (c:Nat) (rk:List Nat) (g:Bool):Nat->Nat->Prop
 |one {Z:Nat}:LpN S c Z->evN rk Z=g->Ch S c rk g Z 1
 |up {Y Z m:Nat}:Ch S c rk g Y m->LpN S c Z->lD Y Z->evN rk Y≠evN rk Z->Ch S c rk g Z (m+1)
def Ch.lp{g:Bool} (h:Ch S c rk g Z m):LpN S c Z:=by
 cases h with
 |one h _=>exact h
 |up _ h _ _=>exact h
def aW4{Y:Nat}(hs:lD Y Z)(hne:Y≠Z):szN Y<szN Z:=by
 by_cases h:∀r∈aL Z,r∈aL Y
 .exact(hne (aVu hs h)).elim
 .obtain⟨r,hr⟩:=Classical.not_forall.mp h;obtain⟨hr,hn⟩:=Classical.not_imp.mp hr;exact aVz hs hr hn
def aEt{g:Bool} (h:Ch S c rk g Z m):1<=m/\m<=szN Z:=by
 induction h with
 |one h _=>exact⟨bIn _,aDs h.1⟩
 |up _ _ hs he ih=>exact⟨by omega,Nat.lt_of_le_of_lt ih.2 (aW4 hs λz=>he (by rw[z]))⟩
theorem aOu{P:Nat->Prop}:∀B:Nat,(∀m,P m->m<=B)->∃v,(v=0\/P v)/\∀m,P m->m<=v
 |0,h=>⟨0,.inl rfl,h⟩
 |B+1,h=>by
  by_cases hb:P (B+1)
  .exact⟨B+1,.inr hb,h⟩
  .exact aOu B λm hm=>by
    have:=h m hm;have:m≠B+1:=λz=>hb (z ▸ hm)
    omega
noncomputable def lgN(S:List (List Nat))(c:Nat)(rk:List Nat)(g:Bool)(Z:Nat):Nat:=(aOu (P:=Ch S c rk g Z) (szN Z) λm hm=>(aEt hm).2).choose
def aCf(g:Bool)(Z:Nat):(lgN S c rk g Z=0\/Ch S c rk g Z (lgN S c rk g Z))/\∀m,Ch S c rk g Z m->m<=lgN S c rk g Z:=(aOu (P:=Ch S c rk g Z) (szN Z) λm hm=>(aEt hm).2).choose_spec
def bGg{g:Bool}{v:Nat}(h1:v=0\/Ch S c rk g Z v)(h2:∀m,Ch S c rk g Z m->m<=v):v=lgN S c rk g Z:=by
 obtain⟨s1,s2⟩:=aCf (S:=S) (c:=c) (rk:=rk) g Z;rcases h1 with h1|h1
 .rcases s1 with s1|s1
  .omega
  .have:=h2 _ s1;omega
 .have a:=s2 _ h1;rcases s1 with s1|s1
  .have:=(aEt h1).1;omega
  .have:=h2 _ s1;omega
def aW5{Y:Nat}:fH rk Y%2=fH rk Z%2↔evN rk Y=evN rk Z:=by
 unfold evN;rw[bKm];omega
def zG(rk:List Nat)(V:Nat->Nat)(Z b Y:Nat):Nat:=if Y|||Z=Z/\0<V Y/\evN rk Y≠evN rk Z then max b (V Y+1) else b
theorem aJ1{V:Nat->Nat}{Z:Nat}:∀(p:List Nat)(b:Nat),b<=p.foldl (zG rk V Z) b/\(∀Y∈p,Y|||Z=Z->0<V Y->evN rk Y≠evN rk Z->V Y+1<=p.foldl (zG rk V Z) b)/\(p.foldl (zG rk V Z) b=b\/∃Y∈p,Y|||Z=Z/\0<V Y/\evN rk Y≠evN rk Z/\p.foldl (zG rk V Z) b=V Y+1)
 |[],b=>⟨bIn _,λ_ h=>(nomatch h),.inl rfl⟩
 |Y::p,b=>by
  obtain⟨i1,i2,i3⟩:=aJ1 (V:=V) (Z:=Z) p (zG rk V Z b Y);rw[bM5];have hb:b<=zG rk V Z b Y:=by unfold zG;split<;>omega
  refine⟨by omega,λX hX h1 h2 h3=>?_,?_⟩
  .rcases bIq.mp hX with e|hX
   .subst e;have:zG rk V Z b X=max b (V X+1):=bIv ⟨h1,h2,h3⟩;omega
   .exact i2 X hX h1 h2 h3
  .rcases i3 with e|⟨X,hX,h⟩
   .by_cases hc:Y|||Z=Z/\0<V Y/\evN rk Y≠evN rk Z
    .have e2':zG rk V Z b Y=max b (V Y+1):=bIv hc
     by_cases hm:V Y+1<=b
     .exact .inl (by omega)
     .exact .inr ⟨Y,bIm,hc.1,hc.2.1,hc.2.2,by omega⟩
    .have e2':zG rk V Z b Y=b:=bIt hc;exact .inl (by omega)
   .exact .inr ⟨X,bIl _ hX,h⟩
abbrev zH(Ws:List Nat)(rk:List Nat)(o:Nat)(x3:Option Sl)(Z:Nat)(mine:Int)(b:Nat)(x7:Option Sl):PSt:=[some (.v (.lst (nats Ws))),some (.v (.lst (nats rk))),some (.v (.int o)),x3,some (.v (.int Z)),some (.v (.int mine)),some (.v (.int b)),x7]
def aW6(M:Mch S rk c)(hn:n<2^S.length)(h0:n≠0){a:Nat}{st:PSt}(h:st[a]?=some (some (.v (.int (n:Int)))))(hr:st[r]?=some (some (.v (.lst (nats rk))))):e2 qF (aN nW (aC (aA r) (aC (aA a) aR))) (eC (.int 2)) st=.ok (.int (fH rk n%2)):=
 aP (aW (bV (d:=.lst (nats rk)) (by simp[hr]) (bV (aCc h) rfl)) (aZt M hn h0)) rfl (aBe (by omega))
def aW7(M:Mch S rk c) {o:Nat} {V:Nat->Nat} {Y b:Nat} (hZ:Z<2^S.length) (hY:Y<2^S.length) (h0:Y≠0):aLm 6 eY eZ (V Y:Nat) (zH Ws rk o none Z (fH rk Z%2) b (some (.v (.int Y))))=.ok (zH Ws rk o none Z (fH rk Z%2) (zG rk V Z b Y) (some (.v (.int Y)))):=by
 have c1:eY (zH Ws rk o none Z (fH rk Z%2) b (some (.v (.int Y))))=.ok (.bl (decide (Y|||Z=Z))):=eqE (orE rfl rfl) (aCc rfl)
 have c2:eZ (zH Ws rk o none Z (fH rk Z%2) b (some (.v (.int Y))))=.ok (.bl (!decide (fH rk Y%2=fH rk Z%2))):=aP (aW6 M hY h0 rfl rfl) rfl (yX _ _);unfold aLm;rw[c1,aH,nO]
 by_cases h:Y|||Z=Z/\0<V Y
 .rw[bIv ⟨bIr h.1,by omega⟩,c2,aH,nO]
  by_cases hp:fH rk Y%2=fH rk Z%2
  .rw[bIr hp,bIt (by decide)]
   have e:zG rk V Z b Y=b:=bIt λz=>z.2.2 (aW5.mp hp)
   rw[e]
  .rw[bIs hp,bIv (by decide)]
   have e:zG rk V Z b Y=max b (V Y+1):=bIv ⟨h.1,h.2,λz=>hp (aW5.mpr z)⟩
   rw[show aA 6 (zH Ws rk o none Z (fH rk Z%2) b (some (.v (.int Y))))=.ok (.int b) from rfl,aH]
   show Pu.R.ok _=_;have e3:(if (V Y:Int)+1>(b:Int) then (V Y:Int)+1 else (b:Int))=((max b (V Y+1):Nat):Int):=by split<;>omega
   rw[e3,e];rfl
 .rw[bIt λz=>h ⟨bJi z.1,by omega⟩]
  have e:zG rk V Z b Y=b:=bIt λz=>h ⟨z.1,z.2.1⟩
  rw[e]
theorem aR3(M:Mch S rk c){Ws:List Nat}{o:Nat}{V:Nat->Nat}{Z:Nat}(hZ:Z<2^S.length):∀(p:List Nat)(b:Nat)(x7:Option Sl),(∀Y∈p,Y<2^S.length/\Y≠0)->∃y7,aIm 7 6 eY eZ (nats p) (dW V p) (zH Ws rk o none Z (fH rk Z%2) b x7)=.ok (zH Ws rk o none Z (fH rk Z%2) (p.foldl (zG rk V Z) b) y7)
 |[],b,x7,_=>⟨x7,rfl⟩
 |Y::p,b,x7,h=>by
  obtain⟨y7,e⟩:=aR3 M (Ws:=Ws) (o:=o) (V:=V) hZ p (zG rk V Z b Y) (some (.v (.int Y))) λY hY=>h Y (bIl _ hY)
  refine⟨y7,?_⟩;show (aLm 6 eY eZ (V Y:Nat) (zH Ws rk o none Z (fH rk Z%2) b (some (.v (.int Y))))).bind _=_;rw[aW7 M hZ (h Y bIm).1 (h Y bIm).2,aH];exact e
def aT2(M:Mch S rk c) {o:Nat} {g:Bool} (ho:∀n,fH rk n%2=(o:Int)↔evN rk n=g) (hZ:Z<2^S.length) (hl:LpN S c Z) {p:List Nat} (hp:∀Y∈p,Y<2^S.length/\LpN S c Y) (hb:∀Y,LpN S c Y->lD Y Z->Y≠Z->Y∈p) (hn:Z∉p) (hlen:p.length<1000) {x5 x6 x7:Option Sl} :
  ∃y5 y6 y7,gG [some (.v (.lst (nats Ws))),some (.v (.lst (nats rk))),some (.v (.int o)),some (.o (.d false (nats p)) (dW (lgN S c rk g) p)),some (.v (.int Z)),x5,x6,x7]=.ok (.nx [some (.v (.lst (nats Ws))),some (.v (.lst (nats rk))),some (.v (.int o)),some (.o (.d false (nats (p++[Z]))) (dW (lgN S c rk g) (p++[Z]))),some (.v (.int Z)),y5,y6,y7]):=by
 obtain⟨y7,e⟩:=aR3 M (Ws:=Ws) (o:=o) (V:=lgN S c rk g) hZ p (if evN rk Z=g then 1 else 0) x7 λY hY=>⟨(hp Y hY).1,(hp Y hY).2.1⟩
 have best:p.foldl (zG rk (lgN S c rk g) Z) (if evN rk Z=g then 1 else 0)=lgN S c rk g Z:=by
  obtain⟨f1,f2,f3⟩:=aJ1 (rk:=rk) (V:=lgN S c rk g) (Z:=Z) p (if evN rk Z=g then 1 else 0)
  refine bGg ?_ λm hm=>?_
  .rcases f3 with f3|⟨Y,hY,h1,h2,h3,f3⟩
   .by_cases hg:evN rk Z=g
    .rw[f3,bIv hg];exact .inr (.one hl hg)
    .rw[f3,bIt hg];exact .inl rfl
   .rw[f3];refine .inr (.up ?_ hl (aOp.mp (by rw[bOk];exact h1)) h3)
    rcases (aCf (S:=S) (c:=c) (rk:=rk) g Y).1 with z|z
    .omega
    .exact z
  .cases hm with
   |one _ hg=>rw[bIv hg]at f1 ⊢; exact f1
   |up h1 h2 h3 h4=>
    rename_i Y m';have hY:=hb Y h1.lp h3 λz=>h4 (by rw[z])
    have hv:=(aCf (S:=S) (c:=c) (rk:=rk) g Y).2 _ h1;have:=(aEt h1).1;have:=f2 Y hY (by rw[bOk];exact aOp.mpr h3) (by omega) h4
    omega
 rw[best]at e;have hd:(decide (fH rk Z%2=(o:Int)))=decide (evN rk Z=g):=bKm.mpr (ho Z);obtain⟨e1,e2'⟩:=aQw (V:=lgN S c rk g) (x:=.int (lgN S c rk g Z:Nat)) hn;refine⟨some (.v (.int (fH rk Z%2))),some (.v (.int (lgN S c rk g Z))),y7,aM (bU (aW6 M hZ hl.1 rfl rfl)) (aM (st':=zH Ws rk o (some (.o (.d false (nats p)) (dW (lgN S c rk g) p))) Z (fH rk Z%2) (if evN rk Z=g then 1 else 0) x7) ?_ (aM (st':=zH Ws rk o (some (.o (.d false (nats p)) (dW (lgN S c rk g) p))) Z (fH rk Z%2) (lgN S c rk g Z) y7) ?_ ?_))⟩
 .refine bU (d:=.int ((if evN rk Z=g then 1 else 0:Nat):Int)) ?_
  show ((e2 dEq (aA 5) (aA 2)) _).bind aZe=_;rw[show (e2 dEq (aA 5) (aA 2)) (List.set [some (Sl.v (.lst (nats Ws))),some (.v (.lst (nats rk))),some (.v (.int o)),some (.o (.d false (nats p)) (dW (lgN S c rk g) p)),some (.v (.int Z)),x5,x6,x7] 5 (some (.v (.int (fH rk Z%2)))))=.ok (.bl (decide (fH rk Z%2=(o:Int)))) from aP rfl rfl (aDl _ _),aH,hd]
  by_cases hg:evN rk Z=g
  .rw[bIr hg,bIv hg];rfl
  .rw[bIs hg,bIt hg];rfl
 .show (aIm 7 6 eY eZ (nats p) (dW (lgN S c rk g) p) (zH Ws rk o none Z (fH rk Z%2) (if evN rk Z=g then 1 else 0) x7)).bind _=_
  rw[e,aH];rfl
 .refine(aK3 (k:=.int Z) (d:=.int (lgN S c rk g Z:Nat)) rfl rfl rfl rfl (by rw[bJ9];exact hlen)).trans ?_
  rw[e1,e2'];have:dW (lgN S c rk g) (p++[Z])=(p.map λr=>D.int (lgN S c rk g r:Nat))++[.int (lgN S c rk g Z:Nat)]:=by simp
  rw[this];rfl
theorem aJ2(M:Mch S rk c){Ws:List Nat}{o:Nat}{g:Bool}(ho:∀n,fH rk n%2=(o:Int)↔evN rk n=g):∀(q p:List Nat)(x4 x5 x6 x7:Option Sl),(p++q).Nodup->(p++q).Pairwise (λx y=>szN x<=szN y)->(p++q).length<1000->(∀Y∈p++q,Y<2^S.length/\LpN S c Y)->(∀Z∈p++q,∀Y,LpN S c Y->lD Y Z->Y∈p++q)->
  ∃y4 y5 y6 y7,forR (tgN 4) gG (nats q) [some (.v (.lst (nats Ws))),some (.v (.lst (nats rk))),some (.v (.int o)),some (.o (.d false (nats p)) (dW (lgN S c rk g) p)),x4,x5,x6,x7]=.ok (.nx [some (.v (.lst (nats Ws))),some (.v (.lst (nats rk))),some (.v (.int o)),some (.o (.d false (nats (p++q))) (dW (lgN S c rk g) (p++q))),y4,y5,y6,y7])
 |[],p,x4,x5,x6,x7,_,_,_,_,_=>⟨x4,x5,x6,x7,by rw[bKi];rfl⟩
 |Z::q,p,x4,x5,x6,x7,nd,pw,hl,hv,hd=>by
  have hZ:=hv Z (bIo _ bIm);obtain⟨n1,n2,n3⟩:=bKh.mp nd;obtain⟨w1,w2,w3⟩:=bKv.mp pw;have hn:Z∉p:=λz=>n3 Z z Z bIm rfl
  have hb:∀Y,LpN S c Y->lD Y Z->Y≠Z->Y∈p:=λY h1 h2 h3=>by
   rcases bJb.mp (hd Z (bIo _ bIm) Y h1 h2) with h|h
   .exact h
   .rcases bIq.mp h with h|h
    .exact(h3 h).elim
    .have:=List.rel_of_pairwise_cons w2 h;have:=aW4 h2 h3;omega
  obtain⟨z5,z6,z7,e1⟩:=aT2 M (Ws:=Ws) (o:=o) ho hZ.1 hZ.2 (λY hY=>hv Y (bIw _ hY)) hb hn (by rw[bJ8]at hl;omega) (x5:=x5) (x6:=x6) (x7:=x7)
  have ea:p++Z::q=p++[Z]++q:=by simp
  rw[ea]at nd pw hl hv hd ⊢;obtain⟨y4,y5,y6,y7,e⟩:=aJ2 M ho q (p++[Z]) (some (.v (.int Z))) z5 z6 z7 nd pw hl hv hd;exact⟨y4,y5,y6,y7,kW rfl e1 e⟩
def aCg(h:Z<2^8):fV [.int Z]=.ok (.int (szN Z)):=by
 have ce:iI (tgN 1) oU oR [some (.v (.int Z)),none] (nats (List.range 8))=.ok (nats ((List.range 8).filter λr=>Z.testBit r)):=gK (List.range 8) λr _=>⟨_,rfl,aZs rfl rfl,rfl⟩
 rw[aBh h]at ce;refine cB rfl (dR ?_);have ec:cC [1] (tgN 1) (xP (eC (.int 8))) oU oR [some (.v (.int Z)),none]=.ok (.lst (nats (aL Z))):=jV (aV8 (n:=8) rfl (by omega)) (by simp) ce
 show (cC [1] (tgN 1) (xP (eC (.int 8))) oU oR [some (.v (.int Z)),none]).bind dG=_;rw[ec,aH];show Pu.R.ok (D.int ((nats (aL Z)).length:Nat))=_;rw[bF];rfl
def aT3{out:List D} (h:out.Perm (nats l)):∃q:List Nat,out=nats q/\q.Perm l:=by
 have hm:=h.map λd=>match d with|.int i=>i.toNat|_=>0
 have e:(nats l).map (λd=>match d with|.int i=>i.toNat|_=>0)=l:=by
  unfold nats;rw[bK1];exact(bK8 λx _=>by simp).trans (List.map_id _)
 rw[e]at hm;refine⟨_,?_,hm⟩;unfold nats;rw[bK1];refine((bK8 λd hd=>?_).trans (List.map_id _)).symm
 obtain⟨x,_,rfl⟩:=zA (h.mem_iff.mp hd);simp
def bA2(M:Mch S rk c){Ws:List Nat}{o:Nat}{g:Bool}(ho:∀n,fH rk n%2=(o:Int)↔evN rk n=g)(nd:Ws.Nodup)(hlen:Ws.length<1000)(hv:∀Y∈Ws,Y<2^S.length/\LpN S c Y)(hd:∀Z∈Ws,∀Y,LpN S c Y->lD Y Z->Y∈Ws) :
  jE [.lst (nats Ws),.lst (nats rk),.int o]=.ok (.int (if Ws.map (λZ=>((lgN S c rk g Z:Nat):Int))=[] then 0 else yG (Ws.map λZ=>((lgN S c rk g Z:Nat):Int)))):=by
 have h8:∀Y∈Ws,Y<2^8:=λY hY=>bJ1 (hv Y hY).1 (bLj (by decide) M.most)
 have hg:(nats Ws).length<=1000/\∀d∈nats Ws,∃n m,d=.int n/\fV [d]=.ok (.int m):=⟨by rw[bF];omega,λd hd=>by
  obtain⟨x,hx,rfl⟩:=zA hd;exact⟨_,_,rfl,aCg (h8 x hx)⟩⟩
 have good:∀q:List Nat,q.Perm Ws->q.Pairwise (λx y=>szN x<=szN y)->(bG (aIh 3 false) (bG (wU (tgN 4) (aA 0) fV gG (nats q)) (cM (e1 (aIn 0) (cC [4] (tgN 4) (itE (aA 0)) dM fB))))) [some (.v (.lst (nats Ws))),some (.v (.lst (nats rk))),some (.v (.int o)),none,none,none,none,none]=.ok (.rt (.int (if Ws.map (λZ=>((lgN S c rk g Z:Nat):Int))=[] then 0 else yG (Ws.map λZ=>((lgN S c rk g Z:Nat):Int))))):=λq hq hp=>by
  obtain⟨y4,y5,y6,y7,e⟩:=aJ2 M (Ws:=Ws) ho q [] none none none none (by rw[bMl];exact hq.nodup_iff.mpr nd) hp (by rw[bMl,hq.length_eq];exact hlen) (λY hY=>hv Y (hq.mem_iff.mp hY)) λZ hZ Y h1 h2=>hq.mem_iff.mpr (hd Z (hq.mem_iff.mp hZ) Y h1 h2)
  rw[bMl]at e;have od:aOc fV (nats Ws) (nats q):=⟨hq.map _,by
   unfold nats;rw[bO7];exact hp.imp_of_mem λ{x y} hx hy h=>⟨_,_,aCg (h8 x (hq.mem_iff.mp hx)),aCg (h8 y (hq.mem_iff.mp hy)),by omega⟩⟩
  refine aM rfl (aM ((aLn rfl hg od).trans e) (dR ?_));have ce:iI (tgN 4) dM fB [some (.v (.lst (nats Ws))),some (.v (.lst (nats rk))),some (.v (.int o)),some (.o (.d false (nats q)) (dW (lgN S c rk g) q)),none,y5,y6,y7] (nats Ws)=.ok ((Ws.filter λ_=>true).map λZ=>D.int (lgN S c rk g Z:Nat)):=gK Ws λZ hZ=>⟨_,rfl,rfl,aP rfl rfl (aA6 (uT (λg'=>D.int (lgN S c rk g g':Nat)) (hq.mem_iff.mpr hZ)))⟩
  rw[bLp.mpr (λ_ _=>rfl)]at ce
  have ec:cC [4] (tgN 4) (itE (aA 0)) dM fB [some (.v (.lst (nats Ws))),some (.v (.lst (nats rk))),some (.v (.int o)),some (.o (.d false (nats q)) (dW (lgN S c rk g) q)),y4,y5,y6,y7]=.ok (.lst (Ws.map λZ=>D.int (lgN S c rk g Z:Nat))):=jV rfl (by rw[bF];omega) ce
  show (cC [4] (tgN 4) (itE (aA 0)) dM fB [some (.v (.lst (nats Ws))),some (.v (.lst (nats rk))),some (.v (.int o)),some (.o (.d false (nats q)) (dW (lgN S c rk g) q)),y4,y5,y6,y7]).bind (aIn 0)=_;rw[ec,aH];show (rW (Ws.map λZ=>D.int (lgN S c rk g Z:Nat))).bind _=_
  have em:(Ws.map λZ=>D.int (lgN S c rk g Z:Nat))=(Ws.map λZ=>((lgN S c rk g Z:Nat):Int)).map D.int:=by rw[bK1];rfl
  rw[em,nR,aH]
 have all:aDg (λout=>bG (aIh 3 false) (bG (wU (tgN 4) (aA 0) fV gG out) (cM (e1 (aIn 0) (cC [4] (tgN 4) (itE (aA 0)) dM fB))))) [some (.v (.lst (nats Ws))),some (.v (.lst (nats rk))),some (.v (.int o)),none,none,none,none,none] (.int (if Ws.map (λZ=>((lgN S c rk g Z:Nat):Int))=[] then 0 else yG (Ws.map λZ=>((lgN S c rk g Z:Nat):Int)))):=λout=>by
  by_cases ok:aOc fV (nats Ws) out
  .obtain⟨q,rfl,hq⟩:=aT3 ok.1;refine .inl (good q hq ?_);have:=ok.2;unfold nats at this;rw[bO7]at this;exact this.imp_of_mem λ{x y} hx hy ⟨i,j,h1,h2,h3⟩=>by
    rw[aCg (h8 x (hq.mem_iff.mp hx))]at h1;rw[aCg (h8 y (hq.mem_iff.mp hy))]at h2;cases h1;cases h2;omega
  .refine .inr (aM rfl ?_);show aBz (wU _ _ _ _ _ _) _=_;rw[aV6 (ds:=nats Ws) rfl hg ok];rfl
 refine cB rfl ?_
 show (pN _ [some (.v (.lst (nats Ws))),some (.v (.lst (nats rk))),some (.v (.int o)),none,none,none,none,none]).bind _=_;have hs:(Ws.mergeSort λx y=>decide (szN x<=szN y)).Perm Ws:=List.mergeSort_perm _ _
 have hp:(Ws.mergeSort λx y=>decide (szN x<=szN y)).Pairwise λx y=>szN x<=szN y:=(List.pairwise_mergeSort (le:=λx y=>decide (szN x<=szN y)) (λa b c h1 h2=>bIr (bJj (bJi h1) (bJi h2))) (λa b=>by rcases Nat.le_total (szN a) (szN b) with h|h<;>simp[h]) Ws).imp λh=>bJi h
 rw[bGc _ (good _ hs hp) all];rfl
end
def aOv{op:D->R D} {st:PSt} {x:D} {z:R D} (h:f st=.ok x) (ho:op x=z):e1 op f st=z:=by
 show (f st).bind op=_;rw[h];exact ho
def aT4(l:List Nat)(k:Nat):iQ (l++[k])=iQ l|||2^k:=by
 unfold iQ orN;rw[List.foldl_append];rfl
theorem aMa(p:Nat->Bool):∀k,(((List.range k).filter p).map λr=>2^r).sum=iQ ((List.range k).filter p)
 |0=>rfl
 |k+1=>by
  rw[List.range_succ,bN1];have ih:=aMa p k;have hlt:iQ ((List.range k).filter p)<2^k:=vV λr hr=>bJp.mp (bJa.mp hr).1
  cases hp:p k with
  |true=>
   rw[bK4 hp,filter_nil,aT4,bJs,List.sum_append,ih,bMz,List.sum_singleton,bOk];have:=Nat.two_pow_add_eq_or_of_lt hlt 1;rw[Nat.mul_one]at this;rw[<-this,Nat.add_comm]
  |false=>rw[bKc (by rw[hp];decide),filter_nil,bKi,ih]
theorem aMb:∀ks:List Nat,(ks.map λr=>((2^r:Nat):Int)).sum=(((ks.map λr=>2^r).sum:Nat):Int)
 |[]=>rfl
 |k::ks=>by rw[bJ5,bJ5,List.sum_cons,List.sum_cons,aMb ks,Int.natCast_add]
def bA3(n:Nat):iQ (List.range n)=2^n-1:=bKj λr=>by
 rw[iR,Nat.testBit_two_pow_sub_one,bKm.mpr bJp]
def bA4{st:PSt} (h:f st=.ok (.int n)) (hn:n<=8):e2 aUq (e2 aDe (eC (.int 1)) f) (eC (.int 1)) st=.ok (.int (iQ (List.range n):Nat)):=by
 refine aP (aP rfl h (aOi (by omega))) rfl ?_
 show R.ok (D.int (((2^n:Nat):Int)-1))=_;rw[bA3,Int.natCast_sub Nat.one_le_two_pow];rfl
def sum_set{l:List Nat}(nd:l.Nodup)(h:∀g∈l,g<n):(l.map λr=>2^r).sum=iQ l:=by
 have perm:l.Perm ((List.range n).filter λg=>decide (g∈l)):=(List.perm_ext_iff_of_nodup nd (List.nodup_range.filter _)).mpr λa=>by
  rw[bJa,bJp,bJf];exact⟨λz=>⟨h a z,z⟩,λz=>z.2⟩
 rw[(perm.map λr=>2^r).sum_nat,aMa]
 exact aQt λr=>perm.mem_iff.symm
section
variable{S:List (List Nat)}{rk:List Nat}{c n base:Nat}
def aW8(M:Mch S rk c):rY [.lst (stD S)]=.ok (.int (aDv S c)):=by
 have n1:=M.one;have n8:=M.most;obtain⟨l,e,nd,hl⟩:=aM5 M (s:=0) (by omega) (iQ (List.range S.length))
 have lt:∀g∈l,g<S.length:=λg hg=>aDo M (by omega) ((hl g).mp hg)
 have l8:l.length<=S.length:=jH _ _ nd lt;have hs:iQ l=aDv S c:=bKj λg=>by
  have h1:=hl g;have h2:=lR (n:=iQ (List.range S.length)) M (r:=0) (by omega) g
  rw[iR];cases hb:(aDv S c).testBit g
  .exact bIs λz=>by
    have:=h2.mpr (h1.mp z);unfold aDv at hb;rw[hb]at this;cases this
  .exact bIr (h1.mpr (h2.mp hb))
 have ce:iI (tgN 1) dM aAo [some (.v (.lst (stD S))),none] (nats l)=.ok ((l.filter λ_=>true).map λr=>D.int ((2^r:Nat):Int)):=gK l λr hr=>⟨_,rfl,rfl,aP rfl rfl (aOi (by have:=lt r hr;omega))⟩
 rw[bLp.mpr (λ_ _=>rfl)]at ce
 refine cB rfl (dR (aOv (jV (uR (aW (bV rfl (bV (bA4 (f:=e1 dG (aA 0)) (n:=S.length) ?_ n8) rfl)) e)) (by rw[bF];omega) ce) ?_))
 .show R.ok (D.int ((stD S).length:Nat))=_;rw[iW]
 .show (rW _).bind _=_;rw[show (l.map λr=>D.int ((2^r:Nat):Int))=(l.map λr=>((2^r:Nat):Int)).map D.int by rw[bK1];rfl,nR,aH,aMb,sum_set nd lt,hs]
noncomputable def nC(S:List (List Nat))(c:Nat):List Nat:=(tY S c).filter λm=>decide (m|||aDv S c=aDv S c)
def uY:m∈nC S c↔m<2^S.length/\LpN S c m/\lD m (aDv S c):=by
 unfold nC;rw[bJa,aSx,bJf,bOk,aOp];exact⟨λh=>⟨h.1.1,h.1.2,h.2⟩,λh=>⟨⟨h.1,h.2.1⟩,h.2.2⟩⟩
def aT5{Y:Nat}(hZ:Z∈nC S c)(h1:LpN S c Y)(h2:lD Y Z):Y∈nC S c:=by
 obtain⟨a,_,b⟩:=uY.mp hZ;refine uY.mpr ⟨?_,h1,λg hg=>b g (h2 g hg)⟩
 rw[<-gJ Y];exact vV λr hr=>bY a (h2 r hr)
def aOw:(nC S c).Nodup:=aM6.filter _
def aW9(M:Mch S rk c):(nC S c).length<=256:=by
 have h1:=bLl (λm=>decide (m|||aDv S c=aDv S c)) (tY S c)
 have h2:=aIz (S:=S) (c:=c);have h3:=aK4 M;unfold nC;omega
def aWa(M:Mch S rk c):rZ [.lst (stD S)]=.ok (.lst (nats (nC S c))):=by
 have ce:iI (tgN 2) aAq aAp [some (.v (.lst (stD S))),some (.v (.int (aDv S c))),none] (nats (tY S c))=.ok (nats (nC S c)):=gK (tY S c) λm _=>⟨_,rfl,eqE (orE rfl rfl) (aCc rfl),rfl⟩
 have h2:=aIz (S:=S) (c:=c);have h3:=aK4 M;exact cB rfl (aM (bU (aW rfl (aW8 M))) (dR (jV (uR (aW rfl (aSy M))) (by rw[bF];omega) ce)))
def aWb(M:Mch S rk c){X:Nat}(h:X∈aDw S c):X∈nC S c:=by
 obtain⟨a,b,d⟩:=fJ M aCe h;exact uY.mpr ⟨d,a,b⟩
def aWc(M:Mch S rk c) (h:Z∈nC S c):∃X∈aDw S c,lD Z X:=by
 obtain⟨_,b,d⟩:=uY.mp h;exact aR1 M aCe b d
def bDn(M:Mch S rk c){X:Nat}(h:X∈aDw S c):szN X<=12/\LpN S c X/\X<2^S.length:=by
 obtain⟨a,_,d⟩:=fJ M aCe h;exact⟨bJj (aT0 M d) (by omega),a,d⟩
noncomputable def rQ(S:List (List Nat))(c:Nat)(rk:List Nat)(g:Bool):Int:=if (nC S c).map (λZ=>((lgN S c rk g Z:Nat):Int))=[] then 0 else yG ((nC S c).map λZ=>((lgN S c rk g Z:Nat):Int))
def aMc(g:Bool):0<=rQ S c rk g/\(∀Z∈nC S c,∀m:Nat,Ch S c rk g Z m->(m:Int)<=rQ S c rk g)/\(rQ S c rk g=0\/∃Z∈nC S c,∃m:Nat,Ch S c rk g Z m/\(m:Int)=rQ S c rk g):=by
 unfold rQ;split
 .rename_i h;have h:=List.map_eq_nil_iff.mp h;rw[h];exact⟨by omega,λ_ z=>(nomatch z),.inl rfl⟩
 .rename_i h;obtain⟨h1,h2⟩:=aQy h;obtain⟨Z,hZ,e⟩:=bJe.mp h1;obtain⟨s1,s2⟩:=aCf (S:=S) (c:=c) (rk:=rk) g Z;rw[<-e];refine⟨by omega,λY hY m hm=>?_,?_⟩
  .have a:=h2 _ (bJe.mpr ⟨Y,hY,rfl⟩);have b:=(aCf (S:=S) (c:=c) (rk:=rk) g Y).2 m hm;rw[<-e]at a;omega
  .rcases s1 with s1|s1
   .exact .inl (by omega)
   .exact .inr ⟨Z,hZ,_,s1,rfl⟩
def aWd(g:Nat)(l:List Nat):jA (.int g) (.lst (nats l))=.ok (.bl (!decide (g∈l))):=by
 have h:aV (iH (nats l)<=60/\plain (.int (g:Int))=true/\cQ (nats l)=true) (R.ok (D.bl (inD (.int (g:Int)) (nats l))))=R.ok (D.bl (decide (g∈l))):=aVj g l;show aV (iH (nats l)<=60/\plain (.int (g:Int))=true/\cQ (nats l)=true) (R.ok (D.bl (!inD (.int (g:Int)) (nats l))))=_;rw[aF (aK h).1,vU]
end
theorem uZ{α:Type}{tg:Tg}{C E:Ex}{st:PSt}{F G:α->D}{q:α->Bool}:∀(ks:List α),(∀k∈ks,∃s1,tg (F k) st=.ok s1/\C s1=.ok (.bl (q k))/\(q k=true->E s1=.ok (G k)))->iI tg C E st (ks.map F)=.ok ((ks.filter q).map G)
 |[],_=>rfl
 |k::ks,h=>by
  obtain⟨s1,a1,a2,a3⟩:=h k bIm;have ih:=uZ ks λk hk=>h k (bIl _ hk)
  rw[bJ5,vK,a1,aH,a2,aH,nO];cases hq:q k with
  |true=>rw[bK4 hq,bJ5,bIv rfl,a3 hq,aH,ih];rfl
  |false=>rw[bKc (by rw[hq];decide),bIt bJn,ih]
section
variable{S:List (List Nat)}{rk:List Nat}{c n:Nat}{g:Bool}
inductive RowL (S:List (List Nat)) (c:Nat) (rk:List Nat) (g:Bool):List Nat->Nat->Prop
 |one {Z:Nat}:LpN S c Z->evN rk Z=g->RowL S c rk g [Z] Z
 |up {Y Z:Nat} {l:List Nat}:RowL S c rk g l Y->LpN S c Z->lD Y Z->evN rk Y≠evN rk Z->RowL S c rk g (l++[Z]) Z
def RowL.ch(h:RowL S c rk g l Z):Ch S c rk g Z l.length:=by
 induction h with
 |one h e=>exact .one h e
 |up _ h1 h2 h3 ih=>rw[bJ8];exact .up ih h1 h2 h3
def Alt(S:List (List Nat))(c:Nat)(rk:List Nat):Bool->List Nat->Prop
 |_,[]=>True
 |g,x::l=>LpN S c x/\evN rk x=g/\(∀y∈l.head?,lD x y)/\Alt S c rk (!g) l
theorem aMd{Y Z:Nat}(hZ:LpN S c Z)(hs:lD Y Z)(he:evN rk Y≠evN rk Z):∀{g:Bool}{l:List Nat},Alt S c rk g l->l.getLast?=some Y->Alt S c rk g (l++[Z])
 |_,[],_,h=>nomatch h
 |g,[x],h,e=>by
  have e:x=Y:=by simpa using e
  subst e;refine⟨h.1,h.2.1,λy hy=>?_,hZ,?_,(λy hy=>nomatch hy),trivial⟩
  .cases hy;exact hs
  .rw[h.2.1]at he;cases g<;>cases h':evN rk Z<;>first|rfl|exact(he h'.symm).elim
 |g,x::y::l,h,e=>⟨h.1,h.2.1,h.2.2.1,aMd hZ hs he h.2.2.2 (by rw[bLw]at e;exact e)⟩
def RowL.alt(h:RowL S c rk g l Z):Alt S c rk g l/\l.getLast?=some Z:=by
 induction h with
 |one h e=>exact⟨⟨h,e,(λy hy=>nomatch hy),trivial⟩,rfl⟩
 |up _ h1 h2 h3 ih=>exact⟨aMd h1 h2 h3 ih.1 ih.2,by simp⟩
def RowL.sub{l:List Nat} (h:RowL S c rk g l Z):∀x∈l,LpN S c x/\lD x Z:=by
 induction h with
 |one h _=>exact λx hx=>by rw[bIu.mp hx];exact⟨h,λ_ z=>z⟩
 |up _ h1 h2 _ ih=>
  intro x hx;rcases bJb.mp hx with hx|hx
  .exact⟨(ih x hx).1,λr hr=>h2 r ((ih x hx).2 r hr)⟩
  .rw[bIu.mp hx];exact⟨h1,λ_ z=>z⟩
def aR4(S:List (List Nat))(rk:List Nat)(c:Nat)(g:Bool)(X:Nat)(l:List Nat):Prop:=(l=[]\/RowL S c rk g l X)/\∀Z m,Ch S c rk g Z m->lD Z X->m<=l.length
def aR4.len(M:Mch S rk c){X:Nat} (hX:X<2^S.length) (h:aR4 S rk c g X l):l.length<=8:=by
 rcases h.1 with h|h
 .rw[h];exact bK6 _
 .exact bJj (aEt h.ch).2 (aT0 M hX)
noncomputable abbrev aAw(S:List (List Nat))(rk:List Nat)(c X:Nat)(g:Bool)(l:List Nat)(x4 x5:Option Sl):PSt:=[some (.v (mD S rk c)),some (.v (.int X)),some (.v (.bl g)),some (.v (.lst (nats l))),x4,x5]
def aT6(l:List Nat)(x:Nat):nats l++[D.int x]=nats (l++[x]):=by unfold nats;rw[bJs];rfl
def aR5(h:xs.length+ys.length<=1000):nJ (.lst xs) (.lst ys)=.ok (.lst (xs++ys)):=aF (dN (bJj h (by decide)))
def aFk{st:PSt} (h:st[i]?=some (some (.v (.lst (nats l))))):e1 dG (aA i) st=.ok (.int (l.length:Nat)):=aOv (x:=.lst (nats l)) (by unfold aA;rw[h]) (by show R.ok (D.int ((nats l).length:Nat))=_;rw[bF])
theorem aJ3(M:Mch S rk c){k X:Nat}(hk:szN X<=k+1)(h0:LpN S c X)(hX:X<2^S.length){rec:List D->R D}(hrec:∀Y,szN Y<=k->LpN S c Y->Y<2^S.length->∃l,rec [mD S rk c,.int Y,.bl g]=.ok (.lst (nats l))/\aR4 S rk c g Y l) :
  ∀(Ys l:List Nat)(x4 x5:Option Sl),(∀Y∈Ys,Inl S c rk (evN rk X) X Y)->(l=[]\/RowL S c rk g l X)->(evN rk X=g->l≠[])->∃l' y4 y5,forR (tgN 4) (pR rec) (nats Ys) (aAw S rk c X g l x4 x5)=.ok (.nx (aAw S rk c X g l' y4 y5))/\(l'=[]\/RowL S c rk g l' X)/\(evN rk X=g->l'≠[])/\l.length<=l'.length/\∀Y∈Ys,∀Z m,Ch S c rk g Z m->lD Z Y->m+1<=l'.length
 |[],l,x4,x5,_,h1,h2=>⟨l,x4,x5,rfl,h1,h2,bIn _,λ_ z=>nomatch z⟩
 |Y::Ys,l,x4,x5,hYs,h1,h2=>by
  obtain⟨i1,i2,i3,i4,i5⟩:=aDq M (hYs Y bIm) h0.1 hX;obtain⟨r,e,hr⟩:=hrec Y (by omega) i1 i3
  have r8:=hr.len M i3;have sYX:lD Y X:=λz hz=>(uA.mp (i2 z hz)).1
  have rne:l.length<=r.length->r≠[]:=λhle z=>by
   rw[z]at hle hr
   by_cases hg:evN rk X=g
   .exact h2 hg (bJw.mp (Nat.le_zero.mp hle))
   .have:=hr.2 Y 1 (.one i1 (by cases hx:evN rk X<;>cases hy:evN rk Y<;>cases g<;>simp_all)) λ_ z=>z
    exact absurd this (by decide)
  have go:∀l1,(bG (cR 5 (aN rec (aC (aA 0) (aC (aA 4) (aC (aA 2) aR))))) (sIf (e2 dGe (e1 dG (aA 5)) (e1 dG (aA 3))) (cR 3 (e2 nJ (aA 5) (fQ (aC (aA 1) aR)))) cZ)) (aAw S rk c X g l (some (.v (.int Y))) x5)=.ok (.nx (aAw S rk c X g l1 (some (.v (.int Y))) (some (.v (.lst (nats r))))))->(l1=[]\/RowL S c rk g l1 X)->(evN rk X=g->l1≠[])->l.length<=l1.length->r.length+1<=l1.length->∃l' y4 y5,forR (tgN 4) (pR rec) (nats (Y::Ys)) (aAw S rk c X g l x4 x5)=.ok (.nx (aAw S rk c X g l' y4 y5))/\(l'=[]\/RowL S c rk g l' X)/\(evN rk X=g->l'≠[])/\l.length<=l'.length/\∀Y'∈Y::Ys,∀Z m,Ch S c rk g Z m->lD Z Y'->m+1<=l'.length:=λl1 hb a1 a2 a3 a4=>by
   obtain⟨l',y4,y5,f,b1,b2,b3,b4⟩:=aJ3 M hk h0 hX hrec Ys l1 (some (.v (.int Y))) (some (.v (.lst (nats r)))) (λY hY=>hYs Y (bIl _ hY)) a1 a2
   refine⟨l',y4,y5,kW rfl hb f,b1,b2,by omega,λY' hY' Z m hc hs=>?_⟩
   rcases bIq.mp hY' with rfl|hY'
   .have:=hr.2 Z m hc hs;omega
   .exact b4 Y' hY' Z m hc hs
  have es:cR 5 (aN rec (aC (aA 0) (aC (aA 4) (aC (aA 2) aR)))) (aAw S rk c X g l (some (.v (.int Y))) x5)=.ok (.nx (aAw S rk c X g l (some (.v (.int Y))) (some (.v (.lst (nats r)))))):=bU (aW rfl e);have ec:e2 dGe (e1 dG (aA 5)) (e1 dG (aA 3)) (aAw S rk c X g l (some (.v (.int Y))) (some (.v (.lst (nats r)))))=.ok (.bl (decide (l.length<=r.length))):=aP (aFk (l:=r) rfl) (aFk (l:=l) rfl) (by
   show R.ok (D.bl (decide ((r.length:Int) ≥ (l.length:Int))))=_;congr 2;exact bKm.mpr (by omega))
  by_cases hle:l.length<=r.length
  .have hne:=rne hle;refine go (r++[X]) (aM es (aBd (iV ec (bIr hle)) ?_)) (.inr ?_) (λ_ z=>by simp at z) (by rw[bJ8];omega) (by rw[bJ8];exact bIn _)
   .refine(bU (aP (x:=.lst (nats r)) (y:=.lst [.int X]) rfl (eQ rfl) (aR5 (by rw[bF,bJx];omega)))).trans ?_
    rw[aT6];rfl
   .exact .up (hr.1.resolve_left hne) h0 sYX i5
  .exact go l (aM es (mZ (iV ec (bIs hle)) rfl)) h1 h2 (bIn _) (by omega)
theorem aMe(M:Mch S rk c):∀(k X:Nat),szN X<=k->LpN S c X->X<2^S.length->∃l,jC k [mD S rk c,.int X,.bl g]=.ok (.lst (nats l))/\aR4 S rk c g X l
 |0,X,hk,h0,_=>by have:=aDs h0.1;omega
 |k+1,X,hk,h0,hX=>by
  obtain⟨i1,i2,i3⟩:=bA1 M hX h0.1
  let l0:List Nat:=if evN rk X=g then [X] else []
  have e0:cR 3 (eIf (e2 dEq (aN gD (aC (aA 0) (aC (aA 1) aR))) (aA 2)) (fQ (aC (aA 1) aR)) (fQ aR)) [some (.v (mD S rk c)),some (.v (.int X)),some (.v (.bl g)),none,none,none]=.ok (.nx (aAw S rk c X g l0 none none)):=by
   refine bU ?_
   have ec:e2 dEq (aN gD (aC (aA 0) (aC (aA 1) aR))) (aA 2) [some (.v (mD S rk c)),some (.v (.int X)),some (.v (.bl g)),none,none,none]=.ok (.bl (evN rk X==g)):=aP (aK9 M hX h0.1 rfl rfl) rfl (aR2 _ _);show (e2 dEq _ _ _).bind _=_;rw[ec,aH]
   by_cases hg:evN rk X=g
   .rw[show l0=[X] from bIv hg,hg,beq_self_eq_true,nO,bIv rfl]
    exact eQ rfl
   .rw[show l0=[] from bIt hg,bK0.mpr hg,nO,bIt bJn]
    exact eQ rfl
  have a1:l0=[]\/RowL S c rk g l0 X:=by
   by_cases hg:evN rk X=g
   .rw[show l0=[X] from bIv hg];exact .inr (.one h0 hg)
   .exact .inl (bIt hg)
  have a2:evN rk X=g->l0≠[]:=λhg=>by rw[show l0=[X] from bIv hg];simp
  obtain⟨l,y4,y5,e,b1,b2,_,b4⟩:=aJ3 M hk h0 hX (rec:=jC k) (λY h1 h2 h3=>aMe M k Y h1 h2 h3) (aW2 S rk c X) l0 none none (λY hY=>(i3 Y).mp hY) a1 a2
  refine⟨l,cB rfl (aM e0 (aM (jG (uR (aW rfl i1)) e) (dR rfl))),b1,λZ m hc hs=>?_⟩
  rcases aDr M (k+1) X hk h0.1 hX rfl hc.lp hs with ⟨Y,hY,hzy⟩|⟨ez,_⟩
  .have:=b4 Y ((i3 Y).mpr hY) Z m hc hzy;omega
  .cases hc with
   |one _ hg=>exact bL0.mpr (b2 (by rw[<-ez];exact hg))
   |up h1 _ h3 h4=>
    rcases aDr M (k+1) X hk h0.1 hX rfl h1.lp (λr hr=>hs r (h3 r hr)) with ⟨Y,hY,hzy⟩|⟨e',_⟩
    .exact b4 Y ((i3 Y).mpr hY) _ _ h1 hzy
    .rw[ez,e']at h4;exact(h4 rfl).elim
end
section
variable{S:List (List Nat)}{rk:List Nat}{c n:Nat}{g:Bool}
noncomputable abbrev sU(S:List (List Nat))(rk:List Nat)(c:Nat)(g:Bool)(l:List Nat)(x3 x4:Option Sl):PSt:=[some (.v (mD S rk c)),some (.v (.bl g)),some (.v (.lst (nats l))),x3,x4]
theorem aGr(M:Mch S rk c):∀(Xs l:List Nat)(x3 x4:Option Sl),(∀X∈Xs,X∈aDw S c)->(l=[]\/∃X∈aDw S c,RowL S c rk g l X)->∃l' y3 y4,forR (tgN 3) jU (nats Xs) (sU S rk c g l x3 x4)=.ok (.nx (sU S rk c g l' y3 y4))/\(l'=[]\/∃X∈aDw S c,RowL S c rk g l' X)/\l.length<=l'.length/\∀X∈Xs,∀Z m,Ch S c rk g Z m->lD Z X->m<=l'.length
 |[],l,x3,x4,_,h=>⟨l,x3,x4,rfl,h,bIn _,λ_ z=>nomatch z⟩
 |X::Xs,l,x3,x4,hXs,h=>by
  have hX:=hXs X bIm;obtain⟨s1,s2,s3⟩:=bDn M hX;obtain⟨r,e,hr⟩:=aMe (g:=g) M 12 X s1 s2 s3;have es:cR 4 (aN lC (aC (aA 0) (aC (aA 3) (aC (aA 1) aR)))) (sU S rk c g l (some (.v (.int X))) x4)=.ok (.nx (sU S rk c g l (some (.v (.int X))) (some (.v (.lst (nats r)))))):=bU (aW rfl e);have ec:e2 dGt (e1 dG (aA 4)) (e1 dG (aA 2)) (sU S rk c g l (some (.v (.int X))) (some (.v (.lst (nats r)))))=.ok (.bl (decide (l.length<r.length))):=aP (aFk (l:=r) rfl) (aFk (l:=l) rfl) (by
   show R.ok (D.bl (decide ((r.length:Int)>(l.length:Int))))=_;congr 2;exact bKm.mpr (by omega))
  have go:∀l1,(bG (cR 4 (aN lC (aC (aA 0) (aC (aA 3) (aC (aA 1) aR))))) (sIf (e2 dGt (e1 dG (aA 4)) (e1 dG (aA 2))) (cR 2 (aA 4)) cZ)) (sU S rk c g l (some (.v (.int X))) x4)=.ok (.nx (sU S rk c g l1 (some (.v (.int X))) (some (.v (.lst (nats r))))))->(l1=[]\/∃X∈aDw S c,RowL S c rk g l1 X)->l.length<=l1.length->r.length<=l1.length->∃l' y3 y4,forR (tgN 3) jU (nats (X::Xs)) (sU S rk c g l x3 x4)=.ok (.nx (sU S rk c g l' y3 y4))/\(l'=[]\/∃X∈aDw S c,RowL S c rk g l' X)/\l.length<=l'.length/\∀X'∈X::Xs,∀Z m,Ch S c rk g Z m->lD Z X'->m<=l'.length:=λl1 hb a1 a2 a3=>by
   obtain⟨l',y3,y4,f,b1,b2,b3⟩:=aGr M Xs l1 (some (.v (.int X))) (some (.v (.lst (nats r)))) (λX hX=>hXs X (bIl _ hX)) a1
   refine⟨l',y3,y4,kW rfl hb f,b1,by omega,λX' hX' Z m hc hs=>?_⟩
   rcases bIq.mp hX' with rfl|hX'
   .exact bJj (hr.2 Z m hc hs) (by omega)
   .exact b3 X' hX' Z m hc hs
  by_cases hlt:l.length<r.length
  .exact go r (aM es (aBd (iV ec (bIr hlt)) (bU rfl))) (.inr ⟨X,hX,hr.1.resolve_left λz=>by rw[z]at hlt;exact absurd hlt (bO8 _)⟩) (by omega) (bIn _)
  .exact go l (aM es (mZ (iV ec (bIs hlt)) rfl)) h (bIn _) (by omega)
def aFa(M:Mch S rk c):∃l y3 y4,forR (tgN 3) jU (nats (aDw S c)) (sU S rk c g [] none none)=.ok (.nx (sU S rk c g l y3 y4))/\(l=[]\/∃X∈aDw S c,RowL S c rk g l X)/\(l.length:Int)=rQ S c rk g:=by
 obtain⟨l,y3,y4,e,h1,_,h2⟩:=aGr (g:=g) M (aDw S c) [] none none (λ_ h=>h) (.inl rfl)
 refine⟨l,y3,y4,e,h1,?_⟩;obtain⟨b0,b1,b2⟩:=aMc (S:=S) (c:=c) (rk:=rk) g;have up:(l.length:Int)<=rQ S c rk g:=by
  rcases h1 with h1|⟨X,hX,h1⟩
  .rw[h1];exact b0
  .exact b1 X (aWb M hX) _ h1.ch
 rcases b2 with b2|⟨Z,hZ,m,hc,e'⟩
 .omega
 .obtain⟨X,hX,hs⟩:=aWc M hZ;have:=h2 X hX Z m hc hs;omega
open Classical in
noncomputable def zJ(S:List (List Nat))(rk:List Nat)(c r x:Nat):List Nat:=if h:∃u,nU [mD S rk c,.int x,.int r]=.ok (.str u)/\Rnd S c x r u then h.choose else []
def aKa(M:Mch S rk c){x:Nat}(hx:x<2^S.length)(hL:LpN S c x)(hr:r∈aL x):nU [mD S rk c,.int x,.int r]=.ok (.str (zJ S rk c r x))/\Rnd S c x r (zJ S rk c r x):=by
 have h:=aOr M hx hL hr;unfold zJ;rw[dif_pos h];exact h.choose_spec
def ix0(d:D)(ds:List D):dIx (.lst (d::ds)) (.int 0)=.ok d:=mF (by
 unfold atI;rw[show ixN (d::ds).length 0=some 0 by unfold ixN;rw[bIv (by decide),bIv (by rw[bJ7];omega)];rfl]
 rfl)
def aOx(M:Mch S rk c){l:List Nat}{X:Nat}(hX:X∈aDw S c)(h:RowL S c rk g l X):∃r w,qO [mD S rk c,.lst (nats l)]=.ok (.tup [.str w,.lst (l.map λx=>D.str (zJ S rk c r x))])/\(∀x∈l,r∈aL x/\x<2^S.length/\LpN S c x)/\mG S 0 w=r/\Ltr c w/\w.length<=8/\r<S.length:=by
 have n1:=M.one;obtain⟨o1,o2,o3⟩:=fJ M aCe hX;have hsub:=h.sub;have xlt:∀x∈l,x<2^S.length:=λx hx=>by
  rw[<-gJ x];exact vV λr hr=>bY o3 ((hsub x hx).2 r hr)
 obtain⟨a0,l',rfl⟩:∃a l',l=a::l':=by
  cases l with
  |nil=>have:=(aEt h.ch).1;exact absurd this (by decide)
  |cons a l'=>exact⟨a,l',rfl⟩
 have ha:=hsub a0 bIm;have firstIn:∀(l:List Nat)(g:Bool),Alt S c rk g l->∀a∈l.head?,∀x∈l,lD a x:=by
  intro l
  induction l with
  |nil=>intro _ _ _ h;cases h
  |cons b l ih=>
   intro g hA a hd x hx;cases hd;rcases bIq.mp hx with rfl|hx
   .exact λ_ z=>z
   .cases l with
    |nil=>cases hx
    |cons d l=>exact λr hr=>ih _ hA.2.2.2 d rfl x hx r (hA.2.2.1 d rfl r hr)
 have hin:∀x∈a0::l',lD a0 x:=firstIn _ g h.alt.1 a0 rfl;obtain⟨acc,e,b⟩:=aOh M;have hacc:=b.len;obtain⟨q,hq⟩:=bN8 _ (zF ha.1.1);have hq0:q∈aL (aDv S c):=o2 q (ha.2 q hq);have hrch:Rch S c (λg=>(iQ (List.range S.length)).testBit g) 0 q:=(lR M (show 0<S.length from n1) q).mp (bB.mp hq0)
 have eal:(λg=>(iQ (List.range S.length)).testBit g)=λg=>decide (g∈List.range S.length):=funext λg=>by rw[iR]
 rw[eal]at hrch;obtain⟨y,hy,hyq⟩:=bJe.mp (b.whole.mpr hrch);have hne:(acc.filter λx=>a0.testBit x.1)≠[]:=λz=>by
  have:=bL7.mp z y hy;rw[hyq]at this;exact this (bB.mp hq)
 obtain⟨x,rest,hf⟩:∃x rest,(acc.filter λx=>a0.testBit x.1)=x::rest:=by
  cases hh:acc.filter λx=>a0.testBit x.1 with
  |nil=>exact(hne hh).elim
  |cons x rest=>exact⟨x,rest,rfl⟩
 have hx:x∈acc/\a0.testBit x.1=true:=bJa.mp (by rw[hf];exact bIm)
 obtain⟨l1,l2,l3⟩:=b.lt x hx.1;have hr:∀z∈a0::l',x.1∈aL z:=λz hz=>hin z hz _ (bB.mpr hx.2)
 refine⟨x.1,x.2,?_,λz hz=>⟨hr z hz,xlt z hz,(hsub z hz).1⟩,l2,l3,b.wl M hx.1,l1⟩
 let st0:PSt:=[some (.v (mD S rk c)),some (.v (.lst (nats (a0::l')))),none,none,none,none,none]
 have e1:cC [5] (tgN 5) (itE (aN iJ (aC (aA 0) aR))) aEp aEo st0=.ok (.lst (prD (x::rest))):=by
  rw[<-hf];refine jV (uR (aW rfl e)) (by rw[aZj];have:=M.most;omega) (uZ (F:=λx=>D.tup [.int (x.1:Nat),.str x.2]) (G:=λx=>D.tup [.int (x.1:Nat),.str x.2]) (q:=λx=>a0.testBit x.1) acc λz _=>⟨_,rfl,?_,λ_=>rfl⟩)
  exact aW (bV (aP (x:=.lst (nats (a0::l'))) rfl rfl (ix0 _ _)) (bV (aP (x:=.tup [.int (z.1:Nat),.str z.2]) rfl rfl rfl) rfl)) (aBg a0 z.1)
 have e2:cC [6] (tgN 6) (itE (aA 1)) dM sI [some (.v (mD S rk c)),some (.v (.lst (nats (a0::l')))),some (.v (.lst (prD (x::rest)))),some (.v (.int (x.1:Nat))),some (.v (.str x.2)),none,none]=.ok (.lst ((a0::l').map λz=>D.str (zJ S rk c x.1 z))):=by
  have ce:iI (tgN 6) dM sI [some (.v (mD S rk c)),some (.v (.lst (nats (a0::l')))),some (.v (.lst (prD (x::rest)))),some (.v (.int (x.1:Nat))),some (.v (.str x.2)),none,none] (nats (a0::l'))=.ok (((a0::l').filter λ_=>true).map λz=>D.str (zJ S rk c x.1 z)):=gK (a0::l') λz hz=>⟨_,rfl,rfl,aW rfl (aKa M (xlt z hz) (hsub z hz).1 (hr z hz)).1⟩
  rw[bLp.mpr (λ_ _=>rfl)]at ce
  have hl:=(aEt h.ch).2;have:=aT0 M o3;unfold szN at hl;exact jV rfl (by rw[bF];omega) ce
 refine cB rfl (aM (bU e1) (aM (bU (aP (aP (x:=.lst (prD (x::rest))) rfl rfl (ix0 _ _)) rfl rfl)) (aM (bU (aP (x:=.tup [.int (x.1:Nat),.str x.2]) (aP (x:=.lst (prD (x::rest))) rfl rfl (ix0 _ _)) rfl rfl)) (dR ?_))));show R.bind (aC (aA 4) (aC (cC [6] (tgN 6) (itE (aA 1)) dM sI) aR) [some (.v (mD S rk c)),some (.v (.lst (nats (a0::l')))),some (.v (.lst (prD (x::rest)))),some (.v (.int (x.1:Nat))),some (.v (.str x.2)),none,none]) _=_;rw[bV rfl (bV e2 rfl),aH];exact aF (dN (bJi rfl))
structure Nst(S:List (List Nat))(rk:List Nat)(c:Nat)(g:Bool)(l:List Nat)(r:Nat)(w:List Nat):Prop where
 alt:Alt S c rk g l
 ne:l≠[]
 len:(l.length:Int)=rQ S c rk g
 in_:∀x∈l,r∈aL x/\x<2^S.length/\LpN S c x
 last:mG S 0 w=r
 ltr:Ltr c w
 wl:w.length<=8
 lt:r<S.length
noncomputable abbrev aWe(S:List (List Nat))(rk:List Nat)(c:Nat)(l:List Nat)(r:Nat)(w:List Nat):D:=.tup [.str w,.lst (l.map λx=>D.str (zJ S rk c r x))]
def aWf(M:Mch S rk c)(g:Bool):(rQ S c rk g=0/\dZ [mD S rk c,.bl g]=.ok .non)\/∃l r w,Nst S rk c g l r w/\dZ [mD S rk c,.bl g]=.ok (aWe S rk c l r w):=by
 obtain⟨l,y3,y4,e,h1,h2⟩:=aFa (g:=g) M;have ec:e2 dNe (aA 2) (fQ aR) (sU S rk c g l y3 y4)=.ok (.bl (!decide (l=[]))):=aP (x:=.lst (nats l)) rfl (eQ rfl) (aDu l);have run:∀{d},eIf (e2 dNe (aA 2) (fQ aR)) (aN qO (aC (aA 0) (aC (aA 2) aR))) (eC .non) (sU S rk c g l y3 y4)=.ok d->dZ [mD S rk c,.bl g]=.ok d:=λh=>cB rfl (aM (bU (eQ rfl)) (aM (jG (uR (aW rfl (aW3 M))) e) (dR h)))
 rcases h1 with rfl|⟨X,hX,hr⟩
 .refine .inl ⟨by rw[<-h2];rfl,run ?_⟩
  show (e2 dNe _ _ _).bind _=_;rw[ec,aH];rfl
 .have hne:l≠[]:=λz=>by
   have:=(aEt hr.ch).1;rw[z]at this;exact absurd this (by decide)
  obtain⟨r,w,e1,a1,a2,a3,a4,a5⟩:=aOx M hX hr;refine .inr ⟨l,r,w,⟨hr.alt.1,hne,h2,a1,a2,a3,a4,a5⟩,run ?_⟩;show (e2 dNe _ _ _).bind _=_;rw[ec,aH,bIs hne];exact aW (p:=qO) (r:=aC (aA 0) (aC (aA 2) aR)) (st:=sU S rk c g l y3 y4) rfl e1
end
section
variable {k:Nat}
theorem aMf(M:Mch S rk c)(t:Option Sl):∀(x:List Nat)(q:Nat)(acc:List Nat)(l:Option Sl),q<S.length->Ltr c x->acc.length+x.length<=1000->∃l',forR (tgN 4) aC9 (x.map λch=>D.str [ch]) [some (.v (.lst (stD S))),some (.v (.int q)),t,some (.o .l (nats acc)),l]=.ok (.nx [some (.v (.lst (stD S))),some (.v (.int (mG S q x))),t,some (.o .l (nats (acc++runs S q x))),l'])
 |[],q,acc,l,_,_,_=>⟨l,by rw[show runs S q []=[] from rfl,bKi];rfl⟩
 |ch::x,q,acc,l,hq,hx,hl=>by
  rw[bJ7]at hl;obtain⟨h1,h2⟩:=hx ch (.head _);obtain⟨row,f1,f2,f3⟩:=aQn M hq h1 h2;obtain⟨l',e⟩:=aMf M t x (stp S q (ch-97)) (acc++[stp S q (ch-97)]) (some (.v (.str [ch]))) f3 (λy hy=>hx y (.tail _ hy)) (by rw[bJ8,bJx];omega)
  have mt:eMt aFy (eC (.str [97,98,99])) (aC (aA 4) aR) [some (.v (.lst (stD S))),some (.v (.int q)),t,some (.o .l (nats acc)),some (.v (.str [ch]))]=.ok (.int ((ch-97:Nat):Int)):=by
   show (ofO (iZ [97,98,99] [ch] 0)).bind _=_;rw[aLs M.c3 h1 h2];rfl
  rw[bKa]at e;refine⟨l',kW rfl (aM (st':=[some (.v (.lst (stD S))),some (.v (.int (stp S q (ch-97)))),t,some (.o .l (nats acc)),some (.v (.str [ch]))]) (bU (aP (aP rfl rfl (mF f1)) mt (mF f2))) ((yZ (xs:=nats acc) rfl rfl (by rw[bF];omega)).trans ?_)) e⟩
  rw[<-uU];rfl
def aWg(M:Mch S rk c)(hr:r<S.length) (hu:Ltr c u) (hl:u.length<=500):nY [.lst (stD S),.int r,.str u]=.ok (.lst (nats (runs S r u))):=by
 obtain⟨l',e⟩:=aMf M (some (.v (.str u))) u r [] none hr hu (by rw[bMo];omega)
 refine cB rfl (aM (sS (eQ rfl)) (aM (jG ?_ e) rfl));show aV (u.length<=big) _=_;exact aF (dN (by omega))
def aR6(M:Mch S rk c)(hn:n<2^S.length) (Q:Rnd S c n r u):u.length<=64:=by
 have n8:=M.most;have hk:=aT0 M hn;have:=Q.len;have h1:(aL n).length*(aL n).length<=8*8:=bOj (by omega) (by omega)
 omega
end
section
variable{S:List (List Nat)}{rk:List Nat}{c n r:Nat}
theorem aGs:∀(x:List Nat)(q:Nat),(q::runs S q x).getLast?=some (mG S q x)
 |[],_=>rfl
 |ch::x,q=>by
  have:=aGs x (stp S q (ch-97));rw[show runs S q (ch::x)=stp S q (ch-97)::runs S (stp S q (ch-97)) x from rfl,bLw,this]
  rfl
def aWh{x:Nat}(h:l.getLast?=some x):dIx (.lst (nats l)) (.int (-1))=.ok (.int x):=mF (by
 have h0:l≠[]:=λz=>by rw[z]at h;cases h
 have hp:0<l.length:=bL0.mpr h0;rw[bN9]at h;unfold atI ixN;rw[bIt (by decide),bF,bIv (by omega)]
 show (nats l)[((-1:Int)+(l.length:Int)).toNat]?=some _;rw[show ((-1:Int)+(l.length:Int)).toNat=l.length-1 by omega]
 unfold nats;rw[bK3,h];rfl)
theorem aOy:∀us:List (List Nat),iH (us.map D.str)=0/\cQ (us.map D.str)=true/\gC (us.map D.str) (us.map D.str)=true
 |[]=>⟨by unfold iH;rfl,by unfold cQ;rfl,by unfold gC;rfl⟩
 |u::us=>by
  obtain⟨h1,h2,h3⟩:=aOy us;refine⟨?_,?_,?_⟩
  .rw[bJ5];unfold iH;rw[h1,aZb];rfl
  .rw[bJ5];unfold cQ;rw[h2,aSn];rfl
  .rw[bJ5];unfold gC eqD;rw[h3,beq_self_eq_true];rfl
theorem aWi:∀xss:List (List (List Nat)),iH (xss.map λus=>D.lst (us.map D.str))<=1/\cQ (xss.map λus=>D.lst (us.map D.str))=true/\gC (xss.map λus=>D.lst (us.map D.str)) (xss.map λus=>D.lst (us.map D.str))=true
 |[]=>⟨by unfold iH;exact bK6 _,by unfold cQ;rfl,by unfold gC;rfl⟩
 |us::xss=>by
  obtain⟨h1,h2,h3⟩:=aWi xss;obtain⟨t1,t2,t3⟩:=aOy us;refine⟨?_,?_,?_⟩
  .rw[bJ5];unfold iH;rw[aJz,t1];omega
  .rw[bJ5];unfold cQ;rw[h2,uJ,t2];rfl
  .rw[bJ5];unfold gC eqD;rw[h3,t3];rfl
def bDo(xss:List (List (List Nat))):dEq (.lst (xss.map λus=>D.lst (us.map D.str))) (.lst (xss.map λus=>D.lst (us.map D.str)))=.ok (.bl true):=by
 obtain⟨h1,h2,h3⟩:=aWi xss;refine(aF ⟨by rw[aJz];omega,by rw[uJ];exact h2,by rw[uJ];exact h2⟩).trans ?_
 rw[show eqD (.lst (xss.map λus=>D.lst (us.map D.str))) (.lst (xss.map λus=>D.lst (us.map D.str)))=true by unfold eqD;exact h3]
abbrev aOz(c:Nat):List Nat:=cut [97,98,99] none (some (c:Int))
def aT7(M:Mch S rk c){ch:Nat}(h:97<=ch/\(ch:Int)<97+(c:Int)):jA (.str [ch]) (.str (aOz c))=.ok (.bl false):=by
 have c1:=M.c1;have c3:=M.c3;show R.ok (D.bl (!(iZ (cut [97,98,99] none (some (c:Int))) [ch] 0).isSome))=_;rw[bDj (by omega) (by omega) h.1 (by omega)]
 rfl
def aJ4(M:Mch S rk c){u:List Nat}(hu:Ltr c u)(hl:u.length<=500){C E:Ex} {st:PSt} (hf:f st=.ok (.str u)) (hC:∀ch∈u,∃s1,tgN j (.str [ch]) (clr [j] st)=.ok s1/\C s1=jA (.str [ch]) (.str (aOz c))):e2 dNe (cC [j] (tgN j) (itE f) C E) (fQ aR) st=.ok (.bl false):=by
 have it:itE f st=.ok (u.map λch=>D.str [ch]):=by
  rw[aO8,hf,aH];exact aF (dN (by omega))
 have ce:iI (tgN j) C E (clr [j] st) (u.map λch=>D.str [ch])=.ok ((u.filter λ_=>false).map λch=>D.str [ch]):=uZ u λch hch=>by
  obtain⟨s1,a,b⟩:=hC ch hch;exact⟨s1,a,b.trans (aT7 M (hu ch hch)),λz=>nomatch z⟩
 rw[bL7.mpr (λ_ _=>by decide)]at ce
 exact aP (jV it (by rw[bJ9];omega) ce) (eQ rfl) ((aDu []).trans rfl)
theorem aGt(M:Mch S rk c){x0:Option Sl}:∀(us:List (List Nat)) (x2:Option Sl),(∀u∈us,u≠[]/\Ltr c u/\u.length<=500)->∃y2,forR (tgN 2) yR (us.map D.str) [x0,some (.v (.str (aOz c))),x2,none]=.ok (.nx [x0,some (.v (.str (aOz c))),y2,none])
 |[],x2,_=>⟨x2,rfl⟩
 |u::us,x2,h=>by
  obtain⟨h1,h2,h3⟩:=h u bIm;obtain⟨y2,e⟩:=aGt M (x0:=x0) us (some (.v (.str u))) λu hu=>h u (bIl _ hu)
  refine⟨y2,kW rfl (mZ (yW (p:=false) (q:=false) (rB (p:=true) (aF rfl)) λ_=>yW (p:=false) (q:=false) (aP (x:=.str u) rfl rfl ?_) λ_=>aJ4 M h2 h3 rfl λch _=>⟨_,rfl,rfl⟩) rfl) e⟩
  cases u with
  |nil=>exact(h1 rfl).elim
  |cons a u=>exact aF ⟨bK6 64,rfl,rfl⟩
def aWj(M:Mch S rk c){us:List (List Nat)}(hne:us≠[])(h:∀u∈us,u≠[]/\Ltr c u/\u.length<=500):mC [.lst (us.map D.str),.str (aOz c)]=.ok (.bl true):=by
 obtain⟨y2,e⟩:=aGt M (x0:=some (.v (.lst (us.map D.str)))) us none h;refine cB rfl (aM (mZ (yW (p:=false) (q:=false) (rB (p:=true) (aF rfl)) λ_=>aP (x:=.lst (us.map D.str)) rfl (eQ rfl) ?_) rfl) (aM (jG rfl e) (dR rfl)))
 cases us with
 |nil=>exact(hne rfl).elim
 |cons u us=>
  obtain⟨t1,t2,_⟩:=aOy (u::us);exact(aF ⟨by rw[aJz,t1];decide,by rw[uJ];exact t2,by rw[uJ];unfold cQ;rfl⟩).trans (by rw[bJ5];unfold eqD gC;rfl)
def xT(g:Bool):Nat:=if g=true then 0 else 1
def bDp{n:Nat}{g:Bool}(h:evN rk n=g):fH rk n%2=(xT g:Int):=by
 unfold evN at h;unfold xT;cases g with
 |true=>rw[bIv rfl];exact bJi h
 |false=>
  rw[bIt bJn];have:=of_decide_eq_false h;omega
def bA5(M:Mch S rk c){r:Nat}(hr:r<S.length):dIx (.lst (nats rk)) (.int r)=.ok (.int (rk.getD r 0:Nat)):=mF (by
 have hr':r<rk.length:=by rw[M.rks];exact hr
 rw[atI_nat (by rw[bF];exact hr')]
 simp[nats,getD_eq_getElem?_getD,List.getElem?_eq_getElem hr'])
def aWk(h0:n≠0){l:List Nat}(h1:∀y∈l,y∈aL n)(h2:∀y∈aL n,y∈l):yG (l.map λy=>((rk.getD y 0:Nat):Int))=fH rk n:=by
 obtain⟨⟨r,hr,e⟩,hm⟩:=uW (rk:=rk) h0;refine aK0 ?_ λx hx=>?_
 .rw[<-e];exact bJe.mpr ⟨r,h2 r hr,rfl⟩
 .obtain⟨y,hy,rfl⟩:=bJe.mp hx;exact hm y (h1 y hy)
noncomputable abbrev aWl(S:List (List Nat))(rk:List Nat)(c:Nat)(d:D)(r o:Nat)(inn:List Nat)(x7 x8:Option Sl):PSt:=[some (.v (.lst (stD S))),some (.v (.lst (nats rk))),some (.v d),some (.v (.int o)),some (.v (.str (aOz c))),some (.v (.int r)),some (.v (.lst (nats inn))),x7,x8,none,none]
theorem aGu(M:Mch S rk c){d:D}{r:Nat}(hr:r<S.length):∀(l inn:List Nat)(g:Bool)(x7 x8:Option Sl),Alt S c rk g l->(∀x∈l,r∈aL x/\x<2^S.length/\LpN S c x)->(∀y∈l.head?,∀z∈inn,z∈aL y)->inn.length<=64->∃o' inn' y7 y8,forR (tgN 7) qZ (l.map λx=>D.str (zJ S rk c r x)) (aWl S rk c d r (xT g) inn x7 x8)=.ok (.nx (aWl S rk c d r o' inn' y7 y8))
 |[],inn,g,x7,x8,_,_,_,_=>⟨xT g,inn,x7,x8,rfl⟩
 |x::l,inn,g,x7,x8,hA,hx,hi,hl=>by
  obtain⟨a1,a2,a3,a4⟩:=hA;obtain⟨b1,b2,b3⟩:=hx x bIm;obtain⟨_,Q⟩:=aKa M b2 b3 b1;generalize hu:zJ S rk c r x=u at Q;have ul:=aR6 M b2 Q;have uL:Ltr c u:=aFj Q.pat;have inR:∀y∈runs S r u,y∈aL x:=λy hy=>bB.mpr (aM7 Q.pat y hy)
  have rl:(runs S r u).length=u.length:=aGo u r;have rne:runs S r u≠[]:=λz=>by
   rw[z]at rl;exact Q.ne (bJw.mp rl.symm)
  have lst:(runs S r u).getLast?=some r:=by
   have:=aGs (S:=S) u r;rw[aCd Q.pat]at this;cases hh:runs S r u with
   |nil=>exact(rne hh).elim
   |cons a b=>rw[hh,bLw]at this;exact this
  obtain⟨o',inn',y7,y8,e⟩:=aGu M (d:=d) hr l (runs S r u) (!g) (some (.v (.str u))) (some (.v (.lst (nats (runs S r u))))) a4 (λz hz=>hx z (bIl _ hz)) (λy hy z hz=>a3 y hy z (inR z hz)) (by rw[rl];exact ul)
  let st1:=aWl S rk c d r (xT g) inn (some (.v (.str u))) (some (.v (.lst (nats (runs S r u)))))
  have c1:e2 dNe (e2 dIx (aA 8) (e1 aUr (eC (.int 1)))) (aA 5) st1=.ok (.bl false):=aP (x:=.int r) (aP (y:=.int (-1)) rfl rfl (aWh lst)) rfl ((yX _ _).trans (by rw[bIr rfl];rfl))
  have c2:e2 dNe (cC [10] (tgN 10) (itE (aA 6)) lJ lH) (fQ aR) st1=.ok (.bl false):=by
   have ce:iI (tgN 10) lJ lH (clr [10] st1) (nats inn)=.ok ((inn.filter λ_=>false).map λy=>D.int (y:Nat)):=uZ inn λy hy=>⟨_,rfl,aP (x:=.int (y:Nat)) (y:=.lst (nats (runs S r u))) rfl rfl ((aWd y _).trans (by rw[bIr (Q.all y (hi x rfl y hy))];rfl)),λz=>nomatch z⟩
   rw[bL7.mpr (λ_ _=>by decide)]at ce
   exact aP (jV rfl (by rw[bF];omega) ce) (eQ rfl) ((aDu []).trans rfl)
  have c3:e2 dNe (e2 qF (e1 aEh (cC [10] (tgN 10) (itE (aA 8)) dM gZ)) (eC (.int 2))) (aA 3) st1=.ok (.bl false):=by
   have ce:iI (tgN 10) dM gZ (clr [10] st1) (nats (runs S r u))=.ok (((runs S r u).filter λ_=>true).map λy=>D.int (rk.getD y 0:Nat)):=gK (runs S r u) λy hy=>⟨_,rfl,rfl,aP (x:=.lst (nats rk)) (y:=.int (y:Nat)) rfl rfl (bA5 M (bY b2 (inR y hy)))⟩
   rw[bLp.mpr (λ_ _=>rfl)]at ce
   have em:e1 aEh (cC [10] (tgN 10) (itE (aA 8)) dM gZ) st1=.ok (.int (fH rk x)):=aOv (jV (uR (xs:=nats (runs S r u)) rfl) (by rw[bF,rl];omega) ce) (by
    show (rW _).bind _=_;rw[show ((runs S r u).map λy=>D.int (rk.getD y 0:Nat))=((runs S r u).map λy=>((rk.getD y 0:Nat):Int)).map D.int by rw[bK1];rfl,nR,aH,aF (by rw[bJ9];exact bL0.mpr rne),aWk b3.1 inR Q.all])
   exact aP (aP em rfl (aBe (by decide))) rfl ((yX _ _).trans (by rw[bDp a2,bIr rfl];rfl))
  refine⟨o',inn',y7,y8,?_⟩;rw[bJ5,hu];refine kW rfl (aM (st':=st1) (bU (aW rfl (aWg M hr uL (by omega)))) (aM (mZ (yW (p:=false) (q:=false) c1 λ_=>c2) rfl) (aM (mZ c3 rfl) (aM (bU rfl) (bU (aP rfl rfl rfl)))))) ?_
  refine Eq.trans ?_ e;have ho:(1:Int)-(xT g:Int)=(xT (!g):Nat):=by cases g<;>rfl
  rw[ho];rfl
end
section
variable{S:List (List Nat)}{rk:List Nat}{c n r:Nat}{g:Bool}
def aKb(M:Mch S rk c){w:List Nat}(N:Nst S rk c g l r w):gH [.lst (stD S),.lst (nats rk),aWe S rk c l r w,.int (xT g)]=.ok (.bl true):=by
 have n1:=M.one;have c3:=M.c3;have hw:=N.wl
 let d:=aWe S rk c l r w
 let us:=l.map λx=>zJ S rk c r x
 have eus:(l.map λx=>D.str (zJ S rk c r x))=us.map D.str:=by rw[bK1];rfl
 have hus:∀u∈us,u≠[]/\Ltr c u/\u.length<=500:=λu hu=>by
  obtain⟨x,hx,rfl⟩:=bJe.mp hu;obtain⟨b1,b2,b3⟩:=N.in_ x hx;obtain⟨_,Q⟩:=aKa M b2 b3 b1;exact⟨Q.ne,aFj Q.pat,by have:=aR6 M b2 Q;omega⟩
 obtain⟨o',inn',y7,y8,e⟩:=aGu M (d:=d) N.lt l [] g none none N.alt N.in_ (λ_ _ _ h=>nomatch h) (bK6 _)
 let st0:PSt:=[some (.v (.lst (stD S))),some (.v (.lst (nats rk))),some (.v d),some (.v (.int (xT g))),none,none,none,none,none,none,none]
 let st1:PSt:=[some (.v (.lst (stD S))),some (.v (.lst (nats rk))),some (.v d),some (.v (.int (xT g))),some (.v (.str (aOz c))),none,none,none,none,none,none]
 have k1:cR 4 (eSl (eC (.str [97,98,99])) aQ5 (aQ6 (e1 dG (e2 dIx (aA 0) (eC (.int 0)))))) st0=.ok (.nx st1):=by
  have hlen:e1 dG (e2 dIx (aA 0) (eC (.int 0))) st0=.ok (.int (c:Nat)):=aOv (x:=.lst (nats S[0])) (aP (x:=.lst (stD S)) (y:=.int 0) rfl rfl (mF (aBf (q:=0) n1))) (by
   show R.ok (D.int ((nats S[0]).length:Nat))=_;rw[bF,(M.row S[0] (bJr n1)).1])
  refine bU ?_
  rw[bD3,aQ9,aH];simp only[aUw,aUx,aH];rw[hlen];exact aF (dN (by show 3<=_;omega))
 have i0:e2 dIx (aA 2) (eC (.int 0)) st1=.ok (.str w):=aP (x:=d) rfl rfl rfl;have i1:e2 dIx (aA 2) (eC (.int 1)) st1=.ok (.lst (us.map D.str)):=aP (x:=d) rfl rfl (by rw[<-eus];rfl)
 have c0:eOr (pI (eB aZ3 (aA 2))) (eOr (e2 dNe (e1 dG (aA 2)) (eC (.int 2))) (pI (eB aZ2 (e2 dIx (aA 2) (eC (.int 0)))))) st0=.ok (.bl false):=yW (p:=false) (q:=false) (rB (p:=true) (aF rfl)) λ_=>yW (p:=false) (q:=false) (aP (x:=.int 2) (aOv (x:=d) rfl rfl) rfl ((yX _ _).trans rfl)) λ_=>rB (p:=true) (aF rfl)
 have c1:eOr (e2 dNe (cC [9] (tgN 9) (itE (e2 dIx (aA 2) (eC (.int 0)))) qY qX) (fQ aR)) (pI (aN mC (aC (e2 dIx (aA 2) (eC (.int 1))) (aC (aA 4) aR)))) st1=.ok (.bl false):=yW (p:=false) (q:=false) (aJ4 M N.ltr (by omega) i0 λch _=>⟨_,rfl,rfl⟩) λ_=>rB (p:=true) (aW (bV i1 rfl) (aWj M (λz=>N.ne (List.map_eq_nil_iff.mp z)) hus))
 have e5:cR 5 (e2 dIx (e2 nJ (fQ (aC (eC (.int 0)) aR)) (aN nY (aC (aA 0) (aC (eC (.int 0)) (aC (e2 dIx (aA 2) (eC (.int 0))) aR))))) (e1 aUr (eC (.int 1)))) st1=.ok (.nx (st1.set 5 (some (.v (.int r))))):=by
  refine bU (aP (x:=.lst (nats (0::runs S 0 w))) (y:=.int (-1)) (aP (eQ rfl) (aW (bV rfl (bV rfl (bV i0 rfl))) (aWg M n1 N.ltr (by omega))) (aR5 (by rw[bF,aGo];show 1+_<=_;omega))) rfl (aWh ?_))
  have:=aGs (S:=S) w 0;rw[N.last]at this;exact this
 refine cB rfl (aM (mZ c0 rfl) (aM k1 (aM (mZ c1 rfl) (aM e5 (aM (bU (eQ rfl)) (aM (jG (uR (aP (x:=d) rfl rfl rfl)) e) (dR rfl)))))))
def NV(S:List (List Nat))(rk:List Nat)(c:Nat)(g:Bool)(d:D):Prop:=(rQ S c rk g=0/\d=.non)\/∃l r w,Nst S rk c g l r w/\d=aWe S rk c l r w
def aWm(M:Mch S rk c):∃d0 d1,vP [mD S rk c]=.ok (.tup [d0,d1])/\NV S rk c true d0/\NV S rk c false d1:=by
 have one:∀g,∃d,dZ [mD S rk c,.bl g]=.ok d/\NV S rk c g d:=λg=>by
  rcases aWf M g with ⟨h,e⟩|⟨l,r,w,h,e⟩
  .exact⟨_,e,.inl ⟨h,rfl⟩⟩
  .exact⟨_,e,.inr ⟨l,r,w,h,rfl⟩⟩
 obtain⟨d0,e0,h0⟩:=one true;obtain⟨d1,e1',h1⟩:=one false;refine⟨d0,d1,cB rfl (dR ?_),h0,h1⟩;show R.bind (aC _ _ _) _=_;rw[bV (aW rfl e0) (bV (aW rfl e1') rfl),aH];exact aF (dN (bJi rfl))
def aR7:D->Bool
 |.non=>false
 |_=>true
def bDq:D->D
 |.tup [_,y]=>y
 |_=>.non
def aR8(h:NV S rk c g d):∃xs:List (List (List Nat)),kx1 d=xs.map (λus=>us.map D.str)/\(([d].filter aR7).map bDq)=xs.map (λus=>D.lst (us.map D.str))/\aDh d=true/\aFz d .non=.ok (.bl (aR7 d))/\(aR7 d=true->dIx d (.int 1)=.ok (bDq d)):=by
 rcases h with ⟨_,rfl⟩|⟨l,r,w,N,rfl⟩
 .exact⟨[],rfl,rfl,rfl,rfl,λz=>nomatch z⟩
 .have eus:(l.map λx=>D.str (zJ S rk c r x))=(l.map λx=>zJ S rk c r x).map D.str:=by rw[bK1];rfl
  have hn:=N.ne;refine⟨[l.map λx=>zJ S rk c r x],?_,?_,?_,rfl,λ_=>rfl⟩
  .show [_]=[_];rw[eus]
  .show [D.lst (l.map λx=>D.str (zJ S rk c r x))]=[_];rw[eus]
  .show (tx1 _&&List.all _ _)=true;cases l with
   |nil=>exact(hn rfl).elim
   |cons x l=>
    rw[bLb];refine⟨rfl,bLk.mpr λy hy=>?_⟩
    obtain⟨_,_,rfl⟩:=bJe.mp hy;rfl
noncomputable abbrev aR9(ns:List Int)(S:List (List Nat))(rk:List Nat)(c:Nat)(d0 d1:D)(x4 x6 x9:Option Sl):PSt:=[some (.v (.lst (ns.map D.int))),some (.v (mD S rk c)),some (.v (.lst (nats (nC S c)))),some (.v (.tup [d0,d1])),x4,none,x6,some (.v (.lst (stD S))),some (.v (.lst (nats rk))),x9,none]
def bDr(M:Mch S rk c)(g:Bool):jE [.lst (nats (nC S c)),.lst (nats rk),.int (xT g)]=.ok (.int (rQ S c rk g)):=by
 have hl:=aW9 M;have hv:∀Y∈nC S c,Y<2^S.length/\LpN S c Y:=λY hY=>⟨(uY.mp hY).1,(uY.mp hY).2.1⟩
 refine bA2 M (o:=xT g) (g:=g) (λn=>?_) aOw (by omega) hv λZ hZ Y h1 h2=>aT5 hZ h1 h2
 unfold evN xT;cases g with
 |true=>rw[bIv rfl,bJf];rfl
 |false=>rw[bIt bJn,bLx];omega
def aWn(ns:List Int)(M:Mch S rk c){d0 d1:D}(h:NV S rk c g d)(hd:dIx (.tup [d0,d1]) (.int (xT g))=.ok d)(x6 x9:Option Sl):aQk (aR9 ns S rk c d0 d1 (some (.v (.int (xT g)))) x6 x9)=.ok (.nx (aR9 ns S rk c d0 d1 (some (.v (.int (xT g)))) (some (.v d)) (some (.v (.int (rQ S c rk g)))))):=by
 let st1:=aR9 ns S rk c d0 d1 (some (.v (.int (xT g)))) (some (.v d)) (some (.v (.int (rQ S c rk g))))
 obtain⟨b0,_⟩:=aMc (S:=S) (c:=c) (rk:=rk) g;have gt:e2 dGt (aA 9) (eC (.int 0)) st1=.ok (.bl (decide (rQ S c rk g>0))):=aP (x:=.int (rQ S c rk g)) rfl rfl rfl;have eq:e2 dEq (aA 9) (eC (.int 0)) st1=.ok (.bl (decide (rQ S c rk g=0))):=aP (x:=.int (rQ S c rk g)) rfl rfl (aDl _ _);have fin:(qG (e2 dEq (aA 9) (eC (.int 0))) (e2 aFz (aA 6) (eC .non)) st1=.ok (.bl false))/\(qG (e2 dGt (aA 9) (eC (.int 0))) (pI (aN gH (aC (aA 7) (aC (aA 8) (aC (aA 6) (aC (aA 4) aR)))))) st1=.ok (.bl false))/\(qG (e2 dGt (aA 9) (eC (.int 0))) (e2 dNe (e1 dG (e2 dIx (aA 6) (eC (.int 1)))) (aA 9)) st1=.ok (.bl false)):=by
  rcases h with ⟨hz,rfl⟩|⟨l,r,w,N,rfl⟩
  .have g0:decide (rQ S c rk g>0)=false:=bIs (by omega)
   rw[g0]at gt;exact⟨iV (pU (q:=false) eq λ_=>aP (x:=.non) rfl rfl rfl) (by simp),iV (pU (q:=false) gt λz=>nomatch z) rfl,iV (pU (q:=false) gt λz=>nomatch z) rfl⟩
  .have hp:0<rQ S c rk g:=by
    rw[<-N.len];have:=bL0.mpr N.ne;omega
   have e0:decide (rQ S c rk g=0)=false:=bIs (by omega)
   rw[e0]at eq;refine⟨iV (pU (q:=false) eq λz=>nomatch z) rfl,iV (pU (q:=false) gt λ_=>rB (p:=true) (aW rfl (aKb M N))) (by simp),iV (pU (q:=false) gt λ_=>aP (x:=.int (l.length:Nat)) (aOv (x:=.lst (l.map λx=>D.str (zJ S rk c r x))) (aP (x:=aWe S rk c l r w) rfl rfl rfl) (by show R.ok (D.int ((l.map λx=>D.str (zJ S rk c r x)).length:Nat))=_;rw[bJ9])) rfl ((yX _ _).trans (by rw[N.len,bIr rfl];rfl))) (by simp)⟩
 exact aM (bU (aW rfl (bDr M g))) (aM (bU (aP (x:=.tup [d0,d1]) rfl rfl hd)) (aM (mZ fin.1 rfl) (aM (mZ fin.2.1 rfl) (mZ fin.2.2 rfl))))
def aMg(l:List Nat):ntx (.lst (nats l))=true:=by
 have h:∀l:List Nat,rP (nats l)=true:=λl=>by
  induction l with
  |nil=>unfold nats rP;rfl
  |cons a l ih=>show rP (.int a::nats l)=true;unfold rP;rw[ih];unfold ntx;rfl
 unfold ntx;rw[h l];cases l<;>rfl
def bA6(S:List (List Nat)):ntx (.lst (stD S))=true:=by
 have h:∀S:List (List Nat),rP (stD S)=true:=λS=>by
  induction S with
  |nil=>unfold stD rP;rfl
  |cons a l ih=>show rP (.lst (nats a)::stD l)=true;unfold rP;rw[ih,aMg];rfl
 unfold ntx;rw[h S];cases S<;>rfl
def aA8(d:D)(ds:List D):rP (d::ds)=(ntx d&&rP ds):=by conv=>lhs;unfold rP
def aRa(i:Int):ntx (.int i)=true:=by unfold ntx;rfl
def bGh:cl1 (some (.v (mD S rk c)))=some (.v (mD S rk c)):=by
 have h:ntx (mD S rk c)=true:=by
  show ntx (.ins _ _ [.lst (stD S),.lst (nats rk),.int _,.int _])=true;unfold ntx;rw[aA8,bA6,aA8,aMg,aA8,aRa,aA8,aRa];unfold rP;rfl
 show (if ntx (mD S rk c)=true then _ else _)=_
 rw[bIv h]
def law_true(ns:List Int)(hn:ns.length<=63):aIp [.lst (ns.map D.int)]=.ok (.bl true):=by
 obtain⟨S,rk,c,em,M⟩:=aVs ns (mo:=8) (by decide) (by decide)
 have n8:=M.most;have cp:=aIr (E:=aQj) (st:=[some (.v (.lst (ns.map D.int))),none,none,none,none,none,none,some (.v (.lst (stD S))),some (.v (.lst (nats rk))),none,none]) (j:=10) (v:=7) (xs:=stD S) rfl (by rw[iW];omega) (λd hd=>by
  obtain⟨r,hr,rfl⟩:=aFg hd;rfl)
 obtain⟨d0,d1,en,h0,h1⟩:=aWm M;have t0:=aWn ns M (d0:=d0) (d1:=d1) h0 rfl none none;have t1:=aWn ns M (d0:=d0) (d1:=d1) h1 rfl (some (.v d0)) (some (.v (.int (rQ S c rk true))));obtain⟨xs,a1,a2,a3,a4,a5⟩:=aR8 h0;obtain⟨ys,b1,b2,b3,b4,b5⟩:=aR8 h1;have ek:(kx [d0,d1]).map D.lst=(xs++ys).map λus=>D.lst (us.map D.str):=by
  show ((kx1 d0++(kx1 d1++[])):List (List D)).map D.lst=_;rw[a1,b1,bKi,bJs,bJs,bK1,bK1];rfl
 let st1:=aR9 ns S rk c d0 d1 (some (.v (.int (xT false)))) (some (.v d1)) (some (.v (.int (rQ S c rk false))))
 let st2:PSt:=((st1.map cl1).set 6 none).set 5 (some (.v (.lst ((xs++ys).map λus=>D.lst (us.map D.str)))))
 have es:aK1 3 6 5 st1=.ok (.nx st2):=by
  show aV _ (R.ok (Fl.nx (((st1.map cl1).set 6 none).set 5 (some (.v (.lst ((kx [d0,d1]).map D.lst)))))))=_;rw[ek];exact aF ⟨dN (by show 2<=_;decide),by rw[bOm,bOm,a3,b3];rfl⟩
 have v1:aA 1 st2=.ok (mD S rk c):=by
  unfold aA;rw[show st2[1]?=some (cl1 (some (.v (mD S rk c)))) from rfl,bGh]
 have ce:iI (tgN 6) aFf aFe (clr [6] st2) [d0,d1]=.ok ((xs++ys).map λus=>D.lst (us.map D.str)):=by
  have z:=uZ (tg:=tgN 6) (C:=aFf) (E:=aFe) (st:=clr [6] st2) (F:=λd=>d) (G:=bDq) (q:=aR7) [d0,d1] λd hd=>by
   refine⟨_,rfl,?_,λhq=>?_⟩
   .refine aP (x:=d) (y:=.non) rfl rfl ?_
    rcases bIq.mp hd with rfl|hd
    .exact a4
    .rw[bIu.mp hd];exact b4
   .refine aP (x:=d) rfl rfl ?_
    rcases bIq.mp hd with rfl|hd
    .exact a5 hq
    .rw[bIu.mp hd]at hq ⊢; exact b5 hq
  rw[show ([d0,d1]:List D).map (λd=>d)=[d0,d1] from rfl,show ([d0,d1]:List D)=[d0]++[d1] from rfl,bN1,bJs,a2,b2,<-bJs]at z
  exact z
 have it:itE (aN vP (aC (aA 1) aR)) st2=.ok [d0,d1]:=by
  rw[aO8,aW (bV v1 rfl) en];rfl
 have er:e2 dEq (cC [6] (tgN 6) (itE (aN vP (aC (aA 1) aR))) aFf aFe) (aA 5) st2=.ok (.bl true):=aP (jV it (by show 2<=_;decide) ce) rfl (bDo (xs++ys))
 have body:aQl [some (.v (.lst (ns.map D.int))),none,none,none,none,none,none,none,none,none,none]=.ok (.rt (.bl true)):=by
  refine aM (st':=[some (.v (.lst (ns.map D.int))),none,none,none,none,none,none,some (.v (.lst (stD S))),some (.v (.lst (nats rk))),none,none]) ?_ (aM (bU (aW (bV cp rfl) (aZg M))) (aM (bU (aW rfl (aWa M))) (aM (bU (aW rfl en)) (aM (mZ (yW (p:=false) (q:=false) (rB (p:=true) (aF rfl)) λ_=>aP (x:=.int 2) (aOv (x:=.tup [d0,d1]) rfl rfl) rfl ((yX _ _).trans rfl)) rfl) (aM (jG (uR (eQ rfl)) (kW rfl t0 (kW rfl t1 rfl))) (aM es (dR er)))))))
  show R.bind (jB [.lst (ns.map D.int),.int 0,.int 8]) _=_;rw[em];rfl
 show aV _ (R.bind (aQl [some (.v (.lst (ns.map D.int))),none,none,none,none,none,none,none,none,none,none]) _)=_;rw[body];exact aF rfl
end
end Pu
namespace Pu
open PySem PySem.Spec PyProof.Rows L2
abbrev LSt:=L2.St
def jX:Key->D
 |.inl i=>.int i
 |.inr x=>.str x.cps.toList
structure ExcCl(K:Frag)(C:Addr):Prop where
 ga:findIn K (.ref C) "__getattribute__"=some (some (.builtin "BaseException.__getattribute__"))
 gn:findIn K (.ref C) "__getattr__"=some none
 mb:mroIn K C (.type "BaseException")=some true
 cl:(PySem.W.clsIn K C).isSome=true
 fd:findIn K (.ref C) "__class__"=some (some (.builtin "object.__class__"))
 sp:PySem.W.specialIn K (.builtin "object.__class__") "__get__"=some (some (.builtin "getset_descriptor.__get__"))
 tk:PySem.W.takesIn K (.builtin "object.__class__")=some true
 mr:mroIn K C (.type "object")=some true
structure ExcAt(K:Frag)(c:String)(C:Addr)(bm:List Value):Prop where
 ns:nsIn K mainGlobals (Str.ofString c)=some (some (.ref C))
 ob:∃(B newId initId:String)(bmB:List Value),ExcBaseFacts B newId initId bmB/\∀h,K.In h->∃N nm q bs hdct sn sub ab col dd k0 k1 k2 k3 k5 mN,
  h.get? C=some (excClassObj nm q C N bs bm hdct sn sub ab col dd k0 k1 k2 k3 k5 newId)/\h.Ns N mN/\mN "__init__"=none/\OwnTail h bmB bm
 ic:ExcCl K C
def bBt(a C:Addr)(h:Heap):Prop:=∃o,h.get? a=some o/\o.cls=.ref C/\notCls o=true
structure ExcIs(K:Frag)(c:String)(C:Addr):Prop where
 ns:nsIn K mainGlobals (Str.ofString c)=some (some (.ref C))
 ic:ExcCl K C
def ExcAt.is{K:Frag}{c:String} {bm:List Value} (h:ExcAt K c C bm):ExcIs K c C:=⟨h.ns,h.ic⟩
def xOb(x C:Addr)(d:Option Addr)(h:Heap):Prop:=∃o,h.get? x=some o/\o.cls=.ref C/\notCls o=true/\o.dict=d
def xFs(dx:Addr)(fs:List (Str×V))(h:Heap):Prop:=∃mA,h.Ns1 dx mA/\(∀f,vH (fs.lookup f) (mA f))/\PySem.Within mA (fs.map (·.1))
def txH:List D->Bool
 |.str _::_=>true
 |_=>false
mutual
def Rep(K:Frag)(H:Hp):D->V->Prop
 |.non,v=>v=V.non
 |.bl b,v=>v=V.bl b
 |.int i,v=>v=V.int i
 |.str s,v=>v=V.str ⟨s.toArray⟩
 |.tup ds,v=>∃a vs,v=V.ref a/\H a=some (.tup vs)/\bD K H ds vs
 |.lst ds,v=>∃a vs,v=V.ref a/\SqL K H a vs/\bD K H ds vs/\(txH ds=true->H a=some (.lst vs))
 |.dct t ks ds,v=>∃a vs,v=V.ref a/\((t=false/\∃kvs:List (Key×V),H a=some (.dK kvs)/\kvs.map (λp=>jX p.1)=ks/\vs=kvs.map (·.2))\/(t=true/\∃kvs:List (List Key×V),H a=some (.dT kvs)/\kvs.map (λp=>D.tup (p.1.map jX))=ks/\vs=kvs.map (·.2)))/\bD K H ds vs
 |.ins c ns ds,v=>∃a C dx fs vs,v=V.ref a/\H a=some (.ins C dx fs)/\nsIn K mainGlobals (Str.ofString c)=some (some (.ref C))/\fs.map (·.1)=ns.map Str.ofString/\vs=fs.map (·.2)/\bD K H ds vs
 |.exn c ns ds,v=>∃a φ C,v=V.ref a/\H a=some (.ext φ)/\(∀h,φ h->bBt a C h)/\ExcIs K c C/\∃dx fs vs,((ns=[]/\vs=[])\/(φ=xOb a C (some dx)/\dx≠a/\H dx=some (.ext (xFs dx fs))/\fs.map (·.1)=ns.map Str.ofString/\vs=fs.map (·.2)))/\bD K H ds vs
 |.fn f,v=>∃a,v=V.ref a/\nsIn K mainGlobals (Str.ofString f)=some (some (.ref a))
def bD(K:Frag)(H:Hp):List D->List V->Prop
 |[],vs=>vs=[]
 |d::ds,vs=>∃v r,vs=v::r/\Rep K H d v/\bD K H ds r
end
def zK{K:Frag} {a:Addr} {xs:List V} (e:bC H H') (h:SqT K H a xs):SqT K H' a xs:=by
 rcases h with (h|⟨o,h⟩)|h
 .exact .inl (.inl (e _ _ h))
 .exact .inl (.inr ⟨o,e _ _ h⟩)
 .exact .inr h
mutual
theorem Rep.mono{K:Frag}{H H':Hp}(s:bC H H'):∀{d:D}{v:V},Rep K H d v->Rep K H' d v
 |.non,_,h=>by unfold Rep at h ⊢; exact h
 |.bl _,_,h=>by unfold Rep at h ⊢; exact h
 |.int _,_,h=>by unfold Rep at h ⊢; exact h
 |.str _,_,h=>by unfold Rep at h ⊢; exact h
 |.tup _,_,h=>by
  unfold Rep at h ⊢;obtain⟨a,vs,e,q,r⟩:=h;exact⟨a,vs,e,s _ _ q,bD.mono s r⟩
 |.lst _,_,h=>by
  unfold Rep at h ⊢;obtain⟨a,vs,e,q,r,t⟩:=h;exact⟨a,vs,e,s.seq q,bD.mono s r,λz=>s _ _ (t z)⟩
 |.dct _ _ _,_,h=>by
  unfold Rep at h ⊢;obtain⟨a,vs,e,q,r⟩:=h;refine⟨a,vs,e,?_,bD.mono s r⟩;rcases q with ⟨q0,kvs,q1,q2⟩|⟨q0,kvs,q1,q2⟩
  .exact .inl ⟨q0,kvs,s _ _ q1,q2⟩
  .exact .inr ⟨q0,kvs,s _ _ q1,q2⟩
 |.ins _ _ _,_,h=>by
  unfold Rep at h ⊢;obtain⟨a,C,dx,fs,vs,e,q1,q2,q3,q4,r⟩:=h;exact⟨a,C,dx,fs,vs,e,s _ _ q1,q2,q3,q4,bD.mono s r⟩
 |.fn _,_,h=>by unfold Rep at h ⊢; exact h
 |.exn _ _ _,_,h=>by
  unfold Rep at h ⊢;obtain⟨a,φ,C,e,q,hφ,hi,dx,fs,vs,h1,r⟩:=h;refine⟨a,φ,C,e,s _ _ q,hφ,hi,dx,fs,vs,?_,bD.mono s r⟩;rcases h1 with h1|⟨h1,h2,h3,h4⟩
  .exact .inl h1
  .exact .inr ⟨h1,h2,s _ _ h3,h4⟩
theorem bD.mono{K:Frag}{H H':Hp}(s:bC H H'):∀{ds:List D}{vs:List V},bD K H ds vs->bD K H' ds vs
 |[],_,h=>by unfold bD at h ⊢; exact h
 |d::ds,_,h=>by
  unfold bD at h ⊢;obtain⟨v,r,e,q,t⟩:=h;exact⟨v,r,e,Rep.mono s q,bD.mono s t⟩
end
section
variable{K:Frag}{H:Hp}
def jY:Rep K H .non v↔v=V.non:=by unfold Rep;exact Iff.rfl
def cL{b:Bool}:Rep K H (.bl b) v↔v=V.bl b:=by unfold Rep;exact Iff.rfl
def bH{i:Int}:Rep K H (.int i) v↔v=V.int i:=by unfold Rep;exact Iff.rfl
def cY{s:List Nat}:Rep K H (.str s) v↔v=V.str ⟨s.toArray⟩:=by unfold Rep;exact Iff.rfl
def lE:Rep K H (.tup ds) v↔∃a vs,v=V.ref a/\H a=some (.tup vs)/\bD K H ds vs:=by conv=>lhs;unfold Rep
def fZ(h:Rep K H (.tup ds) v):∃a vs,v=V.ref a/\SqT K H a vs/\bD K H ds vs:=
 let ⟨a,vs,e,q,r⟩:=lE.mp h;⟨a,vs,e,SqT.of q,r⟩
def vA:Rep K H (.lst ds) v↔∃a vs,v=V.ref a/\SqL K H a vs/\bD K H ds vs/\(txH ds=true->H a=some (.lst vs)):=by conv=>lhs;unfold Rep
structure LstR(K:Frag)(H:Hp)(ds:List D)(v:V):Prop where
 mp:Rep K H (.lst ds) v->∃a vs,v=V.ref a/\SqL K H a vs/\bD K H ds vs
 mpr:(∃a vs,v=V.ref a/\H a=some (.lst vs)/\bD K H ds vs)->Rep K H (.lst ds) v
def eN:LstR K H ds v:=⟨λh=>let ⟨a,vs,e,q,r,_⟩:=vA.mp h;⟨a,vs,e,q,r⟩,λ⟨a,vs,e,h,r⟩=>vA.mpr ⟨a,vs,e,SqL.of h,r,λ_=>h⟩⟩
def oW{t:Bool}{ks:List D}:Rep K H (.dct t ks ds) v↔∃a vs,v=V.ref a/\((t=false/\∃kvs:List (Key×V),H a=some (.dK kvs)/\kvs.map (λp=>jX p.1)=ks/\vs=kvs.map (·.2))\/(t=true/\∃kvs:List (List Key×V),H a=some (.dT kvs)/\kvs.map (λp=>D.tup (p.1.map jX))=ks/\vs=kvs.map (·.2)))/\bD K H ds vs:=by conv=>lhs;unfold Rep
def aA9{c:String}{ns:List String}:Rep K H (.ins c ns ds) v↔∃a C dx fs vs,v=V.ref a/\H a=some (.ins C dx fs)/\nsIn K mainGlobals (Str.ofString c)=some (some (.ref C))/\fs.map (·.1)=ns.map Str.ofString/\vs=fs.map (·.2)/\bD K H ds vs:=by conv=>lhs;unfold Rep
def aFl{c:String}{ns:List String}:Rep K H (.exn c ns ds) v↔∃a φ C,v=V.ref a/\H a=some (.ext φ)/\(∀h,φ h->bBt a C h)/\ExcIs K c C/\∃dx fs vs,((ns=[]/\vs=[])\/(φ=xOb a C (some dx)/\dx≠a/\H dx=some (.ext (xFs dx fs))/\fs.map (·.1)=ns.map Str.ofString/\vs=fs.map (·.2)))/\bD K H ds vs:=by conv=>lhs;unfold Rep
def aKc{f:String}:Rep K H (.fn f) v↔∃a,v=V.ref a/\nsIn K mainGlobals (Str.ofString f)=some (some (.ref a)):=by conv=>lhs;unfold Rep
def cG:bD K H [] vs↔vs=[]:=by unfold bD;exact Iff.rfl
def bK{d:D}:bD K H (d::ds) vs↔∃v r,vs=v::r/\Rep K H d v/\bD K H ds r:=by conv=>lhs;unfold bD
def bD.nil:bD K H [] []:=cG.mpr rfl
def bD.cons{d:D} {v:V} (h:Rep K H d v) (t:bD K H ds vs):bD K H (d::ds) (v::vs):=bK.mpr ⟨v,vs,rfl,h,t⟩
theorem bD.length:∀{ds:List D}{vs:List V},bD K H ds vs->vs.length=ds.length
 |[],_,h=>by rw[cG.mp h];rfl
 |_::ds,_,h=>by
  obtain⟨v,r,rfl,_,t⟩:=bK.mp h;rw[bJ7,bJ7,bD.length t]
theorem bD.get:∀{ds:List D}{vs:List V}{i:Nat}{d:D},bD K H ds vs->ds[i]?=some d->∃v,vs[i]?=some v/\Rep K H d v
 |[],_,_,_,_,e=>by simp at e
 |_::ds,_,0,d,h,e=>by
  obtain⟨v,r,rfl,q,t⟩:=bK.mp h;simp at e;subst e;exact⟨v,rfl,q⟩
 |_::ds,_,i+1,d,h,e=>by
  obtain⟨v,r,rfl,q,t⟩:=bK.mp h;obtain⟨u,e1,e2⟩:=bD.get (i:=i) t (by simpa using e)
  exact⟨u,by simpa using e1,e2⟩
theorem bD.append:∀{ds es:List D}{vs us:List V},bD K H ds vs->bD K H es us->bD K H (ds++es) (vs++us)
 |[],_,_,_,h,t=>by rw[cG.mp h];exact t
 |_::_,_,_,_,h,t=>by
  obtain⟨v,r,rfl,q,w⟩:=bK.mp h;exact .cons q (bD.append w t)
theorem bD.set{d:D}{v:V}(hd:Rep K H d v):∀{ds:List D}{vs:List V}(i:Nat),bD K H ds vs->bD K H (ds.set i d) (vs.set i v)
 |[],_,_,h=>by rw[cG.mp h];exact .nil
 |_::_,_,0,h=>by
  obtain⟨v,r,rfl,q,w⟩:=bK.mp h;exact .cons hd w
 |_::_,_,i+1,h=>by
  obtain⟨v,r,rfl,q,w⟩:=bK.mp h;exact .cons q (bD.set hd i w)
theorem bD.take:∀{ds:List D}{vs:List V}(n:Nat),bD K H ds vs->bD K H (ds.take n) (vs.take n)
 |_,_,0,_=>.nil
 |[],_,_+1,h=>by rw[cG.mp h];exact .nil
 |_::_,_,n+1,h=>by
  obtain⟨v,r,rfl,q,w⟩:=bK.mp h;exact .cons q (bD.take n w)
theorem bD.drop:∀{ds:List D}{vs:List V}(n:Nat),bD K H ds vs->bD K H (ds.drop n) (vs.drop n)
 |_,_,0,h=>h
 |[],_,_+1,h=>by rw[cG.mp h];exact .nil
 |_::_,_,n+1,h=>by
  obtain⟨v,r,rfl,q,w⟩:=bK.mp h;exact bD.drop n w
end
def hide(A:List Addr)(H:Hp):Hp:=λb=>if b∈A then none else H b
def eU{b:Addr}(h:b∈A):hide A H b=none:=bIv h
def bZ{b:Addr}(h:b∉A):hide A H b=H b:=bIt h
def bI(A:List Addr)(H:Hp):bC (hide A H) H:=λb o h=>by
 unfold hide at h;split at h
 .cases h
 .exact h
theorem bC.hide{A:List Addr}{H H':Hp}(s:bC H H'):bC (hide A H) (hide A H'):=λb o h=>by
 unfold Pu.hide at h ⊢;split at h
 .cases h
 .rename_i q;rw[bIt q];exact s b o h
def jZ{A':List Addr} (h:∀a∈A',a∈A):bC (hide A H) (hide A' H):=λb o q=>by
 by_cases hb:b∈A
 .rw[eU hb]at q;cases q
 .rw[bZ hb]at q;rw[bZ λz=>hb (h b z)]
  exact q
def vB(H:Hp):hide [] H=H:=by
 funext b;exact bZ (by simp)
def mH{a:Addr} (h:a∈A):hide A (upd H a o)=hide A H:=by
 funext b
 by_cases hb:b∈A
 .rw[eU hb,eU hb]
 .rw[bZ hb,bZ hb];exact aY λz=>hb (z ▸ h)
def cV{p:Addr} (h:H p=none):bC H (upd H p o):=λb u q=>by
 rw[aY (aX q h)];exact q
def Own(A:List Addr)(H:Hp):Prop:=∀a∈A,(H a).isSome=true
def Own.mono(h:Own A H)(s:bC H H'):Own A H':=λa ha=>by
 obtain⟨o,e⟩:=bKx.mp (h a ha);rw[s a o e];rfl
def Own.free(h:Own A H){p:Addr}(e:H p=none):p∉A:=λz=>by
 have q:=h p z;rw[e]at q;cases q
def lU{K:Frag} {p:Addr} (w:Own A H) (e:H p=none) (h:bD K (hide A H) ds vs):Rep K (hide A (upd H p (.lst vs))) (.lst ds) (.ref p):=
 eN.mpr ⟨p,vs,rfl,(by rw[bZ (w.free e)];exact bJ),h.mono (bC.hide (cV e))⟩
def aEu{K:Frag} {p:Addr} (w:Own A H) (e:H p=none) (h:bD K (hide A H) ds vs):Rep K (hide A (upd H p (.tup vs))) (.tup ds) (.ref p):=
 lE.mpr ⟨p,vs,rfl,(by rw[bZ (w.free e)];exact bJ),h.mono (bC.hide (cV e))⟩
def KOk(K:Frag):OK->Addr->HO->List V->Prop
 |.l,_,o,vs=>o=.lst vs
 |.d t ks,_,o,vs=>(t=false/\∃kvs:List (Key×V),o=.dK kvs/\kvs.map (λp=>jX p.1)=ks/\vs=kvs.map (·.2))\/(t=true/\∃kvs:List (List Key×V),o=.dT kvs/\kvs.map (λp=>D.tup (p.1.map jX))=ks/\vs=kvs.map (·.2))
 |.i n c ns,a,o,vs=>a=n/\∃C dx fs,o=.ins C dx fs/\nsIn K mainGlobals (Str.ofString c)=some (some (.ref C))/\fs.map (·.1)=ns.map Str.ofString/\vs=fs.map (·.2)
def KOk.rep{K:Frag} {k:OK} {a:Addr} (ko:KOk K k a o vs) (h:H a=some o) (r:bD K H ds vs):Rep K H (ofK k ds) (.ref a):=by
 cases k with
 |l=>have e:o=.lst vs:=ko;subst e;exact eN.mpr ⟨a,vs,rfl,h,r⟩
 |d t ks=>
  refine oW.mpr ⟨a,vs,rfl,?_,r⟩;rcases ko with ⟨q0,kvs,rfl,q⟩|⟨q0,kvs,rfl,q⟩
  .exact .inl ⟨q0,kvs,h,q⟩
  .exact .inr ⟨q0,kvs,h,q⟩
 |i n c ns=>
  obtain⟨_,C,dx,fs,rfl,q1,q2,q3⟩:=ko;exact aA9.mpr ⟨a,C,dx,fs,vs,rfl,h,q1,q2,q3,r⟩
structure RS(K:Frag)(B A:List Addr)(H:Hp)(st:PSt)(σ:LSt):Prop where
 len:st.length=σ.length
 own:Own (A++B) H
 dis:∀a∈A,a∉B
 val:∀(i:Nat) d,st[i]?=some (some (.v d))->∃v,σ[i]?=some (some v)/\Rep K (hide (A++B) H) d v
 lst:∀(i:Nat) k xs,st[i]?=some (some (.o k xs))->∃a o vs,σ[i]?=some (some (.ref a))/\a∈A/\H a=some o/\KOk K k a o vs/\bD K (hide (A++B) H) xs vs/\
  ∀(j:Nat) k' ys,st[j]?=some (some (.o k' ys))->σ[j]?=some (some (.ref a))->j=i
theorem RS.mono{K:Frag}{B A:List Addr}{H H':Hp}{st:PSt}{σ:LSt}(r:RS K B A H st σ)(s:bC H H'):RS K B A H' st σ where
 len:=r.len
 own:=r.own.mono s
 dis:=r.dis
 val:=λi d e=>let ⟨v,e1,q⟩:=r.val i d e;⟨v,e1,q.mono (bC.hide s)⟩
 lst:=λi k xs e=>let ⟨a,o,vs,e1,m,h,ko,q,u⟩:=r.lst i k xs e;⟨a,o,vs,e1,m,s _ _ h,ko,q.mono (bC.hide s),u⟩
def Le(A:List Addr)(H:Hp)(A':List Addr)(H':Hp):Prop:=bC (hide A H) (hide A' H')
theorem Le.refl{A:List Addr}{H:Hp}:Le A H A H:=bC.refl _
def Le.of(s:bC H H'):Le A H A H':=bC.hide s
theorem Le.trans{A A1 A2:List Addr}{H H1 H2:Hp}(a:Le A H A1 H1)(b:Le A1 H1 A2 H2):Le A H A2 H2:=bC.trans a b
def tI(K:Frag)(B:List Addr)(f:Ex):TE:=λσ H Q=>∃A st d,RS K B A H st σ/\f st=.ok d/\∀v H',bC H H'->Rep K (hide (A++B) H') d v->Q v H'
def kY(K:Frag)(A:List Addr)(H:Hp)(d:D)(v:V):Prop:=
 Rep K (hide A H) d v\/∃a k o ds vs,d=ofK k ds/\v=V.ref a/\H a=some o/\KOk K k a o vs/\bD K (hide A H) ds vs
theorem kY.mono{K:Frag}{A:List Addr}{H H':Hp}{d:D}{v:V}(s:bC H H')(h:kY K A H d v):kY K A H' d v:=by
 rcases h with h|⟨a,k,o,ds,vs,e1,e2,e3,ko,q⟩
 .exact .inl (h.mono (bC.hide s))
 .exact .inr ⟨a,k,o,ds,vs,e1,e2,s _ _ e3,ko,q.mono (bC.hide s)⟩
def tP(K:Frag)(B:List Addr)(f:Ex):TE:=λσ H Q=>∃A st d,RS K B A H st σ/\f st=.ok d/\∀v H',bC H H'->kY K (A++B) H' d v->Q v H'
def tA(K:Frag)(B:List Addr)(f:Exs):TA:=λσ H Q=>∃A st ds,RS K B A H st σ/\f st=.ok ds/\∀vs H',bC H H'->bD K (hide (A++B) H') ds vs->Q vs H'
def tT(K:Frag)(B:List Addr)(f:Ex):TT:=λσ H Q=>∃A st b,RS K B A H st σ/\f st=.ok (.bl b)/\∀H',bC H H'->Q b H'
def tO(K:Frag)(B:List Addr)(f:ExO):TO:=λσ H Q=>∃A st o,RS K B A H st σ/\f st=.ok o/\∀H',bC H H'->Q o H'
def aWo(K:Frag)(B A:List Addr)(H:Hp)(r:Fl)(Dn:Ends):Prop:=match r with
 |.nx st'=>∀A' σ' H',Le A H A' H'->RS K B A' H' st' σ'->Dn.nx σ' H'
 |.bk st'=>∀A' σ' H',Le A H A' H'->RS K B A' H' st' σ'->Dn.bk σ' H'
 |.ct st'=>∀A' σ' H',Le A H A' H'->RS K B A' H' st' σ'->Dn.ct σ' H'
 |.rt d=>∀A' v H',Le A H A' H'->Rep K (hide (A'++B) H') d v->Dn.rt v H'
def aWo.mono{K:Frag}{A1:List Addr} {r:Fl} {Dn:Ends} (l:Le A H A1 H1) (p:aWo K B A H r Dn):aWo K B A1 H1 r Dn:=by
 cases r with
 |nx st=>exact λA' σ' H' l'=>p A' σ' H' (l.trans l')
 |bk st=>exact λA' σ' H' l'=>p A' σ' H' (l.trans l')
 |ct st=>exact λA' σ' H' l'=>p A' σ' H' (l.trans l')
 |rt d=>exact λA' v H' l'=>p A' v H' (l.trans l')
def tS(K:Frag)(B:List Addr)(b:Bd):TS:=λDn σ H=>∃A st r,RS K B A H st σ/\b st=.ok r/\aWo K B A H r Dn
def aP0(K:Frag)(B A:List Addr)(H:Hp)(J:It)(ds:List D):Prop:=∀A' H',Le A H A' H'->Own (A'++B) H'->∀(i:Nat),
 (∀d,ds[i]?=some d->J.go i H'/\∀x H3,J.yld i H' x H3->bC H' H3/\Rep K (hide (A'++B) H3) d x)/\(ds.length<=i->J.stop i H')
def tIt(K:Frag)(B:List Addr)(f:ItE):TI:=λσ H R=>∃A st ds,RS K B A H st σ/\f st=.ok ds/\∀J H',bC H H'->aP0 K B A H' J ds->R J H'
def tG(K:Frag)(B:List Addr)(g:Tg):TG:=λv σ H Q=>∃A st d s1,RS K B A H st σ/\Rep K (hide (A++B) H) d v/\g d st=.ok s1/\∀σ',RS K B A H s1 σ'->Q σ' H
section
def cN{t t':TE}(h:PE X e t)(m:∀σ H Q,t' σ H Q->t σ H Q):PE X e t':=λpins s σ H Q I q=>h pins s σ H Q I (m σ H Q q)
def aP1{t t':TT}(h:PT X e t)(m:∀σ H Q,t' σ H Q->t σ H Q):PT X e t':=λpins s σ H Q I q=>h pins s σ H Q I (m σ H Q q)
def aWp{t t':TT}(h:PW X e t)(m:∀σ H Q,t' σ H Q->t σ H Q):PW X e t':=λw pins s σ H Q I q=>h w pins s σ H Q I (m σ H Q q)
def aWq{t t':TA}(h:PA X es t)(m:∀σ H Q,t' σ H Q->t σ H Q):PA X es t':=λpos pins s σ H Q I q=>h pos pins s σ H Q I (m σ H Q q)
def aWr{e:Option Expr}{t t':TO}(h:PO X e t)(m:∀σ H Q,t' σ H Q->t σ H Q):PO X e t':=λpins s σ H Q I q=>h pins s σ H Q I (m σ H Q q)
def kZ{st:Stmt}{t t':TS}(h:PS X st t)(m:∀D σ H,t' D σ H->t D σ H):PS X st t':=λpins s σ H D I q=>h pins s σ H D I (m D σ H q)
def oX{st:List Stmt}{t t':TS}(h:PSs X st t)(m:∀D σ H,t' D σ H->t D σ H):PSs X st t':=λpins s σ H D I q=>h pins s σ H D I (m D σ H q)
def aWs{t t':TG}(h:PG X e t)(m:∀v σ H Q,t' v σ H Q->t v σ H Q):PG X e t':=λpins s σ H v u Q I r q=>h pins s σ H v u Q I r (m v σ H Q q)
def aP2{t t':TI}(h:L2.PI X tg e t)(m:∀σ H R,t' σ H R->t σ H R):L2.PI X tg e t':=λpins s σ H R I q=>h pins s σ H R I (m σ H R q)
end
section
variable {a:Expr} {h:Ex}
def aB(i:Nat) (hN:X.N[i]?=some x:=by rfl) (hv:Vis X.env.scope x:=by first|exact Or.inl rfl|exact Or.inr (Or.inl rfl)|exact Or.inr (Or.inr rfl)) (hd:(x==("__debug__":Str))=false:=by decide)
  (hcd:(x==("__classdict__":Str))=false:=by decide):PE X (.Name x pos) (tI X.K B (aA i)):=by
 refine cN (kJ hN hv hd hcd) ?_
 rintro σ H Q ⟨A,st,d,rs,hd,q⟩;unfold aA at hd;split at hd
 .rename_i d' e;cases hd;obtain⟨v,e1,r⟩:=rs.val i _ e;exact⟨v,e1,q v H (bC.refl _) r⟩
 .cases hd
end
end Pu
variable{σ τ:Pu.LSt}
namespace Pu
open PySem PySem.Spec PyProof.Rows L2
section
variable{X:Cx}{B:List Addr}{a b e:Expr}{f g:Ex}{pos:Pos}
def i_c(h:PE X e (tC v))(r:∀H,Rep X.K H d v):PE X e (tI X.K B (eC d)):=cN h (by
 rintro σ H Q ⟨A,st,d',rs,hd,q⟩;cases hd;exact q v H (bC.refl _) (r _))
def aQ{i:Int}:PE X (.Constant (.int i) j pos) (tI X.K B (eC (.int i))):=i_c aD6 λ_=>bH.mpr rfl
def xU{q:Bool}:PE X (.Constant (.bool q) j pos) (tI X.K B (eC (.bl q))):=i_c bF3 λ_=>cL.mpr rfl
def aRb:PE X (.Constant .none j pos) (tI X.K B (eC .non)):=i_c bC3 λ_=>jY.mpr rfl
def aMh(s:List Nat)(hx:x=⟨s.toArray⟩:=by first|rfl|decide|decide+kernel):PE X (.Constant (.str x) j pos) (tI X.K B (eC (.str s))):=i_c bC4 λ_=>cY.mpr (by rw[hx])
def aP3{y:Str}{t:Tok}(s:List Nat)(hm:X.mg x=some (.str y t))(hg:Gl X x:=by rfl)(hy:y=⟨s.toArray⟩:=by first|rfl|decide|decide+kernel)(hd:(x==("__debug__":Str))=false:=by decide):PE X (.Name x pos) (tI X.K B (eC (.str s))):=
 i_c (aJj (v:=.str y) hg hm ⟨t,rfl⟩ hd) λ_=>cY.mpr (by rw[hy])
def aWt{i:Int}{t:Tok}(hm:X.mg x=some (.int i t))(hg:Gl X x:=by rfl)(hd:(x==("__debug__":Str))=false:=by decide):PE X (.Name x pos) (tI X.K B (eC (.int i))):=
 i_c (aJj (v:=.int i) hg hm ⟨t,rfl⟩ hd) λ_=>bH.mpr rfl
def toP(h:PE X e (tI X.K B f)):PE X e (tP X.K B f):=cN h (by
 rintro σ H Q ⟨A,st,d,rs,hd,q⟩;exact⟨A,st,d,rs,hd,λv H' s r=>q v H' s (.inl r)⟩)
def oE(i:Nat) (hN:X.N[i]?=some x:=by rfl) (hv:Vis X.env.scope x:=by first|exact Or.inl rfl|exact Or.inr (Or.inl rfl)|exact Or.inr (Or.inr rfl)) (hd:(x==("__debug__":Str))=false:=by decide)
  (hcd:(x==("__classdict__":Str))=false:=by decide):PE X (.Name x pos) (tP X.K B (kI i)):=by
 refine cN (kJ hN hv hd hcd) ?_
 rintro σ H Q ⟨A,st,d,rs,hd,q⟩;unfold kI at hd;split at hd
 .rename_i d' e;cases hd;obtain⟨v,e1,r⟩:=rs.val i _ e;exact⟨v,e1,q v H (bC.refl _) (.inl r)⟩
 .rename_i k xs e;cases hd;obtain⟨a,o,vs,e1,m,h,ko,r,_⟩:=rs.lst i _ _ e;exact⟨_,e1,q _ H (bC.refl _) (.inr ⟨a,_,o,xs,vs,rfl,rfl,h,ko,r⟩)⟩
 .cases hd
section
variable{K:Frag}
theorem kY.non(h:kY K A H .non v):v=V.non:=by
 rcases h with h|⟨_,k,_,_,_,e,_⟩
 .exact jY.mp h
 .cases k<;>cases e
theorem kY.bl{q:Bool}(h:kY K A H (.bl q) v):v=V.bl q:=by
 rcases h with h|⟨_,k,_,_,_,e,_⟩
 .exact cL.mp h
 .cases k<;>cases e
theorem kY.int{i:Int}(h:kY K A H (.int i) v):v=V.int i:=by
 rcases h with h|⟨_,k,_,_,_,e,_⟩
 .exact bH.mp h
 .cases k<;>cases e
theorem kY.str{s:List Nat}(h:kY K A H (.str s) v):v=V.str ⟨s.toArray⟩:=by
 rcases h with h|⟨_,k,_,_,_,e,_⟩
 .exact cY.mp h
 .cases k<;>cases e
theorem kY.tup{ds:List D}(h:kY K A H (.tup ds) v):∃a vs,v=V.ref a/\SqT K H a vs/\bD K (hide A H) ds vs:=by
 rcases h with h|⟨_,k,_,_,_,e,_⟩
 .obtain⟨a,vs,e,q,r⟩:=fZ h;exact⟨a,vs,e,zK (bI _ _) q,r⟩
 .cases k<;>cases e
theorem kY.lst{ds:List D}(h:kY K A H (.lst ds) v):∃a vs,v=V.ref a/\SqL K H a vs/\bD K (hide A H) ds vs:=by
 rcases h with h|⟨a,k,o,ds',vs,e,e2,h,ko,r⟩
 .obtain⟨a,vs,e,q,r⟩:=eN.mp h;exact⟨a,vs,e,(bI _ _).seq q,r⟩
 .cases k<;>cases e;have e3:o=.lst vs:=ko;subst e3;exact⟨a,vs,e2,SqL.of h,r⟩
end
def aAj(K:Frag)(r:R2)(o:Op2):Prop:=∀(A:List Addr)(H:Hp)(x y d:D)(v u:V)(Q:VK),Own A H->kY K A H x v->kY K A H y u->o x y=.ok d->
 (∀w H',bC H H'->Rep K (hide A H') d w->Q w H')->r v u H Q
def aKd{r:R2}{o:Op2}(sem:aAj X.K r o) {Q:VK} (h:tI X.K B (e2 o f g) σ H Q):tOp r (tP X.K B f) (tP X.K B g) σ H Q:=by
 obtain⟨A,st,d,rs,hd,q⟩:=h;obtain⟨x,hx,h2⟩:=R.ok_of hd;obtain⟨y,hy,h3⟩:=R.ok_of h2;refine⟨A,st,x,rs,hx,λv H1 s1 r1=>⟨A,st,y,rs.mono s1,hy,λu H2 s2 r2=>?_⟩⟩
 exact sem (A++B) H2 x y d v u Q (rs.own.mono (s1.trans s2)) (r1.mono s2) r2 h3 λw H' s' r'=>q w H' (s1.trans (s2.trans s')) r'
def aHz{op:Operator}{r:R2}{o:Op2}(ho:OpR X (binaryOp op) r)(sem:aAj X.K r o)(ha:PE X a (tP X.K B f))(hb:PE X b (tP X.K B g)):PE X (.BinOp a op b pos) (tI X.K B (e2 o f g)):=
 cN (bBh ho ha hb) λ_ _ _ h=>aKd sem h
def lA{r:R2}{o:Op2}(ho:OpR X (compareOp op) r)(sem:aAj X.K r o)(ha:PE X a (tP X.K B f))(hb:PE X b (tP X.K B g))(hm:behindInMarks op b=false):PE X (.Compare a [op] [b] pos) (tI X.K B (e2 o f g)):=
 cN (aYk ho ha hb hm) λ_ _ _ h=>aKd sem h
def bGi{f:Ex} {Q:Bool->Hp->Prop} (h:tT X.K B f σ H Q):tI X.K B f σ H λx H'=>∃k,x=.bl k/\Q k H':=by
 obtain⟨A,st,k,rs,hk,q⟩:=h;exact⟨A,st,.bl k,rs,hk,λv H' s r=>⟨k,cL.mp r,q H' s⟩⟩
def bR{r:R2}{o:Op2}(ho:OpR X (compareOp op) r)(sem:aAj X.K r o)(ha:PE X a (tP X.K B f))(hb:PE X b (tP X.K B g))(hm:behindInMarks op b=false):PT X (.Compare a [op] [b] pos) (tT X.K B (e2 o f g)):=
 aP1 (aPy ho ha hb hm) λ_ _ _ h=>aKd sem (bGi h)
def gB{f:Ex}(h:PE X e (tI X.K B f))(he:∀whole,isTrue e X.env whole=(do let v <- whole;standAt e.pos;holding [v] (truthy v)):=by intro _;rfl):PT X e (tT X.K B f):=
 aP1 (bC5 h he) λ_ _ _ q=>bGi q
def vX{K:Frag}{g:Int->Int->D} {o:Op2} (hr:∀H i j,Rep K H (g i j) (gv i j)) (ho:∀x y d,o x y=.ok d->∃i j,x=.int i/\y=.int j/\d=g i j):aAj K (rI0 gv) o:=by
 intro A H x y d v u Q w rx ry e q;obtain⟨i,j,rfl,rfl,rfl⟩:=ho x y d e;exact⟨i,j,rx.int,ry.int,q _ H (bC.refl _) (hr _ _ _)⟩
def aGv{K:Frag}{C:Int->Int->Prop}{g:Int->Int->D} {o:Op2} (hr:∀H i j,Rep K H (g i j) (gv i j)) (ho:∀x y d,o x y=.ok d->∃i j,x=.int i/\y=.int j/\C i j/\d=g i j):aAj K (rI C gv) o:=by
 intro A H x y d v u Q w rx ry e q;obtain⟨i,j,rfl,rfl,c,rfl⟩:=ho x y d e;exact⟨i,j,rx.int,ry.int,c,q _ H (bC.refl _) (hr _ _ _)⟩
def bBu(ha:PE X a (tP X.K B f))(hb:PE X b (tP X.K B g)):PE X (.BinOp a .Sub b pos) (tI X.K B (e2 aUq f g)):=
 aHz bCi (vX (g:=λi j=>.int (i-j)) (λ_ _ _=>bH.mpr rfl) λx y d e=>by
  unfold aUq at e;split at e
  .cases e;exact⟨_,_,rfl,rfl,rfl⟩
  .cases e) ha hb
def aP4(ha:PE X a (tP X.K B f))(hb:PE X b (tP X.K B g)):PE X (.BinOp a .FloorDiv b pos) (tI X.K B (e2 aFx f g)):=
 aHz aYi (aGv (g:=λi j=>.int (i/j)) (λ_ _ _=>bH.mpr rfl) λx y d e=>by
  unfold aFx at e;split at e
  .obtain⟨c,e⟩:=aK e;cases e;exact⟨_,_,rfl,rfl,c,rfl⟩
  .cases e) ha hb
def rC(ha:PE X a (tP X.K B f))(hb:PE X b (tP X.K B g)):PE X (.BinOp a .Mod b pos) (tI X.K B (e2 qF f g)):=
 aHz bCk (aGv (g:=λi j=>.int (i%j)) (λ_ _ _=>bH.mpr rfl) λx y d e=>by
  unfold qF at e;split at e
  .obtain⟨c,e⟩:=aK e;cases e;exact⟨_,_,rfl,rfl,c,rfl⟩
  .cases e) ha hb
def bGj(ha:PE X a (tP X.K B f))(hb:PE X b (tP X.K B g)):PE X (.BinOp a .Pow b pos) (tI X.K B (e2 aZ1 f g)):=
 aHz bCl (aGv (g:=λi j=>.int (i^j.toNat)) (λ_ _ _=>bH.mpr rfl) λx y d e=>by
  unfold aZ1 at e;split at e
  .obtain⟨c,e⟩:=aK e;cases e;exact⟨_,_,rfl,rfl,c,rfl⟩
  .cases e) ha hb
def bGk(K:Frag):R2:=λx y H Q=>∃l b xs zs,x=.ref l/\y=.ref b/\SqL K H l xs/\SqL K H b zs/\xs.length+zs.length<=sizeLine/\∀p,H p=none->Q (.ref p) (upd H p (.lst (xs++zs)))
def bA7:OpR X (binaryOp .Add) (bGk X.K):=by
 intro pins s σ H x y v u Q I rx ry h;obtain⟨l,b,xs,zs,rfl,rfl,hH,hB,hz,q⟩:=h;cases rx;cases ry;obtain⟨its,r,⟨⟨cls,dd,data,sl⟩,n,ho,hc,_,hd⟩,z⟩:=I.list hH;obtain⟨its2,r2,⟨⟨cls2,dd2,data2,sl2⟩,n2,ho2,hc2,_,hd2⟩,z2⟩:=I.list hB;simp only at hc hd hc2 hd2;subst hc hd hc2 hd2;have l1:=r.length;have l2:=r2.length;refine concat_meets ⟨_,ho,rfl⟩ ⟨_,ho2,rfl⟩ noFill_list_add seq_list_add PySem.F.slot_list_add PySem.F.entry_list_add (PySem.F.args_list_add_2 _ _) (list_addW l b its.toArray its2.toArray n n2 dd dd2 sl sl2 (by simp only[List.size_toArray];omega)) ⟨ho,ho2,?_⟩
 have ea:its.toArray++its2.toArray=(its++its2).toArray:=by simp
 rw[ea];exact⟨.ref _,_,I.lnew (t':=s.toks) (r.append r2) (by rw[bJ8];omega),rfl,q _ I.fresh⟩
def bA8(x y:List Nat):(⟨x.toArray⟩:Str)++(⟨y.toArray⟩:Str)=⟨(x++y).toArray⟩:=by
 show Str.append _ _=_;unfold Str.append;simp
def str_len(x:List Nat):(⟨x.toArray⟩:Str).length=x.length:=by simp[Str.length]
def lim(h:n<=big):n<=sizeLine:=bJj (by rw[nG]at h;exact h:n<=10000000) (by decide)
def nD(ha:PE X a (tP X.K B f))(hb:PE X b (tP X.K B g)):PE X (.BinOp a .Add b pos) (tI X.K B (e2 nJ f g)):=by
 refine aHz (aUa.or (aNw.or bA7)) ?_ ha hb;intro A H x y d v u Q w rx ry e q;cases x<;>cases y<;>first|(cases e;done)|skip
 .cases e;exact .inl ⟨_,_,rx.int,ry.int,q _ H (bC.refl _) (bH.mpr rfl)⟩
 .obtain⟨c,e⟩:=aK e;cases e;exact .inr (.inl ⟨_,_,rx.str,ry.str,by rw[str_len,str_len];exact lim c,q _ H (bC.refl _) (cY.mpr (by rw[bA8]))⟩)
 .obtain⟨c,e⟩:=aK e;cases e;obtain⟨l,xs,e1,h1,r1⟩:=rx.lst;obtain⟨m,ys,e2,h2,r2⟩:=ry.lst;have l1:=r1.length;have l2:=r2.length;refine .inr (.inr ⟨l,m,xs,ys,e1,e2,h1,h2,by rw[l1,l2];exact lim c,λp hp=>q _ _ (cV hp) ?_⟩)
  exact lU w hp (r1.append r2)
def bDs{K:Frag}:aAj K (rI0 λi j=>.bl (decide (i<=j))) dLe:=vX (g:=λi j=>.bl (decide (i<=j))) (λ_ _ _=>cL.mpr rfl) λx y d e=>by
 unfold dLe at e;split at e
 .cases e;exact⟨_,_,rfl,rfl,rfl⟩
 .cases e
def aDx{K:Frag}:aAj K (rI0 λi j=>.bl (decide (j<i))) dGt:=vX (g:=λi j=>.bl (decide (j<i))) (λ_ _ _=>cL.mpr rfl) λx y d e=>by
 unfold dGt at e;split at e
 .cases e;exact⟨_,_,rfl,rfl,rfl⟩
 .cases e
def aKe{K:Frag}:aAj K (rI0 λi j=>.bl (decide (j<=i))) dGe:=vX (g:=λi j=>.bl (decide (j<=i))) (λ_ _ _=>cL.mpr rfl) λx y d e=>by
 unfold dGe at e;split at e
 .cases e;exact⟨_,_,rfl,rfl,rfl⟩
 .cases e
theorem kY.ref{K:Frag}{A:List Addr}{H:Hp}{d:D}{v:V}(h:kY K A H d v)(h1:d≠.non)(h2:∀b,d≠.bl b)(h3:∀i,d≠.int i)(h4:∀s,d≠.str s):∃a,v=V.ref a:=by
 rcases h with h|⟨a,_,_,_,_,_,e,_⟩
 .cases d with
  |non=>exact(h1 rfl).elim
  |bl b=>exact(h2 b rfl).elim
  |int i=>exact(h3 i rfl).elim
  |str s=>exact(h4 s rfl).elim
  |tup _=>obtain⟨a,_,e,_⟩:=fZ h;exact⟨a,e⟩
  |lst _=>obtain⟨a,_,e,_⟩:=eN.mp h;exact⟨a,e⟩
  |dct _ _ _=>obtain⟨a,_,e,_⟩:=oW.mp h;exact⟨a,e⟩
  |ins _ _ _=>obtain⟨a,_,_,_,_,e,_⟩:=aA9.mp h;exact⟨a,e⟩
  |exn _ _ _=>obtain⟨a,_,_,e,_⟩:=aFl.mp h;exact⟨a,e⟩
  |fn _=>obtain⟨a,e,_⟩:=aKc.mp h;exact⟨a,e⟩
 .exact⟨a,e⟩
def bA9{K:Frag} (h:kY K A H d v):decide (v=V.non)=isN d:=by
 cases d with
 |non=>rw[h.non];rfl
 |bl _=>rw[h.bl];rfl
 |int _=>rw[h.int];rfl
 |str _=>rw[h.str];rfl
 |tup _=>obtain⟨a,vs,e,_⟩:=h.tup;rw[e];rfl
 |lst _=>obtain⟨a,vs,e,_⟩:=h.lst;rw[e];rfl
 |dct _ _ _=>obtain⟨a,e⟩:=h.ref (by intro z;cases z) (by intro _ z;cases z) (by intro _ z;cases z) (by intro _ z;cases z);rw[e];rfl
 |ins _ _ _=>obtain⟨a,e⟩:=h.ref (by intro z;cases z) (by intro _ z;cases z) (by intro _ z;cases z) (by intro _ z;cases z);rw[e];rfl
 |exn _ _ _=>obtain⟨a,e⟩:=h.ref (by intro z;cases z) (by intro _ z;cases z) (by intro _ z;cases z) (by intro _ z;cases z);rw[e];rfl
 |fn _=>obtain⟨a,e⟩:=h.ref (by intro z;cases z) (by intro _ z;cases z) (by intro _ z;cases z) (by intro _ z;cases z);rw[e];rfl
def aMi(n:Nat)(i:Int):L2.ixN n i=Pu.ixN n i:=rfl
theorem bD.atI{K:Frag}{H:Hp}{ds:List D}{vs:List V}{i:Int}{d:D}(r:bD K H ds vs)(e:Pu.atI ds i=some d):∃v,L2.atI vs i=some v/\Rep K H d v:=by
 unfold Pu.atI at e;unfold L2.atI;rw[r.length,aMi];cases h:Pu.ixN ds.length i with
 |none=>rw[h]at e;cases e
 |some j=>
  rw[h]at e;exact r.get e
def vY{o:Option α}{a:α}(h:ofO o=.ok a):o=some a:=by
 cases o with
 |none=>cases h
 |some b=>cases h;rfl
def bDt{K:Frag}{x:D}(hd:bFu x=false)(A:List Addr)(H:Hp)(x' y d:D)(v u:V)(Q:VK)(w:Own A H)(rx:kY K A H x v)(ry:kY K A H y u)(e:dIx x y=.ok d)(q:∀w H',bC H H'->Rep K (hide A H') d w->Q w H'):rIx K v u H Q:=by
 cases x<;>first|(cases hd;done)|skip
 all_goals cases y
 all_goals first|(cases e;done)|skip
 .rename_i s i;obtain⟨hz,e⟩:=aK e;have e:=vY e;cases h:Pu.atI s i with
  |none=>rw[h]at e;cases e
  |some c=>
   rw[h]at e;cases e;refine .inr (.inr ⟨_,i,c,rx.str,ry.int,by rw[str_len];exact lim hz,?_,q _ H (bC.refl _) (cY.mpr rfl)⟩)
   show L2.atI s.toArray.toList i=some c;rw[List.toList_toArray];exact h
 .rename_i ds i;have h:=vY (show ofO (Pu.atI ds i)=.ok d from e)
  obtain⟨l,xs,e1,h1,r1⟩:=rx.tup;obtain⟨z,h2,r2⟩:=r1.atI h;exact .inr (.inl ⟨l,xs,i,z,e1,ry.int,h1,h2,q _ H (bC.refl _) r2⟩)
 .rename_i ds i;have h:=vY (show ofO (Pu.atI ds i)=.ok d from e)
  obtain⟨l,xs,e1,h1,r1⟩:=rx.lst;obtain⟨z,h2,r2⟩:=r1.atI h;exact .inl ⟨l,xs,i,z,e1,ry.int,h1,h2,q _ H (bC.refl _) r2⟩
def aDy(h:PE X a (tI X.K B f)):PE X (.BoolOp .And [a] pos) (tI X.K B f):=aU0 h
def bBv(h:PE X a (tI X.K B f)):PE X (.BoolOp .Or [a] pos) (tI X.K B f):=aU0 h
def aEv{rest:List Expr}(ha:PE X a (tI X.K B f))(hb:PE X (.BoolOp .And (b::rest) pos) (tI X.K B g)):PE X (.BoolOp .And (a::b::rest) pos) (tI X.K B (qG f g)):=by
 refine cN (bC9 ha hb) ?_
 rintro σ H Q ⟨A,st,d,rs,hd,q⟩;obtain⟨x,hx,h2⟩:=R.ok_of hd;obtain⟨k,rfl,h3⟩:=pP h2;refine⟨A,st,_,rs,hx,λv H1 s1 r1=>⟨k,cL.mp r1,?_⟩⟩
 cases k with
 |true=>exact⟨A,st,d,rs.mono s1,h3,λw H' s' r'=>q w H' (s1.trans s') r'⟩
 |false=>cases h3;exact q _ H1 s1 (cL.mpr rfl)
def bGl{rest:List Expr}(ha:PE X a (tI X.K B f))(hb:PE X (.BoolOp .Or (b::rest) pos) (tI X.K B g)):PE X (.BoolOp .Or (a::b::rest) pos) (tI X.K B (eOr f g)):=by
 refine cN (bF7 ha hb) ?_
 rintro σ H Q ⟨A,st,d,rs,hd,q⟩;obtain⟨x,hx,h2⟩:=R.ok_of hd;obtain⟨k,rfl,h3⟩:=pP h2;refine⟨A,st,_,rs,hx,λv H1 s1 r1=>⟨k,cL.mp r1,?_⟩⟩
 cases k with
 |true=>cases h3;exact q _ H1 s1 (cL.mpr rfl)
 |false=>exact⟨A,st,d,rs.mono s1,h3,λw H' s' r'=>q w H' (s1.trans s') r'⟩
def bGm(ha:PE X a (tI X.K B f)):PE X (.UnaryOp .Not a pos) (tI X.K B (pI f)):=by
 refine cN (bCa ha) ?_
 rintro σ H Q ⟨A,st,d,rs,hd,q⟩;obtain⟨x,hx,h2⟩:=R.ok_of hd;obtain⟨k,rfl,h3⟩:=pP h2;cases h3;exact⟨A,st,_,rs,hx,λv H1 s1 r1=>⟨k,cL.mp r1,q _ H1 s1 (cL.mpr rfl)⟩⟩
def aBk(h:PT X a (tT X.K B f)):PW X (.BoolOp .And [a] pos) (tT X.K B f):=aPu h
def aGw(h:PT X a (tT X.K B f)):PW X (.BoolOp .Or [a] pos) (tT X.K B f):=bC7 h
def aGx{rest:List Expr}(ha:PT X a (tT X.K B f))(hb:PW X (.BoolOp .And (b::rest) pos) (tT X.K B g)):PW X (.BoolOp .And (a::b::rest) pos) (tT X.K B (qG f g)):=by
 refine aWp (aNp ha hb) ?_
 rintro σ H Q ⟨A,st,d,rs,hd,q⟩;obtain⟨x,hx,h2⟩:=R.ok_of hd;obtain⟨k,rfl,h3⟩:=pP h2;refine⟨A,st,k,rs,hx,λH1 s1=>?_⟩
 cases k with
 |true=>exact⟨A,st,d,rs.mono s1,h3,λH' s'=>q H' (s1.trans s')⟩
 |false=>cases h3;exact q H1 s1
def aKf{rest:List Expr}(ha:PT X a (tT X.K B f))(hb:PW X (.BoolOp .Or (b::rest) pos) (tT X.K B g)):PW X (.BoolOp .Or (a::b::rest) pos) (tT X.K B (eOr f g)):=by
 refine aWp (bF4 ha hb) ?_
 rintro σ H Q ⟨A,st,d,rs,hd,q⟩;obtain⟨x,hx,h2⟩:=R.ok_of hd;obtain⟨k,rfl,h3⟩:=pP h2;refine⟨A,st,k,rs,hx,λH1 s1=>?_⟩
 cases k with
 |true=>cases h3;exact q H1 s1
 |false=>exact⟨A,st,d,rs.mono s1,h3,λH' s'=>q H' (s1.trans s')⟩
def rD(ha:PT X a (tT X.K B f)):PT X (.UnaryOp .Not a pos) (tT X.K B (pI f)):=by
 refine aP1 (bC8 ha) ?_
 rintro σ H Q ⟨A,st,d,rs,hd,q⟩;obtain⟨x,hx,h2⟩:=R.ok_of hd;obtain⟨k,rfl,h3⟩:=pP h2;cases h3;exact⟨A,st,k,rs,hx,λH1 s1=>q H1 s1⟩
def bBw{c:Expr}{t:Ex}(hc:PT X c (tT X.K B t))(ha:PE X a (tI X.K B f))(hb:PE X b (tI X.K B g)):PE X (.IfExp c a b pos) (tI X.K B (eIf t f g)):=by
 refine cN (aU1 hc ha hb) ?_
 rintro σ H Q ⟨A,st,d,rs,hd,q⟩;obtain⟨x,hx,h2⟩:=R.ok_of hd;obtain⟨k,rfl,h3⟩:=pP h2;refine⟨A,st,k,rs,hx,λH1 s1=>?_⟩
 cases k with
 |true=>exact⟨A,st,d,rs.mono s1,h3,λw H' s' r'=>q w H' (s1.trans s') r'⟩
 |false=>exact⟨A,st,d,rs.mono s1,h3,λw H' s' r'=>q w H' (s1.trans s') r'⟩
def aU:PA X [] (tA X.K B aR):=aWq gU (by
 rintro σ H Q ⟨A,st,d,rs,hd,q⟩;cases hd;exact q [] H (bC.refl _) .nil)
def aD{r:Exs}(ha:PE X e (tI X.K B f))(hr:PA X es (tA X.K B r))(hs:starEach (e::es) X.env=(false,eval e X.env)::starEach es X.env:=by rfl):PA X (e::es) (tA X.K B (aC f r)):=by
 refine aWq (dF ha hr hs) ?_
 rintro σ H Q ⟨A,st,ds,rs,hd,q⟩;obtain⟨x,hx,h2⟩:=R.ok_of hd;obtain⟨xs,hxs,h3⟩:=R.ok_of h2;cases h3;refine⟨A,st,x,rs,hx,λv H1 s1 r1=>⟨A,st,xs,rs.mono s1,hxs,λvs H2 s2 r2=>?_⟩⟩
 exact q _ H2 (s1.trans s2) (.cons (r1.mono (bC.hide s2)) r2)
def aWu{r:Exs} (h:PA X es (tA X.K B r)):PE X (.Tuple es x1 pos) (tI X.K B (aZ4 r)):=by
 refine cN (bCs h) ?_
 rintro σ H Q ⟨A,st,d,rs,hd,q⟩;obtain⟨xs,hx,h2⟩:=R.ok_of hd;obtain⟨c,h3⟩:=aK h2;cases h3;refine⟨A,st,xs,rs,hx,λvs H1 s1 r1=>⟨by rw[r1.length];exact lim c,λp hp=>q _ _ (s1.trans (cV hp)) ?_⟩⟩
 exact aEu (rs.own.mono s1) hp r1
def mJ{r:Exs}(h:PA X es (tA X.K B r)):PE X (.List es pos) (tI X.K B (fQ r)):=by
 refine cN (aUe h) ?_
 rintro σ H Q ⟨A,st,d,rs,hd,q⟩;obtain⟨xs,hx,h2⟩:=R.ok_of hd;obtain⟨c,h3⟩:=aK h2;cases h3;refine⟨A,st,xs,rs,hx,λvs H1 s1 r1=>⟨by rw[r1.length];exact lim c,λp hp=>q _ _ (s1.trans (cV hp)) ?_⟩⟩
 exact lU (rs.own.mono s1) hp r1
def spI(K:Frag)(np:Nat)(p:List D->R D):Sp:=λvs H Q _=>∃A ds d,Own A H/\bD K (hide A H) ds vs/\ds.length=np/\p ds=.ok d/\∀v H',bC H H'->Rep K (hide A H') d v->Q v H'
def bDu{k:Nat} {r:Exs} (F:FnOk X.prog X.w X.K X.mg X.base CX0 k fa fd ps (spI X.K np p)) (hr:Room k X.A) (hm:X.mg x=some (.ref fa))
  (hk:keepIn X.K (.ref fa)=true) (hb:Binds X.K fd ps []) (hl:∀ds d,p ds=.ok d->ds.length=np) (ha:PA X (e::es) (tA X.K B r)) (hg:Gl X x:=by rfl) (hdb:(x==("__debug__":Str))=false:=by decide)
  (he:starEach (e::es) X.env=(false,eval e X.env)::starEach es X.env:=by rfl) (hpl:(backTo pos (starEach es X.env)).any (·.1)=false:=by rfl) :
  PE X (.Call (.Name x p0) (e::es) [] pos) (tI X.K B (aN p r)):=by
 refine cN (aPz F hr hg hm hk hb .nil aQ2 ha hdb he hpl) ?_
 rintro σ H Q ⟨A,st,d,rs,hd,q⟩;obtain⟨xs,hx,h2⟩:=R.ok_of hd;refine⟨A,st,xs,rs,hx,λvs H1 s1 r1=>?_⟩
 show spI X.K np p (vs++[]) H1 Q E0;rw[bKi];exact⟨A++B,xs,d,rs.own.mono s1,r1,hl _ _ h2,h2,λw H' s' r'=>q w H' (s1.trans s') r'⟩
end
def aKg(a b:Key):eqK (jX a) (jX b)=decide (a=b):=by
 cases a with
 |inl i=>
  cases b with
  |inl j=>unfold jX eqK;rw[aTu]
  |inr y=>unfold jX eqK;rw[aTw]
 |inr x=>
  cases b with
  |inl j=>unfold jX eqK;rw[aTx]
  |inr y=>
   unfold jX eqK;rw[aTv,bO9,bLs,bJf];constructor
   .intro h;cases x;cases y;congr 1;exact Array.ext' h
   .rintro rfl;rfl
theorem aMj:∀(a b:List Key),aO6 (a.map jX) (b.map jX)=decide (a=b)
 |[],[]=>by unfold aO6;simp
 |[],_::_=>by unfold aO6;simp
 |_::_,[]=>by unfold aO6;simp
 |x::a,y::b=>by
  have ih:=aMj a b;rw[bJ5,bJ5];unfold aO6;rw[aKg,ih,bO9,bLb,bJf,bJf,bJf,List.cons.injEq]
def aMk(a b:List Key):eqK (.tup (a.map jX)) (.tup (b.map jX))=decide (a=b):=by
 rw[<-aMj]
 conv=>lhs;unfold eqK
section
variable{κ:Type}[DecidableEq κ]{E:κ->D}(hE:∀a b,eqK (E a) (E b)=decide (a=b)){K:Frag}{H:Hp}
include hE
theorem aKh(k:κ):∀(kvs:List (κ×V)) (ds:List D),bD K H ds (kvs.map (·.2))->(∀d,yD (kvs.map λp=>E p.1) ds (E k)=some d->∃v,xO kvs k=some v/\Rep K H d v)/\(xO kvs k).isSome=vJ (kvs.map λp=>E p.1) (E k)
 |[],ds,r=>⟨λd h=>by cases ds<;>simp[yD]at h,rfl⟩
 |(a,v)::kvs,ds,r=>by
  cases ds with
  |nil=>have:=cG.mp r;simp at this
  |cons d ds=>
   obtain⟨v',r',e,h1,h2⟩:=bK.mp r;rw[bJ5]at e;injection e with e1 e2
   subst e1 e2;obtain⟨i1,i2⟩:=aKh k kvs ds h2
   by_cases ha:a=k
   .have hk:eqK (E a) (E k)=true:=by rw[hE,bJf];exact ha
    refine⟨λd' h=>?_,?_⟩
    .unfold yD at h;rw[bJ5,bLu,bM2 (by simpa using hk)]at h
     cases h;exact⟨v,xX ha,h1⟩
    .rw[xX ha];unfold vJ;rw[bJ5,bMk,hk];rfl
   .have hk:eqK (E a) (E k)=false:=by rw[hE,bLx];exact ha
    refine⟨λd' h=>?_,?_⟩
    .rw[xY ha];refine i1 d' ?_
     unfold yD at h ⊢;rw[bJ5,bLu,bM3 (by simpa using hk)]at h
     exact h
    .rw[xY ha,i2];unfold vJ;rw[bJ5,bMk,hk];rfl
def aWv(k:κ)(kvs:List (κ×V)):(kvs.any λkv=>decide (kv.1=k))=vJ (kvs.map λp=>E p.1) (E k):=by
 unfold vJ;rw[bO6];congr 1;funext p;simp[hE]
def aRc(k:κ)(v:V)(d:D)(hd:Rep K H d v)(kvs:List (κ×V))(ds:List D)(r:bD K H ds (kvs.map (·.2))) :
  (putK kvs k v).map (λp=>E p.1)=wR (kvs.map λp=>E p.1) (E k)/\bD K H (aAm (kvs.map λp=>E p.1) ds (E k) d) ((putK kvs k v).map (·.2)):=by
 unfold putK wR aAm;rw[aWv hE]
 by_cases hh:vJ (kvs.map λp=>E p.1) (E k)=true
 .rw[bIv hh,bIv hh,bIv hh];constructor
  .rw[bK1];refine bK8 λp _=>?_
   simp only[Function.comp_apply];split<;>rfl
  .clear hh
   induction kvs generalizing ds with
   |nil=>have:=r.length;cases ds with|nil=>exact .nil|cons _ _=>simp at this
   |cons p kvs ih=>
    obtain⟨a,w⟩:=p;cases ds with
    |nil=>have:=cG.mp r;simp at this
    |cons d0 ds=>
     obtain⟨v',r',e,h1,h2⟩:=bK.mp r;rw[bJ5]at e;injection e with e1 e2
     subst e1 e2;rw[bJ5,bJ5,bJ5,bLu,bJ5];refine .cons ?_ (ih ds h2)
     by_cases ha:a=k
     .have hk:eqK (E a) (E k)=true:=by rw[hE,bJf];exact ha
      rw[bIv hk,bIv ha];exact hd
     .have hk:eqK (E a) (E k)=false:=by rw[hE,bLx];exact ha
      rw[bIt (by rw[hk];exact bJn),bIt ha]
      exact h1
 .rw[bIt hh,bIt hh,bIt hh];refine⟨by rw[bJs];rfl,?_⟩
  rw[bJs];exact r.append (.cons hd .nil)
end
def aBl{K:Frag} (r:Rep K H d v) (h:keyOk false d=true):∃k:Key,d=jX k/\v=kV k:=by
 cases d<;>first|(cases h;done)|skip
 .exact⟨.inl _,rfl,bH.mp r⟩
 .exact⟨.inr _,rfl,cY.mp r⟩
theorem aCh{K:Frag}{H:Hp}:∀{ds:List D}{vs:List V},bD K H ds vs->ds.all aUs=true->∃ks:List Key,ds=ks.map jX/\vs=ks.map kV
 |[],vs,r,_=>⟨[],rfl,cG.mp r⟩
 |d::ds,vs,r,h=>by
  obtain⟨v,r',rfl,h1,h2⟩:=bK.mp r;rw[bOm,bLb]at h;obtain⟨ks,e1,e2⟩:=aCh h2 h.2;obtain⟨k,e3,e4⟩:=aBl h1 (by cases d<;>first|(cases h.1;done)|rfl)
  exact⟨k::ks,by rw[e1,e3];rfl,by rw[e2,e4];rfl⟩
def aEw{K:Frag} (r:Rep K H d v) (h:keyOk true d=true):∃(ks:List Key)(b:Addr),d=.tup (ks.map jX)/\v=.ref b/\H b=some (.tup (ks.map kV)):=by
 cases d<;>first|(cases h;done)|skip
 rename_i xs;obtain⟨b,vs,e,hb,rs⟩:=lE.mp r;have h':xs.all aUs=true:=by
  unfold keyOk at h;simpa using h
 obtain⟨ks,e1,e2⟩:=aCh rs h';exact⟨ks,b,by rw[e1],e,by rw[<-e2];exact hb⟩
def aFm{K:Frag} {t:Bool} {ks:List D} {k:D} {u:V} (rx:kY K A H (.dct t ks ds) v) (ry:Rep K H k u) (hk:keyOk t k=true) :
  ∃a o,v=.ref a/\yC H a u o/\o.isSome=vJ ks k/\∀d,yD ks ds k=some d->∃w,o=some w/\Rep K (hide A H) d w:=by
 have key:∃a vs,v=V.ref a/\((t=false/\∃kvs:List (Key×V),H a=some (.dK kvs)/\kvs.map (λp=>jX p.1)=ks/\vs=kvs.map (·.2))\/(t=true/\∃kvs:List (List Key×V),H a=some (.dT kvs)/\kvs.map (λp=>D.tup (p.1.map jX))=ks/\vs=kvs.map (·.2)))/\bD K (hide A H) ds vs:=by
  rcases rx with h|⟨a,kk,o,ds',vs,e,e2,h,ko,r⟩
  .obtain⟨a,vs,e,q,r⟩:=oW.mp h;refine⟨a,vs,e,?_,r⟩;rcases q with ⟨q0,kvs,q1,q2⟩|⟨q0,kvs,q1,q2⟩
   .exact .inl ⟨q0,kvs,bI _ _ _ _ q1,q2⟩
   .exact .inr ⟨q0,kvs,bI _ _ _ _ q1,q2⟩
  .cases kk<;>cases e;refine⟨a,vs,e2,?_,r⟩;rcases ko with ⟨q0,kvs,q1,q2⟩|⟨q0,kvs,q1,q2⟩
   .subst q1;exact .inl ⟨q0,kvs,h,q2⟩
   .subst q1;exact .inr ⟨q0,kvs,h,q2⟩
 obtain⟨a,vs,e,q,r⟩:=key;rcases q with ⟨rfl,kvs,q1,rfl,rfl⟩|⟨rfl,kvs,q1,rfl,rfl⟩
 .obtain⟨k',e1,e2⟩:=aBl ry hk;subst e1 e2;obtain⟨i1,i2⟩:=aKh aKg k' kvs ds r;exact⟨a,_,e,yC.k q1,i2,λd hd=>let ⟨w,h1,h2⟩:=i1 d hd;⟨w,h1,h2⟩⟩
 .obtain⟨k',b,e1,e2,e3⟩:=aEw ry hk;subst e1 e2;obtain⟨i1,i2⟩:=aKh aMk k' kvs ds r;exact⟨a,_,e,yC.t q1 e3,i2,λd hd=>let ⟨w,h1,h2⟩:=i1 d hd;⟨w,h1,h2⟩⟩
section
variable{X:Cx}{B:List Addr}{a b e:Expr}{f g:Ex}{pos:Pos}
def bGn:R2:=λx y H Q=>∃p v,x=.ref p/\yC H p y (some v)/\Q v H
def bAa(hu:X.A.units+64<cLine):IxR X bGn:=by
 intro value slice pins s σ H x y v u Q I rx ry h hs;obtain⟨p,z,rfl,g,q⟩:=h;cases rx;have hT:=aEe I g;unfold subscriptTail;refine bIh ?_
 rw[getitemInPython_of_ne hT.not_modules];refine bIh (bO3 hT bN7.lookup ?_);have h2:wpAny (model X.prog X.w) X.A (getItem (.ref p) u) (EP X pins σ Q) X.xe s:=aIf (by omega) I g ry λw' s3 I3 rw'=>⟨z,H,I3,rw',q⟩
 have fin:wpAny (model X.prog X.w) X.A (subscripted slice false (.ref p) u) (λr s3=>wpAny (model X.prog X.w) X.A (letTemporaryGo value (.ref p) r >>= λ_=>pure r) (EP X pins σ Q) X.xe s3) X.xe s:=by
  rw[hs];exact wpAny_operating (bKf h2 (λr s3 h3=>bIh (wpAny_letTemporaryGo (bIx h3))) λ_ _ x=>x)
 first
  |exact bIx (bIh fin)
  |exact bIh (bIx (bIh fin))
  |exact bIh fin
def bAb{K:Frag}:aAj K (λx y H Q=>rIx K x y H Q\/bGn x y H Q) dIx:=by
 intro A H x y d v u Q w rx ry e q
 by_cases hx:bFu x=true
 .cases x<;>first|(cases hx;done)|skip
  rename_i t ks vs;have e':aV (keyOk t y=true) (ofO (yD ks vs y))=.ok d:=by cases y<;>exact e
  obtain⟨hk,e2⟩:=aK e';have ryr:Rep K H y u:=by
   rcases ry with h|⟨a,kk,o,ds,vs',e1,_⟩
   .exact h.mono (bI _ _)
   .subst e1;cases kk<;>cases t<;>cases hk
  obtain⟨a,o,e3,g,_,g2⟩:=aFm rx ryr hk;obtain⟨z,e4,rz⟩:=g2 d (vY e2);subst e4;exact .inr ⟨a,z,e3,g,q _ H (bC.refl _) rz⟩
 .exact .inl (bDt (by simpa using hx) A H x y d v u Q w rx ry e q)
def eE(hu:X.A.units+64<cLine)(ha:PE X a (tP X.K B f))(hb:PE X b (tP X.K B g))(hs:aQ1 b:=by intro _ _;rfl):PE X (.Subscript a b pos) (tI X.K B (e2 dIx f g)):=
 cN (aUi (aO2.or (bAa hu)) ha hb hs) λ_ _ _ h=>aKd bAb h
def aT8:nA X (.builtin "len") (λxs H Q=>∃a kvs,xs=[V.ref a]/\H a=some (.dK kvs)/\Q (.int kvs.length) H):=by
 intro pins s σ H xs us Q I r h;obtain⟨a,kvs,rfl,hk,q⟩:=h;obtain⟨u,rfl,ru⟩:=r.one;obtain rfl:u=Value.ref a:=ru;exact bFs I (.inl hk) λt s' I'=>⟨.int kvs.length,H,I',⟨t,rfl⟩,q⟩
def bAc{K:Frag} {ks:List D} (rx:kY K A H (.dct false ks ds) v):∃a kvs,v=.ref a/\H a=some (.dK kvs)/\kvs.length=ks.length:=by
 rcases rx with h|⟨a,kk,o,ds',vs,e,e2,h,ko,r⟩
 .obtain⟨a,vs,e,q,r⟩:=oW.mp h;rcases q with ⟨_,kvs,q1,rfl,_⟩|⟨q0,_⟩
  .exact⟨a,kvs,e,bI _ _ _ _ q1,by simp⟩
  .cases q0
 .cases kk<;>cases e;rcases ko with ⟨_,kvs,rfl,rfl,_⟩|⟨q0,_⟩
  .exact⟨a,kvs,e2,h,by simp⟩
  .cases q0
end
section
variable{K:Frag} {st:PSt}
def aAa{k:OK} (h:(st.set i (some (.v d)))[j]?=some (some (.o k xs))):j≠i/\st[j]?=some (some (.o k xs)):=by
 rw[bIp]at h
 by_cases e:i=j
 .subst e;rw[bIv rfl]at h;split at h<;>simp at h
 .rw[bIt e]at h;exact⟨λz=>e z.symm,h⟩
def Le.app{A':List Addr} (l:Le A H A' H'):bC (hide (A++B) H) (hide (A'++B) H'):=λb u q=>by
 have q1:=bI _ _ _ _ q;have hb:b∉A++B:=λz=>by rw[eU z]at q;cases q
 have q2:hide A H b=some u:=by rw[bZ λz=>hb (bIw _ z)];exact q1
 have q3:=l b u q2;have hb':b∉A':=λz=>by rw[eU z]at q3;cases q3
 rw[bZ λz=>(bJb.mp z).elim hb' λz=>hb (bIo _ z)]
 exact bI _ _ _ _ q3
theorem RS.set(r:RS K B A H st σ){d:D}{v:V}(i:Nat)(h:Rep K (hide (A++B) H) d v):RS K B A H (st.set i (some (.v d))) (σ.set i (some v)) where
 len:=by rw[bJy,bJy,r.len]
 own:=r.own
 dis:=r.dis
 val:=λj d' e=>by
  rw[bIp]at e
  by_cases hij:i=j
  .subst hij;rw[bIv rfl]at e;split at e
   .rename_i hl;simp at e;subst e;exact⟨v,by rw[bIp,bIv rfl,bIv (by rw[<-r.len];exact hl)],h⟩
   .cases e
  .rw[bIt hij]at e;obtain⟨u,e1,q⟩:=r.val j d' e;exact⟨u,by rw[bIp,bIt hij];exact e1,q⟩
 lst:=λj kk xs e=>by
  obtain⟨hj,e'⟩:=aAa e;obtain⟨a,o,vs,e1,m,h1,ko,q,u⟩:=r.lst j kk xs e';refine⟨a,o,vs,by rw[bIp,bIt λz=>hj z.symm];exact e1,m,h1,ko,q,λk k' ys ek ek2=>?_⟩
  obtain⟨hk,ek'⟩:=aAa ek;rw[bIp,bIt λz=>hk z.symm]at ek2
  exact u k k' ys ek' ek2
def bAd{p:Addr} (w:Own (A++B) H):Own ((p::A)++B) (upd H p o):=λa ha=>by
 by_cases e:a=p
 .subst e;rw[bJ];rfl
 .rw[aY e];exact w a ((bIq.mp ha).resolve_left e)
def aCi{p:Addr} (hp:H p=none):bC (hide (A++B) H) (hide ((p::A)++B) (upd H p o)):=λb u q=>by
 have q1:=bI _ _ _ _ q;have hb:b∉A++B:=λz=>by rw[eU z]at q;cases q
 have ne:b≠p:=aX q1 hp;rw[bZ (show b∉(p::A)++B from λz=>(bIq.mp z).elim ne hb),aY ne]
 exact q1
def aGy{p:Addr} (hp:H p=none):Le A H (p::A) (upd H p o):=λb u q=>by
 have q1:=bI _ _ _ _ q;have hb:b∉A:=λz=>by rw[eU z]at q;cases q
 have ne:b≠p:=aX q1 hp;rw[bZ λz=>(bIq.mp z).elim ne hb,aY ne]
 exact q1
def RS.setO(r:RS K B A H st σ){p:Addr}{kk:OK} (i:Nat) (hp:H p=none) (ko:KOk K kk p o vs) (h:bD K (hide (A++B) H) ds vs) :
  RS K B (p::A) (upd H p o) (st.set i (some (.o kk ds))) (σ.set i (some (.ref p))) where
 len:=by rw[bJy,bJy,r.len]
 own:=bAd r.own
 dis:=λa ha hb=>by
  rcases bIq.mp ha with rfl|ha
  .exact r.own.free hp (bIo _ hb)
  .exact r.dis a ha hb
 val:=λj d' e=>by
  rw[bIp]at e
  by_cases hij:i=j
  .subst hij;rw[bIv rfl]at e;split at e<;>simp at e
  .rw[bIt hij]at e;obtain⟨u,e1,q⟩:=r.val j d' e;exact⟨u,by rw[bIp,bIt hij];exact e1,q.mono (aCi hp)⟩
 lst:=λj k0 xs e=>by
  rw[bIp]at e
  by_cases hij:i=j
  .subst hij;rw[bIv rfl]at e;split at e
   .rename_i hl;simp at e;obtain⟨e0,e⟩:=e;subst e0 e;refine⟨p,o,vs,by rw[bIp,bIv rfl,bIv (by rw[<-r.len];exact hl)],bIm,bJ,ko,h.mono (aCi hp),λk k' ys ek ek2=>?_⟩
    by_cases hk:i=k
    .exact hk.symm
    .rw[bIp,bIt hk]at ek ek2;obtain⟨a,o',vs',e1,m,h1,_⟩:=r.lst k k' ys ek;rw[e1]at ek2;cases ek2;rw[hp]at h1;cases h1
   .cases e
  .rw[bIt hij]at e;obtain⟨a,o',vs',e1,m,h1,ko',q,u⟩:=r.lst j k0 xs e;have ne:a≠p:=aX h1 hp;refine⟨a,o',vs',by rw[bIp,bIt hij];exact e1,bIl _ m,by rw[aY ne];exact h1,ko',q.mono (aCi hp),λk k' ys ek ek2=>?_⟩
   by_cases hk:i=k
   .subst hk;rw[bIp,bIv rfl]at ek2;split at ek2
    .simp at ek2;exact absurd ek2.symm ne
    .cases ek2
   .rw[bIp,bIt hk]at ek ek2;exact u k k' ys ek ek2
def RS.write(r:RS K B A H st σ){a:Addr} {k0 k1:OK} {o':HO} {vs':List V} (hi:st[i]?=some (some (.o k0 xs))) (hs:σ[i]?=some (some (.ref a))) (ko:KOk K k1 a o' vs') (h:bD K (hide (A++B) H) ds vs') :
  RS K B A (upd H a o') (st.set i (some (.o k1 ds))) σ/\Le A H A (upd H a o'):=by
 obtain⟨a',o,vs,e1,m,h1,_,q,u⟩:=r.lst i k0 xs hi;rw[hs]at e1;cases e1;have hh:hide (A++B) (upd H a o')=hide (A++B) H:=mH (bIw _ m);refine⟨⟨by rw[bJy,r.len],λb hb=>?_,r.dis,λj d e=>?_,λj kj ys e=>?_⟩,?_⟩
 .by_cases e:b=a
  .subst e;rw[bJ];rfl
  .rw[aY e];exact r.own b hb
 .rw[hh];rw[bIp]at e
  by_cases hij:i=j
  .subst hij;rw[bIv rfl]at e;split at e<;>simp at e
  .rw[bIt hij]at e;exact r.val j d e
 .rw[hh];have ne:∀{k:Nat}{kz:OK}{zs:List D},(st.set i (some (.o k1 ds)))[k]?=some (some (.o kz zs))->∃kw ws,st[k]?=some (some (.o kw ws)):=λ{k kz zs} ek=>by
   rw[bIp]at ek
   by_cases hk:i=k
   .subst hk;exact⟨_,_,hi⟩
   .rw[bIt hk]at ek;exact⟨_,_,ek⟩
  rw[bIp]at e
  by_cases hij:i=j
  .subst hij;rw[bIv rfl]at e;split at e
   .simp at e;obtain⟨e0,e⟩:=e;subst e0 e;exact⟨a,o',vs',hs,m,bJ,ko,h,λk kz zs ek ek2=>let ⟨kw,ws,ew⟩:=ne ek;u k kw ws ew ek2⟩
   .cases e
  .rw[bIt hij]at e;obtain⟨c,oc,ws,c1,cm,ch,kc,cq,cu⟩:=r.lst j kj ys e;have hca:c≠a:=λz=>by subst z;exact hij (u j kj ys e c1).symm
   exact⟨c,oc,ws,c1,cm,by rw[aY hca];exact ch,kc,cq,λk kz zs ek ek2=>let ⟨kw,ws,ew⟩:=ne ek;cu k kw ws ew ek2⟩
 .unfold Le;rw[mH m];exact bC.refl _
theorem RS.fz1(r:RS K B A H st σ)(i:Nat):∃A',RS K B A' H (Pu.fz1 st i) σ/\Le A H A' H:=by
 unfold Pu.fz1;split
 .rename_i kk xs e;obtain⟨a,o,vs,e1,m,h1,ko,q,u⟩:=r.lst i kk xs e;have hsub:∀b∈A.filter (λc=>decide (c≠a)),b∈A:=λb hb=>(bJa.mp hb).1
  have hsub2:∀b∈A.filter (λc=>decide (c≠a))++B,b∈A++B:=λb hb=>(bJb.mp hb).elim (λz=>bIw _ (hsub b z)) (bIo _)
  have sm:bC (hide (A++B) H) (hide (A.filter (λc=>decide (c≠a))++B) H):=jZ hsub2
  have hout:a∉A.filter (λc=>decide (c≠a))++B:=λz=>(bJb.mp z).elim (λz=>bJi (bJa.mp z).2 rfl) (r.dis a m)
  refine⟨A.filter λc=>decide (c≠a),⟨by rw[bJy,r.len],λb hb=>r.own b (hsub2 b hb),λb hb=>r.dis b (hsub b hb),λj d ej=>?_,λj kj ys ej=>?_⟩,jZ hsub⟩
  .rw[bIp]at ej
   by_cases hij:i=j
   .subst hij;rw[bIv rfl]at ej;split at ej
    .simp at ej;subst ej;exact⟨_,e1,ko.rep (by rw[bZ hout];exact h1) (q.mono sm)⟩
    .cases ej
   .rw[bIt hij]at ej;obtain⟨v,e2,q2⟩:=r.val j d ej;exact⟨v,e2,q2.mono sm⟩
  .obtain⟨hj,ej'⟩:=aAa ej;obtain⟨c,oc,ws,c1,cm,ch,kc,cq,cu⟩:=r.lst j kj ys ej';have hca:c≠a:=λz=>by subst z;exact hj (u j kj ys ej' c1)
   exact⟨c,oc,ws,c1,bJa.mpr ⟨cm,bIr hca⟩,ch,kc,cq.mono sm,λk kz zs ek ek2=>cu k kz zs (aAa ek).2 ek2⟩
 .exact⟨A,r,Le.refl⟩
def RS.fz(is:List Nat):∀{A:List Addr}{st:PSt},RS K B A H st σ->∃A',RS K B A' H (is.foldl Pu.fz1 st) σ/\Le A H A' H:=by
 induction is with
 |nil=>exact λr=>⟨_,r,Le.refl⟩
 |cons i is ih=>
  intro A st r;obtain⟨A1,r1,l1⟩:=r.fz1 i;obtain⟨A2,r2,l2⟩:=ih r1;exact⟨A2,r2,l1.trans l2⟩
end
section
variable{X:Cx}{B:List Addr}{a b e:Expr}{f g:Ex}{pos:Pos}{bd bd':Bd}{sm:Stmt}{rest:List Stmt}
def fK:PSs X [] (tS X.K B cZ):=oX aJk (by
 rintro Dn σ H ⟨A,st,r,rs,hr,p⟩;cases hr;exact p A σ H Le.refl rs)
def aO(h1:PS X sm (tS X.K B bd))(h2:PSs X rest (tS X.K B bd')):PSs X (sm::rest) (tS X.K B (bG bd bd')):=by
 refine oX (pH h1 h2) ?_
 rintro Dn σ H ⟨A,st,r,rs,hr,p⟩;obtain⟨x,hx,h3⟩:=R.ok_of hr;refine⟨A,st,x,rs,hx,?_⟩;cases x with
 |nx s1=>exact λA' σ' H' l rs'=>⟨A',s1,r,rs',h3,p.mono l⟩
 |rt d=>cases h3;exact p
 |bk s1=>cases h3;exact p
 |ct s1=>cases h3;exact p
def bA(h1:PS X sm (tS X.K B bd)):PSs X [sm] (tS X.K B bd):=rR h1
def aMl(is:List Nat)(h:PS X sm (tS X.K B bd)):PS X sm (tS X.K B (sFz is bd)):=kZ h (by
 rintro Dn σ H ⟨A,st,r,rs,hr,p⟩;obtain⟨A',rs',l⟩:=RS.fz is rs;exact⟨A',_,r,rs',hr,p.mono l⟩)
def bT(h:PE X e (tI X.K B f)):PS X (.Return (some e) pos) (tS X.K B (cM f)):=kZ (aNq h) (by
 rintro Dn σ H ⟨A,st,r,rs,hr,p⟩;obtain⟨d,hd,h3⟩:=R.ok_of hr;cases h3;exact⟨A,st,d,rs,hd,λv H' s q=>p A v H' (Le.of s) q⟩)
def cJ(i:Nat) (he:PE X e (tI X.K B f)) (hN:X.N.Nodup) (hi:X.N[i]?=some x:=by rfl) (hx:Loc X.env.scope x:=by first|exact Or.inl rfl|exact Or.inr rfl) (hs:swapsWith e (some (.Name x pos')) pos.line X.env=pure false:=by rfl)
  (hf:X.fn x=true\/X.env.scope.names.lookup x=some .local:=by first|exact .inl rfl|exact .inr rfl|assumption):PS X (.Assign [.Name x pos'] e pos) (tS X.K B (cR i f)):=kZ (aD7 hN hi hx he hs hf) (by
 rintro Dn σ H ⟨A,st,r,rs,hr,p⟩;obtain⟨d,hd,h3⟩:=R.ok_of hr;cases h3;exact⟨A,st,d,rs,hd,λv H' s q=>p A _ H' (Le.of s) ((rs.mono s).set i q)⟩)
def tF(K:Frag)(B:List Addr)(f:Ex):TE:=λσ H Q=>∃A st ds,RS K B A H st σ/\f st=.ok (.lst ds)/\∀p vs H',bC H H'->H' p=none->bD K (hide (A++B) H') ds vs->Q (.ref p) (upd H' p (.lst vs))
def aCj{r:Exs}(h:PA X es (tA X.K B r)):PE X (.List es pos) (tF X.K B (fQ r)):=by
 refine cN (aUe h) ?_
 rintro σ H Q ⟨A,st,d,rs,hd,q⟩;obtain⟨xs,hx,h2⟩:=R.ok_of hd;obtain⟨c,h3⟩:=aK h2;cases h3;exact⟨A,st,_,rs,hx,λvs H1 s1 r1=>⟨by rw[r1.length];exact lim c,λp hp=>q p vs H1 s1 hp r1⟩⟩
def vZ(i:Nat) (he:PE X e (tF X.K B f)) (hN:X.N.Nodup) (hi:X.N[i]?=some x:=by rfl) (hx:Loc X.env.scope x:=by first|exact Or.inl rfl|exact Or.inr rfl) (hs:swapsWith e (some (.Name x pos')) pos.line X.env=pure false:=by rfl)
  (hf:X.fn x=true\/X.env.scope.names.lookup x=some .local:=by first|exact .inl rfl|exact .inr rfl|assumption):PS X (.Assign [.Name x pos'] e pos) (tS X.K B (pY i f)):=kZ (aD7 hN hi hx he hs hf) (by
 rintro Dn σ H ⟨A,st,r,rs,hr,p⟩;obtain⟨d,hd,h3⟩:=R.ok_of hr;cases d<;>first|(cases h3;done)|skip
 cases h3;exact⟨A,st,_,rs,hd,λa vs H' s hn q=>p (a::A) _ _ ((Le.of s).trans (aGy hn)) ((rs.mono s).setO (kk:=.l) i hn rfl q)⟩)
def lB{c:Expr}{t:Ex}{x y:List Stmt}(hc:PT X c (tT X.K B t))(ha:PSs X x (tS X.K B bd))(hb:PSs X y (tS X.K B bd')):PS X (.If c x y pos) (tS X.K B (sIf t bd bd')):=kZ (aU3 hc ha hb) (by
 rintro Dn σ H ⟨A,st,r,rs,hr,p⟩;obtain⟨d,hd,h3⟩:=R.ok_of hr;obtain⟨k,rfl,h4⟩:=pP h3;refine⟨A,st,k,rs,hd,λH1 s1=>?_⟩
 cases k with
 |true=>exact⟨A,st,r,rs.mono s1,h4,p.mono (Le.of s1)⟩
 |false=>exact⟨A,st,r,rs.mono s1,h4,p.mono (Le.of s1)⟩)
def bW(i:Nat) (hN:X.N.Nodup) (hi:X.N[i]?=some x:=by rfl) (hx:Loc X.env.scope x:=by first|exact Or.inl rfl|exact Or.inr rfl)
  (hf:X.fn x=true\/X.env.scope.names.lookup x=some .local:=by first|exact .inl rfl|exact .inr rfl|assumption):PG X (.Name x pos) (tG X.K B (tgN i)):=aWs (aJl hN hi hx hf) (by
 rintro v σ H Q ⟨A,st,d,s1,rs,hr,hg,q⟩;cases hg;exact q _ (rs.set i hr))
def tGs(K:Frag)(B:List Addr)(is:List Nat):TGs:=λvs σ H Q=>∃A st ds s1,RS K B A H st σ/\bD K (hide (A++B) H) ds vs/\aG0 is ds st=.ok s1/\∀σ',RS K B A H s1 σ'->Q σ' H
def aRd{t t':TGs}(h:PGs X es t)(m:∀v σ H Q,t' v σ H Q->t v σ H Q):PGs X es t':=λpins s σ H v u Q I r q=>h pins s σ H v u Q I r (m v σ H Q q)
def aWw:PGs X [] (tGs X.K B []):=aRd aYe (by
 rintro v σ H Q ⟨A,st,ds,s1,rs,hr,hg,q⟩;cases ds with
 |nil=>cases hg;exact⟨cG.mp hr,q σ rs⟩
 |cons _ _=>exact nomatch hg)
def aFn(i:Nat){is:List Nat} (h2:PGs X es (tGs X.K B is)) (hN:X.N.Nodup) (hi:X.N[i]?=some x:=by rfl) (hx:Loc X.env.scope x:=by first|exact Or.inl rfl|exact Or.inr rfl)
  (hf:X.fn x=true\/X.env.scope.names.lookup x=some .local:=by first|exact .inl rfl|exact .inr rfl|assumption)
  (hs:(assignEach (.Name x pos::es) X.env).map (·.2)=assign (.Name x pos) X.env::(assignEach es X.env).map (·.2):=by rfl):PGs X (.Name x pos::es) (tGs X.K B (i::is)):=aRd (aU5 (bW i (pos:=pos) hN hi hx hf) h2 hs) (by
 rintro v σ H Q ⟨A,st,ds,s1,rs,hr,hg,q⟩;cases ds with
 |nil=>exact nomatch hg
 |cons d ds=>
  obtain⟨u,r,e,r1,r2⟩:=bK.mp hr;exact⟨u,r,e,A,st,d,st.set i (some (.v d)),rs,r1,rfl,λσ' rs'=>⟨A,_,ds,s1,rs',r2,hg,q⟩⟩)
def aGz{h:Heap}{l it:Addr} (hl:h.IsList l items) (s:Heap.SameBut it h h') (hne:l≠it):h'.IsList l items:=by
 obtain⟨o,e,r⟩:=hl;exact⟨o,(s.2 l hne).trans e,r⟩
theorem aJ5{M:Program}{w:World}{A:Around}{E:Value->Shared->Prop}{it t:Addr}{items:Array Value}(hne:t≠it):∀(n i:Nat)(s:Shared)(Q:List Value->Shared->Prop),s.heap.IsListIter it t i->s.heap.IsList t items->i+n<=items.size->
  (∀h',h'.IsListIter it t (i+n)->Heap.SameBut it s.heap h'->Q ((items.toList.drop i).take n) {s with heap:=h'})->wpAny (model M w) A (draw (.ref it) n) Q E s
 |0,i,s,Q,hit,_,_,hQ=>by
  show wpAny _ _ (pure []) Q E s;exact bIx (by simpa using hQ s.heap hit (Heap.SameBut.refl ..))
 |n+1,i,s,Q,hit,ht,hle,hQ=>by
  have hlt:i<items.size:=by omega
  show wpAny _ _ (pyNext (.ref it) >>= _) Q E s;refine bIh (wpAny_pyNext_list_item hit ht (x:=items[i]) (by simp[hlt]) λh1 hit1 hs1=>?_)
  refine bIh (bK7 (aJ5 hne n (i+1) _ _ hit1 (aGz ht hs1 hne) (by omega) λh2 hit2 hs2=>bIx ?_))
  have hd:items.toList.drop i=items[i] :: items.toList.drop (i+1):=by simp[drop_eq_getElem_cons,hlt]
  have:=hQ h2 (by rw[show i+(n+1)=i+1+n by omega];exact hit2) (hs1.trans hs2)
  rw[hd,List.take_succ_cons]at this;exact this
def aCk{M:Program} {A:Around} {s:Shared} {pos:Pos} {t:Addr} {Q:Unit->Shared->Prop} (hh:A.handled=none) (ht:s.heap.IsList t items)
  (hn:(assignEach elts env).length=items.size) (hstar:(assignEach elts env).findIdx? (·.1)=none)
  (h:∀h',Heap.ExtBut s.heap.objs.size s.heap h'->wpAny (model M w) A (assignInOrder ((assignEach elts env).map (·.2)) items.toList) Q E {s with heap:=h'}) :
  wpAny (model M w) A (assign (.Tuple elts x1 pos) env (.ref t)) Q E s:=by
 have hlt:t≠s.heap.objs.size:=by obtain⟨o,ho,_⟩:=ht;exact bJm (bJ2 ho)
 rw[assign_Tuple];refine bIh (bLg ?_);unfold unpack;rw[hn,hstar];refine bIh (bK7 ?_);unfold unpackItems;refine bIh ?_
 unfold notIterableAtAll;refine bIh (bO3 ht.typeIs PySem.F.slot_list_iter.lookup ?_);refine bIx ?_
 simp only[false_eq_true,if_false];refine bIh (bK7 (bLh ht ?_));have ht0:(s.heap.push {cls:=.type "list_iterator",data:=.fields #[.ref t,rawInt 0]}).IsList t items:=by
  obtain⟨o,ho,r⟩:=ht;exact⟨o,bIi _ ho,r⟩
 refine bIh (bK7 (aJ5 hlt items.size 0 _ _ ⟨_,bIy _ rfl,rfl,rfl⟩ ht0 (by omega) λh1 hit1 hs1=>?_))
 have hall:List.take items.size (List.drop 0 items.toList)=items.toList:=by
  rw[drop_zero];exact bLi (by simp)
 rw[hall];rw[bIt (by simp)]
 refine bIh (bK7 (wpAny_pyNext_list_end hh hit1 (aGz ht0 hs1 hlt) (by simp) λh2 he2=>?_))
 simp only[Option.isSome_none,false_eq_true,if_false];refine bIx (h h2 λb o hb e=>he2 b o hb (hs1.extBut b o hb (bIi _ e)))
def bI7(K:Frag)(n:Nat)(t:TGs):TG:=λv σ H Q=>∃a xs,v=.ref a/\(SqT K H a xs\/SqL K H a xs)/\xs.length=n/\t xs σ H Q
def bDv{k:Nat}{t:TGs} (hc:X.calm=true) (h:PGs X es t)
  (hn:(assignEach es X.env).length=n:=by rfl) (hst:(assignEach es X.env).findIdx? (·.1)=none:=by rfl):PG X (.Tuple es k pos) (bI7 X.K n t):=by
 intro pins s σ H v u Q I r hw;obtain⟨a,xs,e1,hq,hl,hw⟩:=hw;rcases hq with hq|hq
 .exact bCe hc h hn hst pins s σ H v u Q I r ⟨a,xs,e1,hq,hl,hw⟩
 .subst e1;cases r;obtain⟨its,rv,ht,hz⟩:=I.list hq;refine aCk (I.ok.hd hc) ht.isList (by simp[hn,<-hl,rv.length]) hst λh' hx=>?_
  have I1:Inv X pins σ H {s with heap:=h'}:=I.kept (t':=s.toks) λb o e=>hx b o (bJm (bJ2 e)) e
  exact h pins _ σ H xs _ Q I1 (by simpa using rv) hw
def aH0:∀(is:List Nat)(ds:List D)(st:PSt),aG0 is ds st=.ok s1->ds.length=is.length:=by
 intro is
 induction is with
 |nil=>intro ds st h;cases ds with|nil=>rfl|cons _ _=>exact nomatch h
 |cons i is ih=>intro ds st h;cases ds with|nil=>exact nomatch h|cons _ ds=>exact congrArg (· + 1) (ih ds _ h)
def bBx{is:List Nat} {k:Nat} (hc:X.calm=true) (h:PGs X es (tGs X.K B is)) (hn:(assignEach es X.env).length=is.length:=by rfl) (hst:(assignEach es X.env).findIdx? (·.1)=none:=by rfl):PG X (.Tuple es k pos) (tG X.K B (tgT is)):=aWs (bDv hc h hn hst) (by
 rintro v σ H Q ⟨A,st,d,s1,rs,hr,hg,q⟩;cases d<;>first|(cases hg;done)|skip
 .rename_i ds;obtain⟨a,vs,e,h1,h2⟩:=fZ hr;exact⟨a,vs,e,.inl (zK (bI _ _) h1),by rw[h2.length];exact aH0 is ds st hg,A,st,ds,s1,rs,h2,hg,q⟩
 .rename_i ds;obtain⟨a,vs,e,h1,h2⟩:=eN.mp hr;exact⟨a,vs,e,.inr ((bI _ _).seq h1),by rw[h2.length];exact aH0 is ds st hg,A,st,ds,s1,rs,h2,hg,q⟩)
def bGo{t:Tg}(he:PE X e (tI X.K B f))(hg:PG X tg (tG X.K B t))(hs:swapsWithSole [tg] e pos.line X.env=pure false:=by rfl)(hw:swappedStores [tg] e X.env=pure none:=by rfl)
  (h1:(assignEach [tg] X.env).map (·.2)=[assign tg X.env]:=by rfl):PS X (.Assign [tg] e pos) (tS X.K B (bFv t f)):=kZ (aNr he hg hs hw h1) (by
 rintro Dn σ H ⟨A,st,r,rs,hr,p⟩;obtain⟨d,hd,h3⟩:=R.ok_of hr;obtain⟨s1,hs1,h4⟩:=R.ok_of h3;cases h4;exact⟨A,st,d,rs,hd,λv H' s q=>⟨A,st,d,s1,rs.mono s,q,hs1,λσ' rs'=>p A σ' H' (Le.of s) rs'⟩⟩)
def nF{iter:Expr} {t:Tg} (hi:L2.PI X tg iter (tIt X.K B it)) (hg:PG X tg (tG X.K B t)) (hb:PSs X body (tS X.K B bd)) (hp:PassesOwn (model X.prog X.w) X.A X.env X.xe) (hc:X.calm=true)
  (hs:∀x,foldedSetIterable iter X.env x=pure x:=by intro _;rfl):PS X (.For tg iter body [] pos) (tS X.K B (tQ t it bd)):=kZ (aJn hp hc hi hg hb hs) (by
 rintro Dn σ H ⟨A,st,r,rs,hr,p⟩;obtain⟨ds,hd,h3⟩:=R.ok_of hr;refine⟨A,st,ds,rs,hd,λJ H1 s1 ito=>?_⟩
 refine⟨λi m σ' H'=>∃A' st',m=ds.length-i/\i<=ds.length/\RS X.K B A' H' st' σ'/\forR t bd (ds.drop i) st'=.ok r/\Le A H1 A' H',⟨ds.length,A,st,by simp,zero_le _,rs.mono s1,by rw[drop_zero];exact h3,Le.refl⟩,?_⟩
 rintro i m σ' H' ⟨A',st',rfl,hle,rs',hf,l⟩;obtain⟨i1,i2⟩:=ito A' H' l rs'.own i
 by_cases hlt:i<ds.length
 .have hd':ds[i]?=some ds[i]:=bIj hlt;obtain⟨go,yl⟩:=i1 _ hd';rw[bKd hlt]at hf;obtain⟨s2,hs2,h5⟩:=R.ok_of hf;obtain⟨fl,hfl,h6⟩:=R.ok_of h5;refine .inr ⟨go,λσ2 H2=>∃A2 st2,i+1<=ds.length/\RS X.K B A2 H2 st2 σ2/\forR t bd (ds.drop (i+1)) st2=.ok r/\Le A H1 A2 H2,?_,λx H2 y=>?_⟩
  .rintro σ2 H2 ⟨A2,st2,hle2,rs2,hf2,l2⟩;exact⟨ds.length-(i+1),by omega,A2,st2,rfl,hle2,rs2,hf2,l2⟩
  .obtain⟨sm,rx⟩:=yl x H2 y;have l5:Le A H1 A' H2:=l.trans (Le.of sm);refine⟨A',st',ds[i],s2,rs'.mono sm,rx,hs2,λσ3 rs3=>⟨A',s2,fl,rs3,hfl,?_⟩⟩
   cases fl with
   |nx s4=>exact λA4 σ4 H4 l4 rs4=>⟨A4,s4,hlt,rs4,h6,l5.trans l4⟩
   |ct s4=>exact λA4 σ4 H4 l4 rs4=>⟨A4,s4,hlt,rs4,h6,l5.trans l4⟩
   |bk s4=>cases h6;exact p.mono ((Le.of s1).trans l5)
   |rt d=>cases h6;exact p.mono ((Le.of s1).trans l5)
 .have e:i=ds.length:=by omega
  subst e;rw[bNs]at hf;cases hf;exact .inl ⟨i2 (bIn _),p A' σ' H' ((Le.of s1).trans l) rs'⟩)
def aKi(n:Nat){c:Expr}{t:Ex} (hc:PT X c (tT X.K B t)) (hb:PSs X body (tS X.K B bd)) (hp:PassesOwn (model X.prog X.w) X.A X.env X.xe):PS X (.While c body [] pos) (tS X.K B (aG1 n t bd)):=kZ (aU7 hp hc hb) (by
 rintro Dn σ H ⟨A,st,r,rs,hr,p⟩;refine⟨λm σ' H'=>∃A' st',RS X.K B A' H' st' σ'/\lG t bd m st'=.ok r/\Le A H A' H',⟨n,A,st,rs,hr,Le.refl⟩,?_⟩
 rintro m σ' H' ⟨A',st',rs',hw,l⟩;cases m with
 |zero=>exact nomatch hw
 |succ m=>
  obtain⟨d,hd,h3⟩:=R.ok_of hw;obtain⟨k,rfl,h4⟩:=pP h3;refine⟨A',st',k,rs',hd,λH1 s1=>?_⟩
  cases k with
  |false=>
   cases h4;exact p A' σ' H1 (l.trans (Le.of s1)) (rs'.mono s1)
  |true=>
   obtain⟨fl,hfl,h6⟩:=R.ok_of h4;refine⟨λσ2 H2=>∃A2 st2,RS X.K B A2 H2 st2 σ2/\lG t bd m st2=.ok r/\Le A H A2 H2,?_,A',st',fl,rs'.mono s1,hfl,?_⟩
   .rintro σ2 H2 ⟨A2,st2,rs2,hf2,l2⟩;exact⟨m,bL3 m,A2,st2,rs2,hf2,l2⟩
   .cases fl with
    |nx s4=>exact λA4 σ4 H4 l4 rs4=>⟨A4,s4,rs4,h6,l.trans ((Le.of s1).trans l4)⟩
    |ct s4=>exact λA4 σ4 H4 l4 rs4=>⟨A4,s4,rs4,h6,l.trans ((Le.of s1).trans l4)⟩
    |bk s4=>cases h6;exact p.mono (l.trans (Le.of s1))
    |rt d=>cases h6;exact p.mono (l.trans (Le.of s1)))
def aWx{K:Frag} {l:Addr} (hq:SqL K (hide (A++B) H) l vs) (r:bD K (hide (A++B) H) ds vs):aP0 K B A H (Itl K l) ds:=by
 intro A' H' le own i;have hq':SqL K H' l vs:=(bI _ _).seq ((Le.app le).seq hq);refine⟨λd hd=>?_,λhl=>⟨vs,hq',by rw[r.length];exact hl⟩⟩
 obtain⟨v,hv,rv⟩:=r.get hd;refine⟨⟨vs,v,hq',hv⟩,λx H3 y=>⟨by rw[y.1];exact bC.refl _,?_⟩⟩
 have hx:=y.2 vs hq';rw[y.1];rw[hv]at hx;cases hx;exact rv.mono (Le.app le)
def bDw{K:Frag} {l:Addr} (hq:SqT K (hide (A++B) H) l vs) (r:bD K (hide (A++B) H) ds vs):aP0 K B A H (Itt K l) ds:=by
 intro A' H' le own i;have hq':SqT K H' l vs:=zK (bI _ _) (zK (Le.app le) hq);refine⟨λd hd=>?_,λhl=>⟨vs,hq',by rw[r.length];exact hl⟩⟩
 obtain⟨v,hv,rv⟩:=r.get hd;refine⟨⟨vs,v,hq',hv⟩,λx H3 y=>⟨by rw[y.1];exact bC.refl _,?_⟩⟩
 have hx:=y.2 vs hq';rw[y.1];rw[hv]at hx;cases hx;exact rv.mono (Le.app le)
def aWy{K:Frag} {lo:Int}:aP0 K B A H (Itr lo n) (fU lo n):=by
 intro A' H' le own i;have hl:(fU lo n).length=n:=by simp[fU]
 refine⟨λd hd=>?_,λh=>by rw[hl]at h;exact h⟩
 have hi:i<n:=by
  have:=(bIk.mp hd).1;rw[hl]at this;exact this
 have e:d=.int (lo+(i:Int)):=by
  unfold fU at hd;rw[bK3,List.getElem?_range hi]at hd;exact(bJ3 hd).symm
 subst e;exact⟨hi,λx H3 y=>⟨by rw[y.1];exact bC.refl _,bH.mpr y.2⟩⟩
def Its(z:List Nat):It:=⟨λi _=>i<z.length,λi H x H'=>H'=H/\∃c,z[i]?=some c/\x=.str ⟨#[c]⟩,λi _=>z.length<=i⟩
def aWz{K:Frag} {it:Addr} {n:String} {t:Tok} (hn:n="str_ascii_iterator"\/n="str_iterator"):Turn P w K tg (Its z) [it] it (λi h=>h.IsStrIter it n ⟨z.toArray⟩ t i) where
 mem:=by simp
 obj:=λi h st b hb=>by
  have e:b=it:=by simpa using hb
  subst e;obtain⟨o,e,c,d⟩:=st;exact⟨o,e,λv z=>by rw[d]at z;cases z⟩
 keep:=λi h h' st k=>let ⟨o,e,r⟩:=st;⟨o,k it (by simp) o e,r⟩
 item:=by
  intro X hP hw hK hc i pins s σ H E I hf st hg;subst hP hw hK;obtain⟨f0,f1,f2,f3,f4,f5⟩:=hf it (by simp)
  have fin:∀v h' tk,SignAt ⟨z.toArray⟩ i v->Heap.IsStrIter h' it n ⟨z.toArray⟩ t (i+1)->(∀b o,b∉[it]->s.heap.get? b=some o->h'.get? b=some o)->
    ∃u,some v=some u/\wpAny (model X.prog X.w) X.A (letOwnedTupleGo tg (.ref it) u) (λ_ s2=>∃x H',Inv X pins σ H' s2/\RelV x u/\(Its z).yld i H x H'/\Heap.IsStrIter s2.heap it n ⟨z.toArray⟩ t (i+1)/\∀b∈[it],H' b=none) E {s with heap:=h',toks:=tk}:=by
   intro v h' tk hv st' kk;obtain⟨c,u,hcu,rfl⟩:=hv;have I1:Inv X pins σ H {s with heap:=h',toks:=tk}:=I.turned (λb o hb e=>kk b o (by simpa using hb) e) f0 f1 f3 f4 f5
   obtain⟨o,e,c',d⟩:=id st';refine⟨_,rfl,aLe (s:={s with heap:=h',toks:=tk}) e c' d (by rcases hn with rfl|rfl<;>decide) ⟨.str ⟨#[c]⟩,H,I1,⟨u,rfl⟩,⟨rfl,c,?_,rfl⟩,st',λb hb=>(hf b hb).1⟩⟩
   simpa using hcu
  have hg2:i<z.length:=hg;have hg':i<(⟨z.toArray⟩:Str).cps.size:=by simpa using hg2
  rcases hn with rfl|rfl
  .exact(Walks.strAscii (prog:=X.prog) (w:=X.w) (I.ok.hd hc) it ⟨z.toArray⟩ t).item i s _ _ hg' st λv h' tk hv st' kk=>fin v h' tk hv st' kk
  .exact(Walks.strWide (prog:=X.prog) (w:=X.w) (I.ok.hd hc) it ⟨z.toArray⟩ t).item i s _ _ hg' st λv h' tk hv st' kk=>fin v h' tk hv st' kk
 done:=by
  intro X hP hw hK hc i pins s σ H E I hf st hg;subst hP hw hK;obtain⟨f0,f1,f2,f3,f4,f5⟩:=hf it (by simp)
  have hg2:z.length<=i:=hg;rcases hn with rfl|rfl
  .exact wpAny_pyNext_ascii_end (I.ok.hd hc) st (by simpa using hg2) λh' eb=>⟨rfl,I.turned (t':=s.toks) (λb o hb e=>eb b o hb e) f0 f1 f3 f4 f5⟩
  .exact wpAny_pyNext_wide_end (I.ok.hd hc) st (by simpa using hg2) λh' eb=>⟨rfl,I.turned (t':=s.toks) (λb o hb e=>eb b o hb e) f0 f1 f3 f4 f5⟩
 self:=λ_ _ _ _ _ st h=>by
  rcases hn with rfl|rfl
  .exact wpAny_pyIter_striter_ascii st h
  .exact wpAny_pyIter_striter_wide st h
def bDx{K:Frag}:aP0 K B A H (Its z) (z.map λc=>.str [c]):=by
 intro A' H' le own i;refine⟨λd hd=>?_,λh=>(by simpa using h:z.length<=i)⟩
 rw[bK3]at hd;cases hz:z[i]? with
 |none=>rw[hz]at hd;cases hd
 |some c=>
  rw[hz]at hd;cases hd;refine⟨(bIk.mp hz).1,λx H3 y=>⟨by rw[y.1];exact bC.refl _,?_⟩⟩
  obtain⟨c',hc',rfl⟩:=y.2;rw[hz]at hc';cases hc';exact cY.mpr rfl
def bI8(K:Frag)(tl:TE):TI:=λσ H R=>tl σ H λx H1=>(∃a,x=.ref a/\(((∃xs,SqL K H1 a xs)/\R (Itl K a) H1)\/((∃xs,SqT K H1 a xs)/\R (Itt K a) H1)))\/∃z:List Nat,x=.str ⟨z.toArray⟩/\R (Its z) H1
def bDy{l:Expr}{tl:TE}(hl:PE X l tl):L2.PI X tg l (bI8 X.K tl):=by
 intro pins s σ H R I h;refine thn (hl pins s σ H _ I h) λv s1 ⟨x,H1,I1,r1,q1⟩=>?_
 rcases q1 with ⟨a,e,q⟩|⟨z,rfl,q⟩
 rotate_left
 .obtain⟨t,rfl⟩:=r1;refine wpAny_pyIter_strU ?_
  refine⟨s1.heap.objs.size,[s1.heap.objs.size],_,_,H1,rfl,I1.kept (t':=s1.toks) λb o e=>bIi _ e,aWz (z:=z) (n:=strIterType ⟨z.toArray⟩) (t:=t) (by unfold strIterType;split<;>simp),⟨_,bIy _ rfl,rfl,rfl⟩,λb hb=>?_,q⟩
  have e:b=s1.heap.objs.size:=by simpa using hb
  subst e;exact I1.fpOk (bIn _) (I1.hok.fresh (bIn _))
 subst e;cases r1;rcases q with ⟨⟨xs,hq⟩,q⟩|⟨⟨xs,hq⟩,q⟩
 .obtain⟨its,rv,p,hz⟩:=I1.list hq;refine bLh p.isList ?_
  refine⟨s1.heap.objs.size,[s1.heap.objs.size],_,_,H1,rfl,I1.kept (t':=s1.toks) λb o e=>bIi _ e,aI8 a _,⟨_,bIy _ rfl,rfl,rfl⟩,λb hb=>?_,q⟩
  have e:b=s1.heap.objs.size:=by simpa using hb
  subst e;exact I1.fpOk (bIn _) (I1.hok.fresh (bIn _))
 .obtain⟨its,rv,p,hz⟩:=I1.tuple hq;refine wpAny_pyIter_tuple (show s1.heap.IsTuple a its.toArray from p) ?_
  refine⟨s1.heap.objs.size,[s1.heap.objs.size],_,_,H1,rfl,I1.kept (t':=s1.toks) λb o e=>bIi _ e,aFs a _,⟨_,bIy _ rfl,rfl,rfl⟩,λb hb=>?_,q⟩
  have e:b=s1.heap.objs.size:=by simpa using hb
  subst e;exact I1.fpOk (bIn _) (I1.hok.fresh (bIn _))
def jJ{l:Expr}(hl:PE X l (tI X.K B f)):L2.PI X tg l (tIt X.K B (itE f)):=aP2 (bDy hl) (by
 rintro σ H Rq ⟨A,st,ds,rs,hd,q⟩;obtain⟨x,hx,h2⟩:=R.ok_of hd;refine⟨A,st,x,rs,hx,λv H1 s1 r1=>?_⟩
 cases x<;>first|(cases h2;done)|skip
 .obtain⟨_,h2⟩:=aK h2;cases h2;exact .inr ⟨_,cY.mp r1,q _ H1 s1 bDx⟩
 .cases h2;obtain⟨a,vs,e,h3,r3⟩:=fZ r1;exact .inl ⟨a,e,.inr ⟨⟨vs,zK (bI _ _) h3⟩,q _ H1 s1 (bDw h3 r3)⟩⟩
 .cases h2;obtain⟨a,vs,e,h3,r3⟩:=eN.mp r1;exact .inl ⟨a,e,.inl ⟨⟨vs,(bI _ _).seq h3⟩,q _ H1 s1 (aWx h3 r3)⟩⟩)
def aH1{p:Pos}(hm:X.mg "range"=none)(ha:PE X a (tP X.K B f))(hg:Gl X "range":=by rfl)(hs:starEach [a] X.env=[(false,eval a X.env)]:=by rfl):L2.PI X tg (.Call (.Name "range" p) [a] [] pos) (tIt X.K B (xP f)):=aP2 (aS8 hg hm (dF ha gU hs) hs) (by
 rintro σ H Rq ⟨A,st,ds,rs,hd,q⟩;obtain⟨x,hx,h2⟩:=R.ok_of hd;obtain⟨j,rfl,h3⟩:=aB4 h2;obtain⟨c,h4⟩:=aK h3;rw[nG]at c;cases h4;exact⟨A,st,_,rs,hx,λv H1 s1 r1=>⟨j,by rw[r1.int],by omega,by omega,q _ H1 s1 aWy⟩⟩)
def bGp{p:Pos}(hm:X.mg "range"=none)(ha:PE X a (tP X.K B f))(hb:PE X b (tP X.K B g))(hg:Gl X "range":=by rfl)(hs:starEach [a,b] X.env=[(false,eval a X.env),(false,eval b X.env)]:=by rfl)(hs2:starEach [b] X.env=[(false,eval b X.env)]:=by rfl)
  (hs3:starEach [a,b] X.env=(false,eval a X.env)::starEach [b] X.env:=by rfl):L2.PI X tg (.Call (.Name "range" p) [a,b] [] pos) (tIt X.K B (aZ5 f g)):=aP2 (aS9 hg hm (dF ha (dF hb gU hs2) hs3) hs hs2) (by
 rintro σ H Rq ⟨A,st,ds,rs,hd,q⟩;obtain⟨x,hx,h2⟩:=R.ok_of hd;obtain⟨y,hy,h5⟩:=R.ok_of h2;obtain⟨i,rfl,h6⟩:=aB4 h5;obtain⟨j,rfl,h3⟩:=aB4 h6;obtain⟨c,h4⟩:=aK h3;rw[nG]at c;cases h4;exact⟨A,st,_,rs,hx,λv H1 s1 r1=>⟨A,st,_,rs.mono s1,hy,λu H2 s2 r2=>⟨i,j,by rw[r1.int,r2.int],⟨by omega,by omega,by omega,by omega⟩,q _ H2 (s1.trans s2) aWy⟩⟩⟩)
end
def aCl{K:Frag} (w:Own B H) (r:bD K (hide B H) ds vs):RS K B [] H (ds.map (λd=>some (Sl.v d))++List.replicate (N.length-ds.length) none) (L2.start N vs):=by
 have hl:=r.length;have nov:∀(i:Nat)(s:Sl),(ds.map (λd=>some (Sl.v d))++List.replicate (N.length-ds.length) none)[i]?=some (some s)->∃d,ds[i]?=some d/\s=.v d:=λi s e=>by
  by_cases hi:i<ds.length
  .rw[bJg (by simpa using hi),List.getElem?_map,List.getElem?_eq_getElem hi]at e
   simp at e;exact⟨ds[i],bIj hi,e.symm⟩
  .rw[bJu (by simpa using hi),List.getElem?_replicate]at e
   split at e<;>simp at e
 refine⟨by unfold L2.start;simp[hl],by rw[bMl];exact w,λa ha=>absurd ha (by simp),λi d e=>?_,λi kk xs e=>?_⟩
 .obtain⟨d',e1,e2⟩:=nov i _ e;cases e2;obtain⟨v,hv,rv⟩:=r.get e1;refine⟨v,?_,by rw[bMl];exact rv⟩
  unfold L2.start;have hi:i<vs.length:=(bIk.mp hv).1;rw[bJg (by simpa using hi),List.getElem?_map,hv]
  rfl
 .obtain⟨d',e1,e2⟩:=nov i _ e;cases e2
def aH2(ds:List D)(d:D)(h:dC np n bd ds=.ok d):ds.length=np:=(aK h).1
structure DefOk(P:Program)(w:World)(K:Frag)(mg:Str->Option Value)(base:Heap)(x:Str)(k np:Nat)(p:List D->R D):Prop where
 ex:∃(fa:Addr)(fd:FuncData)(ps:List Str),FnOk P w K mg base CX0 k fa fd ps (spI K np p)/\mg x=some (.ref fa)/\keepIn K (.ref fa)=true/\Binds K fd ps []
 len:∀ds d,p ds=.ok d->ds.length=np
def DefOk.of{K:Frag} {k:Nat} (h:FnOk P w K mg base CX0 k fa fd ps (spI K np p)) (m:mg x=some (.ref fa))
  (kp:keepIn K (.ref fa)=true) (b:Binds K fd ps []) (l:∀ds d,p ds=.ok d->ds.length=np):DefOk P w K mg base x k np p:=⟨⟨fa,fd,ps,h,m,kp,b⟩,l⟩
section
variable{X:Cx}{B:List Addr}{a b e:Expr}{f g:Ex}{pos:Pos}
def aJ{k:Nat} {r:Exs} (h:DefOk X.prog X.w X.K X.mg X.base x k np p) (hr:Room j X.A) (hk:k<=j) (ha:PA X (e::es) (tA X.K B r)) (hg:Gl X x:=by rfl) (hdb:(x==("__debug__":Str))=false:=by decide)
  (he:starEach (e::es) X.env=(false,eval e X.env)::starEach es X.env:=by rfl) (hpl:(backTo pos (starEach es X.env)).any (·.1)=false:=by rfl):PE X (.Call (.Name x p0) (e::es) [] pos) (tI X.K B (aN p r)):=by
 obtain⟨fa,fd,ps,F,m,kp,bd⟩:=h.ex;exact bDu F (hr.mono hk) m kp bd h.len ha hg hdb he hpl
def aP5{K:Frag} {a:Addr} (hS:SqL K H a (ns.map V.int)):bD K H [.lst (ns.map D.int)] [.ref a]:=by
 refine .cons (vA.mpr ⟨a,_,rfl,hS,?_,λz=>by cases ns<;>cases z⟩) .nil
 clear hS
 induction ns with
 |nil=>exact .nil
 |cons n ns ih=>exact .cons (bH.mpr rfl) ih
def fL(hm:X.mg "len"=none)(ha:PE X a (tP X.K B f))(hg:Gl X "len":=by rfl)(hs:starEach [a] X.env=(false,eval a X.env)::starEach [] X.env:=by rfl):PE X (.Call (.Name "len" p0) [a] [] pos) (tI X.K B (e1 dG f)):=by
 refine cN (uH (aJs.or (aJt.or aT8)) hg hm PySem.boot_len (dF ha gU hs) (he:=hs)) ?_
 rintro σ H Q ⟨A,st,d,rs,hd,q⟩;obtain⟨x,hx,h2⟩:=R.ok_of hd;refine⟨A,st,x,rs,hx,λv H1 s1 r1=>?_⟩
 cases x<;>first|(cases h2;done)|skip
 .obtain⟨c,h3⟩:=aK h2;cases h3;exact .inr (.inl ⟨_,by rw[r1.str],by rw[str_len];exact lim c,by rw[str_len];exact q _ H1 s1 (bH.mpr rfl)⟩)
 .cases h2;obtain⟨l,vs,e,h3,r3⟩:=r1.tup;exact .inl ⟨l,vs,by rw[e],.inr h3,by rw[r3.length];exact q _ H1 s1 (bH.mpr rfl)⟩
 .cases h2;obtain⟨l,vs,e,h3,r3⟩:=r1.lst;exact .inl ⟨l,vs,by rw[e],.inl h3,by rw[r3.length];exact q _ H1 s1 (bH.mpr rfl)⟩
 .rename_i t ks ds;cases t<;>first|(cases h2;done)|skip
  cases h2;obtain⟨a,kvs,e,h3,h4⟩:=bAc r1;exact .inr (.inr ⟨a,kvs,by rw[e],h3,by rw[h4];exact q _ H1 s1 (bH.mpr rfl)⟩)
def bDz:PO X none (tO X.K B aQ5):=aWr aYr (by
 rintro σ H Q ⟨A,st,o,rs,ho,q⟩;cases ho;exact q H (bC.refl _))
def bE0(h:PE X e (tP X.K B f)):PO X (some e) (tO X.K B (aQ6 f)):=aWr (aYs h) (by
 rintro σ H Q ⟨A,st,o,rs,ho,q⟩;obtain⟨x,hx,h2⟩:=R.ok_of ho;obtain⟨i,rfl,h3⟩:=aB4 h2;cases h3;exact⟨A,st,_,rs,hx,λv H1 s1 r1=>⟨i,r1.int,q H1 s1⟩⟩)
theorem aMm{α:Type}(x:List α):∀(k a:Nat),((List.range k).map (a + ·)).filterMap (x[·]?)=(x.drop a).take k
 |0,a=>by simp
 |k+1,a=>by
  rw[bNy,bJ5,bLn,bK1];have e:((λb=>a+b) ∘ Nat.succ)=λb=>(a+1)+b:=by funext b;simp only[Function.comp_apply];omega
  rw[e];have ih:=aMm x k (a+1);rw[ih]
  by_cases h:a<x.length
  .rw[Nat.add_zero,bIj h];simp only[drop_eq_getElem_cons h,List.take_succ_cons]
  .rw[Nat.add_zero,bOa (by omega)]
   simp only[List.drop_eq_nil_of_le (by omega:x.length<=a),List.drop_eq_nil_of_le (by omega:x.length<=a+1),List.take_nil]
def aRe(n d:Nat)(o:Option Int):(match o with|none=>(d:Int)|some i=>if (1:Int)>0 then max 0 (min (if i<0 then i+(n:Int) else i) (n:Int)) else max (-1) (min (if i<0 then i+(n:Int) else i) ((n:Int)-1)))=((sIx n d o:Nat):Int):=by
 cases o with
 |none=>rfl
 |some i=>
  show (if (1:Int)>0 then _ else _)=(((if i<0 then (i+(n:Int)).toNat else min i.toNat n):Nat):Int)
  rw[bIv (by decide)]
  by_cases h:i<0
  .rw[bIv h,bIv h];omega
  .rw[bIt h,bIt h];omega
def aX0(lo hi:Option Int)(n:Nat):Builtin.Str.strSliceIndices lo hi 1 n=(List.range (sIx n n hi-sIx n 0 lo)).map (sIx n 0 lo + ·):=by
 unfold Builtin.Str.strSliceIndices;simp only[show (1:Int)>0 by decide,if_true]
 have e1:=aRe n 0 lo;have e2:=aRe n n hi;simp only[show (1:Int)>0 by decide,if_true]at e1 e2
 rw[show ((0:Nat):Int)=0 from rfl]at e1
 refine Eq.trans (congrArg (λz=>sliceRange z _ 1) (show _=((sIx n 0 lo:Nat):Int) from e1)) (Eq.trans (congrArg (λz=>sliceRange _ z 1) (show _=((sIx n n hi:Nat):Int) from e2)) ?_)
 unfold sliceRange;simp only[show (1:Int)>0 by decide,if_true]
 have hc:(if ((sIx n 0 lo:Nat):Int)<((sIx n n hi:Nat):Int) then (((sIx n n hi:Nat):Int)-((sIx n 0 lo:Nat):Int)+1-1)/1 else 0).toNat=sIx n n hi-sIx n 0 lo:=by
  by_cases h:((sIx n 0 lo:Nat):Int)<((sIx n n hi:Nat):Int)
  .rw[bIv h,Int.ediv_one];omega
  .rw[bIt h];omega
 rw[hc];refine bK8 λk _=>?_
 omega
def bAe(n d:Nat)(hd:d<=n)(o:Option Int):sIx n d o<=n:=by
 cases o with
 |none=>exact hd
 |some v=>
  show (if v<0 then (v+(n:Int)).toNat else min v.toNat n)<=n
  by_cases hv:v<0
  .rw[bIv hv];omega
  .rw[bIt hv];omega
def aT9(x:List Nat)(lo hi:Option Int):Txt.slice ⟨x.toArray⟩ lo hi=⟨(cut x lo hi).toArray⟩:=by
 unfold Txt.slice cut;rw[str_len,aX0,bJ9,bN2];have h1:=bAe x.length x.length (bIn _) hi
 by_cases h:sIx x.length x.length hi-sIx x.length 0 lo=x.length
 .have e0:sIx x.length 0 lo=0\/x.length=0:=by omega
  rw[bIv (by simp[h]),h]
  rcases e0 with e0|e0
  .rw[e0,drop_zero,bNt]
  .rw[bJw.mp e0];simp
 .rw[bIt (by simp[h])]
  have e:(λ(i:Nat)=>(⟨x.toArray⟩:Str).cps[i]?)=λi=>x[i]?:=by funext i;simp
  rw[e,aMm]
def bI9:V->Option Int->Option Int->Hp->VK->Prop:=λx lo hi H Q=>∃z:List Nat,x=.str ⟨z.toArray⟩/\z.length<=sizeLine/\Q (.str ⟨(cut z lo hi).toArray⟩) H
def bE1:SlR X bI9:=by
 intro pins s σ H x v vl vu lo hi sl Q I rx hs pl pu h;obtain⟨z,rfl,hz,q⟩:=h;obtain⟨t,rfl⟩:=rx;refine⟨"str",_,PySem.F.slot_str_getitem.lookup,typeIs_str _ _ _,?_⟩;have hl:(Txt.slice ⟨z.toArray⟩ lo hi).length<=sizeLine:=bJj (Txt.slice_le _ _ _) (by rw[str_len];exact hz)
 have fin:∀t' k,EP X pins σ Q (.str (Txt.slice ⟨z.toArray⟩ lo hi) t') {s with toks:=k}:=λt' k=>⟨.str ⟨(cut z lo hi).toArray⟩,H,I.tok k,⟨t',by rw[aT9]⟩,q⟩
 cases pl with
 |none=>
  cases pu with
  |none=>exact bL1 (l:=none) (u:=none) (st:=none) hs rfl (bMq ⟨hl,fin⟩)
  |int j uj=>exact bL1 (l:=none) (u:=some (j,uj)) (st:=none) hs rfl (bMq ⟨hl,fin⟩)
 |int i ui=>
  cases pu with
  |none=>exact bL1 (l:=some (i,ui)) (u:=none) (st:=none) hs rfl (bMq ⟨hl,fin⟩)
  |int j uj=>exact bL1 (l:=some (i,ui)) (u:=some (j,uj)) (st:=none) hs rfl (bMq ⟨hl,fin⟩)
def aX1{K:Frag} (lo hi:Option Int) (r:bD K H ds vs):bD K H (cut ds lo hi) (aSh vs lo hi):=by
 unfold cut aSh;rw[r.length];exact(r.drop _).take _
def bIa{lo hi:Option Expr}{l u:ExO} (ha:PE X a (tP X.K B f)) (hl:PO X lo (tO X.K B l)) (hu:PO X hi (tO X.K B u)):PE X (.Subscript a (.Slice lo hi none p2) pos) (tI X.K B (eSl f l u)):=by
 refine cN (aUh (aYu.or bE1) ha hl hu) ?_
 rintro σ H Q ⟨A,st,d,rs,hd,q⟩;obtain⟨x,hx,h2⟩:=R.ok_of hd;obtain⟨l',hl',h3⟩:=R.ok_of h2;obtain⟨u',hu',h4⟩:=R.ok_of h3;refine⟨A,st,x,rs,hx,λv H1 s1 r1=>⟨A,st,l',rs.mono s1,hl',λH2 s2=>⟨A,st,u',rs.mono (s1.trans s2),hu',λH3 s3=>?_⟩⟩⟩
 have r3:=r1.mono (s2.trans s3);cases x<;>first|(cases h4;done)|skip
 .obtain⟨c,h5⟩:=aK h4;cases h5;exact .inr ⟨_,r3.str,lim c,q _ H3 (s1.trans (s2.trans s3)) (cY.mpr rfl)⟩
 .cases h4;obtain⟨p,vs,e,h6,r6⟩:=r3.lst;refine .inl ⟨p,vs,e,h6,λn hn=>q _ _ (s1.trans (s2.trans (s3.trans (cV hn)))) ?_⟩
  exact lU (rs.own.mono (s1.trans (s2.trans s3))) hn (aX1 _ _ r6)
end
def clo(cells:List (Str×Addr)):List (Str×NameKind)->List (Str×Addr)->List (Str×Addr)
 |[],acc=>acc
 |(n,k)::r,acc=>if k == .free then clo cells r ((n,(cells.lookup n).getD 0)::acc) else clo cells r acc
theorem aBm{env:Env}:∀(names:List (Str×NameKind)) (acc:List (Str×Addr)),(∀y∈names,y.2=.free->∃c,env.cells.lookup y.1=some c)->
  (forIn names acc λx cs=>if x.2 == .free then (do let c <- cellOf env x.1;pure (ForInStep.yield ((x.1,c)::cs))) else pure (ForInStep.yield cs):Sem (List (Str×Addr)))=pure (clo env.cells names acc)
 |[],acc,_=>by rw[forIn_nil];rfl
 |(n,k)::r,acc,h=>by
  rw[forIn_cons];unfold clo
  by_cases hk:k=.free
  .subst hk;obtain⟨c,e⟩:=h (n,.free) bIm rfl;have e2:cellOf env n=pure c:=by unfold cellOf;rw[e]
   simp only[beq_self_eq_true,if_true,e2,e,getD_some];show (forIn r ((n,c)::acc) _:Sem (List (Str×Addr)))=_;exact aBm r _ λy hy=>h y (bIl _ hy)
  .have hb:(k==NameKind.free)=false:=by simpa using hk
   simp only[hb,false_eq_true,if_false];show (forIn r acc _:Sem (List (Str×Addr)))=_;exact aBm r _ λy hy=>h y (bIl _ hy)
def aI0{scope:Scope} (h:∀y∈scope.names,y.2=.free->∃c,env.cells.lookup y.1=some c):closureFor scope env=pure (clo env.cells scope.names []):=by
 have q:=aBm (env:=env) scope.names [] h;unfold closureFor;rw[<-q];simp only[pure_bind,bind_pure]
theorem aKj{cells:List (Str×Addr)}:∀(names:List (Str×NameKind)) (acc:List (Str×Addr)) (x:Str) (c:Addr),(∀y∈names,y.2=.free->∃c,cells.lookup y.1=some c)->(x,c)∈clo cells names acc->((x,NameKind.free)∈names/\cells.lookup x=some c)\/(x,c)∈acc
 |[],acc,x,c,_,h=>.inr h
 |(n,k)::r,acc,x,c,hn,h=>by
  unfold clo at h;have hr:∀y∈r,y.2=.free->∃c,cells.lookup y.1=some c:=λy hy=>hn y (bIl _ hy)
  by_cases hk:k=.free
  .subst hk;rw[bIv (by simp)]at h
   obtain⟨c',e⟩:=hn (n,.free) bIm rfl;rcases aKj r _ x c hr h with ⟨h1,h2⟩|h1
   .exact .inl ⟨bIl _ h1,h2⟩
   .rcases bIq.mp h1 with h1|h1
    .cases h1;refine .inl ⟨bIm,?_⟩;have e':cells.lookup n=some c':=e;rw[e'];rfl
    .exact .inr h1
  .rw[bIt (by simpa using hk)]at h
   rcases aKj r _ x c hr h with ⟨h1,h2⟩|h1
   .exact .inl ⟨bIl _ h1,h2⟩
   .exact .inr h1
theorem aKk{cells:List (Str×Addr)}:∀(names:List (Str×NameKind)) (acc:List (Str×Addr)) (x:Str),((x,NameKind.free)∈names\/∃c,(x,c)∈acc)->∃c,(x,c)∈clo cells names acc
 |[],acc,x,h=>by
  rcases h with h|h
  .cases h
  .exact h
 |(n,k)::r,acc,x,h=>by
  unfold clo
  by_cases hk:k=.free
  .subst hk;rw[bIv (by simp)]
   refine aKk r _ x ?_
   rcases h with h|⟨c,h⟩
   .rcases bIq.mp h with h|h
    .cases h;exact .inr ⟨_,bIm⟩
    .exact .inl h
   .exact .inr ⟨c,bIl _ h⟩
  .rw[bIt (by simpa using hk)]
   refine aKk r _ x ?_
   rcases h with h|h
   .rcases bIq.mp h with h|h
    .cases h;exact absurd rfl hk
    .exact .inl h
   .exact .inr h
theorem uB{α:Type}:∀{l:List (Str×α)} {x:Str} {c:α},(x,c)∈l->∃c',l.lookup x=some c'
 |(n,v)::r,x,c,h=>by
  rw[bK9];cases hb:x==n with
  |true=>exact⟨v,rfl⟩
  |false=>
   rcases bIq.mp h with h|h
   .cases h;simp at hb
   .exact uB h
theorem mK{env:Env}:∀(names:List (Str×NameKind)) (x:Str),(names.map λ(n,k)=>if (k==NameKind.free&&env.scope.kind == .function&&env.kindOf n==some .cell) then (n,NameKind.cell) else (n,k)).lookup x =
  (names.lookup x).map λk=>if (k==NameKind.free&&env.scope.kind == .function&&env.kindOf x==some .cell) then NameKind.cell else k
 |[],_=>rfl
 |(n,k)::r,x=>by
  have ih:=@mK env r x;rw[bJ5,bK9];show List.lookup x ((if (k==NameKind.free&&env.scope.kind == .function&&env.kindOf n==some .cell)=true then (n,NameKind.cell) else (n,k))::_)=_
  cases hx:x==n with
  |true=>
   have e:x=n:=bLs.mp hx;subst e
   by_cases hc:(k==NameKind.free&&env.scope.kind == .function&&env.kindOf x==some .cell)=true
   .rw[bIv hc,bK9,bK9,hx];simp only[map_some];rw[bIv hc]
   .rw[bIt hc,bK9,bK9,hx];simp only[map_some];rw[bIt hc]
  |false=>
   by_cases hc:(k==NameKind.free&&env.scope.kind == .function&&env.kindOf n==some .cell)=true
   .rw[bIv hc,bK9,bK9,hx];exact ih
   .rw[bIt hc,bK9,bK9,hx];exact ih
theorem oY:∀(names:List (Str×NameKind)) (n:Nat) (acc:List (Str×Addr)),cellsFrom n names acc=cellsFrom n names []++acc
 |[],_,_=>rfl
 |(x,k)::r,n,acc=>by
  unfold cellsFrom;split
  .rw[oY r (n+1) ((x,n)::acc),oY r (n+1) [(x,n)],bKa];rfl
  .exact oY r n acc
theorem wA:∀(names:List (Str×NameKind)) (n:Nat) (acc:List (Str×Addr)) (x:Str) (c:Addr),(x,c)∈cellsFrom n names acc->(x,c)∈acc\/(x,NameKind.cell)∈names
 |[],_,_,_,_,h=>.inl h
 |(y,k)::r,n,acc,x,c,h=>by
  unfold cellsFrom at h;split at h
  .rename_i hk;rcases wA r _ _ x c h with z|z
   .rcases bIq.mp z with z|z
    .cases z;exact .inr (by rw[show k=NameKind.cell from by simpa using hk];exact bIm)
    .exact .inl z
   .exact .inr (bIl _ z)
  .rcases wA r _ _ x c h with z|z
   .exact .inl z
   .exact .inr (bIl _ z)
theorem oZ:∀(names:List (Str×NameKind)) (n:Nat) (acc:List (Str×Addr)) (x:Str),((x,NameKind.cell)∈names\/∃c,(x,c)∈acc)->∃c,(x,c)∈cellsFrom n names acc
 |[],_,_,x,h=>h.elim (λz=>nomatch z) id
 |(y,k)::r,n,acc,x,h=>by
  unfold cellsFrom;split
  .refine oZ r _ _ x ?_
   rcases h with h|⟨c,h⟩
   .rcases bIq.mp h with h|h
    .cases h;exact .inr ⟨n,bIm⟩
    .exact .inl h
   .exact .inr ⟨c,bIl _ h⟩
  .rename_i hk;refine oZ r _ _ x ?_
   rcases h with h|h
   .rcases bIq.mp h with h|h
    .cases h;exact absurd rfl hk
    .exact .inl h
   .exact .inr h
theorem aH3{α:Type}(x:Str):∀(l r:List (Str×α)),(l++r).lookup x=(l.lookup x).or (r.lookup x)
 |[],r=>by simp
 |(y,v)::l,r=>by
  rw[bM6,bK9,bK9];cases hb:x==y with
  |true=>rfl
  |false=>exact aH3 x l r
theorem pA{α:Type}:∀{l:List (Str×α)} {x:Str} {v:α},(l.map (·.1)).Nodup->(x,v)∈l->l.lookup x=some v
 |(y,w)::l,x,v,nd,h=>by
  rw[bJ5,bK2]at nd;rw[bK9];rcases bIq.mp h with h|h
  .cases h;simp
  .have hne:(x==y)=false:=by
    rw[bK0];intro z;exact nd.1 (bJe.mpr ⟨(x,v),h,z⟩)
   rw[hne];exact pA nd.2 h
def aTa{A:Around} {s:Shared} {scope:Scope} {gl:Addr} {cl:List (Str×Addr)} {Q:Env->Shared->Prop}
  (hQ:∀h',h'.Ns s.heap.objs.size (λ_=>none)->(∀b o,s.heap.get? b=some o->h'.get? b=some o)->CellsOk h' (s.heap.objs.size+1) (cellsFrom (s.heap.objs.size+1) scope.names [])->
   Q {scope:=scope,locals:=s.heap.objs.size,globals:=gl,cells:=cellsFrom (s.heap.objs.size+1) scope.names cl,qual:=qual,func:=none,code:=env.code,frame:=env.frame,builtins:=env.builtins} {s with heap:=h'}) :
  wpAny M A (newFunctionEnv scope gl cl [] qual none .none (some env)) Q E s:=by
 simp only[newFunctionEnv,Option.isSome_some,if_true];refine bIh (wpAny_alloc (bIh (wpAny_layCells _ (λname kind cells=>by cases hkc:kind==NameKind.cell<;>simp[hkc]) _ _ _ _ ?_)))
 rw[forIn_nil];refine bIh (bIx (bIx ?_));have ok:=cellsFrom_ok scope.names (s.heap.push {cls:=.type "dict",data:=.dict #[]}) (s.heap.objs.size+1) [] ⟨λ_ _ hm=>(nomatch hm),List.Pairwise.nil⟩ (by rw[bJt];exact bIn _)
 rw[bJt]at ok;have e:({s with heap:=s.heap.push {cls:=.type "dict",data:=.dict #[]} }:Shared).heap.objs.size=s.heap.objs.size+1:=bJt ..
 rw[e];exact hQ _ ((Heap.Ns.new s.heap (.type "dict")).keeps (pushCells_keeps _ _)) (λb o q=>pushCells_keeps _ _ b o (bIi _ q)) ok
structure CScope(X:Cx)(scope:Scope)(is:List Nat):Prop where
 kind:scope.kind=.function
 nd:(scope.names.map (·.1)).Nodup
 free:∀x∈scope.names,x.2=.free->X.env.kindOf x.1=some .cell\/X.env.kindOf x.1=some .free
 own:∀(i:Nat) x,X.N[i]?=some x->(scope.names.lookup x=some .local\/scope.names.lookup x=some .cell)->i∈is
section
variable{X:Cx}{scope:Scope}{is:List Nat}
theorem CScope.names(S:CScope X scope is):∀x∈scope.names,x.2=.local->scope.names.lookup x.1=some .local:=λx hx e=>pA S.nd (by rw[<-e];exact hx)
def cH(X:Cx)(scope:Scope)(C:Addr)(s₀:Shared)(H₀:Hp)(fp:List Addr):Cx:=
 {X with s₀:=s₀,H₀:=H₀,env:=compEnvC scope (cellsFrom (C+1) scope.names (clo X.env.cells scope.names [])) C X.env,outer:=X.stack,stack:=X.stack,ex:=fp,fn:=λx=>scope.names.lookup x==some .cell,pn:=[],xe:=λ_ _=>False,calm:=true}
theorem CScope.cells(S:CScope X scope is)(ok:X.Ok):∀y∈scope.names,y.2=.free->∃c,X.env.cells.lookup y.1=some c:=λy hy hf=>ok.has y.1 (S.free y hy hf)
def CScope.lk(S:CScope X scope is)(ok:X.Ok){n:Nat}{x:Str}{c:Addr}(h:(cellsFrom n scope.names (clo X.env.cells scope.names [])).lookup x=some c) :
  ((cellsFrom n scope.names []).lookup x=some c/\scope.names.lookup x=some .cell)\/(scope.names.lookup x=some .free/\X.env.cells.lookup x=some c):=by
 rw[oY,aH3]at h;cases e:(cellsFrom n scope.names []).lookup x with
 |some c'=>
  rw[e]at h;cases h;rcases wA _ _ _ _ _ (bJo e) with z|z
  .cases z
  .exact .inl ⟨rfl,pA S.nd z⟩
 |none=>
  rw[e]at h;have h:(clo X.env.cells scope.names []).lookup x=some c:=h;rcases aKj scope.names [] x c (S.cells ok) (bJo h) with ⟨h1,h2⟩|h2
  .exact .inr ⟨pA S.nd h1,h2⟩
  .cases h2
def aMn(is:List Nat)(σ:LSt):LSt:=is.foldl (λτ i=>τ.set i none) σ
def aH4(is:List Nat):∀σ:LSt,(aMn is σ).length=σ.length:=by
 induction is with
 |nil=>exact λ_=>rfl
 |cons i is ih=>intro σ;show (aMn is (σ.set i none)).length=_;rw[ih,bJy]
def aX2(is:List Nat):∀(σ:LSt)(j:Nat)(v:V),(aMn is σ)[j]?=some (some v)->σ[j]?=some (some v)/\j∉is:=by
 induction is with
 |nil=>exact λσ j v h=>⟨h,by simp⟩
 |cons i is ih=>
  intro σ j v h;obtain⟨h1,h2⟩:=ih (σ.set i none) j v h;rw[bIp]at h1
  by_cases e:i=j
  .subst e;rw[bIv rfl]at h1;split at h1<;>cases h1
  .rw[bIt e]at h1;exact⟨h1,λz=>(bIq.mp z).elim (λz=>e z.symm) h2⟩
def aP6{s:Shared}{fp:List Addr} (S:CScope X scope is) (hc:X.calm=true) (I:Inv X pins σ H s) (hf:∀b∈fp,aBx X pins H b) (hlt:∀b∈fp,b<s.heap.objs.size)
  (hn:h'.Ns s.heap.objs.size λ_=>none) (hk:∀b o,s.heap.get? b=some o->h'.get? b=some o) (hcl:CellsOk h' (s.heap.objs.size+1) (cellsFrom (s.heap.objs.size+1) scope.names [])) :
  Inv (cH X scope s.heap.objs.size s H fp) [] (aMn is σ) H {s with heap:=h',toks:=t'}:=by
 have lk:=@CScope.lk X scope is S I.ok (s.heap.objs.size+1);have nf:∀b∈fp,b≠s.heap.objs.size:=λb hb=>bJm (hlt b hb)
 have cellLt:∀x c,X.env.cells.lookup x=some c->c<s.heap.objs.size:=λx c e=>by
  obtain⟨v,q⟩:=I.cell x c e;exact q.lt
 have ownGe:∀x c,(cellsFrom (s.heap.objs.size+1) scope.names []).lookup x=some c->s.heap.objs.size+1<=c:=λx c e=>(hcl.empty x c (bJo e)).2
 have has:∀x k,(k=.cell\/k=.free)->scope.names.lookup x=some k->∃c,(cellsFrom (s.heap.objs.size+1) scope.names (clo X.env.cells scope.names [])).lookup x=some c:=λx k hk e=>by
  have hm:=bJo e;rcases hk with rfl|rfl
  .obtain⟨c,q⟩:=oZ scope.names (s.heap.objs.size+1) (clo X.env.cells scope.names []) x (.inl hm);exact uB q
  .obtain⟨c,q⟩:=oZ scope.names (s.heap.objs.size+1) (clo X.env.cells scope.names []) x (.inr (aKk (cells:=X.env.cells) scope.names [] x (.inl hm)));exact uB q
 have knd:∀x,(relabel scope X.env).names.lookup x=some .cell\/(relabel scope X.env).names.lookup x=some .free->scope.names.lookup x=some .cell\/scope.names.lookup x=some .free:=λx hx=>by
  unfold relabel at hx;rw[mK]at hx;cases e:scope.names.lookup x with
  |none=>rw[e]at hx;rcases hx with hx|hx<;>cases hx
  |some k=>
   rw[e]at hx;simp only[map_some]at hx
   by_cases hc:(k==NameKind.free&&X.env.scope.kind == .function&&X.env.kindOf x==some .cell)=true
   .simp only[and_eq_true,beq_iff_eq]at hc;exact .inr (by rw[hc.1.1])
   .rw[bIt hc]at hx;exact hx
 refine⟨⟨I.ok.mod,?_,I.ok.glob,I.ok.blt,bIn _,λx y c h1 h2=>?_,λx hx=>?_,λx c hfn e=>?_,λ_=>I.ok.hd hc,I.ok.frames,.inl rfl,λb hb=>⟨nf b hb,λx c e z=>?_⟩,I.bs,?_,λb o e hb=>?_,λb hb z=>?_,I.stack,I.stkFree⟩,
  rfl,I.bare,Un.kept hk,⟨_,hn,λi x v e1 e2 e3=>?_⟩,λx c e=>?_,I.hok.fresh (bIn _),λx c e=>?_,(λp hp=>absurd (show p∈([]:List (Addr×Obj)) from hp) (by simp)),I.hok.kept hk,by rw[aH4];exact I.len⟩
 .show (relabel scope X.env).kind=.function;exact S.kind
 .rcases lk h1 with ⟨a1,_⟩|⟨_,a1⟩ <;> rcases lk h2 with ⟨a2,_⟩|⟨_,a2⟩
  .exact name_of_addr hcl.apart (bJo a1) (bJo a2)
  .exact absurd (bJ1 (cellLt y c a2) (bNe (ownGe x c a1))) (bJv _)
  .exact absurd (bJ1 (cellLt x c a1) (bNe (ownGe y c a2))) (bJv _)
  .exact I.ok.inj x y c a1 a2
 .rcases knd x hx with e|e
  .exact has x _ (.inl rfl) e
  .exact has x _ (.inr rfl) e
 .have hfn:scope.names.lookup x=some .cell:=bLs.mp hfn;rcases lk e with ⟨a1,_⟩|⟨a1,_⟩
  .have:=ownGe x c a1;show s.heap.objs.size<=c;omega
  .rw[hfn]at a1;cases a1
 .rcases lk e with ⟨a1,_⟩|⟨_,a1⟩
  .have h2:=hlt b hb;rw[<-z]at h2;exact absurd (bJ1 h2 (bNe (ownGe x c a1))) (bJv _)
  .exact(hf b hb).2.2.2.2.1 x c a1 z
 .exact bJj I.ok.bsz I.sz
 .rcases (hf b hb).2.2.2.1 with z|z
  .exact I.ok.noex b o e z
  .exact absurd (bJ1 (bJ2 e) (bJj I.ok.bsz z)) (bJv _)
 .rcases bIq.mp (I.stkSub b z) with z|z
  .exact(hf b hb).2.1 z
  .exact(hf b hb).2.2.1 z
 .obtain⟨e2,hni⟩:=aX2 is σ i v e2;have e3:(relabel scope X.env).names.lookup x=some .local\/(relabel scope X.env).names.lookup x=some .cell\/(relabel scope X.env).names.lookup x=some .free:=e3;have hfr:scope.names.lookup x=some .free:=by
   have e4:=e3;unfold relabel at e4;rw[mK]at e4;cases e:scope.names.lookup x with
   |none=>rw[e]at e4;rcases e4 with e4|e4|e4<;>cases e4
   |some k=>
    rw[e]at e4;simp only[map_some]at e4
    by_cases hc:(k==NameKind.free&&X.env.scope.kind == .function&&X.env.kindOf x==some .cell)=true
    .simp only[and_eq_true,beq_iff_eq]at hc;rw[hc.1.1]
    .rw[bIt hc]at e4;rcases e4 with e4|e4|e4
     .exact absurd (S.own i x e1 (.inl (by rw[e,e4]))) hni
     .exact absurd (S.own i x e1 (.inr (by rw[e,e4]))) hni
     .exact e4
  have hrel:(relabel scope X.env).names.lookup x=some .cell\/(relabel scope X.env).names.lookup x=some .free:=by
   rcases e3 with e3|e3|e3
   .unfold relabel at e3;rw[mK,hfr]at e3;simp only[map_some]at e3;split at e3<;>cases e3
   .exact .inl e3
   .exact .inr e3
  have hvis:=S.free _ (bJo hfr) rfl;obtain⟨m,hm,hl⟩:=I.loc;obtain⟨u,ru,lu⟩:=hl i x v e1 e2 (.inr hvis);refine⟨u,ru,.inr ⟨hrel,?_⟩⟩;rcases lu with ⟨k1,_⟩|⟨_,c,ec,zc⟩
  .have k1:X.env.kindOf x=some .local:=k1;rcases hvis with q|q<;>rw[k1]at q<;>cases q
  .obtain⟨c2,e5⟩:=has x _ (.inr rfl) hfr;rcases lk e5 with ⟨_,a1⟩|⟨_,a1⟩
   .rw[hfr]at a1;cases a1
   .rw[ec]at a1;cases a1;exact⟨c,e5,zc.keeps hk⟩
 .rcases lk e with ⟨a1,_⟩|⟨_,a1⟩
  .exact⟨_,(hcl.empty x c (bJo a1)).1⟩
  .obtain⟨v,q⟩:=I.cell x c a1;exact⟨v,q.keeps hk⟩
 .rcases lk e with ⟨a1,_⟩|⟨_,a1⟩
  .exact I.hok.fresh (by have:=ownGe x c a1;omega)
  .exact I.freeC x c a1
end
def aH5(elt target iter c:Expr)(scope:Scope)(pos:Pos)(it acc:Value)(env:Env) :
  compTurn (.ListComp elt [⟨target,iter,[c],0⟩] scope pos) 0 it acc env=(standAt iter.pos >>= λ_=>pyNext it >>= λr=>match r with
   |none=>pure (.done .next)
   |some v=>letOwnedTupleGo target it v >>= λ_=>assign target env v >>= λ_=>isTrue c env (eval c env) >>= λok=>
    if ok=true then (eval elt env >>= λx=>call (.builtin "list.append") [acc,x] >>= λ_=>again (.compLoop (.ListComp elt [⟨target,iter,[c],0⟩] scope pos) 0 it acc env))
    else again (.compLoop (.ListComp elt [⟨target,iter,[c],0⟩] scope pos) 0 it acc env)):=by
 unfold compTurn;simp[forIn_cons,forIn_nil];rfl
def aFb(elt target iter:Expr)(scope:Scope)(pos:Pos)(it acc:Value)(env:Env) :
  compTurn (.ListComp elt [⟨target,iter,[],0⟩] scope pos) 0 it acc env=(standAt iter.pos >>= λ_=>pyNext it >>= λr=>match r with
   |none=>pure (.done .next)
   |some v=>letOwnedTupleGo target it v >>= λ_=>assign target env v >>= λ_=>
    (eval elt env >>= λx=>call (.builtin "list.append") [acc,x] >>= λ_=>again (.compLoop (.ListComp elt [⟨target,iter,[],0⟩] scope pos) 0 it acc env))):=by
 unfold compTurn;simp[forIn_nil];rfl
section
variable{X:Cx}{scope:Scope}{is:List Nat}{elt tg iter:Expr}{pos:Pos}{wi:TI}{g:TG}{te:TE}{tt:TT}
def tLC(is:List Nat)(wi:TI)(g:TG)(tt:TT)(te:TE):TE:=λσ H Q=>wi σ H λJ H1=>∀p,H1 p=none->∃W:Nat->Nat->LSt->List V->Hp->Prop,(∃m,W 0 m (aMn is σ) [] (upd H1 p (.lst [])))/\
 ∀i m τ vs H,W i m τ vs H->H p=some (.lst vs)/\((J.stop i H/\Q (.ref p) H)\/(J.go i H/\∀x H',J.yld i H x H'->g x τ H' λτ2 H2=>tt τ2 H2 λk H3=>
  if k=true then te τ2 H3 λy H4=>H4 p=some (.lst vs)/\vs.length<sizeLine/\∃m',m' < m/\W (i+1) m' τ2 (vs++[y]) (upd H4 p (.lst (vs++[y]))) else ∃m',m' < m/\W (i+1) m' τ2 vs H3))
def aKl{σ5:LSt}{H5:Hp}{s5:Shared}{fp:List Addr} (I:Inv X pins σ H s) (hf:∀b∈fp,aBx X pins H b) (hC:s.heap.objs.size<=C) (J:Inv (cH X scope C s H fp) [] σ5 H5 s5)
  (hs:Heap.SameBut C s5.heap h'):Inv X pins σ H5 {s5 with heap:=h'}:=by
 have hfree:H5 C=none:=J.free;have ne:∀b o,s.heap.get? b=some o->b≠C:=λb o e z=>by
  have:=bJ2 e;subst z;exact absurd (bJ1 this hC) (bJv _)
 have u:Un (frs X.stack) fp H H5 s.heap h':=⟨λb o e n hb hx=>hs.extBut b o (ne b o e) (J.base.keep b o e n hb hx),λb o e n hb hx=>by
   obtain⟨sl,q⟩:=J.base.slot b o e n hb hx;exact⟨sl,hs.extBut b _ (ne b o e) q⟩,J.base.free,λb o e hx=>by
   obtain⟨o',q⟩:=J.base.there b o e hx;exact⟨o',hs.extBut b _ (ne b o e) q⟩,J.base.tups,J.base.frzs,J.base.tbls⟩
 have hok:HOk X.prog X.w H5 h':=λb o e=>by
  refine(J.hok b o e).stay (λc v hc q=>hs.extBut c v ?_ q) (λ_ q=>q) λ_ _ q=>q
  rintro rfl;rcases hc with z|z
  .subst z;rw[hfree]at e;cases e
  .rw[hfree]at z;cases z
 obtain⟨hh,gg,dd,tt,os⟩:=s5;have hos:os=s.os:=J.os;subst hos;have fin:=I.call (h':=h') (g':=gg) (d':=dd) (t':=tt) (ch:=fp) u hok J.bare λb hb=>⟨(hf b hb).2.2.2.1,(hf b hb).2.1,(hf b hb).2.2.2.2.1,(hf b hb).2.2.2.2.2⟩
 exact fin
def aJ6{p:Addr} {k:Sem α} {Q:α->Shared->Prop} (he:PE Y elt te) (hx:∀e s',Y.xe e s'->E e s') (I:Inv Y pins τ H s) (hw:te τ H λy H4=>H4 p=some (.lst vs)/\vs.length<sizeLine/\∀s',Inv Y pins τ (upd H4 p (.lst (vs++[y]))) s'->wpAny (model Y.prog Y.w) Y.A k Q E s') :
  wpAny (model Y.prog Y.w) Y.A (eval elt Y.env >>= λx=>call (.builtin "list.append") [.ref p,x] >>= λ_=>k) Q E s:=by
 refine bIh (bKf (he pins s τ H _ I hw) (λu s1 ⟨y,H4,I4,r4,hp,hz,q⟩=>?_) hx)
 obtain⟨z,its,n,r,hl,e⟩:=I4.lstM hp;refine bIh (bNb bM1 ⟨_,e,rfl⟩ PySem.F.entry_list_append (bNg _ _) (PySem.list_append p its.toArray n u (by rw[bJ6];omega)) ⟨e,?_⟩)
 refine q _ (I4.lset (its':=its++[u]) (t':=s1.toks) hp e (by simp) (r.append (.cons r4 .nil)) ?_)
 rw[bJ8,bJx];omega
end
def aTb{env:Env}{g:TG} {it p:Addr} {fp:List Addr} {tn:Nat->Heap->Prop} {J:It} {R:Result->Shared->Prop} {iterPos:Pos} {rest:Sem Fin}
  (T:Turn Y.prog Y.w Y.K tg J fp it tn) (hc:Y.calm=true) (hE:Y.xe=λ_ _=>False) (hg:PG Y tg g) (hq:(Code.compLoop e 0 (.ref it) (.ref p) Y.env).quiet=true)
  (hden:∀(s:Shared)(Q:Fin->Shared->Prop),wpAny (model Y.prog Y.w) Y.A (pyNext (.ref it) >>= λr=>match r with
    |none=>pure (.done .next)
    |some v=>letOwnedTupleGo tg (.ref it) v >>= λ_=>assign tg Y.env v >>= λ_=>rest) Q (λ_ _=>False) s->
   wpAny (model Y.prog Y.w) (Y.A.under (.compLoop e 0 (.ref it) (.ref p) Y.env)) ((model Y.prog Y.w).den (.compLoop e 0 (.ref it) (.ref p) Y.env)) Q (λ_ _=>False) s)
  (hrest:∀(τ:LSt)(H:Hp)(s:Shared) (pins:List (Addr×Obj)) (vs:List V) (N:Hp->List V->Prop) (Q:Fin->Shared->Prop),Inv Y pins τ H s->
   (tt τ H λk H3=>if k=true then te τ H3 λy H4=>H4 p=some (.lst vs)/\vs.length<sizeLine/\N (upd H4 p (.lst (vs++[y]))) (vs++[y]) else N H3 vs)->
   (∀s' H' ws,Inv Y pins τ H' s'->N H' ws->Q (.again (.compLoop e 0 (.ref it) (.ref p) Y.env)) s')->wpAny (model Y.prog Y.w) Y.A rest Q (λ_ _=>False) s)
  (W:Nat->Nat->LSt->List V->Hp->Prop) {Qe:Hp->Prop}
  (step:∀i m τ vs H,W i m τ vs H->H p=some (.lst vs)/\((J.stop i H/\Qe H)\/(J.go i H/\∀x H',J.yld i H x H'->g x τ H' λτ2 H2=>tt τ2 H2 λk H3=>
   if k=true then te τ2 H3 λy H4=>H4 p=some (.lst vs)/\vs.length<sizeLine/\∃m',m' < m/\W (i+1) m' τ2 (vs++[y]) (upd H4 p (.lst (vs++[y]))) else ∃m',m' < m/\W (i+1) m' τ2 vs H3)))
  (hR:∀τ H s,Inv Y [] τ H s->Qe H->R (.ok .next) s) (I:Inv Y [] τ H s) (st:tn i s.heap) (fr:∀b∈fp,aBx Y [] H b) (w:W i m τ vs H) :
  codeAny (model Y.prog Y.w) Y.A (.compLoop e 0 (.ref it) (.ref p) Y.env) R s:=by
 have stat:∀{H':Hp},(∀b∈fp,H' b=none)->∀b∈fp,aBx Y [] H' b:=λhn b hb=>⟨hn b hb,(fr b hb).2⟩
 refine codeAny_loop hq (λn s'=>∃i τ' vs' H',Inv Y [] τ' H' s'/\tn i s'.heap/\(∀b∈fp,H' b=none)/\W i n τ' vs' H') (λn s3 hI=>?_) m ⟨i,τ,vs,H,I,st,λb hb=>(fr b hb).1,w⟩
 obtain⟨i,τ3,vs3,H3,I3,st3,fr3,w3⟩:=hI;refine bKf (hden s3 _ ?_) (λ_ _ q=>q) (λ_ _ q=>q.elim)
 obtain⟨hp,hs⟩:=step i n τ3 vs3 H3 w3;rcases hs with ⟨stop,qe⟩|⟨go,hs⟩
 .refine bIh (thn (T.done Y rfl rfl rfl hc i [] s3 τ3 H3 (λ_ _=>False) I3 (stat fr3) st3 stop) λr s4 ⟨hr,I4⟩=>?_)
  subst hr;exact bIx (hR τ3 H3 s4 I4 qe)
 .refine bIh (thn (T.item Y rfl rfl rfl hc i [] s3 τ3 H3 (λ_ _=>False) I3 (stat fr3) st3 go) λr s4 ⟨u,hr,h4⟩=>?_)
  subst hr;refine bIh (thn h4 λ_ s5 ⟨x,H5,I5,r5,y5,st5,fr5⟩=>?_)
  have I5':=I5.pinned (stat fr5) (T.obj _ _ st5);have hg':=hg _ s5 τ3 H5 x u _ I5' r5 (hs x H5 y5);rw[hE]at hg';refine bIh (thn hg' λ_ s6 ⟨τ6,H6,I6,q6⟩=>?_)
  refine hrest τ6 H6 s6 _ vs3 (λH' ws=>∃m',m' < n/\W (i+1) m' τ6 ws H') _ I6 q6 λs7 H7 ws I7 ⟨m',hm,w7⟩=>?_
  refine⟨rfl,m',hm,i+1,τ6,ws,H7,I7.unpinned,T.keep _ _ _ st5 λb hb o e=>(I7.pin (b,o) (bIo _ (bIo _ (vI hb e)))).1,λb hb=>?_,w7⟩
  obtain⟨o,e,d⟩:=T.obj _ _ st5 b hb;exact(I7.pin (b,o) (bIo _ (bIo _ (vI hb e)))).2.1
section
variable{X:Cx}{scope:Scope}{is:List Nat}{elt tg iter c:Expr}{pos:Pos}{wi:TI}{g:TG}{te:TE}{tt:TT}
def vC{use:Option (Value->Sem Unit)} {ppos:Pos} {pins:List (Addr×Obj)} {s:Shared} {H:Hp} {Q:VK} {ifs:List Expr} {rest:Env->Value->Value->Sem Fin} (S:CScope X scope is) (hc:X.calm=true) (hi:L2.PI X tg iter wi) (hg:∀C s₀ H₀ fp,PG (cH X scope C s₀ H₀ fp) tg g)
  (hquiet:∀it acc env,(Code.compLoop (.ListComp elt [⟨tg,iter,ifs,0⟩] scope pos) 0 it acc env).quiet=true)
  (hden:∀C s₀ H₀ fp it p (s:Shared) (Q:Fin->Shared->Prop),wpAny (model X.prog X.w) X.A (pyNext (.ref it) >>= λr=>match r with
    |none=>pure (.done .next)
    |some v=>letOwnedTupleGo tg (.ref it) v >>= λ_=>assign tg (cH X scope C s₀ H₀ fp).env v >>= λ_=>rest (cH X scope C s₀ H₀ fp).env (.ref it) (.ref p)) Q (λ_ _=>False) s->
   wpAny (model X.prog X.w) (X.A.under (.compLoop (.ListComp elt [⟨tg,iter,ifs,0⟩] scope pos) 0 (.ref it) (.ref p) (cH X scope C s₀ H₀ fp).env)) ((model X.prog X.w).den (.compLoop (.ListComp elt [⟨tg,iter,ifs,0⟩] scope pos) 0 (.ref it) (.ref p) (cH X scope C s₀ H₀ fp).env)) Q (λ_ _=>False) s)
  (hrest:∀C s₀ H₀ fp it p (τ:LSt) (H:Hp) (s:Shared) (pins:List (Addr×Obj)) (vs:List V) (N:Hp->List V->Prop) (Q:Fin->Shared->Prop),Inv (cH X scope C s₀ H₀ fp) pins τ H s->
   (tt τ H λk H3=>if k=true then te τ H3 λy H4=>H4 p=some (.lst vs)/\vs.length<sizeLine/\N (upd H4 p (.lst (vs++[y]))) (vs++[y]) else N H3 vs)->
   (∀s' H' ws,Inv (cH X scope C s₀ H₀ fp) pins τ H' s'->N H' ws->Q (.again (.compLoop (.ListComp elt [⟨tg,iter,ifs,0⟩] scope pos) 0 (.ref it) (.ref p) (cH X scope C s₀ H₀ fp).env)) s')->
   wpAny (model X.prog X.w) X.A (rest (cH X scope C s₀ H₀ fp).env (.ref it) (.ref p)) Q (λ_ _=>False) s)
  (hs:∀x,foldedSetIterable iter X.env x=pure x) (I:Inv X pins σ H s) (h:tLC is wi g tt te σ H Q)
  (hfin:∀C p H5 s5 m5 s3 H3 fp τ,s3.heap.objs.size<=C->Inv X pins σ H3 s3->(∀b∈fp,aBx X pins H3 b)->Inv (cH X scope C s3 H3 fp) [] τ H5 s5->s5.heap.Ns C m5->Q (.ref p) H5->compPost (model X.prog X.w) X.A X.xe use Qf (.ref p) C (.ok .next) s5) :
  wpAny (model X.prog X.w) X.A (comprehension (.ListComp elt [⟨tg,iter,ifs,0⟩] scope pos) scope X.env ppos (newList []) false (eval iter X.env) use) Qf X.xe s:=by
 refine wpAny_comprehension_free (use:=use) rfl hs (aI0 (S.cells I.ok)) S.kind S.names ?_
 refine thn (hi pins s σ H _ I h) λv s1 h1=>thn h1 λitv s2 h2=>?_
 obtain⟨it,fp,tn,J,H2,e,I2,T,st2,f2,hW⟩:=h2;subst e;refine wpAny_newObj_type (aTa λh₁ hns₁ hkp hcl₁=>?_)
 have I3:Inv X pins σ (upd H2 s2.heap.objs.size (.lst [])) {s2 with heap:=s2.heap.push {cls:=.type "list",data:=.seq ([]:List Value).toArray} }:=I2.lnew (t':=s2.toks) .nil (bK6 _)
 obtain⟨W,⟨m,w0⟩,step⟩:=hW s2.heap.objs.size I2.fresh;have hob:∀b∈fp,b<s2.heap.objs.size:=λb hb=>let ⟨o,e,_⟩:=T.obj 0 _ st2 b hb;bJ2 e
 have hfp:∀b∈fp,aBx X pins (upd H2 s2.heap.objs.size (.lst [])) b:=λb hb=>⟨by rw[aY (bJm (hob b hb))];exact(f2 b hb).1,(f2 b hb).2⟩
 have hk:∀b o,(s2.heap.push {cls:=.type "list",data:=.seq ([]:List Value).toArray}).get? b=some o->h₁.get? b=some o:=hkp;have Ic:=aP6 (t':=s2.toks) S hc I3 hfp (λb hb=>bJ1 (hob b hb) (by rw[bJt];exact Nat.le_succ _)) hns₁ hk hcl₁
 have st4:tn 0 h₁:=T.keep 0 _ _ st2 λb _ o e=>hk b o (bIi _ e)
 have fr4:∀b∈fp,aBx (cH X scope _ _ _ fp) [] (upd H2 s2.heap.objs.size (.lst [])) b:=λb hb=>⟨(hfp b hb).1,(Ic.ok.exf b hb).1,Ic.ok.exfs b hb,.inl hb,λx c e=>(Ic.ok.exf b hb).2 x c e,λp hp=>absurd (show p∈([]:List (Addr×Obj)) from hp) (by simp)⟩
 have loop:=aTb (Y:=cH X scope _ _ _ fp) (e:=.ListComp elt [⟨tg,iter,ifs,0⟩] scope pos) (env:=X.env) (iterPos:=pos) T rfl rfl (hg _ _ _ fp) (hquiet _ _ _) (hden _ _ _ fp it s2.heap.objs.size) (hrest _ _ _ fp it s2.heap.objs.size) W step
  (R:=compPost (model X.prog X.w) X.A X.xe use Qf (.ref s2.heap.objs.size) (s2.heap.push {cls:=.type "list",data:=.seq ([]:List Value).toArray}).objs.size) (λτ H5 s5 I5 q5=>by
   obtain⟨m5,hn5,_⟩:=I5.loc;exact hfin _ _ H5 s5 m5 _ _ fp τ (bIn _) I3 hfp I5 hn5 q5) Ic st4 fr4 w0
 exact codeAny_compStart_list loop (T.self _ 0 _ _ _ st4 loop)
def rE{it acc:Value}:(Code.compLoop e 0 it acc env).quiet=true:=rfl
def bGq {it p : Addr}  {Q : Fin -> Shared -> Prop} (h : wpAny (model X.prog X.w) X.A (pyNext (.ref it) >>= fun r => match r with
        |none=>pure (.done .next)
        |some v=>letOwnedTupleGo tg (.ref it) v >>= λ_=>assign tg Y.env v >>= λ_=>(eval elt Y.env >>= λx=>call (.builtin "list.append") [.ref p,x] >>= λ_=>again (.compLoop (.ListComp elt [⟨tg,iter,[],0⟩] scope pos) 0 (.ref it) (.ref p) Y.env))) Q (λ_ _=>False) s) :
      wpAny (model X.prog X.w) (X.A.under (.compLoop (.ListComp elt [⟨tg,iter,[],0⟩] scope pos) 0 (.ref it) (.ref p) Y.env)) ((model X.prog X.w).den (.compLoop (.ListComp elt [⟨tg,iter,[],0⟩] scope pos) 0 (.ref it) (.ref p) Y.env)) Q (λ_ _=>False) s:=by
 show wpAny _ _ ((compTurn (.ListComp elt [⟨tg,iter,[],0⟩] scope pos) 0 (.ref it) (.ref p) Y.env).onRaise (λx=>do noteFrame x Y.env;theTreesLotGoes x)) _ _ s
 refine wpAny_noted ?_
 rw[aFb];exact bIh (bLg (bKf h (λ_ _ q=>q) λ_ _ q=>q.elim))
def bE2 {it p : Addr}  {Q : Fin -> Shared -> Prop} (h : wpAny (model X.prog X.w) X.A (pyNext (.ref it) >>= fun r => match r with
        |none=>pure (.done .next)
        |some v=>letOwnedTupleGo tg (.ref it) v >>= λ_=>assign tg Y.env v >>= λ_=>(isTrue c Y.env (eval c Y.env) >>= λok=>if ok=true then (eval elt Y.env >>= λx=>call (.builtin "list.append") [.ref p,x] >>= λ_=>again (.compLoop (.ListComp elt [⟨tg,iter,[c],0⟩] scope pos) 0 (.ref it) (.ref p) Y.env))
          else again (.compLoop (.ListComp elt [⟨tg,iter,[c],0⟩] scope pos) 0 (.ref it) (.ref p) Y.env))) Q (λ_ _=>False) s) :
      wpAny (model X.prog X.w) (X.A.under (.compLoop (.ListComp elt [⟨tg,iter,[c],0⟩] scope pos) 0 (.ref it) (.ref p) Y.env)) ((model X.prog X.w).den (.compLoop (.ListComp elt [⟨tg,iter,[c],0⟩] scope pos) 0 (.ref it) (.ref p) Y.env)) Q (λ_ _=>False) s:=by
 show wpAny _ _ ((compTurn (.ListComp elt [⟨tg,iter,[c],0⟩] scope pos) 0 (.ref it) (.ref p) Y.env).onRaise (λx=>do noteFrame x Y.env;theTreesLotGoes x)) _ _ s
 refine wpAny_noted ?_
 rw[aH5];exact bIh (bLg (bKf h (λ_ _ q=>q) λ_ _ q=>q.elim))
def aKm:TT:=λ_ H Q=>Q true H
def bBy(hY:Y.xe=λ_ _=>False)(he:PE Y elt te){it p:Addr}(τ:LSt)(H:Hp)(s:Shared)(pins:List (Addr×Obj))(vs:List V)(N:Hp->List V->Prop)(Q:Fin->Shared->Prop)(I:Inv Y pins τ H s)
  (h:aKm τ H λk H3=>if k=true then te τ H3 λy H4=>H4 p=some (.lst vs)/\vs.length<sizeLine/\N (upd H4 p (.lst (vs++[y]))) (vs++[y]) else N H3 vs)
  (mono:∀(Q Q':VK),(∀v H',Q v H'->Q' v H')->te τ H Q->te τ H Q')
  (q:∀s' H' ws,Inv Y pins τ H' s'->N H' ws->Q (.again (.compLoop (.ListComp elt [⟨tg,iter,[],0⟩] scope pos) 0 (.ref it) (.ref p) Y.env)) s') :
  wpAny (model Y.prog Y.w) Y.A (eval elt Y.env >>= λx=>call (.builtin "list.append") [.ref p,x] >>= λ_=>again (.compLoop (.ListComp elt [⟨tg,iter,[],0⟩] scope pos) 0 (.ref it) (.ref p) Y.env)) Q (λ_ _=>False) s:=by
 have h':te τ H λy H4=>H4 p=some (.lst vs)/\vs.length<sizeLine/\N (upd H4 p (.lst (vs++[y]))) (vs++[y]):=h
 exact aJ6 he (by rw[hY];exact λ_ _ z=>z) I (mono _ _ (λy H4 ⟨a,b,n⟩=>⟨a,b,λs' I'=>bIx (q s' _ _ I' n)⟩) h')
end
section
variable{K:Frag} {st:PSt}
def bAf(is:List Nat):∀st:PSt,(clr is st).length=st.length:=by
 induction is with
 |nil=>exact λ_=>rfl
 |cons i is ih=>intro st;show (clr is (st.set i none)).length=_;rw[ih,bJy]
def aFo(is:List Nat):∀(st:PSt)(j:Nat)(x:Sl),(clr is st)[j]?=some (some x)->st[j]?=some (some x)/\j∉is:=by
 induction is with
 |nil=>exact λσ j v h=>⟨h,by simp⟩
 |cons i is ih=>
  intro σ j v h;obtain⟨h1,h2⟩:=ih (σ.set i none) j v h;rw[bIp]at h1
  by_cases e:i=j
  .subst e;rw[bIv rfl]at h1;split at h1<;>cases h1
  .rw[bIt e]at h1;exact⟨h1,λz=>(bIq.mp z).elim (λz=>e z.symm) h2⟩
def aH6(is:List Nat):∀(σ:LSt)(j:Nat),j∉is->(aMn is σ)[j]?=σ[j]?:=by
 induction is with
 |nil=>exact λσ j _=>rfl
 |cons i is ih=>
  intro σ j h;show (aMn is (σ.set i none))[j]?=_;rw[ih _ j λz=>h (bIl _ z),bIp,bIt (show ¬ i=j from λz=>h (z ▸ bIm))]
theorem RS.clr(is:List Nat)(r:RS K B A H st σ):RS K B A H (Pu.clr is st) (aMn is σ) where
 len:=by rw[bAf,aH4,r.len]
 own:=r.own
 dis:=r.dis
 val:=λi d e=>by
  obtain⟨e1,h⟩:=aFo is st i _ e;rw[aH6 is σ i h];exact r.val i d e1
 lst:=λi kk xs e=>by
  obtain⟨e1,h⟩:=aFo is st i _ e;obtain⟨a,o,vs,e2,m,h1,ko,q,u⟩:=r.lst i kk xs e1;refine⟨a,o,vs,by rw[aH6 is σ i h];exact e2,m,h1,ko,q,λj k' ys ej ej2=>?_⟩
  obtain⟨e3,h3⟩:=aFo is st j _ ej;rw[aH6 is σ j h3]at ej2;exact u j k' ys e3 ej2
def RS.weaken(r:RS K B A H st σ)(hl:st'.length=st.length)(h:∀(j:Nat)(x:Sl),st'[j]?=some (some x)->st[j]?=some (some x)):RS K B A H st' σ where
 len:=hl.trans r.len
 own:=r.own
 dis:=r.dis
 val:=λi d e=>r.val i d (h i _ e)
 lst:=λi kk xs e=>by
  obtain⟨a,o,vs,e2,m,h1,ko,q,u⟩:=r.lst i kk xs (h i _ e);exact⟨a,o,vs,e2,m,h1,ko,q,λj k' ys ej ej2=>u j k' ys (h j _ ej) ej2⟩
def mem_mid{p b:Addr}:b∈A++p::B↔b=p\/b∈A++B:=by
 simp only[List.mem_append,mem_cons];constructor
 .rintro(h|h|h)
  .exact .inr (.inl h)
  .exact .inl h
  .exact .inr (.inr h)
 .rintro(h|h|h)
  .exact .inr (.inl h)
  .exact .inl h
  .exact .inr (.inr h)
def aMo{p:Addr} (hp:H p=none):bC (hide (A++B) H) (hide (A++p::B) (upd H p o)):=λb u q=>by
 have q1:=bI _ _ _ _ q;have hb:b∉A++B:=λz=>by rw[eU z]at q;cases q
 have ne:b≠p:=aX q1 hp;rw[bZ (show b∉A++p::B from λz=>(mem_mid.mp z).elim ne hb),aY ne]
 exact q1
def RS.grow(r:RS K B A H st σ){p:Addr} (hp:H p=none):RS K (p::B) A (upd H p (.lst vs)) st σ where
 len:=r.len
 own:=λa ha=>by
  by_cases e:a=p
  .subst e;rw[bJ];rfl
  .rw[aY e];exact r.own a ((mem_mid.mp ha).resolve_left e)
 dis:=λa ha hb=>by
  rcases bIq.mp hb with rfl|hb
  .exact r.own.free hp (bIw _ ha)
  .exact r.dis a ha hb
 val:=λj d' e=>let ⟨u,e1,q⟩:=r.val j d' e;⟨u,e1,q.mono (aMo hp)⟩
 lst:=λj kk xs e=>by
  obtain⟨a,o,vs',e1,m,h1,ko,q,u⟩:=r.lst j kk xs e;exact⟨a,o,vs',e1,m,by rw[aY (aX h1 hp)];exact h1,ko,q.mono (aMo hp),u⟩
def RS.put{p:Addr}(r:RS K (p::B) A H st σ):RS K (p::B) A (upd H p (.lst vs)) st σ:=by
 have hh:hide (A++p::B) (upd H p (.lst vs))=hide (A++p::B) H:=mH (mem_mid.mpr (.inl rfl));refine⟨r.len,λb hb=>?_,r.dis,λj d e=>by rw[hh];exact r.val j d e,λj kk xs e=>?_⟩
 .by_cases e:b=p
  .subst e;rw[bJ];rfl
  .rw[aY e];exact r.own b hb
 .obtain⟨a,o,vs',e1,m,h1,ko,q,u⟩:=r.lst j kk xs e;refine⟨a,o,vs',e1,m,?_,ko,by rw[hh];exact q,u⟩
  have:a≠p:=λz=>r.dis a m (z ▸ bIm)
  rw[aY this];exact h1
end
def aJ7(is:List Nat)(t:Tg):Prop:=∀d st s2,t d st=.ok s2->s2.length=st.length/\∀(j:Nat),j∉is->s2[j]?=st[j]?
def gQ:aJ7 [i] (tgN i):=λd st s2 h=>by
 cases h;refine⟨bJy,λj hj=>?_⟩
 rw[bIp,bIt λz=>hj (by simp[z])]
def ndB:List Str->Bool
 |[]=>true
 |x::r=>!r.contains x&&ndB r
theorem bBz:∀{l:List Str},ndB l=true->l.Nodup
 |[],_=>.nil
 |x::r,h=>by
  unfold ndB at h;simp only[and_eq_true,Bool.not_eq_true']at h;exact bK2.mpr ⟨λz=>by rw[List.contains_iff_mem.mpr z]at h;exact Bool.noConfusion h.1,bBz h.2⟩
def bGr(scope:Scope)(outer:List (Str×NameKind))(N:List Str)(is:List Nat):Bool:=
 scope.kind == .function&&ndB (scope.names.map (·.1))&&scope.names.all (λx=>x.2 !=.free||outer.lookup x.1==some .cell||outer.lookup x.1==some .free) &&
  (List.range N.length).all λi=>(scope.names.lookup (N.getD i "") !=some .local&&scope.names.lookup (N.getD i "") !=some .cell)||is.contains i
def CScope.of{is:List Nat}(h:bGr scope X.env.scope.names X.N is=true):CScope X scope is:=by
 unfold bGr at h;simp only[and_eq_true,List.all_eq_true]at h;obtain⟨⟨⟨h1,h0⟩,h2⟩,h3⟩:=h;refine⟨by simpa using h1,bBz h0,λx hx hf=>?_,λi x e hl=>?_⟩
 .have:=h2 x hx;simp only[or_eq_true,bne_iff_ne,ne_eq,beq_iff_eq]at this;rcases this with (z|z)|z
  .exact absurd hf z
  .exact .inl z
  .exact .inr z
 .have hi:i<X.N.length:=(bIk.mp e).1;have:=h3 i (bJp.mpr hi);rw[bJq,e]at this;simp only[getD_some,or_eq_true,and_eq_true,bne_iff_ne,ne_eq]at this;rcases this with ⟨z1,z2⟩|z
  .rcases hl with hl|hl
   .exact absurd hl z1
   .exact absurd hl z2
  .simpa using z
def bAg{K:Frag} (Q Q':VK) (m:∀v H',Q v H'->Q' v H') (h:tI K B f τ H Q):tI K B f τ H Q':=
 let ⟨A,st,d,rs,hd,q⟩:=h;⟨A,st,d,rs,hd,λv H' s r=>m v H' (q v H' s r)⟩
def tIx(K:Frag)(f:Ex):TE:=λτ H Q=>∃B,tI K B f τ H Q
def tTx(K:Frag)(f:Ex):TT:=λτ H Q=>∃B,tT K B f τ H Q
def tGx(K:Frag)(t:Tg):TG:=λv τ H Q=>∃B,tG K B t v τ H Q
def bAh(h:∀B,PE X e (tI X.K B f)):PE X e (tIx X.K f):=λpins s σ H Q I ⟨B,q⟩=>h B pins s σ H Q I q
def bGs(h:∀B,PT X e (tT X.K B f)):PT X e (tTx X.K f):=λpins s σ H Q I ⟨B,q⟩=>h B pins s σ H Q I q
def bAi{t:Tg}(h:∀B,PG X e (tG X.K B t)):PG X e (tGx X.K t):=λpins s σ H v u Q I r ⟨B,q⟩=>h B pins s σ H v u Q I r q
def aCm{K:Frag} (Q Q':VK) (m:∀v H',Q v H'->Q' v H') (h:tIx K f τ H Q):tIx K f τ H Q':=let ⟨B,q⟩:=h;⟨B,bAg Q Q' m q⟩
def aRf{K:Frag} {is:List Nat} {t:Tg} {c:Ex} {H:Hp} (hsub:aJ7 is t)
  (htt:∀τ H Q,tTx K c τ H Q->tt τ H Q) {st:PSt} (rs:RS K B A H st σ) (hx:it st=.ok xs) (hl:xs.length<=big) (hy:iI t c f (clr is st) xs=.ok ys) {Q:VK}
  (q:∀p vs H1 H',bC H H1->H1 p=none->bC H1 H'->H' p=some (.lst vs)->bD K (hide (A++p::B) H') ys vs->Q (.ref p) H'):tLC is (tIt K B it) (tGx K t) tt (tIx K f) σ H Q:=by
 refine⟨A,st,xs,rs,hx,λJ H1 s1 ito p hp=>?_⟩
 have rs1:=rs.mono s1;refine⟨λi m τ vs H'=>m=xs.length-i/\i<=xs.length/\vs.length<=i/\H' p=some (.lst vs)/\bC H1 H'/\RS K (p::B) A H' (clr is st) τ/\
   ∃ds rest,bD K (hide (A++p::B) H') ds vs/\iI t c f (clr is st) (xs.drop i)=.ok rest/\ds++rest=ys,⟨xs.length,by simp,bK6 _,bK6 _,bJ,cV hp,(rs1.clr is).grow hp,[],ys,.nil,by rw[drop_zero];exact hy,rfl⟩,?_⟩
 rintro i m τ vs H' ⟨rfl,hi,hvl,hpv,s2,rs2,ds,rest,rds,hr,hcat⟩;refine⟨hpv,?_⟩;have mv:∀a,a∈(p::A)++B↔a∈A++p::B:=λa=>by
  rw[mem_mid];exact bIq
 have le:Le A H1 (p::A) H':=λb u z=>by
  have z1:=bI _ _ _ _ z;have hb:b∉A:=λw=>by rw[eU w]at z;cases z
  have ne:b≠p:=aX z1 hp;rw[bZ (show b∉p::A from λw=>(bIq.mp w).elim ne hb)]
  exact s2 b u z1
 obtain⟨i1,i2⟩:=ito (p::A) H' le (λa ha=>rs2.own a ((mv a).mp ha)) i
 by_cases hlt:i<xs.length
 .have hd':xs[i]?=some xs[i]:=bIj hlt;obtain⟨go,yl⟩:=i1 _ hd';rw[bKd hlt]at hr;obtain⟨st2,hst2,h5⟩:=R.ok_of hr;obtain⟨cb,hcb,h6⟩:=R.ok_of h5;obtain⟨k,rfl,h7⟩:=pP h6;refine .inr ⟨go,λx H2 y=>?_⟩
  obtain⟨sm3,rx⟩:=yl x H2 y;have hpv:=sm3 _ _ hpv;have s2:=s2.trans sm3;have rs2:=rs2.mono sm3;have rds:=rds.mono (bC.hide sm3);have rx':Rep K (hide (A++p::B) H2) xs[i] x:=rx.mono (jZ λa ha=>(mv a).mpr ha)
  obtain⟨sl,sg⟩:=hsub _ _ _ hst2;have back:∀(j:Nat)(z:Sl),(clr is st)[j]?=some (some z)->st2[j]?=some (some z):=λj z ez=>by rw[sg j (aFo is st j z ez).2];exact ez
  refine⟨p::B,A,clr is st,xs[i],st2,rs2,rx',hst2,λτ2 rs3=>htt _ _ _ ⟨p::B,A,st2,k,rs3,hcb,λH3 s3=>?_⟩⟩
  cases k with
  |true=>
   obtain⟨y',hy',h8⟩:=R.ok_of h7;obtain⟨rest',hrest',h9⟩:=R.ok_of h8;cases h9;refine⟨p::B,A,st2,y',rs3.mono s3,hy',λv H4 s4 r4=>⟨s4 _ _ (s3 _ _ hpv),?_,xs.length-(i+1),by omega,rfl,hlt,by rw[bJ8,bJx];omega,bJ,?_,?_,ds++[y'],rest',?_,hrest',by rw[bKa];exact hcat⟩⟩
   .have:sizeLine=16777216:=by decide
    have hbg:=nG;omega
   .exact λb u z=>by rw[aY (aX z hp)];exact s4 _ _ (s3 _ _ (s2 b u z))
   .exact(((rs3.mono s3).mono s4).weaken (by rw[sl]) back).put
   .rw[mH (mem_mid.mpr (.inl rfl))];exact(rds.mono (bC.hide (s3.trans s4))).append (.cons r4 .nil)
  |false=>exact⟨xs.length-(i+1),by omega,rfl,hlt,by omega,s3 _ _ hpv,s2.trans s3,(rs3.mono s3).weaken (by rw[sl]) back,ds,rest,rds.mono (bC.hide s3),h7,hcat⟩
 .have e:i=xs.length:=by omega
  subst e;rw[bNs]at hr;cases hr;rw[bKi]at hcat;subst hcat;exact .inl ⟨i2 (bIn _),q p vs H1 H' s1 hp s2 hpv rds⟩
section
variable {iter c:Expr} {t:Tg} {u:Ex}
def aX3(hY:Y.xe=λ_ _=>False)(he:PE Y elt te)(ht:PT Y c tt){it p:Addr}(τ:LSt)(H:Hp)(s:Shared)(pins:List (Addr×Obj))(vs:List V)(N:Hp->List V->Prop)(Q:Fin->Shared->Prop)(I:Inv Y pins τ H s)
  (h:tt τ H λk H3=>if k=true then te τ H3 λy H4=>H4 p=some (.lst vs)/\vs.length<sizeLine/\N (upd H4 p (.lst (vs++[y]))) (vs++[y]) else N H3 vs)
  (mono:∀H (Q Q':VK),(∀v H',Q v H'->Q' v H')->te τ H Q->te τ H Q')
  (q:∀s' H' ws,Inv Y pins τ H' s'->N H' ws->Q (.again (.compLoop (.ListComp elt [⟨tg,iter,[c],0⟩] scope pos) 0 (.ref it) (.ref p) Y.env)) s') :
  wpAny (model Y.prog Y.w) Y.A (isTrue c Y.env (eval c Y.env) >>= fun ok => if ok = true then (eval elt Y.env >>= fun x => call (.builtin "list.append") [.ref p, x] >>= fun _ => again (.compLoop (.ListComp elt [⟨tg, iter, [c], 0⟩] scope pos) 0 (.ref it) (.ref p) Y.env))
        else again (.compLoop (.ListComp elt [⟨tg,iter,[c],0⟩] scope pos) 0 (.ref it) (.ref p) Y.env)) Q (λ_ _=>False) s:=by
 have ht':=ht pins s τ H _ I h;rw[hY]at ht';refine bIh (thn ht' λk s1 ⟨H1,I1,q1⟩=>?_)
 cases k with
 |true=>
  rw[bIv rfl];have q1:te τ H1 λy H4=>H4 p=some (.lst vs)/\vs.length<sizeLine/\N (upd H4 p (.lst (vs++[y]))) (vs++[y]):=q1
  exact aJ6 he (by rw[hY];exact λ_ _ z=>z) I1 (mono _ _ _ (λy H4 ⟨a,b,n⟩=>⟨a,b,λs' I'=>bIx (q s' _ _ I' n)⟩) q1)
 |false=>
  rw[bIt bJn];exact bIx (q s1 H1 vs I1 q1)
def aP7{Q:VK}{st:PSt} {p:Addr} {H':Hp} (rs:RS X.K B A H st σ) (q:∀v H',bC H H'->Rep X.K (hide (A++B) H') (.lst ys) v->Q v H') (s1:bC H H1) (hp:H1 p=none) (s2:bC H1 H')
  (hv:H' p=some (.lst vs)) (r:bD X.K (hide (A++p::B) H') ys vs):Q (.ref p) H':=
 q _ H' (s1.trans s2) (eN.mpr ⟨p,vs,rfl,(by rw[bZ ((rs.own.mono s1).free hp)];exact hv),r.mono (jZ λa ha=>mem_mid.mpr (.inr ha))⟩)
def rF(is:List Nat)(hsub:aJ7 is t)(S:CScope X scope is)(hi:L2.PI X tg iter (tIt X.K B it))(hg:∀(B:List Addr)(C:Addr)(s₀:Shared)(H₀:Hp)(fp:List Addr),PG (cH X scope C s₀ H₀ fp) tg (tG X.K B t))
  (he:∀(B:List Addr)(C:Addr)(s₀:Shared)(H₀:Hp)(fp:List Addr),PE (cH X scope C s₀ H₀ fp) elt (tI X.K B f)) (hc:X.calm=true) (hs:∀x,foldedSetIterable iter X.env x=pure x:=by intro _;rfl) :
  PE X (.ListComp elt [⟨tg,iter,[],0⟩] scope pos) (tI X.K B (cC is t it dM f)):=by
 intro pins s σ H Q I h;obtain⟨A,st,d,rs,hd,q⟩:=h;obtain⟨xs,hx,h2⟩:=R.ok_of hd;obtain⟨hl,h3⟩:=aK h2;obtain⟨ys,hy,h4⟩:=R.ok_of h3;cases h4;rw[eval_ListComp];refine vC (use:=none) (Qf:=EP X pins σ Q) (Q:=Q) (tt:=aKm) (te:=tIx X.K f) (rest:=λenv it p=>eval elt env >>= λx=>call (.builtin "list.append") [p,x] >>= λ_=>again (.compLoop (.ListComp elt [⟨tg,iter,[],0⟩] scope pos) 0 it p env)) S hc hi (λC s₀ H₀ fp=>bAi λB=>hg B C s₀ H₀ fp) (λ_ _ _=>rE)
  (λC s₀ H₀ fp it p s Q h=>bGq (Y:=cH X scope C s₀ H₀ fp) h) (λC s₀ H₀ fp it p τ H s pins vs N Q I h q=>bBy (Y:=cH X scope C s₀ H₀ fp) rfl (bAh λB=>he B C s₀ H₀ fp) τ H s pins vs N Q I h (λQ Q' m h=>aCm Q Q' m h) q) hs I
  (aRf hsub (λτ H Q ⟨B,A,st,k,rs,hk,q⟩=>?_) rs hx hl hy λp vs H1 H' s1 hp s2 hv r=>aP7 rs q s1 hp s2 hv r) λC p H5 s5 m5 s3 H3 fp τ hC I3 hfp I5 hn5 q5=>⟨m5,hn5,λh' hs'=>⟨.ref p,H5,aKl I3 hfp hC I5 hs',rfl,q5⟩⟩
 cases hk;exact q H (bC.refl _)
def jK(is:List Nat)(hsub:aJ7 is t)(S:CScope X scope is)(hi:L2.PI X tg iter (tIt X.K B it))(hg:∀(B:List Addr)(C:Addr)(s₀:Shared)(H₀:Hp)(fp:List Addr),PG (cH X scope C s₀ H₀ fp) tg (tG X.K B t))
  (ht:∀(B:List Addr)(C:Addr)(s₀:Shared)(H₀:Hp)(fp:List Addr),PT (cH X scope C s₀ H₀ fp) c (tT X.K B u))
  (he:∀(B:List Addr)(C:Addr)(s₀:Shared)(H₀:Hp)(fp:List Addr),PE (cH X scope C s₀ H₀ fp) elt (tI X.K B f)) (hc:X.calm=true) (hs:∀x,foldedSetIterable iter X.env x=pure x:=by intro _;rfl) :
  PE X (.ListComp elt [⟨tg,iter,[c],0⟩] scope pos) (tI X.K B (cC is t it u f)):=by
 intro pins s σ H Q I h;obtain⟨A,st,d,rs,hd,q⟩:=h;obtain⟨xs,hx,h2⟩:=R.ok_of hd;obtain⟨hl,h3⟩:=aK h2;obtain⟨ys,hy,h4⟩:=R.ok_of h3;cases h4;rw[eval_ListComp];exact vC (use:=none) (Qf:=EP X pins σ Q) (Q:=Q) (tt:=tTx X.K u) (te:=tIx X.K f) (rest:=λenv it p=>isTrue c env (eval c env) >>= λok=>if ok=true then (eval elt env >>= λx=>call (.builtin "list.append") [p,x] >>= λ_=>again (.compLoop (.ListComp elt [⟨tg,iter,[c],0⟩] scope pos) 0 it p env)) else again (.compLoop (.ListComp elt [⟨tg,iter,[c],0⟩] scope pos) 0 it p env)) S hc hi (λC s₀ H₀ fp=>bAi λB=>hg B C s₀ H₀ fp) (λ_ _ _=>rE)
  (λC s₀ H₀ fp it p s Q h=>bE2 (Y:=cH X scope C s₀ H₀ fp) h) (λC s₀ H₀ fp it p τ H s pins vs N Q I h q=>aX3 (Y:=cH X scope C s₀ H₀ fp) rfl (bAh λB=>he B C s₀ H₀ fp) (bGs λB=>ht B C s₀ H₀ fp) τ H s pins vs N Q I h (λ_ Q Q' m h=>aCm Q Q' m h) q) hs I
  (aRf hsub (λτ H Q h=>h) rs hx hl hy λp vs H1 H' s1 hp s2 hv r=>aP7 rs q s1 hp s2 hv r) λC p H5 s5 m5 s3 H3 fp τ hC I3 hfp I5 hn5 q5=>⟨m5,hn5,λh' hs'=>⟨.ref p,H5,aKl I3 hfp hC I5 hs',rfl,q5⟩⟩
end
end Pu
namespace Pu
open PySem PySem.Spec PyProof.Rows L2 PySem.SeqAt
section
variable{X:Cx}{pins:List (Addr×Obj)}{σ:LSt}{H:Hp}{s:Shared}
def aRg(I:Inv X pins σ H s){a:Addr}{xs ys:List V}(h1:SqL X.K H a xs)(h2:SqT X.K H a ys):False:=by
 obtain⟨its,_,⟨o,n,e,hc,_⟩,_⟩:=I.list h1;obtain⟨its2,_,⟨o2,e2,hc2,_⟩,_⟩:=I.tuple h2;rw[e]at e2;cases e2;rw[hc]at hc2;simp at hc2
mutual
theorem Rep.inj(I:Inv X pins σ H s):∀{x y:D}{v:V},plain x=true->plain y=true->Rep X.K H x v->Rep X.K H y v->x=y
 |x,y,v,px,py,h,h'=>by
  cases x<;>first|(simp at px;done)|skip
  all_goals cases y<;>first|(simp at py;done)|skip
  case tup.tup=>
   obtain⟨a,vs,e,hq,hr⟩:=fZ h;obtain⟨a',vs',e',hq',hr'⟩:=fZ h';subst e;cases e';cases I.tuple_inj hq hq';rw[bD.inj I (by simpa using px) (by simpa using py) hr hr']
  case lst.lst=>
   obtain⟨a,vs,e,hq,hr⟩:=eN.mp h;obtain⟨a',vs',e',hq',hr'⟩:=eN.mp h';subst e;cases e';cases I.list_inj hq hq';rw[bD.inj I (by simpa using px) (by simpa using py) hr hr']
  case tup.lst=>
   obtain⟨a,vs,e,hq,hr⟩:=fZ h;obtain⟨a',vs',e',hq',hr'⟩:=eN.mp h';subst e;cases e';exact(aRg I hq' hq).elim
  case lst.tup=>
   obtain⟨a,vs,e,hq,hr⟩:=eN.mp h;obtain⟨a',vs',e',hq',hr'⟩:=fZ h';subst e;cases e';exact(aRg I hq hq').elim
  all_goals simp only[jY,cL,bH,cY,lE,eN]at h h'
  all_goals first|(obtain⟨_,_,h',_⟩:=h';subst h';cases h;done)|(obtain⟨_,_,h,_⟩:=h;subst h;cases h';done)|(subst h;cases h';first|rfl|done)|(subst h;injection h' with h';injection h' with h';rw[show _=_ by simpa using congrArg Array.toList h'])
theorem bD.inj(I:Inv X pins σ H s):∀{xs ys:List D}{vs:List V},cQ xs=true->cQ ys=true->bD X.K H xs vs->bD X.K H ys vs->xs=ys
 |[],ys,vs,px,py,h,h'=>by
  have e:=cG.mp h;subst e;cases ys with
  |nil=>rfl
  |cons y ys=>obtain⟨_,_,h',_⟩:=bK.mp h';cases h'
 |x::xs,ys,vs,px,py,h,h'=>by
  obtain⟨v,r,e,h1,h2⟩:=bK.mp h;subst e;cases ys with
  |nil=>exact nomatch cG.mp h'
  |cons y ys=>
   obtain⟨v',r',e',h1',h2'⟩:=bK.mp h';cases e';simp only[pJ,and_eq_true]at px py;rw[Rep.inj I px.1 py.1 h1 h1',bD.inj I px.2 py.2 h2 h2']
end
mutual
theorem aMp:∀x:D,plain x=true->eqD x x=true
 |.non,_=>by unfold eqD;rfl
 |.bl b,_=>by unfold eqD;simp
 |.int i,_=>by unfold eqD;simp
 |.str x,_=>by unfold eqD;simp
 |.tup x,h=>by unfold eqD;exact aDz x (by simpa using h)
 |.lst x,h=>by unfold eqD;exact aDz x (by simpa using h)
 |.dct _ _ _,h=>by simp at h
 |.ins _ _ _,h=>by simp at h
 |.exn _ _ _,h=>by simp at h
 |.fn _,h=>by simp at h
theorem aDz:∀x:List D,cQ x=true->gC x x=true
 |[],_=>by unfold gC;rfl
 |a::x,h=>by
  simp only[pJ,and_eq_true]at h;unfold gC;rw[aMp a h.1,aDz x h.2];rfl
end
def pairE(xs ys:List D)(j:Nat):Bool:=eqD (xs.getD j .non) (ys.getD j .non)
theorem aCn:∀xs ys:List D,((List.range (min xs.length ys.length)).all (pairE xs ys)&&xs.length==ys.length)=gC xs ys
 |[],[]=>by unfold gC;rfl
 |[],_::_=>by unfold gC;simp
 |_::_,[]=>by unfold gC;simp
 |x::xs,y::ys=>by
  have ih:=aCn xs ys;have e:gC (x::xs) (y::ys)=(eqD x y&&gC xs ys):=by conv=>lhs;unfold gC
  rw[e,<-ih];have hm:min (x::xs).length (y::ys).length=min xs.length ys.length+1:=by simp only[length_cons];omega
  rw[hm,bNy,bOm,List.all_map];have e1:pairE (x::xs) (y::ys) 0=eqD x y:=rfl;have e2:(pairE (x::xs) (y::ys) ∘ Nat.succ)=pairE xs ys:=rfl;rw[e1,e2,Bool.and_assoc];congr 1;simp
def aP8(h:xs.length≠ys.length):gC xs ys=false:=by
 rw[<-aCn];simp[h]
inductive Vw (X:Cx) (H:Hp) (s:Shared):D->Value->Prop
 |non:Vw X H s .non .none
 |bl (b:Bool):Vw X H s (.bl b) (.bool b)
 |int (i:Int) (t:Tok):Vw X H s (.int i) (.int i t)
 |str (x:List Nat) (t:Tok):Vw X H s (.str x) (.str ⟨x.toArray⟩ t)
 |tup {x:List D} {ws:List V} {its:List Value} {l:Addr} (hq:s.heap.IsTuple l its.toArray) (hr:bD X.K H x ws) (hv:Vals ws its):Vw X H s (.tup x) (.ref l)
 |lst {x:List D} {ws:List V} {its:List Value} {l:Addr} (hq:s.heap.IsList l its.toArray) (hr:bD X.K H x ws) (hv:Vals ws its):Vw X H s (.lst x) (.ref l)
def Vw.of(I:Inv X pins σ H s){x:D} {a:Value} (h:Rep X.K H x v) (r:RelV v a) (p:plain x=true):Vw X H s x a:=by
 cases x with
 |non=>have e:=jY.mp h;subst e;have e:a=Value.none:=r;subst e;exact .non
 |bl b=>have e:=cL.mp h;subst e;have e:a=Value.bool b:=r;subst e;exact .bl b
 |int i=>have e:=bH.mp h;subst e;obtain⟨t,e⟩:∃t,a=Value.int i t:=r;subst e;exact .int i t
 |str x=>have e:=cY.mp h;subst e;obtain⟨t,e⟩:∃t,a=Value.str ⟨x.toArray⟩ t:=r;subst e;exact .str x t
 |tup x=>obtain⟨l,ws,e,hq,hr⟩:=fZ h;subst e;have e:a=Value.ref l:=r;subst e;obtain⟨its,rv,pl,_⟩:=I.tuple hq;exact .tup pl hr rv
 |lst x=>obtain⟨l,ws,e,hq,hr⟩:=eN.mp h;subst e;have e:a=Value.ref l:=r;subst e;obtain⟨its,rv,pl,_⟩:=I.list hq;exact .lst pl.isList hr rv
 |_=>simp at p
def bAj{A:Around}{x:D}{a b:Value}{k:Bool}(wa:Vw X H s x a)(wb:Vw X H s y b)(h:RcAt A s a b k)(hs:a=b->k=true):EqAt A s a b k:=λprog w E Q hq=>by
 unfold eqBool;refine bK7 (wpAny_ite_split (λe=>?_) λ_=>?_)
 .rw[hs (eq_of_beq e)]at hq;exact bIh (bKy (bIx hq))
 .cases wa<;>cases wb<;>exact bIh (h prog w E _ (bKg hq))
def aX4{u:V}{a:Value}(h:RelV v a)(h':RelV u a):v=u:=by
 cases v<;>(first|subst h|(obtain⟨_,h⟩:=h;subst h)) <;> cases u<;>first|(cases h';done)|(cases h';rfl)|(obtain⟨_,h'⟩:=h';cases h';done)|(obtain⟨_,h'⟩:=h';cases h';rfl)
def aMq(x y:List Nat):eqD (.str x) (.str y)=((⟨x.toArray⟩:Str)==⟨y.toArray⟩):=by rw[<-str_beq];unfold eqD;simp
def bGt{A:Around}{a b:Value}{k k':Bool}(h:RcAt A s a b k)(e:k=k'):RcAt A s a b k':=e ▸ h
def bGu{A:Around}{a b:Value}{k k':Bool}(h:RcNeAt A s a b k)(e:k=k'):RcNeAt A s a b k':=e ▸ h
def aMr(I:Inv X pins σ H s){x:D}{A:Around}{u:V}{a b:Value}(ra:Rep X.K H x v)(rb:Rep X.K H y u)(va:RelV v a)(vb:RelV u b)(px:plain x=true)(py:plain y=true)(h:RcAt A s a b (eqD x y)):EqAt A s a b (eqD x y):=
 bAj (Vw.of I ra va px) (Vw.of I rb vb py) h λe=>by rw[Rep.inj I px py ra (aX4 (e ▸ va) vb ▸ rb)];exact aMp y py
mutual
theorem aKn(I:Inv X pins σ H s)(x y:D)(A:Around)(v u:V)(a b:Value)(ra:Rep X.K H x v)(rb:Rep X.K H y u)(va:RelV v a)(vb:RelV u b)(hu:A.units+dep x<cLine)(px:plain x=true)(py:plain y=true):RcAt A s a b (eqD x y)/\RcNeAt A s a b (!eqD x y):=by
 have hu':A.units<cLine:=Nat.lt_of_le_of_lt (bN0 _ _) hu;have wa:=Vw.of I ra va px;have wb:=Vw.of I rb vb py;clear ra rb va vb;cases wa<;>cases wb
 case tup.tup x _ i1 _ hq hr hv y _ i2 _ hq' hr' hv'=>
  have hd:dep (.tup x)=iH x+1:=by conv=>lhs;unfold dep
  have:=aE0 I x y A.in1 _ _ _ _ hr hr' hv hv' (by show A.units+1+iH x<cLine;omega) (by simpa using px) (by simpa using py)
  have e:eqD (.tup x) (.tup y)=gC x y:=by conv=>lhs;unfold eqD
  rw[e,<-aCn,<-hr.length,<-hr'.length,hv.length,hv'.length,<-bJ6,<-bJ6];exact⟨RcAt.tuples hq hq' hu' λj j1 j2=>by simpa using this j (by simpa using j1) (by simpa using j2),RcNeAt.tuples hq hq' hu' λj j1 j2=>by simpa using this j (by simpa using j1) (by simpa using j2)⟩
 case lst.lst x _ i1 _ hq hr hv y _ i2 _ hq' hr' hv'=>
  have hd:dep (.lst x)=iH x+1:=by conv=>lhs;unfold dep
  have:=aE0 I x y A.in1 _ _ _ _ hr hr' hv hv' (by show A.units+1+iH x<cLine;omega) (by simpa using px) (by simpa using py)
  have e:eqD (.lst x) (.lst y)=gC x y:=by conv=>lhs;unfold eqD
  have n1:i1.length=x.length:=by rw[<-hv.length,hr.length]
  have n2:i2.length=y.length:=by rw[<-hv'.length,hr'.length]
  rw[e]
  by_cases hz:i1.length=i2.length
  .rw[show gC x y=(List.range i1.toArray.size).all (pairE x y) by rw[<-aCn,bJ6,n1];simp[show x.length=y.length by omega]]
   exact⟨RcAt.lists hq hq' (by simpa using hz) hu' λj j1 j2=>by simpa using this j (by simpa using j1) (by simpa using j2),RcNeAt.lists hq hq' (by simpa using hz) hu' λj j1 j2=>by simpa using this j (by simpa using j1) (by simpa using j2)⟩
  .rw[aP8 (by omega)]
   exact⟨RcAt.lists_lengths hq hq' (by simpa using hz) hu',RcNeAt.lists_lengths hq hq' (by simpa using hz) hu'⟩
 all_goals
  constructor
  .apply bGt
   .with_reducible first|exact RcAt.none_none|exact RcAt.none_bool _|exact RcAt.none_int _ _|exact RcAt.none_str _ _|exact RcAt.none_tuple ‹_› hu'|exact RcAt.none_list ‹_› hu'|exact RcAt.bool_none _|exact RcAt.bool_bool _ _|exact RcAt.bool_int _ _ _|exact RcAt.bool_str _ _ _|exact RcAt.bool_tuple _ ‹_› hu'|exact RcAt.bool_list _ ‹_› hu'|exact RcAt.int_none _ _|exact RcAt.int_bool _ _ _|exact RcAt.int_int _ _ _ _|exact RcAt.int_str _ _ _ _|exact RcAt.int_tuple _ _ ‹_› hu'|exact RcAt.int_list _ _ ‹_› hu'|exact RcAt.str_none _ _|exact RcAt.str_bool _ _ _|exact RcAt.str_int _ _ _ _|exact RcAt.str_str _ _ _ _|exact RcAt.str_tuple _ _ ‹_› hu'|exact RcAt.str_list _ _ ‹_› hu'|exact RcAt.tuple_none ‹_› hu'|exact RcAt.tuple_bool _ ‹_› hu'|exact RcAt.tuple_int _ _ ‹_› hu'|exact RcAt.tuple_str _ _ ‹_› hu'|exact RcAt.tuple_list ‹_› ‹_› hu'|exact RcAt.list_none ‹_› hu'|exact RcAt.list_bool _ ‹_› hu'|exact RcAt.list_int _ _ ‹_› hu'|exact RcAt.list_str _ _ ‹_› hu'|exact RcAt.list_tuple ‹_› ‹_› hu'
   .first|exact(aMq _ _).symm|(unfold eqD;rfl)
  .apply bGu
   .with_reducible first|exact RcNeAt.none_none|exact RcNeAt.none_bool _|exact RcNeAt.none_int _ _|exact RcNeAt.none_str _ _|exact RcNeAt.none_tuple ‹_› hu'|exact RcNeAt.none_list ‹_› hu'|exact RcNeAt.bool_none _|exact RcNeAt.bool_bool _ _|exact RcNeAt.bool_int _ _ _|exact RcNeAt.bool_str _ _ _|exact RcNeAt.bool_tuple _ ‹_› hu'|exact RcNeAt.bool_list _ ‹_› hu'|exact RcNeAt.int_none _ _|exact RcNeAt.int_bool _ _ _|exact RcNeAt.int_int _ _ _ _|exact RcNeAt.int_str _ _ _ _|exact RcNeAt.int_tuple _ _ ‹_› hu'|exact RcNeAt.int_list _ _ ‹_› hu'|exact RcNeAt.str_none _ _|exact RcNeAt.str_bool _ _ _|exact RcNeAt.str_int _ _ _ _|exact RcNeAt.str_str _ _ _ _|exact RcNeAt.str_tuple _ _ ‹_› hu'|exact RcNeAt.str_list _ _ ‹_› hu'|exact RcNeAt.tuple_none ‹_› hu'|exact RcNeAt.tuple_bool _ ‹_› hu'|exact RcNeAt.tuple_int _ _ ‹_› hu'|exact RcNeAt.tuple_str _ _ ‹_› hu'|exact RcNeAt.tuple_list ‹_› ‹_› hu'|exact RcNeAt.list_none ‹_› hu'|exact RcNeAt.list_bool _ ‹_› hu'|exact RcNeAt.list_int _ _ ‹_› hu'|exact RcNeAt.list_str _ _ ‹_› hu'|exact RcNeAt.list_tuple ‹_› ‹_› hu'
   .first|exact congrArg _ (aMq _ _).symm|(unfold eqD;rfl)
theorem aE0(I:Inv X pins σ H s):∀(xs ys:List D)(A:Around)(vs us:List V)(as bs:List Value),bD X.K H xs vs->bD X.K H ys us->Vals vs as->Vals us bs->A.units+iH xs<cLine->cQ xs=true->cQ ys=true->∀(j:Nat)(h1:j<as.length)(h2:j<bs.length),EqAt A s as[j] bs[j] (pairE xs ys j)
 |[],_,A,vs,us,as,bs,ra,rb,va,vb,hu,px,py,j,h1,h2=>by
  have e:=cG.mp ra;subst e;cases va;exact absurd h1 (bO8 _)
 |x::xs,[],A,vs,us,as,bs,ra,rb,va,vb,hu,px,py,j,h1,h2=>by
  have e:=cG.mp rb;subst e;cases vb;exact absurd h2 (bO8 _)
 |x::xs,y::ys,A,vs,us,as,bs,ra,rb,va,vb,hu,px,py,j,h1,h2=>by
  obtain⟨v,r,e,p1,p2⟩:=bK.mp ra;subst e;obtain⟨u,r',e,q1,q2⟩:=bK.mp rb;subst e;have hd:iH (x::xs)=max (dep x) (iH xs):=by conv=>lhs;unfold iH
  rw[hd]at hu;simp only[pJ,and_eq_true]at px py;cases va with
  |cons va vas=>
   cases vb with
   |cons vb vbs=>
    cases j with
    |zero=>exact aMr I p1 q1 va vb px.1 py.1 (aKn I x y A v u _ _ p1 q1 va vb (by omega) px.1 py.1).1
    |succ j=>exact aE0 I xs ys A r r' _ _ p2 q2 vas vbs (by omega) px.2 py.2 j (bNz h1) (bNz h2)
end
def aX5(I:Inv X pins σ H s)(x y:D)(A:Around)(v u:V)(a b:Value)(ra:Rep X.K H x v)(rb:Rep X.K H y u)(va:RelV v a)(vb:RelV u b)(hu:A.units+dep x<cLine)(px:plain x=true)(py:plain y=true):EqAt A s a b (eqD x y):=
 aMr I ra rb va vb px py (aKn I x y A v u _ _ ra rb va vb hu px py).1
def aX6(I:Inv X pins σ H s)(x y:D)(A:Around)(v u:V)(a b:Value)(ra:Rep X.K H x v)(rb:Rep X.K H y u)(va:RelV v a)(vb:RelV u b)(hu:A.units+dep x<cLine)(px:plain x=true)(py:plain y=true):RcAt A s a b (eqD x y):=(aKn I x y A v u a b ra rb va vb hu px py).1
def aX7(I:Inv X pins σ H s)(x y:D)(A:Around)(v u:V)(a b:Value)(ra:Rep X.K H x v)(rb:Rep X.K H y u)(va:RelV v a)(vb:RelV u b)(hu:A.units+dep x<cLine)(px:plain x=true)(py:plain y=true):RcNeAt A s a b (!eqD x y):=(aKn I x y A v u a b ra rb va vb hu px py).2
end
end Pu
namespace Pu
open PySem PySem.Spec PyProof.Rows L2
section
variable{X:Cx}{B:List Addr}{a b e:Expr}{f g:Ex}{pos:Pos}
theorem kY.rep{K:Frag}{A:List Addr}{H:Hp}{d:D}{v:V}(h:kY K A H d v):Rep K H d v:=by
 rcases h with h|⟨a,k,o,ds,vs,e1,e2,e3,ko,q⟩
 .exact h.mono (bI _ _)
 .subst e1 e2;exact ko.rep e3 (q.mono (bI _ _))
def bAk(K:Frag)(neg:Bool):R2:=λv u H Q=>∃x y,Rep K H x v/\Rep K H y u/\(dep x<=64/\plain x=true/\plain y=true)/\Q (.bl (if neg then !eqD x y else eqD x y)) H
def fM(hu:X.A.units+64<cLine):OpR X (compareOp .Eq) (bAk X.K false):=by
 intro pins s σ H v u a b Q I ra rb h;obtain⟨x,y,rx,ry,hd,q⟩:=h;exact aX6 I x y X.A v u a b rx ry ra rb (by omega) hd.2.1 hd.2.2 X.prog X.w X.xe _ ⟨.bl _,H,I,rfl,q⟩
def mL(hu:X.A.units+64<cLine):OpR X (compareOp .NotEq) (bAk X.K true):=by
 intro pins s σ H v u a b Q I ra rb h;obtain⟨x,y,rx,ry,hd,q⟩:=h;exact aX7 I x y X.A v u a b rx ry ra rb (by omega) hd.2.1 hd.2.2 X.prog X.w X.xe _ ⟨.bl _,H,I,rfl,q⟩
def fO{K:Frag}:aAj K (bAk K false) dEq:=by
 intro A H x y d v u Q w rx ry e q;obtain⟨c,e⟩:=aK e;cases e;exact⟨x,y,rx.rep,ry.rep,c,q _ H (bC.refl _) (cL.mpr rfl)⟩
def mO{K:Frag}:aAj K (bAk K true) dNe:=by
 intro A H x y d v u Q w rx ry e q;obtain⟨c,e⟩:=aK e;cases e;exact⟨x,y,rx.rep,ry.rep,c,q _ H (bC.refl _) (cL.mpr rfl)⟩
def tyD:D->String
 |.non=>"NoneType"
 |.bl _=>"bool"
 |.int _=>"int"
 |.str _=>"str"
 |.tup _=>"tuple"
 |.lst _=>"list"
 |.dct _ _ _=>"dict"
 |.ins _ _ _=>""
 |.exn _ _ _=>""
 |.fn _=>""
structure IsT(T:String)(p:D->Bool):Prop where
 boot:bootBuiltins T=some (.type T)
 ans:∀(K:Frag)(d:D),aSm d=true->PySem.W.kitOne K (.type (tyD d)) (.type T)=some (p d)
def aX8{T:String}{p:D->Bool}(h:IsT T p):nA X (.builtin "isinstance") (λxs H Q=>∃v d,xs=[v,.ty T]/\aSm d=true/\Rep X.K H d v/\Q (.bl (p d)) H):=by
 intro pins s σ H xs us Q I r q;obtain⟨v,d,rfl,hbl,rd,q⟩:=q;obtain⟨u,u2,rfl,ru,ru2⟩:=r.two;have e2:u2=Value.type T:=ru2;subst e2;have fin:∀tk,EP X pins σ Q (.bool (p d)) {s with toks:=tk}:=λtk=>⟨.bl (p d),H,I.tok tk,rfl,q⟩
 have e:=h.ans X.K d hbl;cases d with
 |non=>have z:=jY.mp rd;subst z;have z:u=Value.none:=ru;subst z;exact kia_one PySem.W.kitx_none I.kIn True.intro e (λz=>nomatch z) fin
 |bl x=>have z:=cL.mp rd;subst z;have z:u=Value.bool x:=ru;subst z;exact kia_one PySem.W.kitx_bool I.kIn True.intro e (λz=>nomatch z) fin
 |int x=>have z:=bH.mp rd;subst z;obtain⟨t,z⟩:∃t,u=Value.int x t:=ru;subst z;exact kia_one PySem.W.kitx_int I.kIn True.intro e (λz=>nomatch z) fin
 |str x=>have z:=cY.mp rd;subst z;obtain⟨t,z⟩:∃t,u=Value.str ⟨x.toArray⟩ t:=ru;subst z;exact kia_one PySem.W.kitx_str I.kIn True.intro e (λz=>nomatch z) fin
 |tup x=>
  obtain⟨l,vs,z,hq,_⟩:=fZ rd;subst z;have z:u=Value.ref l:=ru;subst z;obtain⟨its,_,⟨o,h1,h2,_⟩,_⟩:=I.tuple hq;exact kia_one PySem.W.kitx_tuple I.kIn ⟨o,h1,h2⟩ e (λz=>nomatch z) fin
 |lst x=>
  obtain⟨l,vs,z,hq,_⟩:=eN.mp rd;subst z;have z:u=Value.ref l:=ru;subst z;obtain⟨its,_,⟨o,n,h1,h2,_⟩,_⟩:=I.list hq;exact kia_one PySem.W.kitx_list I.kIn ⟨o,h1,h2⟩ e (λz=>nomatch z) fin
 |dct t ks x=>
  obtain⟨l,vs,z,hq,_⟩:=oW.mp rd;subst z;have z:u=Value.ref l:=ru;subst z;have hd:∃o,s.heap.get? l=some o/\o.ExactDict:=by
   rcases hq with ⟨_,kvs,hq,_⟩|⟨_,kvs,hq,_⟩
   .obtain⟨_,_,vs',_,m⟩:kvs.length<=sizeLine/\(l==sysModules)=false/\∃vs,KV kvs vs/\s.heap.DictOf (dD X.prog X.w) l vs:=I.hok l _ hq;obtain⟨o,es,n,h1,h2,_⟩:=m;exact⟨o,h1,h2⟩
   .obtain⟨_,_,xs,_,o,es,ep,h1,h2,_⟩:=I.hok l _ hq;exact⟨o,h1,h2⟩
  obtain⟨o,h1,h2⟩:=hd;exact kia_one PySem.W.kitx_dict I.kIn ⟨o,h1,h2.1⟩ e (λz=>nomatch z) fin
 |ins _ _ _=>exact nomatch hbl
 |exn _ _ _=>exact nomatch hbl
 |fn _=>exact nomatch hbl
def mQ{T:Str}{S:String}{p:D->Bool} (hT:IsT S p) (hm:X.mg "isinstance"=none) (hmT:X.mg T=none) (ha:PE X a (tP X.K B f)) (hST:bootBuiltins T=some (.type S):=by first|rfl|exact hT.boot) (hg:Gl X "isinstance":=by rfl) (hgT:Gl X T:=by rfl) (hnT:T≠"__name__":=by decide) (hdT:(T==("__debug__":Str))=false:=by decide)
  (hs:starEach [a,.Name T p1] X.env=(false,eval a X.env)::starEach [.Name T p1] X.env:=by rfl) (hs2:starEach [.Name T p1] X.env=(false,eval (.Name T p1) X.env)::starEach [] X.env:=by rfl) :
  PE X (.Call (.Name "isinstance" p0) [a,.Name T p1] [] pos) (tI X.K B (eB p f)):=by
 have hTy:PE X (.Name T p1) (tC (.ty S)):=aYd hgT hmT hST rfl hnT hdT;refine cN (uH (aX8 hT) hg hm boot_isinstance (dF ha (dF hTy gU hs2) hs) (he:=hs)) ?_
 rintro σ H Q ⟨A,st,d,rs,hd,q⟩;obtain⟨x,hx,h2⟩:=R.ok_of hd;obtain⟨hbl,h2⟩:=aK h2;cases h2;exact⟨A,st,x,rs,hx,λv H1 s1 r1=>⟨v,x,rfl,hbl,r1.rep,q _ H1 s1 (cL.mpr rfl)⟩⟩
def ty_str:IsT "str" aZ2:=⟨rfl,λK d hb=>by cases d<;>first|(cases hb;done)|kernel_rfl⟩
def ty_bool:IsT "bool" bD1:=⟨rfl,λK d hb=>by cases d<;>first|(cases hb;done)|kernel_rfl⟩
def ty_int:IsT "int" isIn:=⟨rfl,λK d hb=>by cases d<;>first|(cases hb;done)|kernel_rfl⟩
def ty_tuple:IsT "tuple" aZ3:=⟨rfl,λK d hb=>by cases d<;>first|(cases hb;done)|kernel_rfl⟩
def ty_list:IsT "list" aO7:=⟨rfl,λK d hb=>by cases d<;>first|(cases hb;done)|kernel_rfl⟩
end
end Pu
namespace Pu
open PySem PySem.Spec PyProof.Rows L2 PySem.SeqAt PySem.StrLaws
def aP9(x y:List Nat)(i:Nat):Builtin.Str.subAt ⟨x.toArray⟩ ⟨y.toArray⟩ i=((x.drop i).take y.length==y):=by
 rw[subAt_eq];simp[Str.length]
theorem aMs(s sub:Str)(hi:Nat):∀(l:List Nat)(st:Array Nat×Nat),1<=st.1.size->(forIn l st (occBody s sub hi 1)).run.fst=st.1
 |[],st,h=>rfl
 |a::l,st,h=>by
  rw[forIn_cons];unfold occBody;rw[bIt (λz=>by have:=z.1.1.1;omega)]
  exact aMs s sub hi l (st.1,st.2) h
theorem aMt(s sub:Str)(hi:Nat):∀(l:List Nat)(free:Nat),(∀i∈l,free<=i)->
  (forIn l ((#[]:Array Nat),free) (occBody s sub hi 1)).run.fst.toList=(l.find? λi=>decide (i+sub.length<=hi)&&Builtin.Str.subAt s sub i).toList
 |[],free,_=>rfl
 |a::l,free,hf=>by
  rw[forIn_cons];have ha:free<=a:=hf a bIm
  by_cases hc:a+sub.length<=hi/\Builtin.Str.subAt s sub a=true
  .have e:(decide (a+sub.length<=hi)&&Builtin.Str.subAt s sub a)=true:=by rw[hc.2,bIr hc.1];rfl
   rw[bM2 (p:=λi=>decide (i+sub.length<=hi)&&Builtin.Str.subAt s sub i) e]
   have e2:occBody s sub hi 1 a ((#[]:Array Nat),free)=pure (ForInStep.yield ((#[]:Array Nat).push a,a+sub.length)):=by
    unfold occBody;exact bIv ⟨⟨⟨by simp,ha⟩,hc.1⟩,hc.2⟩
   rw[e2];show (forIn l (((#[]:Array Nat).push a),a+sub.length) (occBody s sub hi 1)).run.fst.toList=_;rw[aMs s sub hi l _ (by simp)]
   rfl
  .have e:¬ (decide (a+sub.length<=hi)&&Builtin.Str.subAt s sub a)=true:=λz=>hc (by simpa using z)
   rw[bM3 (p:=λi=>decide (i+sub.length<=hi)&&Builtin.Str.subAt s sub i) e]
   have e2:occBody s sub hi 1 a ((#[]:Array Nat),free)=pure (ForInStep.yield ((#[]:Array Nat),free)):=by
    unfold occBody;exact bIt λh=>hc ⟨h.1.2,h.2⟩
   rw[e2];exact aMt s sub hi l free λi hi'=>hf i (bIl _ hi')
def aAb(x y:List Nat)(lo:Nat):Builtin.Str.occurrences ⟨x.toArray⟩ ⟨y.toArray⟩ lo (⟨x.toArray⟩:Str).length 1=(iZ x y lo).toList:=by
 rw[occ_eq,aMt _ _ _ _ _ (λi hi=>by simp[List.mem_range']at hi;omega)]
 unfold iZ;simp only[aP9,str_len]
def bAl(x y:List Nat):Txt.find ⟨x.toArray⟩ ⟨y.toArray⟩=yE (iZ x y 0):=by
 unfold Txt.find;rw[aAb];cases iZ x y 0<;>rfl
def aX9(x y:List Nat)(i:Int)(h:0<=i):Txt.find3 ⟨x.toArray⟩ ⟨y.toArray⟩ i=yE (iZ x y i.toNat):=by
 have e:fromIndex (⟨x.toArray⟩:Str).length i=i.toNat:=by unfold fromIndex;rw[bIt (by omega)];omega
 unfold Txt.find3;rw[e,aAb];cases iZ x y i.toNat<;>rfl
section
variable {a o:Expr}
def bGv{id:String}{m:Mop}{r:Exs} {q:V->List V->Hp->VK->Prop} (slot:Slot "str" name id) (hty:typeOf (.builtin id)=pure (.type "method_descriptor")) (hm:MtR X id q)
  (hk:∀x xs d,m x xs=.ok d->∃s,x=.str s) (sem:∀(A:List Addr)(H:Hp)(x d:D)(xs:List D)(v:V)(vs:List V)(Q:VK),Own A H->kY X.K A H x v->bD X.K (hide A H) xs vs->m x xs=.ok d->(∀w H',bC H H'->Rep X.K (hide A H') d w->Q w H')->q v vs H Q)
  (ho:PE X o (tP X.K B f)) (ha:PA X (e::es) (tA X.K B r))
  (hbase:attributeBase o name X.env (eval o X.env)=eval o X.env:=by rfl)
  (hfew:((backTo cpos (starEach (e::es) X.env)).all (λx=>!x.1)&&(backToKw cpos (keywordEach [] X.env)).all (λx=>x.1.isSome)
   && decide ((e::es).length+([]:List Keyword).length+(if ([]:List Keyword).isEmpty then 0 else 1)<30))=true:=by rfl)
  (hline:(apos.endLine==cpos.line)=true:=by rfl) (hs:starEach (e::es) X.env=(false,eval e X.env)::starEach es X.env:=by rfl) (hplain:(backTo cpos (starEach es X.env)).any (·.1)=false:=by rfl) :
  PE X (.Call (.Attribute o name apos) (e::es) [] cpos) (tI X.K B (eMt m f r)):=by
 refine cN (aUk PySem.F.plainAttrs_str slot hty hm ho ha hbase hfew hline hs hplain) ?_
 rintro σ H Q ⟨A,st,d,rs,hd,k⟩;obtain⟨x,hx,h2⟩:=R.ok_of hd;obtain⟨xs,hxs,h3⟩:=R.ok_of h2;obtain⟨s,rfl⟩:=hk x xs d h3;refine⟨A,st,_,rs,hx,λv H1 s1 r1=>⟨?_,A,st,xs,rs.mono s1,hxs,λvs H2 s2 r2=>?_⟩⟩
 .rw[r1.str];rfl
 .exact sem (A++B) H2 _ d xs v vs Q (rs.own.mono (s1.trans s2)) (r1.mono s2) r2 h3 λw H' s' r'=>k w H' (s1.trans (s2.trans s')) r'
def aRh{K:Frag} (h:bD K H [d] vs):∃v,vs=[v]/\Rep K H d v:=by
 obtain⟨v,r,rfl,h1,h2⟩:=bK.mp h;rw[cG.mp h2];exact⟨v,rfl,h1⟩
def bGw{K:Frag} {e:D} (h:bD K H [d,e] vs):∃v u,vs=[v,u]/\Rep K H d v/\Rep K H e u:=by
 obtain⟨v,r,rfl,h1,h2⟩:=bK.mp h;obtain⟨u,rfl,h3⟩:=aRh h2;exact⟨v,u,rfl,h1,h3⟩
def bAm:MtR X "str.find" (λx vs H Q=>∃(s:List Nat),x=.str ⟨s.toArray⟩/\((∃y:List Nat,vs=[.str ⟨y.toArray⟩]/\Q (.int (yE (iZ s y 0))) H)\/∃(y:List Nat)(i:Int),vs=[.str ⟨y.toArray⟩,.int i]/\0<=i/\Q (.int (yE (iZ s y i.toNat))) H)):=by
 intro pins s σ H x vs v us Q I rx rv h;obtain⟨z,rfl,h⟩:=h;obtain⟨t,rfl⟩:=rx;rcases h with ⟨y,rfl,q⟩|⟨y,i,rfl,hi,q⟩
 .obtain⟨u,rfl,t2,rfl⟩:=rv.one;exact SC.find ⟨.int _,H,I.tok _,⟨_,rfl⟩,by rw[bAl];exact q⟩
 .obtain⟨u,u2,rfl,⟨t2,rfl⟩,⟨t3,rfl⟩⟩:=rv.two;exact SC.find3 ⟨.int _,H,I.tok _,⟨_,rfl⟩,by rw[aX9 _ _ _ hi];exact q⟩
def aXa:MtR X "str.index" (λx vs H Q=>∃(s y:List Nat)(i:Nat),x=.str ⟨s.toArray⟩/\vs=[.str ⟨y.toArray⟩]/\iZ s y 0=some i/\Q (.int i) H):=by
 intro pins s σ H x vs v us Q I rx rv h;obtain⟨z,y,i,rfl,rfl,hi,q⟩:=h;obtain⟨t,rfl⟩:=rx;obtain⟨u,rfl,t2,rfl⟩:=rv.one;exact SC.index (i:=i) (rest:=[]) (by rw[aAb,hi];rfl) ⟨.int _,H,I.tok _,⟨_,rfl⟩,q⟩
end
end Pu
namespace Pu
open PySem PySem.Spec PyProof.Rows L2 PySem.SeqAt
section
variable{X:Cx}{B:List Addr}{a b e o:Expr}{f g:Ex}{pos:Pos}{r:Exs}{es:List Expr}{apos cpos:Pos}
def bE3(ho:PE X o (tP X.K B f))(ha:PA X (e::es) (tA X.K B r))(hbase:attributeBase o "find" X.env (eval o X.env)=eval o X.env:=by rfl)
  (hfew:((backTo cpos (starEach (e::es) X.env)).all (λx=>!x.1)&&(backToKw cpos (keywordEach [] X.env)).all (λx=>x.1.isSome)
   && decide ((e::es).length+([]:List Keyword).length+(if ([]:List Keyword).isEmpty then 0 else 1)<30))=true:=by rfl)
  (hline:(apos.endLine==cpos.line)=true:=by rfl) (hs:starEach (e::es) X.env=(false,eval e X.env)::starEach es X.env:=by rfl) (hplain:(backTo cpos (starEach es X.env)).any (·.1)=false:=by rfl) :
  PE X (.Call (.Attribute o "find" apos) (e::es) [] cpos) (tI X.K B (eMt aLk f r)):=by
 refine bGv (m:=aLk) PySem.F.slot_str_find PySem.F.type_str_find bAm (λx xs d h=>?_) (λA H x d xs v vs Q w rx rxs h k=>?_) ho ha hbase hfew hline hs hplain
 .cases x<;>first|exact⟨_,rfl⟩|exact nomatch h
 .unfold aLk at h;split at h
  .cases h;obtain⟨u,rfl,ru⟩:=aRh rxs;exact⟨_,rx.str,.inl ⟨_,by rw[cY.mp ru],k _ H (bC.refl _) (bH.mpr rfl)⟩⟩
  .obtain⟨c,h⟩:=aK h;cases h;obtain⟨u,u2,rfl,ru,ru2⟩:=bGw rxs;exact⟨_,rx.str,.inr ⟨_,_,by rw[cY.mp ru,bH.mp ru2],c,k _ H (bC.refl _) (bH.mpr rfl)⟩⟩
  .cases h
def bAn(ho:PE X o (tP X.K B f))(ha:PA X (e::es) (tA X.K B r))(hbase:attributeBase o "index" X.env (eval o X.env)=eval o X.env:=by rfl)
  (hfew:((backTo cpos (starEach (e::es) X.env)).all (λx=>!x.1)&&(backToKw cpos (keywordEach [] X.env)).all (λx=>x.1.isSome)
   && decide ((e::es).length+([]:List Keyword).length+(if ([]:List Keyword).isEmpty then 0 else 1)<30))=true:=by rfl)
  (hline:(apos.endLine==cpos.line)=true:=by rfl) (hs:starEach (e::es) X.env=(false,eval e X.env)::starEach es X.env:=by rfl) (hplain:(backTo cpos (starEach es X.env)).any (·.1)=false:=by rfl) :
  PE X (.Call (.Attribute o "index" apos) (e::es) [] cpos) (tI X.K B (eMt aFy f r)):=by
 refine bGv (m:=aFy) PySem.F.slot_str_index PySem.F.type_str_index aXa (λx xs d h=>?_) (λA H x d xs v vs Q w rx rxs h k=>?_) ho ha hbase hfew hline hs hplain
 .cases x<;>first|exact⟨_,rfl⟩|exact nomatch h
 .unfold aFy at h;split at h
  .obtain⟨i,hi,h⟩:=R.ok_of h;cases h;obtain⟨u,rfl,ru⟩:=aRh rxs;exact⟨_,_,i,rx.str,by rw[cY.mp ru],vY hi,k _ H (bC.refl _) (bH.mpr rfl)⟩
  .cases h
def bC0(ha:PE X a (tP X.K B f)):PE X (.UnaryOp .USub a pos) (tI X.K B (e1 aUr f)):=by
 refine cN (bFd bCp ha) ?_
 rintro σ H Q ⟨A,st,d,rs,hd,q⟩;obtain⟨x,hx,h2⟩:=R.ok_of hd;refine⟨A,st,x,rs,hx,λv H1 s1 r1=>?_⟩
 cases x<;>first|(cases h2;done)|skip
 cases h2;exact⟨_,r1.int,q _ H1 s1 (bH.mpr rfl)⟩
def bGx(neg:Bool):R2:=λx y H Q=>(y=.non/\Q (.bl (if neg then !decide (x=.non) else decide (x=.non))) H)\/∃c d,x=.bl c/\y=.bl d/\Q (.bl (if neg then !(c==d) else (c==d))) H
def aJ8:OpR X (compareOp .IsNot) (bGx true):=by
 intro pins s σ H x y v u Q I rx ry h;rcases h with h|⟨c,d,rfl,rfl,q⟩
 .exact aYj pins s σ H x y v u Q I rx ry h
 .cases rx;cases ry;exact isnot_bool ⟨.bl (!(c==d)),H,I,rfl,q⟩
def aJ9{K:Frag}:aAj K (bGx true) aFz:=by
 intro A H x y d v u Q w rx ry e q;cases y<;>first|(cases x<;>(cases e;done))|skip
 .cases e;exact .inl ⟨ry.non,q _ H (bC.refl _) (cL.mpr (by rw[<-bA9 rx];rfl))⟩
 .cases x<;>first|(cases e;done)|skip
  cases e;exact .inr ⟨_,_,rx.bl,ry.bl,q _ H (bC.refl _) (cL.mpr rfl)⟩
open Classical in
noncomputable def aAk(K:Frag)(H:Hp)(x:D)(u:Value):Bool:=if ∃d z,Rep K H d z/\RelV z u/\plain d=true/\eqD d x=true then true else false
def aRi(I:Inv X pins σ H s){x:D}{z:V}{u:Value}(r:Rep X.K H d z)(rz:RelV z u)(pd:plain d=true):aAk X.K H x u=eqD d x:=by
 unfold aAk;split
 .rename_i h;obtain⟨d',z',r',rz',pd',e⟩:=h;have:=RelV.inj rz rz';subst this;rw[Rep.inj I pd pd' r r',e]
 .rename_i h;cases hb:eqD d x with
  |false=>rfl
  |true=>exact(h ⟨d,z,r,rz,pd,hb⟩).elim
theorem aH7{pins:List (Addr×Obj)}{σ:LSt}{H:Hp}{s:Shared}(I:Inv X pins σ H s){x:D}:∀{ds:List D}{zs:List V}{us:List Value},bD X.K H ds zs->Vals zs us->cQ ds=true->us.any (aAk X.K H x)=inD x ds
 |[],zs,us,r,v,_=>by
  have e:=cG.mp r;subst e;cases v;rfl
 |d::ds,zs,us,r,v,p=>by
  obtain⟨z,r',e,h1,h2⟩:=bK.mp r;subst e;simp only[pJ,and_eq_true]at p;cases v with
  |cons v vs=>
   rw[bMk,aRi I h1 v p.1,aH7 I h2 vs p.2];unfold inD;rw[bMk]
theorem aH8{pins:List (Addr×Obj)}{σ:LSt}{H:Hp}{s:Shared}(I:Inv X pins σ H s){A:Around}{x:D}{zx:V}{ux:Value}(rx:Rep X.K H x zx)(vx:RelV zx ux)(px:plain x=true):∀{ds:List D}{zs:List V}{us:List Value},bD X.K H ds zs->Vals zs us->cQ ds=true->A.units+iH ds<cLine->∀u∈us,EqAt A s u ux (aAk X.K H x u)
 |[],zs,us,r,v,_,_=>by
  have e:=cG.mp r;subst e;cases v;exact λu hu=>nomatch hu
 |d::ds,zs,us,r,v,p,hd=>by
  obtain⟨z,r',e,h1,h2⟩:=bK.mp r;subst e;simp only[pJ,and_eq_true]at p;rw[aSo]at hd;cases v with
  |cons v vs=>
   intro u hu;rcases bIq.mp hu with rfl|hu
   .rw[aRi I h1 v p.1];exact aX5 I d x A z zx _ ux h1 rx v vx (by omega) p.1 px
   .exact aH8 I rx vx px h2 vs p.2 (by omega) u hu
def bAo(K:Frag)(neg:Bool):R2:=λv u H Q=>(∃a o,u=.ref a/\yC H a v o/\Q (.bl (if neg then !o.isSome else o.isSome)) H)\/(∃x ds zs p,u=.ref p/\(SqL K H p zs\/SqT K H p zs)/\Rep K H x v/\bD K H ds zs/\iH ds<=60/\plain x=true/\cQ ds=true/\Q (.bl (if neg then !inD x ds else inD x ds)) H)\/
 ∃i j:List Nat,v=.str ⟨i.toArray⟩/\u=.str ⟨j.toArray⟩/\Q (.bl (if neg then !(iZ j i 0).isSome else (iZ j i 0).isSome)) H
def some_of(x y:List Nat):(!(Builtin.Str.occurrences ⟨x.toArray⟩ ⟨y.toArray⟩ 0 (⟨x.toArray⟩:Str).length 1).isEmpty)=(iZ x y 0).isSome:=by
 rw[aAb];cases iZ x y 0<;>rfl
def aPa(hu:X.A.units+64<cLine):OpR X (compareOp .In) (bAo X.K false):=by
 intro pins s σ H v u a b Q I ra rb h;rcases h with ⟨p,o,rfl,g,q⟩|⟨x,ds,zs,p,rfl,hq,rx,rds,hd,px,pd,q⟩|⟨i,j,rfl,rfl,q⟩
 .cases rb;exact bI2 (by omega) I g ra λs' I'=>⟨.bl _,H,I',rfl,q⟩
 .cases rb;have hin:X.A.in1.units+iH ds<cLine:=by show X.A.units+1+iH ds<cLine;omega
  rcases hq with hq|hq
  .obtain⟨its,r,pl,hz⟩:=I.list hq;refine SeqAt.in_listAt (aAk X.K H x) pl.isList (λw hw=>aH8 I rx ra px rds r pd hin w (by simpa using hw)) ⟨.bl _,H,I,rfl,?_⟩
   rw[show its.toArray.any (aAk X.K H x)=its.any (aAk X.K H x) by simp,aH7 I rds r pd]
   exact q
  .obtain⟨its,r,pl,hz⟩:=I.tuple hq;refine SeqAt.in_tupleAt (aAk X.K H x) pl (λw hw=>aH8 I rx ra px rds r pd hin w (by simpa using hw)) ⟨.bl _,H,I,rfl,?_⟩
   rw[show its.toArray.any (aAk X.K H x)=its.any (aAk X.K H x) by simp,aH7 I rds r pd]
   exact q
 .refine aSb pins s σ H _ _ a b Q I ra rb ⟨_,_,rfl,rfl,?_⟩;rw[some_of];exact q
def oF(hu:X.A.units+64<cLine):OpR X (compareOp .NotIn) (bAo X.K true):=by
 intro pins s σ H v u a b Q I ra rb h;rcases h with ⟨p,o,rfl,g,q⟩|⟨x,ds,zs,p,rfl,hq,rx,rds,hd,px,pd,q⟩|⟨i,j,rfl,rfl,q⟩
 .cases rb;exact aYw (by omega) I g ra λs' I'=>⟨.bl _,H,I',rfl,q⟩
 .cases rb;have hin:X.A.in1.units+iH ds<cLine:=by show X.A.units+1+iH ds<cLine;omega
  rcases hq with hq|hq
  .obtain⟨its,r,pl,hz⟩:=I.list hq;refine SeqAt.notIn_listAt (aAk X.K H x) pl.isList (λw hw=>aH8 I rx ra px rds r pd hin w (by simpa using hw)) ⟨.bl _,H,I,rfl,?_⟩
   rw[show its.toArray.any (aAk X.K H x)=its.any (aAk X.K H x) by simp,aH7 I rds r pd]
   exact q
  .obtain⟨its,r,pl,hz⟩:=I.tuple hq;refine SeqAt.notIn_tupleAt (aAk X.K H x) pl (λw hw=>aH8 I rx ra px rds r pd hin w (by simpa using hw)) ⟨.bl _,H,I,rfl,?_⟩
   rw[show its.toArray.any (aAk X.K H x)=its.any (aAk X.K H x) by simp,aH7 I rds r pd]
   exact q
 .refine aJo pins s σ H _ _ a b Q I ra rb ⟨_,_,rfl,rfl,?_⟩;rw[some_of];exact q
def aPb{K:Frag}:aAj K (bAo K false) dIn:=by
 intro A H x y d v u Q w rx ry e q;unfold dIn at e;split at e
 .obtain⟨c,e⟩:=aK e;cases e;rename_i t ks ds;have rxr:Rep K H x v:=rx.rep;obtain⟨a,o,e1,g,g1,_⟩:=aFm ry rxr c;exact .inl ⟨a,o,e1,g,by rw[g1];exact q _ H (bC.refl _) (cL.mpr rfl)⟩
 .obtain⟨c,e⟩:=aK e;cases e;obtain⟨p,zs,h1,h2,h3⟩:=ry.lst;exact .inr (.inl ⟨_,_,zs,p,h1,.inl h2,rx.rep,h3.mono (bI _ _),c.1,c.2.1,c.2.2,q _ H (bC.refl _) (cL.mpr rfl)⟩)
 .obtain⟨c,e⟩:=aK e;cases e;obtain⟨p,zs,h1,h2,h3⟩:=ry.tup;exact .inr (.inl ⟨_,_,zs,p,h1,.inr h2,rx.rep,h3.mono (bI _ _),c.1,c.2.1,c.2.2,q _ H (bC.refl _) (cL.mpr rfl)⟩)
 .cases e;exact .inr (.inr ⟨_,_,rx.str,ry.str,q _ H (bC.refl _) (cL.mpr rfl)⟩)
 .cases e
def oG{K:Frag}:aAj K (bAo K true) jA:=by
 intro A H x y d v u Q w rx ry e q;unfold jA at e;split at e
 .obtain⟨c,e⟩:=aK e;cases e;rename_i t ks ds;have rxr:Rep K H x v:=rx.rep;obtain⟨a,o,e1,g,g1,_⟩:=aFm ry rxr c;exact .inl ⟨a,o,e1,g,by rw[g1];exact q _ H (bC.refl _) (cL.mpr rfl)⟩
 .obtain⟨c,e⟩:=aK e;cases e;obtain⟨p,zs,h1,h2,h3⟩:=ry.lst;exact .inr (.inl ⟨_,_,zs,p,h1,.inl h2,rx.rep,h3.mono (bI _ _),c.1,c.2.1,c.2.2,q _ H (bC.refl _) (cL.mpr rfl)⟩)
 .obtain⟨c,e⟩:=aK e;cases e;obtain⟨p,zs,h1,h2,h3⟩:=ry.tup;exact .inr (.inl ⟨_,_,zs,p,h1,.inr h2,rx.rep,h3.mono (bI _ _),c.1,c.2.1,c.2.2,q _ H (bC.refl _) (cL.mpr rfl)⟩)
 .cases e;exact .inr (.inr ⟨_,_,rx.str,ry.str,q _ H (bC.refl _) (cL.mpr rfl)⟩)
 .cases e
end
end Pu
namespace Pu
open PySem PySem.Spec PyProof.Rows L2
section
variable{X:Cx}{B:List Addr}{a b e:Expr}{f g:Ex}{pos:Pos}
def aCo(i:Nat){x:Str} (he:PE X e (tI X.K B f)) (hN:X.N[i]?=some x:=by rfl) (hv:Vis X.env.scope x:=by first|exact Or.inl rfl|exact Or.inr (Or.inl rfl)|exact Or.inr (Or.inr rfl)) (hd:(x==("__debug__":Str))=false:=by decide)
  (hcd:(x==("__classdict__":Str))=false:=by decide) (hbase:attributeBase (.Name x p1) "append" X.env (eval (.Name x p1) X.env)=eval (.Name x p1) X.env:=by rfl)
  (hfew:((backTo cpos (starEach [e] X.env)).all (λx=>!x.1)&&(backToKw cpos (keywordEach [] X.env)).all (λx=>x.1.isSome)
   && decide (([e]:List Expr).length+([]:List Keyword).length+(if ([]:List Keyword).isEmpty then 0 else 1)<30))=true:=by rfl)
  (hline:(apos.endLine==cpos.line)=true:=by rfl) (hs:starEach [e] X.env=(false,eval e X.env)::starEach [] X.env:=by rfl)
  (hsw:swapsWith (.Call (.Attribute (.Name x p1) "append" apos) [e] [] cpos) none pos.line X.env=pure false:=by rfl) :
  PS X (.Expr (.Call (.Attribute (.Name x p1) "append" apos) [e] [] cpos) pos) (tS X.K B (aAi i f)):=by
 refine kZ (aPv (aUk bL2 bM1 PySem.F.type_list_append aSi (kJ hN hv hd hcd) (dF he gU hs) hbase hfew hline hs rfl) hsw) ?_
 rintro Dn σ H ⟨A,st,r,rs,hr,p⟩;obtain⟨d,hd,h3⟩:=R.ok_of hr;split at h3
 .rename_i xs e1;obtain⟨c,h4⟩:=aK h3;cases h4;obtain⟨l,o,vs,e2,m,h1,ko,q,u⟩:=rs.lst i _ xs e1;have eo:o=.lst vs:=ko;subst eo;refine⟨.ref l,e2,.inl ⟨rfl,vs,SqL.of h1⟩,A,st,d,rs,hd,λv H' s rv=>?_⟩
  have ql:=q.length;refine⟨l,vs,v,rfl,rfl,s _ _ h1,by rw[ql];rw[nG]at c;exact bJ1 c (by decide),?_⟩
  obtain⟨w1,w2⟩:=(rs.mono s).write e1 e2 (k1:=.l) (ds:=xs++[d]) (vs':=vs++[v]) rfl ((q.mono (bC.hide s)).append (.cons rv .nil));exact p A _ _ ((Le.of s).trans w2) w1
 .cases h3
def bGy(i:Nat) {j:Expr} (hj:PE X j (tP X.K B g)) (he:PE X e (tI X.K B f)) (hN:X.N[i]?=some x:=by rfl) (hv:Vis X.env.scope x:=by first|exact Or.inl rfl|exact Or.inr (Or.inl rfl)|exact Or.inr (Or.inr rfl)) (hd:(x==("__debug__":Str))=false:=by decide)
  (hcd:(x==("__classdict__":Str))=false:=by decide)
  (ha:∀v,assign (.Subscript (.Name x p1) j p2) X.env v=(do
   let ov <- holding [v] (eval (.Name x p1) X.env)
   let iv <- holding [v,ov] (eval j X.env)
   standAt p2
   holding [v,ov,iv] (setItem ov iv v)
   release [v,ov,iv] []):=by intro _;rfl)
  (hs:swapsWithSole [.Subscript (.Name x p1) j p2] e pos.line X.env=pure false:=by rfl) (hw:swappedStores [.Subscript (.Name x p1) j p2] e X.env=pure none:=by rfl)
  (h1:(assignEach [.Subscript (.Name x p1) j p2] X.env).map (·.2)=[assign (.Subscript (.Name x p1) j p2) X.env]:=by rfl) :
  PS X (.Assign [.Subscript (.Name x p1) j p2] e pos) (tS X.K B (aUt i g f)):=by
 refine kZ (aNr he (aU6 (kJ hN hv hd hcd) hj set_list ha) hs hw h1) ?_
 rintro Dn σ H ⟨A,st,r,rs,hr,p⟩;obtain⟨d,hd,h3⟩:=R.ok_of hr;obtain⟨y,hy,h4⟩:=R.ok_of h3;obtain⟨k,rfl,h5⟩:=aB4 h4;split at h5
 .rename_i xs e1;obtain⟨n,hn,h6⟩:=R.ok_of h5;cases h6;obtain⟨l,o,vs,e2,m,h1,ko,q,u⟩:=rs.lst i _ xs e1;have eo:o=.lst vs:=ko;subst eo;refine⟨A,st,d,rs,hd,λv H' s rv=>⟨.ref l,e2,A,st,_,rs.mono s,hy,λw H2 s2 rw2=>?_⟩⟩
  have ql:=q.length;have hk:L2.ixN vs.length k=some n:=by rw[ql,aMi];exact vY hn
  refine⟨l,vs,k,n,rfl,rw2.int,(s.trans s2) _ _ h1,hk,?_⟩;obtain⟨w1,w2⟩:=(rs.mono (s.trans s2)).write e1 e2 (k1:=.l) (ds:=xs.set n d) (vs':=vs.set n v) rfl (bD.set (rv.mono (bC.hide s2)) n (q.mono (bC.hide (s.trans s2))));exact p A _ _ ((Le.of (s.trans s2)).trans w2) w1
 .cases h5
def aRj(i:Nat) {dp:Pos} (hN:X.N.Nodup) (hi:X.N[i]?=some x:=by rfl) (hx:Loc X.env.scope x:=by first|exact Or.inl rfl|exact Or.inr rfl) (hs:swapsWith (.Dict [] [] dp) (some (.Name x pos')) pos.line X.env=pure false:=by rfl)
  (hf:X.fn x=true\/X.env.scope.names.lookup x=some .local:=by first|exact .inl rfl|exact .inr rfl|assumption):PS X (.Assign [.Name x pos'] (.Dict [] [] dp) pos) (tS X.K B (aIh i false)):=kZ (aD7 hN hi hx aUn hs hf) (by
 rintro Dn σ H ⟨A,st,r,rs,hr,p⟩;cases hr;exact λa ha=>p (a::A) _ _ (aGy ha) (rs.setO (kk:=.d false []) i ha (.inl ⟨rfl,[],rfl,rfl,rfl⟩) .nil))
def bGz:V->V->V->Hp->(Hp->Prop)->Prop:=λo i v H Q=>∃p H',o=.ref p/\aJv H p i v H'/\Q H'
def set_dict(hu:X.A.units+64<cLine):bCd X bGz:=by
 intro pins s σ H o i v ov iv u Q I ro ri rv h;obtain⟨p,H',rfl,g,q⟩:=h;cases ro;exact aSl (by omega) I g ri rv λs' I'=>⟨H',I',q⟩
def aKo(hu:X.A.units+64<cLine)(i:Nat) {j:Expr} (hj:PE X j (tI X.K B g)) (he:PE X e (tI X.K B f)) (hN:X.N[i]?=some x:=by rfl) (hv:Vis X.env.scope x:=by first|exact Or.inl rfl|exact Or.inr (Or.inl rfl)|exact Or.inr (Or.inr rfl)) (hd:(x==("__debug__":Str))=false:=by decide)
  (hcd:(x==("__classdict__":Str))=false:=by decide)
  (ha:∀v,assign (.Subscript (.Name x p1) j p2) X.env v=(do
   let ov <- holding [v] (eval (.Name x p1) X.env)
   let iv <- holding [v,ov] (eval j X.env)
   standAt p2
   holding [v,ov,iv] (setItem ov iv v)
   release [v,ov,iv] []):=by intro _;rfl)
  (hs:swapsWithSole [.Subscript (.Name x p1) j p2] e pos.line X.env=pure false:=by rfl) (hw:swappedStores [.Subscript (.Name x p1) j p2] e X.env=pure none:=by rfl)
  (h1:(assignEach [.Subscript (.Name x p1) j p2] X.env).map (·.2)=[assign (.Subscript (.Name x p1) j p2) X.env]:=by rfl) :
  PS X (.Assign [.Subscript (.Name x p1) j p2] e pos) (tS X.K B (sDPut i g f)):=by
 refine kZ (aNr he (aU6 (kJ hN hv hd hcd) hj (set_dict hu) ha) hs hw h1) ?_
 rintro Dn σ H ⟨A,st,r,rs,hr,p⟩;obtain⟨d,hd,h3⟩:=R.ok_of hr;obtain⟨k,hk,h5⟩:=R.ok_of h3;split at h5
 .rename_i t ks ds e1;obtain⟨c,h6⟩:=aK h5;cases h6;obtain⟨l,o,vs,e2,m,h1,ko,q,u⟩:=rs.lst i _ _ e1;refine⟨A,st,d,rs,hd,λv H' s rv=>⟨.ref l,e2,A,st,k,rs.mono s,hk,λw H2 s2 rk=>?_⟩⟩
  have hl:H2 l=some o:=(s.trans s2) _ _ h1;have q2:=q.mono (bC.hide (s.trans s2));have rv2:=rv.mono (bC.hide s2);have rk2:Rep X.K H2 k w:=rk.mono (bI _ _);have hlen:ds.length<sizeLine:=by have:=c.2;rw[nG]at this;exact bJ1 this (by decide)
  have ql:=q.length;rcases ko with ⟨rfl,kvs,rfl,rfl,rfl⟩|⟨rfl,kvs,rfl,rfl,rfl⟩
  .obtain⟨k',e3,e4⟩:=aBl rk2 c.1;subst e3 e4;obtain⟨z1,z2⟩:=aRc aKg k' v d rv2 kvs ds q2;refine⟨l,_,rfl,aJv.k hl (by rw[bJ9]at ql;omega),?_⟩
   obtain⟨w1,w2⟩:=(rs.mono (s.trans s2)).write e1 e2 (k1:=.d false (wR (kvs.map λp=>jX p.1) (jX k'))) (.inl ⟨rfl,putK kvs k' v,rfl,z1,rfl⟩) z2
   exact p A _ _ ((Le.of (s.trans s2)).trans w2) w1
  .obtain⟨k',b,e3,e4,e5⟩:=aEw rk2 c.1;subst e3 e4;obtain⟨z1,z2⟩:=aRc (E:=λl=>D.tup (l.map jX)) aMk k' v d rv2 kvs ds q2
   refine⟨l,_,rfl,aJv.t hl e5 (by rw[bJ9]at ql;omega),?_⟩
   obtain⟨w1,w2⟩:=(rs.mono (s.trans s2)).write e1 e2 (k1:=.d true (wR (kvs.map λp=>D.tup (p.1.map jX)) (.tup (k'.map jX)))) (.inr ⟨rfl,putK kvs k' v,rfl,z1,rfl⟩) z2
   exact p A _ _ ((Le.of (s.trans s2)).trans w2) w1
 .cases h5
end
section
open PySem.SeqAt
open PySem.AutoSeq1 (wpAny_loadPart')
open PySem.MeetsSeq PySem.MeetsSeq2 PySem.MeetsSeq3
inductive LexV (A:Around) (s:Shared):List Value->List Value->Bool->Prop where
 |nn:LexV A s [] [] false
 |nc {w:Value} {ws:List Value}:LexV A s [] (w::ws) true
 |cn {v:Value} {vs:List Value}:LexV A s (v::vs) [] false
 |eq {v w:Value} {vs ws:List Value} {b:Bool}:EqAt A s v w true->LexV A s vs ws b->LexV A s (v::vs) (w::ws) b
 |lt {v w:Value} {vs ws:List Value} {b:Bool}:EqAt A s v w false->(∀(prog:Program)(wd:World)(E Q:Value->Shared->Prop),Q (.bool b) s->wpAny (model prog wd) A (richCompare .Lt v w) Q E s)->LexV A s (v::vs) (w::ws) b
end
structure ClsAt(K:Frag)(c:String)(C:Addr):Prop where
 ns:nsIn K mainGlobals (Str.ofString c)=some (some (.ref C))
 cl:Cls K C
def wB{a b:String}(h:Str.ofString a=Str.ofString b):a=b:=by
 have h1:(Str.ofString a).cps=(Str.ofString b).cps:=by rw[h]
 rw[Str.ofString_eq_toList,Str.ofString_eq_toList]at h1;have h2:a.toList.map Char.toNat=b.toList.map Char.toNat:=by
  have:=congrArg Array.toList h1;simpa using this
 have inj:∀(x y:List Char),x.map Char.toNat=y.map Char.toNat->x=y:=by
  intro x
  induction x with
  |nil=>intro y h;cases y with|nil=>rfl|cons _ _=>simp at h
  |cons a x ih=>
   intro y h;cases y with
   |nil=>simp at h
   |cons b y=>
    rw[bJ5,bJ5]at h;injection h with h3 h4
    rw[ih y h4];congr 1;exact Char.ext (UInt32.toNat_inj.mp h3)
 exact String.toList_inj.mp (inj _ _ h2)
section
variable{K:Frag}
theorem aH9{f:String}:∀{ns:List String}{ds:List D} {fs:List (Str×V)} {d:D},fs.map (·.1)=ns.map Str.ofString->bD K H ds (fs.map (·.2))->(ns.zip ds).lookup f=some d->∃v,fs.lookup (Str.ofString f)=some v/\Rep K H d v
 |[],ds,fs,d,_,_,h=>by simp at h
 |n::ns,[],fs,d,_,_,h=>by simp at h
 |n::ns,d0::ds,[],d,e,_,h=>by simp at e
 |n::ns,d0::ds,(g,w)::fs,d,e,r,h=>by
  rw[bJ5,bJ5]at e;injection e with e1 e2
  obtain⟨v,r',e3,h1,h2⟩:=bK.mp r;rw[bJ5]at e3;injection e3 with e4 e5
  subst e4 e5;have e1':g=Str.ofString n:=e1;subst e1';rw[bLu,bK9]at h;rw[bK9]
  by_cases hf:f=n
  .subst hf;simp only[beq_self_eq_true]at h ⊢;cases h;exact⟨_,rfl,h1⟩
  .have hb:(f==n)=false:=bK0.mpr hf;have hb2:(Str.ofString f==Str.ofString n)=false:=bK0.mpr λz=>hf (wB z)
   rw[hb]at h;rw[hb2];exact aH9 e2 h2 h
theorem lookup_none{f:String}:∀{ns:List String} {fs:List (Str×V)},fs.map (·.1)=ns.map Str.ofString->f∉ns->fs.lookup (Str.ofString f)=none
 |[],fs,e,_=>by cases fs with|nil=>rfl|cons _ _=>simp at e
 |n::ns,[],e,_=>rfl
 |n::ns,(g,w)::fs,e,h=>by
  rw[bJ5,bJ5]at e;injection e with e1 e2
  have e1':g=Str.ofString n:=e1;subst e1';rw[bK9];have hb2:(Str.ofString f==Str.ofString n)=false:=bK0.mpr λz=>h (by rw[wB z];exact bIm)
  rw[hb2];exact lookup_none e2 λz=>h (bIl _ z)
theorem aMu{f:String}{v:V}:∀{ns:List String} {fs:List (Str×V)},fs.map (·.1)=ns.map Str.ofString->f∉ns->xN (Str.ofString f) v fs=fs++[(Str.ofString f,v)]
 |[],fs,e,_=>by cases fs with|nil=>rfl|cons _ _=>simp at e
 |n::ns,[],e,_=>by simp at e
 |n::ns,(g,w)::fs,e,h=>by
  rw[bJ5,bJ5]at e;injection e with e1 e2
  have e1':g=Str.ofString n:=e1;subst e1';unfold xN;rw[bIt (λz=>h (by rw[wB z];exact bIm)),aMu e2 λz=>h (bIl _ z)]
  rfl
end
section
variable{X:Cx}{B:List Addr}{a b e o:Expr}{f g:Ex}{pos:Pos}
theorem kY.ins{K:Frag}{A:List Addr}{H:Hp}{c:String}{ns:List String}{ds:List D}{v:V}(h:kY K A H (.ins c ns ds) v):∃p C dx fs,v=.ref p/\H p=some (.ins C dx fs)/\nsIn K mainGlobals (Str.ofString c)=some (some (.ref C))/\fs.map (·.1)=ns.map Str.ofString/\bD K (hide A H) ds (fs.map (·.2)):=by
 rcases h with h|⟨p,kk,o,ds',vs,e,e2,h,ko,r⟩
 .obtain⟨p,C,dx,fs,vs,e,q1,q2,q3,q4,r⟩:=aA9.mp h;subst q4;exact⟨p,C,dx,fs,e,bI _ _ _ _ q1,q2,q3,r⟩
 .cases kk<;>cases e;obtain⟨_,C,dx,fs,rfl,q2,q3,rfl⟩:=ko;exact⟨p,C,dx,fs,e2,h,q2,q3,r⟩
def aAx{c f':String} (hc:ClsAt X.K c C) (hn:kO X.K C (Str.ofString f')) (ho:PE X o (tP X.K B f)) (hb:attributeBase o (Str.ofString f') X.env (eval o X.env)=eval o X.env:=by rfl) :
  PE X (.Attribute o (Str.ofString f') pos) (tI X.K B (e1 (nM c f') f)):=by
 refine cN (bCq ho hb) ?_
 rintro σ H Q ⟨A,st,d,rs,hd,q⟩;obtain⟨x,hx,h2⟩:=R.ok_of hd;refine⟨A,st,x,rs,hx,λv H1 s1 r1=>?_⟩
 cases x<;>first|(cases h2;done)|skip
 obtain⟨e1,h3⟩:=aK h2;subst e1;obtain⟨p,C',dx,fs,e2,h4,h5,h6,h7⟩:=r1.ins;have:C'=C:=by have z:=h5.symm.trans hc.ns;injection z with z;injection z with z;injection z
 subst this;obtain⟨w,h8,h9⟩:=aH9 h6 h7 (vY h3);exact⟨p,C',dx,fs,w,e2,h4,hc.cl,hn,h8,q w H1 s1 h9⟩
structure MethOk(P:Program)(w:World)(K:Frag)(mg:Str->Option Value)(base:Heap)(c m:String)(k np:Nat)(dv:List D)(p:List D->R D):Prop where
 ex:∃(C fa:Addr)(fd:FuncData)(ps:List Str)(dvs:List V)(ds:List Value),ClsAt K c C/\Meth K C (Str.ofString m) fa/\FnOk P w K mg base CX0 k fa fd ps (spI K np p)/\Binds K fd ps ds/\Vals dvs ds/\∀H,bD K H dv dvs
 len:∀ds d,p ds=.ok d->ds.length=np
def bE4{c m:String}{k:Nat} {r:Exs} {pl:Sem Bool} (h:MethOk X.prog X.w X.K X.mg X.base c m k np dv p) (hr:Room j X.A) (hk:k<=j) (ho:PE X o (tI X.K B f)) (ha:PA X (e::es) (tA X.K B r))
  (hst:starEach (e::es) X.env=(false,eval e X.env)::starEach es X.env:=by rfl) (hpl:(backTo pos (starEach es X.env)).any (·.1)=false:=by rfl)
  (ht:eval (.Call (.Attribute o (Str.ofString m) apos) (e::es) [] pos) X.env=(do
   let ov <- eval o X.env
   standAt apos.atName
   let (f,first) <- holding [ov] (getMethod ov (Str.ofString m) pl)
   callWith pos f first (backTo pos (starEach (e::es) X.env)) (backToKw pos (keywordEach [] X.env))):=by rfl) :
  PE X (.Call (.Attribute o (Str.ofString m) apos) (e::es) [] pos) (tI X.K B (aLl c m p dv f r)):=by
 obtain⟨C,fa,fd,ps,dvs,ds,hc,hm,F,bd,vd,rd⟩:=h.ex;refine cN (aYo (pl:=pl) ho hc.cl hm F (hr.mono hk) bd vd aQ2 ha hst hpl ht) ?_
 rintro σ H Q ⟨A,st,d,rs,hd,q⟩;obtain⟨x,hx,h2⟩:=R.ok_of hd;obtain⟨xs,hxs,h3⟩:=R.ok_of h2;refine⟨A,st,x,rs,hx,λv H1 s1 r1=>?_⟩
 cases x<;>first|(cases h3;done)|skip
 obtain⟨⟨e1,hn⟩,h4⟩:=aK h3;subst e1;obtain⟨p',C',dx,fs,e2,h5,h6,h7,h8⟩:=kY.ins (.inl r1);have:C'=C:=by have z:=h6.symm.trans hc.ns;injection z with z;injection z with z;injection z
 subst this;refine⟨p',dx,fs,e2,h5,lookup_none h7 hn,A,st,xs,rs.mono s1,hxs,λvs H2 s2 r2=>?_⟩
 exact⟨A++B,_,d,rs.own.mono (s1.trans s2),.cons (r1.mono (bC.hide s2)) (r2.append (rd _)),h.len _ _ h4,h4,λw H' s' r'=>q w H' (s1.trans (s2.trans s')) r'⟩
def spM(K:Frag)(c:String)(np:Nat)(p:List D->R D):Sp:=λvs H Q _=>∃x ws A C dx ds d,vs=.ref x::ws/\H x=some (.ins C dx [])/\nsIn K mainGlobals (Str.ofString c)=some (some (.ref C))/\Own A H/\x∉A/\bD K (hide (x::A) H) ds ws/\ds.length=np/\p ds=.ok d/\
 ∀H',bC (hide [x] H) H'->Rep K (hide A H') d (.ref x)->Q .non H'
structure MakeOk(P:Program)(w:World)(K:Frag)(mg:Str->Option Value)(base:Heap)(c:String)(k np:Nat)(p:List D->R D):Prop where
 ex:∃(C fa:Addr)(fd:FuncData)(ps:List Str),ClsAt K c C/\Mk K C fa/\FnOk P w K mg base CX0 k fa fd ps (spM K c np p)/\Binds K fd ps []/\mg (Str.ofString c)=some (.ref C)
 len:∀ds d,p ds=.ok d->ds.length=np
def bE5{c:String}{k:Nat} {r:Exs} (h:MakeOk X.prog X.w X.K X.mg X.base c k np p) (hr:Room j X.A) (hk:k+1<=j) (ha:PA X (e::es) (tA X.K B r)) (hg:Gl X (Str.ofString c):=by rfl) (hdb:(Str.ofString c==("__debug__":Str))=false:=by decide)
  (he:starEach (e::es) X.env=(false,eval e X.env)::starEach es X.env:=by rfl) (hpl:(backTo pos (starEach es X.env)).any (·.1)=false:=by rfl):PE X (.Call (.Name (Str.ofString c) p0) (e::es) [] pos) (tI X.K B (aN p r)):=by
 obtain⟨C,fa,fd,ps,hc,M,F,bd,hm⟩:=h.ex;refine cN (aYp M F (hr.mono hk) hg hm bd .nil aQ2 ha hdb he hpl) ?_
 rintro σ H Q ⟨A,st,d,rs,hd,q⟩;obtain⟨xs,hx,h2⟩:=R.ok_of hd;refine⟨A,st,xs,rs,hx,λvs H1 s1 r1 x dx hx0 hdx hne=>?_⟩
 have w1:=rs.own.mono s1;have hxA:x∉A++B:=w1.free hx0;have e0:∀b u,H1 b=some u->upd (upd H1 dx (.own x)) x (.ins C dx []) b=some u:=λb u z=>by
  rw[aY (aX z hx0),aY (aX z hdx)];exact z
 refine⟨x,vs++[],A++B,C,dx,xs,d,rfl,bJ,hc.ns,λb hb=>?_,hxA,?_,h.len _ _ h2,h2,λH' sm rd=>⟨rfl,q _ H' (λb u z=>?_) rd⟩⟩
 .obtain⟨u,z⟩:=bKx.mp (w1 b hb);rw[e0 b u z];rfl
 .rw[bKi];refine r1.mono λb u z=>?_
  have z1:=bI _ _ _ _ z;have hb:b∉A++B:=λy=>by rw[eU y]at z;cases z
  rw[bZ (λy=>(bIq.mp y).elim (aX z1 hx0) hb)]
  exact e0 b u z1
 .have z1:=s1 _ _ z;exact sm b u (by rw[bZ (by simpa using aX z1 hx0)];exact e0 b u z1)
def aTc{K:Frag} {x dx:Addr} {c:String} (w:Own A H) (hxA:x∉A) (hx:H x=some (.ins C dx [])) (hns:nsIn K mainGlobals (Str.ofString c)=some (some (.ref C))) (r:bD K (hide (x::A) H) ds ws) :
  RS K A [x] H (some (Sl.o (.i x c []) [])::(ds.map (λd=>some (Sl.v d))++List.replicate (N.length-ds.length-1) none)) (L2.start N (.ref x::ws)):=by
 have hl:=r.length;have sh:L2.start N (.ref x::ws)=some (.ref x)::(ws.map some++List.replicate (N.length-ds.length-1) none):=by
  unfold L2.start;rw[bJ5,bM6,bJ7,hl];congr 2
 rw[sh];have nov:∀(i:Nat)(s:Sl),(ds.map (λd=>some (Sl.v d))++List.replicate (N.length-ds.length-1) none)[i]?=some (some s)->∃d,ds[i]?=some d/\s=.v d:=λi s e=>by
  by_cases hi:i<ds.length
  .rw[bJg (by simpa using hi),List.getElem?_map,List.getElem?_eq_getElem hi]at e
   simp at e;exact⟨ds[i],bIj hi,e.symm⟩
  .rw[bJu (by simpa using hi),List.getElem?_replicate]at e
   split at e<;>simp at e
 refine⟨by simp[hl],λb hb=>?_,λb hb=>by rw[bIu.mp hb];exact hxA,λi d e=>?_,λi k xs e=>?_⟩
 .rcases bJb.mp hb with hb|hb
  .rw[bIu.mp hb,hx];rfl
  .exact w b hb
 .cases i with
  |zero=>simp at e
  |succ i=>
   rw[bKo]at e;obtain⟨d',e1,e2⟩:=nov i _ e;cases e2;obtain⟨v,hv,rv⟩:=r.get e1;refine⟨v,?_,rv⟩;have hi:i<ws.length:=(bIk.mp hv).1;rw[bKo,bJg (by simpa using hi),List.getElem?_map,hv]
   rfl
 .cases i with
  |zero=>
   simp at e;obtain⟨rfl,rfl⟩:=e;refine⟨x,_,[],rfl,bIu.mpr rfl,hx,⟨rfl,C,dx,[],rfl,hns,rfl,rfl⟩,.nil,λj k' ys ej _=>?_⟩
   cases j with
   |zero=>rfl
   |succ j=>
    rw[bKo]at ej;obtain⟨_,_,e2⟩:=nov j _ ej;cases e2
  |succ i=>
   rw[bKo]at e;obtain⟨_,_,e2⟩:=nov i _ e;cases e2
def bAp{K:Frag} {st:Stmt} {f:Addr} {k:Nat} (F:Fun K x qual st f fd) (S:FnScope N ps (aG st)) (c:String) (np n:Nat) (bd:Bd) (hnp:ps.length=np+1) (hn:N.length=n)
  (hb:∀(cdv:Value)(A:Around)(outer:List Env)(s:Shared)(H:Hp)(E:XK)(B:List Addr),Room k (A.deeper (envOfC qual (aG st) s.heap.objs.size f cdv))->
   PSs (aF6 CX0 P w K mg base N qual (aG st) f cdv A outer s H E).nox (dJ st) (tS K B bd)):FnOk P w K mg base CX0 (k+1) f fd ps (spM K c np (aJy c np n bd)):=by
 refine F.ok S (λvs H Q E h=>?_) (λcdv A outer s H vs Q E hr h=>?_)
 .obtain⟨y,ws,A,C,dx,ds,d,rfl,_,_,_,_,r,hl,_⟩:=h;rw[bJ7,r.length,hl,hnp]
 .obtain⟨y,ws,A',C,dx,ds,d,rfl,hy,hns,own,hyA,r,hl,hp,q⟩:=h;refine⟨tS K A' bd,hb cdv A outer s H E A' hr,?_⟩;obtain⟨_,h2⟩:=aK (aQ7 hp y);obtain⟨fl,hfl,h3⟩:=R.ok_of h2;have rs:=aTc (N:=N) (c:=c) own hyA hy hns r;rw[hl,hn]at rs;refine⟨[y],_,fl,rs,hfl,?_⟩;cases fl with
  |nx s1=>
   intro A1 σ1 H1 l rs1;have h3':(match (s1[0]?:Option (Option Sl)) with|some (some (.o (.i y' c' ns) xs))=>aV (y'=y) (R.ok (D.ins c' ns xs))|_=>.bad)=.ok d:=h3
   split at h3'
   .rename_i y' c' ns xs e1;obtain⟨rfl,h4⟩:=aK h3';cases h4;obtain⟨a,o,vs,e2,m,h5,ko,r5,_⟩:=rs1.lst 0 _ _ e1;have ea:a=y':=ko.1;subst ea;refine q H1 (bC.trans (show bC (hide [a] H) (hide A1 H1) from l) (bI _ _)) ?_
    have:=ko.rep (H:=hide A' H1) (ds:=xs) (by rw[bZ (rs1.dis a m)];exact h5) (r5.mono (jZ λb hb=>bIo _ hb))
    exact this
   .cases h3'
  |rt d'=>cases h3
  |bk s1=>cases h3
  |ct s1=>cases h3
def aXb{c:String} (ds:List D) (d:D) (h:aJy c np n bd ds=.ok d):ds.length=np:=(aK (aQ7 h 0)).1
def aKp(i:Nat) {c f':String} {value:Expr} (hc:ClsAt X.K c C) (hn:kO X.K C (Str.ofString f')) (he:PE X value (tI X.K B f)) (hN:X.N[i]?=some x:=by rfl) (hv:Vis X.env.scope x:=by first|exact Or.inl rfl|exact Or.inr (Or.inl rfl)|exact Or.inr (Or.inr rfl)) (hd:(x==("__debug__":Str))=false:=by decide)
  (hcd:(x==("__classdict__":Str))=false:=by decide) (hs:swapsWith value (some (.Attribute (.Name x p1) (Str.ofString f') p2)) pos.line X.env=pure false:=by rfl) :
  PS X (.Assign [.Attribute (.Name x p1) (Str.ofString f') p2] value pos) (tS X.K B (aIi i c f' f)):=by
 refine kZ (bCr (kJ hN hv hd hcd) he hs) ?_
 rintro Dn σ H ⟨A,st,r,rs,hr,p⟩;obtain⟨d,hd,h3⟩:=R.ok_of hr;split at h3
 .rename_i n c' ns xs e1;obtain⟨⟨ec,hf,hlen⟩,h4⟩:=aK h3;subst ec;cases h4;obtain⟨l,o,vs,e2,m,h1,ko,q,u⟩:=rs.lst i _ _ e1;obtain⟨el,C',dx,fs,rfl,k1,k2,rfl⟩:=ko;have:C'=C:=by have z:=k1.symm.trans hc.ns;injection z with z;injection z with z;injection z
  subst this;refine⟨A,st,d,rs,hd,λy H1 s1 r1=>⟨.ref l,e2,l,C',dx,fs,rfl,s1 _ _ h1,hc.cl,hn,?_,?_⟩⟩
  .have:=congrArg List.length k2;rw[bJ9,bJ9]at this;omega
  .rw[aMu k2 hf];obtain⟨w1,w2⟩:=(rs.mono s1).write e1 e2 (k1:=.i n c' (ns++[f'])) (o':=.ins C' dx (fs++[(Str.ofString f',y)])) (ds:=xs++[d]) (vs':=fs.map (·.2)++[y]) ⟨el,C',dx,_,rfl,k1,by rw[bJs,bJs,k2];rfl,by rw[bJs];rfl⟩ ((q.mono (bC.hide s1)).append (.cons r1 .nil))
   exact p A _ _ ((Le.of s1).trans w2) w1
 .cases h3
def aCp:PS X sm (tS X.K B qQ):=λ_ _ _ _ _ _ ⟨_,_,_,_,h,_⟩=>nomatch h
end
section
variable {iter c:Expr} {t:Tg} {u:Ex}
def aE1{H3 H5:Hp}{s3 s5:Shared}{fp:List Addr}{p:Addr}{m5:Str->Option Value} (hN:X.N.Nodup) (hi:X.N[i]?=some x) (hx:Loc X.env.scope x)
  (hf:X.fn x=true\/X.env.scope.names.lookup x=some .local) (hC:s3.heap.objs.size<=C) (I3:Inv X pins σ H3 s3) (hfp:∀b∈fp,aBx X pins H3 b) (I5:Inv (cH X scope C s3 H3 fp) [] τ H5 s5) (hn5:s5.heap.Ns C m5)
  (hQ:∀s',Inv X pins (σ.set i (some (.ref p))) H5 s'->Qf .none s'):compPost (model X.prog X.w) X.A X.xe (some (assign (.Name x px) X.env)) Qf (.ref p) C (.ok .next) s5:=by
 have I5':Inv X pins σ H5 {s5 with heap:=s5.heap}:=aKl I3 hfp hC I5 (.refl ..)
 have lt:∀b o,s3.heap.get? b=some o->C≠b:=λb o e z=>bJv _ (bJ1 (bJ2 (z ▸ e)) hC)
 have hL:C≠X.env.locals:=λz=>bJv _ (bJ1 (z ▸ I3.lt) hC)
 have hc:∀y c,X.env.cells.lookup y=some c->c≠C:=λy c e=>by
  obtain⟨v,o,ho,_⟩:=I3.cell y c e;exact(lt c o ho).symm
 have hp:∀q∈X.pn++pins,q.1≠C:=λq hq=>(lt q.1 q.2 (I3.pin q hq).1).symm
 show wpAny _ X.A (assign (.Name x px) X.env (.ref p)) _ _ _;refine wpAny_assign_Name (aI7 (v:=.ref p) I5' hN hi hx rfl (λs6 I6 ⟨a,hs,ha⟩=>?_) hf)
 have hCa:C≠a:=by
  rcases ha with z|z
  .rw[z];exact hL
  .exact(hc x a z).symm
 refine⟨m5,hn5.sameBut hs hCa,λh' hs'=>hQ _ ?_⟩
 exact I6.turned (t':=s6.toks) (λb o hb e=>(hs'.2 b hb).trans e) (show H5 C=none from I5.free) hL (.inr (bJj I3.sz hC)) hc hp
def aMv(i:Nat){x:Str} (is:List Nat) (hsub:aJ7 is t) (S:CScope X scope is) (hi:L2.PI X tg iter (tIt X.K B it)) (hg:∀(B:List Addr)(C:Addr)(s₀:Shared)(H₀:Hp)(fp:List Addr),PG (cH X scope C s₀ H₀ fp) tg (tG X.K B t))
  (ht:∀(B:List Addr)(C:Addr)(s₀:Shared)(H₀:Hp)(fp:List Addr),PT (cH X scope C s₀ H₀ fp) c (tT X.K B u))
  (he:∀(B:List Addr)(C:Addr)(s₀:Shared)(H₀:Hp)(fp:List Addr),PE (cH X scope C s₀ H₀ fp) elt (tI X.K B f)) (hc:X.calm=true) (hN:X.N.Nodup) (hi':X.N[i]?=some x:=by rfl) (hx:Loc X.env.scope x:=by first|exact Or.inl rfl|exact Or.inr rfl)
  (hsw:swapsWith (.ListComp elt [⟨tg,iter,[c],0⟩] scope pos) (some (.Name x px)) spos.line X.env=pure true:=by rfl)
  (hf:X.fn x=true\/X.env.scope.names.lookup x=some .local:=by first|exact .inl rfl|exact .inr rfl|assumption) (hs:∀x,foldedSetIterable iter X.env x=pure x:=by intro _;rfl) :
  PS X (.Assign [.Name x px] (.ListComp elt [⟨tg,iter,[c],0⟩] scope pos) spos) (tS X.K B (cR i (cC is t it u f))):=by
 intro pins s σ H Dn I h;obtain⟨A,st,r,rs,hr,q⟩:=h;obtain⟨d,hd,h3⟩:=R.ok_of hr;cases h3;obtain⟨xs,hx',h2⟩:=R.ok_of hd;obtain⟨hl,h3⟩:=aK h2;obtain⟨ys,hy,h4⟩:=R.ok_of h3;cases h4;rw[bMd _ _ _ _ hsw];refine bIh (bLg (bIh ?_));show wpAny _ X.A (do let _ <- comprehension (.ListComp elt [⟨tg,iter,[c],0⟩] scope pos) scope X.env _ (newList []) false (eval iter X.env) (some (assign (.Name x px) X.env))) _ _ s
 refine bIh (bKf (Q:=λ_ s'=>SP X pins Dn .next s') ?_ (λ_ s' hq=>bIx (bIx hq)) λ_ _ e=>e)
 exact vC (use:=some (assign (.Name x px) X.env)) (Qf:=λ_ s'=>SP X pins Dn .next s') (Q:=λv H'=>Dn.nx (σ.set i (some v)) H') (tt:=tTx X.K u) (te:=tIx X.K f) (rest:=λenv it p=>isTrue c env (eval c env) >>= λok=>if ok=true then (eval elt env >>= λx=>call (.builtin "list.append") [p,x] >>= λ_=>again (.compLoop (.ListComp elt [⟨tg,iter,[c],0⟩] scope pos) 0 it p env)) else again (.compLoop (.ListComp elt [⟨tg,iter,[c],0⟩] scope pos) 0 it p env)) S hc hi (λC s₀ H₀ fp=>bAi λB=>hg B C s₀ H₀ fp) (λ_ _ _=>rE)
  (λC s₀ H₀ fp it p s Q h=>bE2 (Y:=cH X scope C s₀ H₀ fp) h) (λC s₀ H₀ fp it p τ H s pins vs N Q I h q=>aX3 (Y:=cH X scope C s₀ H₀ fp) rfl (bAh λB=>he B C s₀ H₀ fp) (bGs λB=>ht B C s₀ H₀ fp) τ H s pins vs N Q I h (λ_ Q Q' m h=>aCm Q Q' m h) q) hs I
  (aRf hsub (λτ H Q h=>h) rs hx' hl hy λp vs H1 H' s1 hp s2 hv r=>aP7 (Q:=λv H'=>Dn.nx (σ.set i (some v)) H') rs (λv H' sm rv=>q A _ H' (Le.of sm) ((rs.mono sm).set i rv)) s1 hp s2 hv r) λC p H5 s5 m5 s3 H3 fp τ hC I3 hfp I5 hn5 q5=>aE1 hN hi' hx hf hC I3 hfp I5 hn5 λs' I'=>⟨_,_,I',q5⟩
end
structure FunD(K:Frag)(x qual:Str)(st:Stmt)(dV:Value)(f:Addr)(fd:FuncData):Prop where
 ex:∃(oc:Value)(od:Option Addr)(kV doc pm:Value)(an:Option Addr)(cdv ct:Value) (osl:Array (Option Value)),
  fd=fnOf x qual (gW st) (dJ st) (aG st) dV kV doc pm an cdv ct/\K.lookup f=some ⟨oc,od,.func fd,osl⟩/\codeIn K cdv qual=true
 kp:keepIn K (.ref f)=true
section
variable {K:Frag} {st:Stmt} {f:Addr} {k:Nat}
def aKq{od an:Option Addr} {kV doc pm cdv ct:Value} (l:K.lookup f=some ⟨oc,od,.func (fnOf x qual (gW st) (dJ st) (aG st) dV kV doc pm an cdv ct),osl⟩)
  (c:codeIn K cdv qual=true) (k:keepIn K (.ref f)=true):FunD K x qual st dV f (fnOf x qual (gW st) (dJ st) (aG st) dV kV doc pm an cdv ct):=⟨⟨oc,od,kV,doc,pm,an,cdv,ct,osl,rfl,l,c⟩,k⟩
def FunD.binds0(F:FunD K x qual st .none f fd)
  (h:∀(kV doc pm:Value)(an:Option Addr)(cdv ct:Value)(us:List Value),us.length=ps.length->bindArgs (fnOf x qual (gW st) (dJ st) (aG st) .none kV doc pm an cdv ct) ⟨us,[]⟩=pure (ps.zip us)):Binds K fd ps []:=by
 obtain⟨oc,od,kV,doc,pm,an,cdv,ct,osl,rfl,lk,hcd⟩:=F.ex;exact .all (h kV doc pm an cdv ct)
def FunD.okX{sp:Sp}(F:FunD K x qual st dV f fd)(S:FnScope N ps (aG st))(len:∀vs H Q E,sp vs H Q E->vs.length=ps.length)
  (hbody:∀(cdv:Value)(A:Around)(outer:List Env)(s:Shared)(H:Hp)(vs:List V)(Q:VK)(E:XK),Room k (A.deeper (envOfC qual (aG st) s.heap.objs.size f cdv))->sp vs H Q E->
   ∃t,PSs (aF6 CX0 P w K mg base N qual (aG st) f cdv A outer s H E).nox (dJ st) t/\t {nx:=λ_ H'=>Q .non H',rt:=Q} (L2.start N vs) H):FnOk P w K mg base CX0 (k+1) f fd ps sp:=by
 obtain⟨oc,od,kV,doc,pm,an,cdv,ct,osl,rfl,lk,hcd⟩:=F.ex;refine bBj lk hcd S len λA outer s H vs Q E hr hsp=>?_
 obtain⟨t,h,q⟩:=hbody cdv A outer s H vs Q E hr hsp;exact⟨t,h.nox,q⟩
def cW(F:FunD K x qual st dV f fd)(S:FnScope N ps (aG st))(np n:Nat)(bd:Bd)(hnp:ps.length=np)(hn:N.length=n)
  (hb:∀(cdv:Value)(A:Around)(outer:List Env)(s:Shared)(H:Hp)(E:XK)(B:List Addr),Room k (A.deeper (envOfC qual (aG st) s.heap.objs.size f cdv))->
   PSs (aF6 CX0 P w K mg base N qual (aG st) f cdv A outer s H E).nox (dJ st) (tS K B bd)):FnOk P w K mg base CX0 (k+1) f fd ps (spI K np (dC np n bd)):=by
 refine F.okX S (λvs H Q E h=>?_) (λcdv A outer s H vs Q E hr h=>?_)
 .obtain⟨A,ds,d,own,r,hl,_⟩:=h;rw[r.length,hl,hnp]
 .obtain⟨B,ds,d,own,r,hl,hp,q⟩:=h;refine⟨tS K B bd,hb cdv A outer s H E B hr,?_⟩;obtain⟨_,h2⟩:=aK hp;obtain⟨fl,hfl,h3⟩:=R.ok_of h2;have rs:=aCl (N:=N) own r;rw[hl,hn]at rs;refine⟨[],_,fl,rs,hfl,?_⟩;have fin:∀{A':List Addr}{H':Hp},Le [] H A' H'->bC H H':=λ{A' H'} l=>by
   unfold Le at l;rw[vB]at l;exact l.trans (bI _ _)
  cases fl with
  |nx s1=>
   cases h3;exact λA' σ' H' l rs'=>q _ H' (fin l) (jY.mpr rfl)
  |rt d'=>
   cases h3;exact λA' v H' l rv=>q v H' (fin l) (rv.mono (jZ λa ha=>bIo _ ha))
  |bk s1=>exact nomatch h3
  |ct s1=>exact nomatch h3
end
end Pu
namespace Pu
open PySem PySem.Spec PyProof.Rows L2 PySem.SeqAt
section
variable {a o:Expr} {r:Exs}
def aHa:nA X (.type "list") (λvs H Q=>∃l xs,vs=[.ref l]/\(SqL X.K H l xs\/SqT X.K H l xs)/\∀n,H n=none->Q (.ref n) (upd H n (.lst xs))):=by
 intro pins s σ H vs us Q I r h;obtain⟨l,xs,rfl,hl,q⟩:=h;obtain⟨u,rfl,ru⟩:=r.one;obtain rfl:u=Value.ref l:=ru;rcases hl with hl|hl
 .obtain⟨its,rv,⟨ob,n,e,hc,_,hd⟩,hz⟩:=I.list hl;refine call_list_seq l (T:="list") (.inl rfl) e hc hd (λh' c' k hn=>?_) (by rw[rv.length]at hz;simpa using hz)
  exact⟨.ref s.heap.objs.size,_,I.laid (o:=.lst xs) (t':=s.toks) k (bIn _) ⟨hz,its,c',rv,hn⟩,rfl,q _ (I.hok.fresh (bIn _))⟩
 .obtain⟨its,rv,⟨ob,e,hc,n,hd⟩,hz⟩:=I.tuple hl;refine call_list_seq l (T:="tuple") (.inr rfl) e hc hd (λh' c' k hn=>?_) (by rw[rv.length]at hz;simpa using hz)
  exact⟨.ref s.heap.objs.size,_,I.laid (o:=.lst xs) (t':=s.toks) k (bIn _) ⟨hz,its,c',rv,hn⟩,rfl,q _ (I.hok.fresh (bIn _))⟩
def aKr(hm:X.mg "list"=none)(ha:PE X a (tP X.K B f))(hg:Gl X "list":=by rfl)(hs:starEach [a] X.env=(false,eval a X.env)::starEach [] X.env:=by rfl):PE X (.Call (.Name "list" p0) [a] [] pos) (tI X.K B (e1 aIl f)):=by
 refine cN (uI aHa hg hm (by rfl) (dF ha gU hs) (he:=hs)) ?_
 rintro σ H Q ⟨A,st,d,rs,hd,q⟩;obtain⟨x,hx,h2⟩:=R.ok_of hd;refine⟨A,st,x,rs,hx,λv H1 s1 r1=>?_⟩
 cases x<;>first|(cases h2;done)|skip
 .cases h2;obtain⟨l,vs,e,h3,r3⟩:=r1.tup;exact⟨l,vs,by rw[e],.inr h3,λn hn=>q _ _ (s1.trans (cV hn)) (lU (rs.own.mono s1) hn r3)⟩
 .cases h2;obtain⟨l,vs,e,h3,r3⟩:=r1.lst;exact⟨l,vs,by rw[e],.inl h3,λn hn=>q _ _ (s1.trans (cV hn)) (lU (rs.own.mono s1) hn r3)⟩
theorem aRk:∀{l:List Bool}{us:List Value},Vals (l.map V.bl) us->us=l.map Value.bool
 |[],_,.nil=>rfl
 |b::l,_,.cons r t=>by
  rw[aRk t];cases r;rfl
def aTd(hc:X.calm=true):nA X (.builtin "all") (λvs H Q=>∃(l:Addr)(bs:List Bool),vs=[.ref l]/\SqL X.K H l (bs.map V.bl)/\Q (.bl (bs.all id)) H):=by
 intro pins s σ H vs us Q I r h;obtain⟨l,bs,rfl,hl,q⟩:=h;obtain⟨u,rfl,ru⟩:=r.one;obtain rfl:u=Value.ref l:=ru;obtain⟨its,rv,⟨ob,n,e,hcl,_,hd⟩,hz⟩:=I.list hl;have ei:=aRk rv;have isl:s.heap.IsList l its.toArray:=⟨ob,e,hcl,n,hd⟩;have hlt:l<s.heap.objs.size:=bJ2 e;refine call_all_walk (bLh isl ⟨s.heap.objs.size,_,_,_,_,_,λi=>bs[i]?.getD false,rfl,Walks.list (A:=X.A.in1) (I.ok.hd hc) _ l (bJm hlt) its.toArray,⟨⟨_,bIy _ rfl,rfl,rfl⟩,isl.push _⟩,?_,λh' tk k=>?_⟩)
 .intro i v s' Q' E' hv hq;rw[ei]at hv;simp only[List.getElem?_toArray,List.getElem?_map,Option.map_eq_some_iff]at hv;obtain⟨b,hb,rfl⟩:=hv;have hq':Q' (bs[i]?.getD false) s':=hq;rw[hb]at hq';exact bIx hq'
 .refine⟨.bl (bs.all id),H,I.kept (λb u z=>k b u (λhb=>?_) (bIi _ z)),?_,q⟩
  .have:=bIu.mp hb;exact bJv _ (this ▸ bJ2 z)
  .show Value.bool _=Value.bool _;congr 1;rw[bO9,bLk,bLk];have hsz:its.toArray.size=bs.length:=by rw[ei];simp
   rw[hsz];constructor
   .intro h x hx;obtain⟨i,hi,rfl⟩:=bKu.mp hx;have:=h i (bJp.mpr hi);rw[bIj hi]at this;exact this
   .intro h i hi;have hi':=bJp.mp hi;rw[bIj hi'];exact h _ (bJr hi')
theorem aRl{K:Frag}{H:Hp}:∀{l:List Bool}{vs:List V},bD K H (l.map D.bl) vs->vs=l.map V.bl
 |[],vs,h=>cG.mp h
 |b::l,vs,h=>by
  obtain⟨v,r,rfl,h1,h2⟩:=bK.mp h;rw[aRl h2,cL.mp h1];rfl
def aRm(hm:X.mg "all"=none)(hc:X.calm=true)(ha:PE X a (tP X.K B f))(hg:Gl X "all":=by rfl)(hs:starEach [a] X.env=(false,eval a X.env)::starEach [] X.env:=by rfl):PE X (.Call (.Name "all" p0) [a] [] pos) (tI X.K B (e1 aF8 f)):=by
 refine cN (uH (aTd hc) hg hm (by rfl) (dF ha gU hs) (he:=hs)) ?_
 rintro σ H Q ⟨A,st,d,rs,hd,q⟩;obtain⟨x,hx,h2⟩:=R.ok_of hd;refine⟨A,st,x,rs,hx,λv H1 s1 r1=>?_⟩
 cases x<;>first|(cases h2;done)|skip
 obtain⟨bs,h3,h4⟩:=R.ok_of h2;cases h4;obtain⟨l,vs,e,h5,r5⟩:=r1.lst;rw[aV2 h3]at r5;rw[aRl r5]at h5;exact⟨l,bs,by rw[e],h5,q _ H1 s1 (cL.mpr rfl)⟩
theorem aHb:∀{l:List Int}{us:List Value},Vals (l.map V.int) us->∃ps:List (Int×Tok),us=ps.map (λp=>Value.int p.1 p.2)/\ps.map (·.1)=l
 |[],_,.nil=>⟨[],rfl,rfl⟩
 |b::l,_,.cons r t=>by
  obtain⟨ps,e,e2⟩:=aHb t;obtain⟨t,rfl⟩:=r;exact⟨(b,t)::ps,by rw[e];rfl,by rw[bJ5,e2]⟩
def aCq{ps:List (Int×Tok)} (hi:i<ps.length):numAt ps.toArray i=(ps.map (·.1))[i]'(by simpa using hi):=by
 unfold numAt;rw[bOb,bIj hi];simp
def aTe(hc:X.calm=true):nA X (.builtin "max") (λvs H Q=>∃(l:Addr)(is:List Int),vs=[.ref l]/\SqL X.K H l (is.map V.int)/\0<is.length/\Q (.int (yG is)) H):=by
 intro pins s σ H vs us Q I r h;obtain⟨l,is,rfl,hl,hp,q⟩:=h;obtain⟨u,rfl,ru⟩:=r.one;obtain rfl:u=Value.ref l:=ru;obtain⟨its,rv,⟨ob,n,e,hcl,_,hd⟩,hz⟩:=I.list hl;obtain⟨ps,ei,e2⟩:=aHb rv;have hlen:ps.length=is.length:=by rw[<-e2,bJ9]
 have isl:s.heap.IsList l (intItems ps.toArray):=⟨ob,e,hcl,n,by rw[hd,ei];simp[intItems]⟩
 refine max_intList (I.ok.hd hc) isl (by simpa [hlen] using hp) λv h' tk hv k=>?_
 obtain⟨t,rfl⟩:=intItems_at hv;refine⟨.int (yG is),H,I.kept k,⟨t,?_⟩,q⟩;congr 1;have hs:ps.toArray.size=ps.length:=rfl;rw[hs];obtain⟨h1,h2⟩:=argBest_gt (numAt ps.toArray) (ps.length-1);have hb:argBest (λi j=>decide (numAt ps.toArray i>numAt ps.toArray j)) (ps.length-1)<ps.length:=by omega
 refine(aK0 ?_ λx hx=>?_).symm
 .rw[aCq hb,<-e2];exact bJr _
 .rw[<-e2]at hx;obtain⟨i,hi,rfl⟩:=bKu.mp hx;have hi':i<ps.length:=by simpa using hi
  rw[<-aCq hi'];exact h2 i (by omega)
theorem zL{K:Frag}{H:Hp}:∀{l:List Int}{vs:List V},bD K H (l.map D.int) vs->vs=l.map V.int
 |[],vs,h=>cG.mp h
 |b::l,vs,h=>by
  obtain⟨v,r,rfl,h1,h2⟩:=bK.mp h;rw[zL h2,bH.mp h1];rfl
def aXc(hm:X.mg "max"=none)(hc:X.calm=true)(ha:PE X a (tP X.K B f))(hg:Gl X "max":=by rfl)(hs:starEach [a] X.env=(false,eval a X.env)::starEach [] X.env:=by rfl):PE X (.Call (.Name "max" p0) [a] [] pos) (tI X.K B (e1 aEh f)):=by
 refine cN (uH (aTe hc) hg hm (by rfl) (dF ha gU hs) (he:=hs)) ?_
 rintro σ H Q ⟨A,st,d,rs,hd,q⟩;obtain⟨x,hx,h2⟩:=R.ok_of hd;refine⟨A,st,x,rs,hx,λv H1 s1 r1=>?_⟩
 cases x<;>first|(cases h2;done)|skip
 obtain⟨is,h3,h4⟩:=R.ok_of h2;obtain⟨c,h4⟩:=aK h4;cases h4;obtain⟨l,vs,e,h5,r5⟩:=r1.lst;rw[yH h3]at r5;rw[zL r5]at h5;exact⟨l,is,by rw[e],h5,c,q _ H1 s1 (bH.mpr rfl)⟩
end
end Pu
namespace Pu
open PySem PySem.Spec PyProof.Rows L2
structure Fly(C:Addr)(h0:Heap)(H:Hp)(e:Addr)(h:Heap):Prop where
 n0:h0.get? e=none
 nH:H e=none
 ex:∃oe vs a0,h.get? e=some oe/\oe.cls=.ref C/\oe.data=.fields vs/\vs[0]?=some a0/\
  (vs[1]?=some .none\/∃T oT ts,vs[1]?=some (.ref T)/\T≠e/\h.get? T=some oT/\oT.data=.fields ts/\ts[3]?=some .none/\h0.get? T=none/\H T=none)
def Fly.back{e:Addr}{h1 h:Heap} (F:Fly C h1 H e h) (k:∀b o,h0.get? b=some o->∃o',h1.get? b=some o'):Fly C h0 H e h:=by
 have z:∀b,h1.get? b=none->h0.get? b=none:=λb hb=>by
  cases q:h0.get? b with
  |none=>rfl
  |some o=>obtain⟨o',q'⟩:=k b o q;rw[hb]at q';cases q'
 obtain⟨n0,nH,oe,vs,a0,he,hc,hd,hz,ht⟩:=F;refine⟨z _ n0,nH,oe,vs,a0,he,hc,hd,hz,?_⟩;rcases ht with ht|⟨T,oT,ts,h1',hTe,hT,hdT,h3,nT,nHT⟩
 .exact .inl ht
 .exact .inr ⟨T,oT,ts,h1',hTe,hT,hdT,h3,z _ nT,nHT⟩
abbrev XW:=D->L2.St->Hp->Prop
end Pu
variable{W:Pu.XW}
namespace Pu
open PySem PySem.Spec PyProof.Rows L2 PySem.Calls Builtin Builtin.ObjectAttr Builtin.Getset_descriptor
section
variable {σ:L2.St} {ea:Addr}
def bAq{σc:L2.St}{Hc:Hp}{sc:Shared}{u:HO}(I:Inv X pins σ H s)(Ic:Inv X pins σc Hc sc)(n0:sc.heap.get? ea=none)(nH:H ea=none)(new:iU X.prog X.w (upd H ea u) s.heap ea u):Inv X pins σ (upd H ea u) s:=by
 have ne:∀b o,sc.heap.get? b=some o->b≠ea:=λb o e z=>by rw[z,n0]at e;cases e
 refine⟨I.ok,I.os,I.bare,⟨I.base.keep,I.base.slot,λb o e n hx=>?_,I.base.there,λb xs e=>?_,λb o u e=>?_,λb ps e=>?_⟩,I.loc,I.cell,?_,λx c e=>?_,λp hp=>?_,λb u' e=>?_,I.len⟩
 .obtain⟨o',e'⟩:=Ic.base.there b o e hx;rw[aY (ne b o' e')];exact I.base.free b o e n hx
 .have z:=I.base.tups b xs e;rw[aY (aX z nH)];exact z
 .have z:=I.base.frzs b o u e;rw[aY (aX z nH)];exact z
 .obtain⟨more,z⟩:=I.base.tbls b ps e;exact⟨more,by rw[aY (aX z nH)];exact z⟩
 .obtain⟨m,⟨o,es,ep,ho,_⟩,_⟩:=Ic.loc;rw[aY (ne _ _ ho)];exact I.free
 .obtain⟨v,o,ho,_⟩:=Ic.cell x c e;rw[aY (ne _ _ ho)];exact I.freeC x c e
 .obtain⟨h1,h2,h3⟩:=I.pin p hp;exact⟨h1,by rw[aY (ne _ _ (Ic.pin p hp).1)];exact h2,h3⟩
 .by_cases hb:b=ea
  .subst hb;rw[bJ]at e;cases e;exact new
  .rw[aY hb]at e;exact(I.hok b u' e).stay (λc v _ q=>q) (λc q=>by rw[aY (aX q nH)];exact q) λc xs q=>by rw[aY (aX q nH)];exact q
end
end Pu
namespace Pu
open PySem PySem.Spec PyProof.Rows L2
section
variable {K:Frag} {f:Addr} {k:Nat}
def MakeOk.of{c:String} (hc:ClsAt K c C) (hm:Mk K C f) (F:FnOk P w K mg base CX0 k f fd ps (spM K c np (aJy c np n bd))) (b:Binds K fd ps []) (m:mg (Str.ofString c)=some (.ref C)):MakeOk P w K mg base c k np (aJy c np n bd):=
 ⟨⟨C,f,fd,ps,hc,hm,F,b,m⟩,aXb⟩
end
section
variable{P:List α->Prop}
def aRn(h:P [])(us:List α)(hl:us.length=0):P us:=by rw[bJw.mp hl];exact h
def aAc(h:∀a us,us.length=n->P (a::us))(us:List α)(hl:us.length=n+1):P us:=by
 cases us with
 |nil=>cases hl
 |cons a us=>exact h a us (Nat.succ.inj hl)
def aKs(h:∀a,P [a])(us:List α)(hl:us.length=1):P us:=aAc (λa=>aRn (h a)) us hl
def aRo(h:∀a b,P [a,b])(us:List α)(hl:us.length=2):P us:=aAc (λa=>aKs (P:=λus=>P (a::us)) (h a)) us hl
def aFp(h:∀a b c,P [a,b,c])(us:List α)(hl:us.length=3):P us:=aAc (λa=>aRo (P:=λus=>P (a::us)) (h a)) us hl
def aRp(h:∀a b c d,P [a,b,c,d])(us:List α)(hl:us.length=4):P us:=aAc (λa=>aFp (P:=λus=>P (a::us)) (h a)) us hl
def aRq(h:∀a b c d e,P [a,b,c,d,e])(us:List α)(hl:us.length=5):P us:=aAc (λa=>aRp (P:=λus=>P (a::us)) (h a)) us hl
def bAr(h:∀a b c d e f,P [a,b,c,d,e,f])(us:List α)(hl:us.length=6):P us:=aAc (λa=>aRq (P:=λus=>P (a::us)) (h a)) us hl
end
def Inn(K:Frag)(G H:Hp):List (List D)->List Addr->Prop
 |[],ps=>ps=[]
 |xs::xss,ps=>∃p r vs,ps=p::r/\H p=some (.lst vs)/\bD K G xs vs/\Inn K G H xss r
theorem Inn.len{K:Frag}{G H:Hp}:∀{xss:List (List D)} {ps:List Addr},Inn K G H xss ps->ps.length=xss.length
 |[],ps,h=>by rw[show ps=[] from h];rfl
 |xs::xss,ps,h=>by
  obtain⟨p,r,vs,rfl,_,_,h2⟩:=h;rw[bJ7,bJ7,Inn.len h2]
theorem Inn.get{K:Frag}{G H:Hp}:∀{xss:List (List D)} {ps:List Addr} {k:Nat} {xs:List D},Inn K G H xss ps->xss[k]?=some xs->∃p vs,ps[k]?=some p/\H p=some (.lst vs)/\bD K G xs vs
 |[],_,_,_,_,e=>by simp at e
 |x::xss,ps,0,xs,h,e=>by
  obtain⟨p,r,vs,rfl,h1,h2,_⟩:=h;simp at e;subst e;exact⟨p,vs,rfl,h1,h2⟩
 |x::xss,ps,k+1,xs,h,e=>by
  obtain⟨p,r,vs,rfl,_,_,h3⟩:=h;obtain⟨p',vs',e1,e2⟩:=Inn.get (k:=k) h3 (by simpa using e)
  exact⟨p',vs',by simpa using e1,e2⟩
theorem Inn.mono{K:Frag}{G G' H H':Hp}(g:bC G G'):∀{xss:List (List D)} {ps:List Addr},(∀p∈ps,∀o,H p=some o->H' p=some o)->Inn K G H xss ps->Inn K G' H' xss ps
 |[],_,_,h=>h
 |x::xss,ps,k,h=>by
  obtain⟨p,r,vs,rfl,h1,h2,h3⟩:=h;exact⟨p,r,vs,rfl,k p bIm _ h1,h2.mono g,Inn.mono g (λq hq=>k q (bIl _ hq)) h3⟩
def tSF(K:Frag)(B:List Addr)(i:Nat)(b:Bd):TS:=λDn σ H=>∃A st st' xs,RS K B A H st σ/\b st=.ok (.nx st')/\st'[i]?=some (some (.o .l xs))/\∀A' a vs H',Le A H A' H'->a∈A'->H' a=some (.lst vs)->bD K (hide (A'++B) H') xs vs->Dn.rt (.ref a) H'
def spF(K:Frag)(np:Nat)(p:List D->R D):Sp:=λvs H Q _=>∃A ds xs,Own A H/\bD K (hide A H) ds vs/\ds.length=np/\p ds=.ok (.lst xs)/\∀a ws H',bC H H'->H a=none->H' a=some (.lst ws)->bD K (hide (a::A) H') xs ws->Q (.ref a) H'
section
variable {o:Expr} {rest:List Stmt}
def aRr(h1:PS X sm (tS X.K B bd))(h2:PSs X rest (tSF X.K B i bd')):PSs X (sm::rest) (tSF X.K B i (bG bd bd')):=oX (pH h1 h2) (by
 rintro Dn σ H ⟨A,st,st',xs,rs,hb,hi,q⟩;unfold bG aBz at hb;obtain⟨fl,hfl,h3⟩:=R.ok_of hb;refine⟨A,st,fl,rs,hfl,?_⟩;cases fl with
 |nx s1=>exact λA' σ' H' l rs'=>⟨A',s1,st',xs,rs',h3,hi,λA2 a vs H2 l2=>q A2 a vs H2 (l.trans l2)⟩
 |rt d=>cases h3
 |bk s1=>cases h3
 |ct s1=>cases h3)
def bE6(hN:X.N[i]?=some x:=by rfl)(hv:Vis X.env.scope x:=by first|exact Or.inl rfl|exact Or.inr (Or.inl rfl)|exact Or.inr (Or.inr rfl))(hd:(x==("__debug__":Str))=false:=by decide)(hcd:(x==("__classdict__":Str))=false:=by decide) :
  PSs X [.Return (some (.Name x p1)) pos] (tSF X.K B i cZ):=oX (rR (aNq (kJ hN hv hd hcd))) (by
 rintro Dn σ H ⟨A,st,st',xs,rs,hb,hi,q⟩;cases hb;obtain⟨a,o,vs,e1,m,h1,ko,r,_⟩:=rs.lst i .l xs hi;have eo:o=.lst vs:=ko;subst eo;exact⟨.ref a,e1,q A a vs H Le.refl m h1 r⟩)
end
section
variable {K:Frag} {st:Stmt} {f:Addr} {k:Nat}
def bIb(F:FunD K x qual st dV f fd)(S:FnScope N ps (aG st))(np n i:Nat)(bd:Bd)(hnp:ps.length=np)(hn:N.length=n)
  (hb:∀(cdv:Value)(A:Around)(outer:List Env)(s:Shared)(H:Hp)(E:XK)(B:List Addr),Room k (A.deeper (envOfC qual (aG st) s.heap.objs.size f cdv))->
   PSs (aF6 CX0 P w K mg base N qual (aG st) f cdv A outer s H E).nox (dJ st) (tSF K B i bd)):FnOk P w K mg base CX0 (k+1) f fd ps (spF K np (dC np n (aC0 bd i))):=by
 refine F.okX S (λvs H Q E h=>?_) (λcdv A outer s H vs Q E hr h=>?_)
 .obtain⟨A,ds,d,own,r,hl,_⟩:=h;rw[r.length,hl,hnp]
 .obtain⟨B,ds,xs,own,r,hl,hp,q⟩:=h;refine⟨tSF K B i bd,hb cdv A outer s H E B hr,?_⟩;obtain⟨_,h2⟩:=aK hp;obtain⟨fl,hfl,h3⟩:=R.ok_of h2;have rs:=aCl (N:=N) own r;rw[hl,hn]at rs;unfold aC0 at hfl;split at hfl
  .rename_i s1 hf1;unfold aV3 at hfl;split at hfl
   .rename_i e1;cases hfl;cases h3;refine⟨[],_,s1,_,rs,hf1,e1,λA' a vs' H' l ha hv rv=>?_⟩
    have sm:bC H H':=by
     unfold Le at l;rw[vB]at l;exact l.trans (bI _ _)
    refine q a vs' H' sm ?_ hv (rv.mono (jZ λb hb=>?_))
    .cases hH:H a with
     |none=>rfl
     |some o=>
      have z:=l a o (by rw[vB];exact hH)
      rw[eU ha]at z;cases z
    .rcases bIq.mp hb with rfl|hb
     .exact bIw _ ha
     .exact bIo _ hb
   .cases hfl
  .cases hfl
def aTf(h:dC np n (aC0 bd i) ds=.ok d):∃xs,d=.lst xs:=by
 obtain⟨_,h2⟩:=aK h;obtain⟨fl,hfl,h3⟩:=R.ok_of h2;unfold aC0 at hfl;split at hfl
 .unfold aV3 at hfl;split at hfl
  .cases hfl;cases h3;exact⟨_,rfl⟩
  .cases hfl
 .cases hfl
def aJa(hp:∀ds d,p ds=.ok d->∃xs,d=.lst xs) (F:FnOk P w K mg base CX0 k f fd ps (spF K np p)):FnOk P w K mg base CX0 k f fd ps (spI K np p):=by
 have up:∀vs H Q E,spI K np p vs H Q E->spF K np p vs H Q E:=by
  rintro vs H Q E ⟨A,ds,d,own,r,hl,he,q⟩;obtain⟨xs,rfl⟩:=hp ds d he;refine⟨A,ds,xs,own,r,hl,he,λa ws H' sm ha hv rv=>q _ H' sm (eN.mpr ⟨a,ws,rfl,(by rw[bZ (own.free ha)];exact hv),rv.mono (jZ λb hb=>bIl _ hb)⟩)⟩
 exact⟨λvs H Q E h=>F.len vs H Q E (up vs H Q E h),λA outer s H args us vs Q E hr e0 hb hv h=>F.run A outer s H args us vs Q E hr e0 hb hv (up vs H Q E h)⟩
end
structure MethOkF(P:Program)(w:World)(K:Frag)(mg:Str->Option Value)(base:Heap)(c m:String)(k np:Nat)(dv:List D)(p:List D->R D):Prop where
 ex:∃(C fa:Addr)(fd:FuncData)(ps:List Str)(dvs:List V)(ds:List Value),ClsAt K c C/\Meth K C (Str.ofString m) fa/\FnOk P w K mg base CX0 k fa fd ps (spF K np p)/\Binds K fd ps ds/\Vals dvs ds/\∀H,bD K H dv dvs
 len:∀ds d,p ds=.ok d->ds.length=np
 lst:∀ds d,p ds=.ok d->∃xs,d=.lst xs
def MethOkF.of{K:Frag} {k:Nat} {f:Addr} {c m:String} {ds:List Value} {dvs:List V} (hc:ClsAt K c C) (hm:Meth K C (Str.ofString m) f) (F:FnOk P w K mg base CX0 k f fd ps (spF K np (dC np n (aC0 bd i)))) (b:Binds K fd ps ds) (v:Vals dvs ds) (r:∀H,bD K H dv dvs):MethOkF P w K mg base c m k np dv (dC np n (aC0 bd i)):=
 ⟨⟨C,f,fd,ps,dvs,ds,hc,hm,F,b,v,r⟩,aH2,λ_ _ h=>aTf h⟩
def MethOkF.plain{K:Frag} {c m:String} {k:Nat} (h:MethOkF P w K mg base c m k np dv p):MethOk P w K mg base c m k np dv p:=by
 obtain⟨C,fa,fd,ps,dvs,ds,hc,hm,F,b,v,r⟩:=h.ex;exact⟨⟨C,fa,fd,ps,dvs,ds,hc,hm,aJa h.lst F,b,v,r⟩,h.len⟩
section
variable{X:Cx}{B:List Addr}{a b e:Expr}{f g:Ex}{pos:Pos}
def rClear:V->List V->Hp->VK->Prop:=λx vs H Q=>∃l xs,x=.ref l/\vs=[]/\H l=some (.lst xs)/\Q .non (upd H l (.lst []))
def mt_clear:MtM X "list.clear" rClear:=by
 intro pins s σ H x vs v us Q I rx rv h;obtain⟨l,xs,rfl,rfl,hH,q⟩:=h;cases rx;have hus:=rv.zero;subst hus;obtain⟨z,its,n,r,hl,e⟩:=I.lstM hH;refine bNb bMa ⟨_,e,rfl⟩ PySem.F.entry_list_clear (PySem.F.args_list_clear_1 _) (bMg l its.toArray n (by rw[bJ6];omega)) ⟨e,?_⟩
 exact⟨.non,_,I.lset (its':=[]) hH e (by simp) .nil (by simp),rfl,q⟩
end
def noH:Hp:=λ_=>none
def aRs:bC noH H:=λ_ _ h=>nomatch h
def aMw{K:Frag} (h:atom d=true) (r:Rep K H d v):Rep K noH d v:=by
 cases d<;>first|(cases h;done)|skip
 .exact jY.mpr (jY.mp r)
 .exact cL.mpr (cL.mp r)
 .exact bH.mpr (bH.mp r)
 .exact cY.mpr (cY.mp r)
theorem aJb{K:Frag}{H:Hp}:∀{ds:List D}{vs:List V},ds.all atom=true->bD K H ds vs->bD K noH ds vs
 |[],_,_,r=>by rw[cG.mp r];exact .nil
 |d::ds,_,h,r=>by
  obtain⟨v,w,rfl,q,t⟩:=bK.mp r;rw[bOm,bLb]at h;exact .cons (aMw h.1 q) (aJb h.2 t)
def tC(K:Frag)(B:List Addr)(f:Ex):TE:=λσ H Q=>∃A st d xs,RS K B A H st σ/\f st=.ok d/\bD7 d=.ok (.lst xs)/\∀P ps H',bC H H'->(∀p∈P::ps,H p=none)->(P::ps).Nodup->H' P=some (.lst (ps.map V.ref))->Inn K noH H' (xs.map unL) ps->Q (.ref P) H'
theorem Inn.snoc{K:Frag}{G H:Hp}{ys:List D}{n:Addr}{ws:List V}(hn:H n=some (.lst ws))(hr:bD K G ys ws):∀{xss:List (List D)} {ps:List Addr},Inn K G H xss ps->Inn K G H (xss++[ys]) (ps++[n])
 |[],ps,h=>by rw[show ps=[] from h];exact⟨n,[],ws,rfl,hn,hr,rfl⟩
 |x::xss,ps,h=>by
  obtain⟨p,r,vs,rfl,h1,h2,h3⟩:=h;exact⟨p,r++[n],vs,rfl,h1,h2,Inn.snoc hn hr h3⟩
def tgJ(j:Nat):TG:=λv τ H Q=>Q (τ.set j (some v)) H
section
variable {r:Str}
def g_row(j:Nat)(hN:X.N.Nodup)(hi:X.N[j]?=some r:=by rfl)(hx:Loc X.env.scope r:=by first|exact Or.inl rfl|exact Or.inr rfl)
  (hf:X.fn r=true\/X.env.scope.names.lookup r=some .local:=by first|exact .inl rfl|exact .inr rfl|assumption):PG X (.Name r pos) (tgJ j):=aJl hN hi hx hf
end
open Builtin
section
variable{prog:Program}{w:World}{A:Around}{E:Value->Shared->Prop}{s:Shared}
variable{z TI TO i1 i2 l:Addr}{fp:List Addr}{n k1 k2:Nat}{P:Nat->Value->Prop}{St:Nat->Heap->Prop}{ys:Array Value}{y a b:Value}
structure ZApart(z TI TO i1 i2 l:Addr)(fp:List Addr):Prop where
 TIz:TI≠z
 TOz:TO≠z
 i1z:i1≠z
 i2z:i2≠z
 TITO:TI≠TO
 TIi1:TI≠i1
 TIi2:TI≠i2
 TOi1:TO≠i1
 TOi2:TO≠i2
 i12:i1≠i2
 lz:l≠z
 lTO:l≠TO
 li1:l≠i1
 li2:l≠i2
 zf:z∉fp
 Tf:TO∉fp
 i2f:i2∉fp
def aPc{n l:Nat}(h:l<n):ZApart (n+4) (n+2) (n+3) n (n+1) l [n]:=by
 constructor
 .show n+2≠n+4;omega
 .show n+3≠n+4;omega
 .show n≠n+4;omega
 .show n+1≠n+4;omega
 .show n+2≠n+3;omega
 .show n+2≠n;omega
 .show n+2≠n+1;omega
 .show n+3≠n;omega
 .show n+3≠n+1;omega
 .show n≠n+1;omega
 .show l≠n+4;omega
 .show l≠n+3;omega
 .show l≠n;omega
 .show l≠n+1;omega
 .intro z;have:n+4=n:=bIu.mp z;omega
 .intro z;have:n+3=n:=bIu.mp z;omega
 .intro z;have:n+1=n:=bIu.mp z;omega
def aXd(D1:Draws prog w A i1 fp n P St)(D:ZApart z TI TO i1 i2 l fp)
  (hz:IsZip s.heap z TI TO .none) (hTI:IsPair s.heap TI (.ref i1) (.ref i2)) (hTO:IsPair s.heap TO a b)
  (h1:St k1 s.heap) (hk1:k1<n) (h2:s.heap.IsListIter i2 l k2) (hl:s.heap.IsList l ys) (hy:ys[k2]?=some y) {Q:Value->Shared->Prop}
  (hQ:∀h' tk x,P k1 x->IsZip h' z TI TO (rawInt s.heap.objs.size)->IsPair h' TO x y->St (k1+1) h'->h'.IsListIter i2 l (k2+1)->IsPair h' s.heap.objs.size x y->h'.objs.size=s.heap.objs.size+1->
   (∀c o,c≠z->c≠TO->c≠i1->c≠i2->s.heap.get? c=some o->h'.get? c=some o)->Q (.ref s.heap.objs.size) {s with heap:=h',toks:=tk}) :
  wpAny (model prog w) A (Builtin.«zip.__next__» ⟨[.ref z],[]⟩) (λfin s'=>∃v,fin=.done (.ret v)/\Q v s') E s:=by
 show wpAny _ _ (field (.ref z) 2 >>= _) _ _ _;refine bIh (bLq hz rfl (x:=.bool false) rfl ?_);show wpAny _ _ (field (.ref z) 3 >>= _) _ _ _;refine bIh (bLq hz rfl (x:=.ref TI) rfl ?_);refine bIh (bKr hTI rfl ?_);show wpAny _ _ (Builtin.SmallTypes.ownedTupleIsFree (.ref z) >>= _) _ _ _;refine bIh ?_
 unfold Builtin.SmallTypes.ownedTupleIsFree;refine bIh (bLq hz rfl (x:=.none) rfl (bIx ?_));simp only[if_true];refine bIh (bKy ?_);refine bIh (bLq hz rfl (x:=.ref TO) rfl ?_);refine bIh (bKp hz (by simp) λh₁ hz₁ hs₁=>?_)
 replace hz₁:IsZip h₁ z TI TO .ellipsis:=hz₁
 refine bIh ?_
 simp only[zipIdx_cons,List.zipIdx_nil,forIn_cons,forIn_nil];refine bIh (bIh (bNj ?_));show wpAny _ _ (Builtin.SmallTypes.nextOf (.ref i1) >>= _) _ _ _;refine bIh (D1.item k1 {s with heap:=h₁} _ _ hk1 (D1.frame k1 s.heap h₁ h1 λb hb o e=>hs₁.extBut _ _ (λx=>D.zf (x ▸ hb)) e) λx h₂ tk hP h1₂ hs₂=>bIx ?_)
 have hs₂:Heap.SameBut i1 h₁ h₂:=hs₂;have hTO₂:IsPair h₂ TO a b:=hs₂.extBut _ _ D.TOi1 (hs₁.extBut _ _ D.TOz hTO);refine bIh (bKr hTO₂ rfl ?_);refine bIh (bMj hTO₂ λh₃ hTO₃ hs₃=>?_)
 replace hTO₃:IsPair h₃ TO x b:=hTO₃
 refine bIh (bLr (bIx ?_));refine bIh (bIh (bNj ?_));show wpAny _ _ (Builtin.SmallTypes.nextOf (.ref i2) >>= _) _ _ _;refine bIh (wpAny_nextOf_list_item (((h2.extBut hs₁.extBut D.i2z).extBut hs₂.extBut D.i12.symm).extBut hs₃.extBut D.TOi2.symm)
  (((hl.extBut hs₁.extBut D.lz).extBut hs₂.extBut D.li1).extBut hs₃.extBut D.lTO) hy λh₄ h2₄ hs₄=>bIx ?_)
 have hTO₄:IsPair h₄ TO x b:=hs₄.extBut _ _ D.TOi2 hTO₃;refine bIh (bKr hTO₄ rfl ?_);refine bIh (bMj hTO₄ λh₅ hTO₅ hs₅=>?_)
 replace hTO₅:IsPair h₅ TO x y:=hTO₅
 refine bIh (bLr (bIx (bIx ?_)));refine bIh (bKr hTO₅ rfl ?_);refine bIh (wpAny_newTuple ?_);have hs₃':Heap.SameBut TO h₂ h₃:=hs₃;have hs₄':Heap.SameBut i2 h₃ h₄:=hs₄;have hs₅':Heap.SameBut TO h₄ h₅:=hs₅;have hsz:h₅.objs.size=s.heap.objs.size:=by rw[hs₅'.1,hs₄'.1,hs₃'.1,hs₂.1,hs₁.1]
 have hz₅:IsZip h₅ z TI TO .ellipsis:=hs₅'.extBut _ _ D.TOz.symm (hs₄'.extBut _ _ D.i2z.symm (hs₃'.extBut _ _ D.TOz.symm (hs₂.extBut _ _ D.i1z.symm hz₁)));have hk₅:∀c o,c≠z->c≠TO->c≠i1->c≠i2->s.heap.get? c=some o->h₅.get? c=some o:=λc o c1 c2 c3 c4 e=>
  hs₅'.extBut _ _ c2 (hs₄'.extBut _ _ c4 (hs₃'.extBut _ _ c2 (hs₂.extBut _ _ c3 (hs₁.extBut _ _ c1 e))))
 have h1₅:St (k1+1) h₅:=D1.frame _ h₂ h₅ h1₂ λb hb o e=>hs₅'.extBut _ _ (λx=>D.Tf (x ▸ hb)) (hs₄'.extBut _ _ (λx=>D.i2f (x ▸ hb)) (hs₃'.extBut _ _ (λx=>D.Tf (x ▸ hb)) e))
 have h2₅:h₅.IsListIter i2 l (k2+1):=h2₄.extBut hs₅'.extBut D.TOi2.symm;have hzlt:z<h₅.objs.size:=bJ2 hz₅;show wpAny _ _ (Builtin.SmallTypes.ownedTupleHandOut (.ref z) (.ref h₅.objs.size) >>= _) _ _ _;refine bIh ?_
 unfold Builtin.SmallTypes.ownedTupleHandOut;have hz₆:IsZip (h₅.push {cls:=.type "tuple",data:=.seq #[x,y]}) z TI TO .ellipsis:=bIi _ hz₅;refine bIh (bKp hz₆ (by simp) λh₇ hz₇ hs₇=>?_)
 replace hz₇:IsZip h₇ z TI TO (rawInt h₅.objs.size):=hz₇
 refine bKp hz₇ (by simp) λh₈ hz₈ hs₈=>?_
 replace hz₈:IsZip h₈ z TI TO (rawInt h₅.objs.size):=hz₈
 have up:∀c o,c≠z->h₅.get? c=some o->h₈.get? c=some o:=λc o c1 e=>hs₈.extBut _ _ c1 (hs₇.extBut _ _ c1 (bIi _ e))
 have hT₈:IsPair h₈ h₅.objs.size x y:=hs₈.extBut _ _ (bOn hzlt) (hs₇.extBut _ _ (bOn hzlt) (bIy _ rfl));have hz8:h₈.objs.size=h₅.objs.size+1:=by rw[hs₈.1,hs₇.1,bJt]
 rw[hsz]at hz₈ hT₈ hz8;refine bIx ⟨_,rfl,?_⟩;show Q (.ref h₅.objs.size) _;rw[hsz];exact hQ h₈ _ x hP hz₈ (up _ _ D.TOz hTO₅) (D1.frame _ h₅ h₈ h1₅ λb hb o e=>up b o (λx=>D.zf (x ▸ hb)) e) (h2₅.at λo e=>up _ o D.i2z e) hT₈ hz8 λc o c1 c2 c3 c4 e=>up c o c1 (hk₅ c o c1 c2 c3 c4 e)
def bAs(D1:Draws prog w A i1 fp n P St)(hh:A.handled=none)(D:ZApart z TI TO i1 i2 l fp)
  (hz:IsZip s.heap z TI TO .none) (hTI:IsPair s.heap TI (.ref i1) (.ref i2)) (hTO:IsPair s.heap TO a b)
  (h1:St k1 s.heap) (h2:s.heap.IsListIter i2 l k2) (hl:s.heap.IsList l ys)
  (hend:(∀(s:Shared)(Q:Value->Shared->Prop)(E:Value->Shared->Prop),St k1 s.heap->(∀h' e,Heap.ExtBut i1 s.heap h'->(∃o,h'.get? e=some o/\o.cls=.type "StopIteration")->E (.ref e) {s with heap:=h'})->wpAny (model prog w) A (Builtin.SmallTypes.nextOf (.ref i1)) Q E s)\/(k1<n/\ys[k2]?=none)) {Q:Fin->Shared->Prop}
  (hE:∀h' e tk,(∀c o,c≠z->c≠TO->c≠i1->c≠i2->s.heap.get? c=some o->h'.get? c=some o)->(∃o,h'.get? e=some o/\o.cls=.type "StopIteration")->E (.ref e) {s with heap:=h',toks:=tk}) :
  wpAny (model prog w) A (Builtin.«zip.__next__» ⟨[.ref z],[]⟩) Q E s:=by
 show wpAny _ _ (field (.ref z) 2 >>= _) _ _ _;refine bIh (bLq hz rfl (x:=.bool false) rfl ?_);show wpAny _ _ (field (.ref z) 3 >>= _) _ _ _;refine bIh (bLq hz rfl (x:=.ref TI) rfl ?_);refine bIh (bKr hTI rfl ?_);show wpAny _ _ (Builtin.SmallTypes.ownedTupleIsFree (.ref z) >>= _) _ _ _;refine bIh ?_
 unfold Builtin.SmallTypes.ownedTupleIsFree;refine bIh (bLq hz rfl (x:=.none) rfl (bIx ?_));simp only[if_true];refine bIh (bKy ?_);refine bIh (bLq hz rfl (x:=.ref TO) rfl ?_);refine bIh (bKp hz (by simp) λh₁ hz₁ hs₁=>?_)
 replace hz₁:IsZip h₁ z TI TO .ellipsis:=hz₁
 refine bIh ?_
 simp only[zipIdx_cons,List.zipIdx_nil,forIn_cons,forIn_nil];refine bIh (bIh (bNj ?_));show wpAny _ _ (Builtin.SmallTypes.nextOf (.ref i1) >>= _) _ _ _;have fr1:St k1 h₁:=D1.frame k1 s.heap h₁ h1 λb hb o e=>hs₁.extBut _ _ (λx=>D.zf (x ▸ hb)) e
 rcases hend with hend|⟨hkn,hy⟩
 .refine bIh (hend {s with heap:=h₁} _ _ fr1 λh₂ e hs₂ he=>?_)
  have hs₂:Heap.ExtBut i1 h₁ h₂:=hs₂;obtain⟨oe,hoe,hce⟩:=he;have hz₂:IsZip h₂ z TI TO .ellipsis:=hs₂ _ _ D.i1z.symm hz₁;have hez:e≠z:=λx=>by subst x;rw[hz₂]at hoe;cases hoe;simp at hce
  refine bKp hz₂ (by simp) λh₃ _ hs₃=>hE h₃ e _ (λc o c1 _ c3 _ x=>hs₃.extBut _ _ c1 (hs₂ _ _ c3 (hs₁.extBut _ _ c1 x))) ⟨oe,hs₃.extBut _ _ hez hoe,hce⟩
 .refine bIh (D1.item k1 {s with heap:=h₁} _ _ hkn fr1 λx h₂ tk hP h1₂ hs₂=>bIx ?_)
  have hs₂:Heap.SameBut i1 h₁ h₂:=hs₂;have hTO₂:IsPair h₂ TO a b:=hs₂.extBut _ _ D.TOi1 (hs₁.extBut _ _ D.TOz hTO);refine bIh (bKr hTO₂ rfl ?_);refine bIh (bMj hTO₂ λh₃ hTO₃ hs₃=>?_)
  have hs₃':Heap.SameBut TO h₂ h₃:=hs₃;refine bIh (bLr (bIx ?_));refine bIh (bIh (bNj ?_));show wpAny _ _ (Builtin.SmallTypes.nextOf (.ref i2) >>= _) _ _ _;refine bIh (wpAny_nextOf_list_end hh (((h2.extBut hs₁.extBut D.i2z).extBut hs₂.extBut D.i12.symm).extBut hs₃'.extBut D.TOi2.symm)
   (((hl.extBut hs₁.extBut D.lz).extBut hs₂.extBut D.li1).extBut hs₃'.extBut D.lTO) hy λh₄ e hs₄ he=>?_)
  have hs₄:Heap.ExtBut i2 h₃ h₄:=hs₄;obtain⟨oe,hoe,hce⟩:=he;have hz₄:IsZip h₄ z TI TO .ellipsis:=hs₄ _ _ D.i2z.symm (hs₃'.extBut _ _ D.TOz.symm (hs₂.extBut _ _ D.i1z.symm hz₁));have hez:e≠z:=λx=>by subst x;rw[hz₄]at hoe;cases hoe;simp at hce
  refine bKp hz₄ (by simp) λh₅ _ hs₅=>hE h₅ e _ (λc o c1 c2 c3 c4 x=>hs₅.extBut _ _ c1 (hs₄ _ _ c4 (hs₃'.extBut _ _ c2 (hs₂.extBut _ _ c3 (hs₁.extBut _ _ c1 x))))) ⟨oe,hs₅.extBut _ _ hez hoe,hce⟩
end
section
variable{prog:Program}{w:World}{A:Around}{E:Value->Shared->Prop}{s:Shared}
abbrev zH1(h:Heap)(x:Str)(t:Tok):Heap:=h.push {cls:=.type (strIterType x),data:=.fields #[.str x t,.int 0 0]}
abbrev zH2(h:Heap)(x:Str)(t:Tok)(l:Addr):Heap:=(zH1 h x t).push {cls:=.type "list_iterator",data:=.fields #[.ref l,.int 0 0]}
abbrev zH3(h:Heap)(x:Str)(t:Tok)(l:Addr):Heap:=(zH2 h x t l).push {cls:=.type "tuple",data:=.seq #[.ref h.objs.size,.ref (zH1 h x t).objs.size]}
abbrev zH4(h:Heap)(x:Str)(t:Tok)(l:Addr):Heap:=(zH3 h x t l).push {cls:=.type "tuple",data:=.seq #[.none,.none]}
abbrev zH5(h:Heap)(x:Str)(t:Tok)(l:Addr):Heap:=(zH4 h x t l).push {cls:=.type "zip",data:=.fields #[.none,.bool false,.bool false,.ref (zH2 h x t l).objs.size,.ref (zH3 h x t l).objs.size]}
def aPd(x:Str)(t:Tok)(l:Addr)(ys:Array Value) :
  Meets (Builtin.«zip.__new__» ⟨[.type "zip",.str x t,.ref l],[]⟩) (λ_ R s=>s.heap.IsList l ys/\
   R (.ok (.ret (.ref (zH4 s.heap x t l).objs.size))) {s with heap:=zH5 s.heap x t l}):=
 .of_wp λprog w A R s h=>by
  obtain⟨hp,g,d,tk,os⟩:=s;obtain⟨hl,h⟩:=h;have hsub:=sub_zip;have hL:Heap.IsList (Shared.heap ⟨hp.push {cls:=.type (strIterType x),data:=.fields #[.str x t,.int 0 0]},g,d,tk,os⟩) l ys:=Heap.IsList.push hl _
  wp_walk using wpAny_pyIter_strU,wpAny_pyIter_list hL
  exact⟨_,rfl,h⟩
def aTg{t:Tok}{l:Addr}{ys:Array Value}{Q:Value->Shared->Prop}(hl:s.heap.IsList l ys)
  (h:∀h',IsZip h' (s.heap.objs.size+4) (s.heap.objs.size+2) (s.heap.objs.size+3) .none->IsPair h' (s.heap.objs.size+2) (.ref s.heap.objs.size) (.ref (s.heap.objs.size+1))->
   IsPair h' (s.heap.objs.size+3) .none .none->h'.IsStrIter s.heap.objs.size (strIterType x) x t 0->h'.IsListIter (s.heap.objs.size+1) l 0->h'.objs.size=s.heap.objs.size+5->
   (∀c o,s.heap.get? c=some o->h'.get? c=some o)->Q (.ref (s.heap.objs.size+4)) {s with heap:=h'}) :
  wpAny (model prog w) A (call (.type "zip") [.str x t,.ref l]) Q E s:=by
 refine callType_new PySem.F.called_zip (by decide) (PySem.F.typeCall_zip_2 _ _) (PySem.F.newCall_zip_2 _ _) (λobj=>PySem.F.args_object_init_3 obj _ _) PySem.F.entry_zip_new
  (aPd x t l ys) ⟨hl,?_⟩
 have z1:(zH1 s.heap x t).objs.size=s.heap.objs.size+1:=bJt ..;have z2:(zH2 s.heap x t l).objs.size=s.heap.objs.size+2:=by rw[bJt,z1]
 have z3:(zH3 s.heap x t l).objs.size=s.heap.objs.size+3:=by rw[bJt,z2]
 have z4:(zH4 s.heap x t l).objs.size=s.heap.objs.size+4:=by rw[bJt,z3]
 have z5:(zH5 s.heap x t l).objs.size=s.heap.objs.size+5:=by rw[bJt,z4]
 have g5:(zH5 s.heap x t l).get? (zH4 s.heap x t l).objs.size=some _:=bIy _ rfl;have g4:(zH5 s.heap x t l).get? (zH3 s.heap x t l).objs.size=some _:=bIi _ (bIy _ rfl);have g3:(zH5 s.heap x t l).get? (zH2 s.heap x t l).objs.size=some _:=bIi _ (bIi _ (bIy _ rfl));have g2:(zH5 s.heap x t l).get? (zH1 s.heap x t).objs.size=some _:=bIi _ (bIi _ (bIi _ (bIy _ rfl)));have g1:(zH5 s.heap x t l).get? s.heap.objs.size=some _:=bIi _ (bIi _ (bIi _ (bIi _ (bIy _ rfl))));show _/\_;rw[z2,z3,z4]at g5;rw[z1,z2]at g3;rw[z3]at g4;rw[z1]at g2;rw[z4];exact⟨⟨_,g5,rfl⟩,h _ g5 g3 g4 ⟨_,g1,rfl,rfl⟩ ⟨_,g2,rfl,rfl⟩ z5 λc o x=>
  bIi _ (bIi _ (bIi _ (bIi _ (bIi _ x))))⟩
def aJc(hh:A.handled=none)(it:Addr)(x:Str)(t:Tok){n:String}(hn:n="str_ascii_iterator"\/n="str_iterator") :
  Draws prog w A it [it] x.cps.size (λi v=>∃c u,x.cps[i]?=some c/\v=.str ⟨#[c]⟩ u) (λi h=>h.IsStrIter it n x t i):=by
 rcases hn with rfl|rfl
 .exact Draws.strAscii hh it x t
 .exact Draws.strWide hh it x t
def bAt(hh:A.handled=none){it:Addr} {t:Tok} {n:String} (hn:n="str_ascii_iterator"\/n="str_iterator") {Q:Value->Shared->Prop} (st:s.heap.IsStrIter it n x t i) (hx:x.cps[i]?=none)
  (hE:∀h' e,Heap.ExtBut it s.heap h'->(∃o,h'.get? e=some o/\o.cls=.type "StopIteration")->E (.ref e) {s with heap:=h'}):wpAny (model prog w) A (Builtin.SmallTypes.nextOf (.ref it)) Q E s:=by
 rcases hn with rfl|rfl
 .exact wpAny_nextOf_ascii_end hh st hx hE
 .exact wpAny_nextOf_wide_end hh st hx hE
def aI1(x:Str):strIterType x="str_ascii_iterator"\/strIterType x="str_iterator":=by
 unfold strIterType;split<;>simp
end
def Itz(K:Frag)(z:List Nat)(a:Addr):It:=
 ⟨λi H=>i<z.length/\∃xs x,SqL K H a xs/\xs[i]?=some x,λi H x H'=>∃T c v,x=V.ref T/\H T=none/\z[i]?=some c/\H'=upd H T (.tup [.str ⟨#[c]⟩,v])/\∀xs,SqL K H a xs->xs[i]?=some v,λi H=>∃xs,SqL K H a xs/\(z.length<=i\/xs.length<=i)⟩
def aXe{K:Frag} {x1} {tp:Pos} {zs:List Nat} {t:Tok} {n:String} (hn:n="str_ascii_iterator"\/n="str_iterator") (a z TI TO i1 i2:Addr) (D:∀l,l=a->ZApart z TI TO i1 i2 l [i1]) :
  Turn P w K (.Tuple elts x1 tp) (Itz K zs a) [z,TI,TO,i1,i2] z (λi h=>IsZip h z TI TO .none/\IsPair h TI (.ref i1) (.ref i2)/\(∃u v,IsPair h TO u v)/\h.IsStrIter i1 n ⟨zs.toArray⟩ t i/\h.IsListIter i2 a i) where
 mem:=by simp
 obj:=λi h st b hb=>by
  obtain⟨hz,hTI,⟨u,v,hTO⟩,⟨o1,q1,c1,d1⟩,⟨o2,q2,c2,d2⟩⟩:=st;simp only[mem_cons,not_mem_nil,or_false]at hb;rcases hb with rfl|rfl|rfl|rfl|rfl
  .exact⟨_,hz,λv z=>by cases z⟩
  .exact⟨_,hTI,λv z=>by cases z⟩
  .exact⟨_,hTO,λv z=>by cases z⟩
  .exact⟨o1,q1,λv z=>by rw[d1]at z;cases z⟩
  .exact⟨o2,q2,λv z=>by rw[d2]at z;cases z⟩
 keep:=λi h h' st k=>by
  obtain⟨hz,hTI,⟨u,v,hTO⟩,⟨o1,q1,r1⟩,h2⟩:=st;exact⟨k z (by simp) _ hz,k TI (by simp) _ hTI,⟨u,v,k TO (by simp) _ hTO⟩,⟨o1,k i1 (by simp) _ q1,r1⟩,h2.at λo x=>k i2 (by simp) o x⟩
 item:=by
  intro X hP hw hK hc i pins s σ H E I hf st hg;subst hP hw hK;obtain⟨hz,hTI,⟨u0,v0,hTO⟩,h1,h2⟩:=st;obtain⟨hi,xs,x,hq,hx⟩:=hg;obtain⟨its,rv,p,_⟩:=I.list hq;obtain⟨u,hu,ru⟩:=rv.get hx;have D:=D a rfl;have fo:∀b∈[z,TI,TO,i1,i2],H b=none:=λb hb=>(hf b hb).1
  have hT:H s.heap.objs.size=none:=I.hok.fresh (bIn _);have hzt:s.TypeIs (.ref z) "zip":=⟨_,hz,rfl⟩;have hh:=I.ok.hd hc;unfold pyNext;refine bIh (bNk (wpAny_callSpecial?_slot (name:=Str.ofString "__next__") hzt bLe
   (wpAny_call_entry bLe hzt bO0
    (aXd (aJc (A:=X.A.in1) hh i1 ⟨zs.toArray⟩ t hn) D hz hTI hTO h1 (by simpa using hi) h2 p.isList (y:=u) (by simpa using hu) λh' tk v hP a1 a2 a3 a4 a5 a6 hk=>wpAny_pure ?_) (PySem.F.args_zip_next_1 _))))
  obtain⟨c,uu,hcc,rfl⟩:=hP;refine⟨_,rfl,wpAny_letOwnedTupleGo_zip (s:={s with heap:=h',toks:=tk}) a1 λh9 hz9 sb=>?_⟩
  have hkeep:∀b o,b≠z->b≠TO->b≠i1->b≠i2->s.heap.get? b=some o->h9.get? b=some o:=λb o e1 e2 e3 e4 q=>(sb.2 b e1).trans (hk b o e1 e2 e3 e4 q)
  have zlt:z≠s.heap.objs.size:=bJm (bJ2 hz);have htup:h9.get? s.heap.objs.size=some {cls:=.type "tuple",data:=.seq #[.str ⟨#[c]⟩ uu,u]}:=(sb.2 _ zlt.symm).trans a5;have nT:∀b u',H b=some u'->b≠s.heap.objs.size:=λb u' q=>aX q hT
  have nx:∀b u',H b=some u'->b≠z/\b≠TO/\b≠i1/\b≠i2:=λb u' q=>⟨aX q (fo z (by simp)),aX q (fo TO (by simp)),aX q (fo i1 (by simp)),aX q (fo i2 (by simp))⟩
  have mx:∀b:Addr,b∉[z,TI,TO,i1,i2]->b≠z/\b≠TO/\b≠i1/\b≠i2:=λb hb=>⟨λq=>hb (by simp[q]),λq=>hb (by simp[q]),λq=>hb (by simp[q]),λq=>hb (by simp[q])⟩
  have inL:∀b o,s.heap.get? b=some o->b≠s.heap.objs.size:=λb o q=>bJm (bJ2 q)
  have kp:∀b o,b∉[z,TI,TO,i1,i2]->s.heap.get? b=some o->h9.get? b=some o:=λb o hb q=>hkeep b o (mx b hb).1 (mx b hb).2.1 (mx b hb).2.2.1 (mx b hb).2.2.2 q
  have un:Un (frs X.stack) [z,TI,TO,i1,i2] H (upd H s.heap.objs.size (.tup [.str ⟨#[c]⟩,x])) s.heap h9:=by
   refine⟨λb o q n hb hx=>kp b o hx q,λb o q n hb hx=>⟨o.slots,kp b o hx q⟩,λb o q n hx=>by rw[aY (inL b o q)];exact n,λb o q hx=>⟨o,kp b o hx q⟩,λb ys q=>by rw[aY (nT b _ q)];exact q,λb o u' q=>by rw[aY (nT b _ q)];exact q,λb ps q=>⟨#[],by rw[aY (nT b _ q),Array.append_empty];exact q⟩⟩
  have hok:HOk X.prog X.w (upd H s.heap.objs.size (.tup [.str ⟨#[c]⟩,x])) h9:=λb u' q=>by
   by_cases hb:b=s.heap.objs.size
   .subst hb;rw[bJ]at q;cases q;exact⟨show 2<=sizeLine by decide,[.str ⟨#[c]⟩ uu,u],.cons ⟨_,rfl⟩ (.cons ru .nil),_,htup,rfl,_,rfl⟩
   .rw[aY hb]at q;refine(I.hok b u' q).stay (λc v hc' q'=>?_) (λc q'=>by rw[aY (nT c _ q')];exact q') λc ys q'=>by rw[aY (nT c _ q')];exact q'
    have:∃u'',H c=some u'':=by
     rcases hc' with z|z
     .exact⟨u',by rw[z];exact q⟩
     .exact⟨_,z⟩
    obtain⟨u'',hu''⟩:=this;obtain⟨e1,e2,e3,e4⟩:=nx c _ hu'';exact hkeep c v e1 e2 e3 e4 q'
  have I2:Inv X pins σ (upd H s.heap.objs.size (.tup [.str ⟨#[c]⟩,x])) {s with heap:=h9,toks:=tk}:=I.call (g':=s.gens) (t':=tk) (d':=s.drawn) (ch:=[z,TI,TO,i1,i2]) un hok I.bare λb hb=>by
   have fb:=hf b hb;exact⟨fb.2.2.2.1,fb.2.1,fb.2.2.2.2.1,fb.2.2.2.2.2⟩
  have up:∀b o,b≠z->h'.get? b=some o->h9.get? b=some o:=λb o e q=>(sb.2 b e).trans q
  refine⟨.ref s.heap.objs.size,_,I2,rfl,⟨_,c,x,rfl,hT,by simpa using hcc,rfl,λys hy=>by rw[I.list_inj hy hq];exact hx⟩,⟨hz9,up _ _ D.TIz (hk _ _ D.TIz D.TITO D.TIi1 D.TIi2 hTI),⟨_,_,up _ _ D.TOz a2⟩,?_,a4.at λo y=>up _ o D.i2z y⟩,λb hb=>?_⟩
  .obtain⟨o1,q1,r1⟩:=a3;exact⟨o1,up _ _ D.i1z q1,r1⟩
  .have hbs:∃o,s.heap.get? b=some o:=by
    simp only[mem_cons,not_mem_nil,or_false]at hb;obtain⟨o1,q1,_⟩:=h1;obtain⟨o2,q2,_⟩:=h2;rcases hb with rfl|rfl|rfl|rfl|rfl
    .exact⟨_,hz⟩
    .exact⟨_,hTI⟩
    .exact⟨_,hTO⟩
    .exact⟨_,q1⟩
    .exact⟨_,q2⟩
   obtain⟨o,q⟩:=hbs;rw[aY (inL b o q)];exact fo b hb
 done:=by
  intro X hP hw hK hc i pins s σ H E I hf st hg;subst hP hw hK;obtain⟨hz,hTI,⟨u0,v0,hTO⟩,h1,h2⟩:=st;obtain⟨xs,hq,hx⟩:=hg;obtain⟨its,rv,p,_⟩:=I.list hq;have D:=D a rfl;have hzt:s.TypeIs (.ref z) "zip":=⟨_,hz,rfl⟩;have hh:=I.ok.hd hc;have hl:=rv.length;unfold pyNext;refine bIh (bNk (wpAny_callSpecial?_slot (name:=Str.ofString "__next__") hzt bLe
   (wpAny_call_entry bLe hzt bO0
    (bAs (aJc (A:=X.A.in1) hh i1 ⟨zs.toArray⟩ t hn) hh D hz hTI hTO h1 h2 p.isList (by
     by_cases hi:zs.length<=i
     .refine .inl λs' Q E st hE=>bAt (A:=X.A.in1) hh hn st (by simpa using hi) hE
     .exact .inr ⟨by simpa using hi,by simp;omega⟩) λh' e tk hk he=>?_) (PySem.F.args_zip_next_1 _))))
  obtain⟨o,ho,hce⟩:=he;refine bIh (wpAny_isInstance (T:="StopIteration") (b:=true) ⟨o,ho,hce⟩ isSubtype_stop ?_);refine bIx ⟨rfl,?_⟩;have fo:∀b∈[z,TI,TO,i1,i2],H b=none:=λb hb=>(hf b hb).1
  have mx:∀b:Addr,b∉[z,TI,TO,i1,i2]->b≠z/\b≠TO/\b≠i1/\b≠i2:=λb hb=>⟨λq=>hb (by simp[q]),λq=>hb (by simp[q]),λq=>hb (by simp[q]),λq=>hb (by simp[q])⟩
  have kp:∀b o,b∉[z,TI,TO,i1,i2]->s.heap.get? b=some o->h'.get? b=some o:=λb o hb q=>hk b o (mx b hb).1 (mx b hb).2.1 (mx b hb).2.2.1 (mx b hb).2.2.2 q
  have un:Un (frs X.stack) [z,TI,TO,i1,i2] H H s.heap h':=
   ⟨λb o q n hb hx=>kp b o hx q,λb o q n hb hx=>⟨o.slots,kp b o hx q⟩,λb o q n hx=>n,λb o q hx=>⟨o,kp b o hx q⟩,λb ys q=>q,λb o u' q=>q,λb ps q=>⟨#[],by rw[Array.append_empty];exact q⟩⟩
  have hok:HOk X.prog X.w H h':=λb u' q=>by
   refine(I.hok b u' q).stay (λc v hc' q'=>?_) (λc q'=>q') λc ys q'=>q'
   have:∃u'',H c=some u'':=by
    rcases hc' with z|z
    .exact⟨u',by rw[z];exact q⟩
    .exact⟨_,z⟩
   obtain⟨u'',hu''⟩:=this;exact hk c v (aX hu'' (fo z (by simp))) (aX hu'' (fo TO (by simp))) (aX hu'' (fo i1 (by simp))) (aX hu'' (fo i2 (by simp))) q'
  exact I.call (g':=s.gens) (t':=tk) (d':=s.drawn) (ch:=[z,TI,TO,i1,i2]) un hok I.bare λb hb=>by
   have fb:=hf b hb;exact⟨fb.2.2.2.1,fb.2.1,fb.2.2.2.2.1,fb.2.2.2.2.2⟩
 self:=λ_ _ _ _ _ st h=>wpAny_pyIter_zip st.1 h
theorem aMx:∀(z:List Nat)(ds:List D),(aC1 z ds).length=min z.length ds.length
 |[],ds=>by simp[aC1]
 |c::z,[]=>by simp[aC1]
 |c::z,d::ds=>by rw[aC1,bJ7,bJ7,bJ7,aMx];omega
theorem aMy:∀(z:List Nat)(ds:List D)(i:Nat)(d:D),(aC1 z ds)[i]?=some d->∃c e,z[i]?=some c/\ds[i]?=some e/\d=.tup [.str [c],e]
 |[],ds,i,d,h=>by simp[aC1]at h
 |c::z,[],i,d,h=>by simp[aC1]at h
 |c::z,e::ds,0,d,h=>by
  rw[aC1]at h;simp at h;exact⟨c,e,rfl,rfl,h.symm⟩
 |c::z,e::ds,i+1,d,h=>by
  rw[aC1,bKo]at h;obtain⟨c',e',h1,h2,h3⟩:=aMy z ds i d h;exact⟨c',e',by simpa using h1,by simpa using h2,h3⟩
section
variable {a:Expr}
def bE7{K:Frag} {l:Addr} (hq:SqL K (hide (A++B) H) l vs) (r:bD K (hide (A++B) H) ds vs):aP0 K B A H (Itz K z l) (aC1 z ds):=by
 intro A' H' le own i;have hq':SqL K H' l vs:=(bI _ _).seq ((Le.app le).seq hq);refine⟨λd hd=>?_,λhl=>⟨vs,hq',?_⟩⟩
 .obtain⟨c,e,h1,h2,rfl⟩:=aMy z ds i d hd;obtain⟨v,hv,rv⟩:=r.get h2;refine⟨⟨(bIk.mp h1).1,vs,v,hq',hv⟩,λx H3 y=>?_⟩
  obtain⟨T,c',v',rfl,hT,hc',rfl,h5⟩:=y;have hx:=h5 vs hq';rw[hv]at hx;cases hx;rw[h1]at hc';cases hc';exact⟨cV hT,aEu own hT (.cons (cY.mpr rfl) (.cons (rv.mono (Le.app le)) .nil))⟩
 .rw[aMx]at hl;rw[r.length];omega
def bE8{x1}{tp p:Pos}(hm:X.mg "zip"=none)(ha:PE X a (tI X.K B f))(hb:PE X b (tI X.K B g))(hg:Gl X "zip":=by rfl)(hs:starEach [a,b] X.env=(false,eval a X.env)::starEach [b] X.env:=by rfl)(hs2:starEach [b] X.env=[(false,eval b X.env)]:=by rfl):L2.PI X (.Tuple elts x1 tp) (.Call (.Name "zip" p) [a,b] [] pos) (tIt X.K B (bBp f g)):=by
 intro pins s σ H Rq I ⟨A,st,ds,rs,hd,q⟩;obtain⟨x,hx,h2⟩:=R.ok_of hd;obtain⟨y,hy,h3⟩:=R.ok_of h2;split at h3
 rotate_left
 .cases h3
 rename_i zs ws;cases h3;refine Call_ (xW I hg hm boot_zip (bKb (thn ((dF ha (dF hb gU hs2) hs) pos pins s σ H (λvs H1=>∃v w,vs=[v,w]/\bC H H1/\Rep X.K (hide (A++B) H1) (.str zs) v/\Rep X.K (hide (A++B) H1) (.lst ws) w) I ⟨A,st,_,rs,hx,λv H1 s1 r1=>⟨A,st,_,rs.mono s1,hy,λw H2 s2 r2=>⟨v,w,rfl,s1.trans s2,r1.mono (bC.hide s2),r2⟩⟩⟩) λus s1 ⟨vs,H1,I1,r1,v,w,hv,sm,rv,rw'⟩=>?_) hs (by rw[hs2];rfl)))
 subst hv;obtain⟨u1,u2,rfl,ra,rb⟩:∃u1 u2,us=[u1,u2]/\L2.RelV v u1/\L2.RelV w u2:=by
  cases r1 with
  |cons ra rb=>
   cases rb with
   |cons rb rc=>
    cases rc;exact⟨_,_,rfl,ra,rb⟩
 obtain⟨l,ts,rfl,hq,rr⟩:=eN.mp rw';have ev:=cY.mp rv;subst ev;obtain⟨t,rfl⟩:=(show ∃t,u1=Value.str ⟨zs.toArray⟩ t from ra)
 have eu:u2=Value.ref l:=rb;subst eu;obtain⟨its,rvv,pl,hz⟩:=I1.list ((bI _ _).seq hq);have hlt:l<s1.heap.objs.size:=by
  obtain⟨o,e,_⟩:=pl.isList;exact bJ2 e
 refine aTg pl.isList λh' hz' hTI hTO hit1 hit2 hsz hk=>?_
 refine wpAny_pyIter_zip hz' ⟨s1.heap.objs.size+4,[s1.heap.objs.size+4,s1.heap.objs.size+2,s1.heap.objs.size+3,s1.heap.objs.size,s1.heap.objs.size+1],_,Itz X.K zs l,H1,rfl,I1.kept (t':=s1.toks) hk,aXe (t:=t) (aI1 ⟨zs.toArray⟩) l (s1.heap.objs.size+4) (s1.heap.objs.size+2) (s1.heap.objs.size+3) s1.heap.objs.size (s1.heap.objs.size+1) (λl' e=>?_),⟨hz',hTI,⟨_,_,hTO⟩,hit1,hit2⟩,λb hb=>?_,q _ H1 sm (bE7 hq rr)⟩
 .subst e;exact aPc hlt
 .simp only[mem_cons,not_mem_nil,or_false]at hb;rcases hb with rfl|rfl|rfl|rfl|rfl<;>exact I1.fpOk (by simp) (I1.hok.fresh (by simp))
end
section
variable {a:Expr} {q:Pos}
def bE9{ta:TA}(hm:X.mg "range"=none)(ha:PA X [a] ta)(hg:Gl X "range":=by rfl)(hs:starEach [a] X.env=[(false,eval a X.env)]:=by rfl) :
  PE X (.Call (.Name "range" p1) [a] [] q) (λσ H Q=>ta σ H λvs H1=>∃j:Int,vs=[.int j]/\∀r,H1 r=none->Q (.ref r) (upd H1 r (.rng 0 j))):=by
 intro pins s σ H Q I h;refine Call_ (xW I hg hm boot_range (bKb (thn (ha q pins s σ H _ I h) λus s1 ⟨vs,H1,I1,r1,j,e,qq⟩=>?_) hs rfl))
 subst e;cases r1 with
 |cons r rr=>
  cases rr;obtain⟨t,rfl⟩:=r;exact call_range_1 ⟨.ref s1.heap.objs.size,_,I1.laid (a:=s1.heap.objs.size) (o:=.rng 0 j) (λb o e=>bIi _ e) (bIn _) ⟨_,_,_,bIy _ rfl⟩,rfl,qq _ (I1.hok.fresh (bIn _))⟩
def aKt(hc:X.calm=true):nA X (.type "list") (λvs H Q=>∃r,∃j:Int,vs=[.ref r]/\H r=some (.rng 0 j)/\-10000000<=j/\j<=10000000/\∀n,H n=none->Q (.ref n) (upd H n (.lst ((List.range j.toNat).map λ(k:Nat)=>V.int (k:Int))))):=by
 intro pins s σ H vs us Q I r h;obtain⟨l,j,rfl,hl,h1,h2,q⟩:=h;obtain⟨u,rfl,ru⟩:=r.one;obtain rfl:u=Value.ref l:=ru;obtain⟨t,u,v,ho⟩:=(show ∃t u v,s.heap.get? l=some {cls:=.type "range",data:=.fields #[.int 0 t,.int j u,.int 1 v]} from I.hok l _ hl)
 have hn:Builtin.Range.rangeSize 0 j 1=(j.toNat:Nat):=by rw[rangeSize_one];split<;>omega
 refine call_list_range (I.ok.hd hc) ho (small_one (by omega) (by omega) (by omega) (by omega)) hn (by omega) λh' tk acc c' hk hs hi=>?_
 refine⟨.ref s.heap.objs.size,_,I.laid (o:=.lst ((List.range j.toNat).map λ(k:Nat)=>V.int (k:Int))) (t':=tk) hk (bIn _) ⟨?_,acc.toList,c',?_,by simpa using hs⟩,rfl,q _ (I.hok.fresh (Nat.le_refl _))⟩
 .rw[bJ9,bN2,bKk];omega
 .obtain⟨h3,h4⟩:=hi;have key:∀(n:Nat)(xs:List Value),xs.length=n->(∀(k:Nat) w,xs[k]?=some w->∃t,w=.int (0+(k:Int)*1) t)->Vals ((List.range n).map λ(k:Nat)=>V.int (k:Int)) xs:=by
   intro n
   induction n with
   |zero=>intro xs hx _;rw[bJw.mp hx];exact .nil
   |succ n ih=>
    intro xs hx hp;obtain⟨ys,y,rfl⟩:∃ys y,xs=ys++[y]:=by
     rcases bLc xs with e|⟨ys,y,e⟩
     .rw[e]at hx;simp at hx
     .exact⟨ys,y,by rw[e,bLd]⟩
    have hy:ys.length=n:=by simpa using hx
    rw[List.range_succ,bJs];refine(ih ys hy λk w hk=>?_).append (.cons ?_ .nil)
    .exact hp k w (by rw[bJg (bIk.mp hk).1];exact hk)
    .obtain⟨t,e⟩:=hp n y (by rw[bJu (by omega),hy];simp)
     exact⟨t,by rw[e];simp⟩
  exact key _ _ (by simpa using h3) λk w hk=>by
   obtain⟨t,e⟩:=h4 k w (by simpa using hk)
   exact⟨t,e⟩
def aPe{K:Frag} (n:Nat):bD K H (fU 0 n) ((List.range n).map λ(k:Nat)=>V.int (k:Int)):=by
 unfold fU;generalize List.range n=l
 induction l with
 |nil=>exact .nil
 |cons x l ih=>exact .cons (bH.mpr (by rw[bOq])) ih
def aMz(hm:X.mg "list"=none)(hr:X.mg "range"=none)(hc:X.calm=true)(ha:PE X a (tP X.K B f))(hg:Gl X "list":=by rfl)(hg2:Gl X "range":=by rfl)(hs:starEach [a] X.env=(false,eval a X.env)::starEach [] X.env:=by rfl)(hs2:starEach [Expr.Call (.Name "range" p1) [a] [] q] X.env=(false,eval (.Call (.Name "range" p1) [a] [] q) X.env)::starEach [] X.env:=by rfl) :
  PE X (.Call (.Name "list" p0) [.Call (.Name "range" p1) [a] [] q] [] pos) (tI X.K B (e1 aC2 f)):=by
 refine cN (uI (aKt hc) hg hm (by rfl) (dF (bE9 hr (dF ha gU hs) hg2 hs) gU hs2) (he:=hs2)) ?_
 rintro σ H Q ⟨A,st,d,rs,hd,qq⟩;obtain⟨x,hx,h2⟩:=R.ok_of hd;refine⟨A,st,x,rs,hx,λv H1 s1 r1=>?_⟩
 cases x<;>first|(cases h2;done)|skip
 rename_i j;obtain⟨c,h3⟩:=aK h2;cases h3;rw[nG]at c;refine⟨j,by rw[r1.int],λr hr=>⟨r,j,rfl,bJ,by omega,by omega,λn hn=>?_⟩⟩
 have w1:=rs.own.mono (s1.trans (cV (o:=.rng 0 j) hr));exact qq _ _ (s1.trans ((cV hr).trans (cV hn))) (lU w1 hn (aPe _))
def bAu(i:Nat) {dp:Pos} (hk:PE X a (tI X.K B g)) (hv:PE X b (tI X.K B f)) (hN:X.N.Nodup) (hi:X.N[i]?=some x:=by rfl) (hx:Loc X.env.scope x:=by first|exact Or.inl rfl|exact Or.inr rfl) (hs:swapsWith (.Dict [some a] [b] dp) (some (.Name x pos')) pos.line X.env=pure false:=by rfl)
  (hf:X.fn x=true\/X.env.scope.names.lookup x=some .local:=by first|exact .inl rfl|exact .inr rfl|assumption):PS X (.Assign [.Name x pos'] (.Dict [some a] [b] dp) pos) (tS X.K B (aOa i g f)):=kZ (aD7 hN hi hx (aZ0 (aUo hk hv aYz) rfl rfl (by simp) (show 1<=15 by omega)) hs hf) (by
 rintro Dn σ H ⟨A,st,r,rs,hr,p⟩;obtain⟨k,hk,h2⟩:=R.ok_of hr;obtain⟨d,hd,h3⟩:=R.ok_of h2;obtain⟨⟨c1,c2⟩,h4⟩:=aK h3;cases h4;intro a ha;refine⟨A,st,k,rs.mono (cV ha),hk,λu H1 s1 r1=>⟨A,st,d,(rs.mono (cV ha)).mono s1,hd,λv H2 s2 r2=>?_⟩⟩
 have e2:H2 a=some (.dK []):=s2 _ _ (s1 _ _ bJ);obtain⟨kk,ek,ev⟩:∃kk:Key,jX kk=k/\u=kV kk:=by
  cases k<;>first|(cases c1;done)|skip
  .exact⟨.inl _,rfl,bH.mp r1⟩
  .refine⟨.inr ⟨_⟩,?_,cY.mp r1⟩;simp[jX]
 refine⟨e2,[(kk,v)],by rw[ev];rfl,(show 1<=15 by omega),?_⟩
 let G:Hp:=λb=>if b=a then none else H2 b
 have sG:bC H G:=λb o z=>by
  have hb:b≠a:=aX z ha;show (if b=a then none else H2 b)=_
  rw[bIt hb];exact s2 _ _ (s1 _ _ (by rw[aY hb];exact z))
 have gN:G a=none:=bIv rfl;have eG:upd H2 a (.dK (aDc [] [(kk,v)]))=upd G a (.dK [(kk,v)]):=by
  funext b
  by_cases hb:b=a
  .subst hb;rw[bJ,bJ];rfl
  .rw[aY hb,aY hb];exact(bIt hb).symm
 rw[eG];exact p (a::A) _ _ ((Le.of sG).trans (aGy gN)) ((rs.mono sG).setO (kk:=.d false [k]) i gN (.inl ⟨rfl,[(kk,v)],rfl,by rw[<-ek];rfl,rfl⟩) (.cons ((aMw c2 r2).mono aRs) .nil)))
end
def bitAnd_nn{i j:Int}(h1:0<=i)(h2:0<=j):Builtin.bitAnd i j=((i.toNat&&&j.toNat:Nat):Int):=by
 unfold Builtin.bitAnd;rw[bIr h1,bIr h2]
def aXf{i j:Int}(h1:0<=i)(h2:0<=j):Builtin.bitOr i j=((i.toNat|||j.toNat:Nat):Int):=by
 unfold Builtin.bitOr Builtin.bitAnd;have a1:¬ 0<=Builtin.bitNot i:=by unfold Builtin.bitNot;omega
 have a2:¬ 0<=Builtin.bitNot j:=by unfold Builtin.bitNot;omega
 rw[bIs a1,bIs a2];have e1:Builtin.bitNot (Builtin.bitNot i)=i:=by unfold Builtin.bitNot;omega
 have e2:Builtin.bitNot (Builtin.bitNot j)=j:=by unfold Builtin.bitNot;omega
 show Builtin.bitNot (Builtin.bitNot _)=_;rw[e1,e2];unfold Builtin.bitNot;omega
section
variable {a o:Expr}
def aN0(ha:PE X a (tP X.K B f))(hb:PE X b (tP X.K B g)):PE X (.BinOp a .LShift b pos) (tI X.K B (e2 aDe f g)):=
 aHz bCm (aGv (g:=λi j=>.int (i*2^j.toNat)) (λ_ _ _=>bH.mpr rfl) λx y d e=>by
  unfold aDe at e;split at e
  .obtain⟨c,e⟩:=aK e;cases e;exact⟨_,_,rfl,rfl,c,rfl⟩
  .cases e) ha hb
def aN1(ha:PE X a (tP X.K B f))(hb:PE X b (tP X.K B g)):PE X (.BinOp a .RShift b pos) (tI X.K B (e2 aDf f g)):=
 aHz bCn (aGv (g:=λi j=>.int (i/2^j.toNat)) (λ_ _ _=>bH.mpr rfl) λx y d e=>by
  unfold aDf at e;split at e
  .obtain⟨c,e⟩:=aK e;cases e;exact⟨_,_,rfl,rfl,c,rfl⟩
  .cases e) ha hb
def aE2(ha:PE X a (tP X.K B f))(hb:PE X b (tP X.K B g)):PE X (.BinOp a .BitAnd b pos) (tI X.K B (e2 aC3 f g)):=
 aHz bCo (vX (g:=λi j=>.int (Builtin.bitAnd i j)) (λ_ _ _=>bH.mpr rfl) λx y d e=>by
  unfold aC3 at e;split at e
  .obtain⟨c,e⟩:=aK e;cases e;exact⟨_,_,rfl,rfl,by rw[bitAnd_nn c.1 c.2]⟩
  .cases e) ha hb
def aN2(ha:PE X a (tP X.K B f))(hb:PE X b (tP X.K B g)):PE X (.BinOp a .BitOr b pos) (tI X.K B (e2 dOr f g)):=
 aHz bFf (vX (g:=λi j=>.int (Builtin.bitOr i j)) (λ_ _ _=>bH.mpr rfl) λx y d e=>by
  unfold dOr at e;split at e
  .obtain⟨c,e⟩:=aK e;cases e;exact⟨_,_,rfl,rfl,by rw[aXf c.1 c.2]⟩
  .cases e) ha hb
theorem aHc{K:Frag}{H:Hp}:∀{l:List Int}{vs:List V},bD K H (l.map D.int) vs->vs=l.map V.int
 |[],vs,h=>cG.mp h
 |i::l,vs,h=>by
  obtain⟨v,r,rfl,h1,h2⟩:=bK.mp h;rw[bH.mp h1,aHc h2];rfl
theorem vals_ints:∀{l:List Int}{us:List Value},Vals (l.map V.int) us->∀(j:Nat)(h:j<us.length),∃i t,l[j]?=some i/\us[j]=.int i t
 |[],us,r,j,h=>by cases r;simp at h
 |i::l,us,r,j,h=>by
  cases r with
  |cons ra rb=>
   obtain⟨t,rfl⟩:=ra;cases j with
   |zero=>exact⟨i,t,rfl,rfl⟩
   |succ j=>
    obtain⟨i',t',h1,h2⟩:=vals_ints rb j (by simpa using h)
    exact⟨i',t',by simpa using h1,by simpa using h2⟩
def aTh:MtR X "list.index" (λx vs H Q=>∃(p:Addr)(l:List Int)(k:Int)(n:Nat),x=V.ref p/\vs=[.int k]/\SqL X.K H p (l.map V.int)/\l.findIdx? (λi=>i==k)=some n/\l.length<=10000000/\Q (.int (n:Int)) H):=by
 intro pins s σ H x vs v us Q I rx rv h;obtain⟨p,l,k,n,rfl,rfl,hq,hn,hl,q⟩:=h;obtain⟨u,rfl,ru⟩:=rv.one;obtain⟨t,rfl⟩:=(show ∃t,u=Value.int k t from ru)
 have ep:v=Value.ref p:=rx;subst ep;obtain⟨its,rr,⟨⟨cls,dd,data,sl⟩,n0,ho,hc,_,hd⟩,hz⟩:=I.list hq;have hlen:=rr.length;rw[bJ9]at hlen;obtain⟨h1,h2,h3⟩:=bLv.mp hn;dsimp only at hc hd;subst hc hd;have hnu:n<its.length:=by omega
 refine bNb bNl ⟨_,ho,rfl⟩ PySem.F.entry_list_index (PySem.F.args_list_index_2 _ _) (PySem.SeqAt.list_indexAt p its.toArray n0 dd sl (.int k t) (λy=>match y with|.int i _=>i==k|_=>false) n (by simpa using hnu) (by omega) ?_ λm hm hmn=>?_) ⟨ho,λy hy=>?_,?_⟩
 .obtain⟨i,t',e1,e2⟩:=vals_ints rr n hnu;rw[bOg,e2];rw[bIj h1]at e1;cases e1;exact h2
 .have hm':m<its.length:=by simpa using hm
  obtain⟨i,t',e1,e2⟩:=vals_ints rr m hm';rw[bOg,e2];rw[bIj (by omega)]at e1
  cases e1;have:=h3 m hmn;simpa using this
 .obtain⟨m,hm,rfl⟩:=bKu.mp (show y∈its by simpa using hy)
  obtain⟨i,t',e1,e2⟩:=vals_ints rr m hm;rw[e2];exact(PySem.MeetsSeq.EqGives.int i k t' t).at _ _
 .exact⟨.int (n:Int),H,I.tok _,⟨_,rfl⟩,q⟩
def aXg{r:Exs}(ho:PE X o (tP X.K B f))(ha:PA X [e] (tA X.K B r))(hbase:attributeBase o "index" X.env (eval o X.env)=eval o X.env:=by rfl)
  (hfew:((backTo cpos (starEach [e] X.env)).all (λx=>!x.1)&&(backToKw cpos (keywordEach [] X.env)).all (λx=>x.1.isSome)
   && decide (([e]:List Expr).length+([]:List Keyword).length+(if ([]:List Keyword).isEmpty then 0 else 1)<30))=true:=by rfl)
  (hline:(apos.endLine==cpos.line)=true:=by rfl) (hs:starEach [e] X.env=(false,eval e X.env)::starEach [] X.env:=by rfl) :
  PE X (.Call (.Attribute o "index" apos) [e] [] cpos) (tI X.K B (eMt aQg f r)):=by
 refine cN (aUk bL2 bNl PySem.F.type_list_index aTh ho ha hbase hfew hline hs rfl) ?_
 rintro σ H Q ⟨A,st,d,rs,hd,k⟩;obtain⟨x,hx,h2⟩:=R.ok_of hd;obtain⟨xs,hxs,h3⟩:=R.ok_of h2;unfold aQg at h3;split at h3
 .rename_i ys j;obtain⟨l,hl,h4⟩:=R.ok_of h3;obtain⟨n,hn,h5⟩:=R.ok_of h4;obtain⟨c,h6⟩:=aK h5;cases h6;have ey:=yH hl;subst ey;refine⟨A,st,_,rs,hx,λv H1 s1 r1=>?_⟩
  obtain⟨p,vs,e1,hq,rr⟩:=r1.lst;have ev:=aHc rr;subst ev;refine⟨by rw[e1];exact .inl ⟨rfl,_,hq⟩,A,st,_,rs.mono s1,hxs,λws H2 s2 r2=>?_⟩
  obtain⟨w,rfl,rw'⟩:=aRh r2;rw[nG,bJ9]at c;exact⟨p,l,j,n,e1,by rw[bH.mp rw'],s2.seq hq,vY hn,c,k _ H2 (s1.trans s2) (bH.mpr rfl)⟩
 .cases h3
def bAv:MtR X "int.bit_length" (λx vs H Q=>∃i:Int,x=.int i/\vs=[]/\Q (.int ((Builtin.Int.intBits i:Nat):Int)) H):=by
 intro pins s σ H x vs v us Q I rx rv h;obtain⟨i,rfl,rfl,q⟩:=h;obtain⟨t,rfl⟩:=(show ∃t,v=Value.int i t from rx)
 have hus:=rv.zero;subst hus;exact call_int_bit_length ⟨.int _,H,I.tok _,⟨_,rfl⟩,q⟩
def bAw(i:Int):Builtin.Int.intBits i=pZ i:=by
 unfold Builtin.Int.intBits pZ
 by_cases h:i=0
 .rw[bIv h,bIv (by rw[h];rfl)]
 .rw[bIt h,bIt (by simpa using h)]
def bEa(ho:PE X o (tP X.K B f))(hbase:attributeBase o "bit_length" X.env (eval o X.env)=eval o X.env:=by rfl)(hline:(apos.endLine==cpos.line)=true:=by rfl) :
  PE X (.Call (.Attribute o "bit_length" apos) [] [] cpos) (tI X.K B (e1 aFd f)):=by
 refine cN (aJu PySem.F.plainAttrs_int PySem.F.slot_int_bit_length PySem.F.type_int_bit_length bAv ho hbase hline) ?_
 rintro σ H Q ⟨A,st,d,rs,hd,k⟩;obtain⟨x,hx,h2⟩:=R.ok_of hd;cases x<;>first|(cases h2;done)|skip
 cases h2;refine⟨A,st,_,rs,hx,λv H1 s1 r1=>⟨by rw[r1.int];rfl,_,r1.int,rfl,?_⟩⟩
 rw[bAw];exact k _ H1 s1 (bH.mpr rfl)
end
section
open PySem.SeqAt
open PySem.AutoSeq1 (wpAny_loadPart')
open PySem.MeetsSeq PySem.MeetsSeq2 PySem.MeetsSeq3
inductive LexW (A:Around) (s:Shared):List Value->List Value->Bool->Prop where
 |nn:LexW A s [] [] true
 |nc {w:Value} {ws:List Value}:LexW A s [] (w::ws) true
 |cn {v:Value} {vs:List Value}:LexW A s (v::vs) [] false
 |eq {v w:Value} {vs ws:List Value} {b:Bool}:EqAt A s v w true->LexW A s vs ws b->LexW A s (v::vs) (w::ws) b
 |lt {v w:Value} {vs ws:List Value} {b:Bool}:EqAt A s v w false->(∀(prog:Program)(wd:World)(E Q:Value->Shared->Prop),Q (.bool b) s->wpAny (model prog wd) A (richCompare .LtE v w) Q E s)->LexW A s (v::vs) (w::ws) b
end
def aXh{k:Key}{u:Value}(h:aFr k u=true):L2.RelV (kV k) u:=by
 rcases eX h with ⟨i,t,rfl,rfl⟩|⟨x,t,rfl,rfl⟩
 .exact⟨t,rfl⟩
 .exact⟨t,rfl⟩
section
variable {a:Expr}
def aPf{vs:List (Key×Value)}(r:KV kvs vs):vs.length=kvs.length:=by
 unfold KV at r
 induction r with
 |nil=>rfl
 |cons _ _ ih=>simp[ih]
end
section
variable {iter c:Expr} {t:Tg} {u:Ex}
def aXi{K:Frag} {st:PSt} {p:Addr} (rs:RS K B A H st σ) (i:Nat) (s1:bC H H1) (hp:H1 p=none) (s2:bC H1 H') (hv:H' p=some (.lst vs)) (r:bD K (hide (A++p::B) H') ys vs) :
  RS K B (p::A) H' (st.set i (some (.o .l ys))) (σ.set i (some (.ref p)))/\Le A H (p::A) H':=by
 let G:Hp:=λb=>if b=p then none else H' b
 have hpH:H p=none:=by
  cases h:H p with
  |none=>rfl
  |some o=>rw[s1 _ _ h]at hp;cases hp
 have sG:bC H G:=λb o z=>by
  have hb:b≠p:=aX z hpH;show (if b=p then none else H' b)=_
  rw[bIt hb];exact s2 _ _ (s1 _ _ z)
 have gN:G p=none:=bIv rfl;have eG:upd G p (.lst vs)=H':=by
  funext b
  by_cases hb:b=p
  .subst hb;rw[bJ,hv]
  .rw[aY hb];exact bIt hb
 have eh:hide (A++p::B) H'=hide (A++B) G:=by
  funext b
  by_cases hb:b∈A++p::B
  .rw[eU hb];rcases mem_mid.mp hb with e|e
   .subst e
    by_cases hb2:b∈A++B
    .rw[eU hb2]
    .rw[bZ hb2];exact gN.symm
   .rw[eU e]
  .have h2:b∉A++B:=λz=>hb (mem_mid.mpr (.inr z))
   have h3:b≠p:=λz=>hb (mem_mid.mpr (.inl z))
   rw[bZ hb,bZ h2];exact(bIt h3).symm
 rw[eh]at r;have z:=(rs.mono sG).setO (kk:=.l) (o:=.lst vs) i gN rfl r;have l:=(Le.of (A:=A) sG).trans (aGy (o:=.lst vs) gN);rw[eG]at z l;exact⟨z,l⟩
def aRt(i:Nat){x:Str} (is:List Nat) (hsub:aJ7 is t) (S:CScope X scope is) (hi:L2.PI X tg iter (tIt X.K B it)) (hg:∀(B:List Addr)(C:Addr)(s₀:Shared)(H₀:Hp)(fp:List Addr),PG (cH X scope C s₀ H₀ fp) tg (tG X.K B t))
  (he:∀(B:List Addr)(C:Addr)(s₀:Shared)(H₀:Hp)(fp:List Addr),PE (cH X scope C s₀ H₀ fp) elt (tI X.K B f)) (hc:X.calm=true) (hN:X.N.Nodup) (hi':X.N[i]?=some x:=by rfl) (hx:Loc X.env.scope x:=by first|exact Or.inl rfl|exact Or.inr rfl)
  (hsw:swapsWith (.ListComp elt [⟨tg,iter,[],0⟩] scope pos) (some (.Name x px)) spos.line X.env=pure true:=by rfl)
  (hf:X.fn x=true\/X.env.scope.names.lookup x=some .local:=by first|exact .inl rfl|exact .inr rfl|assumption) (hs:∀x,foldedSetIterable iter X.env x=pure x:=by intro _;rfl) :
  PS X (.Assign [.Name x px] (.ListComp elt [⟨tg,iter,[],0⟩] scope pos) spos) (tS X.K B (pY i (cC is t it dM f))):=by
 intro pins s σ H Dn I h;obtain⟨A,st,r,rs,hr,q⟩:=h;obtain⟨d,hd,h3⟩:=R.ok_of hr;obtain⟨xs,hx',h2⟩:=R.ok_of hd;obtain⟨hl,h5⟩:=aK h2;obtain⟨ys,hy,h4⟩:=R.ok_of h5;cases h4;cases h3;rw[bMd _ _ _ _ hsw];refine bIh (bLg (bIh ?_));show wpAny _ X.A (do let _ <- comprehension (.ListComp elt [⟨tg,iter,[],0⟩] scope pos) scope X.env _ (newList []) false (eval iter X.env) (some (assign (.Name x px) X.env))) _ _ s
 refine bIh (bKf (Q:=λ_ s'=>SP X pins Dn .next s') ?_ (λ_ s' hq=>bIx (bIx hq)) λ_ _ e=>e)
 refine vC (use:=some (assign (.Name x px) X.env)) (Qf:=λ_ s'=>SP X pins Dn .next s') (Q:=λv H'=>Dn.nx (σ.set i (some v)) H') (tt:=aKm) (te:=tIx X.K f) (rest:=λenv it p=>eval elt env >>= λx=>call (.builtin "list.append") [p,x] >>= λ_=>again (.compLoop (.ListComp elt [⟨tg,iter,[],0⟩] scope pos) 0 it p env)) S hc hi (λC s₀ H₀ fp=>bAi λB=>hg B C s₀ H₀ fp) (λ_ _ _=>rE)
  (λC s₀ H₀ fp it p s Q h=>bGq (Y:=cH X scope C s₀ H₀ fp) h) (λC s₀ H₀ fp it p τ H s pins vs N Q I h q=>bBy (Y:=cH X scope C s₀ H₀ fp) rfl (bAh λB=>he B C s₀ H₀ fp) τ H s pins vs N Q I h (λQ Q' m h=>aCm Q Q' m h) q) hs I
  (aRf hsub (λτ H Q ⟨B,A,st,k,rs,hk,q⟩=>?_) rs hx' hl hy λp vs H1 H' s1 hp s2 hv r=>?_) λC p H5 s5 m5 s3 H3 fp τ hC I3 hfp I5 hn5 q5=>aE1 hN hi' hx hf hC I3 hfp I5 hn5 λs' I'=>⟨_,_,I',q5⟩
 .obtain⟨z,l⟩:=aXi rs i s1 hp s2 hv r;exact q _ _ _ l z
 .cases hk;exact q H (bC.refl _)
end
theorem aJd(l:List Int):∀n,n<=l.length->preSum (λi=>l.getD i 0) n=(l.take n).sum
 |0,_=>rfl
 |n+1,h=>by
  show preSum _ n+l.getD n 0=_;rw[aJd l n (by omega),bKt (by omega),List.sum_append]
  rw[bJq,bIj (by omega)]
  simp
section
variable {a:Expr}
def aTi(hc:X.calm=true):nA X (.builtin "sum") (λvs H Q=>∃(p:Addr)(l:List Int),vs=[.ref p]/\SqL X.K H p (l.map V.int)/\Q (.int l.sum) H):=by
 intro pins s σ H vs us Q I r h;obtain⟨p,l,rfl,hl,q⟩:=h;obtain⟨u,rfl,ru⟩:=r.one;obtain rfl:u=Value.ref p:=ru;obtain⟨its,rv,⟨ob,n,e,hcl,_,hd⟩,hz⟩:=I.list hl;have hlen:=rv.length;rw[bJ9]at hlen;have isl:s.heap.IsList p its.toArray:=⟨ob,e,hcl,n,hd⟩;have hlt:p<s.heap.objs.size:=bJ2 e;refine call_sum_walkAnyS (bLh isl ?_);refine⟨s.heap.objs.size,[s.heap.objs.size,p],[s.heap.objs.size],_,its.toArray.size,_,_,λi=>l.getD i 0,rfl,(Walks.list (prog:=X.prog) (w:=X.w) (A:=X.A.in1) (I.ok.hd hc) s.heap.objs.size p (bJm hlt) its.toArray).toS,⟨⟨_,bIy _ rfl,rfl,rfl⟩,isl.push _⟩,λb hb=>?_,λi v hv=>?_,λs' t' hm=>?_⟩
 .rw[bJt];rcases bIq.mp hb with rfl|hb
  .exact bL3 _
  .rw[bIu.mp hb];exact Nat.lt_succ_of_lt hlt
 .have hv':its[i]?=some v:=by simpa using hv
  have hi:i<its.length:=(bIk.mp hv').1;obtain⟨j,t,h1,h2⟩:=vals_ints rv i hi;refine⟨t,?_⟩;rw[bIj hi,h2]at hv';cases hv';show Value.int j t=Value.int (l.getD i 0) t;rw[bJq,h1];rfl
 .rw[Moved.eq_with hm];refine⟨.int l.sum,H,I.kept (t':=s'.toks) (λb o hb=>hm.heap b o (λz=>?_) (bIi _ hb)),⟨t',?_⟩,q⟩
  .exact absurd (bJ2 hb) (by rw[bIu.mp z];exact bJv _)
  .have:its.toArray.size=l.length:=by simp[hlen]
   rw[this,aJd l l.length (bIn _),bNt]
def bH0(hm:X.mg "sum"=none)(hc:X.calm=true)(ha:PE X a (tP X.K B f))(hg:Gl X "sum":=by rfl)(hs:starEach [a] X.env=(false,eval a X.env)::starEach [] X.env:=by rfl):PE X (.Call (.Name "sum" p0) [a] [] pos) (tI X.K B (e1 bG9 f)):=by
 refine cN (uH (aTi hc) hg hm (by rfl) (dF ha gU hs) (he:=hs)) ?_
 rintro σ H Q ⟨A,st,d,rs,hd,q⟩;obtain⟨x,hx,h2⟩:=R.ok_of hd;refine⟨A,st,x,rs,hx,λv H1 s1 r1=>?_⟩
 cases x<;>first|(cases h2;done)|skip
 obtain⟨is,h3,h4⟩:=R.ok_of h2;cases h4;obtain⟨l,vs,e,h5,r5⟩:=r1.lst;rw[yH h3]at r5;rw[zL r5]at h5;exact⟨l,is,by rw[e],h5,q _ H1 s1 (bH.mpr rfl)⟩
end
end Pu
namespace Pu
section
open PySem PySem.Spec PyProof.Rows L2
variable {a:Expr}
def aFq{K:Frag}:aAj K (rI0 λi j=>.bl (decide (i<j))) aOb:=vX (g:=λi j=>.bl (decide (i<j))) (λ_ _ _=>cL.mpr rfl) λx y d e=>by
 unfold aOb at e;split at e
 .cases e;exact⟨_,_,rfl,rfl,rfl⟩
 .cases e
def aXj{i j:Int}(c:(-18446744073709551616<i/\i<18446744073709551616)\/(-18446744073709551616<j/\j<18446744073709551616)):aU9 i j:=by
 unfold aU9;omega
def wC(ha:PE X a (tP X.K B f))(hb:PE X b (tP X.K B g)):PE X (.BinOp a .Mult b pos) (tI X.K B (e2 pK f g)):=by
 refine aHz bCj ?_ ha hb;intro A H x y d v u Q w rx ry e q;unfold pK at e;split at e
 .obtain⟨c,e⟩:=aK e;cases e;exact⟨_,_,rx.int,ry.int,aXj c,q _ H (bC.refl _) (bH.mpr rfl)⟩
 .cases e
end
end Pu
namespace Pu
open PySem PySem.Spec PyProof.Rows L2
def bH1{K:Frag} {p:Addr} (s1:bC H H1) (hp:H1 p=none) (s2:bC H1 H') (hv:H' p=some (.lst vs)) (r:bD K (hide (A++p::B) H') ds vs):∃G,bC H G/\G p=none/\upd G p (.lst vs)=H'/\bD K (hide (A++B) G) ds vs:=by
 let G:Hp:=λb=>if b=p then none else H' b
 have gN:G p=none:=bIv rfl;refine⟨G,λb o z=>?_,gN,?_,r.mono λb o z=>?_⟩
 .have hb:b≠p:=aX (s1 _ _ z) hp;show (if b=p then none else H' b)=_
  rw[bIt hb];exact s2 _ _ (s1 _ _ z)
 .funext b
  by_cases hb:b=p
  .subst hb;rw[bJ,hv]
  .rw[aY hb];exact bIt hb
 .have hb:b∉A++p::B:=λw=>by rw[eU w]at z;cases z
  have z1:=bI _ _ _ _ z;rw[bZ λw=>hb (mem_mid.mpr (.inr w))]
  show (if b=p then none else H' b)=_
  rw[bIt λw=>hb (mem_mid.mpr (.inl w))]
  exact z1
def aN3(v d:Addr):HO:=.ext λh=>h.IsItemsView v d
section
variable {σ:List (Option V)}
def aXk(I:Inv X pins σ H s)(k:∀b u,s.heap.get? b=some u->h'.get? b=some u)(sm:bC H H')(hn:∀b,b<s.heap.objs.size->H' b=H b)(new:∀a o,H a=none->H' a=some o->iU X.prog X.w H' h' a o):Inv X pins σ H' {s with heap:=h',toks:=t'}:=by
 refine I.un ⟨λb u q _ _ _=>k b u q,λb u q _ _ _=>⟨u.slots,k b u q⟩,λb u q n _=>by rw[hn b (bJ2 q)];exact n,λb u q _=>⟨u,k b u q⟩,λb xs q=>sm _ _ q,λb u xs q=>sm _ _ q,λb ps q=>⟨#[],by rw[sm _ _ q];simp⟩⟩ λa o e=>?_
 cases hH:H a with
 |none=>exact new a o hH e
 |some u=>
  have z:=sm a u hH;rw[e]at z;cases z;exact(I.hok a _ hH).stay (λb v _ q=>k b v q) (λb q=>sm _ _ q) λb xs q=>sm _ _ q
def aXl:MtR X "dict.items" (λx vs H Q=>∃(d:Addr) (kvs:List (Key×V)),x=.ref d/\vs=[]/\H d=some (.dK kvs)/\∀n,H n=none->Q (.ref n) (upd H n (aN3 n d))):=by
 intro pins s σ H x vs v us Q I rx rv h;obtain⟨d,kvs,rfl,rfl,hd,q⟩:=h;cases rx;have hus:=rv.zero;subst hus;obtain⟨hz,hs,xs,kv,hD⟩:=aQ3 I.hok hd;refine call_meetsIn bNm hD.typeIs PySem.F.entry_dict_items (PySem.F.args_dict_items_1 _) (meets_dict_items (dD X.prog X.w) d hs) ⟨⟨xs,hD⟩,?_⟩;have e:(s.heap.push {cls:=.type "dict_items",data:=.fields #[.ref d]}).get? s.heap.objs.size=some {cls:=.type "dict_items",data:=.fields #[.ref d]}:=bIy _ rfl;exact⟨.ref s.heap.objs.size,_,I.laid (o:=aN3 s.heap.objs.size d) (t':=s.toks) (λb u q=>bIi _ q) (bIn _) ⟨⟨_,e,rfl,rfl⟩,⟨_,e⟩,λh1 h2 ⟨o,ho,hc,hd⟩ k=>⟨o,k o ho,hc,hd⟩⟩,rfl,q _ (I.hok.fresh (bIn _))⟩
theorem aKu:∀{kvs:List (Key×V)} {vs:List (Key×Value)} {j:Nat} {k:Key} {x:Value},KV kvs vs->vs[j]?=some (k,x)->∃p,kvs[j]?=some p/\p.1=k/\RelV p.2 x
 |_,_,j,k,x,.nil,e=>by simp at e
 |_,_,0,k,x,.cons h _,e=>by
  simp at e;subst e;exact⟨_,rfl,h.1,h.2⟩
 |_,_,j+1,k,x,.cons _ t,e=>by
  obtain⟨p,e1,e2⟩:=aKu (j:=j) (k:=k) (x:=x) t (by simpa using e)
  exact⟨p,by simpa using e1,e2⟩
def aPg(hc:X.calm=true):nA X (.type "list") (λvs H Q=>∃(v d:Addr) (kvs:List (Key×V)),vs=[.ref v]/\H v=some (aN3 v d)/\H d=some (.dK kvs)/\
  ∀(n:Addr)(ps:List Addr)(H':Hp),bC H H'->H' n=none->ps.length=kvs.length->(∀a∈ps,H a=none)->(∀(j:Nat)(a:Addr),ps[j]?=some a->∃p,kvs[j]?=some p/\H' a=some (.tup [kV p.1,p.2]))->Q (.ref n) (upd H' n (.lst (ps.map V.ref)))):=by
 intro pins s σ H vs us Q I r h;obtain⟨v,d,kvs,rfl,hv,hd,q⟩:=h;obtain⟨u,rfl,ru⟩:=r.one;obtain rfl:u=Value.ref v:=ru;obtain⟨hz,hs,xs,kv,hD⟩:=aQ3 I.hok hd;have hlen:=aPf kv;obtain⟨ep,hat⟩:=hD.dictAt;obtain⟨hview,_,_⟩:=I.hok v _ hv;refine PySem.W.kdx_call (knd:=dD X.prog X.w) (I.ok.hd hc) hview hat (by omega) λh' tk acc c as hk hS hl hG hacc=>?_
 have nd:as.Nodup:=hG.rise.imp bJm;have lo:∀a∈as,s.heap.objs.size<a:=hG.above;have nn:∀a∈as,H a=none:=λa ha=>I.hok.fresh (bM8 (lo a ha))
 let G:Hp:=λb=>if b∈as then (kvs[as.idxOf b]?).map (λp=>.tup [kV p.1,p.2]) else H b
 have sG:bC H G:=λb o e=>by
  show (if b∈as then _ else H b)=_
  rw[bIt λz=>by rw[nn b z]at e;cases e]
  exact e
 have gN:G s.heap.objs.size=none:=by
  show (if _∈as then _ else H _)=_
  rw[bIt λz=>bJv _ (lo _ z)]
  exact I.hok.fresh (bIn _)
 have gA:∀(j:Nat)(a:Addr),as[j]?=some a->∃p,kvs[j]?=some p/\G a=some (.tup [kV p.1,p.2]):=λj a e=>by
  obtain⟨key,k,x,e1,e2,e3⟩:=hG.pairs j a e;obtain⟨p,e4,e5,e6⟩:=aKu kv e1;refine⟨p,e4,?_⟩;show (if a∈as then _ else H a)=_
  rw[bIv (bJd e)];obtain⟨hj,ej⟩:=bIk.mp e;rw[<-ej,nd.idxOf_getElem j hj,e4];rfl
 refine⟨.ref s.heap.objs.size,_,aXk (H':=upd G s.heap.objs.size (.lst (as.map V.ref))) (t':=tk) I hk (sG.trans (cV gN)) (λb hb=>?_) (λa o ha e=>?_),rfl,q _ as G sG gN (by rw[hl];exact hlen) nn gA⟩
 .rw[aY (bJm hb)];show (if b∈as then _ else H b)=_
  rw[bIt λz=>bJv _ (bOp hb (lo _ z))]
 .by_cases hb:a=s.heap.objs.size
  .subst hb;rw[bJ]at e;cases e;refine⟨by rw[bJ9,hl];omega,acc.toList,c,?_,by simpa using hS⟩
   rw[hacc];clear hacc hG nd lo nn gA sG gN hl G
   induction as with
   |nil=>exact .nil
   |cons a as ih=>exact .cons rfl ih
  .rw[aY hb]at e;have ha':a∈as:=by
    refine bJh λz=>?_
    have e':(if a∈as then (kvs[as.idxOf a]?).map (λp=>HO.tup [kV p.1,p.2]) else H a)=some o:=e
    rw[bIt z,ha]at e';cases e'
   obtain⟨j,hj⟩:=bJk.mp ha';obtain⟨p,e1,e2⟩:=gA j a hj;obtain⟨key,k,x,f1,f2,f3⟩:=hG.pairs j a hj;obtain⟨p',g1,g2,g3⟩:=aKu kv f1;rw[e1]at g1;cases g1;rw[e2]at e;cases e;refine⟨by rw[bKk];show 2<=16777216;decide,[key,x],.cons ?_ (.cons g3 .nil),_,f3,?_⟩
   .rw[g2];exact aXh f2
   .exact⟨rfl,_,rfl⟩
theorem aHd{K:Frag}{H:Hp}:∀(kvs:List (Key×V)) (ds:List D) (ps:List Addr),bD K H ds (kvs.map (·.2))->ps.length=kvs.length->(∀(j:Nat)(a:Addr),ps[j]?=some a->∃p,kvs[j]?=some p/\H a=some (.tup [kV p.1,p.2]))->bD K H (List.zipWith (λk d=>.tup [k,d]) (kvs.map λp=>jX p.1) ds) (ps.map V.ref)
 |[],ds,ps,_,hl,_=>by
  rw[bJw.mp hl];exact .nil
 |p::kvs,[],ps,r,_,_=>by
  have:=r.length;simp at this
 |p::kvs,d::ds,[],_,hl,_=>by simp at hl
 |p::kvs,d::ds,a::ps,r,hl,h=>by
  obtain⟨v,rest,e,r1,r2⟩:=bK.mp r;cases e;obtain⟨p',e1,e2⟩:=h 0 a rfl;cases e1;refine .cons (lE.mpr ⟨a,_,rfl,e2,.cons ?_ (.cons r1 .nil)⟩) (aHd kvs ds ps r2 (by simpa using hl) λj b hj=>?_)
  .obtain⟨k,v⟩:=p;cases k with
   |inl i=>exact bH.mpr rfl
   |inr x=>exact cY.mpr (by simp[kV])
  .obtain⟨p',e1,e2⟩:=h (j+1) b (by simpa using hj)
   exact⟨p',by simpa using e1,e2⟩
end
section
variable{X:Cx}{B:List Addr}{a e:Expr}{es:List Expr}{f:Ex}{pos p0 apos cpos:Pos}{sm:Stmt}{rest:List Stmt}{bd bd':Bd}{r:Exs}
def bAx(hm:X.mg "list"=none)(hc:X.calm=true)(ha:PE X a (tI X.K B f))(hg:Gl X "list":=by rfl)(hbase:attributeBase a "items" X.env (eval a X.env)=eval a X.env:=by rfl)(hline:(apos.endLine==cpos.line)=true:=by rfl)
  (hs:starEach [.Call (.Attribute a "items" apos) [] [] cpos] X.env=(false,eval (.Call (.Attribute a "items" apos) [] [] cpos) X.env)::starEach [] X.env:=by rfl):PE X (.Call (.Name "list" p0) [.Call (.Attribute a "items" apos) [] [] cpos] [] pos) (tF X.K B (e1 aG3 f)):=by
 refine cN (uI (aPg hc) hg hm (by rfl) (dF (aJu bNi bNm PySem.F.type_dict_items aXl ha hbase hline) gU hs) (he:=hs)) ?_
 rintro σ H Q ⟨A,st,ds,rs,hd,q⟩;obtain⟨x,hx,h2⟩:=R.ok_of hd;refine⟨A,st,x,rs,hx,λv H1 s1 r1=>?_⟩
 unfold aG3 at h2;split at h2
 .obtain⟨c,h3⟩:=aK h2;cases h3;obtain⟨p,vs,rfl,h4,r4⟩:=oW.mp r1;rcases h4 with ⟨_,kvs,h5,rfl,rfl⟩|⟨h5,_⟩
  .have h6:=bI _ _ _ _ h5;refine⟨.inr (.inr (.inl ⟨rfl,.inl ⟨kvs,h6⟩⟩)),p,kvs,rfl,rfl,h6,λn hn=>⟨n,p,kvs,rfl,bJ,by rw[aY (aX h6 hn)];exact h6,λm ps H' s2 hm' hl hps hp=>?_⟩⟩
   have s3:=(cV (o:=aN3 n p) hn).trans s2;refine q m _ H' (s1.trans s3) hm' (aHd kvs _ ps (r4.mono (bC.hide s3)) hl λj b hj=>?_)
   obtain⟨p',e1,e2⟩:=hp j b hj;have hb:=hps b (bJd hj);exact⟨p',e1,by rw[bZ ((rs.own.mono (s1.trans (cV (o:=aN3 n p) hn))).free hb)];exact e2⟩
  .cases h5
 .cases h2
def tSR(K:Frag)(B:List Addr)(b:Bd)(f:Ex):TS:=λDn σ H=>∃A st st' xs,RS K B A H st σ/\b st=.ok (.nx st')/\f st'=.ok (.lst xs)/\∀A' a vs H',Le A H A' H'->a∈A'->H' a=some (.lst vs)->bD K (hide (A'++B) H') xs vs->Dn.rt (.ref a) H'
def bAy(h1:PS X sm (tS X.K B bd))(h2:PSs X rest (tSR X.K B bd' f)):PSs X (sm::rest) (tSR X.K B (bG bd bd') f):=oX (pH h1 h2) (by
 rintro Dn σ H ⟨A,st,st',xs,rs,hb,hi,q⟩;unfold bG aBz at hb;obtain⟨fl,hfl,h3⟩:=R.ok_of hb;refine⟨A,st,fl,rs,hfl,?_⟩;cases fl with
 |nx s1=>exact λA' σ' H' l rs'=>⟨A',s1,st',xs,rs',h3,hi,λA2 a vs H2 l2=>q A2 a vs H2 (l.trans l2)⟩
 |rt d=>cases h3
 |bk s1=>cases h3
 |ct s1=>cases h3)
def bEb(he:PE X e (tF X.K B f)):PSs X [.Return (some e) pos] (tSR X.K B cZ f):=oX (rR (aNq he)) (by
 rintro Dn σ H ⟨A,st,st',xs,rs,hb,hf,q⟩;cases hb;exact⟨A,st,xs,rs,hf,λp vs H' s hp r=>q (p::A) p vs (upd H' p (.lst vs)) ((Le.of s).trans (aGy hp)) bIm bJ (r.mono (aCi hp))⟩)
end
section
variable {K:Frag} {st:Stmt} {f:Addr} {k:Nat}
def bIc(F:FunD K x qual st dV f fd)(S:FnScope N ps (aG st))(np n:Nat)(bd:Bd)(g:Ex)(hnp:ps.length=np)(hn:N.length=n)
  (hb:∀(cdv:Value)(A:Around)(outer:List Env)(s:Shared)(H:Hp)(E:XK)(B:List Addr),Room k (A.deeper (envOfC qual (aG st) s.heap.objs.size f cdv))->
   PSs (aF6 CX0 P w K mg base N qual (aG st) f cdv A outer s H E).nox (dJ st) (tSR K B bd g)):FnOk P w K mg base CX0 (k+1) f fd ps (spF K np (dC np n (yI bd g))):=by
 refine F.okX S (λvs H Q E h=>?_) (λcdv A outer s H vs Q E hr h=>?_)
 .obtain⟨A,ds,d,own,r,hl,_⟩:=h;rw[r.length,hl,hnp]
 .obtain⟨B,ds,xs,own,r,hl,hp,q⟩:=h;refine⟨tSR K B bd g,hb cdv A outer s H E B hr,?_⟩;obtain⟨_,h2⟩:=aK hp;obtain⟨fl,hfl,h3⟩:=R.ok_of h2;have rs:=aCl (N:=N) own r;rw[hl,hn]at rs;unfold yI at hfl;split at hfl
  .rename_i s1 hf1;obtain⟨d,hd,h4⟩:=R.ok_of hfl;split at h4
   .cases h4;cases h3;refine⟨[],_,s1,_,rs,hf1,hd,λA' a vs' H' l ha hv rv=>?_⟩
    have sm:bC H H':=by
     unfold Le at l;rw[vB]at l;exact l.trans (bI _ _)
    refine q a vs' H' sm ?_ hv (rv.mono (jZ λb hb=>?_))
    .cases hH:H a with
     |none=>rfl
     |some o=>
      have z:=l a o (by rw[vB];exact hH)
      rw[eU ha]at z;cases z
    .rcases bIq.mp hb with rfl|hb
     .exact bIw _ ha
     .exact bIo _ hb
   .cases h4
  .cases hfl
def aTj(ds:List D)(d:D)(h:dC np n (yI bd g) ds=.ok d):∃xs,d=.lst xs:=by
 obtain⟨_,h2⟩:=aK h;obtain⟨fl,hfl,h3⟩:=R.ok_of h2;unfold yI at hfl;split at hfl
 .obtain⟨d,hd,h4⟩:=R.ok_of hfl;split at h4
  .cases h4;cases h3;exact⟨_,rfl⟩
  .cases h4
 .cases hfl
end
structure DefOkF(P:Program)(w:World)(K:Frag)(mg:Str->Option Value)(base:Heap)(x:Str)(k np:Nat)(p:List D->R D):Prop where
 ex:∃(fa:Addr)(fd:FuncData)(ps:List Str),FnOk P w K mg base CX0 k fa fd ps (spF K np p)/\mg x=some (.ref fa)/\keepIn K (.ref fa)=true/\Binds K fd ps []
 len:∀ds d,p ds=.ok d->ds.length=np
 lst:∀ds d,p ds=.ok d->∃xs,d=.lst xs
def DefOkF.of{K:Frag} {k:Nat} (h:FnOk P w K mg base CX0 k fa fd ps (spF K np (dC np n (yI bd g)))) (m:mg x=some (.ref fa))
  (kp:keepIn K (.ref fa)=true) (b:Binds K fd ps []):DefOkF P w K mg base x k np (dC np n (yI bd g)):=⟨⟨fa,fd,ps,h,m,kp,b⟩,aH2,aTj⟩
def DefOkF.plain{K:Frag} {k:Nat} (h:DefOkF P w K mg base x k np p):DefOk P w K mg base x k np p:=by
 obtain⟨fa,fd,ps,F,m,kp,bd⟩:=h.ex;exact⟨⟨fa,fd,ps,aJa h.lst F,m,kp,bd⟩,h.len⟩
structure DA(K:Frag)(n:Str)(st:Stmt):Prop where
 ex:∃(f:Addr)(fd:FuncData),nsIn K mainGlobals n=some (some (.ref f))/\FunD K n n st .none f fd
section
variable{P:Program}{w:World}{K:Frag}{h base:Heap}{mg:Str->Option Value}{n:Str}{st:Stmt}{f:Addr}{ps:List Str}{k np m:Nat}{p:List D->R D}{bd:Bd}{g:Ex}
def cX{od an:Option Addr} {kV doc pm cdv ct:Value} (a:nsIn K mainGlobals n=some (some (.ref f))) (l:K.lookup f=some ⟨oc,od,.func (fnOf n n (gW st) (dJ st) (aG st) .none kV doc pm an cdv ct),osl⟩)
  (c:codeIn K cdv n=true) (k:keepIn K (.ref f)=true):DA K n st:=⟨⟨f,_,a,aKq l c k⟩⟩
structure Ct(P:Program)(w:World)(K:Frag)(mg:Str->Option Value)(base h:Heap):Prop where
 X:K.In h
 G:h.Ns mainGlobals mg
def Bn(n:Str)(st:Stmt)(ps:List Str):Prop:=∀(kV doc pm:Value)(an:Option Addr)(cdv ct:Value)(us:List Value),us.length=ps.length->bindArgs (fnOf n n (gW st) (dJ st) (aG st) .none kV doc pm an cdv ct) ⟨us,[]⟩=pure (ps.zip us)
structure BnA(n q:Str)(st:Stmt)(ps:List Str):Prop where
 ok:∀(kV doc pm:Value)(an:Option Addr)(cdv ct:Value)(us:List Value),us.length=ps.length->bindArgs (fnOf n q (gW st) (dJ st) (aG st) .none kV doc pm an cdv ct) ⟨us,[]⟩=pure (ps.zip us):=by first|exact λ_ _ _ _ _ _=>aRn rfl|exact λ_ _ _ _ _ _=>aKs λ_=>rfl|exact λ_ _ _ _ _ _=>aRo λ_ _=>rfl|exact λ_ _ _ _ _ _=>aFp λ_ _ _=>rfl|exact λ_ _ _ _ _ _=>aRp λ_ _ _ _=>rfl|exact λ_ _ _ _ _ _=>aRq λ_ _ _ _ _=>rfl|exact λ_ _ _ _ _ _=>bAr λ_ _ _ _ _ _=>rfl
def DA.use(D:DA K n st)(C:Ct P w K mg base h)(b:Bn n st ps):∃(f:Addr)(fd:FuncData),FunD K n n st .none f fd/\mg n=some (.ref f)/\Binds K fd ps []:=by
 obtain⟨f,fd,a,F⟩:=D.ex;exact⟨f,fd,F,mg_of C.X C.G a,F.binds0 b⟩
theorem DA.ok(D:DA K n st)(C:Ct P w K mg base h)(r:∀{f:Addr}{fd:FuncData},FunD K n n st .none f fd->FnOk P w K mg base CX0 k f fd ps (spI K np (dC np m bd)))(b:BnA n n st ps:=by exact {}):DefOk P w K mg base n k np (dC np m bd):=by
 obtain⟨f,fd,F,a,z⟩:=D.use C b.ok;exact .of (r F) a F.kp z aH2
def DA.okF(D:DA K n st)(C:Ct P w K mg base h)(r:∀{f:Addr}{fd:FuncData},FunD K n n st .none f fd->FnOk P w K mg base CX0 k f fd ps (spF K np (dC np m (yI bd g))))(b:BnA n n st ps:=by exact {}):DefOkF P w K mg base n k np (dC np m (yI bd g)):=by
 obtain⟨f,fd,F,a,z⟩:=D.use C b.ok;exact .of (r F) a F.kp z
end
section
variable {o x:Expr} {h:Ex}
def bEc{K:Frag} {t:Bool} {ks:List D} (rx:kY K A H (.dct t ks ds) v):∃a,v=.ref a/\IsD H a:=by
 rcases rx with h|⟨a,kk,o,ds',vs,e,e2,h,ko,r⟩
 .obtain⟨a,vs,e,q,r⟩:=oW.mp h;rcases q with ⟨_,kvs,q1,_,_⟩|⟨_,kvs,q1,_,_⟩
  .exact⟨a,e,.inl ⟨kvs,.inl (bI _ _ _ _ q1)⟩⟩
  .exact⟨a,e,.inr ⟨kvs,.inl (bI _ _ _ _ q1)⟩⟩
 .cases kk<;>cases e;rcases ko with ⟨_,kvs,q1,_⟩|⟨_,kvs,q1,_⟩
  .subst q1;exact⟨a,e2,.inl ⟨kvs,.inl h⟩⟩
  .subst q1;exact⟨a,e2,.inr ⟨kvs,.inl h⟩⟩
def bAz{K:Frag} {k z r:D} {u y:V} {a:Addr} (hv:v=.ref a) (rx:kY K A H d v) (ry:Rep K (hide A H) k u) (rz:Rep K (hide A H) z y) (hd:aG4 d k z=.ok r):∃ov,yC H a u ov/\Rep K (hide A H) r (ov.getD y):=by
 unfold aG4 at hd;split at hd
 .obtain⟨hk,h2⟩:=aK hd;obtain⟨a',ov,e3,g,hs,g2⟩:=aFm rx (ry.mono (bI _ _)) hk;rw[hv]at e3;cases e3;refine⟨ov,g,?_⟩;split at h2
  .obtain⟨w,rfl,rw'⟩:=g2 r (vY h2);exact rw'
  .rename_i hn;cases h2;have:ov=none:=by
    cases ov with
    |none=>rfl
    |some w=>exact absurd (hs.symm.trans rfl) hn
   rw[this];exact rz
 .cases hd
def aXm{k z r:D}(hd:aG4 d k z=.ok r):∃t ks vs,d=.dct t ks vs:=by
 unfold aG4 at hd;split at hd
 .exact⟨_,_,_,rfl⟩
 .cases hd
def bEd(hu:X.A.units+64<cLine)(ho:PE X o (tP X.K B f))(he:PE X e (tI X.K B g))(m1:attributeBase o "get" X.env (eval o X.env)=eval o X.env:=by rfl)
  (m2:((backTo cpos (starEach [e] X.env)).all (λx=>!x.1)&&(backToKw cpos (keywordEach [] X.env)).all (λx=>x.1.isSome)
   && decide (([e]:List Expr).length+([]:List Keyword).length+(if ([]:List Keyword).isEmpty then 0 else 1)<30))=true:=by rfl)
  (m3:(apos.endLine==cpos.line)=true:=by rfl) (m4:backTo cpos (starEach [e] X.env)=[(false,eval e X.env)]:=by rfl):PE X (.Call (.Attribute o "get" apos) [e] [] cpos) (tI X.K B (aV4 f g (eC .non))):=by
 refine cN (aUp (by omega) ho he ⟨m1,m2,m3,m4⟩) ?_
 rintro σ H Q ⟨A,st,r,rs,hr,q⟩;obtain⟨d,hd,h2⟩:=R.ok_of hr;obtain⟨k,hk,h3⟩:=R.ok_of h2;have h4:aG4 d k .non=.ok r:=h3;refine⟨A,st,d,rs,hd,λv H1 s1 rx=>?_⟩
 obtain⟨t,ks,vs,rfl⟩:=aXm h4;obtain⟨a,rfl,hD⟩:=bEc rx;refine⟨a,rfl,hD,A,st,k,rs.mono s1,hk,λu H2 s2 ry=>?_⟩
 obtain⟨ov,g1,g2⟩:=bAz rfl (rx.mono s2) ry (jY.mpr rfl) h4;exact⟨ov,g1,q _ H2 (s1.trans s2) g2⟩
end
section
variable {a:Expr}
def bEe(i j:Nat){y fx:Str}{k jj:Nat} {cp:Pos} (h:DefOk X.prog X.w X.K X.mg X.base fx k 2 p) (hr:Room jj X.A) (hk:k<=jj) (he:PE X e (tI X.K B f)) (hN:X.N.Nodup) (hi:X.N[i]?=some x:=by rfl) (hj:X.N[j]?=some y:=by rfl)
  (hx:Loc X.env.scope x:=by first|exact Or.inl rfl|exact Or.inr rfl) (hv:Vis X.env.scope y:=by first|exact Or.inl rfl|exact Or.inr (Or.inl rfl)|exact Or.inr (Or.inr rfl)) (hd:(y==("__debug__":Str))=false:=by decide) (hcd:(y==("__classdict__":Str))=false:=by decide)
  (hg:Gl X fx:=by rfl) (hdb:(fx==("__debug__":Str))=false:=by decide) (hbase:attributeBase (.Name y p1) "pop" X.env (eval (.Name y p1) X.env)=eval (.Name y p1) X.env:=by rfl) (hline:(apos.endLine==cpos.line)=true:=by rfl)
  (hs2:starEach [.Call (.Attribute (.Name y p1) "pop" apos) [] [] cpos] X.env=(false,eval (.Call (.Attribute (.Name y p1) "pop" apos) [] [] cpos) X.env)::starEach [] X.env:=by rfl)
  (hs1:starEach [e,.Call (.Attribute (.Name y p1) "pop" apos) [] [] cpos] X.env=(false,eval e X.env)::starEach [.Call (.Attribute (.Name y p1) "pop" apos) [] [] cpos] X.env:=by rfl)
  (hpl:(backTo cp (starEach [.Call (.Attribute (.Name y p1) "pop" apos) [] [] cpos] X.env)).any (·.1)=false:=by rfl)
  (hs:swapsWith (.Call (.Name fx p0) [e,.Call (.Attribute (.Name y p1) "pop" apos) [] [] cpos] [] cp) (some (.Name x pos')) pos.line X.env=pure false:=by rfl)
  (hf:X.fn x=true\/X.env.scope.names.lookup x=some .local:=by first|exact .inl rfl|exact .inr rfl|assumption) :
  PS X (.Assign [.Name x pos'] (.Call (.Name fx p0) [e,.Call (.Attribute (.Name y p1) "pop" apos) [] [] cpos] [] cp) pos) (tS X.K B (aQh i j p f)):=by
 obtain⟨fa,fd,ps,F,m,kp,bd⟩:=h.ex;refine kZ (aD7 hN hi hx (aPz F (hr.mono hk) hg m kp bd .nil aQ2 (dF he (dF (aJu bL2 PySem.F.slot_list_pop PySem.F.type_list_pop bCv (kJ hj hv hd hcd) hbase hline) gU hs2) hs1) hdb hs1 hpl) hs hf) ?_
 rintro Dn σ H ⟨A,st,r,rs,hr,pc⟩;obtain⟨x',hx',h3⟩:=R.ok_of hr;split at h3
 .rename_i ys e1;split at h3
  .rename_i d ed;obtain⟨c,h4⟩:=aK h3;obtain⟨y',hy,h5⟩:=R.ok_of h4;cases h5;obtain⟨l,o,vs,e2,ml,h1,ko,q,u⟩:=rs.lst j _ ys e1;have eo:o=.lst vs:=ko;subst eo;refine⟨A,st,x',rs,hx',λv H' s rv=>?_⟩
   have ql:=q.length;have q':=q.mono (bC.hide s);rw[bN9]at ed;obtain⟨w,hw,rw'⟩:=q'.get ed;obtain⟨w1,w2⟩:=(rs.mono s).write e1 e2 (k1:=.l) (ds:=ys.dropLast) (vs':=vs.dropLast) rfl (by
    rw[bOc,bOc,ql];exact q'.take _)
   refine⟨.ref l,e2,.inl ⟨rfl,vs,SqL.of (s _ _ h1)⟩,l,vs,w,rfl,rfl,s _ _ h1,by rw[ql];exact hw,?_⟩
   have hh:hide (A++B) (upd H' l (.lst vs.dropLast))=hide (A++B) H':=mH (bIw _ ml);refine⟨A++B,[x',d],y',w1.own,?_,rfl,hy,λz H3 s3 r3=>pc A _ H3 ((Le.of s).trans (w2.trans (Le.of s3))) ((w1.mono s3).set i r3)⟩
   rw[hh];exact .cons rv (.cons rw' .nil)
  .cases h3
 .cases h3
end
section
variable {a:Expr} {r:Exs}
def bB0(hm:X.mg "int"=none)(ha:PE X a (tP X.K B f))(hg:Gl X "int":=by rfl)(hs:starEach [a] X.env=(false,eval a X.env)::starEach [] X.env:=by rfl):PE X (.Call (.Name "int" p0) [a] [] pos) (tI X.K B (e1 aZe f)):=by
 refine cN (uI aSd hg hm (by rfl) (dF ha gU hs) (he:=hs)) ?_
 rintro σ H Q ⟨A,st,d,rs,hd,q⟩;obtain⟨y,hy,h2⟩:=R.ok_of hd;refine⟨A,st,y,rs,hy,λv H1 s1 r1=>?_⟩
 unfold aZe at h2;split at h2
 .cases h2;exact .inl ⟨_,by rw[r1.int],q _ H1 s1 (bH.mpr rfl)⟩
 .cases h2;exact .inr ⟨_,by rw[r1.bl],q _ H1 s1 (bH.mpr rfl)⟩
 .cases h2
end
end Pu
namespace Pu
open PySem PyProof.Rows
abbrev SM:=StateT SortSt Sem
def iY:Bool->Keyed->Array Keyed->Nat->Nat->Nat->SM (Option Nat):=sortPriv% PySem.Builtin.gallop
def byd(left:Bool)(key:Keyed)(arr:Array Keyed)(base i:Nat):SM (Option Bool):=do
 let x <- elem' arr (base+i)
 if left then lt' x key else return (<- lt' key x).map (!·)
def aPh(left:Bool)(key:Keyed)(arr:Array Keyed)(base n hint:Nat):iY left key arr base n hint=(do
 let mut lastofs:=0
 let mut ofs:=1
 let mut lo:=0
 let mut hi:=0
 let some right <- byd left key arr base hint|return none
 if right then
  let maxofs:=n-hint
  for _ in [0:n] do
   if ofs ≥ maxofs then break
   let some more <- byd left key arr base (hint+ofs)|return none
   if !more then break
   lastofs:=ofs
   ofs:=2*ofs+1
  lo:=hint+lastofs+1
  hi:=hint+min ofs maxofs
 else
  let maxofs:=hint+1
  for _ in [0:n] do
   if ofs ≥ maxofs then break
   let some found <- byd left key arr base (hint-ofs)|return none
   if found then break
   lastofs:=ofs
   ofs:=2*ofs+1
  lo:=hint+1-min ofs maxofs
  hi:=hint-lastofs
 for _ in [0:n] do
  if lo ≥ hi then break
  let m:=lo+(hi-lo)/2
  let some more <- byd left key arr base m|return none
  if more then lo:=m+1 else hi:=m
 return some hi):=rfl
section
variable{prog:Program}{w:World}{A:Around}{E:Value->Shared->Prop}{s:Shared}
def aRu{base:Nat}{st:SortSt}{B:Nat->Bool} (hb:∀i (R:Option Bool->SortSt->Prop),i<n->R (some (B i)) st->wpS (model prog w) A E s (byd left key arr base i) R st)
  (mono:∀i j,i<=j->j<n->B j=true->B i=true) {lo:Nat} (h1:lo<=hi) (h2:hi<=n) (hlo:∀i,i<lo->B i=true) (hhi:∀i,hi<=i->i<n->B i=false)
  (h:∀k,k<=n->(∀i,i<k->B i=true)->(∀i,k<=i->i<n->B i=false)->Q (some k) st)
  {G:Option (Option Nat)×Nat×Nat->SM (Option Nat)} (hG:∀k,G (none,k,k)=pure (some k)):wpS (model prog w) A E s ((
   forIn [0:n] ((none,lo,hi):Option (Option Nat)×Nat×Nat) λ_ __s=>do
    if __s.2.1 ≥ __s.2.2 then pure (ForInStep.done (none,__s.2.1,__s.2.2)) else do
     let __x <- byd left key arr base (__s.2.1+(__s.2.2-__s.2.1)/2)
     match __x with
     |some more=>if more=true then pure (ForInStep.yield (none,__s.2.1+(__s.2.2-__s.2.1)/2+1,__s.2.2)) else pure (ForInStep.yield (none,__s.2.1,__s.2.1+(__s.2.2-__s.2.1)/2))
     |_=>pure (ForInStep.done (some none,__s.2.1,__s.2.2))) >>= G) Q st:=by
 refine bJ0 (bKq (bJz (I:=λx c st'=>st'=st/\∃lo hi,c=(none,lo,hi)/\lo<=hi/\hi<=n/\hi-lo<=n-x/\(∀i,i<lo->B i=true)/\∀i,hi<=i->i<n->B i=false)
  (Q:=λc st'=>st'=st/\∃k,c=(none,k,k)/\k<=n/\(∀i,i<k->B i=true)/\∀i,k<=i->i<n->B i=false) ?step ?fin ?init) ?post)
 case init=>exact⟨rfl,lo,hi,rfl,h1,h2,by omega,hlo,hhi⟩
 case fin=>
  rintro c st' ⟨rfl,lo,hi,rfl,a1,a2,a3,a4,a5⟩;have:lo=hi:=by omega
  subst this;exact⟨rfl,lo,rfl,a2,a4,a5⟩
 case post=>
  rintro c st' ⟨rfl,k,rfl,a2,a4,a5⟩;rw[hG];exact bIz (h k a2 a4 a5)
 case step=>
  rintro x c st' _ hx ⟨rfl,lo,hi,rfl,a1,a2,a3,a4,a5⟩;dsimp only
  by_cases hge:lo ≥ hi
  .rw[bIv hge];have:lo=hi:=by omega
   subst this;exact bIz ⟨rfl,lo,rfl,a2,a4,a5⟩
  .rw[bIt hge];refine bJ0 (hb _ _ (by omega) ?_)
   cases hm:B (lo+(hi-lo)/2) with
   |true=>
    refine bIz ⟨rfl,_,_,rfl,by omega,a2,by omega,λi hi'=>?_,a5⟩
    exact mono i _ (by omega) (by omega) hm
   |false=>
    refine bIz ⟨rfl,_,_,rfl,by omega,by omega,by omega,a4,λi h3 h4=>?_⟩
    cases hi':B i with
    |false=>rfl
    |true=>rw[mono _ i h3 h4 hi']at hm;cases hm
def aRv{base hint:Nat}{st:SortSt}{B:Nat->Bool} (hb:∀i (R:Option Bool->SortSt->Prop),i<n->R (some (B i)) st->wpS (model prog w) A E s (byd left key arr base i) R st)
  (mono:∀i j,i<=j->j<n->B j=true->B i=true) (hh:hint<n)
  (h:∀k,k<=n->(∀i,i<k->B i=true)->(∀i,k<=i->i<n->B i=false)->Q (some k) st) :
  wpS (model prog w) A E s (iY left key arr base n hint) Q st:=by
 rw[aPh];dsimp only;refine bJ0 (hb hint _ hh ?_);dsimp only;cases hB:B hint with
 |true=>
  simp only[if_true];refine bJ0 (bKq (bJz (I:=λx c st'=>st'=st/\∃la of,c=(none,la,of)/\la<of/\x<of/\hint+la<n/\B (hint+la)=true)
   (Q:=λc st'=>st'=st/\∃la of,c=(none,la,of)/\la<of/\hint+la<n/\B (hint+la)=true/\(hint+of<n->B (hint+of)=false)) ?step ?fin ?init) ?post)
  case init=>exact⟨rfl,0,1,rfl,by omega,by omega,hh,hB⟩
  case fin=>
   rintro c st' ⟨rfl,la,of,rfl,a1,a2,a3,a4⟩;exact⟨rfl,la,of,rfl,a1,a3,a4,λz=>by omega⟩
  case step=>
   rintro x c st' _ hx ⟨rfl,la,of,rfl,a1,a2,a3,a4⟩;dsimp only
   by_cases hge:of ≥ n-hint
   .rw[bIv hge];exact bIz ⟨rfl,la,of,rfl,a1,a3,a4,λz=>by omega⟩
   .rw[bIt hge];refine bJ0 (hb _ _ (by omega) ?_)
    dsimp only;cases hm:B (hint+of) with
    |true=>
     simp only[Bool.not_true,false_eq_true,if_false];exact bIz ⟨rfl,of,2*of+1,rfl,by omega,by omega,by omega,hm⟩
    |false=>
     simp only[Bool.not_false,if_true];exact bIz ⟨rfl,la,of,rfl,a1,a3,a4,λ_=>hm⟩
  case post=>
   rintro c st' ⟨rfl,la,of,rfl,a1,a3,a4,a5⟩;dsimp only;refine aRu (lo:=hint+la+1) (hi:=hint+min of (n-hint)) hb mono (by omega) (by omega) (λi hi=>mono i (hint+la) (by omega) a3 a4) (λi h3 h4=>?_) h λ_=>rfl
   by_cases hq:hint+of<n
   .cases hi':B i with
    |false=>rfl
    |true=>rw[mono _ i (by omega) h4 hi']at a5;cases a5 hq
   .omega
 |false=>
  simp only[false_eq_true,if_false];refine bJ0 (bKq (bJz (I:=λx c st'=>st'=st/\∃la of,c=(none,la,of)/\la<of/\x<of/\la<=hint/\B (hint-la)=false)
   (Q:=λc st'=>st'=st/\∃la of,c=(none,la,of)/\la<of/\la<=hint/\B (hint-la)=false/\(of<=hint->B (hint-of)=true)) ?step ?fin ?init) ?post)
  case init=>exact⟨rfl,0,1,rfl,by omega,by omega,by omega,hB⟩
  case fin=>
   rintro c st' ⟨rfl,la,of,rfl,a1,a2,a3,a4⟩;exact⟨rfl,la,of,rfl,a1,a3,a4,λz=>by omega⟩
  case step=>
   rintro x c st' _ hx ⟨rfl,la,of,rfl,a1,a2,a3,a4⟩;dsimp only
   by_cases hge:of ≥ hint+1
   .rw[bIv hge];exact bIz ⟨rfl,la,of,rfl,a1,a3,a4,λz=>by omega⟩
   .rw[bIt hge];refine bJ0 (hb _ _ (by omega) ?_)
    dsimp only;cases hm:B (hint-of) with
    |true=>
     simp only[if_true];exact bIz ⟨rfl,la,of,rfl,a1,a3,a4,λ_=>hm⟩
    |false=>
     simp only[false_eq_true,if_false];exact bIz ⟨rfl,of,2*of+1,rfl,by omega,by omega,by omega,hm⟩
  case post=>
   rintro c st' ⟨rfl,la,of,rfl,a1,a3,a4,a5⟩;dsimp only;refine aRu (lo:=hint+1-min of (hint+1)) (hi:=hint-la) hb mono (by omega) (by omega) (λi hi=>?_) (λi h3 h4=>?_) h λ_=>rfl
   .have hq:of<=hint:=by omega
    exact mono i (hint-of) (by omega) (by omega) (a5 hq)
   .cases hi':B i with
    |false=>rfl
    |true=>rw[mono _ i h3 h4 hi']at a4;cases a4
def Ask(prog:Program)(w:World)(A:Around)(E:Value->Shared->Prop)(s:Shared)(ρ:Keyed->Int)(P:Keyed->Prop)(κ:SortKind):Prop:=
 ∀(x y:Keyed)(Q:Option Bool->SortSt->Prop)(st:SortSt),P x->P y->kindOf st=κ->Q (some (decide (ρ x<ρ y))) st->wpS (model prog w) A E s (lt' x y) Q st
def atK(arr:Array Keyed)(i:Nat):Keyed:=(arr[i]?).getD (.none,.none)
def lL(h:i<arr.size):arr[i]?=some (atK arr i):=by
 unfold atK;rw[bLf arr i h];rfl
def fX(h:i<arr.size):atK arr i∈arr.toList:=by
 have:=lL h;rw[<-bJl]at this;exact bJd this
def eV{f:Keyed->SM β}{Q:β->SortSt->Prop}{st:SortSt}(h:i<arr.size)(hf:wpS (model prog w) A E s (f (atK arr i)) Q st):wpS (model prog w) A E s (elem' arr i >>= f) Q st:=by
 rw[elem'_eq,lL h];exact bJ0 (bIz hf)
variable{ρ:Keyed->Int}{P:Keyed->Prop}{κ:SortKind}{key:Keyed}{arr:Array Keyed}{base n hint:Nat}{st:SortSt}{Q:Option Nat->SortSt->Prop}
def aHe(K:Ask prog w A E s ρ P κ)(hk:kindOf st=κ)(hP:∀x∈arr.toList,P x)(hkey:P key)(hb:base+n<=arr.size)(hs:∀i j,i<=j->j<n->ρ (atK arr (base+i))<=ρ (atK arr (base+j)))(hh:hint<n)
  (h:∀k,k<=n->(∀i,i<k->ρ (atK arr (base+i))<=ρ key)->(∀i,k<=i->i<n->ρ key<ρ (atK arr (base+i)))->Q (some k) st):wpS (model prog w) A E s (iY false key arr base n hint) Q st:=by
 refine aRv (B:=λi=>!decide (ρ key<ρ (atK arr (base+i)))) (λi R hi hR=>?_) (λi j hij hj hB=>?_) hh λk h1 h2 h3=>h k h1 (λi hi=>?_) λi h4 h5=>?_
 .unfold byd;refine eV (by omega) ?_
  simp only[false_eq_true,if_false];exact bJ0 (K _ _ _ _ hkey (hP _ (fX (by omega))) hk (bIz hR))
 .have:=hs i j hij hj;simp only[Bool.not_eq_true',decide_eq_false_iff_not]at hB ⊢;omega
 .have:=h2 i hi;simp only[Bool.not_eq_true',decide_eq_false_iff_not]at this;omega
 .have:=h3 i h4 h5;simp only[Bool.not_eq_false',decide_eq_true_eq]at this;exact this
def aHf(K:Ask prog w A E s ρ P κ)(hk:kindOf st=κ)(hP:∀x∈arr.toList,P x)(hkey:P key)(hb:base+n<=arr.size)(hs:∀i j,i<=j->j<n->ρ (atK arr (base+i))<=ρ (atK arr (base+j)))(hh:hint<n)
  (h:∀k,k<=n->(∀i,i<k->ρ (atK arr (base+i))<ρ key)->(∀i,k<=i->i<n->ρ key<=ρ (atK arr (base+i)))->Q (some k) st):wpS (model prog w) A E s (iY true key arr base n hint) Q st:=by
 refine aRv (B:=λi=>decide (ρ (atK arr (base+i))<ρ key)) (λi R hi hR=>?_) (λi j hij hj hB=>?_) hh λk h1 h2 h3=>h k h1 (λi hi=>?_) λi h4 h5=>?_
 .unfold byd;refine eV (by omega) ?_
  simp only[if_true];exact K _ _ _ _ (hP _ (fX (by omega))) hkey hk hR
 .have:=hs i j hij hj;rw[bJf]at hB ⊢;omega
 .exact bJi (h2 i hi)
 .have:=of_decide_eq_false (h3 i h4 h5);omega
end
end Pu
variable{G:Option (Option Nat)×Nat->Pu.SM (Option Nat)}
namespace Pu
open PySem PyProof.Rows
def aHg:Nat->SM Unit:=sortPriv% PySem.Builtin.setMinGallop
def aHh:Array Keyed->Array Keyed->SM (Array Keyed):=sortPriv% PySem.Builtin.mergeLo
theorem aN4(a b:Array Keyed):aHh a b=(do
 rule "list.sort.merge-lo"
 let total:=a.size+b.size
 let done (out:Array Keyed) (ia ib:Nat):=out++a.extract ia a.size++b.extract ib b.size
 let lastOfA (out:Array Keyed) (ia ib:Nat):=out++b.extract ib b.size++a.extract ia a.size
 let mut out:Array Keyed := #[<-elem' b 0]
 let mut ia:=0
 let mut ib:=1
 if ib==b.size then return done out ia ib
 if ia+1==a.size then return lastOfA out ia ib
 let mut minGallop:=gallopOf (<- get)
 for _ in [0:total] do
  let mut acount:=0
  let mut bcount:=0
  for _ in [0:total] do
   let some bWins <- lt' (<- elem' b ib) (<- elem' a ia)|return done out ia ib
   if bWins then
    out:=out.push (<- elem' b ib);ib:=ib+1;bcount:=bcount+1;acount:=0
    if ib==b.size then return done out ia ib
    if bcount ≥ minGallop then break
   else
    out:=out.push (<- elem' a ia);ia:=ia+1;acount:=acount+1;bcount:=0
    if ia+1==a.size then return lastOfA out ia ib
    if acount ≥ minGallop then break
  rule "list.sort.gallop"
  minGallop:=minGallop+1
  for _ in [0:total] do
   if minGallop>1 then minGallop:=minGallop-1
   aHg minGallop
   let some k <- iY false (<- elem' b ib) a ia (a.size-ia) 0|return done out ia ib
   acount:=k
   if k>0 then
    out:=out++a.extract ia (ia+k);ia:=ia+k
    if ia+1==a.size then return lastOfA out ia ib
    if ia==a.size then return done out ia ib
   out:=out.push (<- elem' b ib);ib:=ib+1
   if ib==b.size then return done out ia ib
   let some k <- iY true (<- elem' a ia) b ib (b.size-ib) 0|return done out ia ib
   bcount:=k
   if k>0 then
    out:=out++b.extract ib (ib+k);ib:=ib+k
    if ib==b.size then return done out ia ib
   out:=out.push (<- elem' a ia);ia:=ia+1
   if ia+1==a.size then return lastOfA out ia ib
   if acount<7&&bcount<7 then break
  minGallop:=minGallop+1
  aHg minGallop
 unsupported "internal:list.sort.merge-bound"):=rfl
structure MI(ρ:Keyed->Int)(T o R S:List Keyed):Prop where
 pm:(o++(R++S)).Perm T
 so:o.Pairwise λx y=>ρ x<=ρ y
 oa:∀x∈o,∀y∈R++S,ρ x<=ρ y
 sr:R.Pairwise λx y=>ρ x<=ρ y
 ss:S.Pairwise λx y=>ρ x<=ρ y
section
variable{ρ:Keyed->Int}{T o R S X:List Keyed}
theorem MI.swap(h:MI ρ T o R S):MI ρ T o S R:=
 ⟨((List.perm_append_comm (l₁:=S) (l₂:=R)).append_left o).trans h.pm,h.so,λx hx y hy=>h.oa x hx y (by
  rcases bJb.mp hy with hy|hy
  .exact bIo _ hy
  .exact bIw _ hy),h.ss,h.sr⟩
theorem MI.take(h:MI ρ T o (X++R) S)(hx:∀x∈X,∀y∈S,ρ x<=ρ y):MI ρ T (o++X) R S:=by
 have hp:=bKv.mp h.sr;refine⟨?_,bKv.mpr ⟨h.so,hp.1,λx hx' y hy=>h.oa x hx' y (bIw _ (bIw _ hy))⟩,λx hx' y hy=>?_,hp.2.1,h.ss⟩
 .have:=h.pm;rw[bKa X R S]at this
  rwa [bKa]
 .rcases bJb.mp hx' with h1|h1
  .refine h.oa x h1 y ?_
   rcases bJb.mp hy with h2|h2
   .exact bIw _ (bIo _ h2)
   .exact bIo _ h2
  .rcases bJb.mp hy with h2|h2
   .exact hp.2.2 x h1 y h2
   .exact hx x h1 y h2
def Res(ρ:Keyed->Int)(T:List Keyed)(o:Array Keyed):Prop:=o.toList.Perm T/\o.toList.Pairwise λx y=>ρ x<=ρ y
theorem MI.end(h:MI ρ T o R S)(hx:∀x∈R,∀y∈S,ρ x<=ρ y){r:Array Keyed}(e:r.toList=o++R++S):Res ρ T r:=by
 unfold Res;rw[e,bKa];exact⟨h.pm,bKv.mpr ⟨h.so,bKv.mpr ⟨h.sr,h.ss,hx⟩,h.oa⟩⟩
end
theorem bB1(h:i<a.size):a.toList.drop i=atK a i::a.toList.drop (i+1):=by
 have h':i<a.toList.length:=by simpa using h
 rw[bKd h'];congr 1;have:=lL h;rw[<-bJl,bIj h']at this;exact bJ3 this
theorem aJe(a:Array Keyed)(i j:Nat):(a.extract i j).toList=(a.toList.drop i).take (j-i):=by
 rw[Array.toList_extract,List.extract_eq_drop_take]
theorem aHi(i k:Nat):a.toList.drop i=(a.extract i (i+k)).toList++a.toList.drop (i+k):=by
 rw[aJe,bLy,<-List.drop_drop,bMe]
theorem aCr(i:Nat):(a.extract i a.size).toList=a.toList.drop i:=by
 rw[aJe];exact bLi (by simp)
theorem mR{x:Keyed}(h:x∈a.toList.drop i):∃j,i<=j/\j<a.size/\x=atK a j:=by
 obtain⟨j,hj⟩:=bJk.mp h;rw[bN5]at hj;have hl:i+j<a.size:=by
  have:=(bIk.mp hj).1;simpa using this
 refine⟨i+j,by omega,hl,?_⟩
 have:=lL hl;rw[<-bJl,hj]at this;exact bJ3 this
theorem aKv{k:Nat}{x:Keyed}(h:x∈(a.extract i (i+k)).toList):∃j,j<k/\i+j<a.size/\x=atK a (i+j):=by
 rw[aJe,bLy]at h;obtain⟨j,hj⟩:=bJk.mp h;rw[bN6]at hj;split at hj
 .rename_i hk;rw[bN5]at hj;have hl:i+j<a.size:=by
   have:=(bIk.mp hj).1;simpa using this
  refine⟨j,hk,hl,?_⟩;have:=lL hl;rw[<-bJl,hj]at this;exact bJ3 this
 .cases hj
theorem pW(h:a.toList.Pairwise λx y=>ρ x<=ρ y) (hij:i<=j) (hj:j<a.size):ρ (atK a i)<=ρ (atK a j):=by
 rcases bOl i j with hlt|hge
 .have h1:=bKs.mp h i j (by simp;omega) (by simpa using hj) hlt
  have e1:=lL (show i<a.size by omega)
  have e2:=lL hj;rw[<-bJl,bIj (by simp;omega)]at e1
  rw[<-bJl,bIj (by simpa using hj)]at e2
  rwa [bJ3 e1,bJ3 e2]at h1
 .have:i=j:=by omega
  subst this;exact bKl _
def Sg(st st':SortSt):Prop:=kindOf st'=kindOf st/\arrOf st'=arrOf st/\pendingOf st'=pendingOf st/\failedOf st'=failedOf st
theorem Sg.refl(st:SortSt):Sg st st:=⟨rfl,rfl,rfl,rfl⟩
theorem Sg.trans{a b c:SortSt}(h:Sg a b)(g:Sg b c):Sg a c:=⟨g.1.trans h.1,g.2.1.trans h.2.1,g.2.2.1.trans h.2.2.1,g.2.2.2.trans h.2.2.2⟩
theorem aN5(g:Nat):aHg g=modify λs=>SortSt.mk' (kindOf s) (arrOf s) (pendingOf s) g (failedOf s):=rfl
abbrev L2S:=Option (Array Keyed)×Array Keyed×Nat×Nat×Nat×Nat×Nat
def lo4(a b out:Array Keyed)(ia ib g ac bc:Nat):SM (ForInStep L2S):=do
 let x <- elem' a ia
 if (ia+1+1==a.size)=true then pure (.done (some (out.push x++b.extract ib b.size++a.extract (ia+1) a.size),out.push x,ia+1,ib,g,ac,bc))
 else if (decide (ac<7)&&decide (bc<7))=true then pure (.done (none,out.push x,ia+1,ib,g,ac,bc)) else pure (.yield (none,out.push x,ia+1,ib,g,ac,bc))
def lo3(a b out:Array Keyed)(ia ib g ac bc:Nat):SM (ForInStep L2S):=do
 let x <- elem' a ia
 let o <- iY true x b ib (b.size-ib) 0
 match o with
 |some k=>if k>0 then (if (ib+k==b.size)=true then pure (.done (some (out++b.extract ib (ib+k)++a.extract ia a.size++b.extract (ib+k) b.size),out++b.extract ib (ib+k),ia,ib+k,g,ac,k)) else lo4 a b (out++b.extract ib (ib+k)) ia (ib+k) g ac k) else lo4 a b out ia ib g ac k
 |_=>pure (.done (some (out++a.extract ia a.size++b.extract ib b.size),out,ia,ib,g,ac,bc))
def lo2(a b out:Array Keyed)(ia ib g ac bc:Nat):SM (ForInStep L2S):=do
 let x <- elem' b ib
 if (ib+1==b.size)=true then pure (.done (some (out.push x++a.extract ia a.size++b.extract (ib+1) b.size),out.push x,ia,ib+1,g,ac,bc)) else lo3 a b (out.push x) ia (ib+1) g ac bc
def lo1(a b out:Array Keyed)(ia ib g ac bc:Nat):SM (ForInStep L2S):=do
 aHg g
 let x <- elem' b ib
 let o <- iY false x a ia (a.size-ia) 0
 match o with
 |some k=>if k>0 then (if (ia+k+1==a.size)=true then pure (.done (some (out++a.extract ia (ia+k)++b.extract ib b.size++a.extract (ia+k) a.size),out++a.extract ia (ia+k),ia+k,ib,g,k,bc)) else if (ia+k==a.size)=true then pure (.done (some (out++a.extract ia (ia+k)++a.extract (ia+k) a.size++b.extract ib b.size),out++a.extract ia (ia+k),ia+k,ib,g,k,bc)) else lo2 a b (out++a.extract ia (ia+k)) (ia+k) ib g k bc) else lo2 a b out ia ib g k bc
 |_=>pure (.done (some (out++a.extract ia a.size++b.extract ib b.size),out,ia,ib,g,ac,bc))
section
variable{prog:Program}{w:World}{A:Around}{E:Value->Shared->Prop}{s:Shared}{ρ:Keyed->Int}{P:Keyed->Prop}{κ:SortKind}{a b out:Array Keyed}{T:List Keyed}{ia ib g ac bc N:Nat}{st:SortSt}
theorem bL{c:Prop}[Decidable c]{x y:SM β}{R:β->SortSt->Prop}(hx:c->wpS (model prog w) A E s x R st)(hy:¬ c->wpS (model prog w) A E s y R st):wpS (model prog w) A E s (if c then x else y) R st:=by
 by_cases h:c
 .rw[bIv h];exact hx h
 .rw[bIt h];exact hy h
theorem zM(h:MI ρ T out.toList (a.toList.drop ia) (b.toList.drop ib))(e:ib=b.size\/ia=a.size):Res ρ T (out++a.extract ia a.size++b.extract ib b.size):=by
 refine h.end (λx hx y hy=>?_) (by rw[toList_append,toList_append,aCr,aCr])
 rcases e with e|e
 .obtain⟨j,h1,h2,_⟩:=mR hy;omega
 .obtain⟨j,h1,h2,_⟩:=mR hx;omega
theorem aCs(hl:∀y∈b.toList,ρ y<=ρ (atK a (a.size-1)))(h:MI ρ T out.toList (a.toList.drop ia) (b.toList.drop ib))(e:ia+1=a.size):Res ρ T (out++b.extract ib b.size++a.extract ia a.size):=by
 refine h.swap.end (λx hx y hy=>?_) (by rw[toList_append,toList_append,aCr,aCr])
 obtain⟨j,h1,h2,rfl⟩:=mR hy;have:j=a.size-1:=by omega
 subst this;exact hl x (bOh hx)
theorem MI.pushA(h:MI ρ T out.toList (a.toList.drop ia) (b.toList.drop ib))(hi:ia<a.size)(hx:∀y∈b.toList.drop ib,ρ (atK a ia)<=ρ y):MI ρ T (out.push (atK a ia)).toList (a.toList.drop (ia+1)) (b.toList.drop ib):=by
 rw[bB1 hi]at h;rw[toList_push];exact MI.take (X:=[atK a ia]) h λx h1 y hy=>by rw[bIu.mp h1];exact hx y hy
theorem MI.pushB(h:MI ρ T out.toList (a.toList.drop ia) (b.toList.drop ib))(hi:ib<b.size)(hx:∀y∈a.toList.drop ia,ρ (atK b ib)<=ρ y):MI ρ T (out.push (atK b ib)).toList (a.toList.drop ia) (b.toList.drop (ib+1)):=(h.swap.pushA hi hx).swap
theorem MI.manyA{k:Nat}(h:MI ρ T out.toList (a.toList.drop ia) (b.toList.drop ib))(hx:∀x∈(a.extract ia (ia+k)).toList,∀y∈b.toList.drop ib,ρ x<=ρ y):MI ρ T (out++a.extract ia (ia+k)).toList (a.toList.drop (ia+k)) (b.toList.drop ib):=by
 rw[aHi ia k]at h;rw[bLz];exact h.take hx
theorem MI.manyB{k:Nat}(h:MI ρ T out.toList (a.toList.drop ia) (b.toList.drop ib))(hx:∀x∈(b.extract ib (ib+k)).toList,∀y∈a.toList.drop ia,ρ x<=ρ y):MI ρ T (out++b.extract ib (ib+k)).toList (a.toList.drop ia) (b.toList.drop (ib+k)):=(h.swap.manyA hx).swap
def JL(ρ:Keyed->Int)(T:List Keyed)(a b:Array Keyed)(N:Nat)(out:Array Keyed)(ia ib:Nat):Prop:=MI ρ T out.toList (a.toList.drop ia) (b.toList.drop ib)/\ia+1<a.size/\ib<b.size/\(a.size-ia)+(b.size-ib)<=N
theorem JL.mono(h:JL ρ T a b N out ia ib)(hN:N<=N'):JL ρ T a b N' out ia ib:=⟨h.1,h.2.1,h.2.2.1,by have:=h.2.2.2;omega⟩
def UL(ρ:Keyed->Int)(T:List Keyed)(a b:Array Keyed)(N:Nat)(c:L2S):Prop:=(∃r,c.1=some r/\Res ρ T r)\/(c.1=none/\JL ρ T a b N c.2.1 c.2.2.1 c.2.2.2.1)
variable{Q:ForInStep L2S->SortSt->Prop}(K:Ask prog w A E s ρ P κ)(hk:kindOf st=κ)(hPa:∀x∈a.toList,P x)(hPb:∀x∈b.toList,P x)(sa:a.toList.Pairwise λx y=>ρ x<=ρ y)(sb:b.toList.Pairwise λx y=>ρ x<=ρ y)(hl:∀y∈b.toList,ρ y<=ρ (atK a (a.size-1)))
 (h:MI ρ T out.toList (a.toList.drop ia) (b.toList.drop ib)) (h1:ia+1<a.size) (h2:ib<b.size) (hN:(a.size-ia)+(b.size-ib)<=N)
 (hd:∀c,UL ρ T a b N c->Q (.done c) st) (hy:∀c,c.1=none->JL ρ T a b N c.2.1 c.2.2.1 c.2.2.2.1->Q (.yield c) st)
include hl h h1 h2 hN hd hy
theorem aXn(hx:∀y∈b.toList.drop ib,ρ (atK a ia)<=ρ y):wpS (model prog w) A E s (lo4 a b out ia ib g ac bc) Q st:=by
 unfold lo4;refine eV (by omega) ?_
 have h':=h.pushA (by omega) hx
 split
 .rename_i e;exact bIz (hd _ (.inl ⟨_,rfl,aCs hl h' (by simpa using e)⟩))
 .rename_i e;have e':¬ ia+1+1=a.size:=by simpa using e
  split
  .exact bIz (hd _ (.inr ⟨rfl,h',by show ia+1+1<a.size;omega,h2,by show (a.size-(ia+1))+(b.size-ib)<=N;omega⟩))
  .exact bIz (hy _ rfl ⟨h',by show ia+1+1<a.size;omega,h2,by show (a.size-(ia+1))+(b.size-ib)<=N;omega⟩)
include K hk hPa hPb sa sb
theorem bEf:wpS (model prog w) A E s (lo3 a b out ia ib g ac bc) Q st:=by
 unfold lo3;refine eV (by omega) (bJ0 (aHf K hk hPb (hPa _ (fX (by omega))) (by omega) (λi j hij hj=>pW sb (by omega) (by omega)) (by omega) λk k1 k2 k3=>?_))
 have ge:∀y∈b.toList.drop (ib+k),ρ (atK a ia)<=ρ y:=λy hy'=>by
  obtain⟨j,j1,j2,rfl⟩:=mR hy';have:=k3 (j-ib) (by omega) (by omega)
  rwa [show ib+(j-ib)=j by omega]at this
 dsimp only;split
 .have h':=h.manyB (k:=k) λx hx y hy'=>by
   obtain⟨j,j1,j2,rfl⟩:=aKv hx;obtain⟨i,i1,i2,rfl⟩:=mR hy';have:=k2 j j1;have:=pW sa i1 i2;omega
  split
  .rename_i e;exact bIz (hd _ (.inl ⟨_,rfl,zM h' (.inl (by simpa using e))⟩))
  .rename_i e;have e':¬ ib+k=b.size:=by simpa using e
   exact aXn hl h' h1 (by omega) (by omega) hd hy ge
 .rename_i e;have:k=0:=by omega
  subst this;exact aXn hl h h1 h2 hN hd hy ge
theorem aXo(hx:∀y∈a.toList.drop ia,ρ (atK b ib)<=ρ y):wpS (model prog w) A E s (lo2 a b out ia ib g ac bc) Q st:=by
 unfold lo2;refine eV h2 ?_
 have h':=h.pushB h2 hx;split
 .rename_i e;exact bIz (hd _ (.inl ⟨_,rfl,zM h' (.inl (by simpa using e))⟩))
 .rename_i e;have e':¬ ib+1=b.size:=by simpa using e
  exact bEf K hk hPa hPb sa sb hl h' h1 (by omega) (by omega) hd hy
omit h h1 h2 hN hd hy in
theorem aXp(J:JL ρ T a b N out ia ib)(hd:∀c st',Sg st st'->UL ρ T a b N c->Q (.done c) st')(hy:∀c st',Sg st st'->c.1=none->JL ρ T a b N c.2.1 c.2.2.1 c.2.2.2.1->Q (.yield c) st'):wpS (model prog w) A E s (lo1 a b out ia ib g ac bc) Q st:=by
 obtain⟨h,h1,h2,hN⟩:=J;unfold lo1;rw[aN5];refine bJ0 (bKe ?_);generalize hs:SortSt.mk' (kindOf st) (arrOf st) (pendingOf st) g (failedOf st)=st';have sg:Sg st st':=by subst hs;exact⟨rfl,rfl,rfl,rfl⟩
 have hk':kindOf st'=κ:=sg.1.trans hk;have hd':=λc=>hd c st' sg
 have hy':=λc=>hy c st' sg
 refine eV h2 (bJ0 (aHe K hk' hPa (hPb _ (fX h2)) (by omega) (λi j hij hj=>pW sa (by omega) (by omega)) (by omega) λk k1 k2 k3=>?_))
 have ge:∀y∈a.toList.drop (ia+k),ρ (atK b ib)<=ρ y:=λy hy=>by
  obtain⟨j,j1,j2,rfl⟩:=mR hy;have:=k3 (j-ia) (by omega) (by omega)
  rw[show ia+(j-ia)=j by omega]at this
  omega
 dsimp only;split
 .have h':=h.manyA (k:=k) λx hx y hy=>by
   obtain⟨j,j1,j2,rfl⟩:=aKv hx;obtain⟨i,i1,i2,rfl⟩:=mR hy;have:=k2 j j1;have:=pW sb i1 i2;omega
  split
  .rename_i e;exact bIz (hd' _ (.inl ⟨_,rfl,aCs hl h' (by simpa using e)⟩))
  .rename_i e;have e':¬ ia+k+1=a.size:=by simpa using e
   split
   .rename_i e2;exact bIz (hd' _ (.inl ⟨_,rfl,zM h' (.inr (by simpa using e2))⟩))
   .rename_i e2;have e2':¬ ia+k=a.size:=by simpa using e2
    exact aXo K hk' hPa hPb sa sb hl h' (by omega) h2 (by omega) hd' hy' ge
 .rename_i e;have:k=0:=by omega
  subst this;exact aXo K hk' hPa hPb sa sb hl h h1 h2 hN hd' hy' ge
omit h h1 h2 hN hd hy in
theorem aN6{R:Array Keyed->SortSt->Prop}(ha:0<a.size)(hb:0<b.size)(hf:∀y∈a.toList,ρ (atK b 0)<=ρ y)(hR:∀o st',Sg st st'->Res ρ (a.toList++b.toList) o->R o st'):wpS (model prog w) A E s (aHh a b) R st:=by
 have M0:MI ρ (a.toList++b.toList) (#[]:Array Keyed).toList (a.toList.drop 0) (b.toList.drop 0):=⟨.refl _,.nil,λx hx=>(nomatch hx),sa,sb⟩
 have M1:=M0.pushB hb (λy hy=>hf y (bOh hy))
 rw[aN4];dsimp only;refine bJ0 (bNn (bKy ⟨rfl,?_⟩));refine eV hb ?_
 have e0 : #[atK b 0]=(#[]:Array Keyed).push (atK b 0):=rfl;rw[e0];refine bL (λe=>?_) λe=>?_
 .exact bIz (hR _ _ (.refl _) (zM M1 (.inl (by simpa using e))))
 .have e':¬ 1=b.size:=by simpa using e
  refine bL (λe2=>?_) λe2=>?_
  .exact bIz (hR _ _ (.refl _) (aCs hl M1 (by simpa using e2)))
  .have e2':¬ 0+1=a.size:=by simpa using e2
   refine bJ0 (bMr ?_);refine bJ0 (bKq (bJz (I:=λx c st'=>Sg st st'/\c.1=none/\JL ρ (a.toList++b.toList) a b (a.size+b.size-x) c.2.1 c.2.2.1 c.2.2.2.1)
    (Q:=λc st'=>Sg st st'/\∃r,c.1=some r/\Res ρ (a.toList++b.toList) r) ?step ?fin ?init) ?post)
   case init=>exact⟨.refl _,rfl,M1,by show 0+1<a.size;omega,by show 1<b.size;omega,by show (a.size-0)+(b.size-1)<=_;omega⟩
   case fin=>
    rintro c st' ⟨_,_,_,j1,j2,j3⟩;omega
   case post=>
    rintro⟨c,c'⟩ st' ⟨sg,r,e,hr⟩;dsimp only at e;subst e;exact bIz (hR _ _ sg hr)
   case step=>
    rintro x ⟨c0,o,ia,ib,g⟩ st' _ hx ⟨sg,e0,J⟩;dsimp only at e0 J;subst e0;dsimp only;refine bJ0 (bKq (bJz (I:=λy c st2=>Sg st st2/\c.1=none/\JL ρ (a.toList++b.toList) a b (a.size+b.size-x-y) c.2.1 c.2.2.1 c.2.2.2.1)
     (Q:=λc st2=>Sg st st2/\((∃r,c.1=some r/\Res ρ (a.toList++b.toList) r)\/(c.1=none/\JL ρ (a.toList++b.toList) a b (a.size+b.size-x-1) c.2.1 c.2.2.1 c.2.2.2.1))) ?step1 ?fin1 ⟨sg,rfl,J⟩) ?post1)
    case fin1=>
     rintro⟨c,o,ia,ib,ac,bc⟩ st2 ⟨sg,e,J⟩;exact⟨sg,.inr ⟨e,J.mono (by omega)⟩⟩
    case step1=>
     rintro y ⟨c,o,ia,ib,ac,bc⟩ st2 _ hy ⟨sg,e,J⟩;dsimp only at e J;subst e;dsimp only;obtain⟨h,j1,j2,j3⟩:=J;refine eV j2 (eV (by omega) (bJ0 (K _ _ _ _ (hPb _ (fX j2)) (hPa _ (fX (by omega))) (sg.1.trans hk) ?_)))
     dsimp only;refine bL (λlt=>?_) λlt=>?_
     .have lt:=bJi lt;refine eV j2 ?_
      have h':=h.pushB j2 λz hz=>by
       obtain⟨i,i1,i2,rfl⟩:=mR hz;have:=pW sa i1 i2;omega
      refine bL (λe=>?_) λe=>?_
      .exact bIz ⟨sg,.inl ⟨_,rfl,zM h' (.inl (by simpa using e))⟩⟩
      .have e':¬ ib+1=b.size:=by simpa using e
       refine bL (λ_=>?_) λ_=>?_
       .exact bIz ⟨sg,.inr ⟨rfl,h',j1,by show ib+1<b.size;omega,by show (a.size-ia)+(b.size-(ib+1))<=_;omega⟩⟩
       .exact bIz ⟨sg,rfl,h',j1,by show ib+1<b.size;omega,by show (a.size-ia)+(b.size-(ib+1))<=_;omega⟩
     .have lt:¬ ρ (atK b ib)<ρ (atK a ia):=λz=>lt (bIr z)
      refine eV (by omega) ?_
      have h':=h.pushA (by omega) λz hz=>by
       obtain⟨i,i1,i2,rfl⟩:=mR hz;have:=pW sb i1 i2;omega
      refine bL (λe=>?_) λe=>?_
      .exact bIz ⟨sg,.inl ⟨_,rfl,aCs hl h' (by simpa using e)⟩⟩
      .have e':¬ ia+1+1=a.size:=by simpa using e
       refine bL (λ_=>?_) λ_=>?_
       .exact bIz ⟨sg,.inr ⟨rfl,h',by show ia+1+1<a.size;omega,j2,by show (a.size-(ia+1))+(b.size-ib)<=_;omega⟩⟩
       .exact bIz ⟨sg,rfl,h',by show ia+1+1<a.size;omega,j2,by show (a.size-(ia+1))+(b.size-ib)<=_;omega⟩
    case post1=>
     rintro⟨c,o,ia,ib,ac,bc⟩ st2 ⟨sg,⟨r,e,hr⟩|⟨e,J⟩⟩
     .dsimp only at e;subst e;exact bIz ⟨sg,r,rfl,hr⟩
     .dsimp only at e J;subst e;refine bJ0 (bNn (bKy ⟨rfl,?_⟩));refine bJ0 (bKq (bJz (I:=λ_ c st3=>Sg st st3/\c.1=none/\JL ρ (a.toList++b.toList) a b (a.size+b.size-x-1) c.2.1 c.2.2.1 c.2.2.2.1)
       (Q:=λc st3=>Sg st st3/\UL ρ (a.toList++b.toList) a b (a.size+b.size-x-1) c) ?step2 ?fin2 ⟨sg,rfl,J⟩) ?post2)
      case fin2=>
       rintro c st3 ⟨sg,e,J⟩;exact⟨sg,.inr ⟨e,J⟩⟩
      case step2=>
       rintro y ⟨c,o,ia,ib,g,ac,bc⟩ st3 _ _ ⟨sg,e,J⟩;dsimp only at e J;subst e;refine bL (λ_=>?_) λ_=>?_
       .exact aXp (g:=g-1) (ac:=ac) (bc:=bc) K (sg.1.trans hk) hPa hPb sa sb hl J (λc st4 s4 h=>⟨sg.trans s4,h⟩) λc st4 s4 e h=>⟨sg.trans s4,e,h⟩
       .exact aXp (g:=g) (ac:=ac) (bc:=bc) K (sg.1.trans hk) hPa hPb sa sb hl J (λc st4 s4 h=>⟨sg.trans s4,h⟩) λc st4 s4 e h=>⟨sg.trans s4,e,h⟩
      case post2=>
       rintro⟨c,o,ia,ib,g,ac,bc⟩ st3 ⟨sg,⟨r,e,hr⟩|⟨e,J⟩⟩
       .dsimp only at e;subst e;exact bIz ⟨sg,r,rfl,hr⟩
       .dsimp only at e J;subst e;refine bJ0 (bKe (bIz ⟨sg.trans ⟨rfl,rfl,rfl,rfl⟩,rfl,J.mono (by omega)⟩))
end
def aHj:Array Keyed->Array Keyed->SM (Array Keyed):=sortPriv% PySem.Builtin.mergeHi
theorem aN7(a b:Array Keyed):aHj a b=(do
 rule "list.sort.merge-hi"
 let total:=a.size+b.size
 let done (out:Array Keyed) (na nb:Nat):=a.extract 0 na++b.extract 0 nb++out.reverse
 let firstOfB (out:Array Keyed) (na nb:Nat):=b.extract 0 nb++a.extract 0 na++out.reverse
 let mut na:=a.size-1
 let mut nb:=b.size
 let mut out:Array Keyed := #[<-elem' a na]
 if na==0 then return done out na nb
 if nb==1 then return firstOfB out na nb
 let mut minGallop:=gallopOf (<- get)
 for _ in [0:total] do
  let mut acount:=0
  let mut bcount:=0
  for _ in [0:total] do
   let some aWins <- lt' (<- elem' b (nb-1)) (<- elem' a (na-1))|return done out na nb
   if aWins then
    na:=na-1;out:=out.push (<- elem' a na);acount:=acount+1;bcount:=0
    if na==0 then return done out na nb
    if acount ≥ minGallop then break
   else
    nb:=nb-1;out:=out.push (<- elem' b nb);bcount:=bcount+1;acount:=0
    if nb==1 then return firstOfB out na nb
    if bcount ≥ minGallop then break
  rule "list.sort.gallop"
  minGallop:=minGallop+1
  for _ in [0:total] do
   if minGallop>1 then minGallop:=minGallop-1
   aHg minGallop
   let some at_ <- iY false (<- elem' b (nb-1)) a 0 na (na-1)|return done out na nb
   let k:=na-at_
   acount:=k
   if k>0 then
    out:=out++(a.extract at_ na).reverse;na:=at_
    if na==0 then return done out na nb
   nb:=nb-1;out:=out.push (<- elem' b nb)
   if nb==1 then return firstOfB out na nb
   let some at_ <- iY true (<- elem' a (na-1)) b 0 nb (nb-1)|return done out na nb
   let k:=nb-at_
   bcount:=k
   if k>0 then
    out:=out++(b.extract at_ nb).reverse;nb:=at_
    if nb==1 then return firstOfB out na nb
    if nb==0 then return done out na nb
   na:=na-1;out:=out.push (<- elem' a na)
   if na==0 then return done out na nb
   if acount<7&&bcount<7 then break
  minGallop:=minGallop+1
  aHg minGallop
 unsupported "internal:list.sort.merge-bound"):=rfl
abbrev H2S:=Option (Array Keyed)×Nat×Nat×Array Keyed×Nat×Nat×Nat
def hi4(a b out:Array Keyed)(na nb g ac bc:Nat):SM (ForInStep H2S):=do
 let x <- elem' a (na-1)
 if (na-1==0)=true then pure (.done (some (a.extract 0 (na-1)++b.extract 0 nb++(out.push x).reverse),na-1,nb,out.push x,g,ac,bc))
 else if (decide (ac<7)&&decide (bc<7))=true then pure (.done (none,na-1,nb,out.push x,g,ac,bc)) else pure (.yield (none,na-1,nb,out.push x,g,ac,bc))
def hi3(a b out:Array Keyed)(na nb g ac bc:Nat):SM (ForInStep H2S):=do
 let x <- elem' a (na-1)
 let o <- iY true x b 0 nb (nb-1)
 match o with
 |some k=>if nb-k>0 then (if (k==1)=true then pure (.done (some (b.extract 0 k++a.extract 0 na++(out++(b.extract k nb).reverse).reverse),na,k,out++(b.extract k nb).reverse,g,ac,nb-k)) else if (k==0)=true then pure (.done (some (a.extract 0 na++b.extract 0 k++(out++(b.extract k nb).reverse).reverse),na,k,out++(b.extract k nb).reverse,g,ac,nb-k)) else hi4 a b (out++(b.extract k nb).reverse) na k g ac (nb-k)) else hi4 a b out na nb g ac (nb-k)
 |_=>pure (.done (some (a.extract 0 na++b.extract 0 nb++out.reverse),na,nb,out,g,ac,bc))
def hi2(a b out:Array Keyed)(na nb g ac bc:Nat):SM (ForInStep H2S):=do
 let x <- elem' b (nb-1)
 if (nb-1==1)=true then pure (.done (some (b.extract 0 (nb-1)++a.extract 0 na++(out.push x).reverse),na,nb-1,out.push x,g,ac,bc)) else hi3 a b (out.push x) na (nb-1) g ac bc
def hi1(a b out:Array Keyed)(na nb g ac bc:Nat):SM (ForInStep H2S):=do
 aHg g
 let x <- elem' b (nb-1)
 let o <- iY false x a 0 na (na-1)
 match o with
 |some k=>if na-k>0 then (if (k==0)=true then pure (.done (some (a.extract 0 k++b.extract 0 nb++(out++(a.extract k na).reverse).reverse),k,nb,out++(a.extract k na).reverse,g,na-k,bc)) else hi2 a b (out++(a.extract k na).reverse) k nb g (na-k) bc) else hi2 a b out na nb g (na-k) bc
 |_=>pure (.done (some (a.extract 0 na++b.extract 0 nb++out.reverse),na,nb,out,g,ac,bc))
theorem wF{x:Keyed}(h:x∈(a.toList.take n).reverse):∃j,j<n/\j<a.size/\x=atK a j:=by
 obtain⟨j,hj⟩:=bJk.mp (bMi.mp h);rw[bN6]at hj;split at hj
 .rename_i hk;have hl:j<a.size:=by
   have:=(bIk.mp hj).1;simpa using this
  refine⟨j,hk,hl,?_⟩;have:=lL hl;rw[<-bJl,hj]at this;exact bJ3 this
 .cases hj
theorem bH2(h1:1<=n)(h2:n<=a.size):(a.toList.take n).reverse=atK a (n-1)::(a.toList.take (n-1)).reverse:=by
 obtain⟨m,rfl⟩:∃m,n=m+1:=⟨n-1,by omega⟩
 have h':m<a.toList.length:=by rw[bJ4];omega
 rw[bN4,bKt h',List.reverse_append];have:=lL (show m<a.size by omega)
 rw[<-bJl,bIj h']at this;rw[bJ3 this];rfl
theorem bEg{k:Nat}(h:k<=n):(a.toList.take n).reverse=(a.extract k n).reverse.toList++(a.toList.take k).reverse:=by
 rw[bNa,aJe,<-List.reverse_append];congr 1;obtain⟨m,rfl⟩:=bNo h;rw[bLy,List.take_add]
theorem aKw(a:Array Keyed)(n:Nat):(a.extract 0 n).toList=a.toList.take n:=by
 rw[aJe,drop_zero,Nat.sub_zero]
section
variable{prog:Program}{w:World}{A:Around}{E:Value->Shared->Prop}{s:Shared}{ρ:Keyed->Int}{P:Keyed->Prop}{κ:SortKind}{a b out:Array Keyed}{T:List Keyed}{na nb g ac bc N:Nat}{st:SortSt}
def MH(ρ:Keyed->Int)(T:List Keyed)(a b out:Array Keyed)(na nb:Nat):Prop:=MI (λx=>-ρ x) T out.toList (a.toList.take na).reverse (b.toList.take nb).reverse
theorem aRw{r:Array Keyed}{o R S:List Keyed}(h:MI (λx=>-ρ x) T o R S)(hx:∀x∈R,∀y∈S,ρ y<=ρ x)(e:r.toList=(o++R++S).reverse):Res ρ T r:=by
 have z:=h.end (r:=⟨o++R++S⟩) (λx h1 y h2=>by have:=hx x h1 y h2;omega) rfl
 refine⟨?_,?_⟩
 .rw[e];exact(bNf _).trans z.1
 .rw[e,bMf];exact z.2.imp λ{x y} h=>by have h' : -ρ x <= -ρ y:=h;omega
theorem vD(h:MH ρ T a b out na nb)(e:na=0\/nb=0):Res ρ T (a.extract 0 na++b.extract 0 nb++out.reverse):=by
 refine aRw h.swap (λx hx y hy=>?_) (by rw[bLz,bLz,bNa,aKw,aKw];simp)
 rcases e with e|e
 .obtain⟨j,h1,_⟩:=wF hy;omega
 .obtain⟨j,h1,_⟩:=wF hx;omega
theorem wG(hl:∀y∈a.toList,ρ (atK b 0)<=ρ y)(h:MH ρ T a b out na nb)(e:nb=1):Res ρ T (b.extract 0 nb++a.extract 0 na++out.reverse):=by
 refine aRw h (λx hx y hy=>?_) (by rw[bLz,bLz,bNa,aKw,aKw];simp)
 obtain⟨j,h1,h2,rfl⟩:=wF hy;have:j=0:=by omega
 subst this;exact hl x (bOi (bMi.mp hx))
theorem MH.pushA(h:MH ρ T a b out na nb)(h1:1<=na)(h2:na<=a.size)(hx:∀y∈(b.toList.take nb).reverse,ρ y<=ρ (atK a (na-1))):MH ρ T a b (out.push (atK a (na-1))) (na-1) nb:=by
 unfold MH at h ⊢;rw[bH2 h1 h2]at h;rw[toList_push];exact MI.take (X:=[atK a (na-1)]) h λx z y hy=>by rw[bIu.mp z];have:=hx y hy;omega
theorem MH.pushB(h:MH ρ T a b out na nb)(h1:1<=nb)(h2:nb<=b.size)(hx:∀y∈(a.toList.take na).reverse,ρ y<=ρ (atK b (nb-1))):MH ρ T a b (out.push (atK b (nb-1))) na (nb-1):=(MH.pushA (MI.swap h) h1 h2 hx).swap
theorem MH.manyA{k:Nat}(h:MH ρ T a b out na nb)(hk:k<=na)(hx:∀x∈(a.extract k na).toList,∀y∈(b.toList.take nb).reverse,ρ y<=ρ x):MH ρ T a b (out++(a.extract k na).reverse) k nb:=by
 unfold MH at h ⊢;rw[bEg hk]at h;rw[bLz];refine MI.take h λx z y hy=>?_
 rw[bNa]at z;have:=hx x (bMi.mp z) y hy;omega
theorem MH.manyB{k:Nat}(h:MH ρ T a b out na nb)(hk:k<=nb)(hx:∀x∈(b.extract k nb).toList,∀y∈(a.toList.take na).reverse,ρ y<=ρ x):MH ρ T a b (out++(b.extract k nb).reverse) na k:=(MH.manyA (MI.swap h) hk hx).swap
theorem aKx{a:Array Keyed}{k:Nat}{x:Keyed}(h:x∈(a.extract k n).toList):∃j,k<=j/\j<n/\j<a.size/\x=atK a j:=by
 rcases bOl n k with h'|h'
 .rw[aJe,show n-k=0 by omega,List.take_zero]at h;cases h
 .obtain⟨m,rfl⟩:=bNo h';obtain⟨j,j1,j2,rfl⟩:=aKv h;exact⟨k+j,by omega,by omega,j2,rfl⟩
def JH(ρ:Keyed->Int)(T:List Keyed)(a b:Array Keyed)(N:Nat)(out:Array Keyed)(na nb:Nat):Prop:=MH ρ T a b out na nb/\(1<=na/\na<=a.size)/\(2<=nb/\nb<=b.size)/\na+nb<=N
theorem JH.mono(h:JH ρ T a b N out na nb)(hN:N<=N'):JH ρ T a b N' out na nb:=⟨h.1,h.2.1,h.2.2.1,by have:=h.2.2.2;omega⟩
def UH(ρ:Keyed->Int)(T:List Keyed)(a b:Array Keyed)(N:Nat)(c:H2S):Prop:=(∃r,c.1=some r/\Res ρ T r)\/(c.1=none/\JH ρ T a b N c.2.2.2.1 c.2.1 c.2.2.1)
variable{Q:ForInStep H2S->SortSt->Prop}(K:Ask prog w A E s ρ P κ)(hk:kindOf st=κ)(hPa:∀x∈a.toList,P x)(hPb:∀x∈b.toList,P x)(sa:a.toList.Pairwise λx y=>ρ x<=ρ y)(sb:b.toList.Pairwise λx y=>ρ x<=ρ y)(hl:∀y∈a.toList,ρ (atK b 0)<=ρ y)
 (h:MH ρ T a b out na nb) (h1:1<=na) (h1':na<=a.size) (h2:2<=nb) (h2':nb<=b.size) (hN:na+nb<=N)
 (hd:∀c,UH ρ T a b N c->Q (.done c) st) (hy:∀c,c.1=none->JH ρ T a b N c.2.2.2.1 c.2.1 c.2.2.1->Q (.yield c) st)
include h h1 h1' h2 h2' hN hd hy
theorem aXq(hx:∀y∈(b.toList.take nb).reverse,ρ y<=ρ (atK a (na-1))):wpS (model prog w) A E s (hi4 a b out na nb g ac bc) Q st:=by
 unfold hi4;refine eV (by omega) ?_
 have h':=h.pushA h1 h1' hx;refine bL (λe=>?_) λe=>?_
 .exact bIz (hd _ (.inl ⟨_,rfl,vD h' (.inl (by simpa using e))⟩))
 .have e':¬ na-1=0:=by simpa using e
  refine bL (λ_=>?_) λ_=>?_
  .exact bIz (hd _ (.inr ⟨rfl,h',⟨by show 1<=na-1;omega,by show na-1<=a.size;omega⟩,⟨h2,h2'⟩,by show na-1+nb<=N;omega⟩))
  .exact bIz (hy _ rfl ⟨h',⟨by show 1<=na-1;omega,by show na-1<=a.size;omega⟩,⟨h2,h2'⟩,by show na-1+nb<=N;omega⟩)
include K hk hPa hPb sa sb hl
theorem bEh:wpS (model prog w) A E s (hi3 a b out na nb g ac bc) Q st:=by
 unfold hi3;refine eV (by omega) (bJ0 (aHf K hk hPb (hPa _ (fX (by omega))) (by omega) (λi j hij hj=>pW sb (by omega) (by omega)) (by omega) λk k1 k2 k3=>?_))
 simp only[Nat.zero_add]at k2 k3;have ge:∀y∈(b.toList.take k).reverse,ρ y<=ρ (atK a (na-1)):=λy hy'=>by
  obtain⟨j,j1,j2,rfl⟩:=wF hy';have:=k2 j j1;omega
 dsimp only;refine bL (λc=>?_) λc=>?_
 .have h':=h.manyB (k:=k) (by omega) λx hx y hy'=>by
   obtain⟨j,j1,j2,j3,rfl⟩:=aKx hx;obtain⟨i,i1,i2,rfl⟩:=wF hy';have:=k3 j j1 j2;have:=pW sa (show i<=na-1 by omega) (by omega)
   omega
  refine bL (λe=>?_) λe=>?_
  .exact bIz (hd _ (.inl ⟨_,rfl,wG hl h' (by simpa using e)⟩))
  .have e':¬ k=1:=by simpa using e
   refine bL (λe2=>?_) λe2=>?_
   .exact bIz (hd _ (.inl ⟨_,rfl,vD h' (.inr (by simpa using e2))⟩))
   .have e2':¬ k=0:=by simpa using e2
    exact aXq h' h1 h1' (by omega) (by omega) (by omega) hd hy ge
 .have:k=nb:=by omega
  subst this;exact aXq h h1 h1' h2 h2' hN hd hy ge
theorem aXr(hx:∀y∈(a.toList.take na).reverse,ρ y<=ρ (atK b (nb-1))):wpS (model prog w) A E s (hi2 a b out na nb g ac bc) Q st:=by
 unfold hi2;refine eV (by omega) ?_
 have h':=h.pushB (by omega) h2' hx
 refine bL (λe=>?_) λe=>?_
 .exact bIz (hd _ (.inl ⟨_,rfl,wG hl h' (by simpa using e)⟩))
 .have e':¬ nb-1=1:=by simpa using e
  exact bEh K hk hPa hPb sa sb hl h' h1 h1' (by omega) (by omega) (by omega) hd hy
omit h h1 h1' h2 h2' hN hd hy in
theorem aXs(J:JH ρ T a b N out na nb)(hd:∀c st',Sg st st'->UH ρ T a b N c->Q (.done c) st')(hy:∀c st',Sg st st'->c.1=none->JH ρ T a b N c.2.2.2.1 c.2.1 c.2.2.1->Q (.yield c) st'):wpS (model prog w) A E s (hi1 a b out na nb g ac bc) Q st:=by
 obtain⟨h,⟨h1,h1'⟩,⟨h2,h2'⟩,hN⟩:=J;unfold hi1;rw[aN5];refine bJ0 (bKe ?_);generalize hs:SortSt.mk' (kindOf st) (arrOf st) (pendingOf st) g (failedOf st)=st';have sg:Sg st st':=by subst hs;exact⟨rfl,rfl,rfl,rfl⟩
 have hk':kindOf st'=κ:=sg.1.trans hk;have hd':=λc=>hd c st' sg
 have hy':=λc=>hy c st' sg
 refine eV (by omega) (bJ0 (aHe K hk' hPa (hPb _ (fX (by omega))) (by omega) (λi j hij hj=>pW sa (by omega) (by omega)) (by omega) λk k1 k2 k3=>?_))
 simp only[Nat.zero_add]at k2 k3;have ge:∀y∈(a.toList.take k).reverse,ρ y<=ρ (atK b (nb-1)):=λy hy=>by
  obtain⟨j,j1,j2,rfl⟩:=wF hy;exact k2 j j1
 dsimp only;refine bL (λc=>?_) λc=>?_
 .have h':=h.manyA (k:=k) (by omega) λx hx y hy=>by
   obtain⟨j,j1,j2,j3,rfl⟩:=aKx hx;obtain⟨i,i1,i2,rfl⟩:=wF hy;have:=k3 j j1 j2;have:=pW sb (show i<=nb-1 by omega) (by omega)
   omega
  refine bL (λe=>?_) λe=>?_
  .exact bIz (hd' _ (.inl ⟨_,rfl,vD h' (.inl (by simpa using e))⟩))
  .have e':¬ k=0:=by simpa using e
   exact aXr K hk' hPa hPb sa sb hl h' (by omega) (by omega) h2 h2' (by omega) hd' hy' ge
 .have:k=na:=by omega
  subst this;exact aXr K hk' hPa hPb sa sb hl h h1 h1' h2 h2' hN hd' hy' ge
omit h h1 h1' h2 h2' hN hd hy in
theorem aN8{R:Array Keyed->SortSt->Prop}(ha:0<a.size)(hb:0<b.size)(hf:∀y∈b.toList,ρ y<=ρ (atK a (a.size-1)))(hR:∀o st',Sg st st'->Res ρ (a.toList++b.toList) o->R o st'):wpS (model prog w) A E s (aHj a b) R st:=by
 have M0:MH ρ (a.toList++b.toList) a b #[] a.size b.size:=by
  unfold MH;rw[bLi (by simp),bLi (by simp)]
  refine⟨(bNf _).append (bNf _),.nil,λx hx=>(nomatch hx),?_,?_⟩
  .rw[bMf];exact sa.imp λh=>by omega
  .rw[bMf];exact sb.imp λh=>by omega
 have M1:=M0.pushA ha (bIn _) (λy hy=>hf y (bOi (bMi.mp hy)))
 rw[aN7];dsimp only;refine bJ0 (bNn (bKy ⟨rfl,?_⟩));refine eV (by omega) ?_
 have e0 : #[atK a (a.size-1)]=(#[]:Array Keyed).push (atK a (a.size-1)):=rfl;rw[e0];refine bL (λe=>?_) λe=>?_
 .exact bIz (hR _ _ (.refl _) (vD M1 (.inl (by simpa using e))))
 .have e':¬ a.size-1=0:=by simpa using e
  refine bL (λe2=>?_) λe2=>?_
  .exact bIz (hR _ _ (.refl _) (wG hl M1 (by simpa using e2)))
  .have e2':¬ b.size=1:=by simpa using e2
   refine bJ0 (bMr ?_);refine bJ0 (bKq (bJz (I:=λx c st'=>Sg st st'/\c.1=none/\JH ρ (a.toList++b.toList) a b (a.size+b.size-x) c.2.2.2.1 c.2.1 c.2.2.1)
    (Q:=λc st'=>Sg st st'/\∃r,c.1=some r/\Res ρ (a.toList++b.toList) r) ?step ?fin ?init) ?post)
   case init=>exact⟨.refl _,rfl,M1,⟨by show 1<=a.size-1;omega,by show a.size-1<=a.size;omega⟩,⟨by show 2<=b.size;omega,bIn _⟩,by show a.size-1+b.size<=_;omega⟩
   case fin=>
    rintro c st' ⟨_,_,_,⟨j1,_⟩,_,j3⟩;omega
   case post=>
    rintro⟨c,c'⟩ st' ⟨sg,r,e,hr⟩;dsimp only at e;subst e;exact bIz (hR _ _ sg hr)
   case step=>
    rintro x ⟨c0,na,nb,o,g⟩ st' _ hx ⟨sg,e0,J⟩;dsimp only at e0 J;subst e0;dsimp only;refine bJ0 (bKq (bJz (I:=λy c st2=>Sg st st2/\c.1=none/\JH ρ (a.toList++b.toList) a b (a.size+b.size-x-y) c.2.2.2.1 c.2.1 c.2.2.1)
     (Q:=λc st2=>Sg st st2/\((∃r,c.1=some r/\Res ρ (a.toList++b.toList) r)\/(c.1=none/\JH ρ (a.toList++b.toList) a b (a.size+b.size-x-1) c.2.2.2.1 c.2.1 c.2.2.1))) ?step1 ?fin1 ⟨sg,rfl,J⟩) ?post1)
    case fin1=>
     rintro⟨c,na,nb,o,ac,bc⟩ st2 ⟨sg,e,J⟩;exact⟨sg,.inr ⟨e,J.mono (by omega)⟩⟩
    case step1=>
     rintro y ⟨c,na,nb,o,ac,bc⟩ st2 _ hy ⟨sg,e,J⟩;dsimp only at e J;subst e;dsimp only;obtain⟨h,⟨j1,j1'⟩,⟨j2,j2'⟩,j3⟩:=J;refine eV (by omega) (eV (by omega) (bJ0 (K _ _ _ _ (hPb _ (fX (by omega))) (hPa _ (fX (by omega))) (sg.1.trans hk) ?_)))
     dsimp only;refine bL (λlt=>?_) λlt=>?_
     .have lt:=bJi lt;refine eV (by omega) ?_
      have h':=h.pushA j1 j1' λz hz=>by
       obtain⟨i,i1,i2,rfl⟩:=wF hz;have:=pW sb (show i<=nb-1 by omega) (by omega)
       omega
      refine bL (λe=>?_) λe=>?_
      .exact bIz ⟨sg,.inl ⟨_,rfl,vD h' (.inl (by simpa using e))⟩⟩
      .have e':¬ na-1=0:=by simpa using e
       refine bL (λ_=>?_) λ_=>?_
       .exact bIz ⟨sg,.inr ⟨rfl,h',⟨by show 1<=na-1;omega,by show na-1<=a.size;omega⟩,⟨j2,j2'⟩,by show na-1+nb<=_;omega⟩⟩
       .exact bIz ⟨sg,rfl,h',⟨by show 1<=na-1;omega,by show na-1<=a.size;omega⟩,⟨j2,j2'⟩,by show na-1+nb<=_;omega⟩
     .have lt:¬ ρ (atK b (nb-1))<ρ (atK a (na-1)):=λz=>lt (bIr z)
      refine eV (by omega) ?_
      have h':=h.pushB (by omega) j2' λz hz=>by
       obtain⟨i,i1,i2,rfl⟩:=wF hz;have:=pW sa (show i<=na-1 by omega) (by omega)
       omega
      refine bL (λe=>?_) λe=>?_
      .exact bIz ⟨sg,.inl ⟨_,rfl,wG hl h' (by simpa using e)⟩⟩
      .have e':¬ nb-1=1:=by simpa using e
       refine bL (λ_=>?_) λ_=>?_
       .exact bIz ⟨sg,.inr ⟨rfl,h',⟨j1,j1'⟩,⟨by show 2<=nb-1;omega,by show nb-1<=b.size;omega⟩,by show na+(nb-1)<=_;omega⟩⟩
       .exact bIz ⟨sg,rfl,h',⟨j1,j1'⟩,⟨by show 2<=nb-1;omega,by show nb-1<=b.size;omega⟩,by show na+(nb-1)<=_;omega⟩
    case post1=>
     rintro⟨c,na,nb,o,ac,bc⟩ st2 ⟨sg,⟨r,e,hr⟩|⟨e,J⟩⟩
     .dsimp only at e;subst e;exact bIz ⟨sg,r,rfl,hr⟩
     .dsimp only at e J;subst e;refine bJ0 (bNn (bKy ⟨rfl,?_⟩));refine bJ0 (bKq (bJz (I:=λ_ c st3=>Sg st st3/\c.1=none/\JH ρ (a.toList++b.toList) a b (a.size+b.size-x-1) c.2.2.2.1 c.2.1 c.2.2.1)
       (Q:=λc st3=>Sg st st3/\UH ρ (a.toList++b.toList) a b (a.size+b.size-x-1) c) ?step2 ?fin2 ⟨sg,rfl,J⟩) ?post2)
      case fin2=>
       rintro c st3 ⟨sg,e,J⟩;exact⟨sg,.inr ⟨e,J⟩⟩
      case step2=>
       rintro y ⟨c,na,nb,o,g,ac,bc⟩ st3 _ _ ⟨sg,e,J⟩;dsimp only at e J;subst e;refine bL (λ_=>?_) λ_=>?_
       .exact aXs (g:=g-1) (ac:=ac) (bc:=bc) K (sg.1.trans hk) hPa hPb sa sb hl J (λc st4 s4 h=>⟨sg.trans s4,h⟩) λc st4 s4 e h=>⟨sg.trans s4,e,h⟩
       .exact aXs (g:=g) (ac:=ac) (bc:=bc) K (sg.1.trans hk) hPa hPb sa sb hl J (λc st4 s4 h=>⟨sg.trans s4,h⟩) λc st4 s4 e h=>⟨sg.trans s4,e,h⟩
      case post2=>
       rintro⟨c,na,nb,o,g,ac,bc⟩ st3 ⟨sg,⟨r,e,hr⟩|⟨e,J⟩⟩
       .dsimp only at e;subst e;exact bIz ⟨sg,r,rfl,hr⟩
       .dsimp only at e J;subst e;refine bJ0 (bKe (bIz ⟨sg.trans ⟨rfl,rfl,rfl,rfl⟩,rfl,J.mono (by omega)⟩))
end
def wrB(arr:Array Keyed)(p:Nat)(m:List Keyed):Array Keyed:=m.zipIdx.foldl (λa (x,j)=>a.setIfInBounds (p+j) x) arr
def aN9(i:Nat):mergeAt' i=(do
 let s <- get
 let (some (sa,na,power),some (sb,nb,_)):=((pendingOf s)[i]?,(pendingOf s)[i+1]?)|unsupported "internal:list.sort.pending"
 set (setPending s (((pendingOf s).setIfInBounds i (sa,na+nb,power)).eraseIdxIfInBounds (i+1)))
 let some k <- iY false (<- elem' (arrOf s) sb) (arrOf s) sa na 0|return false
 let (sa,na):=(sa+k,na-k)
 if na==0 then return true
 let some nb <- iY true (<- elem' (arrOf s) (sa+na-1)) (arrOf s) sb nb (nb-1)|return false
 if nb==0 then return true
 let x:=(arrOf s).extract sa sb
 let y:=(arrOf s).extract sb (sb+nb)
 let merged <- if na<=nb then aHh x y else aHj x y
 modify λs=>setArr s (wrB (arrOf s) sa merged.toList)
 return (failedOf (<- get)).isNone):=rfl
def mU(ρ:Keyed->Int)(arr:Array Keyed)(lo hi:Nat):Prop:=∀i j,lo<=i->i<=j->j<hi->ρ (atK arr i)<=ρ (atK arr j)
theorem aRx:∀(m:List Keyed)(k:Nat)(arr:Array Keyed)(p:Nat),((m.zipIdx k).foldl (λa (x,j)=>a.setIfInBounds (p+j) x) arr).size=arr.size
 |[],_,_,_=>rfl
 |x::m,k,arr,p=>by
  rw[zipIdx_cons,bM5,aRx m (k+1)];exact bLt
theorem bC1:∀(m:List Keyed)(k:Nat)(arr:Array Keyed)(p i:Nat),p+k+m.length<=arr.size->atK ((m.zipIdx k).foldl (λa (x,j)=>a.setIfInBounds (p+j) x) arr) i=if p+k<=i/\i<p+k+m.length then (m[i-(p+k)]?).getD (.none,.none) else atK arr i
 |[],k,arr,p,i,_=>by rw[bIt (by simp)];rfl
 |x::m,k,arr,p,i,h=>by
  rw[bJ7]at h;rw[zipIdx_cons,bM5,bC1 m (k+1) _ p i (by rw[bLt];omega)]
  by_cases h1:p+(k+1)<=i/\i<p+(k+1)+m.length
  .rw[bIv h1,bIv (by rw[bJ7];omega)]
   obtain⟨n,hn⟩:∃n,i-(p+k)=n+1:=⟨i-(p+k)-1,by omega⟩
   rw[hn,bKo,show i-(p+(k+1))=n by omega]
  .rw[bIt h1];show ((arr.setIfInBounds (p+k) x)[i]?).getD _=_
   by_cases h2:i=p+k
   .subst h2;rw[bIv (by rw[bJ7];omega),bOr,List.getElem?_cons_zero,Array.getElem?_setIfInBounds_self_of_lt (by omega)]
   .rw[bIt (by rw[bJ7];omega),Array.getElem?_setIfInBounds_ne (by omega)]
    rfl
def aNa(arr:Array Keyed)(p:Nat)(m:List Keyed):(wrB arr p m).size=arr.size:=aRx m 0 arr p
def aKy{p:Nat}{m:List Keyed}(h:p+m.length<=arr.size)(i:Nat):atK (wrB arr p m) i=if p<=i/\i<p+m.length then (m[i-p]?).getD (.none,.none) else atK arr i:=bC1 m 0 arr p i h
def bB2{x y:Array Keyed}(hs:x.size=y.size)(h:∀i,i<x.size->atK x i=atK y i):x=y:=by
 refine Array.ext hs λi h1 h2=>?_
 have e:=h i h1;have e1:=lL h1;have e2:=lL h2;rw[bLf x i h1]at e1;rw[bLf y i h2]at e2;rw[bJ3 e1,bJ3 e2,e]
def aXt{p:Nat}{m:List Keyed}(h:p+m.length<=arr.size):(wrB arr p m).toList=arr.toList.take p++(m++arr.toList.drop (p+m.length)):=by
 have e:wrB arr p m=(arr.toList.take p++(m++arr.toList.drop (p+m.length))).toArray:=by
  refine bB2 ?_ λi hi=>?_
  .rw[aNa];simp;omega
  .rw[aNa]at hi;rw[aKy h];show _=((arr.toList.take p++(m++arr.toList.drop (p+m.length))).toArray[i]?).getD _;rw[bOb];have hp:(arr.toList.take p).length=p:=by simp;omega
   split
   .rename_i c;rw[bJu (by omega),hp,bJg (by omega)]
   .rename_i c
    by_cases c2:i<p
    .rw[bJg (by omega),bN6,bIv c2,bJl];rfl
    .rw[bJu (by omega),hp,bJu (by omega),bN5,show p+m.length+(i-p-m.length)=i by omega,bJl];rfl
 rw[e]
def aKz{p:Nat}(hq:q<=arr.size)(hi:i<q-p):atK (arr.extract p q) i=atK arr (p+i):=by
 unfold atK;rw[Array.getElem?_extract_of_lt (by omega),bLf arr (p+i) (by omega)]
def aRy{p:Nat}(hq:q<=arr.size)(h:mU ρ arr p q):(arr.extract p q).toList.Pairwise λx y=>ρ x<=ρ y:=by
 rw[bKs];intro i j hi hj hij;have sz:(arr.extract p q).size=q-p:=by simp;omega
 have hi':i<q-p:=by rw[bJ4,sz]at hi;exact hi
 have hj':j<q-p:=by rw[bJ4,sz]at hj;exact hj
 have e1:=lL (arr:=arr.extract p q) (i:=i) (by omega)
 have e2:=lL (arr:=arr.extract p q) (i:=j) (by omega)
 rw[<-bJl,bIj hi,aKz hq hi']at e1;rw[<-bJl,bIj hj,aKz hq hj']at e2;rw[bJ3 e1,bJ3 e2];exact h _ _ (by omega) (by omega) (by omega)
def aAd{p:Nat}{x:Keyed}(h:x∈(arr.extract p q).toList):∃j,p<=j/\j<q/\j<arr.size/\x=atK arr j:=aKx h
def bEi{o:Array Keyed}(h:Res ρ T o) (hi:i<o.size):atK o i∈T:=h.1.mem_iff.mp (fX hi)
structure Mg(ρ:Keyed->Int)(arr arr':Array Keyed)(sa e:Nat):Prop where
 pm:arr'.toList.Perm arr.toList
 so:mU ρ arr' sa e
 out:∀i,i<sa\/e<=i->atK arr' i=atK arr i
section
variable {A:Around} {P:Keyed->Prop} {st:SortSt}
def bB3{v:SortSt}{R:PUnit->SortSt->Prop}(h:R ⟨⟩ v):wpS (model prog w) A E s (set v:SM PUnit) R st:=by
 unfold wpS;rw[StateT.run_set];exact bIx ⟨rfl,h⟩
def bH3{sa sb k na nb nb':Nat}{m:Array Keyed}(e:sa+na=sb)(hk:k<na)(hn:nb'<=nb)(hs:sb+nb<=arr.size)(s1:mU ρ arr sa sb)(s2:mU ρ arr sb (sb+nb))(n1:0<nb')
  (g1:∀i,i<k->ρ (atK arr (sa+i))<=ρ (atK arr sb)) (g2:∀i,nb'<=i->i<nb->ρ (atK arr (sb-1))<=ρ (atK arr (sb+i)))
  (hr:Res ρ ((arr.extract (sa+k) sb).toList++(arr.extract sb (sb+nb')).toList) m):Mg ρ arr (wrB arr (sa+k) m.toList) sa (sb+nb):=by
 have hl:m.toList.length=na-k+nb':=by
  rw[hr.1.length_eq,bJ8,bJ4,bJ4];simp;omega
 have hf:sa+k+m.toList.length<=arr.size:=by omega
 have hm:∀i,sa+k<=i->i<sb+nb'->∃j,(sa+k<=j/\j<sb+nb')/\(m.toList[i-(sa+k)]?).getD (.none,.none)=atK arr j:=λi i1 i2=>by
  have hi:i-(sa+k)<m.size:=by rw[<-bJ4,hl];omega
  have z:=bEi hr hi;have e':(m.toList[i-(sa+k)]?).getD (.none,.none)=atK m (i-(sa+k)):=by rw[bJl];rfl
  rw[e'];rcases bJb.mp z with z|z
  .obtain⟨j,j1,j2,_,j4⟩:=aAd z;exact⟨j,⟨j1,by omega⟩,j4⟩
  .obtain⟨j,j1,j2,_,j4⟩:=aAd z;exact⟨j,⟨by omega,j2⟩,j4⟩
 refine⟨?_,λi j h1 h2 h3=>?_,λi hi=>?_⟩
 .rw[aXt hf,hl];have e1:arr.toList=arr.toList.take (sa+k)++((arr.extract (sa+k) sb).toList++(arr.extract sb (sb+nb')).toList++arr.toList.drop (sa+k+(na-k+nb'))):=by
   have d1:=aHi (a:=arr) (sa+k) (na-k);have d2:=aHi (a:=arr) sb nb';rw[show sa+k+(na-k)=sb by omega]at d1
   rw[show sa+k+(na-k+nb')=sb+nb' by omega,bKa,<-d2,<-d1,bMe]
  conv=>rhs;rw[e1]
  exact(hr.1.append_right _).append_left _
 .rw[aKy hf,aKy hf,hl];split
  .rename_i c1;split
   .rename_i c2;have z:=hr.2;rcases bOl i j with hlt|hge
    .have hj':j-(sa+k)<m.toList.length:=by omega
     have hi':i-(sa+k)<m.toList.length:=by omega
     rw[bIj hj',bIj hi'];exact bKs.mp z _ _ hi' hj' (by omega)
    .have:i=j:=by omega
     subst this;exact bKl _
   .rename_i c2;obtain⟨q,⟨q1,q2⟩,q3⟩:=hm i c1.1 (by omega)
    rw[q3]
    by_cases c3:q<sb
    .have t1:=g2 (j-sb) (by omega) (by omega)
     rw[show sb+(j-sb)=j by omega]at t1
     have t2:=s1 q (sb-1) (by omega) (by omega) (by omega)
     omega
    .exact s2 q j (by omega) (by omega) h3
  .rename_i c1;split
   .rename_i c2;obtain⟨q,⟨q1,q2⟩,q3⟩:=hm j c2.1 (by omega)
    rw[q3]
    by_cases c3:q<sb
    .exact s1 i q h1 (by omega) c3
    .have t1:=g1 (i-sa) (by omega)
     rw[show sa+(i-sa)=i by omega]at t1
     have t2:=s2 sb q (by omega) (by omega) (by omega)
     omega
   .rename_i c2
    by_cases c3:i<sa+k
    .by_cases c4:j<sa+k
     .exact s1 i j h1 h2 (by omega)
     .have t1:=g1 (i-sa) (by omega)
      rw[show sa+(i-sa)=i by omega]at t1
      have t2:=s2 sb j (by omega) (by omega) h3
      omega
    .exact s2 i j (by omega) h2 h3
 .rw[aKy hf,hl,bIt (by omega)]
def aNb(K:Ask prog w A E s ρ P κ)(hk:kindOf st=κ)(hP:∀x∈(arrOf st).toList,P x){sa na pw sb nb pw2:Nat}(p1:(pendingOf st)[i]?=some (sa,na,pw))(p2:(pendingOf st)[i+1]?=some (sb,nb,pw2))(e:sa+na=sb)(hs:sb+nb<=(arrOf st).size)(n1:0<na)(n2:0<nb)(s1:mU ρ (arrOf st) sa sb)(s2:mU ρ (arrOf st) sb (sb+nb))(hfl:failedOf st=none)
  {Q:Bool->SortSt->Prop} (h:∀st',kindOf st'=κ->failedOf st'=none->pendingOf st'=((pendingOf st).setIfInBounds i (sa,na+nb,pw)).eraseIdxIfInBounds (i+1)->Mg ρ (arrOf st) (arrOf st') sa (sb+nb)->Q true st'):wpS (model prog w) A E s (mergeAt' i) Q st:=by
 rw[aN9];refine bJ0 (bMr ?_);rw[p1,p2];dsimp only;generalize hst:setPending st (((pendingOf st).setIfInBounds i (sa,na+nb,pw)).eraseIdxIfInBounds (i+1))=st1;have k1:kindOf st1=κ:=by subst hst;exact hk
 have f1:failedOf st1=none:=by subst hst;exact hfl
 have q1:pendingOf st1=((pendingOf st).setIfInBounds i (sa,na+nb,pw)).eraseIdxIfInBounds (i+1):=by subst hst;rfl
 have a1:arrOf st1=arrOf st:=by subst hst;rfl
 refine bJ0 (bB3 ?_);refine eV (by omega) (bJ0 (aHe K k1 hP (hP _ (fX (by omega))) (by omega) (λi j hij hj=>s1 _ _ (by omega) (by omega) (by omega)) n1 λk b1 b2 b3=>?_))
 dsimp only;refine bL (λc=>?_) λc=>?_
 .have c:na-k=0:=by simpa using c
  refine bIz (h _ k1 f1 q1 ?_);rw[a1];refine⟨.refl _,λx y h1 h2 h3=>?_,λ_ _=>rfl⟩
  by_cases c1:y<sb
  .exact s1 x y h1 h2 c1
  .by_cases c2:x<sb
   .have t1:=b2 (x-sa) (by omega)
    rw[show sa+(x-sa)=x by omega]at t1
    have t2:=s2 sb y (by omega) (by omega) h3
    omega
   .exact s2 x y (by omega) h2 h3
 .have c:¬ na-k=0:=by simpa using c
  refine eV (by omega) (bJ0 (aHf K k1 hP (hP _ (fX (by omega))) (by omega) (λi j hij hj=>s2 _ _ (by omega) (by omega) (by omega)) (by omega) λm d1 d2 d3=>?_))
  rw[show sa+k+(na-k)-1=sb-1 by omega]at d2 d3
  dsimp only;refine bL (λc2=>?_) λc2=>?_
  .have c2:m=0:=by simpa using c2
   subst c2;refine bIz (h _ k1 f1 q1 ?_);rw[a1];refine⟨.refl _,λx y h1 h2 h3=>?_,λ_ _=>rfl⟩
   by_cases c1:y<sb
   .exact s1 x y h1 h2 c1
   .by_cases c2:x<sb
    .have t1:=d3 (y-sb) (by omega) (by omega)
     rw[show sb+(y-sb)=y by omega]at t1
     have t2:=s1 x (sb-1) h1 (by omega) (by omega)
     omega
    .exact s2 x y (by omega) h2 h3
  .have c2:¬ m=0:=by simpa using c2
   have ss1:((arrOf st).extract (sa+k) sb).toList.Pairwise λx y=>ρ x<=ρ y:=aRy (by omega) λx y h1 h2 h3=>s1 x y (by omega) h2 h3
   have ss2:((arrOf st).extract sb (sb+m)).toList.Pairwise λx y=>ρ x<=ρ y:=aRy (by omega) λx y h1 h2 h3=>s2 x y h1 h2 (by omega)
   have z1:((arrOf st).extract (sa+k) sb).size=na-k:=by simp;omega
   have z2:((arrOf st).extract sb (sb+m)).size=m:=by simp;omega
   have pa:∀x∈((arrOf st).extract (sa+k) sb).toList,P x:=λx hx=>by obtain⟨j,_,_,j3,rfl⟩:=aAd hx;exact hP _ (fX j3)
   have pb:∀x∈((arrOf st).extract sb (sb+m)).toList,P x:=λx hx=>by obtain⟨j,_,_,j3,rfl⟩:=aAd hx;exact hP _ (fX j3)
   have y0:atK ((arrOf st).extract sb (sb+m)) 0=atK (arrOf st) sb:=by rw[aKz (by omega) (by omega)];rfl
   have xl:atK ((arrOf st).extract (sa+k) sb) (((arrOf st).extract (sa+k) sb).size-1)=atK (arrOf st) (sb-1):=by rw[z1,aKz (by omega) (by omega)];congr 1;omega
   have lo:∀x∈((arrOf st).extract (sa+k) sb).toList,ρ (atK ((arrOf st).extract sb (sb+m)) 0)<=ρ x:=λx hx=>by
    obtain⟨j,j1,j2,_,rfl⟩:=aAd hx;have t:=b3 (j-sa) (by omega) (by omega)
    rw[show sa+(j-sa)=j by omega]at t
    rw[y0];omega
   have hi:∀x∈((arrOf st).extract sb (sb+m)).toList,ρ x<=ρ (atK ((arrOf st).extract (sa+k) sb) (((arrOf st).extract (sa+k) sb).size-1)):=λx hx=>by
    obtain⟨j,j1,j2,_,rfl⟩:=aAd hx;have t:=d2 (j-sb) (by omega)
    rw[show sb+(j-sb)=j by omega]at t
    rw[xl];omega
   have fin:∀(o:Array Keyed)(st':SortSt),Sg st1 st'->Res ρ (((arrOf st).extract (sa+k) sb).toList++((arrOf st).extract sb (sb+m)).toList) o->wpS (model prog w) A E s (do
     modify λs=>setArr s (wrB (arrOf s) (sa+k) o.toList)
     let __x <- get
     pure (failedOf __x).isNone) Q st':=λo st' sg hr=>by
    refine bJ0 (bKe (bJ0 (bMr (bIz ?_))));have ff:failedOf st'=none:=sg.2.2.2.trans f1;have:(failedOf (setArr st' (wrB (arrOf st') (sa+k) o.toList))).isNone=true:=by show (failedOf st').isNone=true;rw[ff];rfl
    rw[this];refine h _ (sg.1.trans k1) ff (sg.2.2.1.trans q1) ?_
    show Mg ρ (arrOf st) (wrB (arrOf st') (sa+k) o.toList) sa (sb+nb);rw[sg.2.1,a1];exact bH3 e (by omega) d1 hs s1 s2 (by omega) b2 d3 hr
   refine bL (λ_=>bJ0 ?_) λ_=>bJ0 ?_
   .exact aN6 K k1 pa pb ss1 ss2 hi (by omega) (by omega) lo λo st' sg hr=>fin o st' sg hr
   .exact aN8 K k1 pa pb ss1 ss2 lo (by omega) (by omega) hi λo st' sg hr=>fin o st' sg hr
end
structure Kp(st st':SortSt)(lo hi:Nat):Prop where
 pm:(arrOf st').toList.Perm (arrOf st).toList
 kind:kindOf st'=kindOf st
 fail:failedOf st'=failedOf st
 pend:pendingOf st'=pendingOf st
 out:∀i,i<lo\/hi<=i->atK (arrOf st') i=atK (arrOf st) i
theorem Kp.refl(st:SortSt)(lo hi:Nat):Kp st st lo hi:=⟨.refl _,rfl,rfl,rfl,λ_ _=>rfl⟩
theorem Kp.trans{a b c:SortSt}{lo hi:Nat}(h:Kp a b lo hi)(g:Kp b c lo hi):Kp a c lo hi:=⟨g.pm.trans h.pm,g.kind.trans h.kind,g.fail.trans h.fail,g.pend.trans h.pend,λi hi=>(g.out i hi).trans (h.out i hi)⟩
theorem Kp.size{st st':SortSt}{lo hi:Nat}(h:Kp st st' lo hi):(arrOf st').size=(arrOf st).size:=by
 have:=h.pm.length_eq
 rwa [bJ4,bJ4]at this
def aPi{xs:Array Keyed}{src d:Nat}(hs:src<xs.size)(hd:d<=src)(k:Nat):atK (bubble xs src d) k=if k=src-d then atK xs src else if src-d<k/\k<=src then atK xs (k-1) else atK xs k:=by
 unfold atK;rw[getElem?_bubble hs d hd k]
 repeat' split
 all_goals rfl
def aHk{xs:Array Keyed} (hj:j<=xs.size) (k:Nat):atK (mirror xs i j ((j-i)/2)) k=if i<=k/\k<j then atK xs (i+j-1-k) else atK xs k:=by
 unfold atK;rw[getElem?_mirror_all hj k];split<;>rfl
def bEj{st:SortSt}{lo src dst:Nat}(h1:lo<=dst)(h2:dst<=src)(h3:src<hi)(h4:src<(arrOf st).size):Kp st (setArr st (bubble (arrOf st) src (src-dst))) lo hi:=
 ⟨bMv.mp (bubble_perm _ _ _),rfl,rfl,rfl,λi hi=>by
  show atK (bubble (arrOf st) src (src-dst)) i=_;rw[aPi h4 (by omega),bIt (by omega),bIt (by omega)]⟩
def aHl{st:SortSt}{lo:Nat}(h1:lo<=i)(h3:j<=hi)(h4:j<=(arrOf st).size):Kp st (setArr st (mirror (arrOf st) i j ((j-i)/2))) lo hi:=
 ⟨bMv.mp (mirror_perm _ _ _ _),rfl,rfl,rfl,λk hk=>by
  show atK (mirror (arrOf st) i j ((j-i)/2)) k=_;rw[aHk h4,bIt (by omega)]⟩
section
variable{prog:Program}{w:World}{A:Around}{E:Value->Shared->Prop}{s:Shared}{ρ:Keyed->Int}{P:Keyed->Prop}{κ:SortKind}{st:SortSt}
def aAe(K:Ask prog w A E s ρ P κ)(hk:kindOf st=κ)(hP:∀x∈(arrOf st).toList,P x) (hi:i<(arrOf st).size) (hj:j<(arrOf st).size) {Q:Option Bool->SortSt->Prop} (h:Q (some (decide (ρ (atK (arrOf st) i)<ρ (atK (arrOf st) j)))) st):wpS (model prog w) A E s (ltAt' i j) Q st:=by
 rw[ltAt'_eq];refine bJ0 (bMr ?_);exact eV hi (eV hj (K _ _ _ _ (hP _ (fX hi)) (hP _ (fX hj)) hk h))
variable(K:Ask prog w A E s ρ P κ)(hk:kindOf st=κ)(hP:∀x∈(arrOf st).toList,P x)
include K hk hP
def bB4{lo ok:Nat}(hn:lo+n<=(arrOf st).size)(h0:1<=ok)(hok:ok<=n)(hs:mU ρ (arrOf st) lo (lo+ok)){Q:Bool->SortSt->Prop}(h:∀st',Kp st st' lo (lo+n)->mU ρ (arrOf st') lo (lo+n)->Q true st'):wpS (model prog w) A E s (binarySort' lo n ok) Q st:=by
 rw[binarySort'_eq];refine bJ0 (bKq (bJz (I:=λk c st'=>c=(none,())/\Kp st st' lo (lo+n)/\mU ρ (arrOf st') lo (lo+min k n))
  (Q:=λc st'=>c=(none,())/\Kp st st' lo (lo+n)/\mU ρ (arrOf st') lo (lo+n)) ?step ?fin ?init) ?post)
 case post=>
  rintro c st' ⟨rfl,k,hs'⟩;exact bIz (h st' k hs')
 case init=>exact⟨rfl,.refl _ _ _,by rw[show min (max ok 1) n=ok by omega];exact hs⟩
 case fin=>
  rintro c st' ⟨hc,k,hs'⟩;refine⟨hc,k,?_⟩
  rwa [show min (max (max ok 1) n) n=n by omega]at hs'
 case step=>
  rintro k c st' hak hkn ⟨rfl,kp,hs'⟩;rw[show min k n=k by omega]at hs'
  have sz:=kp.size;have hP':∀x∈(arrOf st').toList,P x:=λx hx=>hP x (kp.pm.mem_iff.mp hx)
  refine bJ0 (bKq (bJz (I:=λx c st''=>st''=st'/\∃l r,c=(none,l,r)/\l<=r/\r<=k/\r-l<=k-x/\
    (∀i,i<l->ρ (atK (arrOf st') (lo+i))<=ρ (atK (arrOf st') (lo+k)))/\(∀i,r<=i->i<k->ρ (atK (arrOf st') (lo+k))<ρ (atK (arrOf st') (lo+i))))
   (Q:=λc st''=>st''=st'/\∃l r,c=(none,l,r)/\l<=k/\
    (∀i,i<l->ρ (atK (arrOf st') (lo+i))<=ρ (atK (arrOf st') (lo+k)))/\(∀i,l<=i->i<k->ρ (atK (arrOf st') (lo+k))<ρ (atK (arrOf st') (lo+i)))) ?istep ?ifin ?iinit) ?ipost)
  case iinit=>exact⟨rfl,0,k,rfl,by omega,by omega,by omega,λi hi=>by omega,λi h1 h2=>by omega⟩
  case ifin=>
   rintro c st'' ⟨rfl,l,r,rfl,hlr,hrk,hm,hlo,hhi⟩;have:l=r:=by omega
   subst this;exact⟨rfl,l,l,rfl,hrk,hlo,hhi⟩
  case istep=>
   rintro x c st'' _ hxk ⟨rfl,l,r,rfl,hlr,hrk,hm,hlo,hhi⟩;dsimp only;refine bL (λhge=>?_) λhge=>?_
   .have:l=r:=by omega
    subst this;exact bIz ⟨rfl,l,l,rfl,hrk,hlo,hhi⟩
   .refine bJ0 (aAe K (kp.kind.trans hk) hP' (by omega) (by omega) ?_)
    dsimp only;refine bL (λhl=>?_) λhl=>?_
    .have hl:=bJi hl;refine bIz ⟨rfl,l,(l+r)/2,rfl,by omega,by omega,by omega,hlo,λi h1 h2=>?_⟩
     exact Int.lt_of_lt_of_le hl (hs' _ _ (by omega) (by omega) (by omega))
    .have hl:¬ ρ (atK (arrOf st'') (lo+k))<ρ (atK (arrOf st'') (lo+(l+r)/2)):=λz=>hl (bIr z)
     refine bIz ⟨rfl,(l+r)/2+1,r,rfl,by omega,by omega,by omega,λi h1=>?_,hhi⟩
     exact bO5 (hs' (lo+i) (lo+(l+r)/2) (by omega) (by omega) (by omega)) (Int.not_lt.mp hl)
  case ipost=>
   rintro c st'' ⟨rfl,l,r,rfl,hlk,hlo,hhi⟩;show wpS _ _ _ _ (do moveDown' (lo+k) (lo+l);pure (ForInStep.yield (none,()))) _ _
   rw[moveDown'_eq];refine bJ0 (bKe (bIz ⟨rfl,kp.trans (bEj (by omega) (by omega) (by omega) (by omega)),?_⟩))
   rw[show min (k+1) n=k+1 by omega]
   intro i j h1 hij hj;show ρ (atK (bubble (arrOf st'') (lo+k) (lo+k-(lo+l))) i)<=ρ (atK (bubble (arrOf st'') (lo+k) (lo+k-(lo+l))) j);rw[aPi (by omega) (by omega),aPi (by omega) (by omega),show lo+k-(lo+k-(lo+l))=lo+l by omega]
   have lo':∀i,lo<=i->i<lo+l->ρ (atK (arrOf st'') i)<=ρ (atK (arrOf st'') (lo+k)):=λi a b=>by
    have:=hlo (i-lo) (by omega)
    rwa [show lo+(i-lo)=i by omega]at this
   have hi':∀i,lo+l<=i->i<lo+k->ρ (atK (arrOf st'') (lo+k))<ρ (atK (arrOf st'') i):=λi a b=>by
    have:=hhi (i-lo) (by omega) (by omega)
    rwa [show lo+(i-lo)=i by omega]at this
   repeat' split
   all_goals first
    |(exfalso;omega)
    |exact bKl _
    |exact lo' _ (by omega) (by omega)
    |exact Int.le_of_lt (hi' _ (by omega) (by omega))
    |exact hs' _ _ (by omega) (by omega) (by omega)
structure Fal(ρ:Keyed->Int)(arr:Array Keyed)(lo n q:Nat):Prop where
 dn:∀i j,lo<=i->i<=j->j<lo+n->ρ (atK arr j)<=ρ (atK arr i)
 le:q+1<=n
 eq:∀i,lo+n-(q+1)<=i->i<lo+n->ρ (atK arr i)=ρ (atK arr (lo+n-1))
omit K hk hP in
def Fal.mir{arr:Array Keyed}{lo n q:Nat}(h:Fal ρ arr lo n q)(hs:lo+n<=arr.size)(i:Nat):ρ (atK (mirror arr (lo+n-(q+1)) (lo+n) ((lo+n-(lo+n-(q+1)))/2)) i)=ρ (atK arr i):=by
 have:=h.le;rw[aHk hs];split
 .rename_i c;rw[h.eq _ (by omega) (by omega),h.eq i (by omega) (by omega)]
 .rfl
omit K hk hP in
def Fal.turn{arr arr':Array Keyed}{lo n q:Nat}(h:Fal ρ arr lo n q)(e:∀i,ρ (atK arr' i)=ρ (atK arr i))(hs:lo+n<=arr'.size):mU ρ (mirror arr' lo (lo+n) ((lo+n-lo)/2)) lo (lo+n):=λi j h1 h2 h3=>by
 rw[aHk hs,aHk hs,bIv (by omega),bIv (by omega),e,e]
 exact h.dn _ _ (by omega) (by omega) (by omega)
omit K hk hP in
def mU.more{arr:Array Keyed}{lo n:Nat}(h1:1<=n)(h:mU ρ arr lo (lo+n))(hl:ρ (atK arr (lo+n-1))<=ρ (atK arr (lo+n))):mU ρ arr lo (lo+(n+1)):=λi j a b c=>by
 by_cases e:j=lo+n
 .subst e
  by_cases e2:i=lo+n
  .subst e2;exact bKl _
  .exact bO5 (h i (lo+n-1) a (by omega) (by omega)) hl
 .exact h i j a b (by omega)
def aXu {lo : Nat}  (h1 : 1 <= n) (hn : n <= nrem) (hs : lo + nrem <= (arrOf st).size) (kp : Kp st0 st lo (lo + nrem)) (so : mU ρ (arrOf st) lo (lo + n))
     (hG:∀m,G (none,m)=pure (some m)) (h:∀m st',1<=m->m<=nrem->Kp st0 st' lo (lo+nrem)->mU ρ (arrOf st') lo (lo+m)->Q (some m) st') :
  wpS (model prog w) A E s ((forIn [n:nrem] ((none,n):Option (Option Nat)×Nat) λ_ __s=>do
   let __x <- ltAt' (lo+__s.2) (lo+__s.2-1)
   match __x with
   |some smaller=>if smaller=true then pure (ForInStep.done (none,__s.2)) else pure (ForInStep.yield (none,__s.2+1))
   |_=>pure (ForInStep.done (some none,__s.2))) >>= G) Q st:=by
 refine bJ0 (bKq (bJz (I:=λx c st'=>st'=st/\c=(none,x)/\x<=nrem/\n<=x/\mU ρ (arrOf st) lo (lo+x))
  (Q:=λc st'=>st'=st/\∃m,c=(none,m)/\1<=m/\m<=nrem/\mU ρ (arrOf st) lo (lo+m)) ?step ?fin ⟨rfl,rfl,hn,bIn _,so⟩) ?post)
 case fin=>
  rintro c st' ⟨rfl,rfl,a1,a2,a3⟩;exact⟨rfl,_,rfl,by omega,a1,a3⟩
 case post=>
  rintro c st' ⟨rfl,m,rfl,a1,a2,a3⟩;rw[hG];exact bIz (h m st' a1 a2 kp a3)
 case step=>
  rintro x c st' _ hx ⟨rfl,rfl,a1,a2,a3⟩;refine bJ0 (aAe K hk hP (by omega) (by omega) ?_)
  dsimp only;refine bL (λhl=>?_) λhl=>?_
  .exact bIz ⟨rfl,x,rfl,by omega,a1,a3⟩
  .have hl:¬ ρ (atK (arrOf st') (lo+x))<ρ (atK (arrOf st') (lo+x-1)):=λz=>hl (bIr z)
   exact bIz ⟨rfl,rfl,by omega,by omega,a3.more (by omega) (by omega)⟩
omit K hk hP in
def bH4(lo z:Nat):countRun' lo z=(do
 let mut n:=1
 for _ in [1:z] do
  let some d <- ltAt' (lo+n) (lo+n-1)|return none
  if d then break
  n:=n+1
 if n==z then return some n
 if n>1 then
  let some d <- ltAt' lo (lo+n-1)|return none
  if d then return some n
  reverseSlice' lo (lo+n)
 rule "list.sort.descending-run"
 n:=n+1
 let mut q:=0
 for _ in [n:z] do
  let some d <- ltAt' (lo+n) (lo+n-1)|return none
  if d then
   if q>0 then reverseSlice' (lo+n-(q+1)) (lo+n)
   q:=0
  else
   let some d <- ltAt' (lo+n-1) (lo+n)|return none
   if d then break
   q:=q+1
  n:=n+1
 if q>0 then reverseSlice' (lo+n-(q+1)) (lo+n)
 reverseSlice' lo (lo+n)
 for _ in [n:z] do
  let some d <- ltAt' (lo+n) (lo+n-1)|return none
  if d then break
  n:=n+1
 return some n):=rfl
def aNc {lo : Nat}  (hn : n + 1 <= nrem) (hs : lo + nrem <= (arrOf st).size) (kp : Kp st0 st lo (lo + nrem)) (fa : Fal ρ (arrOf st) lo (n + 1) 0)
     (hG:∀m,G (none,m)=pure (some m)) {F:Option (Option Nat)×Nat×Nat->SM (Option Nat)}
  (hF:∀m q,F (none,m,q)=(if q>0 then do
    reverseSlice' (lo+m-(q+1)) (lo+m)
    reverseSlice' lo (lo+m)
    (forIn [m:nrem] ((none,m):Option (Option Nat)×Nat) λ_ __s=>do
     let __x <- ltAt' (lo+__s.2) (lo+__s.2-1)
     match __x with
     |some smaller=>if smaller=true then pure (ForInStep.done (none,__s.2)) else pure (ForInStep.yield (none,__s.2+1))
     |_=>pure (ForInStep.done (some none,__s.2))) >>= G
   else do
    reverseSlice' lo (lo+m)
    (forIn [m:nrem] ((none,m):Option (Option Nat)×Nat) λ_ __s=>do
     let __x <- ltAt' (lo+__s.2) (lo+__s.2-1)
     match __x with
     |some smaller=>if smaller=true then pure (ForInStep.done (none,__s.2)) else pure (ForInStep.yield (none,__s.2+1))
     |_=>pure (ForInStep.done (some none,__s.2))) >>= G))
   (h:∀m st',1<=m->m<=nrem->Kp st0 st' lo (lo+nrem)->mU ρ (arrOf st') lo (lo+m)->Q (some m) st') :
  wpS (model prog w) A E s ((forIn [n+1:nrem] ((none,n+1,0):Option (Option Nat)×Nat×Nat) λ_ __s=>do
   let __x <- ltAt' (lo+__s.2.1) (lo+__s.2.1-1)
   match __x with
   |some smaller=>
    if smaller=true then
     if __s.2.2>0 then do
      reverseSlice' (lo+__s.2.1-(__s.2.2+1)) (lo+__s.2.1)
      pure (ForInStep.yield (none,__s.2.1+1,0))
     else pure (ForInStep.yield (none,__s.2.1+1,0))
    else do
     let __x <- ltAt' (lo+__s.2.1-1) (lo+__s.2.1)
     match __x with
     |some larger=>if larger=true then pure (ForInStep.done (none,__s.2.1,__s.2.2)) else pure (ForInStep.yield (none,__s.2.1+1,__s.2.2+1))
     |_=>pure (ForInStep.done (some none,__s.2.1,__s.2.2))
   |_=>pure (ForInStep.done (some none,__s.2.1,__s.2.2))) >>= F) Q st:=by
 refine bJ0 (bKq (bJz (I:=λx c st'=>∃q,c=(none,x,q)/\x<=nrem/\Kp st0 st' lo (lo+nrem)/\Fal ρ (arrOf st') lo x q)
  (Q:=λc st'=>∃m q,c=(none,m,q)/\m<=nrem/\Kp st0 st' lo (lo+nrem)/\Fal ρ (arrOf st') lo m q) ?step ?fin ⟨0,rfl,hn,kp,fa⟩) ?post)
 case fin=>
  rintro c st' ⟨q,rfl,a1,a2,a3⟩;exact⟨_,q,rfl,a1,a2,a3⟩
 case step=>
  rintro x c st' _ hx ⟨q,rfl,a1,a2,a3⟩;have hk':kindOf st'=κ:=a2.kind.trans (kp.kind.symm.trans hk);have hP':∀y∈(arrOf st').toList,P y:=λy hy=>hP y (kp.pm.mem_iff.mpr (a2.pm.mem_iff.mp hy))
  have sz:(arrOf st').size=(arrOf st).size:=by rw[a2.size,kp.size]
  have hle:=a3.le;dsimp only;refine bJ0 (aAe K hk' hP' (by omega) (by omega) ?_)
  dsimp only;refine bL (λhl=>?_) λhl=>?_
  .have hl:=bJi hl;have go:∀arr':Array Keyed,(∀i,ρ (atK arr' i)=ρ (atK (arrOf st') i))->Fal ρ arr' lo (x+1) 0:=λarr' e=>by
    refine⟨λi j b1 b2 b3=>?_,by omega,λi b1 b2=>by rw[show i=lo+(x+1)-1 by omega]⟩
    rw[e,e]
    by_cases c1:j=lo+x
    .subst c1
     by_cases c2:i=lo+x
     .subst c2;exact bKl _
     .have:=a3.dn i (lo+x-1) b1 (by omega) (by omega)
      omega
    .exact a3.dn i j b1 b2 (by omega)
   refine bL (λ_=>?_) λ_=>?_
   .rw[bLm];exact bJ0 (bKe (bIz ⟨0,rfl,by omega,a2.trans (aHl (by omega) (by omega) (by omega)),go _ (a3.mir (by omega))⟩))
   .exact bIz ⟨0,rfl,by omega,a2,go _ λ_=>rfl⟩
  .have hl:¬ ρ (atK (arrOf st') (lo+x))<ρ (atK (arrOf st') (lo+x-1)):=λz=>hl (bIr z)
   refine bJ0 (aAe K hk' hP' (by omega) (by omega) ?_)
   dsimp only;refine bL (λhg=>?_) λhg=>?_
   .exact bIz ⟨x,q,rfl,a1,a2,a3⟩
   .have hg:¬ ρ (atK (arrOf st') (lo+x-1))<ρ (atK (arrOf st') (lo+x)):=λz=>hg (bIr z)
    have e:ρ (atK (arrOf st') (lo+x))=ρ (atK (arrOf st') (lo+x-1)):=by omega
    refine bIz ⟨q+1,rfl,by omega,a2,λi j b1 b2 b3=>?_,by omega,λi b1 b2=>?_⟩
    .by_cases c1:j=lo+x
     .subst c1
      by_cases c2:i=lo+x
      .subst c2;exact bKl _
      .have:=a3.dn i (lo+x-1) b1 (by omega) (by omega)
       omega
     .exact a3.dn i j b1 b2 (by omega)
    .rw[show lo+(x+1)-1=lo+x by omega]
     by_cases c1:i=lo+x
     .rw[c1]
     .rw[e];exact a3.eq i (by omega) (by omega)
 case post=>
  rintro c st' ⟨m,q,rfl,a1,a2,a3⟩;have hk':kindOf st'=κ:=a2.kind.trans (kp.kind.symm.trans hk);have hP':∀y∈(arrOf st').toList,P y:=λy hy=>hP y (kp.pm.mem_iff.mpr (a2.pm.mem_iff.mp hy))
  have sz:(arrOf st').size=(arrOf st).size:=by rw[a2.size,kp.size]
  have hle:=a3.le;rw[hF];refine bL (λ_=>?_) λ_=>?_
  .rw[bLm,bLm];refine bJ0 (bKe (bJ0 (bKe ?_)));have k1:Kp st' (setArr st' (mirror (arrOf st') (lo+m-(q+1)) (lo+m) ((lo+m-(lo+m-(q+1)))/2))) lo (lo+nrem):=aHl (by omega) (by omega) (by omega)
   have k2:=k1.trans (aHl (lo:=lo) (i:=lo) (j:=lo+m) (hi:=lo+nrem) (by omega) (by omega) (by rw[k1.size];omega))
   refine aXu K (k2.kind.trans hk') (λy hy=>hP' y (k2.pm.mem_iff.mp hy)) (by omega) a1 (by rw[k2.size];omega) (a2.trans k2) ?_ hG h
   exact a3.turn (arr':=mirror (arrOf st') (lo+m-(q+1)) (lo+m) ((lo+m-(lo+m-(q+1)))/2)) (a3.mir (by omega)) (by rw[mirror_size];omega)
  .rw[bLm];refine bJ0 (bKe ?_);have k2:Kp st' (setArr st' (mirror (arrOf st') lo (lo+m) ((lo+m-lo)/2))) lo (lo+nrem):=aHl (by omega) (by omega) (by omega)
   refine aXu K (k2.kind.trans hk') (λy hy=>hP' y (k2.pm.mem_iff.mp hy)) (by omega) a1 (by rw[k2.size];omega) (a2.trans k2) ?_ hG h
   exact a3.turn (λ_=>rfl) (by omega)
def bB5{lo:Nat}(h1:1<=nrem)(hs:lo+nrem<=(arrOf st).size) (h:∀m st',1<=m->m<=nrem->Kp st st' lo (lo+nrem)->mU ρ (arrOf st') lo (lo+m)->Q (some m) st'):wpS (model prog w) A E s (countRun' lo nrem) Q st:=by
 rw[bH4];dsimp only;refine bJ0 (bKq (bJz (I:=λx c st'=>st'=st/\c=(none,x)/\x<=nrem/\1<=x/\mU ρ (arrOf st) lo (lo+x))
  (Q:=λc st'=>st'=st/\∃m,c=(none,m)/\1<=m/\m<=nrem/\mU ρ (arrOf st) lo (lo+m)/\(m<nrem->ρ (atK (arrOf st) (lo+m))<ρ (atK (arrOf st) (lo+m-1)))) ?step ?fin ⟨rfl,rfl,h1,bIn _,λi j a b c=>by rw[show i=j by omega];exact bKl _⟩) ?post)
 case fin=>
  rintro c st' ⟨rfl,rfl,a1,a2,a3⟩;exact⟨rfl,_,rfl,a2,a1,a3,λz=>by omega⟩
 case step=>
  rintro x c st' _ hx ⟨rfl,rfl,a1,a2,a3⟩;dsimp only;refine bJ0 (aAe K hk hP (by omega) (by omega) ?_)
  dsimp only;refine bL (λhl=>?_) λhl=>?_
  .exact bIz ⟨rfl,x,rfl,a2,a1,a3,λ_=>bJi hl⟩
  .have hl:¬ ρ (atK (arrOf st') (lo+x))<ρ (atK (arrOf st') (lo+x-1)):=λz=>hl (bIr z)
   exact bIz ⟨rfl,rfl,by omega,by omega,a3.more (by omega) (by omega)⟩
 case post=>
  rintro c st' ⟨rfl,m,rfl,a1,a2,a3,a4⟩;show wpS _ _ _ _ (if (m==nrem)=true then _ else _) _ _
  refine bL (λc=>?_) λc=>?_
  .exact bIz (h m st' a1 a2 (.refl _ _ _) a3)
  .have c:¬ m=nrem:=by simpa using c
   have fl:=a4 (by omega)
   refine bL (λc2=>?_) λc2=>?_
   .refine bJ0 (aAe K hk hP (by omega) (by omega) ?_)
    dsimp only;refine bL (λhl=>?_) λhl=>?_
    .exact bIz (h m st' a1 a2 (.refl _ _ _) a3)
    .have hl:¬ ρ (atK (arrOf st') lo)<ρ (atK (arrOf st') (lo+m-1)):=λz=>hl (bIr z)
     have eq:∀i,lo<=i->i<lo+m->ρ (atK (arrOf st') i)=ρ (atK (arrOf st') (lo+m-1)):=λi b1 b2=>by
      have t1:=a3 lo i (by omega) b1 b2
      have t2:=a3 i (lo+m-1) b1 (by omega) (by omega)
      omega
     rw[bLm];refine bJ0 (bKe (bJ0 (bNn (bKy ⟨rfl,?_⟩))));have k2:Kp st' (setArr st' (mirror (arrOf st') lo (lo+m) ((lo+m-lo)/2))) lo (lo+nrem):=aHl (by omega) (by omega) (by omega)
     have er:∀i,ρ (atK (mirror (arrOf st') lo (lo+m) ((lo+m-lo)/2)) i)=ρ (atK (arrOf st') i):=λi=>by
      rw[aHk (by omega)]
      split
      .rw[eq _ (by omega) (by omega),eq i (by omega) (by omega)]
      .rfl
     refine aNc K (k2.kind.trans hk) (λy hy=>hP y (k2.pm.mem_iff.mp hy)) (by omega) (by rw[k2.size];omega) k2 ⟨λi j b1 b2 b3=>?_,by omega,λi b1 b2=>by rw[show i=lo+(m+1)-1 by omega]⟩ (λ_=>rfl) (λ_ _=>rfl) h
     show ρ (atK (mirror (arrOf st') lo (lo+m) ((lo+m-lo)/2)) j)<=ρ (atK (mirror (arrOf st') lo (lo+m) ((lo+m-lo)/2)) i);rw[er,er]
     by_cases c1:j=lo+m
     .subst c1
      by_cases c2:i=lo+m
      .subst c2;exact bKl _
      .rw[eq i b1 (by omega)];omega
     .rw[eq i b1 (by omega),eq j (by omega) (by omega)];exact bKl _
   .have:m=1:=by omega
    subst this;refine bJ0 (bNn (bKy ⟨rfl,?_⟩));refine aNc K hk hP (by omega) hs (.refl _ _ _) ⟨λi j b1 b2 b3=>?_,by omega,λi b1 b2=>by rw[show i=lo+(1+1)-1 by omega]⟩ (λ_=>rfl) (λ_ _=>rfl) h
    by_cases c1:j=lo+1
    .subst c1
     by_cases c2:i=lo+1
     .subst c2;exact bKl _
     .have:i=lo:=by omega
      subst this;rw[bN4]at fl;omega
    .rw[show i=j by omega];exact bKl _
end
inductive Runs (ρ:Keyed->Int) (arr:Array Keyed):Nat->List (Nat×Nat×Nat)->Nat->Prop where
 |nil (a:Nat):Runs ρ arr a [] a
 |cons {a n p e:Nat} {l:List (Nat×Nat×Nat)} (h:0<n) (so:mU ρ arr a (a+n)) (r:Runs ρ arr (a+n) l e):Runs ρ arr a ((a,n,p)::l) e
section
variable{arr':Array Keyed}{a e:Nat}{l l1 l2:List (Nat×Nat×Nat)}
def Runs.le(h:Runs ρ arr a l e):a+l.length<=e:=by
 induction h with
 |nil=>exact bIn _
 |cons h so r ih=>rw[bJ7];omega
def Runs.congr(h:Runs ρ arr a l e)(hc:∀i,a<=i->i<e->atK arr' i=atK arr i):Runs ρ arr' a l e:=by
 induction h with
 |nil=>exact .nil _
 |cons h so r ih=>
  have:=r.le;refine .cons h (λi j h1 h2 h3=>?_) (ih λi h1 h2=>hc i (by omega) h2)
  rw[hc i h1 (by omega),hc j (by omega) (by omega)]
  exact so i j h1 h2 h3
def Runs.snoc(h:Runs ρ arr a l e){p:Nat}(hn:0<n)(so:mU ρ arr e (e+n)):Runs ρ arr a (l++[(e,n,p)]) (e+n):=by
 induction h with
 |nil=>exact .cons hn so (.nil _)
 |cons h so' r ih=>exact .cons h so' (ih so)
def Runs.split(h:Runs ρ arr a (l1++l2) e):∃m,Runs ρ arr a l1 m/\Runs ρ arr m l2 e:=by
 induction l1 generalizing a with
 |nil=>exact⟨a,.nil _,h⟩
 |cons x l1 ih=>
  cases h with
  |cons h so r=>
   obtain⟨m,h1,h2⟩:=ih r;exact⟨m,.cons h so h1,h2⟩
def Runs.app(h:Runs ρ arr a l1 m)(g:Runs ρ arr m l2 e):Runs ρ arr a (l1++l2) e:=by
 induction h with
 |nil=>exact g
 |cons h so r ih=>exact .cons h so (ih g)
def Runs.pw{x p p':Nat}(h:Runs ρ arr a (l1++(x,n,p)::l2) e):Runs ρ arr a (l1++(x,n,p')::l2) e:=by
 obtain⟨m,h1,h2⟩:=h.split;cases h2 with
 |cons h so r=>exact h1.app (.cons h so r)
def Runs.merge{x p y k:Nat}(h:Runs ρ arr a (l1++(x,n,p)::(y,k,q)::l2) e)(g:Mg ρ arr arr' x (y+k)):Runs ρ arr' a (l1++(x,n+k,p)::l2) e:=by
 obtain⟨m,h1,h2⟩:=h.split;cases h2 with
 |cons hn so r=>
  cases r with
  |cons hk so' r=>
   have l1':=h1.le;have l2':=r.le;refine(h1.congr λi h1 h2=>g.out i (.inl h2)).app (.cons (by omega) ?_ ?_)
   .have:=g.so
    rwa [show x+(n+k)=x+n+k by omega]
   .rw[show x+(n+k)=x+n+k by omega]
    exact r.congr λi h1 h2=>g.out i (.inr h1)
def Runs.two{x p y k:Nat}(h:Runs ρ arr a (l1++(x,n,p)::(y,k,q)::l2) e):x+n=y/\0<n/\0<k/\y+k<=e/\mU ρ arr x y/\mU ρ arr y (y+k):=by
 obtain⟨m,h1,h2⟩:=h.split;cases h2 with
 |cons hn so r=>
  cases r with
  |cons hk so' r=>exact⟨rfl,hn,hk,by have:=r.le;omega,so,so'⟩
end
def aTk(p:Array α)(i:Nat)(v x y:α)(h1:p[i]?=some x)(h2:p[i+1]?=some y):∃l1 l2,p.toList=l1++x::y::l2/\((p.setIfInBounds i v).eraseIdxIfInBounds (i+1)).toList=l1++v::l2:=by
 have s2:i+1<p.size:=by
  rcases bOl (i+1) p.size with h|h
  .exact h
  .rw[Array.getElem?_eq_none h]at h2;cases h2
 have e1:p.toList[i]'(by simp;omega)=x:=by
  have:=h1;rw[<-bJl,bIj (by simp;omega)]at this
  exact bJ3 this
 have e2:p.toList[i+1]'(by simpa using s2)=y:=by
  have:=h2;rw[<-bJl,bIj (by simpa using s2)]at this
  exact bJ3 this
 have d:p.toList=p.toList.take i++x::y::p.toList.drop (i+2):=by
  rw[<-e1,<-e2,<-bKd (by simpa using s2),<-drop_eq_getElem_cons (by simp;omega),bMe]
 refine⟨p.toList.take i,p.toList.drop (i+2),d,?_⟩;have hl:(p.toList.take i).length=i:=by simp;omega
 rw[Array.eraseIdxIfInBounds,dif_pos (by rw[bLt];exact s2),Array.toList_eraseIdx,Array.toList_setIfInBounds]
 generalize p.toList.take i=l1 at d hl;generalize p.toList.drop (i+2)=l2 at d;rw[d,List.set_append,bIt (by omega),hl,bOr,List.set_cons_zero,List.eraseIdx_append_of_length_le (by omega),hl,show i+1-i=1 by omega]
 rfl
section
variable{prog:Program}{w:World}{A:Around}{E:Value->Shared->Prop}{s:Shared}{ρ:Keyed->Int}{P:Keyed->Prop}{κ:SortKind}{a0:Array Keyed}{st:SortSt}{lo:Nat}
structure RI(ρ:Keyed->Int)(κ:SortKind)(a0:Array Keyed)(st:SortSt)(lo:Nat):Prop where
 pm:(arrOf st).toList.Perm a0.toList
 kind:kindOf st=κ
 fail:failedOf st=none
 runs:Runs ρ (arrOf st) 0 (pendingOf st).toList lo
 le:lo<=a0.size
theorem RI.size(r:RI ρ κ a0 st lo):(arrOf st).size=a0.size:=by
 have:=r.pm.length_eq
 rwa [bJ4,bJ4]at this
def aPj(K:Ask prog w A E s ρ P κ)(hP:∀x∈a0.toList,P x)(r:RI ρ κ a0 st lo){i:Nat}(hi:i+1<(pendingOf st).size){Q:Bool->SortSt->Prop}(h:∀st',RI ρ κ a0 st' lo->(pendingOf st').size+1=(pendingOf st).size->(∀i,lo<=i->atK (arrOf st') i=atK (arrOf st) i)->Q true st'):wpS (model prog w) A E s (mergeAt' i) Q st:=by
 obtain⟨⟨sa,na,pw⟩,p1⟩:∃x,(pendingOf st)[i]?=some x:=⟨_,bLf _ i (by omega)⟩
 obtain⟨⟨sb,nb,pw2⟩,p2⟩:∃x,(pendingOf st)[i+1]?=some x:=⟨_,bLf _ (i+1) hi⟩;obtain⟨l1,l2,d1,d2⟩:=aTk (pendingOf st) i (sa,na+nb,pw) _ _ p1 p2;have ru:=r.runs;rw[d1]at ru;obtain⟨e,n1,n2,hle,s1,s2⟩:=ru.two;have:=r.size;have:=r.le;refine aNb K r.kind (λx hx=>hP x (r.pm.mem_iff.mp hx)) p1 p2 e (by omega) n1 n2 s1 s2 r.fail λst' k' f' q' m'=>h st' ⟨m'.pm.trans r.pm,k',f',?_,r.le⟩ ?_ λi hi=>m'.out i (.inr (by omega))
 .rw[q',d2];exact ru.merge m'
 .rw[q',<-bJ4,<-bJ4 (xs:=pendingOf st),d2,d1];simp;omega
theorem RI.push(r:RI ρ κ a0 st lo){n p:Nat}(hn:0<n)(hl:lo+n<=a0.size)(so:mU ρ (arrOf st) lo (lo+n)):RI ρ κ a0 (setPending st ((pendingOf st).push (lo,n,p))) (lo+n):=
 ⟨r.pm,r.kind,r.fail,by
  show Runs ρ (arrOf st) 0 ((pendingOf st).push (lo,n,p)).toList (lo+n);rw[toList_push];exact r.runs.snoc hn so,hl⟩
def RI.keep(r:RI ρ κ a0 st lo){st':SortSt} (k:Kp st st' lo hi):RI ρ κ a0 st' lo:=
 ⟨k.pm.trans r.pm,k.kind.trans r.kind,k.fail.trans r.fail,by
  rw[k.pend];exact r.runs.congr λi h1 h2=>k.out i (.inl h2),r.le⟩
def RI.mod(r:RI ρ κ a0 st lo)(p:Nat):RI ρ κ a0 (setPending st ((pendingOf st).modify ((pendingOf st).size-1) λx=>(x.1,x.2.1,p))) lo:=by
 refine⟨r.pm,r.kind,r.fail,?_,r.le⟩;show Runs ρ (arrOf st) 0 ((pendingOf st).modify ((pendingOf st).size-1) λx=>(x.1,x.2.1,p)).toList lo
 rw[Array.toList_modify];have ru:=r.runs;rcases bLc (pendingOf st).toList with e|⟨l,⟨x,n,q⟩,e⟩
 .rw[e]at ru ⊢;rw[List.modify_nil];exact ru
 .have hs:(pendingOf st).size-1=l.length:=by
   rw[<-bJ4,e];simp
  rw[hs];rw[e,bLd]at ru ⊢;have m:∀(l:List (Nat×Nat×Nat)) (y:Nat×Nat×Nat) (f:Nat×Nat×Nat->Nat×Nat×Nat),(l++[y]).modify l.length f=l++[f y]:=λl y f=>by
   induction l with
   |nil=>rfl
   |cons z l ih=>rw[bM6,bJ7,List.modify_succ_cons,ih];rfl
  rw[m];exact ru.pw
def aXv(K:Ask prog w A E s ρ P κ)(hk:kindOf st=κ)(hP:∀x∈(arrOf st).toList,P x)(hf:failedOf st=none)(hp:pendingOf st = #[]){Q:Unit->SortSt->Prop}
  (h:∀st',(arrOf st').toList.Perm (arrOf st).toList->failedOf st'=none->mU ρ (arrOf st') 0 (arrOf st).size->Q () st'):wpS (model prog w) A E s sortRuns' Q st:=by
 have r0:RI ρ κ (arrOf st) st 0:=⟨.refl _,hk,hf,by rw[hp];exact .nil _,bK6 _⟩
 rw[sortRuns'_eq];refine bJ0 (bMr ?_);dsimp only;generalize ha:arrOf st=a0 at hP h r0;generalize minRun' a0.size a0.size 0=mr;refine bJ0 (bKq (bJz (I:=λx c st'=>∃lo,c=(none,lo)/\x<=lo/\RI ρ κ a0 st' lo)
  (Q:=λc st'=>c=(none,a0.size)/\RI ρ κ a0 st' a0.size) ?step ?fin ⟨0,rfl,bIn _,r0⟩) ?post)
 case fin=>
  rintro c st' ⟨lo,rfl,h1,r⟩;have:=r.le;have:lo=a0.size:=by omega
  subst this;exact⟨rfl,r⟩
 case step=>
  rintro x c st' _ hx ⟨lo,rfl,h1,r⟩;dsimp only;have hle:=r.le;refine bL (λhge=>?_) λhge=>?_
  .have:lo=a0.size:=by omega
   subst this;exact bIz ⟨rfl,r⟩
  .refine bJ0 (bB5 K r.kind (λy hy=>hP y (r.pm.mem_iff.mp hy)) (by omega) (by rw[r.size];omega) λn st2 n1 m2 kp so2=>?_)
   have r2:=r.keep kp;have n2:lo+n<=a0.size:=by omega
   dsimp only;refine bL (λhlt=>?_) λhlt=>?_
   rotate_left
   rotate_right
   .refine bJ0 (bNn (bKy ⟨rfl,?_⟩));refine bJ0 (bB4 K r2.kind (λy hy=>hP y (r2.pm.mem_iff.mp hy)) (by rw[r2.size];omega) n1 (by omega) so2 λst2 kp2 so2=>?_)
    have r2:=r2.keep kp2;have n1:1<=min (a0.size-lo) mr:=by omega
    have n2:lo+min (a0.size-lo) mr<=a0.size:=by omega
    generalize min (a0.size-lo) mr=n at so2 n1 n2;refine bL (λz=>absurd z (by decide)) λ_=>?_
    refine bJ0 (bMr ?_);cases hb:(pendingOf st2).back? with
    |none=>exact bJ0 (bKe (bIz ⟨lo+n,rfl,by omega,r2.push (by omega) n2 so2⟩))
    |some t=>
     obtain⟨s1,n1',pw⟩:=t;dsimp only;refine bJ0 (bKq (bJz (I:=λ_ c st3=>c=(none,())/\RI ρ κ a0 st3 lo/\∀i,lo<=i->atK (arrOf st3) i=atK (arrOf st2) i) (Q:=λc st3=>c=(none,())/\RI ρ κ a0 st3 lo/\∀i,lo<=i->atK (arrOf st3) i=atK (arrOf st2) i) ?_ (λ_ _ z=>z) ⟨rfl,r2,λ_ _=>rfl⟩) ?_)
     .rintro y c st3 _ _ ⟨rfl,r3,o3⟩;refine bJ0 (bMr ?_)
      by_cases hs:(pendingOf st3).size>1
      .rw[bIv hs,bLf (pendingOf st3) ((pendingOf st3).size-2) (by omega)]
       generalize (pendingOf st3)[(pendingOf st3).size-2]=t;obtain⟨t1,t2,t3⟩:=t;refine bL (λ_=>bIz ⟨rfl,r3,o3⟩) λ_=>?_
       refine bJ0 (aPj K hP r3 (by omega) λst4 r4 _ o4=>?_)
       refine bL (λz=>absurd z (by decide)) λ_=>bIz ⟨rfl,r4,λi hi=>(o4 i hi).trans (o3 i hi)⟩
      .rw[bIt hs];exact bIz ⟨rfl,r3,o3⟩
     .rintro c st3 ⟨rfl,r3,o3⟩;refine bJ0 (bKe (bJ0 (bKe (bIz ⟨lo+n,rfl,by omega,(r3.mod _).push (by omega) n2 λi j h1 h2 h3=>?_⟩))))
      show ρ (atK (arrOf st3) i)<=ρ (atK (arrOf st3) j);rw[o3 i h1,o3 j (by omega)]
      exact so2 i j h1 h2 h3
   .refine bJ0 (bMr ?_);cases hb:(pendingOf st2).back? with
    |none=>exact bJ0 (bKe (bIz ⟨lo+n,rfl,by omega,r2.push (by omega) n2 so2⟩))
    |some t=>
     obtain⟨s1,n1',pw⟩:=t;dsimp only;refine bJ0 (bKq (bJz (I:=λ_ c st3=>c=(none,())/\RI ρ κ a0 st3 lo/\∀i,lo<=i->atK (arrOf st3) i=atK (arrOf st2) i) (Q:=λc st3=>c=(none,())/\RI ρ κ a0 st3 lo/\∀i,lo<=i->atK (arrOf st3) i=atK (arrOf st2) i) ?_ (λ_ _ z=>z) ⟨rfl,r2,λ_ _=>rfl⟩) ?_)
     .rintro y c st3 _ _ ⟨rfl,r3,o3⟩;refine bJ0 (bMr ?_)
      by_cases hs:(pendingOf st3).size>1
      .rw[bIv hs,bLf (pendingOf st3) ((pendingOf st3).size-2) (by omega)]
       generalize (pendingOf st3)[(pendingOf st3).size-2]=t;obtain⟨t1,t2,t3⟩:=t;refine bL (λ_=>bIz ⟨rfl,r3,o3⟩) λ_=>?_
       refine bJ0 (aPj K hP r3 (by omega) λst4 r4 _ o4=>?_)
       refine bL (λz=>absurd z (by decide)) λ_=>bIz ⟨rfl,r4,λi hi=>(o4 i hi).trans (o3 i hi)⟩
      .rw[bIt hs];exact bIz ⟨rfl,r3,o3⟩
     .rintro c st3 ⟨rfl,r3,o3⟩;refine bJ0 (bKe (bJ0 (bKe (bIz ⟨lo+n,rfl,by omega,(r3.mod _).push (by omega) n2 λi j h1 h2 h3=>?_⟩))))
      show ρ (atK (arrOf st3) i)<=ρ (atK (arrOf st3) j);rw[o3 i h1,o3 j (by omega)]
      exact so2 i j h1 h2 h3
 case post=>
  rintro c st' ⟨rfl,r⟩;dsimp only;refine bJ0 (bKq (bJz (I:=λx c st''=>c=(none,())/\RI ρ κ a0 st'' a0.size/\(pendingOf st'').size+x<=a0.size+1) (Q:=λc st''=>c=(none,())/\RI ρ κ a0 st'' a0.size/\(pendingOf st'').size<=1) ?_ ?_ ?_) ?_)
  .rintro x c st'' _ hx ⟨rfl,r,hz⟩;refine bJ0 (bMr ?_);refine bL (λhge=>bIz ⟨rfl,r,hge⟩) λhge=>?_
   refine bJ0 (aPj K hP r ?_ λst3 r3 hs _=>?_)
   .repeat' split
    all_goals omega
   .refine bL (λz=>absurd z (by decide)) λ_=>?_
    exact bIz ⟨rfl,r3,by omega⟩
  .rintro c st'' ⟨hc,r,hz⟩;exact⟨hc,r,by omega⟩
  .refine⟨rfl,r,?_⟩;have:=r.runs.le;rw[bJ4]at this;omega
  .rintro c st'' ⟨rfl,r,hz⟩;refine bIz (h _ r.pm r.fail ?_);have ru:=r.runs;have hl:(pendingOf st'').toList.length<=1:=by rw[bJ4];exact hz
   generalize (pendingOf st'').toList=l at ru hl;generalize a0.size=N at ru ⊢;cases ru with
   |nil=>intro i j a b c;omega
   |cons hn so r=>
    cases r with
    |nil=>rw[bN3]at so ⊢; exact so
    |cons _ _ _=>simp at hl
end
end Pu
namespace Pu
open PySem PySem.Spec PyProof.Rows L2
section
variable {A:Around}
def bB6:Ask prog w A E s (λx=>numOf x.1) (λx=>∃n t,x.1=.int n t) oneType':=by
 rintro⟨x,x'⟩ ⟨y,y'⟩ Q st ⟨n,t,hx⟩ ⟨m,u,hy⟩ hk h;dsimp only at hx hy;subst hx hy;rw[lt'_eq];refine bJ0 (bMr ?_);rw[hk,keyLt'_oneType];refine bJ0 (bNn (bNk (oneLt_int ⟨rfl,?_⟩)));exact bIz h
def bH5{a kS:Addr}{e1:Nat}{keys:Array Value}{vs:List Value}{kz:List Int}{R:PySem.Fin->Shared->Prop}(hk:IntsAre keys.toList kz)(hlen:kz.length=vs.length)
  (h:∀st:SortSt,(arrOf st).toList.Perm (keys.toList.zip vs)->(arrOf st).toList.Pairwise (λx y=>numOf x.1<=numOf y.1)->failedOf st=none->wpAny (model prog w) A (ksk_tail a false e1 (.ref kS) st) R E s):wpAny (model prog w) A (ksk_end a false vs.toArray e1 (.ref kS) keys) R E s:=by
 have hsz:keys.size=vs.length:=by
  have h1:=hk.length;rw[bJ4]at h1;omega
 unfold ksk_end;dsimp only;rw[bIt bJn]
 by_cases h2:vs.toArray.size<2
 .rw[bIv h2,bIv h2];refine bIh (bIx ?_);rw[StateT.run_pure];refine bIh (bIx ?_);refine h (SortSt.mk' general' (keys.zip vs.toArray) #[] 7 none) (by show (keys.zip vs.toArray).toList.Perm _;rw[ksk_zip]) ?_ rfl
  show (keys.zip vs.toArray).toList.Pairwise _;rw[ksk_zip];have hl:(keys.toList.zip vs).length<2:=by
   rw[List.length_zip];rw[bJ6]at h2;omega
  generalize keys.toList.zip vs=z at hl;cases z with
  |nil=>exact .nil
  |cons x z=>cases z with
   |nil=>exact List.pairwise_singleton _ _
   |cons y z=>exact absurd hl (by rw[bJ7,bJ7];omega)
 .rw[bIt h2,bIt h2];rw[bJ6]at h2;rw[ksk_kind hk (by rw[hsz];omega)]
  refine bIh (bIx ?_);refine bIh (bKf (aXv (st:=SortSt.mk' oneType' (keys.zip vs.toArray) #[] 7 none) (Q:=λ_ st'=>(arrOf st').toList.Perm (keys.zip vs.toArray).toList/\failedOf st'=none/\mU (λx=>numOf x.1) (arrOf st') 0 (keys.zip vs.toArray).size) bB6 rfl ?_ rfl rfl λst' a1 a2 a3=>⟨a1,a2,a3⟩) ?_ λ_ _ e=>e)
  .exact λx hx=>ksk_intKeys hk x hx
  .rintro⟨⟨⟩,st'⟩ s' ⟨rfl,hp,hf,hs⟩;have hp':(arrOf st').toList.Perm (keys.toList.zip vs):=by rw[<-ksk_zip];exact hp
   have sz:(arrOf st').size=(keys.zip vs.toArray).size:=by
    have:=hp.length_eq
    rwa [bJ4,bJ4]at this
   refine h st' hp' ?_ hf;rw[bKs];intro i j hi hj hij;rw[bJ4]at hi hj;have q:=hs i j (bK6 _) (by omega) (by omega)
   have e1:=lL hi;have e2:=lL hj;rw[<-bJl,bIj (by rw[bJ4];exact hi)]at e1
   rw[<-bJl,bIj (by rw[bJ4];exact hj)]at e2
   rw[bJ3 e1,bJ3 e2];exact q
end
section
variable {σ:L2.St}
def bEk{k:Nat} {u:Value} {Q:VK} (F:FnOk X.prog X.w X.K X.mg X.base CX0 k fa fd ps (spI X.K np p)) (hr:Room (k+2) X.A) (hb:Binds X.K fd ps []) (I:Inv X pins σ H s) (r:RelV v u) (h:spI X.K np p [v] H Q E0) :
  wpAny (model X.prog X.w) X.A.in1.in1 (call (.ref fa) [u]) (EP X pins σ Q) (λ_ _=>False) s:=by
 have r2:Vals [v] [u]:=.cons r .nil;have hl:[u].length=ps.length:=by rw[<-r2.length];exact F.len _ _ _ _ h
 have hb':=hb s [u] I.kIn (by simpa using hl)
 rw[bKi]at hb';refine wpAny_call (bMx (F.run X.A.in1.in1 X.stack s H ⟨[u],[]⟩ [u] [v] Q E0 hr.in1.in1 I.env0.in1.in1 hb' r2 h) λr s' hq=>?_)
 cases r with
 |error e=>exact hq.elim
 |ok fl=>
  cases fl with
  |ret u=>exact I.after hq
  |next=>exact False.elim hq
  |brk=>exact False.elim hq
  |cont=>exact False.elim hq
end
theorem ints_of:∀{ns:List Int}{us:List Value},Vals (ns.map V.int) us->IntsAre us ns
 |[],_,h=>by rw[h.zero];exact .nil
 |n::ns,_,h=>by
  cases h with
  |cons r1 r2=>
   obtain⟨t,e⟩:=r1;subst e;exact .cons n t (ints_of r2)
theorem aRz:∀{us:List Value}{ns:List Int},IntsAre us ns->Vals (ns.map V.int) us
 |_,_,.nil=>.nil
 |_,_,.cons n t h=>.cons ⟨t,rfl⟩ (aRz h)
def bEl{g:Int->Int}{its ks:List Value}{ps:List Keyed}(hi:IntsAre its ns)(hk:IntsAre ks (ns.map g))(hp:ps.Perm (ks.zip its))(hs:ps.Pairwise λx y=>numOf x.1<=numOf y.1) :
  ∃out:List Int,out.Perm ns/\out.Pairwise (λx y=>g x<=g y)/\IntsAre (ps.map Prod.snd) out:=by
 have link:∀x∈ps,∃n t,x.2=.int n t/\numOf x.1=g n:=λx hx=>by
  have hx:=hp.mem_iff.mp hx;clear hp hs
  induction hi generalizing ks with
  |nil=>cases ks<;>cases hx
  |cons n t hi ih=>
   cases hk with
   |cons m u hk=>
    rw[bLu]at hx;rcases bIq.mp hx with rfl|hx
    .exact⟨_,t,rfl,rfl⟩
    .exact ih hk hx
 refine⟨ps.map λx=>numOf x.2,?_,?_,?_⟩
 .have h1:=hp.map λx:Keyed=>numOf x.2
  have e:(ks.zip its).map (λx:Keyed=>numOf x.2)=ns:=by
   have e2:(ks.zip its).map (λx:Keyed=>numOf x.2)=((ks.zip its).map Prod.snd).map numOf:=by rw[bK1];rfl
   rw[e2,List.map_snd_zip (by rw[hi.length,hk.length,bJ9];exact bIn _),hi.nums]
  rwa [e]at h1
 .rw[bO7];exact hs.imp_of_mem λ{x y} hx hy h=>by
   obtain⟨n,t,e1,e2⟩:=link x hx;obtain⟨m,u,e3,e4⟩:=link y hy;rw[e1,e3];show g n<=g m;omega
 .have:∀(l:List Keyed),(∀x∈l,∃n t,x.2=.int n t/\numOf x.1=g n)->IntsAre (l.map Prod.snd) (l.map λx=>numOf x.2):=λl hl=>by
   induction l with
   |nil=>exact .nil
   |cons x l ih=>
    obtain⟨n,t,e1,_⟩:=hl x bIm;rw[bJ5,bJ5,e1];exact .cons n t (ih λy hy=>hl y (bIl _ hy))
  exact this ps link
section
variable {σ:L2.St}
def aXw{k:Nat} (F:FnOk X.prog X.w X.K X.mg X.base CX0 k fa fd ps (spI X.K 1 p)) (hr:Room (k+2) X.A) (hb:Binds X.K fd ps []) (I:Inv X pins σ H s) {l:Addr} {ns:List Int} (hl:SqL X.K H l (ns.map V.int)) {g:Int->Int} (hg:∀n∈ns,p [.int n]=.ok (.int (g n))) (hz:ns.length<=1000) {Q:VK}
  (h:∀(out:List Int)(D:Addr)(H':Hp),out.Perm ns->out.Pairwise (λx y=>g x<=g y)->bC H H'->H' D=none->Q (.ref D) (upd H' D (.lst (out.map V.int)))) :
  wpAny (model X.prog X.w) X.A (call (.builtin "sorted") [.ref l] [(Str.ofString "key",.ref fa)]) (EP X pins σ Q) X.xe s:=by
 obtain⟨its,rv,pl,_⟩:=I.list hl;have hI:=ints_of rv;have hln:its.length=ns.length:=hI.length;have big':its.length<=sizeLine:=by rw[bKk];omega
 refine call_function_entry_kw kind_sorted plain_sorted entry_sorted (ksk_s1 _ _) ?_
 unfold Builtin.«sorted»;refine bIh (m:=checkCount "sorted" 1 1 _) (bIx ?_);refine bIh (collect_list pl.isList ?_ big');refine bIh (wpAny_newList ?_ big');have kA:∀b o,s.heap.get? b=some o->((s.heap.push (seqObj "list" #[] 0)).update s.heap.objs.size (Obj.mapSeq (· ++ its.toArray))).get? b=some o:=λb o e=>by
  rw[bMs _ _ _ _ (bJm (bJ2 e))];exact bIi _ e
 have szA:s.heap.objs.size<((s.heap.push (seqObj "list" #[] 0)).update s.heap.objs.size (Obj.mapSeq (· ++ its.toArray))).objs.size:=by rw[Heap.size_update,bJt];exact bL3 _
 have IA:Inv X pins σ H {s with heap:=(s.heap.push (seqObj "list" #[] 0)).update s.heap.objs.size (Obj.mapSeq (· ++ its.toArray))}:=I.kept (t':=s.toks) kA
 generalize (s.heap.push (seqObj "list" #[] 0)).update s.heap.objs.size (Obj.mapSeq (· ++ its.toArray))=hA at kA szA IA;have ho:(hA.push (seqObj "list" its.toArray 0)).get? hA.objs.size=some (seqObj "list" its.toArray 0):=bIy _ rfl;refine bIh (bK7 (wpAny_call_entry_kw slot_list_sort ⟨_,ho,rfl⟩ entry_list_sort ?body (ksk_l1 _ _)));show wpAny (model X.prog X.w) X.A.in1.in1 (Builtin.«list.sort» ⟨[.ref hA.objs.size],[(Str.ofString "key",.ref fa)]⟩) _ _ _;rw[ksk_t1];unfold ksk_tree;refine bIh (listItems_at ho rfl ?_);refine bIh (bNp ho rfl ?_ (by rw[bJ6];exact big') (bK6 _))
 obtain⟨e1,ho1⟩:∃e1,((hA.push (seqObj "list" its.toArray 0)).update hA.objs.size (Obj.mapSeq λ_=>(#[]:Array Value))).get? hA.objs.size=some (seqObj "list" #[] e1):=⟨_,get?_update_seq ho λ_ => #[]⟩
 have kC:∀b o,hA.get? b=some o->((hA.push (seqObj "list" its.toArray 0)).update hA.objs.size (Obj.mapSeq λ_=>(#[]:Array Value))).get? b=some o:=λb o e=>by
  rw[bMs _ _ _ _ (bJm (bJ2 e))];exact bIi _ e
 have szC:((hA.push (seqObj "list" its.toArray 0)).update hA.objs.size (Obj.mapSeq λ_=>(#[]:Array Value))).objs.size=hA.objs.size+1:=by rw[Heap.size_update,bJt]
 generalize (hA.push (seqObj "list" its.toArray 0)).update hA.objs.size (Obj.mapSeq λ_=>(#[]:Array Value))=hC at ho1 kC szC
 refine bIh (seqEpoch_at ho1 rfl ?_);refine bIh (wpAny_newTuple ?_ (by show its.length<=_;exact big'))
 refine bIh (wpAny_newList ?_ (bK6 _));refine bK7 ?_
 have szT:(hC.push {cls:=.type "tuple",data:=.seq its.toArray}).objs.size=hA.objs.size+2:=by rw[bJt,szC]
 have kT:∀b o,hC.get? b=some o->(hC.push {cls:=.type "tuple",data:=.seq its.toArray}).get? b=some o:=λb o e=>bIi _ e
 generalize hC.push {cls:=.type "tuple",data:=.seq its.toArray}=hT at szT kT;have hDH:H hA.objs.size=none:=IA.hok.fresh (bIn _);have hkH:H hT.objs.size=none:=IA.hok.fresh (by rw[szT];exact bN0 _ _)
 have hkD:hT.objs.size≠hA.objs.size:=by rw[szT];omega
 have IE:Inv X pins σ (upd H hT.objs.size (.lst [])) {s with heap:=hT.push {cls:=.type "list",data:=.seq #[]} }:=IA.laid (t':=s.toks) (λb o e=>bIi _ (kT b o (kC b o e))) (by rw[szT];exact bN0 _ _) ⟨bK6 _,[],0,.nil,bIy _ rfl⟩
 have hDn:s.heap.get? hA.objs.size=none:=by
  cases e:s.heap.get? hA.objs.size with
  |none=>rfl
  |some o=>exact absurd (bJ2 e) (Nat.not_lt.mpr (bM8 szA))
 have IP:Inv X (pins++[(hA.objs.size,seqObj "list" #[] e1)]) σ (upd H hT.objs.size (.lst [])) {s with heap:=hT.push {cls:=.type "list",data:=.seq #[]} }:=IE.pins_of λq hq=>by
  rcases bJb.mp hq with hq|hq
  .exact IE.pin q (bIo _ hq)
  .rw[bIu.mp hq];refine⟨bIi _ (kT _ _ ho1),by rw[aY hkD.symm];exact hDH,λz=>?_,I.nofs (bM8 szA),λv z=>by cases z⟩
   obtain⟨m,⟨o,es,ep,ho',_⟩,_⟩:=I.loc;rw[<-show hA.objs.size=X.env.locals from z,hDn]at ho'
   cases ho'
 unfold ksk_rest;refine bIh (bKy ?_);rw[List.forIn_toArray];refine bIh (ksk_fold (λi s'=>∃H',Inv X (pins++[(hA.objs.size,seqObj "list" #[] e1)]) σ H' s'/\bC H H'/\H' hT.objs.size=some (.lst (((ns.map g).take i).map V.int))) its 0 _ ⟨_,IP,λb o e=>by rw[aY (aX e hkH)];exact e,bJ⟩ ?step ?done)
 case step=>
  rintro j x s' hx ⟨H',I',sm,hK⟩;rw[bN3]at hK ⊢;have hj:j<ns.length:=by rw[<-hln];exact(bIk.mp hx).1
  obtain⟨t,hxt⟩:∃t,x=.int ns[j] t:=by
   have q:=rv.get (i:=j) (x:=V.int ns[j]) (by rw[bK3,bIj hj];rfl)
   obtain⟨u,hu,t,e⟩:=q;rw[hx]at hu;cases hu;exact⟨t,e⟩
  refine bIh (bNk (bKf (bEk F hr hb I' (v:=V.int ns[j]) ⟨t,hxt⟩ ⟨[],[.int ns[j]],.int (g ns[j]),λb hb=>absurd hb (by simp),.cons (bH.mpr rfl) .nil,rfl,hg _ (bJr _),λv H2 s2 r2=>(⟨bH.mp r2,s2⟩:v=V.int (g ns[j])/\bC H' H2)⟩) (λu s2 he=>?_) λ_ _ z=>z.elim))
  obtain⟨v,H2,I2,rv2,ev,sm2⟩:=he;subst ev;dsimp only;have hK2:=sm2 _ _ hK;obtain⟨z2,its2,n2,r2,l2,o2⟩:=I2.lstM hK2;have ll:its2.length=j:=by
   rw[<-l2];simp;omega
  refine bIh (bNp o2 rfl ?_ (by rw[bJ6,ll,bKk];omega) (by rw[Array.size_push,bJ6,ll,bKk];omega))
  have ek:((ns.map g).take (j+1)).map V.int=((ns.map g).take j).map V.int++[V.int (g ns[j])]:=by
   rw[List.take_add_one,bK3,bIj hj];simp
  refine bIx ⟨rfl,upd H2 hT.objs.size (.lst (((ns.map g).take (j+1)).map V.int)),?_,λb o e=>?_,bJ⟩
  .rw[ek];exact I2.lset (t':=s2.toks) (its':=its2++[u]) hK2 o2 (by simp) (r2.append (.cons rv2 .nil)) (by simp;rw[bKk];omega)
  .rw[aY (aX e hkH)];exact sm2 _ _ (sm _ _ e)
 case done=>
  rintro s' ⟨H',I',sm,hK⟩;rw[bN3,hln,bLi (by rw[bJ9];exact bIn _)]at hK
  obtain⟨z2,ks,n2,r2,l2,o2⟩:=I'.lstM hK;have hk:=ints_of r2;refine bIh (listItems_at o2 rfl ?_);refine bH5 (by simpa using hk) (by rw[length_map,hln]) λst a1 a2 a3=>?_
  obtain⟨out,b1,b2,b3⟩:=bEl hI (ks:=ks) hk (by simpa using a1) a2
  have oD:=(I'.pin (hA.objs.size,seqObj "list" #[] e1) (bIo _ (bIo _ (bIu.mpr rfl)))).1;have hD':H' hA.objs.size=none:=(I'.pin (hA.objs.size,seqObj "list" #[] e1) (bIo _ (bIo _ (bIu.mpr rfl)))).2.1;have lenO:((arrOf st).map (·.2)).size=ns.length:=by
   rw[Array.size_map,<-bJ4,<-b1.length_eq];have:=b3.length;rw[bJ9]at this;omega
  unfold ksk_tail;dsimp only;refine bIh (bNp o2 rfl ?_ (by rw[bJ6,<-l2];exact z2) (bK6 _))
  have I3:=(I'.lset (t':=s'.toks) (f:=λ_ => #[]) (its':=[]) (ys:=[]) hK o2 rfl .nil (bK6 _)).unpinned
  have oD3:(s'.heap.update hT.objs.size (Obj.mapSeq λ_=>(#[]:Array Value))).get? hA.objs.size=some (seqObj "list" #[] e1):=by
   rw[bMs _ _ _ _ hkD.symm];exact oD
  have I4:=bAq (u:=.lst []) I3 I hDn (by rw[aY hkD.symm];exact hD') ⟨bK6 _,[],e1,.nil,oD3⟩
  refine bIh (bLr ?_);refine bIh (seqEpoch_at oD3 rfl ?_);refine bIh (bNp oD3 rfl ?_ (bK6 _) (by show (if false=true then _ else (arrOf st).map (·.2)).size<=_;rw[bIt bJn,lenO,bKk];omega))
  rw[a3];simp only[bne_self_eq_false,false_eq_true,if_false];refine bIx ⟨_,rfl,?_⟩;have I5:=I4.lset (t':=s'.toks) (f:=λ_=>(arrOf st).map (·.2)) (its':=(arrOf st).toList.map Prod.snd) (ys:=out.map V.int) bJ oD3 (by rw[<-Array.toList_map]) (aRz b3) (by rw[bJ9,b1.length_eq,bKk];omega)
  rw[aYa]at I5;refine bIx ⟨_,rfl,V.ref hA.objs.size,_,I5,rfl,h out _ _ b1 b2 (λb o e=>?_) ?_⟩
  .rw[aY (aX e hkH)];exact sm _ _ e
  .rw[aY hkD.symm];exact hD'
end
def aXx{ss:List Stmt}:PSs X ss (tS X.K B qQ):=by
 intro pins s σ H Dn I h;obtain⟨A,st,r,_,hr,_⟩:=h;cases hr
section
variable {σ:L2.St}
def Inv.word(I:Inv X pins σ H s){a:Addr}{o':HO}(h:H a=some o)(h0:∀b,o≠.own b)(h1:∀xs,o≠.tup xs)(n1:∀xs,X.H₀ a≠some (.tup xs))(n2:∀q u,X.H₀ a≠some (.frz q u))(n3:∀ps,X.H₀ a≠some (.tbl ps))(hn:iU X.prog X.w (upd H a o') s.heap a o'):Inv X pins σ (upd H a o') s:=by
 have ne:∀b,H b=none->b≠a:=λb e z=>by rw[z,h]at e;cases e
 have ups:∀{b:Addr}{u:Option HO},b≠a->H b=u->upd H a o' b=u:=λhb e=>by rw[aY hb];exact e
 refine⟨I.ok,I.os,I.bare,⟨I.base.keep,I.base.slot,λb o e n hx=>?_,I.base.there,λb xs e=>?_,λb q u e=>?_,λb ps e=>?_⟩,I.loc,I.cell,ups (ne _ I.free) I.free,λx c e=>ups (ne _ (I.freeC x c e)) (I.freeC x c e),λp hp=>?_,λb u e=>?_,I.len⟩
 .have:=I.base.free b o e n hx;exact ups (ne _ this) this
 .exact ups (λz=>n1 xs (z ▸ e)) (I.base.tups b xs e)
 .exact ups (λz=>n2 q u (z ▸ e)) (I.base.frzs b q u e)
 .obtain⟨m,e1⟩:=I.base.tbls b ps e;exact⟨m,ups (λz=>n3 ps (z ▸ e)) e1⟩
 .obtain⟨p1,p2,p3⟩:=I.pin p hp;exact⟨p1,ups (ne _ p2) p2,p3⟩
 .by_cases hb:b=a
  .subst hb;rw[bJ]at e;cases e;exact hn
  .rw[aY hb]at e;refine(I.hok b u e).stay (λc v _ q=>q) (λc q=>ups (λz=>?_) q) λc xs q=>ups (λz=>?_) q
   .rw[z,h]at q;exact h0 b (bJ3 q)
   .rw[z,h]at q;exact h1 xs (bJ3 q)
end
def ItD(a:Addr)(ob:Obj)(kvs:List (Key×V)):It:=
 ⟨λi H=>H a=some (.frz ob (.dK kvs))/\i<kvs.length,λi H x H'=>H'=H/\∃p,kvs[i]?=some p/\x=kV p.1,λi H=>H a=some (.frz ob (.dK kvs))/\kvs.length<=i⟩
def aS0{a:Addr}{h:Heap}{xs:List (Key×Value)} (hd:h.DictAt (dD P w) a xs ep) (e:h.get? a=some ob) (e':h'.get? a=some ob):h'.DictAt (dD P w) a xs ep:=by
 obtain⟨o,es,ho,r⟩:=hd;rw[e]at ho;cases ho;exact⟨ob,es,e',r⟩
def aTl{K:Frag} {a it:Addr} {xs:List (Key×Value)} (kv:KV kvs xs) (hd0:h0.DictAt (dD P w) a xs ep) (hob:h0.get? a=some ob):Turn P w K tg (ItD a ob kvs) [it] it (λi h=>h.IsKeyIter it a i xs.length ep) where
 mem:=by simp
 obj:=λi h st b hb=>by
  have e:b=it:=by simpa using hb
  subst e;obtain⟨o,e,c,d⟩:=st;exact⟨o,e,λv z=>by rw[d]at z;cases z⟩
 keep:=λi h h' st k=>st.at λo e=>k it (by simp) o e
 item:=by
  intro X hP hw hK hc i pins s σ H E I hf st hg;subst hP hw hK;obtain⟨hH,hi⟩:=hg;have hl:=aPf kv;obtain⟨f0,f1,f2,f3,f4,f5⟩:=hf it (by simp)
  have hd:=aS0 (P:=X.prog) (w:=X.w) hd0 hob (I.hok a _ hH).1;obtain⟨⟨k,x⟩,hx⟩:∃p,xs[i]?=some p:=⟨_,bIj (by omega)⟩
  refine wpAny_pyNext_dict_item st hd hx λkey h' hk st' sb=>?_
  have I1:Inv X pins σ H {s with heap:=h'}:=I.turned (t':=s.toks) (λb o hb e=>(sb.2 b hb).trans e) f0 f1 f3 f4 f5
  obtain⟨p,e1,e2,_⟩:=aKu kv hx;obtain⟨o,e,c,d⟩:=id st';exact⟨key,rfl,aLe (s:={s with heap:=h'}) e c d (by decide) ⟨kV p.1,H,I1,by rw[e2];exact aXh hk,⟨rfl,p,e1,rfl⟩,st',λb hb=>(hf b hb).1⟩⟩
 done:=by
  intro X hP hw hK hc i pins s σ H E I hf st hg;subst hP hw hK;obtain⟨hH,hi⟩:=hg;have hl:=aPf kv;obtain⟨f0,f1,f2,f3,f4,f5⟩:=hf it (by simp)
  have hd:=aS0 (P:=X.prog) (w:=X.w) hd0 hob (I.hok a _ hH).1;exact wpAny_pyNext_dict_end (I.ok.hd hc) st hd (bOa (by omega)) λh' eb=>⟨rfl,I.turned (t':=s.toks) (λb o hb e=>eb b o hb e) f0 f1 f3 f4 f5⟩
 self:=λ_ _ _ _ _ st h=>wpAny_pyIter_keyiter st h
def bId(te:TE):TI:=λσ H R=>te σ H λx H1=>∃a ob kvs,x=.ref a/\H1 a=some (.frz ob (.dK kvs))/\R (ItD a ob kvs) H1
def bEm(he:PE X e te):L2.PI X tg e (bId te):=by
 intro pins s σ H R I h;refine thn (he pins s σ H _ I h) λv s1 ⟨x,H1,I1,r1,q1⟩=>?_
 obtain⟨a,ob,kvs,e,hH,q⟩:=q1;subst e;cases r1;obtain⟨hob,hz,hs,xs,kv,hD⟩:=I1.hok a _ hH;obtain⟨ep,hat⟩:=hD.dictAt;refine wpAny_pyIter_dict hs hat ?_
 refine⟨s1.heap.objs.size,[s1.heap.objs.size],_,_,H1,rfl,I1.kept (t':=s1.toks) λb o e=>bIi _ e,aTl kv hat hob,⟨_,bIy _ rfl,rfl,rfl⟩,λb hb=>?_,q⟩
 have e:b=s1.heap.objs.size:=by simpa using hb
 subst e;exact I1.fpOk (bIn _) (I1.hok.fresh (bIn _))
section
variable{K:Frag} {st:PSt} {a:Addr}
def RS.dark(r:RS K B A H st σ){k:OK} (hi:st[i]?=some (some (.o k xs))) (hs:σ[i]?=some (some (.ref a))):RS K B A (upd H a o) (st.set i none) σ/\a∈A:=by
 obtain⟨a',o',vs,e1,m,h1,_,q,u⟩:=r.lst i k xs hi;rw[hs]at e1;cases e1;have hh:hide (A++B) (upd H a o)=hide (A++B) H:=mH (bIw _ m);have sl:∀{l:Nat}{x:Sl},(st.set i none)[l]?=some (some x)->i≠l/\st[l]?=some (some x):=λ{l x} e=>by
  rw[bIp]at e
  by_cases hil:i=l
  .rw[bIv hil]at e;split at e<;>cases e
  .rw[bIt hil]at e;exact⟨hil,e⟩
 refine⟨⟨by rw[bJy,r.len],λb hb=>?_,r.dis,λl d e=>?_,λl kl ys e=>?_⟩,m⟩
 .by_cases e:b=a
  .subst e;rw[bJ];rfl
  .rw[aY e];exact r.own b hb
 .rw[hh];exact r.val l d (sl e).2
 .obtain⟨hil,e'⟩:=sl e;obtain⟨c,oc,ws,c1,cm,ch,kc,cq,cu⟩:=r.lst l kl ys e';have hca:c≠a:=λz=>by subst z;exact hil (u l kl ys e' c1).symm
  exact⟨c,oc,ws,c1,cm,by rw[aY hca];exact ch,kc,by rw[hh];exact cq,λn kz zs ek ek2=>cu n kz zs (sl ek).2 ek2⟩
def RS.light(r:RS K B A H st σ) {u:HO} {k:OK} (hi:i<st.length) (hs:σ[i]?=some (some (.ref a))) (m:a∈A) (h1:H a=some (.frz ob u)) (ko:KOk K k a o vs) (hr:bD K (hide (A++B) H) ds vs):RS K B A (upd H a o) (st.set i (some (.o k ds))) σ:=by
 have hh:hide (A++B) (upd H a o)=hide (A++B) H:=mH (bIw _ m);have nf:∀{k:OK}{c:Addr}{o:HO}{ws:List V},KOk K k c o ws->H c=some o->c≠a:=λ{k c o ws} kc hc z=>by
  subst z;rw[h1]at hc;cases hc;cases k with
  |l=>cases kc
  |d t ks=>rcases kc with ⟨_,_,z,_⟩|⟨_,_,z,_⟩ <;> cases z
  |i n c ns=>obtain⟨_,_,_,_,z,_⟩:=kc;cases z
 refine⟨by rw[bJy,r.len],λb hb=>?_,r.dis,λl d e=>?_,λl kl ys e=>?_⟩
 .by_cases e:b=a
  .subst e;rw[bJ];rfl
  .rw[aY e];exact r.own b hb
 .rw[hh];rw[bIp]at e
  by_cases hil:i=l
  .rw[bIv hil]at e;split at e<;>simp at e
  .rw[bIt hil]at e;exact r.val l d e
 .have other:∀{l:Nat}{kl:OK}{ys:List D},i≠l->(st.set i (some (.o k ds)))[l]?=some (some (.o kl ys))->σ[l]?≠some (some (.ref a)):=λ{l kl ys} hil e z=>by
   rw[bIp,bIt hil]at e;obtain⟨c,oc,ws,c1,_,ch,kc,_⟩:=r.lst l kl ys e;rw[c1]at z;cases z;exact nf kc ch rfl
  by_cases hil:i=l
  .subst hil;rw[bIp,bIv rfl,bIv hi]at e;simp at e;obtain⟨e1,e2⟩:=e;subst e1 e2;exact⟨a,o,vs,hs,m,bJ,ko,by rw[hh];exact hr,λn kz zs ek ek2=>bJh λne=>other (λz=>ne z.symm) ek ek2⟩
  .have e':=e;rw[bIp,bIt hil]at e';obtain⟨c,oc,ws,c1,cm,ch,kc,cq,cu⟩:=r.lst l kl ys e';have hca:=nf kc ch;refine⟨c,oc,ws,c1,cm,by rw[aY hca];exact ch,kc,by rw[hh];exact cq,λn kz zs ek ek2=>?_⟩
   by_cases hin:i=n
   .subst hin;rw[hs]at ek2;cases ek2;exact absurd rfl hca
   .rw[bIp,bIt hin]at ek;exact cu n kz zs ek ek2
end
theorem aS1:∀{kvs:List (Key×V)} {n:Nat} {p:Key×V},(kvs.map (·.1)).Nodup->kvs[n]?=some p->xO kvs p.1=some p.2
 |[],_,_,_,e=>by simp at e
 |q::kvs,0,p,_,e=>by
  simp at e;subst e;simp[xO]
 |q::kvs,n+1,p,nd,e=>by
  rw[bJ5,bK2]at nd;have e':kvs[n]?=some p:=by simpa using e
  have ne:q.1≠p.1:=λz=>nd.1 (by rw[z];exact bJe.mpr ⟨p,bJd e',rfl⟩)
  have:=aS1 nd.2 e';unfold xO at this ⊢;rw[find?_cons,bIs ne];exact this
def aXy{a:Addr}{h:Heap} {xs:List (Key×Value)} (kv:KV kvs xs) (hd:h.DictOf (dD P w) a xs):(kvs.map (·.1)).Nodup:=by
 obtain⟨ep,hat⟩:=hd.dictAt;have e:kvs.map (·.1)=xs.map (·.1):=by
  have:∀{l:List (Key×V)} {m:List (Key×Value)},KV l m->l.map (·.1)=m.map (·.1):=λ{l m} r=>by
   unfold KV at r
   induction r with
   |nil=>rfl
   |cons h _ ih=>rw[bJ5,bJ5,h.1,ih]
  exact this kv
 rw[e];exact hat.nodup
section
variable {ce de:Expr} {c d:Ex} {pk p3 p4 p5 p6 p7 p8 p9 p10 p11 p12 p13 p14 p15 p16 p17:Pos}
def bB7{σ:LSt}{H:Hp}{st:PSt}{i j y:Nat}{a:Addr} {key:Key} {n:Int} {D:Ends} {tc td:TT} (htc:∀{σ H Q},tT X.K B c σ H Q->tc σ H Q) (htd:∀{σ H Q},tT X.K B d σ H Q->td σ H Q)
  (hiy:i≠y) (rs:RS X.K B A H st σ) (hi:σ[i]?=some (some (.ref a))) (hj:σ[j]?=some (some (kV key))) (ha:H a=some (.frz ob (.dK kvs))) (hk:xO kvs key=some (.int n)) (ht:aLm y c d n st=.ok s1)
  (hD:∀σ' H',bC H H'->RS X.K B A H' s1 σ'->s1.length=st.length->σ'[i]?=some (some (.ref a))->D.nx σ' H') :
  bCb (bC6 tc (bC6 (bBi (tOp (rI0 λi j=>.bl (decide (j<i))) (aIg (tM i) (tM j)) (L2.tC (V.int 0)))) td)) (bCf (tCB (λxs H Q=>∃i j,xs=[.int i,.int j]/\Q (.int (if j>i then j else i)) H) (aUd (tM y) (aUd (tOp (rI0 λi j=>.int (i+j)) (aIg (tM i) (tM j)) (L2.tC (V.int 1))) bFh))) (aU4 y)) aU2 D σ H:=by
 have get:∀{H':Hp}{Q:VK},bC H H'->Q (.int n) H'->aIg (tM i) (tM j) σ H' Q:=λ{H' Q} sm q=>⟨_,hi,_,hj,a,_,rfl,.inl ⟨kvs,key,.inr ⟨ob,sm _ _ ha⟩,rfl,hk.symm⟩,q⟩
 obtain⟨x,hx,h2⟩:=R.ok_of ht;obtain⟨b,rfl,h3⟩:=pP h2;refine htc ⟨A,st,b,rs,hx,λH1 sm1=>?_⟩
 cases b with
 |false=>
  rw[bIt (by simp)]at h3
  cases h3;exact hD σ H1 sm1 (rs.mono sm1) rfl hi
 |true=>
  rw[bIv rfl];refine get sm1 ⟨n,0,rfl,rfl,decide (0<n),rfl,?_⟩;dsimp only
  by_cases hn:0<n
  .rw[bIv (bIr hn)];rw[bIv ⟨rfl,hn⟩]at h3;obtain⟨x',hx',h4⟩:=R.ok_of h3;obtain⟨b',rfl,h5⟩:=pP h4;refine htd ⟨A,st,b',rs.mono sm1,hx',λH2 sm2=>?_⟩
   cases b' with
   |false=>
    rw[bIt (by simp)]at h5
    cases h5;exact hD σ H2 (sm1.trans sm2) (rs.mono (sm1.trans sm2)) rfl hi
   |true=>
    rw[bIv rfl]at h5;rw[bIv rfl];obtain⟨w,hw,h6⟩:=R.ok_of h5;obtain⟨m,rfl,h7⟩:=aB4 h6;cases h7;have ey:st[y]?=some (some (.v (.int m))):=by
     unfold aA at hw;split at hw
     .rename_i d' e;cases hw;exact e
     .cases hw
    obtain⟨v,e1,r1⟩:=rs.val y _ ey;have ev:=bH.mp r1;subst ev;refine⟨_,e1,get (sm1.trans sm2) ⟨n,1,rfl,rfl,m,n+1,rfl,?_⟩⟩;refine hD _ H2 (sm1.trans sm2) ((rs.mono (sm1.trans sm2)).set y (bH.mpr rfl)) (bJy ..) ?_
    rw[bIp,bIt (bL5 hiy)];exact hi
  .rw[bIt (by simpa using hn),if_neg Bool.false_ne_true]
   rw[bIt (λz=>hn z.2)]at h3
   cases h3;exact hD σ H1 sm1 (rs.mono sm1) rfl hi
def bEn(i j y:Nat){k yn:Str}{j0 j1:Nat}(hij:i≠j)(hiy:i≠y)(hu:X.A.units+64<cLine)(hp:PassesOwn (model X.prog X.w) X.A X.env X.xe)(hc:X.calm=true)(hm:X.mg "max"=none)(hce:PT X ce (tT X.K B c))(hde:PT X de (tT X.K B d))(hN:X.N.Nodup)
  (ni:X.N[i]?=some x:=by rfl) (nj:X.N[j]?=some k:=by rfl) (ny:X.N[y]?=some yn:=by rfl)
  (vi:Vis X.env.scope x:=by first|exact Or.inl rfl|exact Or.inr (Or.inl rfl)|exact Or.inr (Or.inr rfl)) (vj:Vis X.env.scope k:=by first|exact Or.inl rfl|exact Or.inr (Or.inl rfl)|exact Or.inr (Or.inr rfl)) (vy:Vis X.env.scope yn:=by first|exact Or.inl rfl|exact Or.inr (Or.inl rfl)|exact Or.inr (Or.inr rfl))
  (di:(x==("__debug__":Str))=false:=by decide) (ci:(x==("__classdict__":Str))=false:=by decide) (dj:(k==("__debug__":Str))=false:=by decide) (cj:(k==("__classdict__":Str))=false:=by decide) (dy:(yn==("__debug__":Str))=false:=by decide) (cy:(yn==("__classdict__":Str))=false:=by decide)
  (lj:Loc X.env.scope k:=by first|exact Or.inl rfl|exact Or.inr rfl) (ly:Loc X.env.scope yn:=by first|exact Or.inl rfl|exact Or.inr rfl)
  (fj:X.fn k=true\/X.env.scope.names.lookup k=some .local:=by first|exact .inl rfl|exact .inr rfl|assumption) (fy:X.fn yn=true\/X.env.scope.names.lookup yn=some .local:=by first|exact .inl rfl|exact .inr rfl|assumption)
  (hg:Gl X "max":=by rfl)
  (hs1:starEach [.Name yn p8,.BinOp (.Subscript (.Name x p9) (.Name k p10) p11) .Add (.Constant (.int 1) j1 p12) p13] X.env=(false,eval (.Name yn p8) X.env)::starEach [.BinOp (.Subscript (.Name x p9) (.Name k p10) p11) .Add (.Constant (.int 1) j1 p12) p13] X.env:=by rfl)
  (hs2:starEach [.BinOp (.Subscript (.Name x p9) (.Name k p10) p11) .Add (.Constant (.int 1) j1 p12) p13] X.env=(false,eval (.BinOp (.Subscript (.Name x p9) (.Name k p10) p11) .Add (.Constant (.int 1) j1 p12) p13) X.env)::starEach [] X.env:=by rfl)
  (hpl:(backTo p14 (starEach [.BinOp (.Subscript (.Name x p9) (.Name k p10) p11) .Add (.Constant (.int 1) j1 p12) p13] X.env)).any (·.1)=false:=by rfl)
  (hsw:swapsWith (.Call (.Name "max" p7) [.Name yn p8,.BinOp (.Subscript (.Name x p9) (.Name k p10) p11) .Add (.Constant (.int 1) j1 p12) p13] [] p14) (some (.Name yn p6)) p15.line X.env=pure false:=by rfl)
  (hfs:∀v,foldedSetIterable (.Name x px) X.env v=pure v:=by intro _;rfl) (hsl:aYx (.Name k p2):=by intro _ _;rfl) (hsl':aYx (.Name k p10):=by intro _ _;rfl) :
  PS X (.For (.Name k pk) (.Name x px) [.If (.BoolOp .And [ce,.Compare (.Subscript (.Name x p1) (.Name k p2) p3) [.Gt] [.Constant (.int 0) j0 p4] p17,de] p5) [.Assign [.Name yn p6] (.Call (.Name "max" p7) [.Name yn p8,.BinOp (.Subscript (.Name x p9) (.Name k p10) p11) .Add (.Constant (.int 1) j1 p12) p13] [] p14) p15] [] p16] [] pos) (tS X.K B (aV5 i j y c d)):=by
 intro pins s σ H Dn I h;obtain⟨A,st,r,rs,hr,p⟩:=h;unfold aV5 at hr;split at hr
 case h_2=>cases hr
 rename_i ks ds hsl;obtain⟨sE,hE,h2⟩:=R.ok_of hr;cases h2;obtain⟨a,o,vs,e1,m,h1,ko,q,u⟩:=rs.lst i _ _ hsl;rcases ko with ⟨_,kvs,rfl,rfl,rfl⟩|⟨z,_⟩
 case inr=>cases z
 have n1:∀xs,X.H₀ a≠some (.tup xs):=λxs z=>by have:=I.base.tups a xs z;rw[h1]at this;cases this
 have n2:∀q u,X.H₀ a≠some (.frz q u):=λq u z=>by have:=I.base.frzs a q u z;rw[h1]at this;cases this
 have n3:∀ps,X.H₀ a≠some (.tbl ps):=λps z=>by obtain⟨_,this⟩:=I.base.tbls a ps z;rw[h1]at this;cases this
 have okA:∀H',iU X.prog X.w H' s.heap a (.dK kvs):=λH'=>I.hok a _ h1
 obtain⟨hz,hsm,xs,kv,hD⟩:=okA H;have nd:=aXy kv hD;obtain⟨ob,es,ep,hob,_⟩:=id hD;have If:Inv X pins σ (upd H a (.frz ob (.dK kvs))) s:=Inv.word I h1 (by rintro b z;cases z) (by rintro b z;cases z) n1 n2 n3 ⟨hob,okA _⟩
 obtain⟨rs0,_⟩:=rs.dark (o:=.frz ob (.dK kvs)) hsl e1;have hlen:kvs.length=ds.length:=by have:=q.length;rw[bJ9]at this;exact this
 have hin:i<st.length:=(bIk.mp hsl).1;have hh:∀(G:Hp)(o:HO),hide A (upd G a o)=hide A G:=λG o=>mH m
 have get:PE X (.Subscript (.Name x p1) (.Name k p2) p3) (aIg (tM i) (tM j)):=aQ4 (by omega) (kJ ni vi di ci) (kJ nj vj dj cj) ‹_›
 have get':PE X (.Subscript (.Name x p9) (.Name k p10) p11) (aIg (tM i) (tM j)):=aQ4 (by omega) (kJ ni vi di ci) (kJ nj vj dj cj) hsl'
 have body:=rR (aU3 (pos:=p16) (PW.pt (aNp hce (aNp (aPy (pos:=p17) aFt get (aD6 (i:=0) (j:=j0) (pos:=p4)) (aLd _ (by decide) (by decide))) (aPu hde (pos:=p5))))) (rR (aD7 (pos:=p15) (pos':=p6) hN ny ly (uH (p:=p7) (pos:=p14) (aSc hc) hg hm (by rfl) (dF (kJ ny vy dy cy) (dF (bBh (pos:=p13) aUa get' (aD6 (i:=1) (j:=j1) (pos:=p12))) gU hs2) hs1) (he:=hs1) (hpl:=hpl)) hsw fy)) aJk)
 refine thn (aJn hp hc (bEm (kJ ni vi di ci)) (aJl hN nj lj fj) body hfs pins s σ _ {nx:=λσ' H'=>H' a=some (.frz ob (.dK kvs))/\Dn.nx σ' (upd H' a (.dK kvs)),rt:=λ_ _=>False} If ?_) λf s' hq=>?_
 .refine⟨_,e1,a,ob,kvs,rfl,bJ,λn m σ' H'=>∃st',m=kvs.length-n/\n<=kvs.length/\RS X.K B A H' st' σ'/\st'.length=st.length/\σ'[i]?=some (some (.ref a))/\bC (upd H a (.frz ob (.dK kvs))) H'/\aIm j y c d ((kvs.map λp=>jX p.1).drop n) (ds.drop n) st'=.ok sE,⟨kvs.length,st.set i none,rfl,bK6 _,rs0,bJy ..,e1,bC.refl _,hE⟩,?_⟩
  rintro n m' σ' H' ⟨st',rfl,hle,rs',hl',hi',sm,hf⟩;have ha':H' a=some (.frz ob (.dK kvs)):=sm _ _ bJ
  by_cases hlt:n<kvs.length
  .obtain⟨p',hp'⟩:∃p,kvs[n]?=some p:=⟨_,bIj hlt⟩;have e2:(kvs.map λp=>jX p.1)[n]?=some (jX p'.1):=by rw[bK3,hp'];rfl
   obtain⟨dz,e3⟩:∃dz,ds[n]?=some dz:=⟨_,bIj (by omega)⟩
   obtain⟨l2,e2'⟩:=bIk.mp e2;obtain⟨l3,e3'⟩:=bIk.mp e3;rw[bKd l2,bKd l3,e2',e3']at hf;obtain⟨nn,rfl,h5⟩:=aB4 hf;obtain⟨s2,hs2',h6⟩:=R.ok_of h5;have ev:p'.2=.int nn:=by
    obtain⟨w,e4,r4⟩:=q.get e3;rw[bK3,hp']at e4;have e5:p'.2=w:=by simpa using e4
    rw[e5];exact bH.mp r4
   refine .inr ⟨⟨ha',hlt⟩,λσ2 H2=>∃st2,n+1<=kvs.length/\RS X.K B A H2 st2 σ2/\st2.length=st.length/\σ2[i]?=some (some (.ref a))/\bC (upd H a (.frz ob (.dK kvs))) H2/\aIm j y c d ((kvs.map λp=>jX p.1).drop (n+1)) (ds.drop (n+1)) st2=.ok sE,?_,?_⟩
   .rintro σ2 H2 ⟨st2,g1,g2,g3,g4,g5,g6⟩;exact⟨kvs.length-(n+1),by omega,st2,rfl,g1,g2,g3,g4,g5,g6⟩
   .rintro x H2 ⟨rfl,p2,hp2,rfl⟩;rw[hp']at hp2;cases hp2;have rk:Rep X.K (hide (A++B) H2) (jX p'.1) (kV p'.1):=by
     obtain⟨kk,_⟩:=p';cases kk with
     |inl i=>exact bH.mpr rfl
     |inr x=>exact cY.mpr (by simp[kV])
    have hjl:j<σ'.length:=by rw[<-rs'.len,hl',rs.len,I.len];exact(bIk.mp nj).1
    refine bB7 (a:=a) (ob:=ob) (kvs:=kvs) (key:=p'.1) (n:=nn) id id hiy (rs'.set j rk) (by rw[bIp,bIt (bL5 hij)];exact hi') (by rw[bIp,bIv rfl,bIv hjl]) ha' (by rw[aS1 nd hp',ev]) hs2' λσ3 H3 sm3 rs3 l3 hi3=>?_
    exact⟨s2,hlt,rs3,by rw[l3,bJy,hl'],hi3,sm.trans sm3,h6⟩
  .have e:n=kvs.length:=by omega
   subst e;rw[bO1 (by simp),bO1 (by omega)]at hf
   cases hf;refine .inl ⟨⟨ha',bIn _⟩,ha',p A σ' _ ?_ ?_⟩
   .unfold Le;rw[hh,<-hh H (.frz ob (.dK kvs))];exact bC.hide sm
   .refine rs'.light (by omega) hi' m ha' (.inl ⟨rfl,kvs,rfl,rfl,rfl⟩) (q.mono ?_)
    rw[<-mH (A:=A++B) (H:=H) (o:=.frz ob (.dK kvs)) (bIw _ m)];exact bC.hide sm
 .cases f with
  |next=>
   obtain⟨σ',H',I',hf,hn⟩:=hq;exact⟨σ',_,Inv.word (o':=.dK kvs) I' hf (by rintro b z;cases z) (by rintro b z;cases z) n1 n2 n3 (I'.hok a _ hf).2,hn⟩
  |ret v=>obtain⟨_,_,_,_,_,z⟩:=hq;exact z.elim
  |brk=>obtain⟨_,_,_,z⟩:=hq;exact z.elim
  |cont=>obtain⟨_,_,_,z⟩:=hq;exact z.elim
end
def aL0{A:Around} {id:String} {b:Builtin} {args:List Value} {kw:List (Str×Value)} {Q:Value->Shared->Prop} (hk:builtinKind id=none) (hp:plainId id=true) (hb:entryFor table id=some b) (ha:argsOk id ⟨args,kw⟩)
  (hc:wpAny (model prog w) A.in1 (b ⟨args,kw⟩) (λfin s'=>match fin with
   |.done f=>(match (Except.ok f:Result) with|.ok (.ret v)=>Q v s'|.ok _=>False|.error e=>E e s')
   |.again c'=>c'.quiet=true/\codeAny (model prog w) A c' (λr s'=>match r with|.ok (.ret v)=>Q v s'|.ok _=>False|.error e=>E e s') s') E s) :
  wpAny (model prog w) A (call (.builtin id) args kw) Q E s:=by
 refine wpAny_call (codeAny_call_builtin hp hb ?_);unfold checkBuiltinCall;rw[hk];dsimp only;cases hs:Manifest.signature? id with
 |none=>exact bIx hc
 |some sg=>
  unfold argsOk at ha;rw[hs]at ha;dsimp only at ha ⊢;rw[ha];exact bIx hc
def aTm(a v:Value):argsOk "max" ⟨[a],[(Str.ofString "default",v)]⟩:=by unfold argsOk;kernel_rfl
section
variable{prog:Program}{w:World}{A:Around}{R:Result->Shared->Prop}{I:Addr}{fp wr:List Addr}{n:Nat}{P:Nat->Value->Prop}{St:Nat->Heap->Prop}{bt:Nat->Nat->Bool}{S:Addr}{d:Value}
def bEo(P:Nat->Value->Prop)(bt:Nat->Nat->Bool):Nat->Array Value->Prop
 |0,old=>old = #[]
 |j+1,old=>∃v,old = #[v,v]/\P (argBest bt j) v
def aTn(W:Walks prog w A.in1 I fp wr n P St)(hcmp:CmpOf prog w A.in1 .Gt P bt)(hSf:S∉fp):∀(k j:Nat)(s:Shared)(old:Array Value)(c:Nat),j+k=n->St j s.heap->bEo P bt j old->
  s.heap.get? S=some {cls:=.type "list",dict:=none,data:=.seq old c,slots := #[]}->
  (∀v h' tk,((n=0/\v=d)\/(0<n/\P (argBest bt (n-1)) v))->(∀b o,b∉wr->b≠S->s.heap.get? b=some o->h'.get? b=some o)->R (.ok (.ret v)) {s with heap:=h',toks:=tk})->
  codeAny (model prog w) A (.builtin "max.loop" ⟨[.ref I,.none,.ref S],[(Str.ofString "default",d)]⟩) R s:=by
 have hSw:S∉wr:=λh=>hSf (W.sub _ h)
 have nm:(toString "max" ++ toString ".loop":String)="max.loop":=by decide
 intro k
 induction k with
 |zero=>
  intro j s old c hk hst hb hS hR;refine codeAny_builtin F.entry_max_loop ?_
  rw[Around.under_plainId bL4 _];show wpAny _ A.in1 (seqItems? (.ref S) >>= _) _ _ s;refine bIh (bKr hS rfl ?_);show wpAny _ A.in1 (tryCatch (pyNext (.ref I)) _ >>= _) _ _ s;refine bIh (wpAny_tryCatch (W.done s _ _ (by rw[<-hk];exact hst) λh' tk kk=>?_))
  have hS':=kk S _ hSw hS;cases j with
  |zero=>
   have e:old = #[]:=hb;subst e;show wpAny _ A.in1 (rule _ >>= _) _ _ _;refine bIh (bKy (bIx ?_));exact hR d h' tk (.inl ⟨by omega,rfl⟩) λb o hw _ e=>kk b o hw e
  |succ j=>
   obtain⟨v,rfl,hv⟩:=hb;show wpAny _ A.in1 (updateSeq S (λ_ => #[]) >>= _) _ _ _
   refine bIh ?_
   refine bOd hS' rfl (bIh (bLr (bIx ?_)));exact hR v _ tk (.inr ⟨by omega,by rw[<-hk];exact hv⟩) λb o hw hb e=>(bL6 _ _ (bL5 hb)).trans (kk b o hw e)
 |succ k ih=>
  intro j s old c hk hst hb hS hR;refine codeAny_builtin F.entry_max_loop ?_
  rw[Around.under_plainId bL4 _];show wpAny _ A.in1 (seqItems? (.ref S) >>= _) _ _ s;refine bIh (bKr hS rfl ?_);show wpAny _ A.in1 (tryCatch (pyNext (.ref I)) _ >>= _) _ _ s;refine bIh (wpAny_tryCatch (W.item j s _ _ (by omega) hst λv h' tk hP hst' kk=>?_))
  have hS':=kk S _ hSw hS;have other:∀{f:Array Value->Array Value}{b:Addr}{o:Obj},b≠S->h'.get? b=some o->(h'.update S (Obj.mapSeq f)).get? b=some o:=λhb e=>(bL6 _ _ (bL5 hb)).trans e
  have inS:∀{b:Addr},b∈fp->b≠S:=λhb z=>hSf (z ▸ hb)
  cases j with
  |zero=>
   have e:old = #[]:=hb;subst e;show wpAny _ A.in1 (updateSeq S (λ_ => #[v,v]) >>= _) _ _ _
   refine bIh ?_
   refine bOd hS' rfl ?_
   rw[nm];exact bIx ⟨bNq bL4 _,ih 1 _ _ _ (by omega) (W.frame _ _ _ hst' λb hb o e=>other (inS hb) e) ⟨v,rfl,hP⟩ (bM9 _ hS' rfl) λv' h2 tk2 hv kk2=>hR v' h2 tk2 hv λb o hw hb e=>kk2 b o hw hb (other hb (kk b o hw e))⟩
  |succ j=>
   obtain⟨vb,rfl,hvb⟩:=hb;show wpAny _ A.in1 (tryCatch (holding [v,v] (richCompare .Gt v vb >>= _)) _ >>= _) _ _ _;refine bIh (wpAny_tryCatch (bK7 (bIh (hcmp (j+1) (argBest bt j) v vb _ _ _ hP hvb ?_))));refine bIh (bK7 (bKg ?_));refine bIh (bLr (bIx ?_));cases hq:bt (j+1) (argBest bt j) with
   |true=>
    simp only[if_true];refine bIh ?_
    refine bOd hS' rfl (bIh (bLr ?_));rw[nm];exact bIx ⟨bNq bL4 _,ih (j+2) _ _ _ (by omega) (W.frame _ _ _ hst' λb hb o e=>other (inS hb) e) ⟨v,rfl,by unfold argBest;rw[hq,bIv rfl];exact hP⟩ (bM9 _ hS' rfl) λv' h2 tk2 hv kk2=>hR v' h2 tk2 hv λb o hw hb e=>kk2 b o hw hb (other hb (kk b o hw e))⟩
   |false=>
    simp only[false_eq_true,if_false];refine bIh (bLr ?_);rw[nm];exact bIx ⟨bNq bL4 _,ih (j+2) _ _ c (by omega) hst' ⟨vb,rfl,by unfold argBest;rw[hq,bIt bJn];exact hvb⟩ hS' λv' h2 tk2 hv kk2=>hR v' h2 tk2 hv λb o hw hb e=>kk2 b o hw hb (kk b o hw e)⟩
end
section
variable {ke:Expr} {tk:TE} {p kpos kp:Pos}
def aXz{kn:Str}{id:String}{r:V->V->Hp->VK->Prop}(hc:∀{pins:List (Addr×Obj)} {s:Shared} {σ:L2.St} {H:Hp} {a b:V} {u v:Value} {Q:VK},Inv X pins σ H s->RelV a u->RelV b v->r a b H Q->wpAny (model X.prog X.w) X.A (call (.builtin id) [u] [(kn,v)]) (EP X pins σ Q) X.xe s)
  (hg:Gl X x) (hm:X.mg x=none) (hv:bootBuiltins x=some (.builtin id)) (ha:PE X e te) (hb:PE X ke tk) (hn:x≠"__name__":=by decide) (hdb:(x==("__debug__":Str))=false:=by decide)
  (hs:starEach [e] X.env=(false,eval e X.env)::starEach [] X.env:=by rfl)
  (he:backTo pos (starEach [e] X.env)=(false,eval e X.env)::backTo pos (starEach [] X.env):=by rfl) (hplain:(backTo pos (starEach [e] X.env)).any (·.1)=false:=by rfl)
  (hall:(backToKw pos (keywordEach [⟨some kn,ke,kpos⟩] X.env)).all (·.1.isSome)=true:=by rfl) (hkw:(backToKw pos (keywordEach [⟨some kn,ke,kpos⟩] X.env)).any (·.1.isNone)=false:=by rfl)
  (hks:(backToKw pos (keywordEach [⟨some kn,ke,kpos⟩] X.env)).filterMap (·.1)=[kn]:=by rfl) :
  PE X (.Call (.Name x p) [e] [⟨some kn,ke,kpos⟩] pos) (λσ H Q=>te σ H λa H1=>tk σ H1 λb H2=>r a b H2 Q):=by
 intro pins s σ H Q I h;refine bL8 (xW I hg hm hv ?_ hn hdb);refine callWith_kw (thn (dF ha gU hs pos pins s σ H (λvs H1=>∃a,vs=[a]/\tk σ H1 λb H2=>r a b H2 Q) I ?_) λus s1 ⟨vs,H1,I1,r1,a,e1,q1⟩=>?_) he hplain hall hkw
 .show te σ H λa H1=>∃a',[a]=[a']/\tk σ H1 λb H2=>r a' b H2 Q
  have:(λa H1=>∃a',[a]=[a']/\tk σ H1 λb H2=>r a' b H2 Q)=λa H1=>tk σ H1 λb H2=>r a b H2 Q:=by
   funext a H1;exact propext ⟨λ⟨a',z,q⟩=>by cases z;exact q,λq=>⟨a,rfl,q⟩⟩
  rw[this];exact h
 .subst e1;obtain⟨u,rfl,ru⟩:=r1.one;refine kws_cons (thn (hb pins s1 σ H1 _ I1 q1) λv s2 ⟨b,H2,I2,r2,q2⟩=>kws_nil ?_)
  rw[hks];exact hc I2 ru r2 q2
def aTo(hc:X.calm=true) {σ:L2.St} {a b:V} {u v:Value} {Q:VK} (I:Inv X pins σ H s) (ra:RelV a u) (rb:RelV b v)
  (h:∃(l:Addr)(is:List Int)(c:Int),a=.ref l/\b=.int c/\SqL X.K H l (is.map V.int)/\Q (.int (if is=[] then c else yG is)) H):wpAny (model X.prog X.w) X.A (call (.builtin "max") [u] [(Str.ofString "default",v)]) (EP X pins σ Q) X.xe s:=by
 obtain⟨l,is,c,rfl,rfl,hl,q⟩:=h;obtain rfl:u=Value.ref l:=ra;obtain⟨t0,rfl⟩:=rb;obtain⟨its,rv,⟨ob,n,e,hcl,_,hd⟩,hz⟩:=I.list hl;obtain⟨ps,ei,e2⟩:=aHb rv;have hlen:ps.length=is.length:=by rw[<-e2,bJ9]
 have isl:s.heap.IsList l (intItems ps.toArray):=⟨ob,e,hcl,n,by rw[hd,ei];simp[intItems]⟩
 have hsz:(intItems ps.toArray).size=ps.length:=by simp[intItems]
 have nm:(toString "max" ++ toString ".loop":String)="max.loop":=by decide
 refine aL0 F.kind_max F.plain_max F.entry_max (aTm _ _) ?_
 show wpAny _ X.A.in1 (Builtin.Builtins.bindParams "max" ["key","default"] 0 ⟨[],[(Str.ofString "default",Value.int c t0)]⟩ >>= _) _ _ s;refine bIh (wpAny_of_eq (show Builtin.Builtins.bindParams "max" ["key","default"] 0 ⟨[],[(Str.ofString "default",Value.int c t0)]⟩=pure [none,some (Value.int c t0)] from rfl) ?_)
 refine bIh (bIx ?_);refine bIh (iter_intList isl λs₂ e3 st hfp hlI=>?_)
 subst e3;refine bIh (wpAny_newObj_type ?_);rw[nm];have W:=Walks.list (prog:=X.prog) (w:=X.w) (A:=X.A.in1) (I.ok.hd hc) s.heap.objs.size l hlI (intItems ps.toArray);refine bIx ⟨bNq bL4 _,aTn (bt:=λi j=>decide (numAt ps.toArray i>numAt ps.toArray j)) (d:=.int c t0) W (CmpOf.ints_gt (numAt ps.toArray) (λ_ _=>intItems_at)) (λhm=>bJv _ (hfp _ hm)) (intItems ps.toArray).size 0 _ #[] _ (bN3 _) (W.frame _ _ _ st λb _ o e=>bIi _ e) rfl (bIy _ rfl) λv h' tk hv hk=>?_⟩
 have kept:∀b o,s.heap.get? b=some o->h'.get? b=some o:=λb o e=>by
  have hb:=bJ2 e;refine hk b o (λz=>?_) (λz=>?_) (bIi _ (bIi _ e))
  .rw[bIu.mp z]at hb;exact bJv _ hb
  .rw[z]at hb;exact absurd hb (Nat.not_lt.mpr (by rw[bJt];exact Nat.le_succ _))
 refine⟨.int (if is=[] then c else yG is),H,I.kept kept,?_,q⟩
 rcases hv with ⟨h0,rfl⟩|⟨h0,hP⟩
 .have:is=[]:=bJw.mp (by rw[hsz]at h0;omega)
  rw[bIv this];exact⟨t0,rfl⟩
 .have hne:is≠[]:=λz=>by rw[z]at hlen;simp at hlen;rw[hsz,hlen]at h0;simp at h0
  rw[bIt hne];obtain⟨t,rfl⟩:=intItems_at hP;refine⟨t,?_⟩;congr 1;rw[hsz]at h0 ⊢;obtain⟨h1,h2⟩:=argBest_gt (numAt ps.toArray) (ps.length-1);have hb:argBest (λi j=>decide (numAt ps.toArray i>numAt ps.toArray j)) (ps.length-1)<ps.length:=by omega
  refine(aK0 ?_ λx hx=>?_).symm
  .rw[aCq hb,<-e2];exact bJr _
  .rw[<-e2]at hx;obtain⟨i,hi,rfl⟩:=bKu.mp hx;have hi':i<ps.length:=by simpa using hi
   rw[<-aCq hi'];exact h2 i (by omega)
def bEp{c:Int}{jc:Nat}(hm:X.mg "max"=none)(hc:X.calm=true)(ha:PE X e (tP X.K B f))(hg:Gl X "max":=by rfl)
  (hs:starEach [e] X.env=(false,eval e X.env)::starEach [] X.env:=by rfl)
  (he:backTo pos (starEach [e] X.env)=(false,eval e X.env)::backTo pos (starEach [] X.env):=by rfl) (hplain:(backTo pos (starEach [e] X.env)).any (·.1)=false:=by rfl)
  (hall:(backToKw pos (keywordEach [⟨some "default",.Constant (.int c) jc kp,kpos⟩] X.env)).all (·.1.isSome)=true:=by rfl) (hkw:(backToKw pos (keywordEach [⟨some "default",.Constant (.int c) jc kp,kpos⟩] X.env)).any (·.1.isNone)=false:=by rfl)
  (hks:(backToKw pos (keywordEach [⟨some "default",.Constant (.int c) jc kp,kpos⟩] X.env)).filterMap (·.1)=[("default":Str)]:=by rfl) :
  PE X (.Call (.Name "max" p) [e] [⟨some "default",.Constant (.int c) jc kp,kpos⟩] pos) (tI X.K B (e1 (aIn c) f)):=by
 refine cN (aXz (aTo hc) hg hm (by rfl) ha aD6 (hs:=hs) (he:=he) (hplain:=hplain) (hall:=hall) (hkw:=hkw) (hks:=hks)) ?_
 rintro σ H Q ⟨A,st,d,rs,hd,q⟩;obtain⟨x,hx,h2⟩:=R.ok_of hd;refine⟨A,st,x,rs,hx,λv H1 s1 r1=>?_⟩
 unfold aIn at h2;split at h2
 case h_2=>cases h2
 rename_i ds;obtain⟨l,h3,h4⟩:=R.ok_of h2;cases h4;obtain⟨a,vs,e1,hq,hr⟩:=r1.lst;rw[yH h3]at hr;rw[zL hr]at hq;exact⟨a,l,c,e1,rfl,hq,q _ H1 s1 (bH.mpr rfl)⟩
end
def tSN(K:Frag)(B:List Addr)(bds:List D->Bd):TS:=λDn σ H=>∃A st d,RS K B A H st σ/\aDg bds st d/\aWo K B A H (.rt d) Dn
section
variable{X:Cx}{B:List Addr}{e sr:Expr}{f r:Ex}{pos p p1 p2 kpos kp:Pos}{bd:Bd}{bds:List D->Bd}{sm:Stmt}{rest body:List Stmt}{t:Tg}{tg:Expr}
def bEq(h:PSs X rest (tSN X.K B bds)):PSs X rest (tS X.K B (bGd bds)):=oX h (by
 rintro Dn σ H ⟨A,st,fl,rs,hr,p⟩;obtain⟨d,hd,h2⟩:=R.ok_of hr;cases h2;exact⟨A,st,d,rs,bGb hd,p⟩)
def bEr(h1:PS X sm (tS X.K B bd))(h2:PSs X rest (tSN X.K B bds))(hb:∀st s,bd st≠.ok (.bk s)):PSs X (sm::rest) (tSN X.K B λout=>bG bd (bds out)):=oX (pH h1 h2) (by
 rintro Dn σ H ⟨A,st,d,rs,ha,p⟩;obtain⟨x,hx⟩:∃x,bd st=.ok x:=by
  rcases ha [] with h|h<;>exact let ⟨x,hx,_⟩:=R.ok_of h;⟨x,hx⟩
 refine⟨A,st,x,rs,hx,?_⟩;have ha':∀out,aBz (.ok x) (bds out)=.ok (.rt d)\/aBz (.ok x) (bds out)=.ok (.bk []):=λout=>by rw[<-hx];exact ha out
 cases x with
 |nx s1=>exact λA' σ' H' l rs'=>⟨A',s1,d,rs',ha',p.mono l⟩
 |rt d'=>
  rcases ha' [] with z|z<;>cases z
  exact p
 |bk s=>exact absurd hx (hb st s)
 |ct s=>rcases ha' [] with z|z<;>cases z)
theorem aE3:∀(ds:List D)(st s:PSt),forR t bd ds st≠.ok (.bk s)
 |[],_,_,h=>by cases h
 |d::ds,st,s,h=>by
  obtain⟨s1,_,h2⟩:=R.ok_of h;obtain⟨x,_,h3⟩:=R.ok_of h2;cases x with
  |nx s2=>exact aE3 ds s2 s h3
  |ct s2=>exact aE3 ds s2 s h3
  |bk s2=>cases h3
  |rt v=>cases h3
def bH6(K:Frag)(B:List Addr)(f:Ex)(g:List D->R D):TE:=λσ H Q=>∃A st ds,RS K B A H st σ/\f st=.ok (.lst ds)/\(ds.length<=1000/\∀d∈ds,∃n m,d=.int n/\g [d]=.ok (.int m))/\∀out a vs H',aOc g ds out->bC H H'->H' a=none->bD K (hide (A++B) H') out vs->Q (.ref a) (upd H' a (.lst vs))
theorem aS2{g:List D->R D}:∀{ds:List D},(∀d∈ds,∃n m,d=.int n/\g [d]=.ok (.int m))->∃ns:List Int,ds=ns.map D.int/\∀n∈ns,∃m,g [.int n]=.ok (.int m)
 |[],_=>⟨[],rfl,λ_ h=>nomatch h⟩
 |d::ds,h=>by
  obtain⟨ns,e,h2⟩:=aS2 (g:=g) (ds:=ds) λd hd=>h d (bIl _ hd)
  obtain⟨n,m,e1,e2⟩:=h d bIm;subst e1 e;refine⟨n::ns,rfl,λk hk=>?_⟩
  rcases bIq.mp hk with rfl|hk
  .exact⟨m,e2⟩
  .exact h2 k hk
def bH7{k:Nat}{g:List D->R D}(h:DefOk X.prog X.w X.K X.mg X.base x k 1 g)(hr:Room j X.A)(hk:k+2<=j)(hm:X.mg "sorted"=none)(ha:PE X e (tI X.K B f))(hgx:Gl X x:=by rfl)(hdx:(x==("__debug__":Str))=false:=by decide)(hg:Gl X "sorted":=by rfl)
  (hs:starEach [e] X.env=(false,eval e X.env)::starEach [] X.env:=by rfl)
  (he:backTo pos (starEach [e] X.env)=(false,eval e X.env)::backTo pos (starEach [] X.env):=by rfl) (hplain:(backTo pos (starEach [e] X.env)).any (·.1)=false:=by rfl)
  (hall:(backToKw pos (keywordEach [⟨some "key",.Name x kp,kpos⟩] X.env)).all (·.1.isSome)=true:=by rfl) (hkw:(backToKw pos (keywordEach [⟨some "key",.Name x kp,kpos⟩] X.env)).any (·.1.isNone)=false:=by rfl)
  (hks:(backToKw pos (keywordEach [⟨some "key",.Name x kp,kpos⟩] X.env)).filterMap (·.1)=[("key":Str)]:=by rfl) :
  PE X (.Call (.Name "sorted" p) [e] [⟨some "key",.Name x kp,kpos⟩] pos) (bH6 X.K B f g):=by
 obtain⟨fa,fd,ps,F,m,kpn,bn⟩:=h.ex;refine cN (aXz (r:=λa b H Q=>∃(l:Addr)(ns:List Int),a=.ref l/\b=.ref fa/\SqL X.K H l (ns.map V.int)/\(∀n∈ns,∃m,g [.int n]=.ok (.int m))/\ns.length<=1000/\∀(out:List Int)(D':Addr)(H':Hp),aOc g (ns.map D.int) (out.map D.int)->bC H H'->H' D'=none->Q (.ref D') (upd H' D' (.lst (out.map V.int)))) ?_ hg hm (by rfl) ha (aJj (v:=.ref fa) hgx m rfl hdx) (hs:=hs) (he:=he) (hplain:=hplain) (hall:=hall) (hkw:=hkw) (hks:=hks)) ?_
 .intro pins s σ H a b u v Q I ra rb h;obtain⟨l,ns,rfl,rfl,hl,hgn,hz,q⟩:=h;obtain rfl:u=Value.ref l:=ra;obtain rfl:v=Value.ref fa:=rb;have hg1:∀n∈ns,g [.int n]=.ok (.int (match g [.int n] with|.ok (.int m)=>m|_=>0)):=λn hn=>by
   obtain⟨m,e⟩:=hgn n hn;rw[e]
  refine aXw (g:=λn=>match g [.int n] with|.ok (.int m)=>m|_=>0) F (hr.mono hk) bn I hl hg1 hz λout D' H' o1 o2 sm hD=>q out D' H' ⟨o1.map _,?_⟩ sm hD
  rw[bO7];exact o2.imp_of_mem λ{x y} hx hy hxy=>⟨_,_,hg1 x (o1.mem_iff.mp hx),hg1 y (o1.mem_iff.mp hy),hxy⟩
 .rintro σ H Q ⟨A,st,ds,rs,hd,⟨h1,h2⟩,q⟩;refine⟨A,st,_,rs,hd,λv H1 s1 r1=>?_⟩
  obtain⟨ns,rfl,hns⟩:=aS2 h2;obtain⟨l,vs,rfl,hq,hr1⟩:=eN.mp r1;rw[zL hr1]at hq;refine⟨l,ns,rfl,rfl,(bI _ _).seq hq,hns,by rw[bJ9]at h1;exact h1,λout D' H' ho sm hD=>?_⟩
  refine q (out.map D.int) D' _ H' ho (s1.trans sm) hD ?_
  clear ho
  induction out with
  |nil=>exact .nil
  |cons n out ih=>exact .cons (bH.mpr rfl) ih
def aY0(st s:PSt):cM r st≠.ok (.bk s):=λh=>by
 obtain⟨_,_,h2⟩:=R.ok_of h;cases h2
def aTp{b:Bool}(st s:PSt):aIh i b st≠.ok (.bk s):=λh=>by cases h
def bH8{g:List D->R D}{rb:Bd}(hi:PE X e (bH6 X.K B f g))(hg:PG X tg (tG X.K B t))(hb:PSs X body (tS X.K B bd))(hr:PS X sm (tS X.K B rb))(hrb:∀st s,rb st≠.ok (.bk s))(hp:PassesOwn (model X.prog X.w) X.A X.env X.xe)(hc:X.calm=true)
  (hs:∀x,foldedSetIterable e X.env x=pure x:=by intro _;rfl):PSs X [.For tg e body [] p1,sm] (tSN X.K B λout=>bG (wU t f g bd out) rb):=oX (pH (aJn hp hc (aYf hi) hg hb hs) (rR hr)) (by
 rintro Dn σ H ⟨A,st,d,rs,ha,p⟩;have opn:∀{out:List D}{z:Fl},aBz (wU t f g bd out st) rb=.ok z->∃ds,f st=.ok (.lst ds)/\(ds.length<=1000/\∀d∈ds,∃n m,d=.int n/\g [d]=.ok (.int m)):=λ{out z} h=>by
  obtain⟨x,hx,_⟩:=R.ok_of h;obtain⟨y,hy,h3⟩:=R.ok_of hx;split at h3
  .exact⟨_,hy,(aK h3).1⟩
  .cases h3
 obtain⟨ds,hf,hgd⟩:∃ds,f st=.ok (.lst ds)/\(ds.length<=1000/\∀d∈ds,∃n m,d=.int n/\g [d]=.ok (.int m)):=by
  rcases ha [] with z|z<;>exact opn z
 refine⟨A,st,ds,rs,hf,hgd,λout a vs H1 ho s0 hn hv=>?_⟩
 have hrun:aBz (forR t bd out st) rb=.ok (.rt d):=by
  have hz:aBz (wU t f g bd out st) rb=.ok (.rt d)\/aBz (wU t f g bd out st) rb=.ok (.bk []):=ha out;rw[aLn hf hgd ho]at hz;rcases hz with z|z
  .exact z
  .obtain⟨x,hx,h3⟩:=R.ok_of z;cases x with
   |nx s1=>exact absurd h3 (hrb _ _)
   |ct s1=>cases h3
   |rt v=>cases h3
   |bk s1=>exact absurd hx (aE3 _ _ _)
 obtain⟨x,hx,h3⟩:=R.ok_of hrun;have s1:bC H (upd H1 a (.lst vs)):=s0.trans (cV hn);have own1:=rs.own.mono s0;have ito:aP0 X.K B A (upd H1 a (.lst vs)) (Itl X.K a) out:=aWx (SqL.of (by rw[bZ (own1.free hn)];exact bJ)) (hv.mono (bC.hide (cV hn)))
 refine⟨a,rfl,⟨vs,SqL.of bJ⟩,λi m σ' H'=>∃A' st',m=out.length-i/\i<=out.length/\RS X.K B A' H' st' σ'/\forR t bd (out.drop i) st'=.ok x/\Le A (upd H1 a (.lst vs)) A' H',⟨out.length,A,st,by simp,zero_le _,rs.mono s1,by rw[drop_zero];exact hx,Le.refl⟩,?_⟩
 rintro i m σ' H' ⟨A',st',rfl,hle,rs',hf',l⟩;obtain⟨i1,i2⟩:=ito A' H' l rs'.own i
 by_cases hlt:i<out.length
 .have hd':out[i]?=some out[i]:=bIj hlt;obtain⟨go,yl⟩:=i1 _ hd';rw[bKd hlt]at hf';obtain⟨s2,hs2,h5⟩:=R.ok_of hf';obtain⟨fl,hfl,h6⟩:=R.ok_of h5;refine .inr ⟨go,λσ2 H2=>∃A2 st2,i+1<=out.length/\RS X.K B A2 H2 st2 σ2/\forR t bd (out.drop (i+1)) st2=.ok x/\Le A (upd H1 a (.lst vs)) A2 H2,?_,λy H2 yy=>?_⟩
  .rintro σ2 H2 ⟨A2,st2,hle2,rs2,hf2,l2⟩;exact⟨out.length-(i+1),by omega,A2,st2,rfl,hle2,rs2,hf2,l2⟩
  .obtain⟨sm,rx⟩:=yl y H2 yy;have l5:Le A (upd H1 a (.lst vs)) A' H2:=l.trans (Le.of sm);refine⟨A',st',out[i],s2,rs'.mono sm,rx,hs2,λσ3 rs3=>⟨A',s2,fl,rs3,hfl,?_⟩⟩
   cases fl with
   |nx s4=>exact λA4 σ4 H4 l4 rs4=>⟨A4,s4,hlt,rs4,h6,l5.trans l4⟩
   |ct s4=>exact λA4 σ4 H4 l4 rs4=>⟨A4,s4,hlt,rs4,h6,l5.trans l4⟩
   |bk s4=>
    cases h6;exact λA4 σ4 H4 l4 rs4=>⟨A4,s4,_,rs4,h3,p.mono ((Le.of s1).trans (l5.trans l4))⟩
   |rt v=>
    cases h6;cases h3;exact p.mono ((Le.of s1).trans l5)
 .have e:i=out.length:=by omega
  subst e;rw[bNs]at hf';cases hf';exact .inl ⟨i2 (bIn _),A',st',_,rs',h3,p.mono ((Le.of s1).trans l)⟩)
end
def aY1(ds:List D):tx1 ds=txH ds:=by
 cases ds with
 |nil=>rfl
 |cons d _=>cases d<;>rfl
def bB8{K:Frag} {z:Str} (r:bD K H ds (.str z::ws)):txH ds=true:=by
 cases ds with
 |nil=>cases cG.mp r
 |cons d ds=>
  obtain⟨v,_,e,q,_⟩:=bK.mp r;cases e;cases d with
  |str s=>rfl
  |non=>cases jY.mp q
  |bl _=>cases cL.mp q
  |int _=>cases bH.mp q
  |tup _=>obtain⟨_,_,e,_⟩:=lE.mp q;cases e
  |lst _=>obtain⟨_,_,e,_⟩:=eN.mp q;cases e
  |dct _ _ _=>obtain⟨_,_,e,_⟩:=oW.mp q;cases e
  |ins _ _ _=>obtain⟨_,_,_,_,_,e,_⟩:=aA9.mp q;cases e
  |exn _ _ _=>obtain⟨_,_,_,e,_⟩:=aFl.mp q;cases e
  |fn _=>obtain⟨_,e,_⟩:=aKc.mp q;cases e
def TxC(H:Hp)(C:List Addr):Prop:=∀c∈C,∃z ws,H c=some (.lst (.str z::ws))
def TxC.out{C:List Addr}(h:TxC H C){a:Addr} (e:H a=some o) (n:∀z ws,o≠.lst (.str z::ws)):hide C H a=some o:=by
 rw[bZ λz=>?_]
 .exact e
 .obtain⟨z,ws,e'⟩:=h a z;rw[e]at e';cases e';exact n z ws rfl
mutual
theorem Rep.off{K:Frag}{H:Hp}{C:List Addr}(hC:TxC H C):∀{d:D}{v:V},ntx d=true->Rep K H d v->Rep K (hide C H) d v
 |.non,_,_,h=>jY.mpr (jY.mp h)
 |.bl _,_,_,h=>cL.mpr (cL.mp h)
 |.int _,_,_,h=>bH.mpr (bH.mp h)
 |.str _,_,_,h=>cY.mpr (cY.mp h)
 |.fn _,_,_,h=>aKc.mpr (aKc.mp h)
 |.tup _,_,n,h=>by
  unfold ntx at n;obtain⟨a,vs,e,q,r⟩:=lE.mp h;exact lE.mpr ⟨a,vs,e,hC.out q (λ_ _=>nofun),bD.off hC n r⟩
 |.lst ds,_,n,h=>by
  unfold ntx at n;rw[bLb,aY1]at n;obtain⟨a,vs,e,q,r,t⟩:=vA.mp h;have nv:∀z ws,vs≠.str z::ws:=λz ws e=>by
   rw[e]at r;rw[bB8 r]at n;exact nomatch n.1
  refine vA.mpr ⟨a,vs,e,?_,bD.off hC n.2 r,λz=>by rw[z]at n;exact nomatch n.1⟩
  rcases q with (q|⟨o,q⟩)|q
  .exact .inl (.inl (hC.out q λz ws e=>nv z ws (by cases e;rfl)))
  .exact .inl (.inr ⟨o,hC.out q (λ_ _=>nofun)⟩)
  .exact .inr q
 |.dct _ _ _,_,n,h=>by
  unfold ntx at n;obtain⟨a,vs,e,q,r⟩:=oW.mp h;refine oW.mpr ⟨a,vs,e,?_,bD.off hC n r⟩;rcases q with ⟨q0,kvs,q1,q2⟩|⟨q0,kvs,q1,q2⟩
  .exact .inl ⟨q0,kvs,hC.out q1 (λ_ _=>nofun),q2⟩
  .exact .inr ⟨q0,kvs,hC.out q1 (λ_ _=>nofun),q2⟩
 |.ins _ _ _,_,n,h=>by
  unfold ntx at n;obtain⟨a,C',dx,fs,vs,e,q1,q2,q3,q4,r⟩:=aA9.mp h;exact aA9.mpr ⟨a,C',dx,fs,vs,e,hC.out q1 (λ_ _=>nofun),q2,q3,q4,bD.off hC n r⟩
 |.exn _ _ _,_,n,h=>by
  unfold ntx at n;obtain⟨a,φ,C',e,q,hφ,hi,dx,fs,vs,h1,r⟩:=aFl.mp h;refine aFl.mpr ⟨a,φ,C',e,hC.out q (λ_ _=>nofun),hφ,hi,dx,fs,vs,?_,bD.off hC n r⟩
  rcases h1 with h1|⟨h1,h2,h3,h4⟩
  .exact .inl h1
  .exact .inr ⟨h1,h2,hC.out h3 (λ_ _=>nofun),h4⟩
theorem bD.off{K:Frag}{H:Hp}{C:List Addr}(hC:TxC H C):∀{ds:List D}{vs:List V},rP ds=true->bD K H ds vs->bD K (hide C H) ds vs
 |[],_,_,h=>by rw[cG.mp h];exact .nil
 |d::ds,_,n,h=>by
  unfold rP at n;rw[bLb]at n;obtain⟨v,r,rfl,q,t⟩:=bK.mp h;exact .cons (Rep.off hC n.1 q) (bD.off hC n.2 t)
end
def nV(H:Hp)(C:List Addr)(u:V):Prop:=u=.non\/∃T x c,u=.ref T/\H T=some (.tup [x,.ref c])/\c∈C
def nV.mono{C C':List Addr}{u:V}(s:bC H H')(hc:∀c∈C,c∈C')(h:nV H C u):nV H' C' u:=by
 rcases h with h|⟨T,x,c,e,h1,h2⟩
 .exact .inl h
 .exact .inr ⟨T,x,c,e,s _ _ h1,hc c h2⟩
def aNd{K:Frag}{G:Hp} (n:aDh d=true) (r:Rep K G d v):(d=.non/\v=.non)\/∃s x T y c ws,d=.tup [.str s,.lst x]/\v=.ref T/\G T=some (.tup [y,.ref c])/\G c=some (.lst ws)/\bD K noH x ws/\∃z w',ws=.str z::w':=by
 unfold aDh at n;split at n
 .exact .inl ⟨rfl,jY.mp r⟩
 .rename_i s x;rw[bLb,aY1]at n;obtain⟨T,vs,rfl,hT,rs⟩:=lE.mp r;obtain⟨y,r1,rfl,_,r2⟩:=bK.mp rs;obtain⟨u,r3,rfl,ru,r4⟩:=bK.mp r2;cases cG.mp r4;obtain⟨c,ws,rfl,_,rw',t⟩:=vA.mp ru;refine .inr ⟨s,x,T,y,c,ws,rfl,rfl,hT,t n.1,aJb n.2 rw',?_⟩;cases x with
  |nil=>exact nomatch n.1
  |cons d x=>
   have n1:=n.1;cases d<;>first|(cases n1;done)|skip
   obtain⟨v,w',rfl,q,_⟩:=bK.mp rw';exact⟨_,w',by rw[cY.mp q]⟩
 .cases n
theorem aNe{K:Frag}{G:Hp}:∀{ds:List D}{vs:List V},ds.all aDh=true->bD K G ds vs->∃C,TxC G C/\∀u∈vs,nV G C u
 |[],_,_,r=>by
  cases cG.mp r;exact⟨[],(λ_ h=>by cases h),(λ_ h=>by cases h)⟩
 |d::ds,_,n,r=>by
  rw[bOm,bLb]at n;obtain⟨v,w,rfl,q,t⟩:=bK.mp r;obtain⟨C,h1,h2⟩:=aNe n.2 t;rcases aNd n.1 q with ⟨_,rfl⟩|⟨s,x,T,y,c,ws,_,rfl,hT,hc,_,z,w',rfl⟩
  .exact⟨C,h1,λu hu=>(bIq.mp hu).elim (λe=>.inl e) (h2 u)⟩
  .refine⟨c::C,λa ha=>?_,λu hu=>?_⟩
   .rcases bIq.mp ha with rfl|ha
    .exact⟨z,w',hc⟩
    .exact h1 a ha
   .rcases bIq.mp hu with rfl|hu
    .exact .inr ⟨T,y,c,rfl,hT,bIm⟩
    .exact(h2 u hu).mono (bC.refl _) λa ha=>bIl _ ha
def teN(K:Frag)(j:Nat):TE:=λτ H Q=>∃T x c ws,τ[j]?=some (some (.ref T))/\H T=some (.tup [x,.ref c])/\SqL K H c ws/\∀n,H n=none->Q (.ref n) (upd H n (.lst ws))
abbrev tNN(j:Nat):TT:=tB (bBf (tM j))
def aY2{K:Frag} (Q Q':VK) (m:∀v H',Q v H'->Q' v H') (h:teN K j τ H Q):teN K j τ H Q':=
 let ⟨T,x,c,ws,h0,h1,h2,h3⟩:=h;⟨T,x,c,ws,h0,h1,h2,λn hn=>m _ _ (h3 n hn)⟩
def bEs{K:Frag}{G:Hp} {iF:Nat} {a:Addr} {us:List V} (sG:bC G H) (hF:σ[iF]?=some (some (.ref a))) (ha:H a=some (.tup us)) (r:bD K G ds us) (hn:ds.all aDh=true) (hl:ds.length<=big) (hj:j<σ.length) {Q:VK}
  (q:∀P ps H',bC H H'->(∀p∈P::ps,H p=none)->H' P=some (.lst (ps.map V.ref))->Inn K noH H' (kx ds) ps->Q (.ref P) H'):tLC [j] (aNt K (tM iF)) (tgJ j) (tNN j) (teN K j) σ H Q:=by
 refine⟨.ref a,hF,a,rfl,⟨us,SqT.of ha⟩,λP hP=>?_⟩
 have hlen:=r.length;refine⟨λi m τ vs H'=>m=us.length-i/\i<=us.length/\τ.length=σ.length/\∃ps,vs=ps.map V.ref/\ps.length<=i/\H' P=some (.lst vs)/\bC H H'/\(∀p∈ps,H p=none)/\P∉ps/\Inn K noH H' (kx (ds.take i)) ps,
  ⟨us.length,by simp,zero_le _,by rw[aH4],[],rfl,bIn _,bJ,cV hP,(λ_ h=>by cases h),by simp,rfl⟩,?_⟩
 rintro i m τ vs H' ⟨rfl,hi,hτ,ps,rfl,hpl,hpv,s2,fr,nP,inn⟩;refine⟨hpv,?_⟩;have hq:=SqT.of (K:=K) (s2 _ _ ha)
 by_cases hlt:i<us.length
 .refine .inr ⟨⟨us,us[i],hq,bIj hlt⟩,λx H2 y=>?_⟩
  obtain⟨rfl,y2⟩:=y;have hx:=y2 us hq;have hd:i<ds.length:=by omega
  obtain⟨v,hv,rv⟩:=r.get (bIj hd);rw[hx]at hv;cases hv;have tk:kx (ds.take (i+1))=kx (ds.take i)++kx1 ds[i]:=by
   rw[bKt hd];unfold kx;rw[List.flatMap_append];simp
  have hset:(τ.set j (some x))[j]?=some (some x):=by rw[bIp,bIv rfl,bIv (by rw[hτ];exact hj)]
  refine⟨x,hset,_,rfl,?_⟩;rcases aNd (bLk.mp hn _ (bJr hd)) rv with ⟨e1,rfl⟩|⟨s,z,T,y',c,ws,e1,rfl,hT,hc,rz,_⟩
  .rw[bIt (by simp)]
   refine⟨us.length-(i+1),by omega,rfl,hlt,by rw[bJy,hτ],ps,rfl,by omega,hpv,s2,fr,nP,?_⟩
   rw[tk,e1];simpa [kx1] using inn
  .rw[bIv (by simp)]
   refine⟨T,y',c,ws,hset,s2 _ _ (sG _ _ hT),SqL.of (s2 _ _ (sG _ _ hc)),λn hn'=>?_⟩
   have hnP:n≠P:=λz=>by rw[z,hpv]at hn';cases hn'
   have hnp:n∉ps:=λz=>by
    obtain⟨k,hk⟩:=bJk.mp z;have hkl:k<(kx (ds.take i)).length:=by rw[<-inn.len];exact(bIk.mp hk).1
    obtain⟨p',vs',e1,e2,_⟩:=inn.get (bIj hkl);rw[hk]at e1;cases e1;rw[e2]at hn';cases hn'
   have h1n:H n=none:=by
    cases h:H n with
    |none=>rfl
    |some u=>rw[s2 _ _ h]at hn';cases hn'
   have hN:upd (upd H2 n (.lst ws)) P (.lst (ps.map V.ref++[.ref n])) n=some (.lst ws):=by rw[aY hnP,bJ]
   refine⟨by rw[aY (bL5 hnP)];exact hpv,?_,us.length-(i+1),by omega,rfl,hlt,by rw[bJy,hτ],ps++[n],by rw[bJs];rfl,by rw[bJ8];exact Nat.succ_le_succ hpl,bJ,λb u z=>?_,λp hp=>?_,λz=>?_,?_⟩
   .rw[bJ9];have:sizeLine=16777216:=by decide
    have hbg:=nG;omega
   .rw[aY (aX z hP),aY (aX z h1n)];exact s2 b u z
   .rcases bJb.mp hp with hp|hp
    .exact fr p hp
    .rw[bIu.mp hp];exact h1n
   .exact(bJb.mp z).elim nP λz=>hnP (bIu.mp z).symm
   .rw[tk,e1];refine Inn.snoc hN rz (inn.mono (bC.refl _) λp hp o e=>?_)
    have h1:p≠P:=λz=>nP (z ▸ hp)
    have h2:p≠n:=λz=>hnp (z ▸ hp)
    rw[aY h1,aY h2];exact e
 .have e:i=us.length:=by omega
  subst e;rw[hlen,bNt]at inn;refine .inl ⟨⟨us,hq,bIn _⟩,q P ps H' s2 (λp hp=>?_) hpv inn⟩
  exact(bIq.mp hp).elim (λz=>by rw[z];exact hP) (fr p)
section
variable{X:Cx}{B:List Addr}{scope:Scope}{pos pl p0 p1 p2 p3 p4 p5 p6 p7 p8:Pos}{r fd:Str}{iF iN iK j:Nat}
def bEt{k:Nat}(hm:X.mg "list"=none)(hN:X.N[j]?=some r:=by rfl)(hv:Vis X.env.scope r:=by first|exact Or.inl rfl|exact Or.inr (Or.inl rfl)|exact Or.inr (Or.inr rfl))(hd:(r==("__debug__":Str))=false:=by decide)
  (hcd:(r==("__classdict__":Str))=false:=by decide) (hg:Gl X "list":=by rfl) (hs:starEach [Expr.Subscript (.Name r p1) (.Constant (.int 1) k p2) p3] X.env=(false,eval (.Subscript (.Name r p1) (.Constant (.int 1) k p2) p3) X.env)::starEach [] X.env:=by rfl):PE X (.Call (.Name "list" p0) [.Subscript (.Name r p1) (.Constant (.int 1) k p2) p3] [] pos) (teN X.K j):=
 cN (uI aHa hg hm (by rfl) (dF (aUi aO2 (kJ hN hv hd hcd) aD6 (by intro _ _;rfl)) gU hs) (he:=hs)) (by
  rintro σ H Q ⟨T,x,c,ws,h0,h1,h2,h3⟩;exact⟨.ref T,h0,.inr (.inl ⟨T,_,1,.ref c,rfl,rfl,SqT.of h1,rfl,c,ws,rfl,.inl h2,h3⟩)⟩)
def aY3(i:Nat) (hN:X.N[i]?=some x:=by rfl) (hv:Vis X.env.scope x:=by first|exact Or.inl rfl|exact Or.inr (Or.inl rfl)|exact Or.inr (Or.inr rfl)) (hd:(x==("__debug__":Str))=false:=by decide) (hcd:(x==("__classdict__":Str))=false:=by decide):PE X (.Name x pos) (tM i):=kJ hN hv hd hcd
def bB9{x:Str} {iter c:Expr} (S:CScope X scope [j]) (hi:L2.PI X (.Name r p2) iter (aNt X.K (tM iF))) (hg:∀(C:Addr)(s₀:Shared)(H₀:Hp)(fp:List Addr),PG (cH X scope C s₀ H₀ fp) (.Name r p2) (tgJ j))
  (ht:∀(C:Addr)(s₀:Shared)(H₀:Hp)(fp:List Addr),PT (cH X scope C s₀ H₀ fp) c (tNN j)) (he:∀(C:Addr)(s₀:Shared)(H₀:Hp)(fp:List Addr),PE (cH X scope C s₀ H₀ fp) elt (teN X.K j)) (hc:X.calm=true) (hN:X.N.Nodup) (hi':X.N[iK]?=some x:=by rfl) (hx:Loc X.env.scope x:=by first|exact Or.inl rfl|exact Or.inr rfl)
  (hsw:swapsWith (.ListComp elt [⟨.Name r p2,iter,[c],0⟩] scope pos) (some (.Name x px)) spos.line X.env=pure true:=by rfl)
  (hf:X.fn x=true\/X.env.scope.names.lookup x=some .local:=by first|exact .inl rfl|exact .inr rfl|assumption) (hs:∀x,foldedSetIterable iter X.env x=pure x:=by intro _;rfl) :
  PS X (.Assign [.Name x px] (.ListComp elt [⟨.Name r p2,iter,[c],0⟩] scope pos) spos) (λDn σ H=>tLC [j] (aNt X.K (tM iF)) (tgJ j) (tNN j) (teN X.K j) σ H λv H'=>Dn.nx (σ.set iK (some v)) H'):=by
 intro pins s σ H Dn I h;rw[bMd _ _ _ _ hsw];refine bIh (bLg (bIh ?_));show wpAny _ X.A (do let _ <- comprehension (.ListComp elt [⟨.Name r p2,iter,[c],0⟩] scope pos) scope X.env _ (newList []) false (eval iter X.env) (some (assign (.Name x px) X.env))) _ _ s
 refine bIh (bKf (Q:=λ_ s'=>SP X pins Dn .next s') ?_ (λ_ s' hq=>bIx (bIx hq)) λ_ _ e=>e)
 exact vC (use:=some (assign (.Name x px) X.env)) (Qf:=λ_ s'=>SP X pins Dn .next s') (Q:=λv H'=>Dn.nx (σ.set iK (some v)) H') (tt:=tNN j) (te:=teN X.K j) (rest:=λenv it p=>isTrue c env (eval c env) >>= λok=>if ok=true then (eval elt env >>= λx=>call (.builtin "list.append") [p,x] >>= λ_=>again (.compLoop (.ListComp elt [⟨.Name r p2,iter,[c],0⟩] scope pos) 0 it p env)) else again (.compLoop (.ListComp elt [⟨.Name r p2,iter,[c],0⟩] scope pos) 0 it p env)) S hc hi (λC s₀ H₀ fp=>hg C s₀ H₀ fp) (λ_ _ _=>rE)
  (λC s₀ H₀ fp it p s Q h=>bE2 (Y:=cH X scope C s₀ H₀ fp) h) (λC s₀ H₀ fp it p τ H s pins vs N Q I h q=>aX3 (Y:=cH X scope C s₀ H₀ fp) rfl (he C s₀ H₀ fp) (ht C s₀ H₀ fp) τ H s pins vs N Q I h (λ_ Q Q' m h=>aY2 Q Q' m h) q) hs I
  h λC p H5 s5 m5 s3 H3 fp τ hC I3 hfp I5 hn5 q5=>aE1 hN hi' hx hf hC I3 hfp I5 hn5 λs' I'=>⟨_,_,I',q5⟩
def aY4(iF iN:Nat):TS:=λDn σ H=>∃a us C,σ[iF]?=some (some (.ref a))/\H a=some (.tup us)/\(∀u∈us,nV H C u)/\(∀c∈C,∃ws,H c=some (.lst ws))/\iN<σ.length/\
 ∀σ' H',σ'.length=σ.length->(∀k,k≠iN->σ'[k]?=σ[k]?)->(∀b,b∉C->H' b=H b)->(∀c∈C,∃ws,H' c=some (.lst ws))->Dn.nx σ' H'
def bBa{iter:Expr} (hi:L2.PI X tg iter (aNt X.K (tM iF))) (hg:PG X tg (tgJ iN)) (hb:PSs X body (bCb (tNN iN) (bBg (bFq X.K "list" rClear (tOp (rIx X.K) (tM iN) (L2.tC (.int 1))))) aU2)) (hp:PassesOwn (model X.prog X.w) X.A X.env X.xe) (hc:X.calm=true)
  (hs:∀x,foldedSetIterable iter X.env x=pure x:=by intro _;rfl):PS X (.For tg iter body [] pos) (aY4 iF iN):=kZ (aJn hp hc hi hg hb hs) (by
 rintro Dn σ H ⟨a,us,C,hF,ha,hu,hC,hj,q⟩;refine⟨.ref a,hF,a,rfl,⟨us,SqT.of ha⟩,λi m σ' H'=>m=us.length-i/\i<=us.length/\σ'.length=σ.length/\(∀k,k≠iN->σ'[k]?=σ[k]?)/\(∀b,b∉C->H' b=H b)/\∀c∈C,∃ws,H' c=some (.lst ws),⟨us.length,by simp,bK6 _,rfl,λ_ _=>rfl,λ_ _=>rfl,hC⟩,?_⟩
 rintro i m σ' H' ⟨rfl,hi,hl,hk,hb,hc'⟩;have tup:∀{T:Addr}{xs:List V},H T=some (.tup xs)->H' T=some (.tup xs):=λ{T xs} e=>by
  rw[hb T λz=>?_]
  .exact e
  .obtain⟨ws,e'⟩:=hC T z;rw[e]at e';cases e'
 have hq:=SqT.of (K:=X.K) (tup ha)
 by_cases hlt:i<us.length
 .refine .inr ⟨⟨us,us[i],hq,bIj hlt⟩,λσ2 H2=>i+1<=us.length/\σ2.length=σ.length/\(∀k,k≠iN->σ2[k]?=σ[k]?)/\(∀b,b∉C->H2 b=H b)/\∀c∈C,∃ws,H2 c=some (.lst ws),?_,λx H2 y=>?_⟩
  .rintro σ2 H2 ⟨h1,h2,h3,h4,h5⟩;exact⟨us.length-(i+1),by omega,rfl,h1,h2,h3,h4,h5⟩
  obtain⟨rfl,y2⟩:=y;have hx:=y2 us hq;have hset:(σ'.set iN (some x))[iN]?=some (some x):=by rw[bIp,bIv rfl,bIv (by rw[hl];exact hj)]
  have hlen:(σ'.set iN (some x)).length=σ.length:=by rw[bJy,hl]
  have hoth:∀k,k≠iN->(σ'.set iN (some x))[k]?=σ[k]?:=λk hk'=>by rw[bIp,bIt (bL5 hk')];exact hk k hk'
  refine⟨x,hset,_,rfl,?_⟩;rcases hu x (bJd hx) with rfl|⟨T,y,c,rfl,hT,hcC⟩
  .rw[bIt (by simp)]
   exact⟨hlt,hlen,hoth,hb,hc'⟩
  .rw[bIv (by simp)]
   obtain⟨ws,hw⟩:=hc' c hcC;refine⟨.ref T,hset,.inr (.inl ⟨T,_,1,.ref c,rfl,rfl,SqT.of (tup hT),rfl,.inl ⟨rfl,ws,SqL.of hw⟩,c,ws,rfl,rfl,hw,hlt,hlen,hoth,λb hb'=>?_,λc2 hc2=>?_⟩)⟩
   .rw[aY λz:b=c=>hb' (z ▸ hcC)];exact hb b hb'
   .by_cases e:c2=c
    .rw[e];exact⟨[],bJ⟩
    .rw[aY e];exact hc' c2 hc2
 .have e:i=us.length:=by omega
  subst e;exact .inl ⟨⟨us,hq,bIn _⟩,q σ' H' hl hk hb hc'⟩)
end
def tZ(K:Frag)(B:List Addr)(b:Bd):TS:=λDn σ H=>∃A st d,RS K B A H st σ/\b st=.ok (.rt d)/\∀v H',Rep K H' d v->Dn.rt v H'
section
variable {s3 s4:Stmt} {rest:List Stmt} {iF iN iK:Nat}
def aE4(h1:PS X sm (tS X.K B bd))(h2:PSs X rest (tZ X.K B bd')):PSs X (sm::rest) (tZ X.K B (bG bd bd')):=oX (pH h1 h2) (by
 rintro Dn σ H ⟨A,st,d,rs,hb,q⟩;unfold bG aBz at hb;obtain⟨fl,hfl,h3⟩:=R.ok_of hb;refine⟨A,st,fl,rs,hfl,?_⟩;cases fl with
 |nx s1=>exact λA' σ' H' l rs'=>⟨A',s1,d,rs',h3,q⟩
 |rt d'=>cases h3;exact λA' v H' _ rv=>q v H' (rv.mono (bI _ _))
 |bk s1=>cases h3
 |ct s1=>cases h3)
def bH9{o:Option Sl} (h:cl1 o=some (.v d)):o=some (.v d)/\ntx d=true:=by
 unfold cl1 at h;split at h
 .split at h
  .cases h;exact⟨rfl,by assumption⟩
  .cases h
 .split at h<;>cases h
 .cases h
def bC2{o:Option Sl}{k:OK} (h:cl1 o=some (.o k xs)):o=some (.o k xs)/\rP xs=true:=by
 unfold cl1 at h;split at h
 .split at h<;>cases h
 .split at h
  .cases h;exact⟨rfl,by assumption⟩
  .cases h
 .cases h
def bBb(h3:PS X s3 (λDn σ H=>tLC [j] (aNt X.K (tM iF)) (tgJ j) (tNN j) (teN X.K j) σ H λv H'=>Dn.nx (σ.set iK (some v)) H'))(h4:PS X s4 (aY4 iF iN))(hr:PSs X rest (tS X.K B bd))(hN:decide (iN<X.N.length/\iK<X.N.length/\j<X.N.length/\iF≠iK/\iF≠iN/\iN≠iK)=true:=by rfl) :
  PSs X (s3::s4::rest) (tZ X.K B (bG (aK1 iF iN iK) bd)):=by
 obtain⟨lN,lK,lj,nFK,nFN,nNK⟩:=bJi hN;rintro pins s σ H Dn I ⟨A,st,d,rs,hb,p⟩;refine pH h3 (pH h4 hr) pins s σ H Dn I ?_
 have hσ:σ.length=X.N.length:=I.len;unfold bG aBz at hb;obtain⟨fl,hfl,hb2⟩:=R.ok_of hb;unfold aK1 at hfl;split at hfl
 .rename_i ds e0;obtain⟨⟨hl,hn⟩,hfl⟩:=aK hfl;cases hfl;obtain⟨v,hF,rv⟩:=rs.val iF _ e0;obtain⟨a,us,rfl,ha,ru⟩:=lE.mp rv;obtain⟨C,hC,hu⟩:=aNe hn ru;have sG:=bI (A++B) H;change tLC [j] (aNt X.K (tM iF)) (tgJ j) (tNN j) (teN X.K j) σ H λv H'=>bF8 (aY4 iF iN) (tS X.K B bd) Dn (σ.set iK (some v)) H'
  refine bEs sG hF (sG _ _ ha) ru hn hl (by rw[hσ];exact lj) λP ps H1 s1 fr hP inn=>?_
  have C1:∀c∈C,∃z ws,H1 c=some (.lst (.str z::ws)):=λc hc=>let ⟨z,ws,e⟩:=hC c hc;⟨z,ws,s1 _ _ (sG _ _ e)⟩
  refine⟨a,us,C,by rw[bIp,bIt (bL5 nFK)];exact hF,s1 _ _ (sG _ _ ha),λu h=>(hu u h).mono (sG.trans s1) λ_ z=>z,λc hc=>let ⟨z,ws,e⟩:=C1 c hc;⟨_,e⟩,by rw[bJy,hσ];exact lN,λσ2 H2 g1 g2 g3 g4=>?_⟩
  have outC:∀b∈A++B,b∉C:=λb hb z=>by
   obtain⟨z,ws,e⟩:=hC b z;rw[eU hb]at e;cases e
  have bH1:∀b,H b=none->b∉C:=λb e z=>by
   obtain⟨z,ws,e'⟩:=hC b z;rw[sG _ _ e']at e;cases e
  have sm:bC (hide C (hide (A++B) H)) (hide (A++B) H2):=λb o z=>by
   have hbC:b∉C:=λy=>by rw[eU y]at z;cases z
   rw[bZ hbC]at z;have hbA:b∉A++B:=λy=>by rw[eU y]at z;cases z
   rw[bZ hbA]at z ⊢;rw[g3 b hbC];exact s1 _ _ z
  have same:∀i,i≠iK->i≠iN->σ2[i]?=σ[i]?:=λi h1 h2=>by rw[g2 i h2,bIp,bIt (bL5 h1)]
  have old:∀i (x:Sl),(((st.map cl1).set iN none).set iK (some (.v (.lst ((kx ds).map D.lst)))))[i]?=some (some x)->i≠iK->i≠iN/\∃o,st[i]?=some o/\cl1 o=some x:=λi x e h=>by
   rw[bIp,bIt (bL5 h),bIp]at e
   by_cases h2:iN=i
   .rw[bIv h2]at e;split at e<;>cases e
   .rw[bIt h2,bK3]at e;cases ho:st[i]? with
    |none=>rw[ho]at e;cases e
    |some o=>rw[ho]at e;exact⟨bL5 h2,o,rfl,bJ3 e⟩
  have hlK:iK<((st.map cl1).set iN none).length:=by rw[bJy,bJ9,rs.len,hσ];exact lK
  refine⟨A,_,_,⟨?_,?_,rs.dis,?_,?_⟩,hb2,λA' v H' _ rv=>p v H' (rv.mono (bI _ _))⟩
  .rw[bJy,bJy,bJ9,rs.len,g1,bJy]
  .intro b hb;rw[g3 b (outC b hb)];exact(rs.own.mono s1) b hb
  .intro i d' e
   by_cases hiK:i=iK
   .subst hiK;rw[bIp,bIv rfl,bIv hlK]at e;cases e;refine⟨.ref P,by rw[g2 i (bL5 nNK),bIp,bIv rfl,bIv (by rw[hσ];exact lK)],?_⟩
    have at2:∀b∈P::ps,∀o,H1 b=some o->hide (A++B) H2 b=some o:=λb hb o e=>by
     rw[bZ (rs.own.free (fr b hb)),g3 b (bH1 b (fr b hb))];exact e
    have reps:∀(xss:List (List D)) (ps:List Addr),(∀b∈ps,∀o,H1 b=some o->hide (A++B) H2 b=some o)->Inn X.K noH H1 xss ps->bD X.K (hide (A++B) H2) (xss.map D.lst) (ps.map V.ref):=by
     intro xss
     induction xss with
     |nil=>intro ps _ h;rw[show ps=[] from h];exact .nil
     |cons ys xss ih=>
      intro ps hz h;obtain⟨p',r',vs',rfl,h1,h2,h3⟩:=h;exact .cons (eN.mpr ⟨p',vs',rfl,hz p' bIm _ h1,h2.mono aRs⟩) (ih r' (λb hb=>hz b (bIl _ hb)) h3)
    exact eN.mpr ⟨P,_,rfl,at2 P bIm _ hP,reps _ _ (λb hb=>at2 b (bIl _ hb)) inn⟩
   .obtain⟨hiN,o,e1,e2⟩:=old i _ e hiK;obtain⟨rfl,n⟩:=bH9 e2;obtain⟨v,e3,q⟩:=rs.val i _ e1;exact⟨v,by rw[same i hiK hiN];exact e3,(q.off hC n).mono sm⟩
  .intro i k xs e;have hiK:i≠iK:=λz=>by
    subst z;rw[bIp,bIv rfl,bIv hlK]at e;cases e
   obtain⟨hiN,o,e1,e2⟩:=old i _ e hiK;obtain⟨rfl,n⟩:=bC2 e2;obtain⟨b,o',vs,q1,q2,q3,q4,q5,q6⟩:=rs.lst i _ _ e1;refine⟨b,o',vs,by rw[same i hiK hiN];exact q1,q2,by rw[g3 b (outC b (bIw _ q2))];exact s1 _ _ q3,q4,(q5.off hC n).mono sm,λi2 k' ys e' h'=>?_⟩
   have h2K:i2≠iK:=λz=>by
    subst z;rw[bIp,bIv rfl,bIv hlK]at e';cases e'
   obtain⟨h2N,o2,f1,f2⟩:=old i2 _ e' h2K;obtain⟨rfl,_⟩:=bC2 f2;exact q6 i2 k' ys f1 (by rw[<-same i2 h2K h2N];exact h')
 .cases hfl
end
def spZ(K:Frag)(np:Nat)(p:List D->R D):Sp:=λvs H Q _=>∃A ds d,Own A H/\bD K (hide A H) ds vs/\ds.length=np/\p ds=.ok d/\∀v H',Rep K H' d v->Q v H'
def bBc{K:Frag} {a:Addr} {E:XK} (hS:SqL K H a (ns.map V.int)) (h:p [.lst (ns.map D.int)]=.ok (.bl true)):spZ K 1 p [.ref a] H (λv _=>v=.bl true) E:=
 ⟨[],[.lst (ns.map D.int)],.bl true,λb hb=>absurd hb (by simp),by rw[vB];exact aP5 hS,rfl,h,λv H' r=>cL.mp r⟩
def bIe{K:Frag} {st:Stmt} {f:Addr} {k:Nat} (F:FunD K x qual st dV f fd) (S:FnScope N ps (aG st)) (np n:Nat) (bd:Bd) (hnp:ps.length=np) (hn:N.length=n)
  (hb:∀(cdv:Value)(A:Around)(outer:List Env)(s:Shared)(H:Hp)(E:XK)(B:List Addr),Room k (A.deeper (envOfC qual (aG st) s.heap.objs.size f cdv))->
   PSs (aF6 CX0 P w K mg base N qual (aG st) f cdv A outer s H E).nox (dJ st) (tZ K B bd)):FnOk P w K mg base CX0 (k+1) f fd ps (spZ K np (bGe np n bd)):=by
 refine F.okX S (λvs H Q E h=>?_) (λcdv A outer s H vs Q E hr h=>?_)
 .obtain⟨A,ds,d,own,r,hl,_⟩:=h;rw[r.length,hl,hnp]
 .obtain⟨B,ds,d,own,r,hl,hp,q⟩:=h;refine⟨tZ K B bd,hb cdv A outer s H E B hr,?_⟩;obtain⟨_,h2⟩:=aK hp;obtain⟨fl,hfl,h3⟩:=R.ok_of h2;have rs:=aCl (N:=N) own r;rw[hl,hn]at rs;cases fl with
  |rt d'=>cases h3;exact⟨[],_,_,rs,hfl,q⟩
  |nx s1=>exact nomatch h3
  |bk s1=>exact nomatch h3
  |ct s1=>exact nomatch h3
end Pu
set_option maxHeartbeats 4000000
namespace Pu
open PySem PySem.Spec PyProof.Rows L2
def top(i:Nat):Stmt:=PySem.Challenge.pw_looprank_k32_nests_walked.main.body.getD i (.Pass ⟨0,0,0,0⟩)
def inCls(s:Stmt)(j:Nat):Stmt:=match s with
 |.ClassDef _ _ _ b _ _ _ _ _ _ _=>b.getD j (.Pass ⟨0,0,0,0⟩)
 |_=>.Pass ⟨0,0,0,0⟩
abbrev zN:Stmt:=top 43
abbrev aBn:Stmt:=top 44
abbrev rG:Stmt:=top 45
abbrev wH:Stmt:=top 46
abbrev zO:Stmt:=top 50
abbrev rH:Stmt:=top 47
abbrev wI:Stmt:=top 48
abbrev zP:Stmt:=top 51
abbrev aBo:Stmt:=top 21
abbrev aBp:Stmt:=top 22
abbrev aE5:Stmt:=top 20
abbrev wJ:Stmt:=top 24
abbrev wK:Stmt:=top 26
abbrev uC:Stmt:=top 27
abbrev wL:Stmt:=top 28
abbrev zQ:Stmt:=top 23
abbrev zR:Stmt:=top 25
abbrev uD:Stmt:=top 37
abbrev aBq:Stmt:=top 30
abbrev aE6:Stmt:=top 31
abbrev uE:Stmt:=top 35
abbrev uF:Stmt:=top 36
abbrev uG:Stmt:=top 38
abbrev zT:Stmt:=top 17
abbrev pX:Stmt:=top 18
abbrev aE7:Stmt:=top 29
abbrev aHm:Stmt:=top 32
abbrev cU:Stmt:=inCls (top 15) 3
abbrev aBr:Stmt:=top 33
abbrev aE8:Stmt:=top 39
abbrev rJ:Stmt:=top 40
abbrev aL1:Stmt:=top 41
abbrev zU:Stmt:=top 53
abbrev aBs:Stmt:=top 49
abbrev rK:Stmt:=top 52
abbrev wM:Stmt:=top 55
abbrev aBt:Stmt:=top 54
abbrev oH:Stmt:=top 56
abbrev oJ:Stmt:=top 11
abbrev aBu:Stmt:=top 9
abbrev aBv:Stmt:=top 10
abbrev aHn:Stmt:=top 12
abbrev zV:Stmt:=top 13
abbrev zW:Stmt:=top 14
abbrev dU:Stmt:=inCls (top 15) 0
abbrev aCt:Stmt:=top 57
theorem aCu:FnScope ["_law_script","_law_k"] ["_law_script","_law_k"] (aG zN):=⟨rfl,rfl,rfl,by decide+kernel,rfl,by decide+kernel,by decide+kernel⟩
theorem aEx:FnScope ["_law_cell_here","_law_k","_law_many","_law_number"] ["_law_cell_here","_law_k","_law_many"] (aG aBn):=⟨rfl,rfl,rfl,by decide+kernel,rfl,by decide+kernel,by decide+kernel⟩
theorem xH:FnScope ["_law_script","_law_at","_law_most","_law_cell_here","_law_rooms","_law_letters","_law_factor","_law_steps","_law_ranks","_law_room","_law_one","_law_row","_law_rank","_law_k"] ["_law_script","_law_at","_law_most"] (aG rG):=⟨rfl,rfl,rfl,by decide+kernel,rfl,by decide+kernel,by decide+kernel⟩
theorem aAy:FnScope ["_law_steps","_law_bits","_law_room","_law_found","_law_at","_law_goal"] ["_law_steps","_law_bits","_law_room"] (aG wH):=⟨rfl,rfl,rfl,by decide+kernel,rfl,by decide+kernel,by decide+kernel⟩
theorem aCv:FnScope ["_law_steps","_law_room"] ["_law_steps"] (aG zO):=⟨rfl,rfl,rfl,by decide+kernel,rfl,by decide+kernel,by decide+kernel⟩
theorem xJ:FnScope ["_law_steps","_law_bits","_law_rooms","_law_room"] ["_law_steps","_law_bits"] (aG rH):=⟨rfl,rfl,rfl,by decide+kernel,rfl,by decide+kernel,by decide+kernel⟩
theorem aAz:FnScope ["_law_steps","_law_bits"] ["_law_steps"] (aG wI):=⟨rfl,rfl,rfl,by decide+kernel,rfl,by decide+kernel,by decide+kernel⟩
theorem aCw:FnScope ["_law_steps","_law_seen_here","_law_bits"] ["_law_steps"] (aG zP):=⟨rfl,rfl,rfl,by decide+kernel,rfl,by decide+kernel,by decide+kernel⟩
theorem aEy:FnScope ["bits","room"] ["bits","room"] (aG aBo):=⟨rfl,rfl,rfl,by decide+kernel,rfl,by decide+kernel,by decide+kernel⟩
theorem aEz:FnScope ["bits","room"] ["bits"] (aG aBp):=⟨rfl,rfl,rfl,by decide+kernel,rfl,by decide+kernel,by decide+kernel⟩
theorem aHo:FnScope ["rooms","bits","room"] ["rooms"] (aG aE5):=⟨rfl,rfl,rfl,by decide+kernel,rfl,by decide+kernel,by decide+kernel⟩
theorem aB0:FnScope ["steps","allowed","rooms","seen","room","middle"] ["steps","allowed"] (aG wJ):=⟨rfl,rfl,rfl,by decide+kernel,rfl,by decide+kernel,by decide+kernel⟩
theorem aB1:FnScope ["steps","part","rooms"] ["steps","part"] (aG wK):=⟨rfl,rfl,rfl,by decide+kernel,rfl,by decide+kernel,by decide+kernel⟩
theorem zX:FnScope ["steps","allowed","seen","parts","room","part","other"] ["steps","allowed"] (aG uC):=⟨rfl,rfl,rfl,by decide+kernel,rfl,by decide+kernel,by decide+kernel⟩
theorem aB2:FnScope ["machine","allowed"] ["machine","allowed"] (aG wL):=⟨rfl,rfl,rfl,by decide+kernel,rfl,by decide+kernel,by decide+kernel⟩
theorem aCx:FnScope ["machine"] ["machine"] (aG zQ):=⟨rfl,rfl,rfl,by decide+kernel,rfl,by decide+kernel,by decide+kernel⟩
theorem aCy:FnScope ["machine","room"] ["machine","room"] (aG zR):=⟨rfl,rfl,rfl,by decide+kernel,rfl,by decide+kernel,by decide+kernel⟩
theorem zY:FnScope ["machine"] ["machine"] (aG uD):=⟨rfl,rfl,rfl,by decide+kernel,rfl,by decide+kernel,by decide+kernel⟩
theorem aF0:FnScope ["machine","bits","room"] ["machine","bits"] (aG aBq):=⟨rfl,rfl,rfl,by decide+kernel,rfl,by decide+kernel,by decide+kernel⟩
theorem aHp:FnScope ["machine","bits"] ["machine","bits"] (aG aE6):=⟨rfl,rfl,rfl,by decide+kernel,rfl,by decide+kernel,by decide+kernel⟩
theorem zZ:FnScope ["machine","loop","rank","room"] ["machine","loop"] (aG uE):=⟨rfl,rfl,rfl,by decide+kernel,rfl,by decide+kernel,by decide+kernel⟩
theorem aA0:FnScope ["machine","loop","found","left","rest","part"] ["machine","loop"] (aG uF):=⟨rfl,rfl,rfl,by decide+kernel,rfl,by decide+kernel,by decide+kernel⟩
theorem rM:FnScope ["machine","loop","good","longest","inner","row"] ["machine","loop","good"] (aG uG):=⟨rfl,rfl,rfl,by decide+kernel,rfl,by decide+kernel,by decide+kernel⟩
theorem aCz:FnScope ["steps","start","allowed","ways","met","place","here","letter","room"] ["steps","start","allowed"] (aG zT):=⟨rfl,rfl,rfl,by decide+kernel,rfl,by decide+kernel,by decide+kernel⟩
theorem vG:FnScope ["machine","ways"] ["machine"] (aG pX):=⟨rfl,rfl,rfl,by decide+kernel,rfl,by decide+kernel,by decide+kernel⟩
theorem aHq:FnScope ["machine","bits"] ["machine","bits"] (aG aE7):=⟨rfl,rfl,rfl,by decide+kernel,rfl,by decide+kernel,by decide+kernel⟩
theorem aJf:FnScope ["machine","allowed","room","goal"] ["machine","allowed","room","goal"] (aG aHm):=⟨rfl,rfl,rfl,by decide+kernel,rfl,by decide+kernel,by decide+kernel⟩
theorem mV:FnScope ["self","room","text","rooms","letter"] ["self","room","text"] (aG cU):=⟨rfl,rfl,rfl,by decide+kernel,rfl,by decide+kernel,by decide+kernel⟩
theorem aF1:FnScope ["machine","bits","room","text","here","goal"] ["machine","bits","room"] (aG aBr):=⟨rfl,rfl,rfl,by decide+kernel,rfl,by decide+kernel,by decide+kernel⟩
theorem aHr:FnScope ["machine","row","entries","room","front","entry","loop"] ["machine","row"] (aG aE8):=⟨rfl,rfl,rfl,by decide+kernel,rfl,by decide+kernel,by decide+kernel⟩
theorem xK:FnScope ["machine","good","longest","loop","row"] ["machine","good"] (aG rJ):=⟨rfl,rfl,rfl,by decide+kernel,rfl,by decide+kernel,by decide+kernel⟩
theorem aNf:FnScope ["machine"] ["machine"] (aG aL1):=⟨rfl,rfl,rfl,by decide+kernel,rfl,by decide+kernel,by decide+kernel⟩
theorem aD0:FnScope ["_law_bits","_law_k"] ["_law_bits"] (aG zU):=⟨rfl,rfl,rfl,by decide+kernel,rfl,by decide+kernel,by decide+kernel⟩
theorem aF2:FnScope ["_law_ranks","_law_bits","_law_room"] ["_law_ranks","_law_bits"] (aG aBs):=⟨rfl,rfl,rfl,by decide+kernel,rfl,by decide+kernel,by decide+kernel⟩
theorem xM:FnScope ["_law_loops_here","_law_ranks","_law_odd","_law_longest_here","_law_bits","_law_mine","_law_best","_law_other"] ["_law_loops_here","_law_ranks","_law_odd"] (aG rK):=⟨rfl,rfl,rfl,by decide+kernel,rfl,by decide+kernel,by decide+kernel⟩
theorem aB3:FnScope ["_law_found","_law_letters","_law_word","_law_letter"] ["_law_found","_law_letters"] (aG wM):=⟨rfl,rfl,rfl,by decide+kernel,rfl,by decide+kernel,by decide+kernel⟩
theorem aF3:FnScope ["_law_steps","_law_room","_law_word","_law_rooms","_law_letter"] ["_law_steps","_law_room","_law_word"] (aG aBt):=⟨rfl,rfl,rfl,by decide+kernel,rfl,by decide+kernel,by decide+kernel⟩
theorem sV:FnScope ["_law_steps","_law_ranks","_law_nest","_law_odd","_law_letters","_law_room","_law_inner","_law_word","_law_rooms","_law_letter","_law_one"] ["_law_steps","_law_ranks","_law_nest","_law_odd"] (aG oH):=⟨rfl,rfl,rfl,by decide+kernel,rfl,by decide+kernel,by decide+kernel⟩
theorem sW:FnScope ["thing","most"] ["thing","most"] (aG oJ):=⟨rfl,rfl,rfl,by decide+kernel,rfl,by decide+kernel,by decide+kernel⟩
theorem aF4:FnScope ["thing"] ["thing"] (aG aBu):=⟨rfl,rfl,rfl,by decide+kernel,rfl,by decide+kernel,by decide+kernel⟩
theorem aF5:FnScope ["thing","limit"] ["thing","limit"] (aG aBv):=⟨rfl,rfl,rfl,by decide+kernel,rfl,by decide+kernel,by decide+kernel⟩
theorem aJg:FnScope ["thing","letters","rooms","room"] ["thing","letters","rooms"] (aG aHn):=⟨rfl,rfl,rfl,by decide+kernel,rfl,by decide+kernel,by decide+kernel⟩
theorem aD1:FnScope ["thing","row"] ["thing"] (aG zV):=⟨rfl,rfl,rfl,by decide+kernel,rfl,by decide+kernel,by decide+kernel⟩
theorem aD2:FnScope ["thing","rooms","rank"] ["thing","rooms"] (aG zW):=⟨rfl,rfl,rfl,by decide+kernel,rfl,by decide+kernel,by decide+kernel⟩
theorem qD:FnScope ["self","steps","ranks","row"] ["self","steps","ranks"] (aG dU):=⟨rfl,rfl,rfl,by decide+kernel,rfl,by decide+kernel,by decide+kernel⟩
theorem aY5:FnScope ["_law_script","_law_machine_here","_law_loops_here","_law_found","_law_odd","_law_kept","_law_nest","_law_steps","_law_ranks","_law_due","_law_row"] ["_law_script"] (aG aCt):=⟨rfl,rfl,rfl,by decide+kernel,rfl,by decide+kernel,by decide+kernel⟩
section
variable{P:Program}{w:World}{K:Frag}{mg:Str->Option Value}{base:Heap}{fa:Addr}{fd:FuncData}{dV:Value}
variable(bO:mg "len"=none)
include bO in
theorem aNg(F:FunD K "_law_cell" "_law_cell" zN dV fa fd):FnOk P w K mg base CX0 1 fa fd ["_law_script","_law_k"] (spI K 2 gO):=by
 refine cW (k:=0) F aCu 2 2 aEi rfl rfl λcdv A outer s H E B hr=>?_
 have nd:=aCu.nd;refine aO ?_ ?_
 .exact lB (bR aPw aFq (toP (aB 1)) (toP (fL bO (toP (aB 0)))) (bN _)) (bA (bT (eE hr.units (toP (aB 0)) (toP (aB 1))))) fK
 refine aO ?_ ?_
 .exact lB (bR (fM hr.units) fO (toP (aB 0)) (toP (mJ aU)) (bN _)) (bA (bT (wC (toP aQ) (toP (aB 1))))) fK
 exact bA (bT (nD (toP (aP4 (toP (eE hr.units (toP (aB 0)) (toP (rC (toP (aB 1)) (toP (fL bO (toP (aB 0)))))))) (toP (nD (toP (aB 1)) (toP aQ))))) (toP (wC (toP aQ) (toP (aB 1))))))
theorem aPk(F:FunD K "_law_mix" "_law_mix" aBn dV fa fd):FnOk P w K mg base CX0 1 fa fd ["_law_cell_here","_law_k","_law_many"] (spI K 3 cA):=by
 refine cW (k:=0) F aEx 3 4 aB5 rfl rfl λcdv A outer s H E B hr=>?_
 have nd:=aEx.nd;refine aO ?_ ?_
 .exact cJ 3 (rC (toP (wC (toP (nD (toP (rC (toP (aB 0)) (toP aQ))) (toP (wC (toP aQ) (toP (aB 1)))))) (toP aQ))) (toP aQ)) nd
 refine aO ?_ ?_
 .exact cJ 3 (rC (toP (wC (toP (rC (toP (wC (toP (aB 3)) (toP (aB 3)))) (toP aQ))) (toP aQ))) (toP aQ)) nd
 exact bA (bT (rC (toP (rC (toP (wC (toP (aB 3)) (toP (aB 3)))) (toP aQ))) (toP (aB 2))))
variable(lV:DefOk P w K mg base "_law_cell" 1 2 gO)
variable(dX:DefOk P w K mg base "_law_mix" 1 3 cA)
variable(cP:mg "range"=none)
include lV dX cP in
theorem aHs(F:FunD K "_law_machine" "_law_machine" rG dV fa fd):FnOk P w K mg base CX0 2 fa fd ["_law_script","_law_at","_law_most"] (spI K 3 jB):=by
 refine cW (k:=1) F xH 3 14 yJ rfl rfl λcdv A outer s H E B hr=>?_
 have nd:=xH.nd;refine aO ?_ ?_
 .exact cJ 3 (aJ lV hr (by decide) (aD (aB 0) (aD (aB 1) aU))) nd
 refine aO ?_ ?_
 .exact cJ 4 (nD (toP aQ) (toP (aJ dX hr (by decide) (aD (aB 3) (aD aQ (aD (eE hr.units (toP (mJ (aD aQ (aD aQ (aD aQ (aD (aB 2) aU)))))) (toP (aJ dX hr (by decide) (aD (aB 3) (aD aQ (aD aQ aU)))))) aU)))))) nd
 refine aO ?_ ?_
 .exact cJ 5 (nD (toP aQ) (toP (aJ dX hr (by decide) (aD (aB 3) (aD aQ (aD aQ aU)))))) nd
 refine aO ?_ ?_
 .exact cJ 6 (eE hr.units (toP (mJ (aD aQ (aD aQ (aD aQ (aD (nD (toP aQ) (toP (wC (toP aQ) (toP (rC (toP (aJ lV hr (by decide) (aD (aB 0) (aD (nD (toP (aB 1)) (toP aQ)) aU)))) (toP (bGj (toP aQ) (toP aQ)))))))) aU)))))) (toP (aJ dX hr (by decide) (aD (aB 3) (aD aQ (aD aQ aU)))))) nd
 refine aO ?_ ?_
 .exact vZ 7 (aCj aU) nd
 refine aO ?_ ?_
 .exact vZ 8 (aCj aU) nd
 refine aO ?_ ?_
 .exact nF (aH1 cP (toP (aB 4))) (bW 9 nd) (aO (by exact cJ 10 (aJ lV hr (by decide) (aD (aB 0) (aD (nD (toP (nD (toP (aB 1)) (toP aQ))) (toP (aB 9))) aU))) nd) (by exact aO (by exact aRt 11 [13] gQ (.of rfl) (aH1 cP (toP (aB 5))) (λ_ _ _ _ _=>bW 13 nd) (λ_ _ _ _ _=>aJ dX hr (by decide) (aD (aB 10) (aD (nD (toP aQ) (toP (aB 13))) (aD (aB 4) aU)))) rfl nd) (by exact aO (by exact cJ 12 (aJ dX hr (by decide) (aD (aB 10) (aD aQ (aD aQ aU)))) nd) (by exact aO (by exact lB (bR (fM hr.units) fO (toP (aJ dX hr (by decide) (aD (aB 3) (aD aQ (aD aQ aU))))) (toP aQ) (bN _)) (aO (by exact aRt 11 [13] gQ (.of rfl) (aH1 cP (toP (aB 5))) (λ_ _ _ _ _=>bW 13 nd) (λ_ _ _ _ _=>rC (toP (aP4 (toP (aB 10)) (toP (eE hr.units (toP (mJ (aD aQ (aD aQ (aD aQ aU))))) (toP (aB 13)))))) (toP (aB 4))) rfl nd) (by exact bA (cJ 12 (rC (toP (aP4 (toP (aB 10)) (toP aQ))) (toP aQ)) nd))) (bA (lB (PW.pt (aGx (bR (fM hr.units) fO (toP (aJ dX hr (by decide) (aD (aB 3) (aD aQ (aD aQ aU))))) (toP aQ) (bN _)) (aBk (bR aFt aDx (toP (aJ dX hr (by decide) (aD (aB 10) (aD aQ (aD aQ aU))))) (toP aQ) (bN _))))) (bA (bGy 11 (toP (aJ dX hr (by decide) (aD (aB 10) (aD aQ (aD (aB 5) aU))))) (rC (toP (nD (toP (aB 9)) (toP aQ))) (toP (aB 4))))) fK))) (by exact aO (by exact aMl [11] (aCo 7 (aB 11))) (by exact bA (aCo 8 (wC (toP (aB 12)) (toP (aB 6)))))))))) bJc rfl
 exact bA (aMl [7,8] (bT (aWu (aD (aB 7) (aD (aB 8) aU)))))
include bO in
theorem aL2(F:FunD K "_law_ahead" "_law_ahead" wH dV fa fd):FnOk P w K mg base CX0 1 fa fd ["_law_steps","_law_bits","_law_room"] (spI K 3 gY):=by
 refine cW (k:=0) F aAy 3 6 vL rfl rfl λcdv A outer s H E B hr=>?_
 have nd:=aAy.nd;refine aO ?_ ?_
 .exact vZ 3 (aCj (aD (aB 2) aU)) nd
 refine aO ?_ ?_
 .exact cJ 4 aQ nd
 refine aO ?_ ?_
 .exact aKi 100000 (bR aPw aFq (toP (aB 4)) (toP (fL bO (oE 3))) (bN _)) (aO (by exact nF (jJ (eE hr.units (toP (aB 0)) (toP (eE hr.units (oE 3) (toP (aB 4)))))) (bW 5 nd) (bA (lB (PW.pt (aGx (bR (fM hr.units) fO (toP (aE2 (toP (aN1 (toP (aB 1)) (toP (aB 5)))) (toP aQ))) (toP aQ) (bN _)) (aBk (bR (oF hr.units) oG (toP (aB 5)) (oE 3) rfl)))) (bA (aCo 3 (aB 5))) fK)) bJc rfl) (by exact bA (cJ 4 (nD (toP (aB 4)) (toP aQ)) nd))) bJc
 exact bA (aMl [3] (bT (aB 3)))
variable(iC:DefOk P w K mg base "_law_ahead" 1 3 gY)
variable(aS3:mg "sum"=none)
include bO iC aS3 in
theorem aNh(F:FunD K "_law_seen" "_law_seen" zO dV fa fd):FnOk P w K mg base CX0 2 fa fd ["_law_steps"] (spI K 1 rY):=by
 refine cW (k:=1) F aCv 1 2 aEj rfl rfl λcdv A outer s H E B hr=>?_
 have nd:=aCv.nd;exact bA (bT (bH0 aS3 rfl (toP (rF [1] gQ (.of rfl) (jJ (aJ iC hr (by decide) (aD (aB 0) (aD (bBu (toP (aN0 (toP aQ) (toP (fL bO (toP (aB 0)))))) (toP aQ)) (aD aQ aU))))) (λ_ _ _ _ _=>bW 1 nd) (λ_ _ _ _ _=>aN0 (toP aQ) (toP (aB 1))) rfl))))
include bO cP iC in
theorem aHt(F:FunD K "_law_is_loop" "_law_is_loop" rH dV fa fd):FnOk P w K mg base CX0 2 fa fd ["_law_steps","_law_bits"] (spI K 2 lY):=by
 refine cW (k:=1) F xJ 2 4 yL rfl rfl λcdv A outer s H E B hr=>?_
 have nd:=xJ.nd;refine aO ?_ ?_
 .exact aMv 2 [3] gQ (.of rfl) (aH1 cP (toP (fL bO (toP (aB 0))))) (λ_ _ _ _ _=>bW 3 nd) (λ_ _ _ _ _=>bR (fM hr.units) fO (toP (aE2 (toP (aN1 (toP (aB 1)) (toP (aB 3)))) (toP aQ))) (toP aQ) (bN _)) (λ_ _ _ _ _=>aB 3) rfl nd
 refine aO ?_ ?_
 .exact nF (jJ (aB 2)) (bW 3 nd) (bA (lB (bR (mL hr.units) mO (toP (fL bO (toP (aJ iC hr (by decide) (aD (aB 0) (aD (aB 1) (aD (aB 3) aU))))))) (toP (fL bO (toP (aB 2)))) (bN _)) (bA (bT xU)) fK)) bJc rfl
 exact bA (bT (bGl (lA aFt aDx (toP (fL bO (toP (aB 2)))) (toP aQ) (bN _)) (bBv (aEv (lA (fM hr.units) fO (toP (fL bO (toP (aB 2)))) (toP aQ) (bN _)) (aDy (lA (aPa hr.units) aPb (toP (eE hr.units (toP (aB 2)) (toP aQ))) (toP (eE hr.units (toP (aB 0)) (toP (eE hr.units (toP (aB 2)) (toP aQ))))) rfl))))))
variable(mW:DefOk P w K mg base "_law_is_loop" 2 2 lY)
include bO cP mW in
theorem aL3(F:FunD K "_law_loops" "_law_loops" wI dV fa fd):FnOk P w K mg base CX0 3 fa fd ["_law_steps"] (spI K 1 qI):=by
 refine cW (k:=2) F aAz 1 2 vM rfl rfl λcdv A outer s H E B hr=>?_
 have nd:=aAz.nd;exact bA (bT (jK [1] gQ (.of rfl) (bGp cP (toP aQ) (toP (aN0 (toP aQ) (toP (fL bO (toP (aB 0))))))) (λ_ _ _ _ _=>bW 1 nd) (λ_ _ _ _ _=>gB (aJ mW hr (by decide) (aD (aB 0) (aD (aB 1) aU)))) (λ_ _ _ _ _=>aB 1) rfl))
variable(sX:DefOk P w K mg base "_law_seen" 2 1 rY)
variable(qL:DefOk P w K mg base "_law_loops" 3 1 qI)
include sX qL in
theorem aNi(F:FunD K "_law_rows" "_law_rows" zP dV fa fd):FnOk P w K mg base CX0 4 fa fd ["_law_steps"] (spI K 1 rZ):=by
 refine cW (k:=3) F aCw 1 3 aEk rfl rfl λcdv A outer s H E B hr=>?_
 have nd:=aCw.nd;refine aO ?_ ?_
 .exact cJ 1 (aJ sX hr (by decide) (aD (aB 0) aU)) nd
 exact bA (bT (jK [2] gQ (.of rfl) (jJ (aJ qL hr (by decide) (aD (aB 0) aU))) (λ_ _ _ _ _=>bW 2 nd) (λ_ _ _ _ _=>bR (fM hr.units) fO (toP (aN2 (toP (aB 2)) (toP (aB 1)))) (toP (aB 1)) (bN _)) (λ_ _ _ _ _=>aB 2) rfl))
theorem aPl(F:FunD K "has_room" "has_room" aBo dV fa fd):FnOk P w K mg base CX0 1 fa fd ["bits","room"] (spI K 2 fY):=by
 refine cW (k:=0) F aEy 2 2 aB6 rfl rfl λcdv A outer s H E B hr=>?_
 have nd:=aEy.nd;exact bA (bT (lA (fM hr.units) fO (toP (aE2 (toP (aN1 (toP (aB 0)) (toP (aB 1)))) (toP aQ))) (toP aQ) (bN _)))
variable(cF:DefOk P w K mg base "has_room" 1 2 fY)
include cP cF in
theorem aPm(F:FunD K "rooms_of" "rooms_of" aBp dV fa fd):FnOk P w K mg base CX0 2 fa fd ["bits"] (spI K 1 cD):=by
 refine cW (k:=1) F aEz 1 2 aB7 rfl rfl λcdv A outer s H E B hr=>?_
 have nd:=aEz.nd;exact bA (bT (jK [1] gQ (.of rfl) (aH1 cP (toP (bEa (toP (aB 0))))) (λ_ _ _ _ _=>bW 1 nd) (λ_ _ _ _ _=>gB (aJ cF hr (by decide) (aD (aB 0) (aD (aB 1) aU)))) (λ_ _ _ _ _=>aB 1) rfl))
theorem aTq(F:FunD K "bits_of" "bits_of" aE5 dV fa fd):FnOk P w K mg base CX0 1 fa fd ["rooms"] (spI K 1 jP):=by
 refine cW (k:=0) F aHo 1 3 aDi rfl rfl λcdv A outer s H E B hr=>?_
 have nd:=aHo.nd;refine aO ?_ ?_
 .exact cJ 1 aQ nd
 refine aO ?_ ?_
 .exact nF (jJ (aB 0)) (bW 2 nd) (bA (cJ 1 (aN2 (toP (aB 1)) (toP (aN0 (toP aQ) (toP (aB 2))))) nd)) bJc rfl
 exact bA (bT (aB 1))
variable(bQ:DefOk P w K mg base "rooms_of" 2 1 cD)
variable(fC:DefOk P w K mg base "bits_of" 1 1 jP)
include cF bQ fC in
theorem aL4(F:FunD K "seen_among" "seen_among" wJ dV fa fd):FnOk P w K mg base CX0 3 fa fd ["steps","allowed"] (spI K 2 jQ):=by
 refine cW (k:=2) F aB0 2 6 aC4 rfl rfl λcdv A outer s H E B hr=>?_
 have nd:=aB0.nd;refine aO ?_ ?_
 .exact cJ 2 (aJ bQ hr (by decide) (aD (aB 1) aU)) nd
 refine aO ?_ ?_
 .exact aRj 3 nd
 refine aO ?_ ?_
 .exact nF (jJ (aB 2)) (bW 4 nd) (bA (aKo hr.units 3 (aB 4) (aE2 (toP (aN2 (toP (aJ fC hr (by decide) (aD (eE hr.units (toP (aB 0)) (toP (aB 4))) aU))) (toP (aN0 (toP aQ) (toP (aB 4)))))) (toP (aB 1))))) bJc rfl
 refine aO ?_ ?_
 .exact nF (jJ (aB 2)) (bW 5 nd) (bA (nF (jJ (aB 2)) (bW 4 nd) (bA (lB (gB (aJ cF hr (by decide) (aD (eE hr.units (oE 3) (toP (aB 4))) (aD (aB 5) aU)))) (bA (aKo hr.units 3 (aB 4) (aN2 (toP (eE hr.units (oE 3) (toP (aB 4)))) (toP (eE hr.units (oE 3) (toP (aB 5))))))) fK)) bJc rfl)) bJc rfl
 exact bA (aMl [3] (bT (aB 3)))
include bO bQ in
theorem aL5(F:FunD K "goes_round" "goes_round" wK dV fa fd):FnOk P w K mg base CX0 3 fa fd ["steps","part"] (spI K 2 qJ):=by
 refine cW (k:=2) F aB1 2 3 aC5 rfl rfl λcdv A outer s H E B hr=>?_
 have nd:=aB1.nd;refine aO ?_ ?_
 .exact cJ 2 (aJ bQ hr (by decide) (aD (aB 1) aU)) nd
 exact bA (bT (bGl (lA aFt aDx (toP (fL bO (toP (aB 2)))) (toP aQ) (bN _)) (bBv (lA (aPa hr.units) aPb (toP (eE hr.units (toP (aB 2)) (toP aQ))) (toP (eE hr.units (toP (aB 0)) (toP (eE hr.units (toP (aB 2)) (toP aQ))))) rfl))))
variable(iD:DefOk P w K mg base "seen_among" 3 2 jQ)
variable(qM:DefOk P w K mg base "goes_round" 3 2 qJ)
include cF bQ fC iD qM in
theorem aI2(F:FunD K "parts_among" "parts_among" uC dV fa fd):FnOk P w K mg base CX0 4 fa fd ["steps","allowed"] (spI K 2 oK):=by
 refine cW (k:=3) F zX 2 7 aAr rfl rfl λcdv A outer s H E B hr=>?_
 have nd:=zX.nd;refine aO ?_ ?_
 .exact cJ 2 (aJ iD hr (by decide) (aD (aB 0) (aD (aB 1) aU))) nd
 refine aO ?_ ?_
 .exact vZ 3 (aCj aU) nd
 refine aO ?_ ?_
 .exact nF (jJ (aJ bQ hr (by decide) (aD (aB 1) aU))) (bW 4 nd) (aO (by exact cJ 5 (aJ fC hr (by decide) (aD (jK [6] gQ (.of rfl) (jJ (aJ bQ hr (by decide) (aD (eE hr.units (toP (aB 2)) (toP (aB 4))) aU))) (λ_ _ _ _ _=>bW 6 nd) (λ_ _ _ _ _=>gB (aJ cF hr (by decide) (aD (eE hr.units (toP (aB 2)) (toP (aB 6))) (aD (aB 4) aU)))) (λ_ _ _ _ _=>aB 6) rfl) aU)) nd) (by exact bA (lB (PW.pt (aGx (bR (oF hr.units) oG (toP (aB 5)) (oE 3) rfl) (aBk (gB (aJ qM hr (by decide) (aD (aB 0) (aD (aB 5) aU))))))) (bA (aCo 3 (aB 5))) fK))) bJc rfl
 exact bA (aMl [3] (bT (aB 3)))
variable(pB:DefOk P w K mg base "parts_among" 4 2 oK)
variable{A_Machine:Addr}(c_Machine:ClsAt K "Machine" A_Machine)
variable(aZ:kO K A_Machine (Str.ofString "steps"))
include pB c_Machine aZ in
theorem aL6(F:FunD K "loop_parts" "loop_parts" wL dV fa fd):FnOk P w K mg base CX0 5 fa fd ["machine","allowed"] (spI K 2 jR):=by
 refine cW (k:=4) F aB2 2 2 aC6 rfl rfl λcdv A outer s H E B hr=>?_
 have nd:=aB2.nd;exact bA (bT (aJ pB hr (by decide) (aD (aAx c_Machine aZ (toP (aB 0))) (aD (aB 1) aU))))
variable(cO:kO K A_Machine (Str.ofString "many"))
variable(eF:mg "list"=none)
include cP fC c_Machine cO eF in
theorem aNj(F:FunD K "all_rooms" "all_rooms" zQ dV fa fd):FnOk P w K mg base CX0 2 fa fd ["machine"] (spI K 1 pL):=by
 refine cW (k:=1) F aCx 1 1 aEm rfl rfl λcdv A outer s H E B hr=>?_
 have nd:=aCx.nd;exact bA (bT (aJ fC hr (by decide) (aD (aMz eF cP rfl (toP (aAx c_Machine cO (toP (aB 0))))) aU)))
variable(sY:DefOk P w K mg base "all_rooms" 2 1 pL)
include iD c_Machine aZ sY in
theorem aNk(F:FunD K "seen_from" "seen_from" zR dV fa fd):FnOk P w K mg base CX0 4 fa fd ["machine","room"] (spI K 2 sH):=by
 refine cW (k:=3) F aCy 2 2 aEn rfl rfl λcdv A outer s H E B hr=>?_
 have nd:=aCy.nd;exact bA (bT (eE hr.units (toP (aJ iD hr (by decide) (aD (aAx c_Machine aZ (toP (aB 0))) (aD (aJ sY hr (by decide) (aD (aB 0) aU)) aU)))) (toP (aB 1))))
variable(dY:DefOk P w K mg base "loop_parts" 5 2 jR)
variable(sZ:DefOk P w K mg base "seen_from" 4 2 sH)
include dY sZ in
theorem aI3(F:FunD K "outer_loops" "outer_loops" uD dV fa fd):FnOk P w K mg base CX0 6 fa fd ["machine"] (spI K 1 oM):=by
 refine cW (k:=5) F zY 1 1 aAs rfl rfl λcdv A outer s H E B hr=>?_
 have nd:=zY.nd;exact bA (bT (aJ dY hr (by decide) (aD (aB 0) (aD (aJ sZ hr (by decide) (aD (aB 0) (aD aQ aU))) aU))))
variable(cI:kO K A_Machine (Str.ofString "ranks"))
variable(tD:mg "max"=none)
include bQ c_Machine cI tD in
theorem aPn(F:FunD K "top_rank" "top_rank" aBq dV fa fd):FnOk P w K mg base CX0 3 fa fd ["machine","bits"] (spI K 2 qW):=by
 refine cW (k:=2) F aF0 2 3 aB8 rfl rfl λcdv A outer s H E B hr=>?_
 have nd:=aF0.nd;refine aO ?_ ?_
 .exact lB (bR (fM hr.units) fO (toP (aB 1)) (toP aQ) (bN _)) (bA aCp) fK
 exact bA (bT (aXc tD rfl (toP (rF [2] gQ (.of rfl) (jJ (aJ bQ hr (by decide) (aD (aB 1) aU))) (λ_ _ _ _ _=>bW 2 nd) (λ_ _ _ _ _=>eE hr.units (toP (aAx c_Machine cI (toP (aB 0)))) (toP (aB 2))) rfl))))
variable(lM:DefOk P w K mg base "top_rank" 3 2 qW)
include lM in
theorem aTr(F:FunD K "is_good" "is_good" aE6 dV fa fd):FnOk P w K mg base CX0 4 fa fd ["machine","bits"] (spI K 2 gD):=by
 refine cW (k:=3) F aHp 2 2 aDj rfl rfl λcdv A outer s H E B hr=>?_
 have nd:=aHp.nd;exact bA (bT (lA (fM hr.units) fO (toP (rC (toP (aJ lM hr (by decide) (aD (aB 0) (aD (aB 1) aU)))) (toP aQ))) (toP aQ) (bN _)))
include bQ fC c_Machine cI lM in
theorem aI4(F:FunD K "without_top" "without_top" uE dV fa fd):FnOk P w K mg base CX0 4 fa fd ["machine","loop"] (spI K 2 oN):=by
 refine cW (k:=3) F zZ 2 4 aAt rfl rfl λcdv A outer s H E B hr=>?_
 have nd:=zZ.nd;refine aO ?_ ?_
 .exact cJ 2 (aJ lM hr (by decide) (aD (aB 0) (aD (aB 1) aU))) nd
 exact bA (bT (aJ fC hr (by decide) (aD (jK [3] gQ (.of rfl) (jJ (aJ bQ hr (by decide) (aD (aB 1) aU))) (λ_ _ _ _ _=>bW 3 nd) (λ_ _ _ _ _=>bR (mL hr.units) mO (toP (eE hr.units (toP (aAx c_Machine cI (toP (aB 0)))) (toP (aB 3)))) (toP (aB 2)) (bN _)) (λ_ _ _ _ _=>aB 3) rfl) aU)))
variable(pC:DefOk P w K mg base "without_top" 4 2 oN)
variable(lW:DefOk P w K mg base "is_good" 4 2 gD)
include dY pC lW in
theorem aI5(F:FunD K "inner_loops" "inner_loops" uF dV fa fd):FnOk P w K mg base CX0 6 fa fd ["machine","loop"] (spI K 2 iT):=by
 refine cW (k:=5) F aA0 2 6 aAu rfl rfl λcdv A outer s H E B hr=>?_
 have nd:=aA0.nd;refine aO ?_ ?_
 .exact vZ 2 (aCj aU) nd
 refine aO ?_ ?_
 .exact vZ 3 (aCj (aD (aB 1) aU)) nd
 refine aO ?_ ?_
 .exact aKi 100000 (bR (mL hr.units) mO (oE 3) (toP (mJ aU)) (bN _)) (aO (by exact bEe 4 3 pC hr (by decide) (aB 0) nd) (by exact bA (nF (jJ (aJ dY hr (by decide) (aD (aB 0) (aD (aB 4) aU)))) (bW 5 nd) (bA (lB (bR (fM hr.units) fO (toP (aJ lW hr (by decide) (aD (aB 0) (aD (aB 5) aU)))) (toP (aJ lW hr (by decide) (aD (aB 0) (aD (aB 1) aU)))) (bN _)) (bA (aCo 3 (aB 5))) (bA (aCo 2 (aB 5))))) bJc rfl))) bJc
 exact bA (aMl [2] (bT (aB 2)))
variable(pD:DefOk P w K mg base "inner_loops" 6 2 iT)
include bO lW pD in
theorem aI6{pr:List D->R D}{n:Nat}(h_rec:DefOk P w K mg base "longest_row" (7+n) 3 pr)(F:FunD K "longest_row" "longest_row" uG dV fa fd):FnOk P w K mg base CX0 (7+n+1) fa fd ["machine","loop","good"] (spI K 3 (dC 3 6 (tR pr))):=by
 refine cW (k:=7+n) F rM 3 6 (tR pr) rfl rfl λcdv A outer s H E B hr=>?_
 have nd:=rM.nd;refine aO ?_ ?_
 .exact cJ 3 (bBw (bR (fM hr.units) fO (toP (aJ lW hr (by omega) (aD (aB 0) (aD (aB 1) aU)))) (toP (aB 2)) (bN _)) (mJ (aD (aB 1) aU)) (mJ aU)) nd
 refine aO ?_ ?_
 .exact nF (jJ (aJ pD hr (by omega) (aD (aB 0) (aD (aB 1) aU)))) (bW 4 nd) (aO (by exact cJ 5 (aJ h_rec hr (by omega) (aD (aB 0) (aD (aB 4) (aD (aB 2) aU)))) nd) (by exact bA (lB (bR aPx aKe (toP (fL bO (toP (aB 5)))) (toP (fL bO (toP (aB 3)))) (bN _)) (bA (cJ 3 (nD (toP (aB 5)) (toP (mJ (aD (aB 1) aU)))) nd)) fK))) bJc rfl
 exact bA (bT (aB 3))
variable(aS4:mg "zip"=none)
variable{t_LETTERS:Tok}(g_LETTERS:mg "LETTERS"=some (.str "abc" t_LETTERS))
include bO aS4 g_LETTERS in
theorem aNl(F:FunD K "ways_from" "ways_from" zT dV fa fd):FnOk P w K mg base CX0 1 fa fd ["steps","start","allowed"] (spI K 3 jD):=by
 refine cW (k:=0) F aCz 3 9 yO rfl rfl λcdv A outer s H E B hr=>?_
 have nd:=aCz.nd;refine aO ?_ ?_
 .exact bAu 3 (aB 1) (aMh []) nd
 refine aO ?_ ?_
 .exact vZ 4 (aCj (aD (aB 1) aU)) nd
 refine aO ?_ ?_
 .exact cJ 5 aQ nd
 refine aO ?_ ?_
 .exact aKi 100000 (bR aPw aFq (toP (aB 5)) (toP (fL bO (oE 4))) (bN _)) (aO (by exact cJ 6 (eE hr.units (oE 4) (toP (aB 5))) nd) (by exact aO (by exact nF (bE8 aS4 (aP3 [97,98,99] g_LETTERS) (eE hr.units (toP (aB 0)) (toP (aB 6)))) (bBx rfl (aFn 7 (aFn 8 aWw nd) nd)) (bA (lB (PW.pt (aGx (bR (aPa hr.units) aPb (toP (aB 8)) (toP (aB 2)) rfl) (aBk (bR (oF hr.units) oG (toP (aB 8)) (oE 3) rfl)))) (aO (by exact aKo hr.units 3 (aB 8) (nD (toP (eE hr.units (oE 3) (toP (aB 6)))) (toP (aB 7)))) (by exact bA (aCo 4 (aB 8)))) fK)) bJc rfl) (by exact bA (cJ 5 (nD (toP (aB 5)) (toP aQ)) nd)))) bJc
 exact bA (aMl [3] (bT (aB 3)))
variable(jL:DefOk P w K mg base "ways_from" 1 3 jD)
include cP c_Machine aZ cO eF jL in
theorem aFc(F:FunD K "rooms_reached" "rooms_reached" pX dV fa fd):FnOk P w K mg base CX0 2 fa fd ["machine"] (spF K 1 iJ):=by
 refine bIc (k:=1) F vG 1 2 jT (e1 aG3 (aA 1)) rfl rfl λcdv A outer s H E B hr=>?_
 have nd:=vG.nd;exact bAy (by exact cJ 1 (aJ jL hr (by decide) (aD (aAx c_Machine aZ (toP (aB 0))) (aD aQ (aD (aMz eF cP rfl (toP (aAx c_Machine cO (toP (aB 0))))) aU)))) nd) (by exact bEb (bAx eF rfl (aB 1)))
include dY in
theorem aTs(F:FunD K "is_loop" "is_loop" aE7 dV fa fd):FnOk P w K mg base CX0 6 fa fd ["machine","bits"] (spI K 2 uP):=by
 refine cW (k:=5) F aHq 2 2 aDk rfl rfl λcdv A outer s H E B hr=>?_
 have nd:=aHq.nd;exact bA (bT (lA (fM hr.units) fO (toP (aJ dY hr (by decide) (aD (aB 0) (aD (aB 1) aU)))) (toP (mJ (aD (aB 1) aU))) (bN _)))
include cF bQ c_Machine aZ jL in
theorem aY6(F:FunD K "way_in" "way_in" aHm dV fa fd):FnOk P w K mg base CX0 3 fa fd ["machine","allowed","room","goal"] (spI K 4 pM):=by
 refine cW (k:=2) F aJf 4 4 aLo rfl rfl λcdv A outer s H E B hr=>?_
 have nd:=aJf.nd;refine aO ?_ ?_
 .exact lB (rD (gB (aJ cF hr (by decide) (aD (aB 1) (aD (aB 2) aU))))) (bA (bT aRb)) fK
 exact bA (bT (bEd hr.units (toP (aJ jL hr (by decide) (aD (aAx c_Machine aZ (toP (aB 0))) (aD (aB 2) (aD (aJ bQ hr (by decide) (aD (aB 1) aU)) aU))))) (aB 3)))
include c_Machine aZ g_LETTERS in
theorem xV(F:FunD K "rooms_along" "Machine.rooms_along" cU dV fa fd):FnOk P w K mg base CX0 1 fa fd ["self","room","text"] (spF K 3 cT):=by
 refine bIb (k:=0) F mV 3 5 3 dH rfl rfl λcdv A outer s H E B hr=>?_
 have nd:=mV.nd;exact aRr (by exact vZ 3 (aCj (aD (aB 1) aU)) nd) (by exact aRr (by exact nF (jJ (aB 2)) (bW 4 nd) (aO (by exact cJ 1 (eE hr.units (toP (eE hr.units (toP (aAx c_Machine aZ (toP (aB 0)))) (toP (aB 1)))) (toP (bE3 (toP (aP3 [97,98,99] g_LETTERS)) (aD (aB 4) aU)))) nd) (by exact bA (aCo 3 (aB 1)))) bJc rfl) (by exact bE6))
variable(aAf:DefOk P w K mg base "is_loop" 6 2 uP)
variable(aA1:DefOk P w K mg base "way_in" 3 4 pM)
variable(eO:MethOkF P w K mg base "Machine" "rooms_along" 1 3 [] cT)
include cF bQ c_Machine aZ g_LETTERS aAf aA1 eO in
theorem aPo(F:FunD K "round_in" "round_in" aBr dV fa fd):FnOk P w K mg base CX0 7 fa fd ["machine","bits","room"] (spI K 3 nU):=by
 refine cW (k:=6) F aF1 3 6 aG5 rfl rfl λcdv A outer s H E B hr=>?_
 have nd:=aF1.nd;refine aO ?_ ?_
 .exact lB (rD (gB (aJ aAf hr (by decide) (aD (aB 0) (aD (aB 1) aU))))) (bA aCp) fK
 refine aO ?_ ?_
 .exact lB (rD (gB (aJ cF hr (by decide) (aD (aB 1) (aD (aB 2) aU))))) (bA aCp) fK
 refine aO ?_ ?_
 .exact lB (bR (fM hr.units) fO (toP (aJ bQ hr (by decide) (aD (aB 1) aU))) (toP (mJ (aD (aB 2) aU))) (bN _)) (bA (bT (eE hr.units (toP (aP3 [97,98,99] g_LETTERS)) (toP (aXg (toP (eE hr.units (toP (aAx c_Machine aZ (toP (aB 0)))) (toP (aB 2)))) (aD (aB 2) aU)))))) fK
 refine aO ?_ ?_
 .exact cJ 3 (aMh []) nd
 refine aO ?_ ?_
 .exact cJ 4 (aB 2) nd
 refine aO ?_ ?_
 .exact nF (jJ (aJ bQ hr (by decide) (aD (aB 1) aU))) (bW 5 nd) (bA (lB (bR (oF hr.units) oG (toP (aB 5)) (toP (bE4 (pl:=_) (MethOkF.plain eO) hr (by decide) (aB 0) (aD (aB 2) (aD (aB 3) aU)))) rfl) (aO (by exact cJ 3 (nD (toP (aB 3)) (toP (aJ aA1 hr (by decide) (aD (aB 0) (aD (aB 1) (aD (aB 4) (aD (aB 5) aU))))))) nd) (by exact bA (cJ 4 (aB 5) nd))) fK)) bJc rfl
 exact bA (bT (nD (toP (aB 3)) (toP (aJ aA1 hr (by decide) (aD (aB 0) (aD (aB 1) (aD (aB 4) (aD (aB 2) aU))))))))
variable(lF:DefOkF P w K mg base "rooms_reached" 2 1 iJ)
variable(wN:DefOk P w K mg base "round_in" 7 3 nU)
include cF lF wN in
theorem aTt(F:FunD K "nest_of" "nest_of" aE8 dV fa fd):FnOk P w K mg base CX0 8 fa fd ["machine","row"] (spI K 2 qO):=by
 refine cW (k:=7) F aHr 2 7 aIo rfl rfl λcdv A outer s H E B hr=>?_
 have nd:=aHr.nd;refine aO ?_ ?_
 .exact aMv 2 [5] gQ (.of rfl) (jJ (aJ (DefOkF.plain lF) hr (by decide) (aD (aB 0) aU))) (λ_ _ _ _ _=>bW 5 nd) (λ_ _ _ _ _=>gB (aJ cF hr (by decide) (aD (eE hr.units (toP (aB 1)) (toP aQ)) (aD (eE hr.units (toP (aB 5)) (toP aQ)) aU)))) (λ_ _ _ _ _=>aB 5) rfl nd
 refine aO ?_ ?_
 .exact cJ 3 (eE hr.units (toP (eE hr.units (toP (aB 2)) (toP aQ))) (toP aQ)) nd
 refine aO ?_ ?_
 .exact cJ 4 (eE hr.units (toP (eE hr.units (toP (aB 2)) (toP aQ))) (toP aQ)) nd
 exact bA (bT (aWu (aD (aB 4) (aD (rF [6] gQ (.of rfl) (jJ (aB 1)) (λ_ _ _ _ _=>bW 6 nd) (λ_ _ _ _ _=>aJ wN hr (by decide) (aD (aB 0) (aD (aB 6) (aD (aB 3) aU)))) rfl) aU))))
variable(pF:DefOk P w K mg base "outer_loops" 6 1 oM)
variable(pG:DefOk P w K mg base "longest_row" 19 3 lC)
variable(aAg:DefOk P w K mg base "nest_of" 8 2 qO)
include bO pF pG aAg in
theorem aHu(F:FunD K "longest_nest" "longest_nest" rJ dV fa fd):FnOk P w K mg base CX0 20 fa fd ["machine","good"] (spI K 2 dZ):=by
 refine cW (k:=19) F xK 2 5 yP rfl rfl λcdv A outer s H E B hr=>?_
 have nd:=xK.nd;refine aO ?_ ?_
 .exact cJ 2 (mJ aU) nd
 refine aO ?_ ?_
 .exact nF (jJ (aJ pF hr (by decide) (aD (aB 0) aU))) (bW 3 nd) (aO (by exact cJ 4 (aJ pG hr (by decide) (aD (aB 0) (aD (aB 3) (aD (aB 1) aU)))) nd) (by exact bA (lB (bR aFt aDx (toP (fL bO (toP (aB 4)))) (toP (fL bO (toP (aB 2)))) (bN _)) (bA (cJ 2 (aB 4) nd)) fK))) bJc rfl
 exact bA (bT (bBw (bR (mL hr.units) mO (toP (aB 2)) (toP (mJ aU)) (bN _)) (aJ aAg hr (by decide) (aD (aB 0) (aD (aB 2) aU))) aRb))
variable(jM:DefOk P w K mg base "longest_nest" 20 2 dZ)
include jM in
theorem bBd(F:FunD K "nests" "nests" aL1 dV fa fd):FnOk P w K mg base CX0 21 fa fd ["machine"] (spI K 1 vP):=by
 refine cW (k:=20) F aNf 1 1 aQi rfl rfl λcdv A outer s H E B hr=>?_
 have nd:=aNf.nd;exact bA (bT (aWu (aD (aJ jM hr (by decide) (aD (aB 0) (aD xU aU))) (aD (aJ jM hr (by decide) (aD (aB 0) (aD xU aU))) aU))))
include bO cP in
theorem aNm(F:FunD K "_law_size" "_law_size" zU dV fa fd):FnOk P w K mg base CX0 1 fa fd ["_law_bits"] (spI K 1 fV):=by
 refine cW (k:=0) F aD0 1 2 aEq rfl rfl λcdv A outer s H E B hr=>?_
 have nd:=aD0.nd;exact bA (bT (fL bO (toP (jK [1] gQ (.of rfl) (aH1 cP (toP aQ)) (λ_ _ _ _ _=>bW 1 nd) (λ_ _ _ _ _=>bR (fM hr.units) fO (toP (aE2 (toP (aN1 (toP (aB 0)) (toP (aB 1)))) (toP aQ))) (toP aQ) (bN _)) (λ_ _ _ _ _=>aB 1) rfl))))
include bO cP tD in
theorem aPp(F:FunD K "_law_top" "_law_top" aBs dV fa fd):FnOk P w K mg base CX0 1 fa fd ["_law_ranks","_law_bits"] (spI K 2 nW):=by
 refine cW (k:=0) F aF2 2 3 aB9 rfl rfl λcdv A outer s H E B hr=>?_
 have nd:=aF2.nd;exact bA (bT (aXc tD rfl (toP (jK [2] gQ (.of rfl) (aH1 cP (toP (fL bO (toP (aB 0))))) (λ_ _ _ _ _=>bW 2 nd) (λ_ _ _ _ _=>bR (fM hr.units) fO (toP (aE2 (toP (aN1 (toP (aB 1)) (toP (aB 2)))) (toP aQ))) (toP aQ) (bN _)) (λ_ _ _ _ _=>eE hr.units (toP (aB 0)) (toP (aB 2))) rfl))))
variable(tE:DefOk P w K mg base "_law_size" 1 1 fV)
variable(rN:DefOk P w K mg base "_law_top" 1 2 nW)
variable(aD3:mg "sorted"=none)
variable(aHv:mg "int"=none)
include tD tE rN aD3 aHv in
theorem aHw(F:FunD K "_law_longest" "_law_longest" rK dV fa fd):FnOk P w K mg base CX0 4 fa fd ["_law_loops_here","_law_ranks","_law_odd"] (spI K 3 jE):=by
 refine cW (k:=3) F xM 3 8 yQ rfl rfl λcdv A outer s H E B hr=>?_
 have nd:=xM.nd;exact bEq (bEr (by exact aRj 3 nd) (by exact bH8 (bH7 tE hr (by decide) aD3 (aB 0)) (bW 4 nd) (aO (by exact cJ 5 (rC (toP (aJ rN hr (by decide) (aD (aB 1) (aD (aB 4) aU)))) (toP aQ)) nd) (by exact aO (by exact cJ 6 (bB0 aHv (toP (lA (fM hr.units) fO (toP (aB 5)) (toP (aB 2)) (bN _)))) nd) (by exact aO (by exact bEn 3 7 6 (by decide) (by decide) hr.units bJc rfl tD (bR (fM hr.units) fO (toP (aN2 (toP (aB 7)) (toP (aB 4)))) (toP (aB 4)) (bN _)) (bR (mL hr.units) mO (toP (rC (toP (aJ rN hr (by decide) (aD (aB 1) (aD (aB 7) aU)))) (toP aQ))) (toP (aB 5)) (bN _)) nd) (by exact bA (aKo hr.units 3 (aB 4) (aB 6)))))) (bT (bEp tD rfl (toP (rF [4] gQ (.of rfl) (jJ (aB 0)) (λ_ _ _ _ _=>bW 4 nd) (λ_ _ _ _ _=>eE hr.units (oE 3) (toP (aB 4))) rfl)))) aY0 bJc rfl) aTp)
variable(bM:mg "isinstance"=none)
variable(aHx:mg "str"=none)
include eF bM aHx in
theorem aL7(F:FunD K "_law_words" "_law_words" wM dV fa fd):FnOk P w K mg base CX0 1 fa fd ["_law_found","_law_letters"] (spI K 2 mC):=by
 refine cW (k:=0) F aB3 2 4 aC8 rfl rfl λcdv A outer s H E B hr=>?_
 have nd:=aB3.nd;refine aO ?_ ?_
 .exact lB (PW.pt (aKf (rD (gB (mQ ty_list bM eF (toP (aB 0))))) (aGw (bR (fM hr.units) fO (toP (aB 0)) (toP (mJ aU)) (bN _))))) (bA (bT xU)) fK
 refine aO ?_ ?_
 .exact nF (jJ (aB 0)) (bW 2 nd) (bA (lB (PW.pt (aKf (rD (gB (mQ ty_str bM aHx (toP (aB 2))))) (aKf (bR (fM hr.units) fO (toP (aB 2)) (toP (aMh [])) (bN _)) (aGw (bR (mL hr.units) mO (toP (jK [3] gQ (.of rfl) (jJ (aB 2)) (λ_ _ _ _ _=>bW 3 nd) (λ_ _ _ _ _=>bR (oF hr.units) oG (toP (aB 3)) (toP (aB 1)) rfl) (λ_ _ _ _ _=>aB 3) rfl)) (toP (mJ aU)) (bN _)))))) (bA (bT xU)) fK)) bJc rfl
 exact bA (bT xU)
theorem aPq(F:FunD K "_law_led" "_law_led" aBt dV fa fd):FnOk P w K mg base CX0 1 fa fd ["_law_steps","_law_room","_law_word"] (spI K 3 nY):=by
 refine cW (k:=0) F aF3 3 5 aG8 rfl rfl λcdv A outer s H E B hr=>?_
 have nd:=aF3.nd;refine aO ?_ ?_
 .exact vZ 3 (aCj aU) nd
 refine aO ?_ ?_
 .exact nF (jJ (aB 2)) (bW 4 nd) (aO (by exact cJ 1 (eE hr.units (toP (eE hr.units (toP (aB 0)) (toP (aB 1)))) (toP (bAn (toP (aMh [97,98,99])) (aD (aB 4) aU)))) nd) (by exact bA (aCo 3 (aB 1)))) bJc rfl
 exact bA (aMl [3] (bT (aB 3)))
variable(qN:DefOk P w K mg base "_law_words" 1 2 mC)
variable(rO:DefOk P w K mg base "_law_led" 1 3 nY)
variable(wO:mg "tuple"=none)
include bO tD bM aHx qN rO wO in
theorem aE9(F:FunD K "_law_nest_good" "_law_nest_good" oH dV fa fd):FnOk P w K mg base CX0 2 fa fd ["_law_steps","_law_ranks","_law_nest","_law_odd"] (spI K 4 gH):=by
 refine cW (k:=1) F sV 4 11 uQ rfl rfl λcdv A outer s H E B hr=>?_
 have nd:=sV.nd;refine aO ?_ ?_
 .exact lB (PW.pt (aKf (rD (gB (mQ ty_tuple bM wO (toP (aB 2))))) (aKf (bR (mL hr.units) mO (toP (fL bO (toP (aB 2)))) (toP aQ) (bN _)) (aGw (rD (gB (mQ ty_str bM aHx (toP (eE hr.units (toP (aB 2)) (toP aQ)))))))))) (bA (bT xU)) fK
 refine aO ?_ ?_
 .exact cJ 4 (bIa (toP (aMh [97,98,99])) bDz (bE0 (toP (fL bO (toP (eE hr.units (toP (aB 0)) (toP aQ))))))) nd
 refine aO ?_ ?_
 .exact lB (PW.pt (aKf (bR (mL hr.units) mO (toP (jK [9] gQ (.of rfl) (jJ (eE hr.units (toP (aB 2)) (toP aQ))) (λ_ _ _ _ _=>bW 9 nd) (λ_ _ _ _ _=>bR (oF hr.units) oG (toP (aB 9)) (toP (aB 4)) rfl) (λ_ _ _ _ _=>aB 9) rfl)) (toP (mJ aU)) (bN _)) (aGw (rD (gB (aJ qN hr (by decide) (aD (eE hr.units (toP (aB 2)) (toP aQ)) (aD (aB 4) aU)))))))) (bA (bT xU)) fK
 refine aO ?_ ?_
 .exact cJ 5 (eE hr.units (toP (nD (toP (mJ (aD aQ aU))) (toP (aJ rO hr (by decide) (aD (aB 0) (aD aQ (aD (eE hr.units (toP (aB 2)) (toP aQ)) aU))))))) (toP (bC0 (toP aQ)))) nd
 refine aO ?_ ?_
 .exact cJ 6 (mJ aU) nd
 refine aO ?_ ?_
 .exact nF (jJ (eE hr.units (toP (aB 2)) (toP aQ))) (bW 7 nd) (aO (by exact cJ 8 (aJ rO hr (by decide) (aD (aB 0) (aD (aB 5) (aD (aB 7) aU)))) nd) (by exact aO (by exact lB (PW.pt (aKf (bR (mL hr.units) mO (toP (eE hr.units (toP (aB 8)) (toP (bC0 (toP aQ))))) (toP (aB 5)) (bN _)) (aGw (bR (mL hr.units) mO (toP (jK [10] gQ (.of rfl) (jJ (aB 6)) (λ_ _ _ _ _=>bW 10 nd) (λ_ _ _ _ _=>bR (oF hr.units) oG (toP (aB 10)) (toP (aB 8)) rfl) (λ_ _ _ _ _=>aB 10) rfl)) (toP (mJ aU)) (bN _))))) (bA (bT xU)) fK) (by exact aO (by exact lB (bR (mL hr.units) mO (toP (rC (toP (aXc tD rfl (toP (rF [10] gQ (.of rfl) (jJ (aB 8)) (λ_ _ _ _ _=>bW 10 nd) (λ_ _ _ _ _=>eE hr.units (toP (aB 1)) (toP (aB 10))) rfl)))) (toP aQ))) (toP (aB 3)) (bN _)) (bA (bT xU)) fK) (by exact aO (by exact cJ 6 (aB 8) nd) (by exact bA (cJ 3 (bBu (toP aQ) (toP (aB 3))) nd)))))) bJc rfl
 exact bA (bT xU)
include bO eF bM in
theorem aEa(F:FunD K "is_filled_list" "is_filled_list" oJ dV fa fd):FnOk P w K mg base CX0 1 fa fd ["thing","most"] (spI K 2 dO):=by
 refine cW (k:=0) F sW 2 2 nZ rfl rfl λcdv A outer s H E B hr=>?_
 have nd:=sW.nd;exact bA (bT (aEv (mQ ty_list bM eF (toP (aB 0))) (aEv (lA aPx aKe (toP (fL bO (toP (aB 0)))) (toP aQ) (bN _)) (aDy (lA bFg bDs (toP (fL bO (toP (aB 0)))) (toP (aB 1)) (bN _))))))
variable(aL8:mg "bool"=none)
include aHv bM aL8 in
theorem aPr(F:FunD K "is_whole" "is_whole" aBu dV fa fd):FnOk P w K mg base CX0 1 fa fd ["thing"] (spI K 1 oA):=by
 refine cW (k:=0) F aF4 1 1 aBa rfl rfl λcdv A outer s H E B hr=>?_
 have nd:=aF4.nd;exact bA (bT (aEv (mQ ty_int bM aHv (toP (aB 0))) (aDy (bGm (mQ ty_bool bM aL8 (toP (aB 0)))))))
variable(lO:DefOk P w K mg base "is_whole" 1 1 oA)
include lO in
theorem aPs(F:FunD K "is_below" "is_below" aBv dV fa fd):FnOk P w K mg base CX0 2 fa fd ["thing","limit"] (spI K 2 rA):=by
 refine cW (k:=1) F aF5 2 2 aBb rfl rfl λcdv A outer s H E B hr=>?_
 have nd:=aF5.nd;exact bA (bT (aEv (aJ lO hr (by decide) (aD (aB 0) aU)) (aEv (lA aPx aKe (toP (aB 0)) (toP aQ) (bN _)) (aDy (lA aPw aFq (toP (aB 0)) (toP (aB 1)) (bN _))))))
variable(wQ:DefOk P w K mg base "is_below" 2 2 rA)
variable(aA2:mg "all"=none)
include bO wQ aA2 in
theorem aY7(F:FunD K "is_row" "is_row" aHn dV fa fd):FnOk P w K mg base CX0 3 fa fd ["thing","letters","rooms"] (spI K 3 aCa):=by
 refine cW (k:=2) F aJg 3 4 aG9 rfl rfl λcdv A outer s H E B hr=>?_
 have nd:=aJg.nd;exact bA (bT (aEv (lA (fM hr.units) fO (toP (fL bO (toP (aB 0)))) (toP (aB 1)) (bN _)) (aDy (aRm aA2 rfl (toP (rF [3] gQ (.of rfl) (jJ (aB 0)) (λ_ _ _ _ _=>bW 3 nd) (λ_ _ _ _ _=>aJ wQ hr (by decide) (aD (aB 3) (aD (aB 2) aU))) rfl))))))
variable(gM:DefOk P w K mg base "is_filled_list" 1 2 dO)
variable(aD4:DefOk P w K mg base "is_row" 3 3 aCa)
variable{t_MOST_ROOMS:Tok}(g_MOST_ROOMS:mg "MOST_ROOMS"=some (.int 8 t_MOST_ROOMS))
variable{t_MOST_LETTERS:Tok}(g_MOST_LETTERS:mg "MOST_LETTERS"=some (.int 3 t_MOST_LETTERS))
include bO aA2 gM aD4 g_MOST_ROOMS g_MOST_LETTERS in
theorem aNn(F:FunD K "are_steps" "are_steps" zV dV fa fd):FnOk P w K mg base CX0 4 fa fd ["thing"] (spI K 1 sJ):=by
 refine cW (k:=3) F aD1 1 2 yS rfl rfl λcdv A outer s H E B hr=>?_
 have nd:=aD1.nd;refine aO ?_ ?_
 .exact lB (rD (gB (aJ gM hr (by decide) (aD (aB 0) (aD (aWt g_MOST_ROOMS) aU))))) (bA (bT xU)) fK
 refine aO ?_ ?_
 .exact lB (rD (gB (aRm aA2 rfl (toP (rF [1] gQ (.of rfl) (jJ (aB 0)) (λ_ _ _ _ _=>bW 1 nd) (λ_ _ _ _ _=>aJ gM hr (by decide) (aD (aB 1) (aD (aWt g_MOST_LETTERS) aU))) rfl))))) (bA (bT xU)) fK
 exact bA (bT (aRm aA2 rfl (toP (rF [1] gQ (.of rfl) (jJ (aB 0)) (λ_ _ _ _ _=>bW 1 nd) (λ_ _ _ _ _=>aJ aD4 hr (by decide) (aD (aB 1) (aD (fL bO (toP (eE hr.units (toP (aB 0)) (toP aQ)))) (aD (fL bO (toP (aB 0))) aU)))) rfl))))
include bO eF bM lO aA2 in
theorem aNo(F:FunD K "are_ranks" "are_ranks" zW dV fa fd):FnOk P w K mg base CX0 2 fa fd ["thing","rooms"] (spI K 2 sO):=by
 refine cW (k:=1) F aD2 2 3 yU rfl rfl λcdv A outer s H E B hr=>?_
 have nd:=aD2.nd;refine aO ?_ ?_
 .exact lB (PW.pt (aKf (rD (gB (mQ ty_list bM eF (toP (aB 0))))) (aGw (bR (mL hr.units) mO (toP (fL bO (toP (aB 0)))) (toP (aB 1)) (bN _))))) (bA (bT xU)) fK
 exact bA (bT (aRm aA2 rfl (toP (rF [2] gQ (.of rfl) (jJ (aB 0)) (λ_ _ _ _ _=>bW 2 nd) (λ_ _ _ _ _=>aEv (aJ lO hr (by decide) (aD (aB 2) aU)) (aDy (lA aPx aKe (toP (aB 2)) (toP aQ) (bN _)))) rfl))))
variable(tH:DefOk P w K mg base "are_steps" 4 1 sJ)
variable(tK:DefOk P w K mg base "are_ranks" 2 2 sO)
variable(iG:kO K A_Machine (Str.ofString "letters"))
include bO c_Machine aZ cO eF cI tH tK iG in
theorem aBw(F:Fun K "__init__" "Machine.__init__" dU fa fd):FnOk P w K mg base CX0 5 fa fd ["self","steps","ranks"] (spM K "Machine" 2 iB):=by
 refine bAp (k:=4) F qD "Machine" 2 4 fD rfl rfl λcdv A outer s H E B hr=>?_
 have nd:=qD.nd;refine aO ?_ ?_
 .exact lB (rD (gB (aJ tH hr (by decide) (aD (aB 1) aU)))) (bA aCp) fK
 refine aO ?_ ?_
 .exact lB (rD (gB (aJ tK hr (by decide) (aD (aB 2) (aD (fL bO (toP (aB 1))) aU))))) (bA aCp) fK
 refine aO ?_ ?_
 .exact aKp 0 c_Machine aZ (rF [3] gQ (.of rfl) (jJ (aB 1)) (λ_ _ _ _ _=>bW 3 nd) (λ_ _ _ _ _=>aKr eF (toP (aB 3))) rfl)
 refine aO ?_ ?_
 .exact aKp 0 c_Machine cI (aKr eF (toP (aB 2)))
 refine aO ?_ ?_
 .exact aKp 0 c_Machine cO (fL bO (toP (aB 1)))
 exact bA (aKp 0 c_Machine iG (fL bO (toP (eE hr.units (toP (aB 1)) (toP aQ)))))
variable(mX:DefOk P w K mg base "_law_machine" 2 3 jB)
variable(tL:DefOk P w K mg base "_law_rows" 4 1 rZ)
variable(aD5:DefOk P w K mg base "nests" 21 1 vP)
variable(mY:DefOk P w K mg base "_law_longest" 4 3 jE)
variable(kE:DefOk P w K mg base "_law_nest_good" 2 4 gH)
variable(aAh:MakeOk P w K mg base "Machine" 5 2 iB)
include bO eF bM wO mX tL aD5 mY kE aAh in
theorem bHa(F:FunD K "law" "law" aCt dV fa fd):FnOk P w K mg base CX0 22 fa fd ["_law_script"] (spZ K 1 aIp):=by
 refine bIe (k:=21) F aY5 1 11 aQl rfl rfl λcdv A outer s H E B hr=>?_
 have nd:=aY5.nd;exact aE4 (by exact bGo (aJ mX hr (by decide) (aD (aB 0) (aD aQ (aD aQ aU)))) (bBx rfl (aFn 7 (aFn 8 aWw nd) nd))) (by exact aE4 (by exact cJ 1 (bE5 aAh hr (by decide) (aD (rF [10] gQ (.of rfl) (jJ (aB 7)) (λ_ _ _ _ _=>bW 10 nd) (λ_ _ _ _ _=>aKr eF (toP (aB 10))) rfl) (aD (aKr eF (toP (aB 8))) aU))) nd) (by exact aE4 (by exact cJ 2 (aJ tL hr (by decide) (aD (aB 7) aU)) nd) (by exact aE4 (by exact cJ 3 (aJ aD5 hr (by decide) (aD (aB 1) aU)) nd) (by exact aE4 (by exact lB (PW.pt (aKf (rD (gB (mQ ty_tuple bM wO (toP (aB 3))))) (aGw (bR (mL hr.units) mO (toP (fL bO (toP (aB 3)))) (toP aQ) (bN _))))) (bA (bT xU)) fK) (by exact aE4 (by exact nF (jJ (mJ (aD aQ (aD aQ aU)))) (bW 4 nd) (aO (by exact cJ 9 (aJ mY hr (by decide) (aD (aB 2) (aD (aB 8) (aD (aB 4) aU)))) nd) (by exact aO (by exact cJ 6 (eE hr.units (toP (aB 3)) (toP (aB 4))) nd) (by exact aO (by exact lB (PW.pt (aGx (bR (fM hr.units) fO (toP (aB 9)) (toP aQ) (bN _)) (aBk (bR aJ8 aJ9 (toP (aB 6)) (toP aRb) (bN _))))) (bA (bT xU)) fK) (by exact aO (by exact lB (PW.pt (aGx (bR aFt aDx (toP (aB 9)) (toP aQ) (bN _)) (aBk (rD (gB (aJ kE hr (by decide) (aD (aB 7) (aD (aB 8) (aD (aB 6) (aD (aB 4) aU)))))))))) (bA (bT xU)) fK) (by exact bA (lB (PW.pt (aGx (bR aFt aDx (toP (aB 9)) (toP aQ) (bN _)) (aBk (bR (mL hr.units) mO (toP (fL bO (toP (eE hr.units (toP (aB 6)) (toP aQ))))) (toP (aB 9)) (bN _))))) (bA (bT xU)) fK)))))) bJc rfl) (by exact bBb (by exact bB9 (iK:=5) (.of rfl) (aU8 (aY3 3)) (λ_ _ _ _=>g_row 6 nd) (λ_ _ _ _=>aTz (aPt (aY3 6))) (λ_ _ _ _=>bEt eF) rfl nd) (by exact bBa (aU8 (aY3 3)) (g_row 6 nd) (rR (aU3 (aTz (aPt (aY3 6))) (rR (aPv (aJu bL2 bMa PySem.F.type_list_clear mt_clear (aUi aO2 (aY3 6) aD6 (by intro _ _;rfl))))) aJk)) bJc rfl) (by exact bA (bT (lA (fM hr.units) fO (toP (jK [6] gQ (.of rfl) (jJ (aJ aD5 hr (by decide) (aD (aB 1) aU))) (λ_ _ _ _ _=>bW 6 nd) (λ_ _ _ _ _=>bR aJ8 aJ9 (toP (aB 6)) (toP aRb) (bN _)) (λ_ _ _ _ _=>eE hr.units (toP (aB 6)) (toP aQ)) rfl)) (toP (aB 5)) (bN _))))))))))
end
theorem all_mk {l : OpenLaw}  {K : Frag} {h : Heap}   (X : K.In h) (G : h.Ns mainGlobals mg) (hfa : mg "law" = some (.ref fa))
     {f28:Addr} {od28 an28:Option Addr} {sl28:Array (Option Value)} {oc28 kV28 dc28 pm28 cd28 ct28:Value} {f45:Addr} {od45 an45:Option Addr} {sl45:Array (Option Value)} {oc45 kV45 dc45 pm45 cd45 ct45:Value} {f46:Addr} {od46 an46:Option Addr} {sl46:Array (Option Value)} {oc46 kV46 dc46 pm46 cd46 ct46:Value}
  (c_Machine:ClsAt K "Machine" A_Machine)
  (x5_Machine:PySem.W.makesIn K A_Machine=true)
  (x6_Machine:keepIn K (.ref A_Machine)=true)
  (w_Machine_letters:findIn K (.ref A_Machine) (Str.ofString "letters")=some none)
  (w_Machine_many:findIn K (.ref A_Machine) (Str.ofString "many")=some none)
  (w_Machine_ranks:findIn K (.ref A_Machine) (Str.ofString "ranks")=some none)
  (w_Machine_steps:findIn K (.ref A_Machine) (Str.ofString "steps")=some none)
  (D1:DA K "_law_cell" zN)
  (D2:DA K "_law_mix" aBn)
  (D3:DA K "_law_machine" rG)
  (D4:DA K "_law_ahead" wH)
  (D5:DA K "_law_seen" zO)
  (D6:DA K "_law_is_loop" rH)
  (D7:DA K "_law_loops" wI)
  (D8:DA K "_law_rows" zP)
  (D9:DA K "has_room" aBo)
  (D10:DA K "rooms_of" aBp)
  (D11:DA K "bits_of" aE5)
  (D12:DA K "seen_among" wJ)
  (D13:DA K "goes_round" wK)
  (D14:DA K "parts_among" uC)
  (D15:DA K "loop_parts" wL)
  (D16:DA K "all_rooms" zQ)
  (D17:DA K "seen_from" zR)
  (D18:DA K "outer_loops" uD)
  (D19:DA K "top_rank" aBq)
  (D20:DA K "is_good" aE6)
  (D21:DA K "without_top" uE)
  (D22:DA K "inner_loops" uF)
  (D23:DA K "longest_row" uG)
  (D24:DA K "ways_from" zT)
  (D25:DA K "rooms_reached" pX)
  (D26:DA K "is_loop" aE7)
  (D27:DA K "way_in" aHm)
  (a28:findIn K (.ref A_Machine) (Str.ofString "rooms_along")=some (some (.ref f28)))
  (e28:isFn K (.ref f28)=true)
  (l28:K.lookup f28=some ⟨oc28,od28,.func (fnOf "rooms_along" "Machine.rooms_along" (gW cU) (dJ cU) (aG cU) .none kV28 dc28 pm28 an28 cd28 ct28),sl28⟩)
  (c28:codeIn K cd28 "Machine.rooms_along"=true)
  (k28:keepIn K (.ref f28)=true)
  (D29:DA K "round_in" aBr)
  (D30:DA K "nest_of" aE8)
  (D31:DA K "longest_nest" rJ)
  (D32:DA K "nests" aL1)
  (D33:DA K "_law_size" zU)
  (D34:DA K "_law_top" aBs)
  (D35:DA K "_law_longest" rK)
  (D36:DA K "_law_words" wM)
  (D37:DA K "_law_led" aBt)
  (D38:DA K "_law_nest_good" oH)
  (D39:DA K "is_filled_list" oJ)
  (D40:DA K "is_whole" aBu)
  (D41:DA K "is_below" aBv)
  (D42:DA K "is_row" aHn)
  (D43:DA K "are_steps" zV)
  (D44:DA K "are_ranks" zW)
  (a45:findIn K (.ref A_Machine) (Str.ofString "__init__")=some (some (.ref f45)))
  (e45:isFn K (.ref f45)=true)
  (l45:K.lookup f45=some ⟨oc45,od45,.func (fnOf "__init__" "Machine.__init__" (gW dU) (dJ dU) (aG dU) .none kV45 dc45 pm45 an45 cd45 ct45),sl45⟩)
  (c45:codeIn K cd45 "Machine.__init__"=true)
  (k45:keepIn K (.ref f45)=true)
  (a46:nsIn K mainGlobals "law"=some (some (.ref f46)))
  (l46:K.lookup f46=some ⟨oc46,od46,.func (fnOf "law" "law" (gW aCt) (dJ aCt) (aG aCt) .none kV46 dc46 pm46 an46 cd46 ct46),sl46⟩)
  (c46:codeIn K cd46 "law"=true)
  (k46:keepIn K (.ref f46)=true)
  (v_LETTERS:nsIn K mainGlobals "LETTERS"=some (some (.str "abc" t_LETTERS)))
  (v_MOST_LETTERS:nsIn K mainGlobals "MOST_LETTERS"=some (some (.int 3 t_MOST_LETTERS)))
  (v_MOST_ROOMS:nsIn K mainGlobals "MOST_ROOMS"=some (some (.int 8 t_MOST_ROOMS)))
  (z_all:nsIn K mainGlobals "all"=some none)
  (z_bool:nsIn K mainGlobals "bool"=some none)
  (z_int:nsIn K mainGlobals "int"=some none)
  (z_isinstance:nsIn K mainGlobals "isinstance"=some none)
  (z_len:nsIn K mainGlobals "len"=some none)
  (z_list:nsIn K mainGlobals "list"=some none)
  (z_max:nsIn K mainGlobals "max"=some none)
  (z_range:nsIn K mainGlobals "range"=some none)
  (z_sorted:nsIn K mainGlobals "sorted"=some none)
  (z_str:nsIn K mainGlobals "str"=some none)
  (z_sum:nsIn K mainGlobals "sum"=some none)
  (z_tuple:nsIn K mainGlobals "tuple"=some none)
  (z_zip:nsIn K mainGlobals "zip"=some none) :
  ∃fd:FuncData,(∀(s:Shared)(v:Value),BindsTo s fd ⟨[v],[]⟩ [("_law_script",v)])/\∀base:Heap,K.In base->base.Ns mainGlobals mg->FnOk l.prog w K mg base CX0 22 fa fd ["_law_script"] (spZ K 1 aIp):=by
 have e:=hfa.symm.trans (mg_of X G a46);cases e;have iG:kO K A_Machine (Str.ofString "letters"):=w_Machine_letters;have cO:kO K A_Machine (Str.ofString "many"):=w_Machine_many;have cI:kO K A_Machine (Str.ofString "ranks"):=w_Machine_ranks;have aZ:kO K A_Machine (Str.ofString "steps"):=w_Machine_steps;have F28:=aKq (st:=cU) l28 c28 k28;have b28:=F28.binds0 (ps:=["self","room","text"]) λ_ _ _ _ _ _=>aFp (λ_ _ _=>rfl)
 have F45:=bCw (st:=dU) l45 c45 k45;have b45:=F45.binds (ps:=["self","steps","ranks"]) λ_ _ _ _ _ _=>aFp (λ_ _ _=>rfl)
 have F46:=aKq (st:=aCt) l46 c46 k46;have b46:=F46.binds0 (ps:=["_law_script"]) λ_ _ _ _ _ _=>aKs (λ_=>rfl)
 have aA2:=bKn X G z_all;have aL8:=bKn X G z_bool;have aHv:=bKn X G z_int;have bM:=bKn X G z_isinstance;have bO:=bKn X G z_len;have eF:=bKn X G z_list;have tD:=bKn X G z_max;have cP:=bKn X G z_range;have aD3:=bKn X G z_sorted;have aHx:=bKn X G z_str;have aS3:=bKn X G z_sum;have wO:=bKn X G z_tuple;have aS4:=bKn X G z_zip;have g_LETTERS:=mg_of X G v_LETTERS;have g_MOST_LETTERS:=mg_of X G v_MOST_LETTERS;have g_MOST_ROOMS:=mg_of X G v_MOST_ROOMS;refine⟨fnOf "law" "law" (gW aCt) (dJ aCt) (aG aCt) .none kV46 dc46 pm46 an46 cd46 ct46,λs v=>.of_eq rfl,λbase _ _=>?_⟩
 have C:Ct l.prog w K mg base h:=⟨X,G⟩;have lV:=D1.ok C (aNg bO);have dX:=D2.ok C aPk;have mX:=D3.ok C (aHs lV dX cP);have iC:=D4.ok C (aL2 bO);have sX:=D5.ok C (aNh bO iC aS3);have mW:=D6.ok C (aHt bO cP iC);have qL:=D7.ok C (aL3 bO cP mW);have tL:=D8.ok C (aNi sX qL);have cF:=D9.ok C aPl;have bQ:=D10.ok C (aPm cP cF);have fC:=D11.ok C aTq;have iD:=D12.ok C (aL4 cF bQ fC);have qM:=D13.ok C (aL5 bO bQ);have pB:=D14.ok C (aI2 cF bQ fC iD qM);have dY:=D15.ok C (aL6 pB c_Machine aZ);have sY:=D16.ok C (aNj cP fC c_Machine cO eF);have sZ:=D17.ok C (aNk iD c_Machine aZ sY);have pF:=D18.ok C (aI3 dY sZ);have lM:=D19.ok C (aPn bQ c_Machine cI tD);have lW:=D20.ok C (aTr lM);have pC:=D21.ok C (aI4 bQ fC c_Machine cI lM);have pD:=D22.ok C (aI5 dY pC lW);have hr_longest_row:∀n,DefOk l.prog w K mg base "longest_row" (7+n) 3 (jC n):=by
  intro n
  induction n with
  |zero=>exact D23.ok C (λF=>cW (k:=6) F rM 3 6 qQ rfl rfl λ_ _ _ _ _ _ _ _=>aXx)
  |succ n ih=>exact D23.ok C (aI6 bO lW pD ih)
 have pG:DefOk l.prog w K mg base "longest_row" 19 3 lC:=hr_longest_row 12;have jL:=D24.ok C (aNl bO aS4 g_LETTERS);have lF:=D25.okF C (aFc cP c_Machine aZ cO eF jL);have aAf:=D26.ok C (aTs dY);have aA1:=D27.ok C (aY6 cF bQ c_Machine aZ jL);have f_Machine_rooms_along:=xV (P:=l.prog) (w:=w) (mg:=mg) (base:=base) c_Machine aZ g_LETTERS F28;have eO:MethOkF l.prog w K mg base "Machine" "rooms_along" 1 3 [] cT:=MethOkF.of (dvs:=[]) c_Machine ⟨a28,e28,k28⟩ f_Machine_rooms_along b28 (.nil) λ_=>.nil
 have wN:=D29.ok C (aPo cF bQ c_Machine aZ g_LETTERS aAf aA1 eO);have aAg:=D30.ok C (aTt cF lF wN);have jM:=D31.ok C (aHu bO pF pG aAg);have aD5:=D32.ok C (bBd jM);have tE:=D33.ok C (aNm bO cP);have rN:=D34.ok C (aPp bO cP tD);have mY:=D35.ok C (aHw tD tE rN aD3 aHv);have qN:=D36.ok C (aL7 eF bM aHx);have rO:=D37.ok C aPq;have kE:=D38.ok C (aE9 bO tD bM aHx qN rO wO);have gM:=D39.ok C (aEa bO eF bM);have lO:=D40.ok C (aPr aHv bM aL8);have wQ:=D41.ok C (aPs lO);have aD4:=D42.ok C (aY7 bO wQ aA2);have tH:=D43.ok C (aNn bO aA2 gM aD4 g_MOST_ROOMS g_MOST_LETTERS);have tK:=D44.ok C (aNo bO eF bM lO aA2);have f_Machine___init__:=aBw (P:=l.prog) (w:=w) (mg:=mg) (base:=base) bO c_Machine aZ cO eF cI tH tK iG F45;have aAh:=MakeOk.of c_Machine ⟨x5_Machine,a45,e45,x6_Machine⟩ f_Machine___init__ b45 (mg_of X G c_Machine.ns);have f_law:=bHa (P:=l.prog) (w:=w) (mg:=mg) (base:=base) bO eF bM wO mX tL aD5 mY kE aAh F46;exact f_law
theorem bBe{q:Program} {K:Params->Frag} {as:List Addr} {t:Nat} {r:PySem.W.RowW} {d:DefRec} {kwd:List (Str×Expr)} {run:Value->List Value->Sem Value} (e:∀P,as=(K P).map (·.1)) (h:WalkO q loose XP (InK K) r d kwd run):PySem.W.WalkX q loose XP (PySem.W.X.obsZ as) (PySem.W.X.valZ K n t) r d kwd run:=
 λw s₀ s₁ mg mb G y a o pm cd doc dV kV h1 h2 h3 h4 h5 h6 args vals as' L h7 h8 h9 h10 h11=>h w s₀ s₁ mg mb G (PySem.W.InK.keeps w _ _ (PySem.W.X.z_facts e y).2.1 L.keeps) a o pm cd doc dV kV h1 h2 h3 h4 h5 h6 args vals as' h7 h8 h9 h10 h11
theorem walk{l:OpenLaw}{q:Program} {YP:World->Heap->Prop} {d:DefRec} {K:Params->Frag} (hn:l.most=some 63) (hdf:d.params.defaults=[])
  (hY:∀(w:World)(h:Heap),YP w h->(K w.params).In h)
  (hlaw:∀ns:List Int,ns.length<=63->aIp [.lst (ns.map D.int)]=.ok (.bl true))
  (F:∀(w:World)(mg:Str->Option Value)(fa:Addr)(h:Heap),(K w.params).In h->h.Ns mainGlobals mg->mg d.name=some (.ref fa)->
   ∃fd:FuncData,(∀(s:Shared)(u:Value),BindsTo s fd ⟨[u],[]⟩ [("_law_script",u)])/\∀base:Heap,(K w.params).In base->base.Ns mainGlobals mg->FnOk l.prog w (K w.params) mg base CX0 22 fa fd ["_law_script"] (spZ (K w.params) 1 aIp)) :
  WalkO q loose XP YP l.row.toRowW d [] (λf vs=>PySem.call f vs):=
 L2.walk_of (n:=63) (k:=22) (x:="_law_script") (CX:=λ_=>CX0) (sp:=λw=>spZ (K w.params) 1 aIp) hn (by decide) hdf ⟨rfl,by decide,by decide⟩ hY F (λ_ _ a ns hl _ hS=>bBc hS (hlaw ns hl)) λ_ _ _ _ _ z=>z
end Pu
namespace PySem.W.Fast
def tw12324334641866305876:=0
def tw11405281484237627469:=0
def tw13165654673983429932:=0
def tw9038214213573309870:=0
def tw14062516213500011583:=0
def tw860592045362099184:=0
def tw10565738509722894158:=0
def tw15462757979291427285:=0
def tw16919843148886823952:=0
def tw9351995156495652824:=0
def tw15427090053966022831:=0
def tw15910681506111662836:=0
def tw1456376176644962042:=0
def tw13629791049866788532:=0
def tw684726578659014960:=0
def tw7694613326019724687:=0
def tw250664549958124098:=0
def tw7335741717617500764:=0
def tw4801705170597504595:=0
def tw17909431025853717487:=0
def tw17299284350585104463:=0
def tw10940626384066986545:=0
def tw1631473816813706246:=0
def tw15896002512865136780:=0
def tw7015859952158345357:=0
def tw2034884758912321671:=0
def tw7556735766712063833:=0
def tw10095469432900782954:=0
def tw17180312820663242230:=0
def tw16588771130744152002:=0
def tw9176052156890561431:=0
def tw4280112166015701076:=0
def tw2431134024449969185:=0
def tw5859846568026917727:=0
def tw13070466256663468782:=0
def tw14100176958270675438:=0
def tw4051472891477957772:=0
def tw100227912933350389:=0
def tw9383173098756778542:=0
def tw13748173133920822312:=0
def tw17366903738706374099:=0
def tw16533535180060476508:=0
def tw1865875944894317215:=0
def tw10606870864082221439:=0
def tw7173173267485531029:=0
def tw6924932752794414680:=0
def tw7804206566608056230:=0
def tw4819823298282562603:=0
def tw17414061825954238580:=0
def tw16230543529054587835:=0
def tw17408628376736648166:=0
def tw4793411167779293001:=0
def tw15264464666331405164:=0
def tw3157780354896864829:=0
def tw16835465163625290752:=0
def tw8313874336868803525:=0
def tw2368965814281830055:=0
def tw6834923695386827344:=0
def tw8099955211758929791:=0
def tw3704485592607933732:=0
def tw6247842940039586996:=0
def tw8951827697241782872:=0
def tw8807321607890123779:=0
def tw5194633393407833688:=0
def tw13813746808270556958:=0
def tw6947218938765213573:=0
def tw14909053171198106119:=0
def tw17184115961950750456:=0
def tw74143546743735797:=0
def tw3290307268351968349:=0
def tw6873907052053768277:=0
def tw6943114390140636020:=0
def tw2533743231819266815:=0
def tw16689277128675874384:=0
def tw17789616464688306905:=0
def tw7631494389117704118:=0
def tw1976841429554001924:=0
def tw3729717753725982018:=0
def tw13502017269972635025:=0
def tw18197810350837814487:=0
def tw12754354709534862523:=0
def tw9849783274502147032:=0
def tw15230467818537032413:=0
def tw15136944659199542314:=0
def tw17319231294115647942:=0
def tw3718468761507594981:=0
def tw10295256835685429615:=0
def tw6296090890227111882:=0
def tw12822939105004925685:=0
def tw16274476404105799940:=0
def tw855863864946373430:=0
def tw6841298821829488223:=0
def tw2198135637577278395:=0
def tw6535738598706656848:=0
def tw6468216792462580847:=0
def tw7342281059539307321:=0
def tw11263802560929438638:=0
def tw16617494794959069870:=0
def tw755115013023000884:=0
def tw6722259490035212990:=0
def tw9645681888499810507:=0
def tw6499048089226139724:=0
def tw7799900173358065876:=0
def tw5105084754554609323:=0
def tw9968837982903209801:=0
def tw6033597210546135284:=0
def tw18307194415047780872:=0
def tw4032217825214298729:=0
def tw14757656889308155401:=0
def tw17424821687953188039:=0
def tw14901875246202917551:=0
def tw4197485590965827810:=0
def tw15806814306004492810:=0
def tw3052150538155836525:=0
def tw9932733374120329856:=0
def tw14192935100917888325:=0
def tw9479101024131397150:=0
def tw526968266960609380:=0
def tw3237819869689605053:=0
def tw12479647214756272824:=0
def tw4053577037612936929:=0
def tw8805191748615285699:=0
def tw3261842565439718377:=0
def tw17722571689737422256:=0
def tw4979606522656247212:=0
def tw2397501683603157769:=0
def tw8665891902547161307:=0
def tw17336131021874159394:=0
def tw2082489878715449486:=0
def tw8475886336640035376:=0
def tw5650306067715541196:=0
def tw3014621982524941117:=0
def tw7248147016136236425:=0
def tw4834078558391927214:=0
def tw2431301444634320502:=0
end PySem.W.Fast
open PySem PySem.W PyProof.Rows
set_option maxRecDepth 100000 in
set_option maxHeartbeats 0 in
theorem PySem.Challenge.cw_looprank_k32_nests_walked_holds : PySem.Challenge.rw_looprank_k32_nests_walked.Holds := by
 w_on;o_law;z_head;(case hw=>w_witness2)
 k_fill
 refine Pu.bBe (λP=>by kernel_rfl) (Pu.walk (l:=PySem.Challenge.rw_looprank_k32_nests_walked) rfl rfl (λw h Y=>Y) Pu.law_true ?F)
 case F=>
  intro w mg fa h KX G hmg;refine' Pu.all_mk KX G hmg ⟨?x_Machine,?x1_Machine,?x2_Machine,?x3_Machine,?x4_Machine⟩ ?x5_Machine ?x6_Machine ?w_Machine_letters ?w_Machine_many ?w_Machine_ranks ?w_Machine_steps (Pu.cX ?a1 ?l1 ?c1 ?k1) (Pu.cX ?a2 ?l2 ?c2 ?k2) (Pu.cX ?a3 ?l3 ?c3 ?k3) (Pu.cX ?a4 ?l4 ?c4 ?k4) (Pu.cX ?a5 ?l5 ?c5 ?k5) (Pu.cX ?a6 ?l6 ?c6 ?k6) (Pu.cX ?a7 ?l7 ?c7 ?k7) (Pu.cX ?a8 ?l8 ?c8 ?k8) (Pu.cX ?a9 ?l9 ?c9 ?k9) (Pu.cX ?a10 ?l10 ?c10 ?k10) (Pu.cX ?a11 ?l11 ?c11 ?k11) (Pu.cX ?a12 ?l12 ?c12 ?k12) (Pu.cX ?a13 ?l13 ?c13 ?k13) (Pu.cX ?a14 ?l14 ?c14 ?k14) (Pu.cX ?a15 ?l15 ?c15 ?k15) (Pu.cX ?a16 ?l16 ?c16 ?k16) (Pu.cX ?a17 ?l17 ?c17 ?k17) (Pu.cX ?a18 ?l18 ?c18 ?k18) (Pu.cX ?a19 ?l19 ?c19 ?k19) (Pu.cX ?a20 ?l20 ?c20 ?k20) (Pu.cX ?a21 ?l21 ?c21 ?k21) (Pu.cX ?a22 ?l22 ?c22 ?k22) (Pu.cX ?a23 ?l23 ?c23 ?k23) (Pu.cX ?a24 ?l24 ?c24 ?k24) (Pu.cX ?a25 ?l25 ?c25 ?k25) (Pu.cX ?a26 ?l26 ?c26 ?k26) (Pu.cX ?a27 ?l27 ?c27 ?k27) ?a28 ?e28 ?l28 ?c28 ?k28 (Pu.cX ?a29 ?l29 ?c29 ?k29) (Pu.cX ?a30 ?l30 ?c30 ?k30) (Pu.cX ?a31 ?l31 ?c31 ?k31) (Pu.cX ?a32 ?l32 ?c32 ?k32) (Pu.cX ?a33 ?l33 ?c33 ?k33) (Pu.cX ?a34 ?l34 ?c34 ?k34) (Pu.cX ?a35 ?l35 ?c35 ?k35) (Pu.cX ?a36 ?l36 ?c36 ?k36) (Pu.cX ?a37 ?l37 ?c37 ?k37) (Pu.cX ?a38 ?l38 ?c38 ?k38) (Pu.cX ?a39 ?l39 ?c39 ?k39) (Pu.cX ?a40 ?l40 ?c40 ?k40) (Pu.cX ?a41 ?l41 ?c41 ?k41) (Pu.cX ?a42 ?l42 ?c42 ?k42) (Pu.cX ?a43 ?l43 ?c43 ?k43) (Pu.cX ?a44 ?l44 ?c44 ?k44) ?a45 ?e45 ?l45 ?c45 ?k45 ?a46 ?l46 ?c46 ?k46 ?v_LETTERS ?v_MOST_LETTERS ?v_MOST_ROOMS ?z_all ?z_bool ?z_int ?z_isinstance ?z_len ?z_list ?z_max ?z_range ?z_sorted ?z_str ?z_sum ?z_tuple ?z_zip
  (case x_Machine|x1_Machine|x2_Machine|x3_Machine|x4_Machine|x5_Machine|x6_Machine|w_Machine_letters|w_Machine_many|w_Machine_ranks|w_Machine_steps|a1|l1|c1|k1|a2|l2|c2|k2|a3|l3|c3|k3|a4=>k_is)
  (case l4|c4|k4|a5|l5|c5|k5|a6|l6|c6|k6|a7|l7|c7|k7|a8|l8|c8|k8|a9|l9|c9|k9|a10=>k_is)
  (case l10|c10|k10|a11|l11|c11|k11|a12|l12|c12|k12|a13|l13|c13|k13|a14|l14|c14|k14|a15|l15|c15|k15|a16=>k_is)
  (case l16|c16|k16|a17|l17|c17|k17|a18|l18|c18|k18|a19|l19|c19|k19|a20|l20|c20|k20|a21|l21|c21|k21|a22=>k_is)
  (case l22|c22|k22|a23|l23|c23|k23|a24|l24|c24|k24|a25|l25|c25|k25|a26|l26|c26|k26|a27|l27|c27|k27|a28=>k_is)
  (case e28|l28|c28|k28|a29|l29|c29|k29|a30|l30|c30|k30|a31|l31|c31|k31|a32|l32|c32|k32|a33|l33|c33|k33=>k_is)
  (case a34|l34|c34|k34|a35|l35|c35|k35|a36|l36|c36|k36|a37|l37|c37|k37|a38|l38|c38|k38|a39|l39|c39|k39=>k_is)
  (case a40|l40|c40|k40|a41|l41|c41|k41|a42|l42|c42|k42|a43|l43|c43|k43|a44|l44|c44|k44|a45|e45|l45|c45=>k_is)
  (case k45|a46|l46|c46|k46|v_LETTERS|v_MOST_LETTERS|v_MOST_ROOMS|z_all|z_bool|z_int|z_isinstance|z_len|z_list|z_max|z_range|z_sorted|z_str|z_sum|z_tuple|z_zip=>k_is)
