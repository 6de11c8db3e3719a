import PyProof.Rows.All
import Wide.All
import OpenK.AllK
import Wide.FinOn
import Lean
import PyProof.EqAt
import PyProof.EqKinds
import PyProof.TupleCall
import PyProof.P3Eq
import PyProof.NeKinds
import PyProof.NsDelKeeps
import PyProof.RulesAs
import PyProof.ExcAttrAll.ValueError
import KE.KSortKey
import KE.KSortTup
import KE.KDictLaws
import KE.KDictLetter
import KE.KItemsList
import KE.KMinKey
import PySem.Challenge.RW_looprank_k52_wanted_words
set_option Elab.async false
set_option linter.all false
set_option maxRecDepth 100000
def bFs:=@PySem.wpAny_bind
def bFt:=@PySem.Heap.get?_push_of_some
def bFu:=@PySem.wpAny_pure
def bFv:=@List.getElem?_eq_getElem
def bFw:=@List.mem_cons_of_mem
def bFx:=@List.mem_cons_self
def bFy:=@List.getElem?_eq_some_iff
def bFz:=@List.mem_singleton
def bG0:=@List.mem_cons
def bG1:=@PySem.Heap.get?_push_size
def bG2:=@PySem.Heap.lt_size
def bG3:=@decide_eq_false
def bG4:=@Nat.le_refl
def bG5:=@List.getD_eq_getElem?_getD
def bG6:=@List.length_map
def bG7:=@if_neg
def bG8:=@List.mem_append_right
def bG9:=@Nat.lt_of_lt_of_le
def bGa:=@if_pos
def bGb:=@Nat.ne_of_lt
def bGc:=@List.mem_map
def bGd:=@List.size_toArray
def bGe:=@decide_eq_true
def bGf:=@List.map_cons
def bGg:=@List.length_append
def bGh:=@Bool.false_ne_true
def bGi:=@Array.getElem?_eq_getElem
def bGj:=@List.getElem?_set
def bGk:=@PySem.PassesOwn.never
def bGl:=@decide_eq_true_eq
def bGm:=@List.mem_append
def bGn:=@List.length_cons
def bGo:=@PySem.wpAny_holding
def bGp:=@PySem.Heap.size_push
def bGq:=@List.getElem_mem
def bGr:=@List.mem_range
def bGs:=@beq_eq_false_iff_ne
def bGt:=@List.mem_of_getElem?
def bGu:=@List.getElem?_map
def bGv:=@PySem.Heap.get?_update_other
def bGw:=@List.map_append
def bGx:=@List.mem_append_left
def bGy:=@Nat.le_trans
def bGz:=@PySem.Heap.get?_update_self
def bH0:=@Nat.lt_irrefl
def bH1:=@PySem.mem_of_lookup
def bH2:=@PySem.wpAny_call_entry
def bH3:=@PySem.Around.under_plainId
def bH4:=@PySem.wpAny_callSpecial?_slot
def bH5:=@List.getElem?_append_left
def bH6:=@List.mem_iff_getElem?
def bH7:=@List.mem_filter
def bH8:=@List.map_map
def bH9:=@Int.toNat_natCast
def bHa:=@PyProof.Rows.callWith_type1
def bHb:=@PySem.F.slot_zip_next
def bHc:=@List.length_singleton
def bHd:=@PySem.codeAny_builtin
def bHe:=@PySem.wpAny_newObj_type
def bHf:=@PySem.wpAny_seqItems
def bHg:=@Nat.lt_trichotomy
def bHh:=@List.length_eq_zero_iff
def bHi:=@Array.getElem?_eq_some_iff
def bHj:=@List.lookup_cons
def bHk:=@PySem.F.plain_min_loop
def bHl:=@Option.some.inj
def bHm:=@PySem.F.plain_extend_loop
def bHn:=@List.getElem?_eq_none
def bHo:=@PySem.F.slot_dict_keyiterator_next
def bHp:=@Nat.zero_le
def bHq:=@List.zip_cons_cons
def bHr:=@List.idxOf_lt_length_of_mem
def bHs:=@PySem.wpAny_ite_split
def bHt:=@PySem.plainId_quiet
def bHu:=@List.map_congr_left
def bHv:=@PySem.wpAny_field
def bHw:=@PySem.Heap.SameBut.update
def bHx:=@Ne.symm
def bHy:=@PySem.wpAny_updateSeq
def bHz:=@PySem.wpAny_Call_Name_kw
def bI0:=@List.getElem?_cons_succ
def bI1:=@PySem.wpAny_setField_rec
def bI2:=@PySem.W.mg_none_of
def bI3:=@List.any_eq_true
def bI4:=@PySem.wpAny_typeNameOfWhole_keyiter
def bI5:=@PySem.wpAny_attempt
def bI6:=@PySem.wpAny_mono
def bI7:=@PySem.wpAny_truthy_bool
def bI8:=@List.nodup_append
def bI9:=@Array.getElem?_toList
def bIa:=@List.pairwise_lt_range
def bIb:=@List.getElem?_append_right
def bIc:=@List.length_range
def bId:=@Nat.lt_of_succ_lt_succ
def bIe:=@PySem.Obj.isFreed_of_fields
def bIf:=@PySem.Obj.data_mapFields
def bIg:=@PySem.builtinLookup_eq_fast
def bIh:=@Nat.lt_succ_self
def bIi:=@PySem.sizeLine_eq
def bIj:=@List.nodup_cons
def bIk:=@Classical.byContradiction
def bIl:=@List.pairwise_iff_getElem
def bIm:=@PySem.wpAny_setField
def bIn:=@List.drop_eq_getElem_cons
def bIo:=@PySem.wpAny_passesOwn
def bIp:=@of_decide_eq_true
def bIq:=@List.append_assoc
def bIr:=@PySem.wpAny_typeNameOf_keyiter
def bIs:=@PySem.wpAny_setState_of
def bIt:=@PySem.codeAny_mono
def bIu:=@Nat.add_sub_cancel_left
def bIv:=@PySem.wpAny_getItem_str_slice
def bIw:=@PySem.F.plain_list_iadd
def bIx:=@Array.length_toList
def bIy:=@PySem.wpAny_setEntries_of
def bIz:=@PySem.wpAny_isInstance
def bJ0:=@PySem.wpAny_askSetting
def bJ1:=@PySem.wpAny_tryCatch
def bJ2:=@List.take_of_length_le
def bJ3:=@PySem.wpAny_nextOf_list_item
def bJ4:=@PySem.F.entry_zip_next
def bJ5:=@Nat.le_of_lt
def bJ6:=@Nat.ne_of_gt
def bJ7:=@List.cons_lt_cons_iff
def bJ8:=@PySem.wpAny_nextOf_list_end
def bJ9:=@Array.getD_eq_getD_getElem?
def bJa:=@PySem.F.called_set
def bJb:=@List.any_eq_false
def bJc:=@beq_iff_eq
def bJd:=@List.length_set
def bJe:=@PySem.wpAny_pyIter_list
def bJf:=@List.mem_iff_getElem
def bJg:=@PySem.wpAny_fieldsOf
def bJh:=@List.range'_succ
def bJi:=@List.getElem?_toArray
def bJj:=@List.filterMap_cons
def bJk:=@List.toList_toArray
def bJl:=@PySem.wpAny_letGo
def bJm:=@Nat.lt_trans
def bJn:=@List.append_nil
def bJo:=@PySem.wpAny_standAt
def bJp:=@PySem.tupleKind_room_in1
def bJq:=@Int.emod_lt_of_pos
def bJr:=@PySem.wpAny_specialOf
def bJs:=@PySem.F.plainAttrs_list
def bJt:=@PySem.F.args_zip_next_1
def bJu:=@PySem.typeLookup_type
def bJv:=@PyProof.Rows.F.plain_set_update_loop
def bJw:=@PySem.F.slot_list_append
def bJx:=@List.drop_of_length_le
def bJy:=@Array.getElem?_eq_none
def bJz:=@PySem.F.entry_min_loop
def bK0:=@List.mem_range'_1
def bK1:=@PySem.wpAny_rule
def bK2:=@Nat.not_lt_zero
def bK3:=@PySem.wpAny_pyIter_slot
def bK4:=@PySem.fits_of_scanBound
def bK5:=@PySem.isSubtype_stop
def bK6:=@List.length_filter_le
def bK7:=@PySem.F.args_dict_keyiterator_next_1
def bK8:=@List.length_take
def bK9:=@List.getElem_map
def bKa:=@Nat.zero_testBit
def bKb:=@Nat.le_add_right
def bKc:=@PySem.F.entry_dict_keyiterator_next
def bKd:=@Nat.pow_le_pow_right
def bKe:=@Nat.eq_of_testBit_eq
def bKf:=@List.range_eq_range'
def bKg:=@PySem.wpAny_updateSeq_pair
def bKh:=@List.any_cons
def bKi:=@PySem.wpAny_execs_nil
def bKj:=@PySem.W.plainGet_of
def bKk:=@List.cons_append
def bKl:=@Bool.eq_iff_iff
def bKm:=@PySem.post_val_or_str
def bKn:=@PySem.F.plain_proto_collect
def bKo:=@PySem.Calls.Name_function_global
def bKp:=@Int.fdiv_eq_ediv_of_nonneg
def bKq:=@Array.perm_iff_toList_perm
def bKr:=@PySem.F.args_object_init_3
def bKs:=@List.length_eraseIdx_of_lt
def bKt:=@Int.natCast_nonneg
def bKu:=@Nat.le_of_eq
def bKv:=@PySem.W.callWith_K
def bKw:=@List.any_map
def bKx:=@List.getElem_idxOf
def bKy:=@Bool.and_false
def bKz:=@List.lt_irrefl
def bL0:=@Nat.lt_pow_two_of_testBit
def bL1:=@PySem.F.entry_extend_loop
def bL2:=@List.Perm.refl
def bL3:=@Option.isSome_map
def bL4:=@List.length_erase_of_mem
def bL5:=@List.flatMap_cons
def bL6:=@Nat.le_of_succ_le
def bL7:=@PySem.wpAny_dictEntries
def bL8:=@List.ext_getElem?
def bL9:=@PyProof.Rows.boot_sorted
def bLa:=@Nat.le_succ
def bLb:=@PySem.F.args_list_append_2
def bLc:=@Bool.false_or
def bLd:=@List.filter_cons_of_pos
def bLe:=@List.filter_cons_of_neg
def bLf:=@Bool.and_eq_true
def bLg:=@Int.emod_nonneg
def bLh:=@decide_eq_false_iff_not
def bLi:=@PySem.eval_ListComp
def bLj:=@PySem.wpAny_onRaise
def bLk:=@PySem.F.slot_list_index
def bLl:=@List.length_drop
def bLm:=@List.all_eq_true
def bLn:=@List.take_length
def bLo:=@List.getElem_zip
def bLp:=@List.getElem?_set_self
def bLq:=@PySem.W.cellsFrom_some
def bLr:=@Nat.testBit_lt_two_pow
def bLs:=@List.append_eq_nil_iff
def bLt:=@List.find?_cons_of_pos
def bLu:=@List.find?_cons_of_neg
def bLv:=@List.range_succ_eq_map
def bLw:=@PySem.F.typeCall_zip_2
def bLx:=@List.of_mem_zip
def bLy:=@Classical.choose_spec
def bLz:=@List.pairwise_map
def bM0:=@Nat.add_zero
def bM1:=@PySem.F.newCall_zip_2
def bM2:=@PySem.F.entry_zip_new
def bM3:=@PySem.wpAny_dictEpoch
def bM4:=@PySem.F.slot_zip_iter
def bM5:=@List.foldl_cons
def bM6:=@PySem.Walks.list
def bM7:=@PySem.intKind_is
def bM8:=@List.getElem?_set_ne
def bM9:=@Array.mem_toList_iff
def bMa:=@List.getElem_toArray
def bMb:=@Array.getElem_toList
def bMc:=@Bool.false_and
def bMd:=@List.nodup_nil
def bMe:=@Int.natCast_add
def bMf:=@PySem.wpAny_of_eq
def bMg:=@List.lt_trans
def bMh:=@Option.getD_some
def bMi:=@Prod.ext
def bMj:=@Nat.testBit_or
def bMk:=@Nat.sub_zero
def bMl:=@Nat.sub_self
def bMm:=@Nat.le_total
def bMn:=@Nat.zero_add
def bMo:=@Iff.rfl
namespace L2
open PySem PySem.Spec PyProof.Rows
abbrev Key:=Sum Int Str
def aGf:Key->Value->Bool
 |.inl k,v=>Value.isInt k v
 |.inr x,v=>Value.isStrOf x v
def bEu(w:World):Key->Int
 |.inl k=>hashInt k
 |.inr x=>hashStr w x
def gG:∀{k:Key}{v:Value},aGf k v=true->(∃i t,k=Sum.inl i/\v=Value.int i t)\/(∃x t,k=Sum.inr x/\v=Value.str x t)
 |.inl i,v,h=>by
  obtain⟨t,e⟩:=Value.isInt_shape (k:=i) (v:=v) h;exact .inl ⟨i,t,rfl,e⟩
 |.inr x,v,h=>by
  obtain⟨t,e⟩:=Value.isStrOf_shape (x:=x) (v:=v) h;exact .inr ⟨x,t,rfl,e⟩
def aPs(i:Int)(t:Tok):aGf (.inl i) (.int i t)=true:=by simp[aGf,Value.isInt]
def aPt(x:Str)(t:Tok):aGf (.inr x) (.str x t)=true:=by simp[aGf,Value.isStrOf]
def aRn(a b:Int):decide ((Sum.inl a:Key)=Sum.inl b)=(a==b):=by
 by_cases e:a=b
 .subst e;simp
 .have h:¬ (Sum.inl a:Key)=Sum.inl b:=λq=>e (Sum.inl.inj q)
  rw[bG3 h];exact(bGs.mpr e).symm
def aRo(a b:Str):decide ((Sum.inr a:Key)=Sum.inr b)=decide (a=b):=by
 by_cases e:a=b
 .subst e;simp
 .have h:¬ (Sum.inr a:Key)=Sum.inr b:=λq=>e (Sum.inr.inj q)
  rw[bG3 h,bG3 e]
def aRp(a:Int)(b:Str):decide ((Sum.inl a:Key)=Sum.inr b)=false:=bG3 (λq=>nomatch q)
def aRq(a:Str)(b:Int):decide ((Sum.inr a:Key)=Sum.inl b)=false:=bG3 (λq=>nomatch q)
def iW(prog:Program)(w:World):PySem.KeyKind prog w Key where
 is:=aGf
 hash:=bEu w
 inj:=λv a b ha hb=>by
  rcases gG ha with ⟨i,t,rfl,rfl⟩|⟨x,t,rfl,rfl⟩
  .rcases gG hb with ⟨j,u,rfl,e⟩|⟨y,u,rfl,e⟩
   .injection e with e1 _;rw[e1]
   .exact nomatch e
  .rcases gG hb with ⟨j,u,rfl,e⟩|⟨y,u,rfl,e⟩
   .exact nomatch e
   .injection e with e1 _;rw[e1]
 byValue:=λk v h=>by
  rcases gG h with ⟨i,t,rfl,rfl⟩|⟨x,t,rfl,rfl⟩ <;> rfl
 pyHash:=λhv h=>by
  rcases gG hv with ⟨i,t,rfl,rfl⟩|⟨x,t,rfl,rfl⟩
  .exact wpAny_pyHash_int h
  .exact wpAny_pyHash_str h
 eqBool:=λhu hv h=>by
  rcases gG hu with ⟨i,t,rfl,rfl⟩|⟨x,t,rfl,rfl⟩
  .rcases gG hv with ⟨j,u,rfl,rfl⟩|⟨y,u,rfl,rfl⟩
   .rw[aRn]at h;exact wpAny_eqBool_int h
   .rw[aRp]at h;exact SeqAt.EqAt.int_str i t y u _ _ _ _ h
  .rcases gG hv with ⟨j,u,rfl,rfl⟩|⟨y,u,rfl,rfl⟩
   .rw[aRq]at h;exact SeqAt.EqAt.str_int x t j u _ _ _ _ h
   .rw[aRo]at h;exact wpAny_eqBool_str h
 «strs» := λk x t v h=>by
  rcases gG h with ⟨i,u,rfl,e⟩|⟨y,u,rfl,e⟩
  .exact nomatch e
  .injection e with e1 _
   subst e1;cases v<;>rfl
def aJd(prog:Program)(w:World)(i:Int)(t:Tok):(iW prog w).is (.inl i) (.int i t)=true:=aPs i t
def aJe(prog:Program)(w:World)(x:Str)(t:Tok):(iW prog w).is (.inr x) (.str x t)=true:=aPt x t
end L2
namespace L2
open PySem PySem.Spec PyProof.Rows
inductive V where
 |non|bl (b:Bool)|int (i:Int)|str (x:Str)|byt (b:Array UInt8)|flt (b:UInt64)|ref (a:Addr)|ty (n:String)
 deriving DecidableEq
def RelV:V->Value->Prop
 |.non,u=>u=Value.none
 |.bl b,u=>u=Value.bool b
 |.int i,u=>∃t,u=Value.int i t
 |.str x,u=>∃t,u=Value.str x t
 |.byt b,u=>∃t,u=Value.bytes b t
 |.flt b,u=>∃t,u=Value.float b t
 |.ref a,u=>u=Value.ref a
 |.ty n,u=>u=Value.type n
abbrev Vals:List V->List Value->Prop:=Paired RelV
theorem Vals.length{xs:List V}{us:List Value}(r:Vals xs us):xs.length=us.length:=Paired.length r
theorem Vals.get:∀{xs:List V}{us:List Value}{i:Nat}{x:V},Vals xs us->xs[i]?=some x->∃u,us[i]?=some u/\RelV x u
 |_,_,_,_,.nil,e=>by simp at e
 |_,_,0,_,.cons r _,e=>by simp at e;subst e;exact⟨_,rfl,r⟩
 |_,_,i+1,x,.cons _ t,e=>by
  obtain⟨u,h1,h2⟩:=Vals.get (i:=i) (x:=x) t (by simpa using e)
  exact⟨u,by simpa using h1,h2⟩
theorem Vals.set{x:V}{u:Value}(r:RelV x u):∀{xs:List V}{us:List Value}(i:Nat),Vals xs us->Vals (xs.set i x) (us.set i u)
 |_,_,_,.nil=>.nil
 |_,_,0,.cons _ t=>.cons r t
 |_,_,i+1,.cons q t=>.cons q (Vals.set r i t)
theorem Vals.append:∀{xs ys:List V}{us ws:List Value},Vals xs us->Vals ys ws->Vals (xs++ys) (us++ws)
 |_,_,_,_,.nil,s=>s
 |_,_,_,_,.cons r t,s=>.cons r (Vals.append t s)
theorem Vals.take:∀{xs:List V}{us:List Value}(n:Nat),Vals xs us->Vals (xs.take n) (us.take n)
 |_,_,0,_=>.nil
 |_,_,_+1,.nil=>.nil
 |_,_,n+1,.cons r t=>.cons r (Vals.take n t)
theorem Vals.drop:∀{xs:List V}{us:List Value}(n:Nat),Vals xs us->Vals (xs.drop n) (us.drop n)
 |_,_,0,r=>r
 |_,_,_+1,.nil=>.nil
 |_,_,n+1,.cons _ t=>Vals.drop n t
def uV:Option V->Option Value->Prop
 |some v,some u=>RelV v u
 |none,none=>True
 |_,_=>False
def KV{κ:Type}:List (κ×V)->List (κ×Value)->Prop:=Paired λ(p:κ×V)(q:κ×Value)=>p.1=q.1/\RelV p.2 q.2
def kV:Key->V
 |.inl i=>.int i
 |.inr x=>.str x
inductive HO where
 |lst (xs:List V)
 |tup (xs:List V)
 |dK (kvs:List (Key×V))|dT (kvs:List (List Key×V))
 |set (S:Int->Bool) (n:Nat)
 |ins (C dx:Addr) (fs:List (Str×V))
 |own (x:Addr)
 |xd (fs:List (Str×V))
 |met (f x:Addr)
 |rng (lo hi:Int)
 |frz (o:Obj) (u:HO)
 |tbl (ps:Array Value)
 |ext (φ:Heap->Prop)
abbrev Hp:=Addr->Option HO
def upd(H:Hp)(a:Addr)(o:HO):Hp:=λb=>if b=a then some o else H b
def bT{H:Hp}{a:Addr}{o:HO}:upd H a o a=some o:=by unfold upd;rw[bGa rfl]
def bB{H:Hp}{a b:Addr}{o:HO}(h:b≠a):upd H a o b=H b:=by unfold upd;rw[bG7 h]
def aYq{H:Hp}{a b:Addr}{o u:HO}(h:H a=some o)(h':H b=some u)(d:o≠u):a≠b:=by
 intro e;subst e;rw[h]at h';exact d (bHl h')
def aZ{H:Hp}{a b:Addr}{o:HO}(h:H a=some o)(h':H b=none):a≠b:=by
 intro e;subst e;rw[h]at h';cases h'
section
variable(P:Program)(w:World)
def iG(H:Hp)(h:Heap)(a:Addr):HO->Prop
 |.lst xs=>xs.length<=sizeLine/\∃(its:List Value)(n:Nat),Vals xs its/\h.get? a=some {cls:=.type "list",data:=.seq its.toArray n}
 |.tup xs=>xs.length<=sizeLine/\∃its:List Value,Vals xs its/\IsTup h a its.toArray
 |.dK kvs=>kvs.length<=sizeLine/\(a==sysModules)=false/\∃vs,KV kvs vs/\h.DictOf (iW P w) a vs
 |.dT kvs=>kvs.length<=sizeLine/\(a==sysModules)=false/\∃xs:List (List Key×Addr×Value),
   Paired (λ(p:List Key×V)(q:List Key×Addr×Value)=>p.1=q.1/\H q.2.1=some (.tup (p.1.map kV))/\RelV p.2 q.2.2) kvs xs/\
   ∃o es ep,h.get? a=some o/\o.ExactDict/\o.data=.dict es ep/\es.toList=xs.map (entryOfKey (tupleKind (iW P w)))/\(xs.map (·.1)).Nodup
 |.set S n=>h.SetOf (intKind P w) a S n
 |.ins C dx fs=>H dx=some (.own a)/\fs.length<=1000/\dx≠a/\h.get? a=some (PySem.W.instObj C dx)/\
   ∃mA,h.Ns1 dx mA/\(∀f,uV (fs.lookup f) (mA f))/\PySem.Within mA (fs.map (·.1))
 |.own _=>∃o,h.get? a=some o
 |.xd fs=>∃mA,h.Ns1 a mA/\∀f,uV (fs.lookup f) (mA f)
 |.rng lo hi=>∃t u v,h.get? a=some {cls:=.type "range",data:=.fields #[.int lo t,.int hi u,.int 1 v]}
 |.frz o u=>h.get? a=some o/\iG H h a u
 |.tbl ps=>h.get? a=some {cls:=.none,data:=.fields ps}
 |.met f x=>h.get? a=some (PySem.W.methodObj (.ref f) (.ref x))
 |.ext φ=>φ h/\(∃o,h.get? a=some o)/\∀h1 h2:Heap,φ h1->(∀o,h1.get? a=some o->h2.get? a=some o)->φ h2
def HOk(H:Hp)(h:Heap):Prop:=∀a o,H a=some o->iG P w H h a o
end
section
variable{P:Program}{w:World}{H H':Hp}{h h':Heap}{a:Addr}{o:HO}
theorem iG.lt(x:iG P w H h a o):a<h.objs.size:=by
 cases o with
 |lst xs=>obtain⟨_,_,_,_,e⟩:=x;exact bG2 e
 |tup xs=>obtain⟨_,_,_,p⟩:=x;exact p.lt
 |dK kvs=>obtain⟨_,_,_,_,o,_,_,e,_⟩:=x;exact bG2 e
 |dT kvs=>obtain⟨_,_,_,_,o,_,_,e,_⟩:=x;exact bG2 e
 |set S n=>obtain⟨o,_,_,_,e,_⟩:=x;exact bG2 e
 |ins C dx fs=>obtain⟨_,_,_,e,_⟩:=x;exact bG2 e
 |own y=>obtain⟨_,e⟩:=x;exact bG2 e
 |xd fs=>obtain⟨_,⟨_,_,_,e,_⟩,_⟩:=x;exact bG2 e
 |rng lo hi=>obtain⟨_,_,_,e⟩:=x;exact bG2 e
 |frz ob u=>obtain⟨e,_⟩:=x;exact bG2 e
 |tbl ps=>exact bG2 (show h.get? a=some _ from x)
 |met f y=>exact bG2 (show h.get? a=some _ from x)
 |ext φ=>obtain⟨_,⟨_,e⟩,_⟩:=x;exact bG2 e
theorem Paired.mapP{α β:Type}{F G:α->β->Prop}:∀{l₁:List α}{l₂:List β},Paired F l₁ l₂->(∀a b,F a b->G a b)->Paired G l₁ l₂
 |_,_,.nil,_=>.nil
 |_,_,.cons r t,f=>.cons (f _ _ r) (Paired.mapP t f)
def Paired.imp'{α β:Type}{F G:α->β->Prop}(f:∀a b,F a b->G a b){l₁:List α}{l₂:List β}(r:Paired F l₁ l₂):Paired G l₁ l₂:=Paired.mapP r f
def iG.stay(x:iG P w H h a o)(k:∀b u,(b=a\/H b=some (.own a))->h.get? b=some u->h'.get? b=some u)
  (ho:∀b,H b=some (.own a)->H' b=some (.own a)) (ht:∀b xs,H b=some (.tup xs)->H' b=some (.tup xs)):iG P w H' h' a o:=by
 induction o with
 |lst xs=>obtain⟨z,its,n,r,e⟩:=x;exact⟨z,its,n,r,k _ _ (.inl rfl) e⟩
 |tup xs=>obtain⟨z,its,r,ob,e,c⟩:=x;exact⟨z,its,r,ob,k _ _ (.inl rfl) e,c⟩
 |dK kvs=>obtain⟨z,y,vs,r,ob,es,ep,e,c⟩:=x;exact⟨z,y,vs,r,ob,es,ep,k _ _ (.inl rfl) e,c⟩
 |dT kvs=>
  obtain⟨z,y,xs,r,ob,es,ep,e,c⟩:=x;exact⟨z,y,xs,Paired.mapP r λp q z=>⟨z.1,ht _ _ z.2.1,z.2.2⟩,ob,es,ep,k _ _ (.inl rfl) e,c⟩
 |set S n=>obtain⟨ob,es,ep,t,e,c⟩:=x;exact⟨ob,es,ep,t,k _ _ (.inl rfl) e,c⟩
 |ins C dx fs=>
  obtain⟨d,z,ne,e,mA,⟨od,es,ep,e2,c⟩,r⟩:=x;exact⟨ho _ d,z,ne,k _ _ (.inl rfl) e,mA,⟨od,es,ep,k _ _ (.inr d) e2,c⟩,r⟩
 |own y=>obtain⟨ob,e⟩:=x;exact⟨ob,k _ _ (.inl rfl) e⟩
 |xd fs=>obtain⟨mA,⟨od,es,ep,e,c⟩,r⟩:=x;exact⟨mA,⟨od,es,ep,k _ _ (.inl rfl) e,c⟩,r⟩
 |rng lo hi=>obtain⟨t,u,v,e⟩:=x;exact⟨t,u,v,k _ _ (.inl rfl) e⟩
 |frz ob u ih=>obtain⟨e,q⟩:=x;exact⟨k _ _ (.inl rfl) e,ih q⟩
 |tbl ps=>
  have e:h.get? a=some {cls:=.none,data:=.fields ps}:=x;show h'.get? a=some {cls:=.none,data:=.fields ps};exact k a _ (.inl rfl) e
 |met f y=>
  have e:h.get? a=some (PySem.W.methodObj (.ref f) (.ref y)):=x;show h'.get? a=some (PySem.W.methodObj (.ref f) (.ref y));exact k a _ (.inl rfl) e
 |ext φ=>obtain⟨p,⟨o,e⟩,st⟩:=x;exact⟨st _ _ p λo q=>k _ _ (.inl rfl) q,⟨o,k _ _ (.inl rfl) e⟩,st⟩
theorem HOk.lt(x:HOk P w H h)(e:H a=some o):a<h.objs.size:=(x a o e).lt
def HOk.fresh(x:HOk P w H h)(e:h.objs.size<=a):H a=none:=by
 cases q:H a with
 |none=>rfl
 |some u=>exact absurd (bG9 (x.lt q) e) (bH0 _)
def HOk.kept(x:HOk P w H h)(k:∀b u,h.get? b=some u->h'.get? b=some u):HOk P w H h':=λa o e=>
 (x a o e).stay (λb u _ q=>k b u q) (λ_ q=>q) λ_ _ q=>q
def HOk.laid(x:HOk P w H h)(k:∀b u,h.get? b=some u->h'.get? b=some u)(hp:h.objs.size<=a)(new:iG P w (upd H a o) h' a o):HOk P w (upd H a o) h':=λb u e=>by
 have hn:=x.fresh hp
 by_cases hb:b=a
 .subst hb;rw[bT]at e;cases e;exact new
 .rw[bB hb]at e;exact(x b u e).stay (λc v _ q=>k c v q) (λc q=>by rw[bB (aZ q hn)];exact q) λc xs q=>by rw[bB (aZ q hn)];exact q
end
def Rd(H:Hp)(a:Addr)(u:HO):Prop:=H a=some u\/∃o,H a=some (.frz o u)
def Rd.ok{P:Program}{w:World}{H:Hp}{h:Heap}{a:Addr}{u:HO}(r:Rd H a u)(x:HOk P w H h):iG P w H h a u:=by
 rcases r with r|⟨o,r⟩
 .exact x a u r
 .obtain⟨_,q⟩:=x a _ r;exact q
def Mut:Option HO->Prop
 |some (.lst _)=>True
 |some (.dK _)=>True
 |some (.dT _)=>True
 |some (.set _ _)=>True
 |some (.ins _ _ _)=>True
 |some (.ext _)=>True
 |_=>False
section
variable{P:Program}{w:World}{H:Hp}{h h':Heap}{x e:Addr}{o':HO}
def HOk.write(ok:HOk P w H h)(mu:Mut (H x))(he:e=x\/H e=some (.own x))(k:∀b u,b≠e->h.get? b=some u->h'.get? b=some u)(heo:∃u,h'.get? e=some u)
  (new:iG P w (upd H x o') h' x o'):HOk P w (upd H x o') h':=λb u q=>by
 have nown:∀c y,H c=some (.own y)->c≠x:=λc y r z=>by subst z;rw[r]at mu;exact mu
 have ntup:∀c xs,H c=some (.tup xs)->c≠x:=λc xs r z=>by subst z;rw[r]at mu;exact mu
 by_cases hb:b=x
 .subst hb;rw[bT]at q;cases q;exact new
 .rw[bB hb]at q
  by_cases hbe:b=e
  .have q':H b=some (.own x):=by
    rcases he with z|z
    .exact absurd (hbe.trans z) hb
    .rw[hbe];exact z
   rw[q]at q';cases q';obtain⟨v,hv⟩:=heo;exact⟨v,by rw[hbe];exact hv⟩
  .refine(ok b u q).stay (λc v hc r=>k c v ?_ r) (λc r=>by rw[bB (nown c b r)];exact r) λc xs r=>by rw[bB (ntup c xs r)];exact r
   rcases hc with rfl|hc
   .exact hbe
   .rintro rfl;rcases he with z|z
    .exact nown c b hc z
    .rw[hc]at z;cases z;exact hb rfl
end
structure Un(fs ex:List Addr)(H H':Hp)(h h':Heap):Prop where
 keep:∀b o,h.get? b=some o->H b=none->b∉fs->b∉ex->h'.get? b=some o
 slot:∀b o,h.get? b=some o->H b=none->b∈fs->b∉ex->∃sl,h'.get? b=some {o with slots:=sl}
 free:∀b o,h.get? b=some o->H b=none->b∉ex->H' b=none
 there:∀b o,h.get? b=some o->b∉ex->∃o',h'.get? b=some o'
 tups:∀b xs,H b=some (.tup xs)->H' b=some (.tup xs)
 frzs:∀b o u,H b=some (.frz o u)->H' b=some (.frz o u)
 tbls:∀b ps,H b=some (.tbl ps)->∃more,H' b=some (.tbl (ps++more))
section
variable{fs fs' ex ex':List Addr}{H H1 H2:Hp}{h h1 h2 h':Heap}{a x e:Addr}{o:HO}
def Un.any(u:Un fs ex H H1 h h1){b:Addr}{ob:Obj}(q:h.get? b=some ob)(n:H b=none)(hx:b∉ex):∃sl,h1.get? b=some {ob with slots:=sl}:=by
 by_cases hb:b∈fs
 .exact u.slot b ob q n hb hx
 .exact⟨ob.slots,u.keep b ob q n hb hx⟩
def Un.kept(k:∀b u,h.get? b=some u->h'.get? b=some u):Un fs ex H H h h':=
 ⟨λb ob q _ _ _=>k b ob q,λb ob q _ _ _=>⟨ob.slots,k b ob q⟩,λ_ _ _ n _=>n,λb ob q _=>⟨ob,k b ob q⟩,λ_ _ q=>q,λ_ _ _ q=>q,λ_ ps q=>⟨#[],by rw[q];simp⟩⟩
def Un.refl:Un fs ex H H h h:=Un.kept λ_ _ q=>q
def Un.laid(k:∀b u,h.get? b=some u->h'.get? b=some u)(hp:h.objs.size<=a)(hn:H a=none):Un fs ex H (upd H a o) h h' where
 keep:=λb u q _ _ _=>k b u q
 slot:=λb u q _ _ _=>⟨u.slots,k b u q⟩
 free:=λb u q n _=>by rw[bB (bGb (bG9 (bG2 q) hp))];exact n
 there:=λb u q _=>⟨u,k b u q⟩
 tups:=λb xs q=>by rw[bB (aZ q hn)];exact q
 frzs:=λb u xs q=>by rw[bB (aZ q hn)];exact q
 tbls:=λb ps q=>⟨#[],by rw[bB (aZ q hn),q];simp⟩
def Un.write(mu:Mut (H x))(he:e=x\/H e=some (.own x))(k:∀b u,b≠e->h.get? b=some u->h'.get? b=some u)(heo:∃u,h'.get? e=some u):Un fs ex H (upd H x o) h h':=by
 have hx:∀b,H b=none->b≠x:=λb n z=>by subst z;rw[n]at mu;exact mu
 have hb:∀b,H b=none->b≠e:=λb n z=>by
  subst z;rcases he with r|r
  .exact hx b n r
  .rw[n]at r;cases r
 have hm:∀b u,H b=some u->¬ Mut (some u)->b≠x:=λb u q nm z=>by subst z;rw[q]at mu;exact nm mu
 refine⟨λb u q n _ _=>k b u (hb b n) q,λb u q n _ _=>⟨u.slots,k b u (hb b n) q⟩,λb u q n _=>by rw[bB (hx b n)];exact n,λb u q _=>?_,
  λb xs q=>by rw[bB (hm b _ q λz=>z)];exact q,λb u xs q=>by rw[bB (hm b _ q λz=>z)];exact q,λb ps q=>⟨#[],by rw[bB (hm b _ q λz=>z),q];simp⟩⟩
 by_cases hbe:b=e
 .subst hbe;exact heo
 .exact⟨u,k b u hbe q⟩
end
def trk(h:Heap)(H:Hp):List Addr:=(List.range h.objs.size).filter λa=>(H a).isSome
def aHm(h:Heap)(H:Hp):Heap:=PySem.W.hideAll h (trk h H)
def aPu(h:Heap)(H:Hp):(aHm h H).objs.size=h.objs.size:=PySem.W.hideAll_size _ _
def aRr{h:Heap}{H:Hp}{b:Addr}{o:Obj}(e:h.get? b=some o)(n:H b=none):(aHm h H).get? b=some o:=
 PySem.W.hideAll_get _ e λhm=>by
  have q:(H b).isSome=true:=(bH7.mp hm).2;rw[n]at q;simp at q
def aVo{h:Heap}{H:Hp}{b:Addr}{o:Obj}(e:(aHm h H).get? b=some o):h.get? b=some o/\H b=none:=by
 have e':h.get? b=some o:=PySem.W.of_hideAll (trk h H) e;refine⟨e',?_⟩;cases q:H b with
 |none=>rfl
 |some x=>
  have hm:b∈trk h H:=bH7.mpr ⟨bGr.mpr (bG2 e'),by simp[q]⟩
  have z:(aHm h H).get? b=none:=PySem.W.hideAll_none (trk h H) hm;rw[z]at e;cases e
def aVp(g h:Heap)(L:Addr):List (Addr×Obj):=(List.range h.objs.size).filterMap λa=>if a=L\/(g.get? a).isSome=true then none else (h.get? a).map λo=>(a,o)
def rest(g h:Heap)(L d:Addr):List (Addr×Obj):=(aVp g h L).filter λp=>decide (p.1≠d)
end L2
namespace L2
open PySem PySem.Spec PyProof.Rows
structure Mod(K:PySem.W.Frag)(mg:Str->Option Value)(base:Heap):Prop where
 kin:K.In base
 glob:base.Ns mainGlobals mg
 blt:∃mb,base.Ns builtinsNs mb/\∀x:Str,x≠"__name__"->mb x=bootBuiltins x
 nolimit:base.NoLimit
structure Cx where
 prog:Program
 w:World
 K:PySem.W.Frag
 mg:Str->Option Value
 base:Heap
 A:Around
 N:List Str
 s₀:Shared
 H₀:Hp
 env:Env
 outer:List Env
 stack:List Env
 ex:List Addr
 fn:Str->Bool
 calm:Bool
 pn:List (Addr×Obj)
 xe:Value->Shared->Prop
def frs(l:List Env):List Addr:=l.filterMap (·.frame)
abbrev Cx.fs(X:Cx):List Addr:=frs X.outer
def Vis(sc:Scope)(x:Str):Prop:=sc.names.lookup x=some .local\/sc.names.lookup x=some .cell\/sc.names.lookup x=some .free
def Loc(sc:Scope)(x:Str):Prop:=sc.names.lookup x=some .local\/sc.names.lookup x=some .cell
def Look(env:Env)(h:Heap)(m:Str->Option Value)(x:Str)(u:Value):Prop:=
 (env.kindOf x=some .local/\m x=some u)\/((env.kindOf x=some .cell\/env.kindOf x=some .free)/\∃c,env.cells.lookup x=some c/\h.IsCell c (some u))
structure Cx.Ok(X:Cx):Prop where
 mod:Mod X.K X.mg X.base
 kind:X.env.scope.kind=.function
 glob:X.env.globals=mainGlobals
 blt:X.env.builtins=builtinsNs
 above:X.s₀.heap.objs.size<=X.env.locals
 inj:∀x y c,X.env.cells.lookup x=some c->X.env.cells.lookup y=some c->x=y
 has:∀x,(X.env.kindOf x=some .cell\/X.env.kindOf x=some .free)->∃c,X.env.cells.lookup x=some c
 cab:∀x c,X.fn x=true->X.env.cells.lookup x=some c->X.s₀.heap.objs.size<=c
 hd:X.calm=true->X.A.handled=none
 frames:X.A.frames=some X.stack
 stk:X.stack=X.outer\/(X.stack=X.env::X.outer/\X.env.frame=some X.env.locals)
 exf:∀b∈X.ex,b≠X.env.locals/\∀x c,X.env.cells.lookup x=some c->c≠b
 bs:∀b o,X.base.get? b=some o->X.s₀.heap.get? b=some o/\X.H₀ b=none
 bsz:X.base.objs.size<=X.s₀.heap.objs.size
 noex:∀b o,X.base.get? b=some o->b∉X.ex
 exfs:∀b∈X.ex,b∉X.fs
 funs:X.s₀.heap.FunFrames X.base X.outer
 frf:∀b∈X.fs,X.H₀ b=none
structure Inv(X:Cx)(pins:List (Addr×Obj))(σ:List (Option V))(H:Hp)(s:Shared):Prop where
 ok:X.Ok
 os:s.os=X.s₀.os
 bare:AllBare s.gens
 base:Un X.fs X.ex X.H₀ H X.s₀.heap s.heap
 loc:∃m,s.heap.Ns X.env.locals m/\∀(i:Nat)(x:Str)(v:V),X.N[i]?=some x->σ[i]?=some (some v)->Vis X.env.scope x->∃u,RelV v u/\Look X.env s.heap m x u
 cell:∀x c,X.env.cells.lookup x=some c->∃v,s.heap.IsCell c v
 free:H X.env.locals=none
 freeC:∀x c,X.env.cells.lookup x=some c->H c=none
 pin:∀p∈X.pn++pins,s.heap.get? p.1=some p.2/\H p.1=none/\p.1≠X.env.locals/\p.1∉X.fs/\∀v,p.2.data≠.cell v
 hok:HOk X.prog X.w H s.heap
 len:σ.length=X.N.length
section
variable{X:Cx}{pins:List (Addr×Obj)}{σ:List (Option V)}{H H':Hp}{s:Shared}{h':Heap}
def Cx.Ok.nofr(ok:X.Ok){b:Addr}{o:Obj}(e:X.base.get? b=some o):b∉X.fs:=λhb=>by
 have:=(ok.funs.mem hb).1;rw[e]at this;cases this
theorem Inv.bs(I:Inv X pins σ H s):∀b o,X.base.get? b=some o->s.heap.get? b=some o/\H b=none:=λb o e=>
 ⟨I.base.keep b o (I.ok.bs b o e).1 (I.ok.bs b o e).2 (I.ok.nofr e) (I.ok.noex b o e),I.base.free b o (I.ok.bs b o e).1 (I.ok.bs b o e).2 (I.ok.noex b o e)⟩
def Inv.bk(I:Inv X pins σ H s):∀b o,X.base.get? b=some o->s.heap.get? b=some o:=λb o e=>(I.bs b o e).1
theorem Inv.mod(I:Inv X pins σ H s):Mod X.K X.mg X.base:=I.ok.mod
def Inv.kIn(I:Inv X pins σ H s):X.K.In s.heap:=I.ok.mod.kin.keeps I.bk
theorem Inv.lt(I:Inv X pins σ H s):X.env.locals<s.heap.objs.size:=let ⟨_,hn,_⟩:=I.loc;hn.lt
def Inv.sz(I:Inv X pins σ H s):X.s₀.heap.objs.size<=s.heap.objs.size:=bGy I.ok.above (bJ5 I.lt)
def Inv.nofs(I:Inv X pins σ H s){a:Addr}(h:s.heap.objs.size<=a):a∉X.fs:=λhb=>by
 obtain⟨_,o,ho,_⟩:=I.ok.funs.mem hb;exact absurd (bG9 (bG2 ho) (bGy I.sz h)) (bH0 _)
def Inv.cne(I:Inv X pins σ H s):∀x c,X.env.cells.lookup x=some c->c≠X.env.locals:=λx c e z=>by
 obtain⟨v,o,ho,hd⟩:=I.cell x c e;obtain⟨m,⟨o',es,ep,ho',hd',_⟩,_⟩:=I.loc;rw[z,ho']at ho;cases ho;rw[hd']at hd;cases hd
theorem Inv.funs(I:Inv X pins σ H s):s.heap.FunFrames X.base X.outer:=by
 have all:∀(l:List Env),(∀b∈frs l,b∈X.fs)->X.s₀.heap.FunFrames X.base l->s.heap.FunFrames X.base l:=by
  intro l
  induction l with
  |nil=>intro _ _;trivial
  |cons env r ih=>
   intro hs hl;obtain⟨hk,⟨L,o,hf,hn,ho,hd⟩,hr⟩:=hl;have hL:L∈X.fs:=hs L (by unfold frs;rw[bJj,hf];exact bFx)
   obtain⟨sl,e⟩:=I.base.slot L o ho (I.ok.frf L hL) hL λz=>I.ok.exfs L z hL
   exact⟨hk,⟨L,_,hf,hn,e,hd⟩,ih (λb hb=>hs b (by unfold frs;rw[bJj,hf];exact bFw _ hb)) hr⟩
 exact all X.outer (λ_ hb=>hb) I.ok.funs
theorem Inv.stack(I:Inv X pins σ H s):s.heap.FunFrames X.base X.stack:=by
 rcases I.ok.stk with e|⟨e,hf⟩
 .rw[e];exact I.funs
 .rw[e];obtain⟨m,hn,_⟩:=I.loc;refine .cons (by rw[I.ok.kind];decide) hf hn ?_ I.funs
  exact Heap.get?_none_of_le (bGy I.ok.bsz I.ok.above)
def Inv.stkSub(I:Inv X pins σ H s):∀b∈frs X.stack,b∈X.env.locals::X.fs:=λb hb=>by
 rcases I.ok.stk with e|⟨e,hf⟩
 .rw[e]at hb;exact bFw _ hb
 .rw[e]at hb;unfold frs at hb;rw[bJj,hf]at hb;exact hb
def Inv.stkFree(I:Inv X pins σ H s):∀b∈frs X.stack,H b=none:=λb hb=>by
 rcases bG0.mp (I.stkSub b hb) with e|hb
 .rw[e];exact I.free
 .obtain⟨_,o,ho,_⟩:=I.ok.funs.mem hb;exact I.base.free b o ho (I.ok.frf b hb) λz=>I.ok.exfs b z hb
def Inv.step{g':Array GenState}{t':Nat}{d':Drawn}{ch:List Addr}(I:Inv X pins σ H s)
  (hch:∀b∈ch,(b∈X.ex\/X.s₀.heap.objs.size<=b)/\b≠X.env.locals/\(∀x c,X.env.cells.lookup x=some c->c≠b)/\∀p∈X.pn++pins,p.1≠b)
  (keep:∀b o,b≠X.env.locals->b∉X.fs->b∉ch->s.heap.get? b=some o->H b=none->h'.get? b=some o)
  (slot:∀b o,b≠X.env.locals->b∈X.fs->b∉ch->s.heap.get? b=some o->H b=none->∃sl,h'.get? b=some {o with slots:=sl}) (free:∀b o,b∉ch->s.heap.get? b=some o->H b=none->H' b=none)
  (there:∀b o,b∉ch->s.heap.get? b=some o->∃o',h'.get? b=some o')
  (tups:∀b xs,H b=some (.tup xs)->H' b=some (.tup xs)) (frzs:∀b o u,H b=some (.frz o u)->H' b=some (.frz o u)) (tbls:∀b ps,H b=some (.tbl ps)->∃more,H' b=some (.tbl (ps++more)))
  (ns:∀m,s.heap.Ns X.env.locals m->h'.Ns X.env.locals m) (hok:HOk X.prog X.w H' h') (hg:AllBare g') :
  Inv X pins σ H' {s with heap:=h',gens:=g',drawn:=d',toks:=t'}:=by
 have neL:∀b o,X.s₀.heap.get? b=some o->b≠X.env.locals:=λb o e=>bGb (bG9 (bG2 e) I.ok.above)
 have neC:∀b o,X.s₀.heap.get? b=some o->b∉X.ex->b∉ch:=λb o e hx hb=>by
  rcases (hch b hb).1 with z|z
  .exact hx z
  .exact absurd (bG9 (bG2 e) z) (bH0 _)
 have cellK:∀x c,X.env.cells.lookup x=some c->∀v,s.heap.IsCell c v->h'.IsCell c v:=λx c e v ⟨o,ho,hd⟩=>by
  have nch:c∉ch:=λz=>(hch c z).2.2.1 x c e rfl
  by_cases hc:c∈X.fs
  .obtain⟨sl,q⟩:=slot c o (I.cne x c e) hc nch ho (I.freeC x c e);exact⟨_,q,hd⟩
  .exact⟨o,keep c o (I.cne x c e) hc nch ho (I.freeC x c e),hd⟩
 refine⟨I.ok,I.os,hg,⟨λb o e n hb hx=>?_,λb o e n hb hx=>?_,λb o e n hx=>?_,λb o e hx=>?_,λb xs e=>tups b xs (I.base.tups b xs e),λb o xs e=>frzs b o xs (I.base.frzs b o xs e),λb ps e=>?_⟩,?_,λx c e=>?_,?_,λx c e=>?_,λp hp=>?_,hok,I.len⟩
 .exact keep b o (neL b o e) hb (neC b o e hx) (I.base.keep b o e n hb hx) (I.base.free b o e n hx)
 .obtain⟨sl,e1⟩:=I.base.slot b o e n hb hx;obtain⟨sl',e2⟩:=slot b _ (neL b o e) hb (neC b o e hx) e1 (I.base.free b o e n hx);exact⟨sl',e2⟩
 .obtain⟨o',e1⟩:=I.base.there b o e hx;exact free b o' (neC b o e hx) e1 (I.base.free b o e n hx)
 .obtain⟨o',e1⟩:=I.base.there b o e hx;exact there b o' (neC b o e hx) e1
 .obtain⟨m1,e1⟩:=I.base.tbls b ps e;obtain⟨m2,e2⟩:=tbls b _ e1;exact⟨m1++m2,by rw[e2,Array.append_assoc]⟩
 .obtain⟨m,hn,hl⟩:=I.loc;refine⟨m,ns m hn,λi x v e1 e2 e3=>?_⟩
  obtain⟨u,r,l⟩:=hl i x v e1 e2 e3;refine⟨u,r,?_⟩;rcases l with l|⟨k,c,e,z⟩
  .exact .inl l
  .exact .inr ⟨k,c,e,cellK x c e _ z⟩
 .obtain⟨v,z⟩:=I.cell x c e;exact⟨v,cellK x c e v z⟩
 .obtain⟨m,⟨o,_,_,ho,_⟩,_⟩:=I.loc;exact free _ o (λz=>(hch _ z).2.1 rfl) ho I.free
 .obtain⟨v,o,ho,hd⟩:=I.cell x c e;exact free c o (λz=>(hch c z).2.2.1 x c e rfl) ho (I.freeC x c e)
 .obtain⟨e,n,ne,nf,d⟩:=I.pin p hp;have nch:p.1∉ch:=λz=>(hch p.1 z).2.2.2 p hp rfl
  exact⟨keep p.1 p.2 ne nf nch e n,free p.1 p.2 nch e n,ne,nf,d⟩
def Inv.un{t':Nat}(I:Inv X pins σ H s)(u:Un X.fs [] H H' s.heap h')(hok:HOk X.prog X.w H' h'):Inv X pins σ H' {s with heap:=h',toks:=t'}:=by
 obtain⟨m,⟨o,es,ep,ho,r⟩,_⟩:=id I.loc;obtain⟨sl,hL⟩:=u.any ho I.free (by simp)
 exact I.step (g':=s.gens) (d':=s.drawn) (ch:=[]) (λ_ z=>nomatch z) (λb o _ hb _ e n=>u.keep b o e n hb (by simp)) (λb o _ hb _ e n=>u.slot b o e n hb (by simp)) (λb o _ e n=>u.free b o e n (by simp)) (λb o _ e=>u.there b o e (by simp)) u.tups u.frzs u.tbls (λm' hm=>by
  obtain⟨o',es',ep',ho',r'⟩:=hm;rw[ho]at ho';cases ho';exact⟨_,es',ep',hL,r'⟩) hok I.bare
def Inv.call{g':Array GenState}{t':Nat}{d':Drawn}{ch:List Addr}(I:Inv X pins σ H s)(u:Un (frs X.stack) ch H H' s.heap h')(hok:HOk X.prog X.w H' h')(hg:AllBare g')
  (hch:∀b∈ch,(b∈X.ex\/X.s₀.heap.objs.size<=b)/\b≠X.env.locals/\(∀x c,X.env.cells.lookup x=some c->c≠b)/\∀p∈X.pn++pins,p.1≠b) :
  Inv X pins σ H' {s with heap:=h',gens:=g',drawn:=d',toks:=t'}:=by
 obtain⟨m,⟨o,es,ep,ho,r⟩,_⟩:=id I.loc;obtain⟨sl,hL⟩:=u.any ho I.free λz=>(hch _ z).2.1 rfl
 exact I.step (ch:=ch) hch (λb o hL hb hc e n=>u.keep b o e n (λz=>(bG0.mp (I.stkSub b z)).elim hL hb) hc) (λb o _ _ hc e n=>u.any e n hc) (λb o hc e n=>u.free b o e n hc) (λb o hc e=>u.there b o e hc) u.tups u.frzs u.tbls (λm' hm=>by
  obtain⟨o',es',ep',ho',r'⟩:=hm;rw[ho]at ho';cases ho';exact⟨_,es',ep',hL,r'⟩) hok hg
def Inv.turned{t':Nat}{it:Addr}(I:Inv X pins σ H s)(k:∀b o,b≠it->s.heap.get? b=some o->h'.get? b=some o)(hn:H it=none)(hL:it≠X.env.locals)
  (h1:it∈X.ex\/X.s₀.heap.objs.size<=it) (h2:∀x c,X.env.cells.lookup x=some c->c≠it) (h3:∀p∈X.pn++pins,p.1≠it):Inv X pins σ H {s with heap:=h',toks:=t'}:=by
 have nit:∀b u,H b=some u->b≠it:=λb u e z=>by rw[z,hn]at e;cases e
 refine I.step (g':=s.gens) (d':=s.drawn) (ch:=[it]) (λb hb=>?_) (λb o _ _ hc e _=>k b o (λz=>hc (by simp[z])) e) (λb o _ _ hc e _=>⟨o.slots,k b o (λz=>hc (by simp[z])) e⟩) (λ_ _ _ _ n=>n)
  (λb o hc e=>⟨o,k b o (λz=>hc (by simp[z])) e⟩) (λ_ _ e=>e) (λ_ _ _ e=>e) (λb ps e=>⟨#[],by rw[e];simp⟩) (λm hm=>?_) (λb u e=>?_) I.bare
 .have e:b=it:=by simpa using hb
  subst e;exact⟨h1,hL,h2,h3⟩
 .obtain⟨o,es,ep,ho,r⟩:=hm;exact⟨o,es,ep,k _ o (bHx hL) ho,r⟩
 .refine(I.hok b u e).stay (λc v hc q=>k c v ?_ q) (λ_ q=>q) λ_ _ q=>q
  rcases hc with z|z
  .rw[z];exact nit b u e
  .exact nit c _ z
def Inv.tok(I:Inv X pins σ H s)(t:Nat):Inv X pins σ H {s with toks:=t}:=I.un (h':=s.heap) (t':=t) Un.refl I.hok
theorem Inv.kept{t':Nat}(I:Inv X pins σ H s)(k:∀b u,s.heap.get? b=some u->h'.get? b=some u):Inv X pins σ H {s with heap:=h',toks:=t'}:=I.un (Un.kept k) (I.hok.kept k)
theorem Inv.laid{a:Addr}{o:HO}{t':Nat}(I:Inv X pins σ H s)(k:∀b u,s.heap.get? b=some u->h'.get? b=some u)(hp:s.heap.objs.size<=a)(new:iG X.prog X.w (upd H a o) h' a o) :
  Inv X pins σ (upd H a o) {s with heap:=h',toks:=t'}:=I.un (Un.laid k hp (I.hok.fresh hp)) (I.hok.laid k hp new)
theorem Inv.write{x e:Addr}{o:HO}{t':Nat}(I:Inv X pins σ H s)(mu:Mut (H x))(he:e=x\/H e=some (.own x))(k:∀b u,b≠e->s.heap.get? b=some u->h'.get? b=some u)(heo:∃u,h'.get? e=some u)
  (new:iG X.prog X.w (upd H x o) h' x o):Inv X pins σ (upd H x o) {s with heap:=h',toks:=t'}:=I.un (Un.write mu he k heo) (I.hok.write mu he k heo new)
def Inv.pins_of{pins':List (Addr×Obj)}(I:Inv X pins σ H s)(h:∀p∈pins',s.heap.get? p.1=some p.2/\H p.1=none/\p.1≠X.env.locals/\p.1∉X.fs/\∀v,p.2.data≠.cell v):Inv X pins' σ H s:=
 ⟨I.ok,I.os,I.bare,I.base,I.loc,I.cell,I.free,I.freeC,λp hp=>(bGm.mp hp).elim (λz=>I.pin p (bGx _ z)) (h p),I.hok,I.len⟩
def aJf{N:List Str}(hN:N.Nodup){i j:Nat}{x:Str}(a:N[i]?=some x)(b:N[j]?=some x):i=j:=by
 obtain⟨h1,e1⟩:=bFy.mp a;obtain⟨h2,e2⟩:=bFy.mp b;exact(List.getElem_inj hN).mp (e1.trans e2.symm)
def aGg{M:Model}{A:Around}{E:Value->Shared->Prop}{i:Nat}{x:Str}{v:V}{u:Value}{Q:Unit->Shared->Prop}(I:Inv X pins σ H s)(hN:X.N.Nodup)(hi:X.N[i]?=some x)(hx:Loc X.env.scope x)(r:RelV v u)
  (h:∀s',Inv X pins (σ.set i (some v)) H s'->(∃a,Heap.SameBut a s.heap s'.heap/\(a=X.env.locals\/X.env.cells.lookup x=some a))->Q () s') (hf:X.fn x=true\/X.env.scope.names.lookup x=some .local:=by first|exact .inl rfl|exact .inr rfl|assumption):wpAny M A (storeName X.env x u) Q E s:=by
 obtain⟨m,hn,hl⟩:=id I.loc;have hcls:(X.env.scope.kind == .class||(X.env.scope.kind == .module&&X.env.locals !=X.env.globals))=false:=by rw[I.ok.kind];rfl
 have hiσ:i<σ.length:=by rw[I.len];exact(bFy.mp hi).1
 have cne:=I.cne;have tracked:∀{a:Addr}{h':Heap},(∃o,s.heap.get? a=some o/\H a=none)->Heap.SameBut a s.heap h'->HOk X.prog X.w H h':=λ{a h'} ha hs b ob e=>by
  obtain⟨_,_,hfree⟩:=ha;refine(I.hok b ob e).stay (λc w' hc q=>(hs.2 c ?_).trans q) (λ_ q=>q) λ_ _ q=>q
  rintro rfl;rcases hc with rfl|hc
  .rw[hfree]at e;cases e
  .rw[hfree]at hc;cases hc
 rcases hx with hk|hk
 .refine wpAny_storeName_local hk hn (λh' hn' hs=>?_) hcls
  obtain⟨oL,_,_,hoL,_⟩:=id hn;refine h _ ⟨I.ok,I.os,I.bare,⟨λb o e n hb hx=>?_,λb o e n hb hx=>?_,I.base.free,λb o e hx=>?_,I.base.tups,I.base.frzs,I.base.tbls⟩,⟨_,hn',λj y v' e1 e2 e3=>?_⟩,λy c e=>?_,I.free,I.freeC,λp hp=>?_,tracked ⟨oL,hoL,I.free⟩ hs,by simpa using I.len⟩ ⟨_,hs,.inl rfl⟩
  .exact(hs.2 b (bGb (bG9 (bG2 e) I.ok.above))).trans (I.base.keep b o e n hb hx)
  .obtain⟨sl,e1⟩:=I.base.slot b o e n hb hx;exact⟨sl,(hs.2 b (bGb (bG9 (bG2 e) I.ok.above))).trans e1⟩
  .obtain⟨o',e1⟩:=I.base.there b o e hx;exact⟨o',(hs.2 b (bGb (bG9 (bG2 e) I.ok.above))).trans e1⟩
  .by_cases hj:j=i
   .subst hj;rw[hi]at e1;cases e1;rw[bLp hiσ]at e2;cases e2;exact⟨u,r,.inl ⟨hk,by simp⟩⟩
   .rw[bM8 (bHx hj)]at e2;obtain⟨u',r',q⟩:=hl j y v' e1 e2 e3;refine⟨u',r',?_⟩;rcases q with ⟨k,e⟩|⟨k,c,e,z⟩
    .refine .inl ⟨k,?_⟩;have:y≠x:=λe=>hj (aJf hN e1 (e ▸ hi))
     simp[this,e]
    .exact .inr ⟨k,c,e,z.sameBut hs (cne y c e)⟩
  .obtain⟨w',z⟩:=I.cell y c e;exact⟨w',z.sameBut hs (cne y c e)⟩
  .obtain⟨e,n,ne,nf,d⟩:=I.pin p hp;exact⟨(hs.2 p.1 ne).trans e,n,ne,nf,d⟩
 .have hfn:X.fn x=true:=by
   rcases hf with z|z
   .exact z
   .rw[z]at hk;cases hk
  obtain⟨c,hc⟩:=I.ok.has x (.inl hk);obtain⟨w',z⟩:=I.cell x c hc;refine wpAny_storeName_cell I.ok.kind hk hc z (λh' hc' hs=>?_)
  obtain⟨oc,hoc,hocd⟩:=id z;refine h {s with heap:=h'} ⟨I.ok,I.os,I.bare,⟨λb o e n hb hx=>?_,λb o e n hb hx=>?_,I.base.free,λb o e hx=>?_,I.base.tups,I.base.frzs,I.base.tbls⟩,⟨m,hn.sameBut hs (bHx (cne x c hc)),λj y v' e1 e2 e3=>?_⟩,λy c' e=>?_,I.free,I.freeC,λp hp=>?_,tracked ⟨oc,hoc,I.freeC x c hc⟩ hs,by simpa using I.len⟩ ⟨c,hs,.inr hc⟩
  .exact(hs.2 b (bGb (bG9 (bG2 e) (I.ok.cab x c hfn hc)))).trans (I.base.keep b o e n hb hx)
  .obtain⟨sl,e1⟩:=I.base.slot b o e n hb hx;exact⟨sl,(hs.2 b (bGb (bG9 (bG2 e) (I.ok.cab x c hfn hc)))).trans e1⟩
  .obtain⟨o',e1⟩:=I.base.there b o e hx;exact⟨o',(hs.2 b (bGb (bG9 (bG2 e) (I.ok.cab x c hfn hc)))).trans e1⟩
  .by_cases hj:j=i
   .subst hj;rw[hi]at e1;cases e1;rw[bLp hiσ]at e2;cases e2;exact⟨u,r,.inr ⟨.inl hk,c,hc,hc'⟩⟩
   .rw[bM8 (bHx hj)]at e2;obtain⟨u',r',q⟩:=hl j y v' e1 e2 e3;refine⟨u',r',?_⟩;rcases q with q|⟨k,c',e,z'⟩
    .exact .inl q
    .refine .inr ⟨k,c',e,z'.sameBut hs ?_⟩;rintro rfl;exact hj (aJf hN e1 (I.ok.inj _ _ _ e hc ▸ hi))
  .by_cases hcc:c'=c
   .subst hcc;exact⟨_,hc'⟩
   .obtain⟨w2,z2⟩:=I.cell y c' e;exact⟨w2,z2.sameBut hs hcc⟩
  .obtain⟨e,n,ne,nf,d⟩:=I.pin p hp;refine⟨(hs.2 p.1 ?_).trans e,n,ne,nf,d⟩;intro q;rw[q,hoc]at e;have q':oc=p.2:=bHl e;exact d w' (by rw[<-q'];exact hocd)
def store_ok{M:Model}{A:Around}{E:Value->Shared->Prop}{i:Nat}{x:Str}{v:V}{u:Value}{Q:Unit->Shared->Prop}(I:Inv X pins σ H s)(hN:X.N.Nodup)(hi:X.N[i]?=some x)(hx:Loc X.env.scope x)(r:RelV v u)
  (h:∀s',Inv X pins (σ.set i (some v)) H s'->Q () s') (hf:X.fn x=true\/X.env.scope.names.lookup x=some .local:=by first|exact .inl rfl|exact .inr rfl|assumption):wpAny M A (storeName X.env x u) Q E s:=
 aGg I hN hi hx r (λs' I' _=>h s' I') hf
end
abbrev XK:=Value->Option Addr->Hp->Prop
abbrev St:=List (Option V)
abbrev VK:=V->Hp->Prop
abbrev TE:=St->Hp->VK->Prop
abbrev TT:=St->Hp->(Bool->Hp->Prop)->Prop
abbrev TA:=St->Hp->(List V->Hp->Prop)->Prop
structure Ends where
 nx:St->Hp->Prop
 rt:VK
 bk:St->Hp->Prop:=λ_ _=>False
 ct:St->Hp->Prop:=λ_ _=>False
abbrev TS:=Ends->St->Hp->Prop
def EP(X:Cx)(pins:List (Addr×Obj))(σ:St)(Q:VK)(u:Value)(s':Shared):Prop:=∃v H',Inv X pins σ H' s'/\RelV v u/\Q v H'
def TP(X:Cx)(pins:List (Addr×Obj))(σ:St)(Q:Bool->Hp->Prop)(b:Bool)(s':Shared):Prop:=∃H',Inv X pins σ H' s'/\Q b H'
def AP(X:Cx)(pins:List (Addr×Obj))(σ:St)(Q:List V->Hp->Prop)(us:List Value)(s':Shared):Prop:=∃vs H',Inv X pins σ H' s'/\Vals vs us/\Q vs H'
def SP(X:Cx)(pins:List (Addr×Obj))(D:Ends)(f:Flow)(s':Shared):Prop:=
 match f with
 |.next=>∃σ' H',Inv X pins σ' H' s'/\D.nx σ' H'
 |.brk=>∃σ' H',Inv X pins σ' H' s'/\D.bk σ' H'
 |.cont=>∃σ' H',Inv X pins σ' H' s'/\D.ct σ' H'
 |.ret u=>∃v σ' H',Inv X pins σ' H' s'/\RelV v u/\D.rt v H'
def PE(X:Cx)(e:Expr)(t:TE):Prop:=
 ∀(pins:List (Addr×Obj)) (s:Shared) (σ:St) (H:Hp) (Q:VK),Inv X pins σ H s->t σ H Q->wpAny (model X.prog X.w) X.A (eval e X.env) (EP X pins σ Q) X.xe s
def PT(X:Cx)(e:Expr)(t:TT):Prop:=
 ∀(pins:List (Addr×Obj)) (s:Shared) (σ:St) (H:Hp) (Q:Bool->Hp->Prop),Inv X pins σ H s->t σ H Q->wpAny (model X.prog X.w) X.A (isTrue e X.env (eval e X.env)) (TP X pins σ Q) X.xe s
def PW(X:Cx)(e:Expr)(t:TT):Prop:=
 ∀(whole:Sem Value) (pins:List (Addr×Obj)) (s:Shared) (σ:St) (H:Hp) (Q:Bool->Hp->Prop),Inv X pins σ H s->t σ H Q->wpAny (model X.prog X.w) X.A (isTrue e X.env whole) (TP X pins σ Q) X.xe s
def PW.pt{X:Cx}{e:Expr}{t:TT}(h:PW X e t):PT X e t:=h _
def PA(X:Cx)(es:List Expr)(t:TA):Prop:=
 ∀(pos:Pos) (pins:List (Addr×Obj)) (s:Shared) (σ:St) (H:Hp) (Q:List V->Hp->Prop),Inv X pins σ H s->t σ H Q->wpAny (model X.prog X.w) X.A (spliced (backTo pos (starEach es X.env))) (AP X pins σ Q) X.xe s
def PS(X:Cx)(st:Stmt)(t:TS):Prop:=
 ∀(pins:List (Addr×Obj)) (s:Shared) (σ:St) (H:Hp) (D:Ends),Inv X pins σ H s->t D σ H->wpAny (model X.prog X.w) X.A (exec st X.env) (SP X pins D) X.xe s
def PSs(X:Cx)(st:List Stmt)(t:TS):Prop:=
 ∀(pins:List (Addr×Obj)) (s:Shared) (σ:St) (H:Hp) (D:Ends),Inv X pins σ H s->t D σ H->wpAny (model X.prog X.w) X.A (execs st X.env) (SP X pins D) X.xe s
def thn{α:Type}{t:Sem α}{Q Q':α->Shared->Prop}{M:Model}{A:Around}{E:Value->Shared->Prop}{s:Shared}(h:wpAny M A t Q E s)(hQ:∀a s,Q a s->Q' a s):wpAny M A t Q' E s:=bI6 h hQ λ_ _ x=>x
end L2
namespace L2
open PySem PySem.Spec PyProof.Rows
section
variable{X:Cx}
def bCe(i:Nat):TE:=λσ H Q=>∃v,σ[i]?=some (some v)/\Q v H
def tC(v:V):TE:=λ_ H Q=>Q v H
def aAh{i:Nat}{x:Str}{pos:Pos}(hN:X.N[i]?=some x)(hv:Vis X.env.scope x)(hd:(x==("__debug__":Str))=false:=by decide)(hcd:(x==("__classdict__":Str))=false:=by decide):PE X (.Name x pos) (bCe i):=by
 intro pins s σ H Q I h;obtain⟨v,e,h⟩:=h;obtain⟨m,hn,hl⟩:=I.loc;obtain⟨u,r,l⟩:=hl i x v hN e hv;have fin:EP X pins σ Q u s:=⟨v,H,I,r,h⟩;rcases l with ⟨hk,hm⟩|⟨hk,c,hc,hcell⟩
 .exact wpAny_Name (wpAny_loadName_local I.ok.kind hk hn hm fin) hd
 .rcases hk with hk|hk
  .exact wpAny_Name (wpAny_loadName_cell I.ok.kind hk hc hcell fin) hd
  .exact wpAny_Name (wpAny_loadName_free I.ok.kind hk hc hcell fin hcd) hd
def aZl{i j pos}:PE X (.Constant (.int i) j pos) (tC (.int i)):=λ_ _ _ H _ I h=>wpAny_Constant_int ⟨.int i,H,I.tok _,⟨_,rfl⟩,h⟩
def bCf{b j pos}:PE X (.Constant (.bool b) j pos) (tC (.bl b)):=λ_ _ _ H _ I h=>Constant_bool ⟨.bl b,H,I,rfl,h⟩
def aRs{j pos}:PE X (.Constant .none j pos) (tC .non):=λ_ _ _ H _ I h=>Constant_none ⟨.non,H,I,rfl,h⟩
def aZm{x j pos}:PE X (.Constant (.str x) j pos) (tC (.str x)):=λ_ _ _ H _ I h=>Calls.Constant_str ⟨.str x,H,I.tok _,⟨_,rfl⟩,h⟩
def Gl(X:Cx)(x:Str):Prop:=X.env.kindOf x=some .globalImplicit
def aHn{E:Value->Shared->Prop}{pins:List (Addr×Obj)}{s:Shared}{σ:St}{H:Hp}{x:Str}{u:Value}{pos:Pos}{Q:Value->Shared->Prop}(I:Inv X pins σ H s)(hg:Gl X x)(hm:X.mg x=some u)(h:Q u s)
  (hd:(x==("__debug__":Str))=false:=by decide):wpAny (model X.prog X.w) X.A (eval (.Name x pos) X.env) Q E s:=
 bKo I.ok.kind hg (Calls.loadGlobal_global (by rw[I.ok.glob];exact I.mod.glob.keeps I.bk) hm h) hd
def sY{E:Value->Shared->Prop}{pins:List (Addr×Obj)}{s:Shared}{σ:St}{H:Hp}{x:Str}{u:Value}{pos:Pos}{Q:Value->Shared->Prop}(I:Inv X pins σ H s)(hg:Gl X x)(hm:X.mg x=none)(hv:bootBuiltins x=some u)(h:Q u s)
  (hn:x≠"__name__":=by decide) (hd:(x==("__debug__":Str))=false:=by decide):wpAny (model X.prog X.w) X.A (eval (.Name x pos) X.env) Q E s:=by
 obtain⟨mb,h1,h2⟩:=I.mod.blt;exact bKo I.ok.kind hg (Calls.loadGlobal_builtin (by rw[I.ok.glob];exact I.mod.glob.keeps I.bk) hm (by rw[I.ok.blt];exact h1.keeps I.bk) ((h2 x hn).trans hv) h) hd
def aDz{x:Str}{v:V}{u:Value}{pos:Pos}(hg:Gl X x)(hm:X.mg x=some u)(r:RelV v u)(hd:(x==("__debug__":Str))=false:=by decide):PE X (.Name x pos) (tC v):=
 λ_ _ _ H _ I h=>aHn I hg hm ⟨v,H,I,r,h⟩ hd
def aVq{x:Str}{v:V}{u:Value}{pos:Pos}(hg:Gl X x)(hm:X.mg x=none)(hv:bootBuiltins x=some u)(r:RelV v u)(hn:x≠"__name__":=by decide)(hd:(x==("__debug__":Str))=false:=by decide):PE X (.Name x pos) (tC v):=
 λ_ _ _ H _ I h=>sY I hg hm hv ⟨v,H,I,r,h⟩ hn hd
variable{a b:Expr}{ta tb:TE}{pos:Pos}
def tB(t:TE):TT:=λσ H Q=>t σ H λx H1=>∃c,x=.bl c/\Q c H1
def aZn{e:Expr}{t:TE}(h:PE X e t)(he:∀whole,isTrue e X.env whole=(do let v <- whole;standAt e.pos;holding [v] (truthy v)):=by intro _;rfl):PT X e (tB t):=by
 intro pins s σ H Q I hw;refine isTrue_plain (thn (h pins s σ H _ I hw) λv s1 ⟨x,H1,I1,r1,q1⟩=>?_) (he _)
 obtain⟨d,rfl,q⟩:=q1;cases r1;exact bI7 ⟨H1,I1,q⟩
variable{tA tB':TT}{rest:List Expr}
def bEv(t u:TT):TT:=λσ H Q=>t σ H λc H1=>if c=true then u σ H1 Q else Q false H1
def tOr(t u:TT):TT:=λσ H Q=>t σ H λc H1=>if c=true then Q true H1 else u σ H1 Q
def bEw(t:TT):TT:=λσ H Q=>t σ H λc H1=>Q (!c) H1
def aVr(ha:PT X a tA):PW X (.BoolOp .And [a] pos) tA:=by
 intro wh pins s σ H Q I h;refine isTrue_and (thn (ha pins s σ H Q I h) λc s1 e=>?_)
 cases c with
 |true=>exact isTrue_and_nil e
 |false=>exact e
def aZo(ha:PT X a tA):PW X (.BoolOp .Or [a] pos) tA:=by
 intro wh pins s σ H Q I h;refine isTrue_or (thn (ha pins s σ H Q I h) λc s1 e=>?_)
 cases c with
 |false=>exact isTrue_or_nil e
 |true=>exact e
def aZp(ha:PT X a tA)(hb:PW X (.BoolOp .And (b::rest) pos) tB'):PW X (.BoolOp .And (a::b::rest) pos) (bEv tA tB'):=by
 intro wh pins s σ H Q I h;refine isTrue_and (thn (ha pins s σ H _ I h) λc s1 ⟨H1,I1,q1⟩=>?_)
 cases c with
 |true=>exact hb wh pins s1 σ H1 Q I1 q1
 |false=>exact⟨H1,I1,q1⟩
def bCg(ha:PT X a tA)(hb:PW X (.BoolOp .Or (b::rest) pos) tB'):PW X (.BoolOp .Or (a::b::rest) pos) (tOr tA tB'):=by
 intro wh pins s σ H Q I h;refine isTrue_or (thn (ha pins s σ H _ I h) λc s1 ⟨H1,I1,q1⟩=>?_)
 cases c with
 |true=>exact⟨H1,I1,q1⟩
 |false=>exact hb wh pins s1 σ H1 Q I1 q1
def aZq(ha:PT X a tA):PT X (.UnaryOp .Not a pos) (bEw tA):=by
 intro pins s σ H Q I h;exact isTrue_not (ha pins s σ H (λc H1=>Q (!c) H1) I h)
def bCh(ta tb:TE):TE:=λσ H Q=>ta σ H λx H1=>∃c,x=.bl c/\if c=true then tb σ H1 Q else Q (.bl false) H1
def bEx(ta tb:TE):TE:=λσ H Q=>ta σ H λx H1=>∃c,x=.bl c/\if c=true then Q (.bl true) H1 else tb σ H1 Q
def bCi(ta:TE):TE:=λσ H Q=>ta σ H λx H1=>∃c,x=.bl c/\Q (.bl (!c)) H1
def aRt{op}{t:TE}(h:PE X a t):PE X (.BoolOp op [a] pos) t:=λpins s σ H Q I hw=>BoolOp_one (h pins s σ H Q I hw)
def aZr(ha:PE X a ta)(hb:PE X (.BoolOp .And (b::rest) pos) tb):PE X (.BoolOp .And (a::b::rest) pos) (bCh ta tb):=by
 intro pins s σ H Q I h;refine BoolOp_and (thn (ha pins s σ H _ I h) λv s1 ⟨x,H1,I1,r1,q1⟩=>?_)
 obtain⟨c,rfl,q1⟩:=q1;cases r1;refine bI7 ?_
 cases c with
 |true=>exact hb pins s1 σ H1 Q I1 q1
 |false=>exact⟨.bl false,H1,I1,rfl,q1⟩
def bCj(ha:PE X a ta)(hb:PE X (.BoolOp .Or (b::rest) pos) tb):PE X (.BoolOp .Or (a::b::rest) pos) (bEx ta tb):=by
 intro pins s σ H Q I h;refine BoolOp_or (thn (ha pins s σ H _ I h) λv s1 ⟨x,H1,I1,r1,q1⟩=>?_)
 obtain⟨c,rfl,q1⟩:=q1;cases r1;refine bI7 ?_
 cases c with
 |false=>exact hb pins s1 σ H1 Q I1 q1
 |true=>exact⟨.bl true,H1,I1,rfl,q1⟩
def aZs(ha:PE X a ta):PE X (.UnaryOp .Not a pos) (bCi ta):=by
 intro pins s σ H Q I h;refine UnaryOp_ (thn (ha pins s σ H _ I h) λv s1 ⟨x,H1,I1,r1,q1⟩=>?_)
 obtain⟨c,rfl,q1⟩:=q1;cases r1;exact not_of (bI7 ⟨.bl (!c),H1,I1,rfl,q1⟩)
end
end L2
namespace L2
open PySem PySem.Spec PyProof.Rows
def SqL(K:PySem.W.Frag)(H:Hp)(a:Addr)(xs:List V):Prop:=
 Rd H a (.lst xs)\/
  ∃(o:Obj)(its:Array Value)(n:Nat),K.lookup a=some o/\o.cls=.type "list"/\o.dict=none/\o.data=.seq its n/\its.size<=sizeLine/\Vals xs its.toList
def SqT(K:PySem.W.Frag)(H:Hp)(a:Addr)(xs:List V):Prop:=
 Rd H a (.tup xs)\/
  ∃(o:Obj)(its:Array Value)(n:Nat),K.lookup a=some o/\o.cls=.type "tuple"/\o.data=.seq its n/\its.size<=sizeLine/\Vals xs its.toList
def bEy:Value->Option V
 |.none=>some .non
 |.bool b=>some (.bl b)
 |.int i _=>some (.int i)
 |.str x _=>some (.str x)
 |.bytes b _=>some (.byt b)
 |.float b _=>some (.flt b)
 |.ref a=>some (.ref a)
 |.type n=>some (.ty n)
 |_=>none
def RelV.abs{x:V}{u:Value}(r:RelV x u):bEy u=some x:=by
 cases x with
 |non=>cases r;rfl
 |bl _=>cases r;rfl
 |int _=>obtain⟨t,rfl⟩:=r;rfl
 |str _=>obtain⟨t,rfl⟩:=r;rfl
 |byt _=>obtain⟨t,rfl⟩:=r;rfl
 |flt _=>obtain⟨t,rfl⟩:=r;rfl
 |ref _=>cases r;rfl
 |ty _=>cases r;rfl
def RelV.inj{x y:V}{u:Value}(r:RelV x u)(q:RelV y u):x=y:=bHl (r.abs.symm.trans q.abs)
theorem Vals.inj:∀{xs ys:List V}{us:List Value},Vals xs us->Vals ys us->xs=ys
 |_,_,_,.nil,.nil=>rfl
 |_,_,_,.cons r t,.cons r' t'=>by rw[r.inj r',Vals.inj t t']
section
variable{X:Cx}{pins:List (Addr×Obj)}{σ:St}{H:Hp}{s:Shared}{a:Addr}{xs ys:List V}
def SqL.of{K:PySem.W.Frag}(h:H a=some (.lst xs)):SqL K H a xs:=.inl (.inl h)
def SqT.of{K:PySem.W.Frag}(h:H a=some (.tup xs)):SqT K H a xs:=.inl (.inl h)
def Inv.list(I:Inv X pins σ H s)(h:SqL X.K H a xs):∃its:List Value,Vals xs its/\PlainL s.heap a its.toArray/\xs.length<=sizeLine:=by
 rcases h with h|⟨o,its,n,hk,hc,hd,hs,hz,r⟩
 .obtain⟨z,its,n,r,e⟩:=h.ok I.hok;exact⟨its,r,⟨_,n,e,rfl,rfl,rfl⟩,z⟩
 .refine⟨its.toList,r,⟨o,n,I.kIn a o hk,hc,hd,by simpa using hs⟩,?_⟩
  have e:=r.length;simp only[Array.length_toList]at e;omega
def Inv.tuple(I:Inv X pins σ H s)(h:SqT X.K H a xs):∃its:List Value,Vals xs its/\IsTup s.heap a its.toArray/\xs.length<=sizeLine:=by
 rcases h with h|⟨o,its,n,hk,hc,hs,hz,r⟩
 .obtain⟨z,its,r,p⟩:=h.ok I.hok;exact⟨its,r,p,z⟩
 .refine⟨its.toList,r,⟨o,I.kIn a o hk,hc,n,by simpa using hs⟩,?_⟩
  have e:=r.length;simp only[Array.length_toList]at e;omega
def Inv.list_inj(I:Inv X pins σ H s)(h:SqL X.K H a xs)(h':SqL X.K H a ys):xs=ys:=by
 obtain⟨its,r,⟨o,n,e,_,_,d⟩,_⟩:=I.list h;obtain⟨its',r',⟨o',n',e',_,_,d'⟩,_⟩:=I.list h';rw[e]at e';cases e';rw[d]at d';injection d' with d1 _
 have:its=its':=by simpa using congrArg Array.toList d1
 subst this;exact r.inj r'
def Inv.tuple_inj(I:Inv X pins σ H s)(h:SqT X.K H a xs)(h':SqT X.K H a ys):xs=ys:=by
 obtain⟨its,r,⟨o,e,_,n,d⟩,_⟩:=I.tuple h;obtain⟨its',r',⟨o',e',_,n',d'⟩,_⟩:=I.tuple h';rw[e]at e';cases e';rw[d]at d';injection d' with d1 _
 have:its=its':=by simpa using congrArg Array.toList d1
 subst this;exact r.inj r'
end
abbrev Cx.wish(X:Cx)(E:Value->Shared->Prop):Cx:={X with xe:=E}
abbrev Cx.nox(X:Cx):Cx:=X.wish λ_ _=>False
theorem Cx.Ok.wish{X:Cx}(ok:X.Ok)(E:Value->Shared->Prop):(X.wish E).Ok:=
 ⟨ok.mod,ok.kind,ok.glob,ok.blt,ok.above,ok.inj,ok.has,ok.cab,ok.hd,ok.frames,ok.stk,ok.exf,ok.bs,ok.bsz,ok.noex,ok.exfs,ok.funs,ok.frf⟩
def Cx.Ok.unwish{X:Cx}{E:Value->Shared->Prop}(ok:(X.wish E).Ok):X.Ok:=
 ⟨ok.mod,ok.kind,ok.glob,ok.blt,ok.above,ok.inj,ok.has,ok.cab,ok.hd,ok.frames,ok.stk,ok.exf,ok.bs,ok.bsz,ok.noex,ok.exfs,ok.funs,ok.frf⟩
section
variable{X:Cx}{pins:List (Addr×Obj)}{σ:St}{H:Hp}{s:Shared}{E:Value->Shared->Prop}
theorem Inv.wish(I:Inv X pins σ H s)(E:Value->Shared->Prop):Inv (X.wish E) pins σ H s:=⟨I.ok.wish E,I.os,I.bare,I.base,I.loc,I.cell,I.free,I.freeC,I.pin,I.hok,I.len⟩
theorem Inv.unwish(I:Inv (X.wish E) pins σ H s):Inv X pins σ H s:=⟨I.ok.unwish,I.os,I.bare,I.base,I.loc,I.cell,I.free,I.freeC,I.pin,I.hok,I.len⟩
theorem SP.unwish{D:Ends}{f:Flow}{s':Shared}(h:SP (X.wish E) pins D f s'):SP X pins D f s':=by
 cases f with
 |next=>obtain⟨σ',H',I,q⟩:=h;exact⟨σ',H',I.unwish,q⟩
 |brk=>obtain⟨σ',H',I,q⟩:=h;exact⟨σ',H',I.unwish,q⟩
 |cont=>obtain⟨σ',H',I,q⟩:=h;exact⟨σ',H',I.unwish,q⟩
 |ret u=>obtain⟨v,σ',H',I,r,q⟩:=h;exact⟨v,σ',H',I.unwish,r,q⟩
theorem PSs.nox{st:List Stmt}{t:TS}(h:PSs X.nox st t):PSs X st t:=λpins s σ H D I hw=>
 bI6 (h pins s σ H D (I.wish _) hw) (λ_ _ q=>q.unwish) λ_ _ z=>False.elim z
end
section
variable{X:Cx}{st:Stmt}{rest:List Stmt}{t u:TS}{e:Expr}{te:TE}{pos:Pos}
def bCk:TS:=λD σ H=>D.nx σ H
def bEz(t u:TS):TS:=λD σ H=>t {D with nx:=u D} σ H
def aVs:PSs X [] bCk:=λ_ _ σ H _ I h=>bKi ⟨σ,H,I,h⟩
def aRu(h1:PS X st t)(h2:PSs X rest u):PSs X (st::rest) (bEz t u):=by
 intro pins s σ H D I h;refine wpAny_execs_cons (thn (h1 pins s σ H {D with nx:=u D} I h) λf s1 q=>?_)
 cases f with
 |next=>
  obtain⟨σ',H',I',q⟩:=q;exact h2 pins s1 σ' H' D I' q
 |ret v=>exact q
 |brk=>exact q
 |cont=>exact q
def aVt(h1:PS X st t):PSs X [st] t:=by
 intro pins s σ H D I h;refine wpAny_execs_cons (thn (h1 pins s σ H D I h) λf s1 q=>?_)
 cases f with
 |next=>exact bKi q
 |ret v=>exact q
 |brk=>exact q
 |cont=>exact q
def Inv.quiet{pins:List (Addr×Obj)}{σ:St}{H:Hp}{s:Shared}(I:Inv X pins σ H s):interactive X.env=false:=by simp[interactive,I.ok.kind]
def bCl(te:TE):TS:=λD σ H=>te σ H λ_ H1=>D.nx σ H1
def aHo(he:PE X e te)(hs:swapsWith e none pos.line X.env=pure false:=by rfl):PS X (.Expr e pos) (bCl te):=by
 intro pins s σ H D I h;exact wpAny_Expr_any (thn (he pins s σ H _ I h) λv s1 ⟨x,H1,I1,r1,q1⟩=>⟨σ,H1,I1,q1⟩) I.quiet hs
def bF0(te:TE):TS:=λD σ H=>te σ H D.rt
def aZt(he:PE X e te):PS X (.Return (some e) pos) (bF0 te):=by
 intro pins s σ H D I h;exact wpAny_Return_some (thn (he pins s σ H _ I h) λv s1 ⟨x,H1,I1,r1,q1⟩=>⟨x,σ,H1,I1,r1,q1⟩)
def bF1(c:TT)(t u:TS):TS:=λD σ H=>c σ H λb H1=>if b=true then t D σ H1 else u D σ H1
def bCm{c:Expr}{a b:List Stmt}{tc:TT}(hc:PT X c tc)(ha:PSs X a t)(hb:PSs X b u):PS X (.If c a b pos) (bF1 tc t u):=by
 intro pins s σ H D I h;refine wpAny_If (thn (hc pins s σ H _ I h) λd s1 ⟨H1,I1,q1⟩=>?_)
 cases d with
 |true=>exact ha pins s1 σ H1 D I1 q1
 |false=>exact hb pins s1 σ H1 D I1 q1
end
abbrev TG:=V->St->Hp->(St->Hp->Prop)->Prop
abbrev TGs:=List V->St->Hp->(St->Hp->Prop)->Prop
def PG(X:Cx)(target:Expr)(t:TG):Prop:=
 ∀(pins:List (Addr×Obj)) (s:Shared) (σ:St) (H:Hp) (v:V) (u:Value) (Q:St->Hp->Prop),Inv X pins σ H s->RelV v u->t v σ H Q->
  wpAny (model X.prog X.w) X.A (assign target X.env u) (λ_ s'=>∃σ' H',Inv X pins σ' H' s'/\Q σ' H') X.xe s
def PGs(X:Cx)(ts:List Expr)(t:TGs):Prop:=
 ∀(pins:List (Addr×Obj)) (s:Shared) (σ:St) (H:Hp) (vs:List V) (us:List Value) (Q:St->Hp->Prop),Inv X pins σ H s->Vals vs us->t vs σ H Q->
  wpAny (model X.prog X.w) X.A (assignInOrder ((assignEach ts X.env).map (·.2)) us) (λ_ s'=>∃σ' H',Inv X pins σ' H' s'/\Q σ' H') X.xe s
abbrev aZu:=V->V->V->Hp->(Hp->Prop)->Prop
def bCn(X:Cx)(t:aZu):Prop:=
 ∀(pins:List (Addr×Obj)) (s:Shared) (σ:St) (H:Hp) (o i v:V) (ov iv u:Value) (Q:Hp->Prop),Inv X pins σ H s->RelV o ov->RelV i iv->RelV v u->t o i v H Q->
  wpAny (model X.prog X.w) X.A (setItem ov iv u) (λ_ s'=>∃H',Inv X pins σ H' s'/\Q H') X.xe s
section
variable{X:Cx}{pos:Pos}
def aYr(i:Nat):TG:=λv σ H Q=>Q (σ.set i (some v)) H
def aVu{i:Nat}{x:Str}(hN:X.N.Nodup)(hi:X.N[i]?=some x)(hx:Loc X.env.scope x)(hf:X.fn x=true\/X.env.scope.names.lookup x=some .local:=by first|exact .inl rfl|exact .inr rfl|assumption):PG X (.Name x pos) (aYr i):=by
 intro pins s σ H v u Q I r h;exact wpAny_assign_Name (store_ok I hN hi hx r (λs' I'=>⟨_,H,I',h⟩) hf)
def bF2:TGs:=λvs σ H Q=>vs=[]/\Q σ H
def bCo(t:TG)(u:TGs):TGs:=λvs σ H Q=>∃v r,vs=v::r/\t v σ H λσ' H'=>u r σ' H' Q
def aVv:PGs X [] bF2:=by
 intro pins s σ H vs us Q I r h;obtain⟨e,h⟩:=h;subst e;cases r;exact assignInOrder_nil ⟨σ,H,I,h⟩
def aRv{e:Expr}{es:List Expr}{t:TG}{u:TGs}(h1:PG X e t)(h2:PGs X es u)
  (hs:(assignEach (e::es) X.env).map (·.2)=assign e X.env::(assignEach es X.env).map (·.2):=by rfl):PGs X (e::es) (bCo t u):=by
 intro pins s σ H vs us Q I r h;obtain⟨v,vr,e1,h⟩:=h;subst e1;cases r with
 |cons r rr=>
  rw[hs];refine assignInOrder_cons (thn (h1 pins s σ H _ _ _ I r h) λ_ s1 ⟨σ1,H1,I1,q1⟩=>?_)
  exact h2 pins s1 σ1 H1 _ _ Q I1 rr q1
def bF3(K:PySem.W.Frag)(n:Nat)(t:TGs):TG:=λv σ H Q=>∃a xs,v=.ref a/\SqT K H a xs/\xs.length=n/\t xs σ H Q
def aZv{es:List Expr}{k:Nat}{t:TGs}{n:Nat}(hc:X.calm=true)(h:PGs X es t)
  (hn:(assignEach es X.env).length=n:=by rfl) (hst:(assignEach es X.env).findIdx? (·.1)=none:=by rfl):PG X (.Tuple es k pos) (bF3 X.K n t):=by
 intro pins s σ H v u Q I r hw;obtain⟨a,xs,e1,hq,hl,hw⟩:=hw;subst e1;cases r;obtain⟨its,rv,ht,hz⟩:=I.tuple hq;refine assign_Tuple_tuple (I.ok.hd hc) ht (by simp[hn,<-hl,rv.length]) hst λh' hx=>?_
 have I1:Inv X pins σ H {s with heap:=h'}:=I.kept (t':=s.toks) λb o e=>hx b o (bGb (bG2 e)) e
 exact h pins _ σ H xs _ Q I1 (by simpa using rv) hw
def bF4(to ti:TE)(t:aZu):TG:=λv σ H Q=>to σ H λo H1=>ti σ H1 λi H2=>t o i v H2 λH3=>Q σ H3
def aZw{o i:Expr}{to ti:TE}{t:aZu}(ho:PE X o to)(hi:PE X i ti)(hs:bCn X t)
  (ha:∀v,assign (.Subscript o i pos) X.env v=(do
   let ov <- holding [v] (eval o X.env)
   let iv <- holding [v,ov] (eval i X.env)
   standAt pos
   holding [v,ov,iv] (setItem ov iv v)
   release [v,ov,iv] []):=by intro _;rfl):PG X (.Subscript o i pos) (bF4 to ti t):=by
 intro pins s σ H v u Q I r h;rw[ha];refine bFs (bGo (thn (ho pins s σ H _ I h) λov s1 ⟨x,H1,I1,r1,q1⟩=>?_))
 refine bFs (bGo (thn (hi pins s1 σ H1 _ I1 q1) λiv s2 ⟨y,H2,I2,r2,q2⟩=>?_))
 refine bFs (bJo (bFs (bGo (thn (hs pins s2 σ H2 x y v ov iv u _ I2 r1 r2 r q2) λ_ s3 ⟨H3,I3,q3⟩=>?_))))
 exact wpAny_release ⟨σ,H3,I3,q3⟩
def bCp(te:TE)(g:TG):TS:=λD σ H=>te σ H λx H1=>g x σ H1 D.nx
def aRw{tg e:Expr}{te:TE}{g:TG}(he:PE X e te)(hg:PG X tg g)(hs:swapsWithSole [tg] e pos.line X.env=pure false:=by rfl)(hw:swappedStores [tg] e X.env=pure none:=by rfl)
  (h1:(assignEach [tg] X.env).map (·.2)=[assign tg X.env]:=by rfl):PS X (.Assign [tg] e pos) (bCp te g):=by
 intro pins s σ H D I h;refine wpAny_Assign_stores (thn (he pins s σ H _ I h) λv s1 ⟨x,H1,I1,r1,q1⟩=>?_) hs hw
 rw[h1];exact thn (hg pins s1 σ H1 x v _ I1 r1 q1) λ_ s2 q=>q
def aEg{i:Nat}{x:Str}{e:Expr}{te:TE}{pos':Pos}(hN:X.N.Nodup)(hi:X.N[i]?=some x)(hx:Loc X.env.scope x)(he:PE X e te)(hs:swapsWith e (some (.Name x pos')) pos.line X.env=pure false:=by rfl)(hf:X.fn x=true\/X.env.scope.names.lookup x=some .local:=by first|exact .inl rfl|exact .inr rfl|assumption) :
  PS X (.Assign [.Name x pos'] e pos) (bCp te (aYr i)):=by
 intro pins s σ H D I h;refine wpAny_Assign_Name (thn (he pins s σ H _ I h) λv s1 ⟨y,H1,I1,r1,q1⟩=>?_) hs
 exact store_ok I1 hN hi hx r1 (λs2 I2=>⟨_,H1,I2,q1⟩) hf
end
section
variable{X:Cx}{pos:Pos}
def aZx(c:TT)(tb:TS):TS:=λD σ H=>∃W:Nat->St->Hp->Prop,(∃m,W m σ H)/\∀m σ H,W m σ H->
 c σ H λb H1=>if b=true then ∃N:St->Hp->Prop,(∀σ' H',N σ' H'->∃m',m' < m/\W m' σ' H')/\tb {D with nx:=N,ct:=N,bk:=D.nx} σ H1 else D.nx σ H1
def aRx{c:Expr}{body:List Stmt}{tc:TT}{tb:TS}(hp:PassesOwn (model X.prog X.w) X.A X.env X.xe)(hc:PT X c tc)(hb:PSs X body tb):PS X (.While c body [] pos) (aZx tc tb):=by
 intro pins s σ H D I h;obtain⟨W,⟨m0,w0⟩,turn⟩:=h;refine wpAny_While (codeAny_whileLoop (λn s'=>∃σ' H',Inv X pins σ' H' s'/\W n σ' H') ?_ m0 ⟨σ,H,I,w0⟩)
 rintro n s1 ⟨σ1,H1,I1,w1⟩;refine bIo hp (thn (hc pins s1 σ1 H1 _ I1 (turn n σ1 H1 w1)) λb s2 ⟨H2,I2,q2⟩=>?_)
 cases b with
 |true=>
  obtain⟨N,hN,q2⟩:=q2;rw[bGa rfl];refine bIo hp (thn (hb pins s2 σ1 H2 _ I2 q2) λf s3 q3=>?_)
  cases f with
  |next=>
   obtain⟨σ3,H3,I3,n3⟩:=q3;obtain⟨m',hm,w3⟩:=hN σ3 H3 n3;exact⟨m',hm,σ3,H3,I3,w3⟩
  |cont=>
   obtain⟨σ3,H3,I3,n3⟩:=q3;obtain⟨m',hm,w3⟩:=hN σ3 H3 n3;exact⟨m',hm,σ3,H3,I3,w3⟩
  |brk=>exact q3
  |ret v=>exact q3
 |false=>
  rw[bG7 bGh];exact bKi ⟨σ1,H2,I2,q2⟩
end
structure It where
 go:Nat->Hp->Prop
 yld:Nat->Hp->V->Hp->Prop
 stop:Nat->Hp->Prop
def xH(X:Cx)(pins:List (Addr×Obj))(H:Hp)(b:Addr):Prop:=
 H b=none/\b≠X.env.locals/\b∉X.fs/\(b∈X.ex\/X.s₀.heap.objs.size<=b)/\(∀x c,X.env.cells.lookup x=some c->c≠b)/\∀p∈X.pn++pins,p.1≠b
def Inv.fpOk{X:Cx}{pins:List (Addr×Obj)}{σ:St}{H H':Hp}{s:Shared}{b:Addr}(I:Inv X pins σ H s)(hb:s.heap.objs.size<=b)(hn:H' b=none):xH X pins H' b:=by
 refine⟨hn,bJ6 (bG9 I.lt hb),I.nofs hb,.inr (bGy I.sz hb),λx c e z=>?_,λp hp z=>?_⟩
 .obtain⟨v,q⟩:=I.cell x c e;exact absurd (bG9 q.lt (by rw[z];exact hb)) (bH0 _)
 .exact absurd (bG9 (bG2 (I.pin p hp).1) (by rw[z];exact hb)) (bH0 _)
structure Turn(P:Program)(w:World)(K:PySem.W.Frag)(tg:Expr)(J:It)(fp:List Addr)(it:Addr)(tn:Nat->Heap->Prop):Prop where
 mem:it∈fp
 obj:∀i h,tn i h->∀b∈fp,∃o,h.get? b=some o/\∀v,o.data≠.cell v
 keep:∀i h h',tn i h->(∀b∈fp,∀o,h.get? b=some o->h'.get? b=some o)->tn i h'
 item:∀(X:Cx),X.prog=P->X.w=w->X.K=K->X.calm=true->∀(i:Nat) (pins:List (Addr×Obj)) (s:Shared) (σ:St) (H:Hp) (E:Value->Shared->Prop),Inv X pins σ H s->(∀b∈fp,xH X pins H b)->tn i s.heap->J.go i H->
  wpAny (model P w) X.A (pyNext (.ref it)) (λr s1=>∃u,r=some u/\
   wpAny (model P w) X.A (letOwnedTupleGo tg (.ref it) u) (λ_ s2=>∃x H',Inv X pins σ H' s2/\RelV x u/\J.yld i H x H'/\tn (i+1) s2.heap/\∀b∈fp,H' b=none) E s1) E s
 done:∀(X:Cx),X.prog=P->X.w=w->X.K=K->X.calm=true->∀(i:Nat) (pins:List (Addr×Obj)) (s:Shared) (σ:St) (H:Hp) (E:Value->Shared->Prop),Inv X pins σ H s->(∀b∈fp,xH X pins H b)->tn i s.heap->J.stop i H->
  wpAny (model P w) X.A (pyNext (.ref it)) (λr s1=>r=none/\Inv X pins σ H s1) E s
 self:∀(A:Around)(i:Nat)(s:Shared)(Q:Value->Shared->Prop)(E:Value->Shared->Prop),tn i s.heap->Q (.ref it) s->wpAny (model P w) A (pyIter (.ref it)) Q E s
abbrev TI:=St->Hp->(It->Hp->Prop)->Prop
def PIE(X:Cx)(pins:List (Addr×Obj))(σ:St)(tg:Expr)(R:It->Hp->Prop)(itv:Value)(s2:Shared):Prop:=
 ∃(it:Addr)(fp:List Addr)(tn:Nat->Heap->Prop)(J:It)(H':Hp),itv=.ref it/\Inv X pins σ H' s2/\Turn X.prog X.w X.K tg J fp it tn/\tn 0 s2.heap/\(∀b∈fp,xH X pins H' b)/\R J H'
def PI(X:Cx)(tg iter:Expr)(wi:TI):Prop:=
 ∀(pins:List (Addr×Obj)) (s:Shared) (σ:St) (H:Hp) (R:It->Hp->Prop),Inv X pins σ H s->wi σ H R->
  wpAny (model X.prog X.w) X.A (eval iter X.env) (λv s1=>wpAny (model X.prog X.w) X.A (pyIter v) (PIE X pins σ tg R) X.xe s1) X.xe s
def aNm{M:Model}{A:Around}{E:Value->Shared->Prop}{s:Shared}{tg:Expr}{it:Addr}{u:Value}{o:Obj}{n:String}{vs:Array Value}{Q:Unit->Shared->Prop}(ho:s.heap.get? it=some o)(hc:o.cls=.type n)(hd:o.data=.fields vs)
  (hn:["enumerate","zip","dict_itemiterator","dict_reverseitemiterator","odict_iterator","itertools.zip_longest","itertools.pairwise"].contains n=false) (hQ:Q () s):wpAny M A (letOwnedTupleGo tg (.ref it) u) Q E s:=by
 unfold letOwnedTupleGo;cases tg<;>first
  |exact bFu hQ
  |(cases u<;>first
    |exact bFu hQ
    | (refine bFs (wpAny_load ho ?_)
       rw[hc,hd];show wpAny M A (if (["enumerate","zip","dict_itemiterator","dict_reverseitemiterator","odict_iterator","itertools.zip_longest","itertools.pairwise"].contains n&&vs[0]?==some (rawInt _))=true then _ else _) Q E s
       rw[bG7 (by intro h;rw[hn,bMc]at h;cases h)]
       exact bFu hQ))
def Itl(K:PySem.W.Frag)(a:Addr):It:=
 ⟨λi H=>∃xs x,SqL K H a xs/\xs[i]?=some x,λi H x H'=>H'=H/\∀xs,SqL K H a xs->xs[i]?=some x,λi H=>∃xs,SqL K H a xs/\xs.length<=i⟩
def Itt(K:PySem.W.Frag)(a:Addr):It:=
 ⟨λi H=>∃xs x,SqT K H a xs/\xs[i]?=some x,λi H x H'=>H'=H/\∀xs,SqT K H a xs->xs[i]?=some x,λi H=>∃xs,SqT K H a xs/\xs.length<=i⟩
def Itr(lo:Int)(n:Nat):It:=⟨λi _=>i<n,λi H x H'=>H'=H/\x=.int (lo+i),λi _=>n<=i⟩
def aPv{P:Program}{w:World}{K:PySem.W.Frag}{tg:Expr}(a it:Addr):Turn P w K tg (Itl K a) [it] it (λi h=>h.IsListIter it a i) where
 mem:=by simp
 obj:=λi h st b hb=>by
  have e:b=it:=by simpa using hb
  subst e;obtain⟨o,e,c,d⟩:=st;exact⟨o,e,λv z=>by rw[d]at z;cases z⟩
 keep:=λi h h' st k=>st.at λo e=>k it (by simp) o e
 item:=by
  intro X hP hw hK hc i pins s σ H E I hf st hg;subst hP hw hK;obtain⟨xs,x,hq,hx⟩:=hg;obtain⟨its,rv,p,hz⟩:=I.list hq;obtain⟨u,hu,ru⟩:=rv.get hx;obtain⟨f0,f1,f2,f3,f4,f5⟩:=hf it (by simp)
  refine wpAny_pyNext_list_item st p.isList (x:=u) (by simpa using hu) λh' st' sb=>?_
  have I1:Inv X pins σ H {s with heap:=h'}:=I.turned (t':=s.toks) (λb o hb e=>(sb.2 b hb).trans e) f0 f1 f3 f4 f5
  obtain⟨o,e,c,d⟩:=id st';exact⟨u,rfl,aNm (s:={s with heap:=h'}) e c d (by decide) ⟨x,H,I1,ru,⟨rfl,λys hy=>by rw[I.list_inj hy hq];exact hx⟩,st',λb hb=>(hf b hb).1⟩⟩
 done:=by
  intro X hP hw hK hc i pins s σ H E I hf st hg;subst hP hw hK;obtain⟨xs,hq,hx⟩:=hg;obtain⟨its,rv,p,hz⟩:=I.list hq;obtain⟨f0,f1,f2,f3,f4,f5⟩:=hf it (by simp)
  have hl:=rv.length;exact wpAny_pyNext_list_end (I.ok.hd hc) st p.isList (by simp;omega) λh' eb=>⟨rfl,I.turned (t':=s.toks) (λb o hb e=>eb b o hb e) f0 f1 f3 f4 f5⟩
 self:=λ_ _ _ _ _ st h=>wpAny_pyIter_listiter st h
def aLv{P:Program}{w:World}{K:PySem.W.Frag}{tg:Expr}(a it:Addr):Turn P w K tg (Itt K a) [it] it (λi h=>h.IsTupleIter it a i) where
 mem:=by simp
 obj:=λi h st b hb=>by
  have e:b=it:=by simpa using hb
  subst e;obtain⟨o,e,c,d⟩:=st;exact⟨o,e,λv z=>by rw[d]at z;cases z⟩
 keep:=λi h h' st k=>st.at λo e=>k it (by simp) o e
 item:=by
  intro X hP hw hK hc i pins s σ H E I hf st hg;subst hP hw hK;obtain⟨xs,x,hq,hx⟩:=hg;obtain⟨its,rv,p,hz⟩:=I.tuple hq;obtain⟨u,hu,ru⟩:=rv.get hx;obtain⟨f0,f1,f2,f3,f4,f5⟩:=hf it (by simp)
  refine wpAny_pyNext_tuple_item st (show s.heap.IsTuple a its.toArray from p) (x:=u) (by simpa using hu) λh' st' sb=>?_
  have I1:Inv X pins σ H {s with heap:=h'}:=I.turned (t':=s.toks) (λb o hb e=>(sb.2 b hb).trans e) f0 f1 f3 f4 f5
  obtain⟨o,e,c,d⟩:=id st';exact⟨u,rfl,aNm (s:={s with heap:=h'}) e c d (by decide) ⟨x,H,I1,ru,⟨rfl,λys hy=>by rw[I.tuple_inj hy hq];exact hx⟩,st',λb hb=>(hf b hb).1⟩⟩
 done:=by
  intro X hP hw hK hc i pins s σ H E I hf st hg;subst hP hw hK;obtain⟨xs,hq,hx⟩:=hg;obtain⟨its,rv,p,hz⟩:=I.tuple hq;obtain⟨f0,f1,f2,f3,f4,f5⟩:=hf it (by simp)
  have hl:=rv.length;exact wpAny_pyNext_tuple_end (I.ok.hd hc) st (show s.heap.IsTuple a its.toArray from p) (by simp;omega) λh' eb=>⟨rfl,I.turned (t':=s.toks) (λb o hb e=>eb b o hb e) f0 f1 f3 f4 f5⟩
 self:=λ_ _ _ _ _ st h=>wpAny_pyIter_tupleiter st h
def aLw{P:Program}{w:World}{K:PySem.W.Frag}{tg:Expr}(it:Addr)(lo:Int)(n:Nat):Turn P w K tg (Itr lo n) [it] it (λi h=>IsRangeIter h it (lo+(i:Nat)*1) ((n:Int)-(i:Nat)) 1) where
 mem:=by simp
 obj:=λi h st b hb=>by
  have e:b=it:=by simpa using hb
  subst e;exact⟨_,st,λv z=>by
   have z':Data.fields _=Data.cell v:=z;cases z'⟩
 keep:=λi h h' st k=>k it (by simp) _ st
 item:=by
  intro X hP hw hK hc i pins s σ H E I hf st hg;subst hP hw hK;obtain⟨f0,f1,f2,f3,f4,f5⟩:=hf it (by simp)
  have W:=Walks.range (prog:=X.prog) (w:=X.w) (I.ok.hd hc) it lo 1 n;refine W.item i s _ _ hg st λv h' tk hv st' kk=>?_
  obtain⟨t,rfl⟩:=hv;have I1:Inv X pins σ H {s with heap:=h',toks:=tk}:=I.turned (λb o hb e=>kk b o (by simpa using hb) e) f0 f1 f3 f4 f5
  refine⟨_,rfl,aNm (s:={s with heap:=h',toks:=tk}) (n:="range_iterator") st' rfl rfl (by decide) ⟨.int (lo+i),H,I1,⟨t,?_⟩,⟨rfl,rfl⟩,st',λb hb=>(hf b hb).1⟩⟩
  rw[Int.mul_one]
 done:=by
  intro X hP hw hK hc i pins s σ H E I hf st hg;subst hP hw hK;obtain⟨f0,f1,f2,f3,f4,f5⟩:=hf it (by simp)
  exact wpAny_pyNext_range_end (I.ok.hd hc) st (by have:n<=i:=hg;omega) λh' eb=>⟨rfl,I.turned (t':=s.toks) (λb o hb e=>eb b o hb e) f0 f1 f3 f4 f5⟩
 self:=λ_ _ _ _ _ st h=>wpAny_pyIter_rangeiter st h
end L2
namespace L2
open PySem PySem.Spec PyProof.Rows
section
variable{X:Cx}{tg:Expr}
def aJg{pins:List (Addr×Obj)}{σ:St}{H:Hp}{s:Shared}{R:It->Hp->Prop}{E:Value->Shared->Prop}{lo hi:Int}{t u v:Tok}{tk:Nat}(I:Inv X pins σ H s)(h1 : -(2^62)<=lo)(h2:lo<2^62)(h3 : -(2^62)<=hi)(h4:hi<2^62)
  (q:R (Itr lo (hi-lo).toNat) H):wpAny (model X.prog X.w) X.A (pyIter (.ref s.heap.objs.size)) (PIE X pins σ tg R) E {s with heap:=s.heap.push {cls:=.type "range",data:=.fields #[.int lo t,.int hi u,.int 1 v]},toks:=tk}:=by
 refine wpAny_pyIter_range (IsRange.new ..) (small_one h1 h2 h3 h4) ?_
 have I1:Inv X pins σ H {s with heap:=s.heap.push {cls:=.type "range",data:=.fields #[.int lo t,.int hi u,.int 1 v]},toks:=tk}:=I.kept λb o e=>bFt _ e
 refine⟨(s.heap.push {cls:=.type "range",data:=.fields #[.int lo t,.int hi u,.int 1 v]}).objs.size,[(s.heap.push {cls:=.type "range",data:=.fields #[.int lo t,.int hi u,.int 1 v]}).objs.size],_,_,H,rfl,
  I1.kept (t':=tk) λb o e=>bFt _ e,aLw _ lo (hi-lo).toNat,?_,λb hb=>?_,q⟩
 .have e1:lo+((0:Nat):Int)*1=lo:=by simp
  have e2:(((hi-lo).toNat:Nat):Int)-((0:Nat):Int)=Builtin.Range.rangeSize lo hi 1:=by rw[rangeSize_one];split<;>omega
  show IsRangeIter _ _ (lo+((0:Nat):Int)*1) ((((hi-lo).toNat:Nat):Int)-((0:Nat):Int)) 1;rw[e1,e2];exact bG1 _ rfl
 .have e:b=(s.heap.push {cls:=.type "range",data:=.fields #[.int lo t,.int hi u,.int 1 v]}).objs.size:=by simpa using hb
  subst e;exact I1.fpOk (bG4 _) (I1.hok.fresh (bG4 _))
def bCq(ta:TA):TI:=λσ H R=>ta σ H λvs H1=>∃j:Int,vs=[.int j]/\-(2^62)<=j/\j<2^62/\R (Itr 0 j.toNat) H1
def bCr(ta:TA):TI:=λσ H R=>ta σ H λvs H1=>∃i j:Int,vs=[.int i,.int j]/\(-(2^62)<=i/\i<2^62/\-(2^62)<=j/\j<2^62)/\R (Itr i (j-i).toNat) H1
def aPw{a:Expr}{ta:TA}{p pos:Pos}(hg:Gl X "range")(hm:X.mg "range"=none)(ha:PA X [a] ta)(hs:starEach [a] X.env=[(false,eval a X.env)]:=by rfl):PI X tg (.Call (.Name "range" p) [a] [] pos) (bCq ta):=by
 intro pins s σ H R I h;refine Call_ (sY I hg hm boot_range (bHa (thn (ha pos pins s σ H _ I h) λus s1 ⟨vs,H1,I1,r1,q1⟩=>?_) hs rfl))
 obtain⟨j,e,q1,q2,q⟩:=q1;subst e;cases r1 with
 |cons r rr=>
  cases rr;obtain⟨t,rfl⟩:=r;exact call_range_1 (aJg I1 (by omega) (by omega) q1 q2 (by simpa using q))
def aPx{a b:Expr}{ta:TA}{p pos:Pos}(hg:Gl X "range")(hm:X.mg "range"=none)(ha:PA X [a,b] ta)(hs:starEach [a,b] X.env=[(false,eval a X.env),(false,eval b X.env)]:=by rfl)(hs2:starEach [b] X.env=[(false,eval b X.env)]:=by rfl) :
  PI X tg (.Call (.Name "range" p) [a,b] [] pos) (bCr ta):=by
 intro pins s σ H R I h;refine Call_ (sY I hg hm boot_range (bHa (thn (ha pos pins s σ H _ I h) λus s1 ⟨vs,H1,I1,r1,q1⟩=>?_) (by rw[hs,hs2]) (by rw[hs2];rfl)))
 obtain⟨i,j,e,⟨q1,q2,q3,q4⟩,q⟩:=q1;subst e;cases r1 with
 |cons r rr=>
  cases rr with
  |cons r' rr=>
   cases rr;obtain⟨t,rfl⟩:=r;obtain⟨t',rfl⟩:=r';exact call_range_2 (aJg I1 q1 q2 q3 q4 q)
def bF5(wi:TI)(g:TG)(tb:TS):TS:=λD σ H=>wi σ H λJ H1=>∃W:Nat->Nat->St->Hp->Prop,(∃m,W 0 m σ H1)/\∀i m σ H,W i m σ H->
 (J.stop i H/\D.nx σ H)\/(J.go i H/\∃N:St->Hp->Prop,(∀σ' H',N σ' H'->∃m',m' < m/\W (i+1) m' σ' H')/\∀x H',J.yld i H x H'->g x σ H' λσ2 H2=>tb {D with nx:=N,ct:=N,bk:=D.nx} σ2 H2)
def aHp(fp:List Addr)(h:Heap):List (Addr×Obj):=fp.filterMap λb=>(h.get? b).map λo=>(b,o)
def uW{fp:List Addr}{h:Heap}{b:Addr}{o:Obj}(hb:b∈fp)(e:h.get? b=some o):(b,o)∈aHp fp h:=List.mem_filterMap.mpr ⟨b,hb,by rw[e];rfl⟩
def aPy{fp:List Addr}{h:Heap}{p:Addr×Obj}(hp:p∈aHp fp h):p.1∈fp/\h.get? p.1=some p.2:=by
 obtain⟨b,hb,e⟩:=List.mem_filterMap.mp hp;cases q:h.get? b with
 |none=>rw[q]at e;cases e
 |some o=>
  rw[q]at e;have e':(b,o)=p:=bHl e;subst e';exact⟨hb,q⟩
def Inv.pinned{pins:List (Addr×Obj)}{σ:St}{H:Hp}{s:Shared}{fp:List Addr}(I:Inv X pins σ H s)(hf:∀b∈fp,xH X pins H b)(ho:∀b∈fp,∃o,s.heap.get? b=some o/\∀v,o.data≠.cell v):Inv X (pins++aHp fp s.heap) σ H s:=
 I.pins_of λp hp=>(bGm.mp hp).elim (λz=>I.pin p (bG8 _ z)) λz=>by
  obtain⟨hb,e⟩:=aPy z;obtain⟨f0,f1,f2,_⟩:=hf p.1 hb;obtain⟨o,e',d⟩:=ho p.1 hb;rw[e]at e';cases e';exact⟨e,f0,f1,f2,d⟩
def Inv.unpinned{pins pl:List (Addr×Obj)}{σ:St}{H:Hp}{s:Shared}(I:Inv X (pins++pl) σ H s):Inv X pins σ H s:=I.pins_of λp hp=>I.pin p (bG8 _ (bGx _ hp))
def aZy{iter:Expr}{body:List Stmt}{wi:TI}{g:TG}{tb:TS}{pos:Pos}(hp:PassesOwn (model X.prog X.w) X.A X.env X.xe)(hc:X.calm=true)(hi:PI X tg iter wi)(hg:PG X tg g)(hb:PSs X body tb)
  (hs:∀x,foldedSetIterable iter X.env x=pure x:=by intro _;rfl):PS X (.For tg iter body [] pos) (bF5 wi g tb):=by
 intro pins s σ H D I h;refine wpAny_For (thn (hi pins s σ H _ I h) λv s1 h1=>thn h1 λitv s2 h2=>?_) hs
 obtain⟨it,fp,tn,J,H2,e,I2,T,st2,f2,W,⟨m0,w0⟩,turn⟩:=h2;subst e;have stat:∀{H':Hp},(∀b∈fp,H' b=none)->∀b∈fp,xH X pins H' b:=λhn b hb=>⟨hn b hb,(f2 b hb).2⟩
 refine codeAny_forLoop_any (λn s'=>∃i σ' H',Inv X pins σ' H' s'/\tn i s'.heap/\(∀b∈fp,H' b=none)/\W i n σ' H') ?_ m0 ⟨0,σ,H2,I2,st2,λb hb=>(f2 b hb).1,w0⟩
 rintro n s3 ⟨i,σ3,H3,I3,st3,fr3,w3⟩;rcases turn i n σ3 H3 w3 with ⟨stop,qn⟩|⟨go,N,hN,step⟩
 .refine bIo hp (thn (T.done X rfl rfl rfl hc i pins s3 σ3 H3 X.xe I3 (stat fr3) st3 stop) λr s4 ⟨hr,I4⟩=>?_)
  subst hr;exact bKi ⟨σ3,H3,I4,qn⟩
 .refine bIo hp (thn (T.item X rfl rfl rfl hc i pins s3 σ3 H3 X.xe I3 (stat fr3) st3 go) λr s4 ⟨u,hr,h4⟩=>?_)
  subst hr;refine bIo hp (thn h4 λ_ s5 ⟨x,H5,I5,r5,y5,st5,fr5⟩=>?_)
  have I5':=I5.pinned (stat fr5) (T.obj _ _ st5);refine bIo hp (thn (hg _ s5 σ3 H5 x u _ I5' r5 (step x H5 y5)) λ_ s6 ⟨σ6,H6,I6,q6⟩=>?_)
  refine bIo hp (thn (hb _ s6 σ6 H6 _ I6 q6) λf s7 q7=>?_)
  have again:∀{σ7:St}{H7:Hp},Inv X (pins++aHp fp s5.heap) σ7 H7 s7->N σ7 H7->∃m,m<n/\∃i σ' H',Inv X pins σ' H' s7/\tn i s7.heap/\(∀b∈fp,H' b=none)/\W i m σ' H':=λ{σ7 H7} I7 n7=>by
   obtain⟨m',hm,w7⟩:=hN σ7 H7 n7;refine⟨m',hm,i+1,σ7,H7,I7.unpinned,T.keep _ _ _ st5 λb hb o e=>(I7.pin (b,o) (bG8 _ (bG8 _ (uW hb e)))).1,λb hb=>?_,w7⟩
   obtain⟨o,e,d⟩:=T.obj _ _ st5 b hb;exact(I7.pin (b,o) (bG8 _ (bG8 _ (uW hb e)))).2.1
  cases f with
  |next=>obtain⟨σ7,H7,I7,n7⟩:=q7;exact again I7 n7
  |cont=>obtain⟨σ7,H7,I7,n7⟩:=q7;exact again I7 n7
  |brk=>obtain⟨σ7,H7,I7,q7⟩:=q7;exact⟨σ7,H7,I7.unpinned,q7⟩
  |ret v=>obtain⟨x7,σ7,H7,I7,r7,q7⟩:=q7;exact⟨x7,σ7,H7,I7.unpinned,r7,q7⟩
end
end L2
namespace L2
open PySem PySem.Spec PyProof.Rows
abbrev R2:=V->V->Hp->VK->Prop
def OpR(X:Cx)(f:Value->Value->Sem Value)(r:R2):Prop:=
 ∀(pins:List (Addr×Obj)) (s:Shared) (σ:St) (H:Hp) (x y:V) (v u:Value) (Q:VK),Inv X pins σ H s->RelV x v->RelV y u->r x y H Q->
  wpAny (model X.prog X.w) X.A (f v u) (EP X pins σ Q) X.xe s
def UnR(X:Cx)(f:Value->Sem Value)(r:V->Hp->VK->Prop):Prop:=
 ∀(pins:List (Addr×Obj)) (s:Shared) (σ:St) (H:Hp) (x:V) (v:Value) (Q:VK),Inv X pins σ H s->RelV x v->r x H Q->
  wpAny (model X.prog X.w) X.A (f v) (EP X pins σ Q) X.xe s
def lB(X:Cx)(f:Value)(r:List V->Hp->VK->Prop):Prop:=
 ∀(pins:List (Addr×Obj)) (s:Shared) (σ:St) (H:Hp) (xs:List V) (us:List Value) (Q:VK),Inv X pins σ H s->Vals xs us->r xs H Q->
  wpAny (model X.prog X.w) X.A (call f us) (EP X pins σ Q) X.xe s
def tOp(r:R2)(ta tb:TE):TE:=λσ H Q=>ta σ H λx H1=>tb σ H1 λy H2=>r x y H2 Q
def tUn(r:V->Hp->VK->Prop)(ta:TE):TE:=λσ H Q=>ta σ H λx H1=>r x H1 Q
def rI(C:Int->Int->Prop)(g:Int->Int->V):R2:=λx y H Q=>∃i j,x=.int i/\y=.int j/\C i j/\Q (g i j) H
def rI0(g:Int->Int->V):R2:=λx y H Q=>∃i j,x=.int i/\y=.int j/\Q (g i j) H
def rU(g:Int->V):V->Hp->VK->Prop:=λx H Q=>∃i,x=.int i/\Q (g i) H
section
variable{X:Cx}{a b c:Expr}{ta tb tc:TE}{pos:Pos}
def aZz(ha:PE X a ta)(hb:PE X b tb){pins:List (Addr×Obj)}{s:Shared}{σ:St}{H:Hp}{R:V->V->Hp->Prop}(I:Inv X pins σ H s)
  (h:ta σ H λx H1=>tb σ H1 λy H2=>R x y H2) {Q:Value->Shared->Prop} {f:Value->Value->Sem Value}
  (hf:∀v u s2 x y H2,Inv X pins σ H2 s2->RelV x v->RelV y u->R x y H2->wpAny (model X.prog X.w) X.A (f v u) Q X.xe s2) :
  wpAny (model X.prog X.w) X.A (eval a X.env) (λv s₁=>wpAny (model X.prog X.w) X.A (eval b X.env) (λu s₂=>wpAny (model X.prog X.w) X.A (f v u) Q X.xe s₂) X.xe s₁) X.xe s:=by
 refine thn (ha pins s σ H _ I h) λv s1 ⟨x,H1,I1,r1,q1⟩=>?_
 refine thn (hb pins s1 σ H1 _ I1 q1) λu s2 ⟨y,H2,I2,r2,q2⟩=>?_
 exact hf v u s2 x y H2 I2 r1 r2 q2
def bCs{op:Operator}{r:R2}(ho:OpR X (binaryOp op) r)(ha:PE X a ta)(hb:PE X b tb):PE X (.BinOp a op b pos) (tOp r ta tb):=by
 intro pins s σ H Q I h;exact wpAny_BinOp (aZz ha hb I h λv u s2 x y H2 I2 rx ry q=>ho pins s2 σ H2 x y v u Q I2 rx ry q)
def bCt{op:UnaryOp}{r:V->Hp->VK->Prop}(ho:UnR X (unaryOp op) r)(ha:PE X a ta):PE X (.UnaryOp op a pos) (tUn r ta):=by
 intro pins s σ H Q I h;exact UnaryOp_ (thn (ha pins s σ H _ I h) λv s1 ⟨x,H1,I1,r1,q1⟩=>ho pins s1 σ H1 x v Q I1 r1 q1)
def opI{f:Value->Value->Sem Value}{C:Int->Int->Prop}{g:Int->Int->Int}
  (rule:∀(i j:Int)(t u:Tok)(s:Shared)(Q:Value->Shared->Prop)(E:Value->Shared->Prop),C i j->Q (.int (g i j) s.toks) {s with toks:=s.toks+1}->wpAny (model X.prog X.w) X.A (f (.int i t) (.int j u)) Q E s) :
  OpR X f (rI C λi j=>.int (g i j)):=by
 intro pins s σ H x y v u Q I rx ry h;obtain⟨i,j,rfl,rfl,hc,q⟩:=h;obtain⟨t,rfl⟩:=rx;obtain⟨t',rfl⟩:=ry;exact rule i j t t' s _ _ hc ⟨.int (g i j),H,I.tok _,⟨_,rfl⟩,q⟩
def aVw{f:Value->Value->Sem Value}{g:Int->Int->Int}
  (rule:∀(i j:Int)(t u:Tok)(s:Shared)(Q:Value->Shared->Prop)(E:Value->Shared->Prop),Q (.int (g i j) s.toks) {s with toks:=s.toks+1}->wpAny (model X.prog X.w) X.A (f (.int i t) (.int j u)) Q E s) :
  OpR X f (rI0 λi j=>.int (g i j)):=by
 intro pins s σ H x y v u Q I rx ry h;obtain⟨i,j,rfl,rfl,q⟩:=h;obtain⟨t,rfl⟩:=rx;obtain⟨t',rfl⟩:=ry;exact rule i j t t' s _ _ ⟨.int (g i j),H,I.tok _,⟨_,rfl⟩,q⟩
def aVx{f:Value->Value->Sem Value}{g:Int->Int->Bool}
  (rule:∀(i j:Int)(t u:Tok)(s:Shared)(Q:Value->Shared->Prop)(E:Value->Shared->Prop),Q (.bool (g i j)) s->wpAny (model X.prog X.w) X.A (f (.int i t) (.int j u)) Q E s) :
  OpR X f (rI0 λi j=>.bl (g i j)):=by
 intro pins s σ H x y v u Q I rx ry h;obtain⟨i,j,rfl,rfl,q⟩:=h;obtain⟨t,rfl⟩:=rx;obtain⟨t',rfl⟩:=ry;exact rule i j t t' s _ _ ⟨.bl (g i j),H,I,rfl,q⟩
def bF6(i j:Int):Prop:=0<j/\j<1073741824
def bCu(i j:Int):Prop:=0<=j/\j<=1000000/\i.natAbs<2^64
def aRy(i j:Int):Prop:=(-(2^64)<i/\i<2^64)\/(-(2^64)<j/\j<2^64)
def aRy.ok{i j:Int}(h:aRy i j):IntMulOk i j:=by
 rcases h with ⟨h1,h2⟩|⟨h1,h2⟩
 .exact .of_left (intBits_le_64 h1 h2)
 .exact .of_right (intBits_le_64 h1 h2)
def aLx(k:Nat):(0:Int)<=2^k:=by
 rw[two_pow_cast];exact bKt _
def bA0:OpR X (binaryOp .Add) (rI0 λi j=>.int (i+j)):=aVw λ_ _ _ _ _ _ _ q=>add_int q
def bA1:OpR X (binaryOp .Sub) (rI0 λi j=>.int (i-j)):=aVw λ_ _ _ _ _ _ _ q=>sub_int q
def bA2:OpR X (binaryOp .Mult) (rI aRy λi j=>.int (i*j)):=opI λ_ _ _ _ _ _ _ hc q=>mul_int q hc.ok
def aVy:OpR X (binaryOp .FloorDiv) (rI bF6 λi j=>.int (i/j)):=opI λi j _ _ _ _ _ hc q=>by
 have h1:(0:Int)<j:=hc.1;have h2:j<1073741824:=hc.2;exact floordiv_int (by omega) (by rw[bKp i (by omega)];exact q) (.inl (PyProof.noPylong_small (by omega)))
def bA3:OpR X (binaryOp .Mod) (rI (λ_ j=>0<j) λi j=>.int (i%j)):=opI λi j _ _ _ _ _ hc q=>by
 have h1:(0:Int)<j:=hc;exact mod_int' (by omega) (by rw[Int.fmod_eq_emod_of_nonneg i (by omega)];exact q)
def bA4:OpR X (binaryOp .Pow) (rI bCu λi j=>.int (i^j.toNat)):=opI λ_ _ _ _ _ _ _ hc q=>pow_int_small hc.1 hc.2.1 hc.2.2 q
def bA5:OpR X (binaryOp .LShift) (rI bCu λi j=>.int (i*2^j.toNat)):=opI λ_ _ _ _ _ _ _ hc q=>lshift_int_small hc.1 hc.2.1 hc.2.2 q
def bA6:OpR X (binaryOp .RShift) (rI (λ_ j=>0<=j) λi j=>.int (i/2^j.toNat)):=opI λi j _ _ _ _ _ hc q=>
 rshift_int hc (by rw[bKp i (aLx _)];exact q)
def bA7:OpR X (binaryOp .BitAnd) (rI0 λi j=>.int (Builtin.bitAnd i j)):=aVw λ_ _ _ _ _ _ _ q=>and_int q
def bCv:OpR X (binaryOp .BitOr) (rI0 λi j=>.int (Builtin.bitOr i j)):=aVw λ_ _ _ _ _ _ _ q=>or_int q
def unI{f:Value->Sem Value}{g:Int->Int}
  (rule:∀(i:Int)(t:Tok)(s:Shared)(Q:Value->Shared->Prop)(E:Value->Shared->Prop),Q (.int (g i) s.toks) {s with toks:=s.toks+1}->wpAny (model X.prog X.w) X.A (f (.int i t)) Q E s) :
  UnR X f (rU λi=>.int (g i)):=by
 intro pins s σ H x v Q I rx h;obtain⟨i,rfl,q⟩:=h;obtain⟨t,rfl⟩:=rx;exact rule i t s _ _ ⟨.int (g i),H,I.tok _,⟨_,rfl⟩,q⟩
def bA8:UnR X (unaryOp .USub) (rU λi=>.int (-i)):=unI λ_ _ _ _ _ q=>neg_int q
end
section
variable{X:Cx}{a b c:Expr}{ta tb tc:TE}{pos:Pos}
def aLy{pins:List (Addr×Obj)}{σ:St}{H:Hp}{s:Shared}{Q:VK}{k k':Bool}(I:Inv X pins σ H s)(q:Q (.bl k) H)(e:k=k'):EP X pins σ Q (.bool k') s:=by
 subst e;exact⟨.bl k,H,I,rfl,q⟩
def aGh:OpR X (compareOp .Lt) (rI0 λi j=>.bl (decide (i<j))):=aVx λ_ _ _ _ _ _ _ q=>lt_int q
def aRz:OpR X (compareOp .LtE) (rI0 λi j=>.bl (decide (i<=j))):=aVx λ_ _ _ _ _ _ _ q=>le_int q
def aS0:OpR X (compareOp .Gt) (rI0 λi j=>.bl (decide (j<i))):=aVx λ_ _ _ _ _ _ _ q=>gt_int q
def aS1:OpR X (compareOp .GtE) (rI0 λi j=>.bl (decide (j<=i))):=aVx λ_ _ _ _ _ _ _ q=>ge_int q
def aPz:OpR X (compareOp .In) (λx y H Q=>∃i j,x=.str i/\y=.str j/\Q (.bl (!(Builtin.Str.occurrences j i 0 j.length 1).isEmpty)) H):=by
 intro pins s σ H x y v u Q I rx ry h;obtain⟨i,j,rfl,rfl,q⟩:=h;obtain⟨t,rfl⟩:=rx;obtain⟨t',rfl⟩:=ry;exact in_str (aLy I q rfl)
def bA9:OpR X (compareOp .Is) (λx y H Q=>y=.non/\Q (.bl (decide (x=.non))) H):=by
 intro pins s σ H x y v u Q I rx ry h;obtain⟨rfl,q⟩:=h;cases ry;refine is_none_gen (aLy I q ?_);cases x<;>first
  |(cases rx;rfl)
  |(obtain⟨t,rfl⟩:=rx;rfl)
def aHq:OpR X (compareOp .NotIn) (λx y H Q=>∃i j,x=.str i/\y=.str j/\Q (.bl (!(!(Builtin.Str.occurrences j i 0 j.length 1).isEmpty))) H):=by
 intro pins s σ H x y v u Q I rx ry h;obtain⟨i,j,rfl,rfl,q⟩:=h;obtain⟨t,rfl⟩:=rx;obtain⟨t',rfl⟩:=ry;exact notIn_str (aLy I q rfl)
def OpR.or{f:Value->Value->Sem Value}{r r':R2}(h:OpR X f r)(h':OpR X f r'):OpR X f (λx y H Q=>r x y H Q\/r' x y H Q):=by
 intro pins s σ H x y v u Q I rx ry q;rcases q with q|q
 .exact h pins s σ H x y v u Q I rx ry q
 .exact h' pins s σ H x y v u Q I rx ry q
def cF(b:Expr){op:CmpOp}(h:op≠.In:=by decide)(h2:op≠.NotIn:=by decide):behindInMarks op b=false:=by
 have e1:(op==CmpOp.In)=false:=by cases op<;>first|rfl|exact absurd rfl h
 have e2:(op==CmpOp.NotIn)=false:=by cases op<;>first|rfl|exact absurd rfl h2
 cases b<;>simp[behindInMarks,e1,e2]
def aVz{op:CmpOp}{r:R2}(ho:OpR X (compareOp op) r)(ha:PE X a ta)(hb:PE X b tb)(hm:behindInMarks op b=false):PE X (.Compare a [op] [b] pos) (tOp r ta tb):=by
 intro pins s σ H Q I h;exact wpAny_Compare1 (aZz ha hb I h λv u s2 x y H2 I2 rx ry q=>ho pins s2 σ H2 x y v u Q I2 rx ry q) hm
def bCw(t:TE):TT:=λσ H Q=>t σ H λx H'=>∃k,x=.bl k/\Q k H'
def aW0{op:CmpOp}{r:R2}(ho:OpR X (compareOp op) r)(ha:PE X a ta)(hb:PE X b tb)(hm:behindInMarks op b=false):PT X (.Compare a [op] [b] pos) (bCw (tOp r ta tb)):=by
 intro pins s σ H Q I h;refine wpAny_isTrue_Compare1 (thn (ha pins s σ H _ I h) λv s1 ⟨x,H1,I1,r1,q1⟩=>thn (hb pins s1 σ H1 _ I1 q1) λu s2 ⟨y,H2,I2,r2,q2⟩=>
  thn (ho pins s2 σ H2 x y v u _ I2 r1 r2 q2) λc s3 ⟨z,H3,I3,r3,k,e,q3⟩=>?_) hm
 subst e;cases r3;exact bI7 ⟨H3,I3,q3⟩
def aEh:(sizeLine:Nat)<2^63:=by rw[bIi];decide
def aLz:OpR X (binaryOp .Add) (λx y H Q=>∃i j,x=.str i/\y=.str j/\i.length+j.length<=sizeLine/\Q (.str (i++j)) H):=by
 intro pins s σ H x y v u Q I rx ry h;obtain⟨i,j,rfl,rfl,hz,q⟩:=h;obtain⟨t,rfl⟩:=rx;obtain⟨t',rfl⟩:=ry;exact add_str (λt' tk=>⟨.str (i++j),H,I.tok _,⟨_,rfl⟩,q⟩) hz
def vals1{x:V}{us:List Value}(r:Vals [x] us):∃u,us=[u]/\RelV x u:=by
 cases r with
 |cons r1 r2=>cases r2;exact⟨_,rfl,r1⟩
def vals2{x y:V}{us:List Value}(r:Vals [x,y] us):∃u w',us=[u,w']/\RelV x u/\RelV y w':=by
 cases r with
 |cons r1 r2=>
  cases r2 with
  |cons r3 r4=>cases r4;exact⟨_,_,rfl,r1,r3⟩
def aQ0(hc:X.calm=true):lB X (.builtin "max") (λxs H Q=>∃i j,xs=[.int i,.int j]/\Q (.int (if j>i then j else i)) H):=by
 intro pins s σ H xs us Q I r h;obtain⟨i,j,rfl,q⟩:=h;obtain⟨u,w',rfl,⟨t,rfl⟩,⟨t',rfl⟩⟩:=vals2 r;refine max_two_ints (I.ok.hd hc) λh' tk k=>⟨_,H,I.kept k,?_,q⟩
 by_cases hj:j>i
 .rw[bGa hj,bGa hj];exact⟨_,rfl⟩
 .rw[bG7 hj,bG7 hj];exact⟨_,rfl⟩
def aQ1(hc:X.calm=true):lB X (.builtin "min") (λxs H Q=>∃i j,xs=[.int i,.int j]/\Q (.int (if j<i then j else i)) H):=by
 intro pins s σ H xs us Q I r h;obtain⟨i,j,rfl,q⟩:=h;obtain⟨u,w',rfl,⟨t,rfl⟩,⟨t',rfl⟩⟩:=vals2 r;refine min_two_ints (I.ok.hd hc) λh' tk k=>⟨_,H,I.kept k,?_,q⟩
 by_cases hj:j<i
 .rw[bGa hj,bGa hj];exact⟨_,rfl⟩
 .rw[bG7 hj,bG7 hj];exact⟨_,rfl⟩
end
end L2
namespace L2
open PySem PySem.Spec PyProof.Rows
structure ObjM(h:Heap)(x dx C:Addr)(mA:Str->Option Value):Prop where
 obj:h.get? x=some (PySem.W.instObj C dx)
 ns:h.Ns1 dx mA
 ne:dx≠x
def aQ2{h:Heap}{dx:Addr}{mA:Str->Option Value}(n:h.Ns1 dx mA):∃od,h.get? dx=some od/\∀name,PySem.W.lookIn name od=some (mA name):=by
 obtain⟨o,es,ep,ho,hd,hk,_,hm⟩:=n;refine⟨o,ho,λname=>?_⟩
 have e:=hm name;unfold nsFind findBy at e;rw[<-Array.find?_toList]at e;unfold PySem.W.lookIn;rw[hd];dsimp only;split
 .rename_i y q;rw[q]at e;exact congrArg some e
 .rename_i q;rw[q]at e;have a:es.toList.any (·.refKey)=false:=by
   rw[bJb];intro y hy;obtain⟨z,t,hkey⟩:=hk y (bM9.mp hy);simp[DictEntry.refKey,hkey]
  have a':¬ es.toList.any (·.refKey)=true:=by rw[a];exact bGh
  rw[bG7 a'];exact congrArg some e
def ObjM.look{h:Heap}{x dx C:Addr}{mA:Str->Option Value}(I:ObjM h x dx C mA):∃od,PySem.W.InstAt h x (PySem.W.instObj C dx) C (some od)/\∀name,PySem.W.lookIn name od=some (mA name):=
 let ⟨od,ho,hl⟩:=aQ2 I.ns
 ⟨od,⟨I.obj,rfl,rfl,ho⟩,hl⟩
section
variable{prog:Program}{w:World}{A:Around}{E:Value->Shared->Prop}{s:Shared}{K:PySem.W.Frag}{x dx C f:Addr}{mA:Str->Option Value}{name:Str}{v:Value}
def get_map{expr:Bool}{Q:Value->Shared->Prop}(X:K.In s.heap)(I:ObjM s.heap x dx C mA)(hg:PySem.W.plainGet K C name=true)(hh:PySem.W.hasDictIn K C=true)
  (ha:PySem.W.findIn K (.ref C) name=some none) (hv:mA name=some v) (hv':PySem.W.handedIn v=true) (h:Q v {s with toks:=s.toks+1}) :
  wpAny (model prog w) A (getAttr (.ref x) name expr) Q E s:=by
 obtain⟨od,J,hl⟩:=I.look;exact PySem.W.get_value X J (bKj hg).1 (PySem.W.findObj_own hh ha rfl (by rw[hl,hv])) hv' h
def aS2{pl:Sem Bool}{Q:Value×List Value->Shared->Prop}(X:K.In s.heap)(I:ObjM s.heap x dx C mA)(hg:PySem.W.plainGet K C name=true)
  (hf:PySem.W.findIn K (.ref C) name=some (some (.ref f))) (ht:PySem.W.isFn K (.ref f)=true) (hv:mA name=none) (h:Q (.ref f,[.ref x]) s) :
  wpAny (model prog w) A (getMethod (.ref x) name pl) Q E s:=by
 obtain⟨od,J,hl⟩:=I.look;exact PySem.W.method_fn X J (bKj hg).1 (bKj hg).2 hf (bJc.mp ht) (by show (PySem.W.lookIn name od).map (·.isSome)=some false;rw[hl,hv];rfl) h
def aW1{ns:List Str}{Q:Unit->Shared->Prop}(X:K.In s.heap)(I:ObjM s.heap x dx C mA)
  (hs:PySem.W.findIn K (.ref C) "__setattr__"=some (some (.builtin "object.__setattr__"))) (hp:PySem.W.plainOver K C=true) (ht:PySem.W.takerIn K C name=some none) (hh:PySem.W.hasDictIn K C=true)
  (hw:PySem.Within mA ns) (hsz:ns.length<=sizeLine)
  (h:∀h',ObjM h' x dx C (λy=>if y=name then some v else mA y)->Heap.SameBut dx s.heap h'->Q () {s with heap:=h',toks:=s.toks+2}) :
  wpAny (model prog w) A (setAttr (.ref x) name v) Q E s:=by
 obtain⟨od,J,hl⟩:=I.look;refine PySem.W.set_plain X J hs (PySem.W.osa_open (s:={s with toks:=s.toks+1}) (r:=none) X J hp ht λb=>?_)
 obtain⟨cd,hc,hd'⟩:=PySem.W.any_some hh;have hx:s.heap.get? x=some ⟨.ref C,some dx,.plain, #[]⟩:=I.obj;refine bFs (bFu (bFs (bFs (wpAny_loadPart hx (bFs (PySem.W.Looks.here (s:={s with toks:=s.toks+1}) (PySem.W.looks_clsIn X hc) ?_))))))
 rw[hd'];refine bFu (a:=some dx) (bFs (bFu (bFs ?_)));refine wpAny_nsSet1 (s:={s with toks:=s.toks+1}) I.ns λh' hn2 hs2=>?_
 obtain⟨oD,esD,epD,hoD,hdD,hcD⟩:=hn2.count (PySem.Within.cons name v hw);refine bFs (wpAny_lookBehind hoD (by rw[hdD];exact pastItsLine_dict (bGy hcD (by rw[bGn];omega))) ?_)
 exact bFu (h _ ⟨(hs2.2 _ (bHx I.ne)).trans I.obj,hn2,I.ne⟩ hs2)
def aS3{R:Result->Shared->Prop}{vs:List Value}{kw:List (Str×Value)}(X:K.In s.heap)(hm:PySem.W.makesIn K C=true)
  (hi:PySem.W.findIn K (.ref C) "__init__"=some (some (.ref f))) (hf:PySem.W.typeIn K (.ref f)=some (.type "function"))
  (h:codeAny (model prog w) (A.under (.builtin "type.__call__" ⟨.ref C::vs,kw⟩)) (.call (.ref f) ⟨.ref (s.heap.objs.size+1)::vs,kw⟩) (PySem.W.InitBack (s.heap.objs.size+1) R)
   {s with heap:=(s.heap.push PySem.W.emptyDict).push (PySem.W.instObj C s.heap.objs.size)}) :
  codeAny (model prog w) A (.call (.ref C) ⟨vs,kw⟩) R s:=by
 obtain⟨hh,g,d,t,os⟩:=s;exact PySem.W.make_core (PySem.W.makes_of X hm) (PySem.W.looks_findIn X hi) (λself=>PySem.W.bind_fn X self hf) (.inl rfl) h
end
def wZ(f:Str)(v:V):List (Str×V)->List (Str×V)
 |[]=>[(f,v)]
 |(g,x)::r=>if g=f then (g,v)::r else (g,x)::wZ f v r
theorem aD9(f g:Str)(v:V):∀fs:List (Str×V),(wZ f v fs).lookup g=if g=f then some v else fs.lookup g
 |[]=>by
  show List.lookup g [(f,v)]=_
  by_cases h:g=f
  .have hb:(g==f)=true:=bJc.mpr h;simp only[List.lookup,hb,if_pos h]
  .have hb:(g==f)=false:=bGs.mpr h;simp only[List.lookup,hb,if_neg h]
 |(k,x)::r=>by
  have ih:=aD9 f g v r;rw[show wZ f v ((k,x)::r)=(if k=f then (k,v)::r else (k,x)::wZ f v r) from rfl]
  by_cases hk:k=f
  .rw[bGa hk]
   by_cases h:g=k
   .have hb:(g==k)=true:=bJc.mpr h;simp only[List.lookup,hb,if_pos (h.trans hk)]
   .have hb:(g==k)=false:=bGs.mpr h;simp only[List.lookup,hb,if_neg (λe:g=f=>h (e.trans hk.symm))]
  .rw[bG7 hk]
   by_cases h:g=k
   .have hb:(g==k)=true:=bJc.mpr h;simp only[List.lookup,hb,if_neg (λe:g=f=>hk (h.symm.trans e))]
   .have hb:(g==k)=false:=bGs.mpr h;simp only[List.lookup,hb];exact ih
theorem aC9(f:Str)(v:V):∀fs:List (Str×V),f∈(wZ f v fs).map (·.1)/\∀g,g∈fs.map (·.1)->g∈(wZ f v fs).map (·.1)
 |[]=>⟨by simp[wZ],λg h=>by simp at h⟩
 |(k,x)::r=>by
  obtain⟨i1,i2⟩:=aC9 f v r;rw[show wZ f v ((k,x)::r)=(if k=f then (k,v)::r else (k,x)::wZ f v r) from rfl]
  by_cases hk:k=f
  .rw[bGa hk];subst hk;exact⟨by simp,λg h=>by simpa using h⟩
  .rw[bG7 hk];refine⟨?_,λg h=>?_⟩
   .rw[bGf];exact bFw _ i1
   .rw[bGf]at h ⊢;rcases bG0.mp h with e|e
    .exact bG0.mpr (.inl e)
    .exact bFw _ (i2 g e)
theorem aDa(f:Str)(v:V):∀fs:List (Str×V),(wZ f v fs).length<=fs.length+1
 |[]=>by simp[wZ]
 |(k,x)::r=>by
  have ih:=aDa f v r;rw[show wZ f v ((k,x)::r)=(if k=f then (k,v)::r else (k,x)::wZ f v r) from rfl]
  by_cases hk:k=f
  .rw[bGa hk,bGn,bGn];omega
  .rw[bG7 hk,bGn,bGn];omega
def uV.some_of{v:V}{o:Option Value}(r:uV (some v) o):∃u,o=some u/\RelV v u:=by
 cases o with
 |none=>exact(show False from r).elim
 |some u=>exact⟨u,rfl,r⟩
def uV.none_of{o:Option Value}(r:uV none o):o=none:=by
 cases o with
 |none=>rfl
 |some u=>exact(show False from r).elim
def aQ3{v:V}{u:Value}(r:RelV v u):PySem.W.handedIn u=true:=by
 cases v with
 |non=>cases (show u=Value.none from r);rfl
 |bl b=>cases (show u=Value.bool b from r);rfl
 |int i=>obtain⟨t,e⟩:=(show ∃t,u=Value.int i t from r);cases e;rfl
 |str x=>obtain⟨t,e⟩:=(show ∃t,u=Value.str x t from r);cases e;rfl
 |byt b=>obtain⟨t,e⟩:=(show ∃t,u=Value.bytes b t from r);cases e;rfl
 |flt b=>obtain⟨t,e⟩:=(show ∃t,u=Value.float b t from r);cases e;rfl
 |ref a=>cases (show u=Value.ref a from r);rfl
 |ty n=>cases (show u=Value.type n from r);rfl
section
variable{P:Program}{w:World}{H H':Hp}{h h':Heap}{a C dx:Addr}{fs fs':List (Str×V)}
def aHr(hok:HOk P w H h)(e:H a=some (.ins C dx fs)):∃mA,ObjM h a dx C mA/\(∀f,uV (fs.lookup f) (mA f))/\PySem.Within mA (fs.map (·.1))/\fs.length<=1000/\H dx=some (.own a):=by
 obtain⟨d,z,ne,ob,mA,n,r,q⟩:=(show iG P w H h a (.ins C dx fs) from hok a _ e)
 exact⟨mA,⟨ob,n,ne⟩,r,q,z,d⟩
end
structure Cls(K:PySem.W.Frag)(C:Addr):Prop where
 pg:PySem.W.plainGet K C Str.empty=true
 hd:PySem.W.hasDictIn K C=true
 po:PySem.W.plainOver K C=true
 sa:PySem.W.findIn K (.ref C) "__setattr__"=some (some (.builtin "object.__setattr__"))
def Cls.get{K:PySem.W.Frag}{C:Addr}(c:Cls K C)(f:Str):PySem.W.plainGet K C f=true:=c.pg
def eV(K:PySem.W.Frag)(C:Addr)(f:Str):Prop:=PySem.W.findIn K (.ref C) f=some none
def eV.taker{K:PySem.W.Frag}{C:Addr}{f:Str}(n:eV K C f):PySem.W.takerIn K C f=some none:=by
 unfold PySem.W.takerIn;rw[show PySem.W.findIn K (.ref C) f=some none from n]
 rfl
structure Meth(K:PySem.W.Frag)(C:Addr)(m:Str)(f:Addr):Prop where
 at_:PySem.W.findIn K (.ref C) m=some (some (.ref f))
 fn:PySem.W.isFn K (.ref f)=true
 kp:PySem.W.keepIn K (.ref f)=true
section
variable{X:Cx}{pins:List (Addr×Obj)}{σ:St}{H:Hp}{s:Shared}{a C dx:Addr}{fs:List (Str×V)}{f:Str}{v:V}{A:Around}{E:Value->Shared->Prop}
def aM0{b:Bool}{Q:Value->Shared->Prop}(I:Inv X pins σ H s)(e:H a=some (.ins C dx fs))(c:Cls X.K C)(n:eV X.K C f)(l:fs.lookup f=some v)
  (h:∀u s',Inv X pins σ H s'->RelV v u->Q u s'):wpAny (model X.prog X.w) A (getAttr (.ref a) f b) Q E s:=by
 obtain⟨mA,O,r,_,_,_⟩:=aHr I.hok e;obtain⟨u,hu,ru⟩:=uV.some_of (v:=v) (o:=mA f) (by rw[<-l];exact r f)
 exact get_map I.kIn O (c.get f) c.hd n hu (aQ3 ru) (h u _ (I.tok _) ru)
def aM1{m:Str}{g:Addr}{pl:Sem Bool}{Q:Value×List Value->Shared->Prop}(I:Inv X pins σ H s)(e:H a=some (.ins C dx fs))(c:Cls X.K C)(k:Meth X.K C m g)(l:fs.lookup m=none)
  (h:Q (.ref g,[.ref a]) s):wpAny (model X.prog X.w) A (getMethod (.ref a) m pl) Q E s:=by
 obtain⟨mA,O,r,_,_,_⟩:=aHr I.hok e;have hn:mA m=none:=uV.none_of (by rw[<-l];exact r m)
 exact aS2 I.kIn O (c.get m) k.at_ k.fn hn h
def aM2{y:V}{u:Value}{Q:Unit->Shared->Prop}(I:Inv X pins σ H s)(e:H a=some (.ins C dx fs))(c:Cls X.K C)(n:eV X.K C f)(hl:fs.length<1000)(ry:RelV y u)
  (h:∀s',Inv X pins σ (upd H a (.ins C dx (wZ f y fs))) s'->Q () s'):wpAny (model X.prog X.w) A (setAttr (.ref a) f u) Q E s:=by
 obtain⟨mA,O,r,wi,_,ho⟩:=aHr I.hok e;have hz:(fs.map (·.1)).length<=sizeLine:=by rw[bG6,bIi];omega
 refine aW1 I.kIn O c.sa c.po n.taker c.hd wi hz λh' O' sb=>h _ ?_
 have hd:∃o,h'.get? dx=some o:=let ⟨o,_,_,e',_⟩:=O'.ns;⟨o,e'⟩;refine I.write (x:=a) (e:=dx) (by rw[e];exact True.intro) (.inr ho) (λb q hb z=>(sb.2 b hb).trans z) hd ?_
 refine⟨by rw[bB O.ne];exact ho,?_,O.ne,O'.obj,_,O'.ns,λg=>?_,λg hg=>?_⟩
 .have:=aDa f y fs;omega
 .show uV ((wZ f y fs).lookup g) (if g=f then some u else mA g)
  rw[aD9]
  by_cases q:g=f
  .rw[bGa q,bGa q];exact ry
  .rw[bG7 q,bG7 q];exact r g
 .by_cases q:g=f
  .rw[q];exact(aC9 f y fs).1
  .refine(aC9 f y fs).2 g (wi g λz=>hg ?_)
   show (if g=f then some u else mA g)=none
   rw[bG7 q];exact z
def Inv.made(I:Inv X pins σ H s):Inv X pins σ (upd (upd H s.heap.objs.size (.own (s.heap.objs.size+1))) (s.heap.objs.size+1) (.ins C s.heap.objs.size []))
  {s with heap:=(s.heap.push PySem.W.emptyDict).push (PySem.W.instObj C s.heap.objs.size)}:=by
 have e1:(s.heap.push PySem.W.emptyDict).get? s.heap.objs.size=some PySem.W.emptyDict:=bG1 s.heap rfl;have e2:((s.heap.push PySem.W.emptyDict).push (PySem.W.instObj C s.heap.objs.size)).get? (s.heap.objs.size+1)=some (PySem.W.instObj C s.heap.objs.size):=by
  have:=bG1 (s.heap.push PySem.W.emptyDict) (o:=PySem.W.instObj C s.heap.objs.size) rfl
  rwa [bGp]at this
 have e3:(s.heap.push PySem.W.emptyDict).Ns s.heap.objs.size (λ_=>none):=⟨PySem.W.emptyDict, #[],_,e1,rfl,(λe he=>absurd he (by simp)),λ_=>rfl⟩
 have I1:=I.laid (a:=s.heap.objs.size) (o:=.own (s.heap.objs.size+1)) (h':=s.heap.push PySem.W.emptyDict) (t':=s.toks) (λb u q=>bFt _ q) (bG4 _) ⟨_,e1⟩
 refine I1.laid (a:=s.heap.objs.size+1) (o:=.ins C s.heap.objs.size []) (t':=s.toks) (λb u q=>bFt _ q) (bKu (bGp _ _)) ?_
 have ne:s.heap.objs.size≠s.heap.objs.size+1:=bGb (bIh _);refine⟨by rw[bB ne,bT],bHp _,ne,e2,λ_=>none,(Heap.Ns1.of_empty e3).at λo q=>bFt _ q,λ_=>True.intro,λy hy=>absurd rfl hy⟩
def aW2{prog:Program}{w:World}{env:Env}{e:Expr}{f:Str}{pos:Pos}{s:Shared}{Q:Value->Shared->Prop}(hb:attributeBase e f env (eval e env)=eval e env)
  (h:wpAny (model prog w) A (eval e env) (λo s₁=>wpAny (model prog w) A (getAttr o f true) Q E s₁) E s):wpAny (model prog w) A (eval (.Attribute e f pos) env) Q E s:=
 Attribute_any_ h (by rw[arm_eval_Attribute,hb])
end
def bF7(K:PySem.W.Frag)(ta:TE)(f:Str):TE:=λσ H Q=>ta σ H λx H1=>∃a C dx fs v,x=.ref a/\H1 a=some (.ins C dx fs)/\Cls K C/\eV K C f/\fs.lookup f=some v/\Q v H1
def bF8(K:PySem.W.Frag)(ta tv:TE)(f:Str):TS:=λD σ H=>tv σ H λy H1=>ta σ H1 λx H2=>∃a C dx fs,x=.ref a/\H2 a=some (.ins C dx fs)/\Cls K C/\eV K C f/\fs.length<1000/\
 D.nx σ (upd H2 a (.ins C dx (wZ f y fs)))
section
variable{X:Cx}{o e value:Expr}{f:Str}{pos pos' tpos:Pos}{ta tv:TE}
def bAa(he:PE X e ta)(hb:attributeBase e f X.env (eval e X.env)=eval e X.env):PE X (.Attribute e f pos) (bF7 X.K ta f):=by
 intro pins s σ H Q I h;refine aW2 hb (thn (he pins s σ H _ I h) λu s1 ⟨x,H1,I1,rx,a,C,dx,fs,v,ex,ea,c,n,l,q⟩=>?_)
 subst ex;obtain rfl:u=Value.ref a:=rx;exact aM0 I1 ea c n l λu' s2 I2 ru=>⟨v,H1,I2,ru,q⟩
def bAb(ha:PE X o ta)(hv:PE X value tv)(hs:swapsWith value (some (.Attribute o f pos')) pos.line X.env=pure false):PS X (.Assign [.Attribute o f pos'] value pos) (bF8 X.K ta tv f):=by
 intro pins s σ H D I h;refine plainObj_wpAny_Assign_Attribute (thn (hv pins s σ H _ I h) λu s1 ⟨y,H1,I1,ry,q⟩=>thn (ha pins s1 σ H1 _ I1 q) λov s2 ⟨x,H2,I2,rx,a,C,dx,fs,ex,ea,c,n,l,q2⟩=>?_) hs
 subst ex;obtain rfl:ov=Value.ref a:=rx;exact aM2 I2 ea c n l ry λs3 I3=>⟨σ,_,I3,q2⟩
end
section
variable{X:Cx}{pins:List (Addr×Obj)}{σ:St}{H:Hp}{s:Shared}{A:Around}{E:Value->Shared->Prop}{Q:Value->Shared->Prop}{c:Value}{b:Bool}
inductive TyOf (K:PySem.W.Frag) (H:Hp):V->Value->Prop where
 |non:TyOf K H .non (.type "NoneType")
 |bl (x:Bool):TyOf K H (.bl x) (.type "bool")
 |int (i:Int):TyOf K H (.int i) (.type "int")
 |str (x:Str):TyOf K H (.str x) (.type "str")
 |flt (x:UInt64):TyOf K H (.flt x) (.type "float")
 |lst {a:Addr} {xs:List V} (e:H a=some (.lst xs)):TyOf K H (.ref a) (.type "list")
 |frz {a:Addr} {o:Obj} {xs:List V} (e:H a=some (.frz o (.lst xs))):TyOf K H (.ref a) (.type "list")
 |tup {a:Addr} {xs:List V} (e:H a=some (.tup xs)):TyOf K H (.ref a) (.type "tuple")
 |dK {a:Addr} {kvs:List (Key×V)} (e:H a=some (.dK kvs)):TyOf K H (.ref a) (.type "dict")
 |dT {a:Addr} {kvs:List (List Key×V)} (e:H a=some (.dT kvs)):TyOf K H (.ref a) (.type "dict")
 |ins {a C dx:Addr} {fs:List (Str×V)} (e:H a=some (.ins C dx fs)) (cl:Cls K C) (ha:PySem.W.findIn K (.ref C) "__class__"=some (some (.builtin "object.__class__")))
   (hn:PySem.W.specialIn K (.builtin "object.__class__") "__get__"=some (some (.builtin "getset_descriptor.__get__"))) (htk:PySem.W.takesIn K (.builtin "object.__class__")=some true)
   (hm:PySem.W.mroIn K C (.type "object")=some true):TyOf K H (.ref a) (.ref C)
end
end L2
namespace L2
open PySem PySem.Spec PyProof.Rows
structure Room(k:Nat)(A:Around):Prop where
 hd:A.handled=none
 dp:A.depth+3*k+5<recursionLimit
 un:A.units+16*k+200<cLine
def Room.mono{j k:Nat}{A:Around}(r:Room k A)(h:j<=k):Room j A:=⟨r.hd,by have:=r.dp;omega,by have:=r.un;omega⟩
theorem Room.deeper{k:Nat}{A:Around}(r:Room (k+1) A)(env:Env):Room k (A.deeper env):=
 ⟨r.hd,by have:=r.dp;show A.depth+1+3*k+5<_;omega,by have:=r.un;show A.units+3+16*k+200<_;omega⟩
theorem Room.in1{k:Nat}{A:Around}(r:Room (k+1) A):Room k A.in1:=
 ⟨r.hd,by have:=r.dp;show A.depth+3*k+5<_;omega,by have:=r.un;show A.units+1+16*k+200<_;omega⟩
def aM3{A:Around}{C:Addr}{us:List Value}{kw:List (Str×Value)}:(A.under (.builtin "type.__call__" ⟨.ref C::us,kw⟩)).depth=A.depth+1:=by
 first|rfl|simp[Around.under,Code.weight,Code.isCreation,Code.isGuard,Code.isCaller,Code.frames,Code.isFrame,guardIds]
def aM4{A:Around}{C:Addr}{us:List Value}{kw:List (Str×Value)}:(A.under (.builtin "type.__call__" ⟨.ref C::us,kw⟩)).units=A.units+1:=by
 first|rfl|simp[Around.under,Code.cUnits,Code.frames,Code.isFrame]
def Room.make{k:Nat}{A:Around}(r:Room (k+1) A)(C:Addr)(us:List Value)(kw:List (Str×Value)):Room k (A.under (.builtin "type.__call__" ⟨.ref C::us,kw⟩)):=
 ⟨r.hd,by have:=r.dp;rw[aM3];omega,by have:=r.un;rw[aM4];omega⟩
theorem Room.depth{k:Nat}{A:Around}(r:Room k A):A.depth<recursionLimit:=by have:=r.dp;omega
theorem Room.units{k:Nat}{A:Around}(r:Room k A):A.units+64<cLine:=by have:=r.un;omega
def bF9:TA:=λ_ H Q=>Q [] H
def bCx(ta:TE)(tr:TA):TA:=λσ H Q=>ta σ H λx H1=>tr σ H1 λxs H2=>Q (x::xs) H2
section
variable{X:Cx}{e:Expr}{es:List Expr}{te:TE}{t:TA}{pos:Pos}
def gC:PA X [] bF9:=λ_ _ _ _ H Q I h=>Calls.spliced_nil ⟨[],H,I,.nil,h⟩
def cT(ha:PE X e te)(hr:PA X es t)(hs:starEach (e::es) X.env=(false,eval e X.env)::starEach es X.env:=by rfl):PA X (e::es) (bCx te t):=by
 intro pos pins s σ H Q I h;rw[hs];show wpAny _ _ (spliced ((false,eval e X.env)::backTo pos (starEach es X.env))) _ _ s;refine Calls.spliced_cons (thn (ha pins s σ H _ I h) λu s1 ⟨x,H1,I1,r1,q1⟩=>?_)
 exact thn (hr pos pins s1 σ H1 _ I1 q1) λus s2 ⟨xs,H2,I2,r2,q2⟩=>⟨x::xs,H2,I2,.cons r1 r2,q2⟩
def bFa(t:TA):TE:=λσ H Q=>t σ H λxs H1=>xs.length<=sizeLine/\∀p,H1 p=none->Q (.ref p) (upd H1 p (.tup xs))
def bFb(t:TA):TE:=λσ H Q=>t σ H λxs H1=>xs.length<=sizeLine/\∀p,H1 p=none->Q (.ref p) (upd H1 p (.lst xs))
def bAc{x1}(h:PA X es t):PE X (.Tuple es x1 pos) (bFa t):=by
 intro pins s σ H Q I hq;refine wpAny_Tuple_spliced (thn (h pos pins s σ H _ I hq) λus s1 ⟨xs,H1,I1,r,z,q⟩=>⟨by rw[<-r.length];exact z,?_⟩)
 have hf:H1 s1.heap.objs.size=none:=I1.hok.fresh (bG4 _);refine⟨.ref s1.heap.objs.size,upd H1 s1.heap.objs.size (.tup xs),I1.laid (t':=s1.toks) (λb u e=>bFt _ e) (bG4 _) ?_,rfl,q _ hf⟩
 exact⟨z,us,r,⟨_,bG1 _ rfl,rfl,_,rfl⟩⟩
def aS4(h:PA X es t):PE X (.List es pos) (bFb t):=by
 intro pins s σ H Q I hq;refine wpAny_List_spliced (thn (h pos pins s σ H _ I hq) λus s1 ⟨xs,H1,I1,r,z,q⟩=>⟨by rw[<-r.length];exact z,?_⟩)
 have hf:H1 s1.heap.objs.size=none:=I1.hok.fresh (bG4 _);refine⟨.ref s1.heap.objs.size,upd H1 s1.heap.objs.size (.lst xs),I1.laid (t':=s1.toks) (λb u e=>bFt _ e) (bG4 _) ?_,rfl,q _ hf⟩
 exact⟨z,us,0,r,bG1 _ rfl⟩
end
abbrev Sp:=List V->Hp->VK->XK->Prop
abbrev CXT:=List Env->Hp->Shared->XK->Value->Shared->Prop
structure Env0(P:Program)(w:World)(K:PySem.W.Frag)(mg:Str->Option Value)(base:Heap)(A:Around)(outer:List Env)(s:Shared)(H:Hp):Prop where
 frames:A.frames=some outer
 mod:Mod K mg base
 bs:∀b o,base.get? b=some o->s.heap.get? b=some o/\H b=none
 bsz:base.objs.size<=s.heap.objs.size
 funs:s.heap.FunFrames base outer
 frf:∀b∈frs outer,H b=none
 hok:HOk P w H s.heap
 bare:AllBare s.gens
def CE(outer:List Env)(P:Program)(w:World)(H:Hp)(s:Shared)(Q:VK)(u:Value)(s':Shared):Prop:=
 ∃v H',s'.os=s.os/\AllBare s'.gens/\Un (frs outer) [] H H' s.heap s'.heap/\HOk P w H' s'.heap/\RelV v u/\Q v H'
def CR(CX:CXT)(outer:List Env)(P:Program)(w:World)(H:Hp)(s:Shared)(Q:VK)(E:XK)(r:Result)(s':Shared):Prop:=
 match r with
 |.ok (.ret u)=>CE outer P w H s Q u s'
 |.ok _=>False
 |.error e=>CX outer H s E e s'
structure FnOk(P:Program)(w:World)(K:PySem.W.Frag)(mg:Str->Option Value)(base:Heap)(CX:CXT)(k:Nat)(f:Addr)(fd:FuncData)(ps:List Str)(sp:Sp):Prop where
 len:∀vs H Q E,sp vs H Q E->vs.length=ps.length
 run:∀(A:Around)(outer:List Env)(s:Shared)(H:Hp)(args:Args)(us:List Value)(vs:List V)(Q:VK)(E:XK),Room k A->Env0 P w K mg base A outer s H->BindsTo s fd args (ps.zip us)->Vals vs us->sp vs H Q E->
  codeAny (model P w) A (.call (.ref f) args) (CR CX outer P w H s Q E) s
def Env0.make{P:Program}{w:World}{K:PySem.W.Frag}{mg:Str->Option Value}{base:Heap}{A:Around}{outer:List Env}{s:Shared}{H:Hp}(e:Env0 P w K mg base A outer s H)(C:Addr)(us:List Value)(kw:List (Str×Value)) :
  Env0 P w K mg base (A.under (.builtin "type.__call__" ⟨.ref C::us,kw⟩)) outer s H:=⟨by first|exact e.frames|(simpa [Around.under,Code.envs,Code.isFrame,pushEnvs] using e.frames),e.mod,e.bs,e.bsz,e.funs,e.frf,e.hok,e.bare⟩
theorem Env0.in1{P:Program}{w:World}{K:PySem.W.Frag}{mg:Str->Option Value}{base:Heap}{A:Around}{outer:List Env}{s:Shared}{H:Hp}(e:Env0 P w K mg base A outer s H) :
  Env0 P w K mg base A.in1 outer s H:=⟨e.frames,e.mod,e.bs,e.bsz,e.funs,e.frf,e.hok,e.bare⟩
section
variable{X:Cx}{pins:List (Addr×Obj)}{σ:St}{H:Hp}{s s':Shared}
def Inv.env0(I:Inv X pins σ H s):Env0 X.prog X.w X.K X.mg X.base X.A X.stack s H:=
 ⟨I.ok.frames,I.ok.mod,I.bs,bGy I.ok.bsz I.sz,I.stack,I.stkFree,I.hok,I.bare⟩
def Inv.after{Q:VK}{u:Value}(I:Inv X pins σ H s)(h:CE X.stack X.prog X.w H s Q u s'):EP X pins σ Q u s':=by
 obtain⟨v,H',os,bare,un,hok,r,q⟩:=h;obtain⟨hh,g,d,t,os'⟩:=s';obtain rfl:os'=s.os:=os;exact⟨v,H',I.call (h':=hh) (g':=g) (d':=d) (t':=t) (ch:=[]) un hok bare (λb z=>absurd z (by simp)),r,q⟩
end
def bCy(sp:Sp)(dvs:List V)(E:XK)(t:TA):TE:=λσ H Q=>t σ H λvs H1=>sp (vs++dvs) H1 Q E
def bCz(C:Addr)(m:Str)(sp:Sp)(dvs:List V)(E:XK)(ta:TE)(t:TA):TE:=λσ H Q=>ta σ H λx H1=>∃a dx fs,x=.ref a/\H1 a=some (.ins C dx fs)/\fs.lookup m=none/\
 t σ H1 λvs H2=>sp (x::(vs++dvs)) H2 Q E
def bD0(C:Addr)(sp:Sp)(dvs:List V)(E:XK)(t:TA):TE:=λσ H Q=>t σ H λvs H1=>∀x dx,H1 x=none->H1 dx=none->dx≠x->
 sp (.ref x::(vs++dvs)) (upd (upd H1 dx (.own x)) x (.ins C dx [])) (λv H2=>v=.non/\Q (.ref x) H2) E
def Binds(K:PySem.W.Frag)(fd:FuncData)(ps:List Str)(ds:List Value):Prop:=
 ∀(s:Shared)(us:List Value),K.In s.heap->(us++ds).length=ps.length->BindsTo s fd ⟨us,[]⟩ (ps.zip (us++ds))
def Binds.all{K:PySem.W.Frag}{fd:FuncData}{ps:List Str}(h:∀us:List Value,us.length=ps.length->bindArgs fd ⟨us,[]⟩=pure (ps.zip us)):Binds K fd ps []:=λs us _ hl=>by
 rw[bJn]at hl ⊢;exact .of_eq (h us hl)
def aCa(CX:CXT)(X:Cx)(E:XK):Prop:=∀(pins:List (Addr×Obj)) (σ:St) (H:Hp) (s:Shared) (e:Value) (s':Shared),Inv X pins σ H s->CX X.stack H s E e s'->X.xe e s'
section
variable{X:Cx}{CX:CXT}{k:Nat}{f C:Addr}{fd:FuncData}{ps:List Str}{sp:Sp}{dvs:List V}{ds:List Value}{E:XK}{x m:Str}{p pos apos:Pos}{e o:Expr}{es:List Expr}{ta:TE}{t:TA}
def aS5{pins:List (Addr×Obj)}{σ:St}{H:Hp}{s:Shared}{Q:VK}{us:List Value}{vs:List V}(F:FnOk X.prog X.w X.K X.mg X.base CX k f fd ps sp)(hr:Room k X.A)(hb:Binds X.K fd ps ds)(hd:Vals dvs ds)(hx:aCa CX X E)
  (I:Inv X pins σ H s) (r:Vals vs us) (h:sp (vs++dvs) H Q E):wpAny (model X.prog X.w) X.A (call (.ref f) us) (EP X pins σ Q) X.xe s:=by
 have r2:Vals (vs++dvs) (us++ds):=r.append hd;have hl:(us++ds).length=ps.length:=by rw[<-r2.length];exact F.len _ _ _ _ h
 refine wpAny_call (bIt (F.run X.A X.stack s H ⟨us,[]⟩ (us++ds) (vs++dvs) Q E hr I.env0 (hb s us I.kIn hl) r2 h) λr s' hq=>?_)
 cases r with
 |error e=>exact hx pins σ H s e s' I hq
 |ok fl=>
  cases fl with
  |ret u=>exact I.after hq
  |next=>exact False.elim hq
  |brk=>exact False.elim hq
  |cont=>exact False.elim hq
def aNn(F:FnOk X.prog X.w X.K X.mg X.base CX k f fd ps sp)(hr:Room k X.A)(hg:Gl X x)(hm:X.mg x=some (.ref f))(hk:PySem.W.keepIn X.K (.ref f)=true)(hb:Binds X.K fd ps ds)(hd:Vals dvs ds)(hx:aCa CX X E)
  (ha:PA X (e::es) t) (hdb:(x==("__debug__":Str))=false:=by decide) (he:starEach (e::es) X.env=(false,eval e X.env)::starEach es X.env:=by rfl) (hpl:(backTo pos (starEach es X.env)).any (·.1)=false:=by rfl) :
  PE X (.Call (.Name x p) (e::es) [] pos) (bCy sp dvs E t):=by
 intro pins s σ H Q I h;refine bHz (aHn I hg hm ?_ hdb);refine bKv (h₀:=X.base) I.ok.mod.kin hk (thn (ha pos pins s σ H _ I h) λus s1 ⟨vs,H1,I1,r,q⟩=>⟨I1.kIn,?_⟩) he hpl
 exact aS5 F hr hb hd hx I1 r q
def aW3{pl:Sem Bool}(he:PE X o ta)(c:Cls X.K C)(hm:Meth X.K C m f)(F:FnOk X.prog X.w X.K X.mg X.base CX k f fd ps sp)(hr:Room k X.A)(hb:Binds X.K fd ps ds)(hd:Vals dvs ds)(hx:aCa CX X E)(ha:PA X (e::es) t)
  (hst:starEach (e::es) X.env=(false,eval e X.env)::starEach es X.env:=by rfl) (hpl:(backTo pos (starEach es X.env)).any (·.1)=false:=by rfl)
  (ht:eval (.Call (.Attribute o m apos) (e::es) [] pos) X.env=(do
   let ov <- eval o X.env
   standAt apos.atName
   let (f,first) <- holding [ov] (getMethod ov m pl)
   callWith pos f first (backTo pos (starEach (e::es) X.env)) (backToKw pos (keywordEach [] X.env))):=by rfl) :
  PE X (.Call (.Attribute o m apos) (e::es) [] pos) (bCz C m sp dvs E ta t):=by
 intro pins s σ H Q I h;refine PySem.W.methodCall_KW (pl:=pl) (thn (he pins s σ H _ I h) λu s1 ⟨x,H1,I1,rx,a,dx,fs,ex,ea,l,q⟩=>?_) ht
 subst ex;obtain rfl:u=Value.ref a:=rx;refine aM1 I1 ea c hm l ?_
 refine bKv (first:=[.ref a]) (h₀:=X.base) I.ok.mod.kin hm.kp (thn (ha pos pins s1 σ H1 _ I1 q) λus s2 ⟨vs,H2,I2,r,q2⟩=>⟨I2.kIn,?_⟩) hst hpl
 exact aS5 (us:=.ref a::us) (vs:=.ref a::vs) F hr hb hd hx I2 (.cons rfl r) q2
structure Mk(K:PySem.W.Frag)(C f:Addr):Prop where
 makes:PySem.W.makesIn K C=true
 init:PySem.W.findIn K (.ref C) "__init__"=some (some (.ref f))
 fn:PySem.W.isFn K (.ref f)=true
 kp:PySem.W.keepIn K (.ref C)=true
def aS6{pins:List (Addr×Obj)}{σ:St}{H:Hp}{s:Shared}{Q:VK}{us:List Value}{vs:List V}(M:Mk X.K C f)(F:FnOk X.prog X.w X.K X.mg X.base CX k f fd ps sp)(hr:Room (k+1) X.A)(hb:Binds X.K fd ps ds)(hd:Vals dvs ds)
  (hx:aCa CX X E) (I:Inv X pins σ H s) (r:Vals vs us)
  (h:∀x dx,H x=none->H dx=none->dx≠x->sp (.ref x::(vs++dvs)) (upd (upd H dx (.own x)) x (.ins C dx [])) (λv H2=>v=.non/\Q (.ref x) H2) E) :
  wpAny (model X.prog X.w) X.A (call (.ref C) us) (EP X pins σ Q) X.xe s:=by
 have hq:=h (s.heap.objs.size+1) s.heap.objs.size (I.hok.fresh (bLa _)) (I.hok.fresh (bG4 _)) (bGb (bIh _));have I2:=Inv.made (C:=C) I;have r2:Vals (V.ref (s.heap.objs.size+1)::(vs++dvs)) (Value.ref (s.heap.objs.size+1)::(us++ds)):=.cons rfl (r.append hd);have hl:(Value.ref (s.heap.objs.size+1)::us++ds).length=ps.length:=by
  have e:=r2.length;rw[F.len _ _ _ _ hq]at e;exact e.symm
 refine wpAny_call (aS3 (f:=f) I.kIn M.makes M.init (bJc.mp M.fn) (bIt (F.run _ X.stack _ _ ⟨Value.ref (s.heap.objs.size+1)::us,[]⟩ (Value.ref (s.heap.objs.size+1)::(us++ds)) _ _ E (hr.make C us [])
  (I2.env0.make C us []) (hb _ (Value.ref (s.heap.objs.size+1)::us) I2.kIn hl) r2 hq) λr s' hq'=>?_))
 cases r with
 |error e=>exact hx pins σ _ _ e s' I2 hq'
 |ok fl=>
  cases fl with
  |ret u=>
   obtain⟨v,H',I3,rv,ev,q3⟩:=I2.after hq';subst ev;exact⟨rv,⟨V.ref (s.heap.objs.size+1),H',I3,rfl,q3⟩⟩
  |next=>exact False.elim hq'
  |brk=>exact False.elim hq'
  |cont=>exact False.elim hq'
def aW4(M:Mk X.K C f)(F:FnOk X.prog X.w X.K X.mg X.base CX k f fd ps sp)(hr:Room (k+1) X.A)(hg:Gl X x)(hm:X.mg x=some (.ref C))(hb:Binds X.K fd ps ds)(hd:Vals dvs ds)(hx:aCa CX X E)
  (ha:PA X (e::es) t) (hdb:(x==("__debug__":Str))=false:=by decide) (he:starEach (e::es) X.env=(false,eval e X.env)::starEach es X.env:=by rfl) (hpl:(backTo pos (starEach es X.env)).any (·.1)=false:=by rfl) :
  PE X (.Call (.Name x p) (e::es) [] pos) (bD0 C sp dvs E t):=by
 intro pins s σ H Q I h;refine bHz (aHn I hg hm ?_ hdb);refine bKv (h₀:=X.base) I.ok.mod.kin M.kp (thn (ha pos pins s σ H _ I h) λus s1 ⟨vs,H1,I1,r,q⟩=>⟨I1.kIn,?_⟩) he hpl
 exact aS6 M F hr hb hd hx I1 r q
end
structure FnScope(N P:List Str)(sc:Scope):Prop where
 kind:sc.kind=.function
 co:sc.isCoroutine=false
 gen:sc.isGenerator=false
 nd:N.Nodup
 pre:N.take P.length=P
 par:∀x∈P,sc.names.lookup x=some .local\/sc.names.lookup x=some .cell
 nofree:∀y∈sc.names,y.2≠.free
theorem aGi{kindOf:Str->Option NameKind}{x:Str}:∀{binds:List (Str×Value)} {m:Str->Option Value},(∀v,(x,v)∉binds)->bindL kindOf binds m x=m x
 |[],_,_=>rfl
 |(n,v)::r,m,h=>by
  unfold bindL;rw[aGi λw hw=>h w (bFw _ hw)]
  split
  .have:x≠n:=by rintro rfl;exact h v bFx
   simp[this]
  .rfl
theorem aGj{kindOf:Str->Option NameKind}{x:Str}:∀{binds:List (Str×Value)} {m:Str->Option Value},(∀v,(x,v)∉binds)->bindC kindOf binds m x=m x
 |[],_,_=>rfl
 |(n,v)::r,m,h=>by
  unfold bindC;rw[aGj λw hw=>h w (bFw _ hw)]
  split
  .rfl
  .have:x≠n:=by rintro rfl;exact h v bFx
   simp[this]
theorem aGk{kindOf:Str->Option NameKind}{x:Str}{v:Value}:∀{P:List Str}{vs:List Value}{i:Nat}{m:Str->Option Value},P.Nodup->P[i]?=some x->vs[i]?=some v->kindOf x=some .local->
  bindL kindOf (P.zip vs) m x=some v
 |[],_,_,_,_,h,_,_=>by simp at h
 |_::_,[],_,_,_,_,h,_=>by simp at h
 |p::P,w::vs,0,m,nd,h1,h2,hk=>by
  simp at h1 h2;subst h1;subst h2;show bindL kindOf ((p,w)::P.zip vs) m p=_;unfold bindL;rw[aGi λv hv=>(bIj.mp nd).1 (bLx hv).1,bGa hk]
  simp
 |p::P,w::vs,i+1,m,nd,h1,h2,hk=>by
  show bindL kindOf ((p,w)::P.zip vs) m x=_;unfold bindL;exact aGk (i:=i) (bIj.mp nd).2 (by simpa using h1) (by simpa using h2) hk
theorem aGl{kindOf:Str->Option NameKind}{x:Str}{v:Value}:∀{P:List Str}{vs:List Value}{i:Nat}{m:Str->Option Value},P.Nodup->P[i]?=some x->vs[i]?=some v->kindOf x≠some .local->
  bindC kindOf (P.zip vs) m x=some v
 |[],_,_,_,_,h,_,_=>by simp at h
 |_::_,[],_,_,_,_,h,_=>by simp at h
 |p::P,w::vs,0,m,nd,h1,h2,hk=>by
  simp at h1 h2;subst h1;subst h2;show bindC kindOf ((p,w)::P.zip vs) m p=_;unfold bindC;rw[aGj λv hv=>(bIj.mp nd).1 (bLx hv).1,bG7 hk]
  simp
 |p::P,w::vs,i+1,m,nd,h1,h2,hk=>by
  show bindC kindOf ((p,w)::P.zip vs) m x=_;unfold bindC;exact aGl (i:=i) (bIj.mp nd).2 (by simpa using h1) (by simpa using h2) hk
def start(N:List Str)(vs:List V):St:=vs.map some++List.replicate (N.length-vs.length) none
def aHs(CX:CXT)(P:Program)(w:World)(K:PySem.W.Frag)(mg:Str->Option Value)(base:Heap)(N:List Str)(qual:Str)(scope:Scope)(f:Addr)(cd:Value)(A:Around)(outer:List Env)(s:Shared)(H:Hp)(E:XK):Cx where
 prog:=P
 w:=w
 K:=K
 mg:=mg
 base:=base
 A:=A.deeper (envOfC qual scope s.heap.objs.size f cd)
 N:=N
 s₀:=s
 H₀:=H
 env:=envOfC qual scope s.heap.objs.size f cd
 outer:=outer
 stack:=envOfC qual scope s.heap.objs.size f cd::outer
 ex:=[]
 calm:=true
 fn:=λ_=>true
 pn:=[]
 xe:=λe s'=>wpAny (model P w) (A.deeper (envOfC qual scope s.heap.objs.size f cd)) (leaving (envOfC qual scope s.heap.objs.size f cd) e) (λ_ s''=>CX outer H s E e s'') (λe' s''=>CX outer H s E e' s'') s'
def aJh{sc:Scope}{n:Nat}{x:Str}(h:sc.names.lookup x=some .cell):∃c,(cellsFrom n sc.names []).lookup x=some c:=by
 have q:=bLq sc.names n [] (.inl h);exact Option.isSome_iff_exists.mp q
def aQ4{CX:CXT}{P:Program}{w:World}{K:PySem.W.Frag}{mg:Str->Option Value}{base:Heap}{N ps:List Str}{qual:Str}{scope:Scope}{f:Addr}{cd:Value}{A:Around}{outer:List Env}{s s1:Shared}{H:Hp}{E:XK}{us:List Value}{vs:List V}
  (S:FnScope N ps scope) (hd:A.handled=none) (e0:Env0 P w K mg base A outer s H) (hl:vs.length=ps.length) (r:Vals vs us)
  (x:InCallC s s.heap.objs.size (bindL (envOfC qual scope s.heap.objs.size f cd).kindOf (ps.zip us) λ_=>none) (cellsFrom (s.heap.objs.size+1) scope.names []) (bindC (envOfC qual scope s.heap.objs.size f cd).kindOf (ps.zip us) λ_=>none) s1) :
  Inv (aHs CX P w K mg base N qual scope f cd A outer s H E) [] (start N vs) H s1:=by
 have hpl:ps.length<=N.length:=by have:=congrArg List.length S.pre;rw[bK8]at this;omega
 obtain⟨h1,tk,rfl,hk⟩:=x.done;have noA:∀b:Addr,b∉(aHs CX P w K mg base N qual scope f cd A outer s H E).ex:=λb z=>absurd (show b∈([]:List Addr) from z) (by simp)
 refine⟨⟨e0.mod,S.kind,rfl,rfl,bG4 _,λy z c h1 h2=>?_,λy hy=>?_,λy c _ h=>?_,λ_=>hd,Around.frames_deeper e0.frames,.inr ⟨rfl,rfl⟩,λb z=>absurd z (noA b),e0.bs,e0.bsz,λb _ _=>noA b,λb z=>absurd z (noA b),e0.funs,e0.frf⟩,
  rfl,e0.bare,Un.kept hk,⟨_,x.toInCall.ns,λi y v h1 h2 h3=>?_⟩,λy c h=>⟨_,x.cell y c h⟩,e0.hok.fresh (bG4 _),λy c h=>?_,λp hp=>absurd (show p∈([]:List (Addr×Obj)) from hp) (by simp),e0.hok.kept hk,?_⟩
 .exact name_of_addr x.apart (bH1 h1) (bH1 h2)
 .have hy:scope.names.lookup y=some .cell\/scope.names.lookup y=some .free:=hy;rcases hy with hy|hy
  .exact aJh hy
  .exact absurd rfl (S.nofree _ (bH1 hy))
 .exact bJ5 (x.above y c (bH1 h))
 .have hi:i<vs.length:=by
   unfold start at h2
   by_cases hi:i<vs.length
   .exact hi
   .rw[bIb (by simpa using hi)]at h2
    rw[List.getElem?_replicate]at h2;split at h2<;>cases h2
  have ha:vs[i]?=some v:=by
   unfold start at h2;rw[bH5 (by simpa using hi),List.getElem?_map]at h2
   cases e:vs[i]? with
   |none=>rw[e]at h2;cases h2
   |some a=>rw[e]at h2;cases h2;rfl
  obtain⟨u,hu,rv⟩:=r.get ha;have hp:ps[i]?=some y:=by
   rw[<-S.pre,List.getElem?_take_of_lt (by omega)];exact h1
  have ndP:ps.Nodup:=by rw[<-S.pre];exact S.nd.sublist (List.take_sublist _ _)
  refine⟨u,rv,?_⟩;rcases S.par y (bGt hp) with k|k
  .exact .inl ⟨k,aGk ndP hp hu k⟩
  .obtain⟨c,e⟩:=aJh (n:=s.heap.objs.size+1) k;refine .inr ⟨.inl k,c,e,?_⟩;have q:=x.cell y c e;rw[aGl ndP hp hu (by show scope.names.lookup y≠_;rw[k];decide)]at q
   exact q
 .exact e0.hok.fresh (bJ5 (x.above y c (bH1 h)))
 .unfold start;show _=N.length;rw[bGg,bG6,List.length_replicate];omega
def aYs{CX:CXT}{P:Program}{w:World}{K:PySem.W.Frag}{mg:Str->Option Value}{base:Heap}{k:Nat}{f:Addr}{name qual:Str}{params:Arguments}{body:List Stmt}{scope:Scope}{dV kV doc pm cdv ct oc:Value}{an od:Option Addr}
  {osl:Array (Option Value)} {N ps:List Str} {sp:Sp} (lk:K.lookup f=some ⟨oc,od,.func (PySem.W.fnOf name qual params body scope dV kV doc pm an cdv ct),osl⟩) (hcd:PySem.W.codeIn K cdv qual=true) (S:FnScope N ps scope)
  (len:∀vs H Q E,sp vs H Q E->vs.length=ps.length)
  (hbody:∀(A:Around)(outer:List Env)(s:Shared)(H:Hp)(vs:List V)(Q:VK)(E:XK),Room k (A.deeper (envOfC qual scope s.heap.objs.size f cdv))->sp vs H Q E->
   ∃t,PSs (aHs CX P w K mg base N qual scope f cdv A outer s H E) body t/\t {nx:=λ_ H'=>Q .non H',rt:=Q} (start N vs) H) :
  FnOk P w K mg base CX (k+1) f (PySem.W.fnOf name qual params body scope dV kV doc pm an cdv ct) ps sp:=by
 refine⟨len,λA outer s H args us vs Q E hr e0 hb r hsp=>?_⟩
 have hl:=len _ _ _ _ hsp;have KX:K.In s.heap:=e0.mod.kin.keeps λb o e=>(e0.bs b o e).1
 have lim:s.heap.NoLimit:=e0.mod.nolimit.keeps λb o e=>(e0.bs b o e).1
 have hkind:∀y∈ps.zip us,scope.names.lookup y.1=some .local\/(scope.names.lookup y.1=some .cell/\((cellsFrom (s.heap.objs.size+1) scope.names []).lookup y.1).isSome=true):=λ⟨n,v⟩ hy=>by
  rcases S.par n (bLx hy).1 with q|q
  .exact .inl q
  .exact .inr ⟨q,bLq _ _ _ (.inl q)⟩
 refine codeAny_call_function hr.depth (KX _ _ lk) rfl S.co S.gen rfl (PySem.W.codeRec_of KX hcd) (hb _ _ _ _ ?_);refine wpAny_newFunctionEnv_cells S.kind hkind λenv he s1 x=>?_
 subst he;refine⟨lim.keeps x.toInCall.keep,codeAny_func ?_⟩;obtain⟨t,ht,hq⟩:=hbody A outer s H vs Q E (hr.deeper _) hsp;have I:Inv (aHs CX P w K mg base N qual scope f cdv A outer s H E) [] (start N vs) H s1:=aQ4 S hr.hd e0 hl r x;refine bI6 (ht [] s1 (start N vs) H _ I hq) (λfl s' hs=>?_) λe s' hs=>hs
 have fin:∀{σ':St}{H':Hp}{v:V}{u:Value},Inv (aHs CX P w K mg base N qual scope f cdv A outer s H E) [] σ' H' s'->RelV v u->Q v H'->CE outer P w H s Q u s':=
  λ{σ' H' v u} J rv q=>⟨v,H',J.os,J.bare,J.base,J.hok,rv,q⟩
 cases fl with
 |ret u=>
  obtain⟨v,σ',H',J,rv,q⟩:=hs;exact fin J rv q
 |next=>
  obtain⟨σ',H',J,q⟩:=hs;exact fin (v:=V.non) (u:=Value.none) J rfl q
 |brk=>
  obtain⟨_,_,_,q⟩:=hs;exact False.elim q
 |cont=>
  obtain⟨_,_,_,q⟩:=hs;exact False.elim q
end L2
namespace L2
open PySem PySem.Spec PyProof.Rows
section
variable{X:Cx}{x:Str}{p pos:Pos}{e:Expr}{es:List Expr}{t:TA}{id T:String}{r:List V->Hp->VK->Prop}
def tCB(r:List V->Hp->VK->Prop)(t:TA):TE:=λσ H Q=>t σ H λvs H1=>r vs H1 Q
def oJ(hc:lB X (.builtin id) r)(hg:Gl X x)(hm:X.mg x=none)(hv:bootBuiltins x=some (.builtin id))(ha:PA X (e::es) t)(hn:x≠"__name__":=by decide)(hdb:(x==("__debug__":Str))=false:=by decide)
  (he:starEach (e::es) X.env=(false,eval e X.env)::starEach es X.env:=by rfl) (hpl:(backTo pos (starEach es X.env)).any (·.1)=false:=by rfl):PE X (.Call (.Name x p) (e::es) [] pos) (tCB r t):=by
 intro pins s σ H Q I h;refine bHz (sY I hg hm hv ?_ hn hdb);exact PyProof.Rows.callWith_builtin1 (thn (ha pos pins s σ H _ I h) λus s1 ⟨vs,H1,I1,r1,q1⟩=>hc pins s1 σ H1 vs us Q I1 r1 q1) he hpl
def uA(hc:lB X (.type T) r)(hg:Gl X x)(hm:X.mg x=none)(hv:bootBuiltins x=some (.type T))(ha:PA X (e::es) t)(hn:x≠"__name__":=by decide)(hdb:(x==("__debug__":Str))=false:=by decide)
  (he:starEach (e::es) X.env=(false,eval e X.env)::starEach es X.env:=by rfl) (hpl:(backTo pos (starEach es X.env)).any (·.1)=false:=by rfl):PE X (.Call (.Name x p) (e::es) [] pos) (tCB r t):=by
 intro pins s σ H Q I h;refine bHz (sY I hg hm hv ?_ hn hdb);exact bHa (thn (ha pos pins s σ H _ I h) λus s1 ⟨vs,H1,I1,r1,q1⟩=>hc pins s1 σ H1 vs us Q I1 r1 q1) he hpl
end
end L2
namespace HT
open PySem PyProof.Rows
section
open PySem.SeqAt
open PySem.AutoSeq1 (wpAny_loadPart')
open PySem.MeetsSeq PySem.MeetsSeq2 PySem.MeetsSeq3
end
section
variable{prog:Program}{w:World}{A:Around}{E:Value->Shared->Prop}{s:Shared}
def sIx(n d:Nat):Option Int->Nat
 |none=>d
 |some v=>if v<0 then (v+(n:Int)).toNat else min v.toNat n
def sIx_none(n d:Nat):sIx n d none=d:=rfl
def sIx_nat(n d k:Nat):sIx n d (some (k:Int))=min k n:=by
 show (if (k:Int)<0 then ((k:Int)+(n:Int)).toNat else min (k:Int).toNat n)=min k n
 rw[bG7 (by omega),bH9]
end
end HT
namespace L2
open PySem PySem.Spec PyProof.Rows
abbrev TO:=St->Hp->(Option Int->Hp->Prop)->Prop
def PO(X:Cx)(e:Option Expr)(t:TO):Prop:=
 ∀(pins:List (Addr×Obj)) (s:Shared) (σ:St) (H:Hp) (Q:Option Int->Hp->Prop),Inv X pins σ H s->t σ H Q->
  wpAny (model X.prog X.w) X.A (evalPart e X.env) (λu s'=>∃o H',Inv X pins σ H' s'/\IsPart u o/\Q o H') X.xe s
def aW5:TO:=λ_ H Q=>Q none H
def bD1(t:TE):TO:=λσ H Q=>t σ H λx H1=>∃i,x=.int i/\Q (some i) H1
section
variable{X:Cx}{e:Expr}{te:TE}{lo hi:Option Expr}{tl th:TO}{pos p2:Pos}
def aW6:PO X none aW5:=by
 intro pins s σ H Q I h;rw[evalPart_none];exact bFu ⟨none,H,I,.none,h⟩
def aW7(h:PE X e te):PO X (some e) (bD1 te):=by
 intro pins s σ H Q I hw;rw[evalPart_some];refine thn (h pins s σ H _ I hw) λu s1 ⟨x,H1,I1,r1,q1⟩=>?_
 obtain⟨i,rfl,q⟩:=q1;obtain⟨t,rfl⟩:=r1;exact⟨some i,H1,I1,.int i t,q⟩
def SlR(X:Cx)(r:V->Option Int->Option Int->Hp->VK->Prop):Prop:=
 ∀(pins:List (Addr×Obj)) (s:Shared) (σ:St) (H:Hp) (x:V) (v vl vu:Value) (lo hi:Option Int) (sl:Addr) (Q:VK),Inv X pins σ H s->RelV x v->s.heap.IsSliceOf sl vl vu .none->IsPart vl lo->IsPart vu hi->r x lo hi H Q->
  ∃T id,typeLookup (.type T) "__getitem__"=pure (some (.builtin id))/\s.TypeIs v T/\wpAny (model X.prog X.w) X.A (getItem v (.ref sl)) (EP X pins σ Q) X.xe s
def SlR.or{r r':V->Option Int->Option Int->Hp->VK->Prop}(h:SlR X r)(h':SlR X r'):SlR X (λx lo hi H Q=>r x lo hi H Q\/r' x lo hi H Q):=by
 intro pins s σ H x v vl vu lo hi sl Q I rx hs pl pu q;rcases q with q|q
 .exact h pins s σ H x v vl vu lo hi sl Q I rx hs pl pu q
 .exact h' pins s σ H x v vl vu lo hi sl Q I rx hs pl pu q
def tSl(r:V->Option Int->Option Int->Hp->VK->Prop)(te:TE)(tl th:TO):TE:=λσ H Q=>te σ H λx H1=>tl σ H1 λl H2=>th σ H2 λu H3=>r x l u H3 Q
def aS7{r:V->Option Int->Option Int->Hp->VK->Prop}(hr:SlR X r)(he:PE X e te)(hl:PO X lo tl)(hu:PO X hi th):PE X (.Subscript e (.Slice lo hi none p2) pos) (tSl r te tl th):=by
 intro pins s σ H Q I h;refine Subscript_ (thn (he pins s σ H _ I h) λv s1 ⟨x,H1,I1,r1,q1⟩=>?_)
 refine wpAny_Slice (thn (hl pins s1 σ H1 _ I1 q1) λvl s2 ⟨l,H2,I2,pl,q2⟩=>thn (hu pins s2 σ H2 _ I2 q2) λvu s3 ⟨u,H3,I3,pu,q3⟩=>?_)
 rw[evalPart_none];refine bFu ?_
 have I4:Inv X pins σ H3 {s3 with heap:=s3.heap.push {cls:=.type "slice",data:=.fields #[vl,vu,.none]} }:=I3.kept (t':=s3.toks) λb ob q=>bFt _ q
 obtain⟨T,id,hT,ht,hg⟩:=hr pins {s3 with heap:=s3.heap.push {cls:=.type "slice",data:=.fields #[vl,vu,.none]} } σ H3 x v vl vu l u s3.heap.objs.size Q I4 r1 (Heap.IsSliceOf.new ..) pl pu q3
 show wpAny (model X.prog X.w) X.A (subscriptTail e (.Slice lo hi none p2) v (.ref s3.heap.objs.size)) (EP X pins σ Q) X.xe {s3 with heap:=s3.heap.push {cls:=.type "slice",data:=.fields #[vl,vu,.none]} }
 exact tail_any (ops:=[.ref s3.heap.objs.size,v]) ht hT hg (by with_unfolding_all rfl)
def aQ5(xs:List V)(lo hi:Option Int):List V:=(xs.drop (HT.sIx xs.length 0 lo)).take (HT.sIx xs.length xs.length hi-HT.sIx xs.length 0 lo)
def aJi(xs:List V)(lo hi:Option Int):(aQ5 xs lo hi).length<=xs.length:=by
 unfold aQ5;rw[bK8,bLl];omega
end
end L2
namespace L2
open PySem PySem.Spec PyProof.Rows
def ixN(n:Nat)(i:Int):Option Nat:=if 0<=i then (if i<n then some i.toNat else none) else if -(n:Int)<=i then some (i+n).toNat else none
def atI{α:Type}(xs:List α)(i:Int):Option α:=(ixN xs.length i).bind λj=>xs[j]?
def aW8{n:Nat}{i:Int}{j:Nat}(h:ixN n i=some j):seqIndex? i n=some j/\j<n/\-(n:Int)<=i/\i<n:=by
 unfold ixN at h
 by_cases h0:0<=i
 .rw[bGa h0]at h
  by_cases h1:i<n
  .rw[bGa h1]at h;have e:i.toNat=j:=bHl h;exact⟨by rw[seqIndex_of h0 h1,e],by omega,by omega,h1⟩
  .rw[bG7 h1]at h;cases h
 .rw[bG7 h0]at h
  by_cases h1 : -(n:Int)<=i
  .rw[bGa h1]at h;have e:(i+n).toNat=j:=bHl h;exact⟨by rw[seqIndex_neg (by omega) h1,e],by omega,h1,by omega⟩
  .rw[bG7 h1]at h;cases h
def aHt{α:Type}{xs:List α}{i:Int}{v:α}(h:atI xs i=some v):∃j,seqIndex? i xs.length=some j/\xs[j]?=some v/\j<xs.length/\-(xs.length:Int)<=i/\i<xs.length:=by
 unfold atI at h;cases e:ixN xs.length i with
 |none=>rw[e]at h;cases h
 |some j=>
  rw[e]at h;obtain⟨h1,h2,h3,h4⟩:=aW8 e;exact⟨j,h1,h,h2,h3,h4⟩
def atI_nat{α:Type}{xs:List α}{j:Nat}{v:α}(h:xs[j]?=some v):atI xs (j:Int)=some v:=by
 have hj:j<xs.length:=(bFy.mp h).1;have e:ixN xs.length (j:Int)=some j:=by
  unfold ixN;rw[bGa (by omega),bGa (by omega)];simp
 unfold atI;rw[e];exact h
def aHu(b:Expr):Prop:=∀o i,subscripted b false o i=operate [o,i] (getItem o i)
def IxR(X:Cx)(r:R2):Prop:=
 ∀(value slice:Expr) (pins:List (Addr×Obj)) (s:Shared) (σ:St) (H:Hp) (x y:V) (v u:Value) (Q:VK),Inv X pins σ H s->RelV x v->RelV y u->r x y H Q->
  subscripted slice false v u=operate [v,u] (getItem v u)->wpAny (model X.prog X.w) X.A (subscriptTail value slice v u) (EP X pins σ Q) X.xe s
def MtR(X:Cx)(id:String)(r:V->List V->Hp->VK->Prop):Prop:=
 ∀(pins:List (Addr×Obj)) (s:Shared) (σ:St) (H:Hp) (x:V) (xs:List V) (v:Value) (us:List Value) (Q:VK),Inv X pins σ H s->RelV x v->Vals xs us->r x xs H Q->
  wpAny (model X.prog X.w) X.A (call (.builtin id) (v::us)) (EP X pins σ Q) X.xe s
section
variable{X:Cx}{a b:Expr}{ta tb:TE}{pos:Pos}
def IxR.or{r r':R2}(h:IxR X r)(h':IxR X r'):IxR X (λx y H Q=>r x y H Q\/r' x y H Q):=by
 intro value slice pins s σ H x y v u Q I rx ry q hs;rcases q with q|q
 .exact h value slice pins s σ H x y v u Q I rx ry q hs
 .exact h' value slice pins s σ H x y v u Q I rx ry q hs
def aYt{r:R2}(hr:IxR X r)(ha:PE X a ta)(hb:PE X b tb)(hs:aHu b):PE X (.Subscript a b pos) (tOp r ta tb):=by
 intro pins s σ H Q I h;exact Subscript_ (aZz ha hb I h λv u s2 x y H2 I2 rx ry q=>hr a b pins s2 σ H2 x y v u Q I2 rx ry q (hs _ _))
def bD2(K:PySem.W.Frag):R2:=λx y H Q=>∃p xs i v,x=.ref p/\y=.int i/\SqL K H p xs/\atI xs i=some v/\Q v H
def bD3(K:PySem.W.Frag):R2:=λx y H Q=>∃p xs i v,x=.ref p/\y=.int i/\SqT K H p xs/\atI xs i=some v/\Q v H
def bD4:R2:=λx y H Q=>∃z i c,x=.str z/\y=.int i/\z.length<=sizeLine/\atI z.cps.toList i=some c/\Q (.str ⟨#[c]⟩) H
def aW9:IxR X (bD2 X.K):=by
 intro value slice pins s σ H x y v u Q I rx ry h hs;obtain⟨p,xs,i,z,rfl,rfl,hq,he,q⟩:=h;cases rx;obtain⟨t,rfl⟩:=ry;obtain⟨its,r,pl,hz⟩:=I.list hq;obtain⟨j,h1,h2,h3,h4,h5⟩:=aHt he;obtain⟨w,ew,rw'⟩:=r.get h2;have hl:=r.length;have hn:=aEh;have fin:EP X pins σ Q w s:=⟨z,H,I,rw',q⟩
 by_cases h0:0<=i
 .have hj:i.toNat=j:=by
   rw[seqIndex_of h0 h5]at h1;exact bHl h1
  exact item_listR pl.isList h0 (by omega) (by rw[hj];simpa using ew) fin hs
 .have hj:(i+(its.toArray.size:Int)).toNat=j:=by
   rw[seqIndex_neg (by omega) h4]at h1
   rw[bGd,<-hl];exact bHl h1
  exact subscriptTail_builtinR (x:=w) pl.isList.typeIs slot_list_getitem.lookup
   (wpAny_getItem_list_neg (Q:=λr s'=>r=w/\EP X pins σ Q r s') pl.isList (by omega) (by rw[bGd] <;> omega) (by omega) (by rw[hj];simpa using ew) ⟨rfl,fin⟩) hs
def bAd:IxR X (bD3 X.K):=by
 intro value slice pins s σ H x y v u Q I rx ry h hs;obtain⟨p,xs,i,z,rfl,rfl,hq,he,q⟩:=h;cases rx;obtain⟨t,rfl⟩:=ry;obtain⟨its,r,pl,hz⟩:=I.tuple hq;obtain⟨j,h1,h2,h3,h4,h5⟩:=aHt he;obtain⟨w,ew,rw'⟩:=r.get h2;have hl:=r.length;have hn:=aEh;have fin:EP X pins σ Q w s:=⟨z,H,I,rw',q⟩;exact subscriptTail_builtinR (x:=w) pl.typeIs slot_tuple_getitem.lookup
  (getItem_tuple (j:=j) (Q:=λr s'=>r=w/\EP X pins σ Q r s') pl (by omega) (by omega) (by rw[bGd,<-hl];exact h1) (by simpa using ew) ⟨rfl,fin⟩) hs
def bAe:IxR X bD4:=by
 intro value slice pins s σ H x y v u Q I rx ry h hs;obtain⟨z,i,c,rfl,rfl,hz,he,q⟩:=h;obtain⟨t,rfl⟩:=rx;obtain⟨t',rfl⟩:=ry;obtain⟨j,h1,h2,h3,h4,h5⟩:=aHt he;have hl:z.cps.toList.length=z.length:=by simp[Str.length]
 rw[hl]at h1 h4 h5;have hn:=aEh;exact tail_any (typeIs_str s z t) slot_str_getitem.lookup (getItem_str (c:=c) (by
  have e1:decide (i < -(2^63:Int))=false:=bG3 (by omega)
  have e2:decide (i ≥ 2^63)=false:=bG3 (by omega)
  rw[e1,e2,Bool.or_false]) (by rw[h1];simpa using h2) ⟨.str ⟨#[c]⟩,H,I.tok _,⟨_,rfl⟩,q⟩) hs
def rIx(K:PySem.W.Frag):R2:=λx y H Q=>bD2 K x y H Q\/bD3 K x y H Q\/bD4 x y H Q
def aS8:IxR X (rIx X.K):=aW9.or (bAd.or bAe)
def aHv(lo hi:Option Int)(n:Nat):(sliceBounds lo hi none n).1=((HT.sIx n 0 lo:Nat):Int)/\(sliceBounds lo hi none n).2.1=((HT.sIx n n hi:Nat):Int)/\(sliceBounds lo hi none n).2.2=1:=by
 refine⟨?_,?_,rfl⟩
 .cases lo with
  |none=>simp[sliceBounds,HT.sIx]
  |some i=>
   simp only[sliceBounds,HT.sIx,Option.getD_none,show (1:Int)>0 by decide,if_true]
   by_cases h:i<0
   .simp only[h,if_true] <;> omega
   .simp only[h,if_false] <;> omega
 .cases hi with
  |none=>simp[sliceBounds,HT.sIx]
  |some i=>
   simp only[sliceBounds,HT.sIx,Option.getD_none,show (1:Int)>0 by decide,if_true]
   by_cases h:i<0
   .simp only[h,if_true] <;> omega
   .simp only[h,if_false] <;> omega
def aFy(its:List Value)(lo hi:Option Int):slicePick its.toArray lo hi none=((its.drop (HT.sIx its.length 0 lo)).take (HT.sIx its.length its.length hi-HT.sIx its.length 0 lo)).toArray:=by
 obtain⟨h1,h2,h3⟩:=aHv lo hi its.toArray.size;unfold slicePick;rw[h1,h2,h3];simp only[sliceRange_one,pick_run,List.size_toArray] <;> rfl
def bFc(K:PySem.W.Frag):V->Option Int->Option Int->Hp->VK->Prop:=λx lo hi H Q=>∃a xs,x=.ref a/\SqL K H a xs/\∀p,H p=none->Q (.ref p) (upd H p (.lst (aQ5 xs lo hi)))
def aWa:SlR X (bFc X.K):=by
 intro pins s σ H x v vl vu lo hi sl Q I rx hs pl pu h;obtain⟨a,xs,rfl,hx,q⟩:=h;cases rx;obtain⟨its,r,ht,hz⟩:=I.list hx;have hlen:=r.length;refine⟨"list",_,slot_list_getitem.lookup,ht.isList.typeIs,?_⟩;refine wpAny_getItem_list_slice ht.isList hs pl pu .none (by simp) ?_ (by rw[bGd] <;> omega)
 rw[aFy,<-hlen];refine⟨.ref s.heap.objs.size,_,I.laid (t':=s.toks) (o:=.lst (aQ5 xs lo hi)) (λb ob q=>bFt _ q) (bG4 _) ?_,rfl,q _ (I.hok.fresh (bG4 _))⟩
 exact⟨bGy (aJi xs lo hi) hz,_,0,(r.drop (HT.sIx xs.length 0 lo)).take (HT.sIx xs.length xs.length hi-HT.sIx xs.length 0 lo),bG1 _ rfl⟩
def aHw:lB X (.builtin "len") (λxs H Q=>∃p ys,xs=[.ref p]/\(SqL X.K H p ys\/SqT X.K H p ys)/\Q (.int ys.length) H):=by
 intro pins s σ H xs us Q I r h;obtain⟨p,ys,rfl,hq,q⟩:=h;obtain⟨u,rfl,rx⟩:=vals1 r;cases rx;have hn:=aEh;rcases hq with hq|hq
 .obtain⟨its,r',pl,hz⟩:=I.list hq;have hlen:=r'.length;exact Calls.call_len_list pl.isList (by simp only[List.size_toArray] <;> omega) ⟨.int ys.length,H,I.tok _,⟨s.toks+1,by rw[bGd,hlen]⟩,q⟩
 .obtain⟨its,r',pl,hz⟩:=I.tuple hq;have hlen:=r'.length;exact len_tuple pl (by simp only[List.size_toArray] <;> omega) ⟨.int ys.length,H,I.tok _,⟨s.toks+1,by rw[bGd,hlen]⟩,q⟩
def aHx:lB X (.builtin "len") (λxs H Q=>∃z,xs=[.str z]/\z.length<=sizeLine/\Q (.int z.length) H):=by
 intro pins s σ H xs us Q I r h;obtain⟨z,rfl,hz,q⟩:=h;obtain⟨u,rfl,t,rfl⟩:=vals1 r;have hn:=aEh;exact len_str (by omega) ⟨.int z.length,H,I.tok _,⟨_,rfl⟩,q⟩
def lB.or{f:Value}{r r':List V->Hp->VK->Prop}(h:lB X f r)(h':lB X f r'):lB X f (λxs H Q=>r xs H Q\/r' xs H Q):=by
 intro pins s σ H xs us Q I rs q;rcases q with q|q
 .exact h pins s σ H xs us Q I rs q
 .exact h' pins s σ H xs us Q I rs q
def aFz:lB X (.type "tuple") (λxs H Q=>∃p ys,xs=[.ref p]/\((SqL X.K H p ys/\∀l,H l=none->Q (.ref l) (upd H l (.tup ys)))\/(SqT X.K H p ys/\Q (.ref p) H))):=by
 intro pins s σ H xs us Q I r h;obtain⟨p,ys,rfl,h⟩:=h;obtain⟨u,rfl,rx⟩:=vals1 r;cases rx;rcases h with ⟨hq,q⟩|⟨hq,q⟩
 .obtain⟨its,r',pl,hz⟩:=I.list hq;have hlen:=r'.length;refine call_tuple_list pl.isList (λh' kp=>?_) (by simp only[List.size_toArray] <;> omega)
  have I1:Inv X pins σ H {s with heap:=h'}:=I.kept (t':=s.toks) kp
  have I2:Inv X pins σ (upd H h'.objs.size (.tup ys)) {s with heap:=h'.push {cls:=.type "tuple",data:=.seq its.toArray} }:=
   I1.laid (t':=s.toks) (λb o e=>bFt _ e) (bG4 _) (show iG X.prog X.w _ _ _ (.tup ys) from ⟨hz,its,r',IsTup.new _ _⟩)
  exact⟨.ref h'.objs.size,_,I2,rfl,q _ (I1.hok.fresh (bG4 _))⟩
 .obtain⟨its,r',pl,hz⟩:=I.tuple hq;exact call_tuple_same pl ⟨.ref p,H,I,rfl,q⟩
def tyV(K:PySem.W.Frag)(T:String)(x:V)(H:Hp):Prop:=match x with
 |.str _=>T="str"
 |.int _=>T="int"
 |.ref p=>(T="list"/\∃xs,SqL K H p xs)\/(T="tuple"/\∃o,K.lookup p=some o/\o.cls=.type "tuple"/\o.dict=none)\/
   (T="dict"/\((∃kvs,H p=some (.dK kvs))\/∃kvs,H p=some (.dT kvs)))\/(T="set"/\∃S n,H p=some (.set S n))
 |_=>False
def aS9{pins:List (Addr×Obj)}{σ:St}{H:Hp}{s:Shared}{T:String}{x:V}{v:Value}(I:Inv X pins σ H s)(r:RelV x v)(ty:tyV X.K T x H) :
  s.TypeIs v T/\∀a,v=.ref a->∃ob,s.heap.get? a=some ob/\ob.dict=none:=by
 cases x with
 |str z=>
  obtain⟨t,rfl⟩:=r;cases (show T="str" from ty)
  exact⟨typeIs_str s z t,λ_ e=>nomatch e⟩
 |int i=>
  obtain⟨t,rfl⟩:=r;cases (show T="int" from ty)
  exact⟨typeIs_int s i t,λ_ e=>nomatch e⟩
 |ref p=>
  cases r;rcases ty with ⟨rfl,xs,hq⟩|⟨rfl,o,hk,hc,hd⟩|⟨rfl,hk⟩|⟨rfl,S,n,hk⟩
  .obtain⟨its,_,pl,_⟩:=I.list hq;refine⟨pl.isList.typeIs,λa e=>?_⟩
   cases e;obtain⟨o,n,e,c,hd,_⟩:=pl;exact⟨o,e,hd⟩
  .refine⟨⟨o,I.kIn p o hk,hc⟩,λa e=>?_⟩
   cases e;exact⟨o,I.kIn _ o hk,hd⟩
  .have z:∃o,s.heap.get? p=some o/\o.ExactDict:=by
    rcases hk with ⟨kvs,hk⟩|⟨kvs,hk⟩
    .obtain⟨_,_,_,_,o,_,_,e,ex,_⟩:=I.hok p _ hk;exact⟨o,e,ex⟩
    .obtain⟨_,_,_,_,o,_,_,e,ex,_⟩:=I.hok p _ hk;exact⟨o,e,ex⟩
   obtain⟨o,e,ex⟩:=z;refine⟨⟨o,e,ex.1⟩,λa e2=>?_⟩
   cases e2;exact⟨o,e,ex.2.1⟩
  .obtain⟨o,_,_,_,e,ex,_⟩:=I.hok p _ hk;refine⟨⟨o,e,ex.1⟩,λa e2=>?_⟩
   cases e2;exact⟨o,e,ex.2.1⟩
 |_=>exact False.elim ty
def bFd(K:PySem.W.Frag)(T:String)(r:V->List V->Hp->VK->Prop)(to:TE):TE:=λσ H Q=>to σ H λx H1=>tyV K T x H1/\r x [] H1 Q
def tBM(K:PySem.W.Frag)(T:String)(r:V->List V->Hp->VK->Prop)(to:TE)(t:TA):TE:=λσ H Q=>to σ H λx H1=>tyV K T x H1/\t σ H1 λxs H2=>r x xs H2 Q
variable{o e:Expr}{es:List Expr}{to:TE}{t:TA}{name:Str}{apos cpos:Pos}{T id:String}{r:V->List V->Hp->VK->Prop}
def bAf(pa:PlainAttrs T)(slot:Slot T name id)(hty:typeOf (.builtin id)=pure (.type "method_descriptor"))(hm:MtR X id r)(ho:PE X o to)
  (hbase:attributeBase o name X.env (eval o X.env)=eval o X.env:=by rfl) (hline:(apos.endLine==cpos.line)=true:=by rfl):PE X (.Call (.Attribute o name apos) [] [] cpos) (bFd X.K T r to):=by
 intro pins s σ H Q I h;refine wpAny_Call_method0_late hbase hline (thn (ho pins s σ H _ I h) λv s1 ⟨x,H1,I1,r1,ty,q1⟩=>?_)
 obtain⟨h1,h2⟩:=aS9 I1 r1 ty;exact⟨T,id,pa,slot,hty,h1,h2,Calls.callWith_builtin rfl (PySem.evalArgs_none (hm pins s1 σ H1 x [] v [] Q I1 r1 .nil q1))⟩
def aNo(pa:PlainAttrs T)(slot:Slot T name id)(hty:typeOf (.builtin id)=pure (.type "method_descriptor"))(hm:MtR X id r)(ho:PE X o to)(ha:PA X (e::es) t)
  (hbase:attributeBase o name X.env (eval o X.env)=eval o X.env:=by rfl)
  (hfew:((backTo cpos (starEach (e::es) X.env)).all (λx=>!x.1)&&(backToKw cpos (keywordEach [] X.env)).all (λx=>x.1.isSome)
   && decide ((e::es).length+([]:List Keyword).length+(if ([]:List Keyword).isEmpty then 0 else 1)<30))=true:=by rfl)
  (hline:(apos.endLine==cpos.line)=true:=by rfl) (hs:starEach (e::es) X.env=(false,eval e X.env)::starEach es X.env:=by rfl) (hplain:(backTo cpos (starEach es X.env)).any (·.1)=false:=by rfl) :
  PE X (.Call (.Attribute o name apos) (e::es) [] cpos) (tBM X.K T r to t):=by
 intro pins s σ H Q I h;refine wpAny_Call_method_late hbase hfew hline rfl (thn (ho pins s σ H _ I h) λv s1 ⟨x,H1,I1,r1,ty,q1⟩=>?_)
 obtain⟨h1,h2⟩:=aS9 I1 r1 ty;refine⟨T,id,pa,slot,hty,h1,h2,?_⟩;have hA:=ha cpos pins s1 σ H1 _ I1 q1;rw[hs]at hA ⊢;refine Calls.callWith_builtin (by show (false||(backTo cpos (starEach es X.env)).any (·.1))=false;rw[hplain] <;> rfl) (Calls.evalArgs_plain ?_)
 exact thn hA λus s2 ⟨vs,H2,I2,r2,q2⟩=>hm pins s2 σ H2 x vs v us Q I2 r1 r2 q2
end
end L2
namespace L2
open PySem PySem.Spec PyProof.Rows
def MtM(X:Cx)(id:String)(r:V->List V->Hp->VK->Prop):Prop:=
 ∀(pins:List (Addr×Obj)) (s:Shared) (σ:St) (H:Hp) (x:V) (xs:List V) (v:Value) (us:List Value) (Q:VK),Inv X pins σ H s->RelV x v->Vals xs us->r x xs H Q->
  wpAny (model X.prog X.w) X.A (call (.builtin id) (v::us)) (EP X pins σ Q) X.xe s
def Vals.one:∀{x:V}{us:List Value},Vals [x] us->∃u,us=[u]/\RelV x u
 |_,_,.cons r .nil=>⟨_,rfl,r⟩
def Vals.two:∀{x y:V}{us:List Value},Vals [x,y] us->∃u v,us=[u,v]/\RelV x u/\RelV y v
 |_,_,_,.cons r (.cons q .nil)=>⟨_,_,rfl,r,q⟩
def Vals.zero:∀{us:List Value},Vals [] us->us=[]
 |_,.nil=>rfl
theorem Vals.eraseIdx:∀{xs:List V}{us:List Value}(i:Nat),Vals xs us->Vals (xs.eraseIdx i) (us.eraseIdx i)
 |_,_,_,.nil=>.nil
 |_,_,0,.cons _ t=>t
 |_,_,i+1,.cons r t=>.cons r (Vals.eraseIdx i t)
theorem Vals.reverse{xs:List V}{us:List Value}(h:Vals xs us):Vals xs.reverse us.reverse:=by
 induction h with
 |nil=>exact .nil
 |cons r t ih=>rw[List.reverse_cons,List.reverse_cons];exact Vals.append ih (.cons r .nil)
section
variable{X:Cx}{pins:List (Addr×Obj)}{σ:St}{H:Hp}{s:Shared}{l b:Addr}{xs ys zs:List V}
def Inv.lset{its its':List Value}{n:Nat}{f:Array Value->Array Value}{t':Nat}(I:Inv X pins σ H s)(hH:H l=some (.lst xs))
  (e:s.heap.get? l=some {cls:=.type "list",data:=.seq its.toArray n}) (hf:f its.toArray=its'.toArray) (hv:Vals ys its') (hz:ys.length<=sizeLine) :
  Inv X pins σ (upd H l (.lst ys)) {s with heap:=s.heap.update l (Obj.mapSeq f),toks:=t'}:=by
 have q:=PySem.IsL.update e f;rw[hf]at q;refine I.write (x:=l) (e:=l) (by rw[hH];exact trivial) (.inl rfl) (λb' u hb hu=>(bGv s.heap (Obj.mapSeq f) (bHx hb)).trans hu) ⟨_,q⟩ ?_
 exact⟨hz,its',_,hv,q⟩
def Inv.lnew{its:List Value}{t':Nat}(I:Inv X pins σ H s)(hv:Vals ys its)(hz:ys.length<=sizeLine) :
  Inv X pins σ (upd H s.heap.objs.size (.lst ys)) {s with heap:=s.heap.push {cls:=.type "list",data:=.seq its.toArray},toks:=t'}:=
 I.laid (λ_ _ q=>bFt _ q) (bG4 _) ⟨hz,its,0,hv,bG1 _ rfl⟩
theorem Inv.fresh(I:Inv X pins σ H s):H s.heap.objs.size=none:=I.hok.fresh (bG4 _)
def Inv.lstM(I:Inv X pins σ H s)(hH:H l=some (.lst xs)):xs.length<=sizeLine/\∃(its:List Value)(n:Nat),Vals xs its/\xs.length=its.length/\s.heap.get? l=some {cls:=.type "list",data:=.seq its.toArray n}:=by
 obtain⟨z,its,n,r,e⟩:=I.hok l _ hH;exact⟨z,its,n,r,r.length,e⟩
def aSa{n:Nat}(h:n<=sizeLine):Builtin.List.listTooLong n=false:=by
 unfold Builtin.List.listTooLong;exact bG3 (by omega)
end
section
variable{X:Cx}
def aWb:V->List V->Hp->VK->Prop:=λx vs H Q=>∃l xs y,x=.ref l/\vs=[y]/\H l=some (.lst xs)/\xs.length<sizeLine/\Q .non (upd H l (.lst (xs++[y])))
def aQ6:MtM X "list.append" aWb:=by
 intro pins s σ H x vs v us Q I rx rv h;obtain⟨l,xs,y,rfl,rfl,hH,hz,q⟩:=h;cases rx;obtain⟨u,rfl,ru⟩:=rv.one;obtain⟨z,its,n,r,hl,e⟩:=I.lstM hH;refine call_meets bJw ⟨_,e,rfl⟩ F.entry_list_append (bLb _ _) (PySem.list_append l its.toArray n u (by rw[bGd];omega)) ⟨e,?_⟩
 refine⟨.non,_,I.lset (its':=its++[u]) hH e (by simp) (r.append (.cons ru .nil)) ?_,rfl,q⟩
 rw[bGg,bHc];omega
def aWc:V->List V->Hp->VK->Prop:=λx vs H Q=>∃l b xs zs,x=.ref l/\vs=[.ref b]/\H l=some (.lst xs)/\H b=some (.lst zs)/\xs.length+zs.length<=sizeLine/\Q .non (upd H l (.lst (xs++zs)))
def aQ7:MtM X "list.extend" aWc:=by
 intro pins s σ H x vs v us Q I rx rv h;obtain⟨l,b,xs,zs,rfl,rfl,hH,hB,hz,q⟩:=h;cases rx;obtain⟨u,rfl,ru⟩:=rv.one;cases ru;obtain⟨z,its,n,r,hl,e⟩:=I.lstM hH;obtain⟨z2,its2,n2,r2,hl2,e2⟩:=I.lstM hB;have hsz:its.toArray.size+its2.toArray.size<=sizeLine:=by rw[bGd,bGd];omega
 have hlong:¬ (!its.toArray.isEmpty&&Builtin.List.listTooLong (its.toArray.size+its2.toArray.size))=true:=by
  rw[aSa hsz,bKy];exact bGh
 refine call_meets F.slot_list_extend ⟨_,e,rfl⟩ F.entry_list_extend (F.args_list_extend_2 _ _)
  (AutoSeq1.list_extend_list_list_0 l its.toArray n b its2.toArray n2 hlong (by rw[bGd];omega) (by omega)) ⟨e,e2,?_⟩
 refine⟨.non,_,I.lset (its':=its++its2) hH e (by simp) (r.append r2) ?_,rfl,q⟩
 rw[bGg];omega
end
end L2
namespace Att
open PySem PySem.W PySem.Calls PyProof.Rows
def aDt{P:Params}{h:Heap}:∀(ns:List Int)(vs:List Value),WellAll P h vs (ns.map WData.int)->IntsAre vs ns:=by
 intro ns
 induction ns with
 |nil=>
  intro vs w;rw[List.map_nil]at w;cases w;exact .nil
 |cons n ns ih=>
  intro vs w;rw[bGf]at w;cases w with
  |cons a b=>
   cases a;exact .cons _ _ (ih _ b)
def aQ8{l:OpenLaw}{n:Nat}(hn:l.most=some n){P:Params}{h:Heap}{args:List WData}{vals:List Value}
  (hpre:l.row.toRowW.claim.pre args=true) (hwl:WellAll P h vals args) :
  ∃a vs ns,vals=[Value.ref a]/\args=[WData.list (ns.map WData.int)]/\h.get? a=some {cls:=.type "list",data:=.seq vs.toArray}/\IntsAre vs ns/\ns.length<=n:=by
 have hsh:WShape.hasAll [] args [.list .int]=true:=(pre_splitW hpre).1;have hc:l.pre.holds [] {args:=args}=true:=(pre_splitW hpre).2;obtain⟨d,r,rfl,h1,h2⟩:=hasAllW_cons hsh;obtain rfl:=hasAllW_nil h2;obtain⟨xs,rfl,h3⟩:=hasW_list h1;obtain⟨ns,rfl⟩:=items_int h3;have hlen:ns.length<=n:=by
  unfold OpenLaw.pre at hc;have h4:(WTm.not (.lt (.lit (.int (n:Int))) (.len (.arg 0)))).holds [] {args:=[.list (ns.map .int)]}=true:=by
   have h4:=(holds_andW hc).1;rw[hn]at h4;exact h4
  have h5:=condW_of h4 (w_not (w_lt w_lit (w_len_list (w_arg rfl))));rw[bG6]at h5;refine Nat.le_of_not_lt λq=>?_
  have q':(n:Int)<((ns.length:Nat):Int):=by omega
  first
   |(rw[bGe q']at h5;exact absurd h5 (by decide))
   |(simp at h5;omega)
 cases hwl with
 |cons w1 w2=>
  cases w2;cases w1 with
  |list ho hall=>exact⟨_,_,ns,rfl,rfl,ho,aDt ns _ hall,hlen⟩
def aQ9(l:OpenLaw)(args:List WData):l.row.toRowW.claim.post args (.bool true) args=true:=
 postW_of (r:=l.row.toRowW) (X:=(true==true))
  (show WShape.has [] (.bool true) .bool=true by first|rfl|decide|simp[WShape.has,WShape.arms,WShape.armsAll])
  (show (WTm.eq .res (.lit (.bool true))).value [] {args:=args,res:=some (.bool true),after:=args}=some (.bool (true==true)) from w_eq_bool (w_res rfl) w_lit) rfl
def attach_call{l:OpenLaw}{n:Nat}{q:Program}{loose:List Str}{XP:(Str->Option Value)->Heap->Prop}{YP:World->Heap->Prop}{d:DefRec}
  (hn:l.most=some n) (hdf:d.params.defaults=[])
  (call:∀(w:World)(s₀ s₁:Shared)(mg mb:Str->Option Value)(fa:Addr)(o:Obj)(pm cd doc:Value)(a:Addr)(vs:List Value)(ns:List Int),
   Ground q loose [] XP w s₀ mg mb s₁.heap->YP w s₁.heap->
   s₁.heap.get? fa=some o->o.data=.func (docDef d.name d.params d.body d.scope pm cd doc)->s₁.heap.CodeRec cd d.name->mg d.name=some (.ref fa)->
   s₁.heap.get? a=some {cls:=.type "list",data:=.seq vs.toArray}->IntsAre vs ns->ns.length<=n->s₁.gens = #[]->
   codeAny (model l.prog w) callerA (.call (.ref fa) ⟨[.ref a],[]⟩) (λr s'=>r=.ok (.ret (.bool true))/\OldK s₁.heap s'.heap/\s'.os=s₁.os/\AllBare s'.gens) s₁) :
  WalkO q loose XP YP l.row.toRowW d [] (λf vs=>PySem.call f vs):=by
 intro w s₀ s₁ mg mb G Y fa o pm cd doc dV kV ho hd hcd hD hmg hg args vals as hpre hlay hrd hwl hlo;obtain rfl:dV=.none:=Dflts.none hD hdf;obtain rfl:kV=.none:=Dflts.noKw hD;obtain⟨a,vs,ns,rfl,rfl,hobj,hints,hlen⟩:=aQ8 hn hpre hwl;refine enter_call (bIt (call w s₀ s₁ mg mb fa o pm cd doc a vs ns G Y ho (fd_plain hd) hcd hmg hobj hints hlen hg) λr s' hq=>?_)
 obtain⟨rfl,h2,h3,h4⟩:=hq;exact⟨.inl ⟨.bool true,.bool true,[],rfl,λ_=>rfl,.bool true,aQ9 l _,λ_=>⟨List.Pairwise.nil,λ_ hm=>(nomatch hm)⟩⟩,h2,h3,h4⟩
end Att
namespace L2
open PySem PySem.Spec PyProof.Rows
theorem vals_ints:∀{vs:List Value}{ns:List Int},IntsAre vs ns->Vals (ns.map V.int) vs
 |_,_,.nil=>.nil
 |_,_,.cons n t h=>.cons ⟨t,rfl⟩ (vals_ints h)
def Only(H:Hp):Prop:=∀b,H b=none\/∃o xs,H b=some (.frz o (.lst xs))
def aSb{P:Program}{w:World}{K:PySem.W.Frag}{mg mb:Str->Option Value}{CX:CXT}{k:Nat}{fa a:Addr}{fd:FuncData}{x:Str}{sp:Sp}{s₁:Shared}{vs:List Value}{ns:List Int}
  (KX:K.In s₁.heap) (hns:s₁.heap.Ns mainGlobals mg) (hb:s₁.heap.Ns builtinsNs mb) (hbb:∀x:Str,x≠"__name__"->mb x=bootBuiltins x) (hlim:s₁.heap.NoLimit) (hg:s₁.gens = #[])
  (ha:s₁.heap.get? a=some {cls:=.type "list",data:=.seq vs.toArray}) (hi:IntsAre vs ns) (hl:ns.length<=sizeLine) (hr:Room k callerA)
  (F:∀base:Heap,K.In base->base.Ns mainGlobals mg->FnOk P w K mg base CX k fa fd [x] sp) (hbind:∀(s:Shared)(u:Value),BindsTo s fd ⟨[u],[]⟩ [(x,u)])
  (hsp:∀H:Hp,Only H->SqL K H a (ns.map V.int)->sp [.ref a] H (λv _=>v=.bl true) λ_ _ _=>False)
  (hCX:∀H e s',CX [] H s₁ (λ_ _ _=>False) e s'->False) :
  codeAny (model P w) callerA (.call (.ref fa) ⟨[.ref a],[]⟩) (λr s'=>r=.ok (.ret (.bool true))/\OldK s₁.heap s'.heap/\s'.os=s₁.os/\AllBare s'.gens) s₁:=by
 have rv:=vals_ints hi;have lenV:=hi.length;have core:∀H:Hp,Only H->SqL K H a (ns.map V.int)->HOk P w H s₁.heap->(∀b,H b≠none->b=a)->(H a≠none->K.lookup a=none)->
   codeAny (model P w) callerA (.call (.ref fa) ⟨[.ref a],[]⟩) (λr s'=>r=.ok (.ret (.bool true))/\OldK s₁.heap s'.heap/\s'.os=s₁.os/\AllBare s'.gens) s₁:=by
  intro H hO hS hok hA hK;have base_of:∀{b:Addr}{o:Obj},s₁.heap.get? b=some o->H b=none->(aHm s₁.heap H).get? b=some o:=λe n=>aRr e n
  have noA:∀{b:Addr}{o:Obj}{es:Array DictEntry}{ep:Nat},s₁.heap.get? b=some o->o.data=.dict es ep->H b=none:=λ{b o es ep} e d=>by
   cases q:H b with
   |none=>rfl
   |some u=>
    have e':b=a:=hA b (by rw[q];simp)
    subst e';rw[ha]at e;cases e;have d':Data.seq vs.toArray _=Data.dict es ep:=d;cases d'
  have nsK:∀{b:Addr}{m:Str->Option Value},s₁.heap.Ns b m->(aHm s₁.heap H).Ns b m:=λ{b m} ⟨o,es,ep,e,d,r⟩=>⟨o,es,ep,base_of e (noA e d),d,r⟩
  have hKb:K.In (aHm s₁.heap H):=λb o e=>base_of (KX b o e) (by
   cases q:H b with
   |none=>rfl
   |some u=>
    have e':b=a:=hA b (by rw[q];simp)
    subst e';rw[hK (by rw[q];simp)]at e;cases e)
  have hM:Mod K mg (aHm s₁.heap H):=⟨hKb,nsK hns,⟨mb,nsK hb,hbb⟩,let ⟨mc,h1,h2⟩:=hlim;⟨mc,nsK h1,h2⟩⟩;have e0:Env0 P w K mg (aHm s₁.heap H) callerA [] s₁ H:=⟨rfl,hM,λb o e=>aVo e,bKu (aPu _ _),trivial,λb hb=>absurd (show b∈([]:List Addr) from hb) (by simp),hok,.of_eq hg⟩
  refine bIt ((F _ hKb (nsK hns)).run callerA [] s₁ H ⟨[.ref a],[]⟩ [.ref a] [.ref a] _ _ hr e0 (hbind s₁ (.ref a)) (.cons rfl .nil) (hsp H hO hS)) λr s' h=>?_
  cases r with
  |error e=>exact(hCX H e s' h).elim
  |ok fl=>
   cases fl with
   |next=>exact False.elim h
   |brk=>exact False.elim h
   |cont=>exact False.elim h
   |ret u=>
    obtain⟨v,H',os,bare,un,hok',r',q⟩:=h;have q':v=.bl true:=q;subst q';obtain rfl:u=Value.bool true:=r';refine⟨rfl,OldK.of_keep λb o e=>?_,os,bare⟩
    cases q:H b with
    |none=>exact un.keep b o e q (by intro z;exact absurd (show b∈([]:List Addr) from z) (by simp)) (by simp)
    |some u=>
     rcases hO b with z|⟨ob,xs,z⟩
     .rw[q]at z;cases z
     .have z2:=un.frzs b ob _ z;obtain⟨e1,_⟩:=hok b _ z;obtain⟨e2,_⟩:=hok' b _ z2;rw[e]at e1;cases e1;exact e2
 cases hk:K.lookup a with
 |some o=>
  have e:=KX a o hk;rw[ha]at e;cases e;refine core (λ_=>none) (λ_=>.inl rfl) (.inr ⟨_,vs.toArray,_,hk,rfl,rfl,rfl,by rw[bGd,lenV];exact hl,by simpa using rv⟩) (λb u z=>by have z':(none:Option HO)=some u:=z;cases z') (λb z=>absurd rfl z) λz=>absurd rfl z
 |none=>
  refine core (λb=>if b=a then some (.frz {cls:=.type "list",data:=.seq vs.toArray} (.lst (ns.map V.int))) else none) (λb=>?_) (.inl (.inr ⟨{cls:=.type "list",data:=.seq vs.toArray},bGa rfl⟩)) (λb u z=>?_) (λb z=>?_) λ_=>hk
  .by_cases hb:b=a
   .exact .inr ⟨_,_,bGa hb⟩
   .exact .inl (bG7 hb)
  .by_cases hb:b=a
   .have z':=(bGa hb).symm.trans z;cases z';subst hb;exact⟨ha,by rw[bG6];exact hl,vs,_,rv,ha⟩
   .have z':=(bG7 hb).symm.trans z;cases z'
  .by_cases hb:b=a
   .exact hb
   .exact absurd (bG7 hb) z
end L2
namespace L2
open PySem PySem.Spec PyProof.Rows
def walk_of{l:PySem.W.OpenLaw}{n k:Nat}{q:Program}{loose:List Str}{XP:(Str->Option Value)->Heap->Prop}{YP:World->Heap->Prop}{d:DefRec}{K:Params->PySem.W.Frag}{CX:World->CXT}{sp:World->Sp}{x:Str}
  (hn:l.most=some n) (hn2:n<=sizeLine) (hdf:d.params.defaults=[]) (hr:Room k callerA)
  (hY:∀(w:World)(h:Heap),YP w h->(K w.params).In h)
  (F:∀(w:World)(mg:Str->Option Value)(fa:Addr)(h:Heap),(K w.params).In h->h.Ns mainGlobals mg->mg d.name=some (.ref fa)->
   ∃fd:FuncData,(∀(s:Shared)(u:Value),BindsTo s fd ⟨[u],[]⟩ [(x,u)])/\
    ∀base:Heap,(K w.params).In base->base.Ns mainGlobals mg->FnOk l.prog w (K w.params) mg base (CX w) k fa fd [x] (sp w))
  (hsp:∀(w:World)(H:Hp)(a:Addr)(ns:List Int),ns.length<=n->Only H->SqL (K w.params) H a (ns.map V.int)->sp w [.ref a] H (λv _=>v=.bl true) λ_ _ _=>False)
  (hCX:∀(w:World)(H:Hp)(s:Shared)(e:Value)(s':Shared),CX w [] H s (λ_ _ _=>False) e s'->False) :
  PySem.W.WalkO q loose XP YP l.row.toRowW d [] (λf vs=>PySem.call f vs):=by
 refine Att.attach_call hn hdf λw s₀ s₁ mg mb fa o pm cd doc a vs ns G Y ho hd hcd hmg hobj hints hlen hg=>?_
 have KX:=hY w _ Y;obtain⟨fd,hb,hF⟩:=F w mg fa _ KX G.T.g hmg;exact aSb KX G.T.g G.T.b G.T.builtins G.T.nolimit hg hobj hints (bGy hlen hn2) hr hF hb (λH hO hS=>hsp w H a ns hlen hO hS) λH e s'=>hCX w H s₁ e s'
end L2
namespace L2
open PySem PySem.Spec PyProof.Rows
def fK(s:Stmt):Arguments:=match s with
 |.FunctionDef _ a _ _ _ _ _ _ _ _=>a
 |_=>{posonlyargs:=[],args:=[],vararg:=none,kwonlyargs:=[],kw_defaults:=[],kwarg:=none,defaults:=[]}
def dM(s:Stmt):List Stmt:=match s with
 |.FunctionDef _ _ b _ _ _ _ _ _ _=>b
 |_=>[]
def aM(s:Stmt):Scope:=match s with
 |.FunctionDef _ _ _ _ _ _ sc _ _ _=>sc
 |_=>{kind:=.function,names:=[],isGenerator:=false,isCoroutine:=false}
abbrev CX0:CXT:=λ_ _ _ _ _ _=>False
abbrev E0:XK:=λ_ _ _=>False
def aNp{X:Cx}:aCa CX0 X E0:=λ_ _ _ _ _ _ _ h=>h.elim
structure Fun(K:PySem.W.Frag)(x qual:Str)(st:Stmt)(f:Addr)(fd:FuncData):Prop where
 ex:∃(oc:Value)(od:Option Addr)(kV doc pm:Value)(an:Option Addr)(cdv ct:Value) (osl:Array (Option Value)),
  fd=PySem.W.fnOf x qual (fK st) (dM st) (aM st) .none kV doc pm an cdv ct/\K.lookup f=some ⟨oc,od,.func fd,osl⟩/\PySem.W.codeIn K cdv qual=true
 kp:PySem.W.keepIn K (.ref f)=true
section
variable{P:Program}{w:World}{K:PySem.W.Frag}{mg:Str->Option Value}{base:Heap}
def Fun.ok{x qual:Str}{st:Stmt}{f:Addr}{fd:FuncData}{N ps:List Str}{k:Nat}{sp:Sp}(F:Fun K x qual st f fd)(S:FnScope N ps (aM st))(len:∀vs H Q E,sp vs H Q E->vs.length=ps.length)
  (hbody:∀(cdv:Value)(A:Around)(outer:List Env)(s:Shared)(H:Hp)(vs:List V)(Q:VK)(E:XK),Room k (A.deeper (envOfC qual (aM st) s.heap.objs.size f cdv))->sp vs H Q E->
   ∃t,PSs (aHs CX0 P w K mg base N qual (aM st) f cdv A outer s H E).nox (dM st) t/\t {nx:=λ_ H'=>Q .non H',rt:=Q} (start N vs) H):FnOk P w K mg base CX0 (k+1) f fd ps sp:=by
 obtain⟨oc,od,kV,doc,pm,an,cdv,ct,osl,rfl,lk,hcd⟩:=F.ex;refine aYs lk hcd S len λA outer s H vs Q E hr hsp=>?_
 obtain⟨t,h,q⟩:=hbody cdv A outer s H vs Q E hr hsp;exact⟨t,h.nox,q⟩
def Fun.binds{x qual:Str}{st:Stmt}{f:Addr}{fd:FuncData}{ps:List Str}(F:Fun K x qual st f fd)
  (h:∀(kV doc pm:Value)(an:Option Addr)(cdv ct:Value)(us:List Value),us.length=ps.length->bindArgs (PySem.W.fnOf x qual (fK st) (dM st) (aM st) .none kV doc pm an cdv ct) ⟨us,[]⟩=pure (ps.zip us)):Binds K fd ps []:=by
 obtain⟨oc,od,kV,doc,pm,an,cdv,ct,osl,rfl,lk,hcd⟩:=F.ex;exact .all (h kV doc pm an cdv ct)
def aSc{x qual:Str}{st:Stmt}{f:Addr}{oc:Value}{od an:Option Addr}{osl:Array (Option Value)}{kV doc pm cdv ct:Value}(l:K.lookup f=some ⟨oc,od,.func (PySem.W.fnOf x qual (fK st) (dM st) (aM st) .none kV doc pm an cdv ct),osl⟩)
  (c:PySem.W.codeIn K cdv qual=true) (k:PySem.W.keepIn K (.ref f)=true):Fun K x qual st f (PySem.W.fnOf x qual (fK st) (dM st) (aM st) .none kV doc pm an cdv ct):=⟨⟨oc,od,kV,doc,pm,an,cdv,ct,osl,rfl,l,c⟩,k⟩
end
section
variable{X:Cx}
def pv(i:Nat){x:Str}{pos:Pos}(hN:X.N[i]?=some x:=by rfl)(hv:Vis X.env.scope x:=by first|exact Or.inl rfl|exact Or.inr (Or.inl rfl)|exact Or.inr (Or.inr rfl))(hd:(x==("__debug__":Str))=false:=by decide)
  (hcd:(x==("__classdict__":Str))=false:=by decide):PE X (.Name x pos) (bCe i):=aAh hN hv hd hcd
end
def bC(H H':Hp):Prop:=∀b o,H b=some o->H' b=some o
def bC.refl(H:Hp):bC H H:=λ_ _ h=>h
def bC.trans{H H1 H2:Hp}(a:bC H H1)(b:bC H1 H2):bC H H2:=λc o h=>b c o (a c o h)
def bC.free{H H':Hp}(e:bC H H'){l:Addr}(h:H' l=Option.none):H l=Option.none:=by
 cases q:H l with
 |none=>rfl
 |some o=>
  rw[e l o q]at h;cases h
def bC.seq{K:PySem.W.Frag}{H H':Hp}{a:Addr}{xs:List V}(e:bC H H')(h:SqL K H a xs):SqL K H' a xs:=by
 rcases h with (h|⟨o,h⟩)|h
 .exact .inl (.inl (e _ _ h))
 .exact .inl (.inr ⟨o,e _ _ h⟩)
 .exact .inr h
end L2
namespace L2
open PySem PySem.Spec PyProof.Rows
section
variable{κ:Type}[DecidableEq κ]
def aB4(kvs:List (κ×V))(k:κ):Option V:=(kvs.find? λkv=>decide (kv.1=k)).map (·.2)
def putK(kvs:List (κ×V))(k:κ)(v:V):List (κ×V):=
 if (kvs.any λkv=>decide (kv.1=k))=true then kvs.map (λkv=>if kv.1=k then (kv.1,v) else kv) else kvs++[(k,v)]
def aYu(kvs:List (κ×V))(k:κ):List (κ×V):=kvs.filter λkv=>decide (kv.1≠k)
def xJ{p:κ×V}{r:List (κ×V)}{k:κ}(e:p.1=k):aB4 (p::r) k=some p.2:=by simp[aB4,List.find?_cons,e]
def xK{p:κ×V}{r:List (κ×V)}{k:κ}(e:¬ p.1=k):aB4 (p::r) k=aB4 r k:=by simp[aB4,List.find?_cons,e]
theorem aJj(k:κ):∀kvs:List (κ×V),(kvs.any λkv=>decide (kv.1=k))=(aB4 kvs k).isSome
 |[]=>rfl
 |p::r=>by
  rw[bKh]
  by_cases e:p.1=k
  .simp only[xJ e,decide_eq_true e,Bool.true_or,Option.isSome_some]
  .rw[xK e,bG3 e,bLc];exact aJj k r
def aDb(kvs:List (κ×V))(k:κ)(v:V):(putK kvs k v).length<=kvs.length+1:=by
 unfold putK;split
 .rw[bG6];omega
 .rw[bGg,bGn,List.length_nil];omega
def uV.isSome_eq{o:Option V}{u:Option Value}(r:uV o u):o.isSome=u.isSome:=by
 cases o with
 |none=>cases u with
  |none=>rfl
  |some _=>exact(show False from r).elim
 |some _=>cases u with
  |none=>exact(show False from r).elim
  |some _=>rfl
theorem uV.getD{o:Option V}{u:Option Value}{d:V}{d':Value}(r:uV o u)(rd:RelV d d'):RelV (o.getD d) (u.getD d'):=by
 cases o with
 |none=>cases u with
  |none=>exact rd
  |some _=>exact(show False from r).elim
 |some _=>cases u with
  |none=>exact(show False from r).elim
  |some _=>exact r
def KV.val{kvs:List (κ×V)}{vs:List (κ×Value)}(r:KV kvs vs)(k:κ):uV (aB4 kvs k) (valueAt vs k):=by
 unfold KV at r
 induction r with
 |nil=>exact True.intro
 |@cons p q ps qs h t ih=>
  obtain⟨h1,h2⟩:=h
  by_cases e:p.1=k
  .have e':q.1=k:=h1.symm.trans e;have b:valueAt (q::qs) k=some q.2:=by simp[valueAt,List.find?_cons,e']
   rw[xJ e,b];exact h2
  .have e':¬ q.1=k:=λz=>e (h1.trans z)
   have b:valueAt (q::qs) k=valueAt qs k:=by simp[valueAt,List.find?_cons,e']
   rw[xK e,b];exact ih
theorem KV.any{kvs:List (κ×V)}{vs:List (κ×Value)}(r:KV kvs vs)(k:κ):(kvs.any λkv=>decide (kv.1=k))=vs.any λkv=>decide (kv.1=k):=by
 unfold KV at r
 induction r with
 |nil=>rfl
 |cons h t ih=>rw[bKh,bKh,ih,h.1]
def KV.repl{kvs:List (κ×V)}{vs:List (κ×Value)}(r:KV kvs vs)(k:κ){y:V}{u:Value}(ry:RelV y u) :
  KV (kvs.map λkv=>if kv.1=k then (kv.1,y) else kv) (vs.map λkv=>if kv.1=k then (kv.1,u) else kv):=by
 unfold KV at r ⊢
 induction r with
 |nil=>exact .nil
 |@cons p q ps qs h t ih=>
  rw[bGf,bGf];refine .cons ?_ ih;obtain⟨h1,h2⟩:=h
  by_cases e:p.1=k
  .rw[bGa e,bGa (h1.symm.trans e)];exact⟨h1,ry⟩
  .rw[bG7 e,bG7 (λz=>e (h1.trans z))];exact⟨h1,h2⟩
def KV.put{kvs:List (κ×V)}{vs:List (κ×Value)}(r:KV kvs vs)(k:κ){y:V}{u:Value}(ry:RelV y u):KV (putK kvs k y) (stored vs k u):=by
 unfold putK stored;rw[r.any k]
 by_cases e:(vs.any λkv=>decide (kv.1=k))=true
 .rw[bGa e,bGa e];exact r.repl k ry
 .rw[bG7 e,bG7 e];exact Paired.snoc r ⟨rfl,ry⟩
def KV.drop{kvs:List (κ×V)}{vs:List (κ×Value)}(r:KV kvs vs)(k:κ):KV (aYu kvs k) (without vs k):=by
 unfold KV at r ⊢;unfold aYu without
 induction r with
 |nil=>exact .nil
 |@cons p q ps qs h t ih=>
  obtain⟨h1,h2⟩:=h;rw[List.filter_cons,List.filter_cons]
  by_cases e:p.1=k
  .have a:¬ decide (p.1≠k)=true:=by simp[e]
   have b:¬ decide (q.1≠k)=true:=by simp[h1.symm.trans e]
   rw[bG7 a,bG7 b];exact ih
  .have e':¬ q.1=k:=λz=>e (h1.trans z)
   have a:decide (p.1≠k)=true:=by simp[e]
   have b:decide (q.1≠k)=true:=by simp[e']
   rw[bGa a,bGa b];exact .cons ⟨h1,h2⟩ ih
theorem KV.length{kvs:List (κ×V)}{vs:List (κ×Value)}(r:KV kvs vs):kvs.length=vs.length:=Paired.length r
end
def aJk{P:Program}{w:World}{k:Key}{u:Value}(r:RelV (kV k) u):(iW P w).is k u=true:=by
 cases k with
 |inl i=>obtain⟨t,e⟩:=(show ∃t,u=Value.int i t from r);subst e;exact aJd P w i t
 |inr x=>obtain⟨t,e⟩:=(show ∃t,u=Value.str x t from r);subst e;exact aJe P w x t
theorem aGm{P:Program}{w:World}:∀{ks:List Key}{us:List Value},Vals (ks.map kV) us->ItemsAre (iW P w) ks us
 |[],_,r=>by rw[List.map_nil]at r;cases r;exact .nil
 |k::ks,_,r=>by
  rw[bGf]at r;cases r with
  |cons h t=>exact .cons (aJk h) (aGm t)
abbrev KT(H:Hp):List (List Key×V)->List (List Key×Addr×Value)->Prop:=Paired λp q=>p.1=q.1/\H q.2.1=some (.tup (p.1.map kV))/\RelV p.2 q.2.2
def KT.val{H:Hp}{kvs:List (List Key×V)}{xs:List (List Key×Addr×Value)}(r:KT H kvs xs)(k:List Key):uV (aB4 kvs k) ((atKey xs k).map (·.2)):=by
 induction r with
 |nil=>exact True.intro
 |@cons p q ps qs h t ih=>
  obtain⟨h1,_,h2⟩:=h
  by_cases e:p.1=k
  .have e':q.1=k:=h1.symm.trans e;have b:atKey (q::qs) k=some q.2:=by simp[atKey,List.find?_cons,e']
   rw[xJ e,b];exact h2
  .have e':¬ q.1=k:=λz=>e (h1.trans z)
   have b:atKey (q::qs) k=atKey qs k:=by simp[atKey,List.find?_cons,e']
   rw[xK e,b];exact ih
def KT.repl{H:Hp}{kvs:List (List Key×V)}{xs:List (List Key×Addr×Value)}(r:KT H kvs xs)(k:List Key){y:V}{u:Value}(ry:RelV y u) :
  KT H (kvs.map λkv=>if kv.1=k then (kv.1,y) else kv) (xs.map (putAt k u)):=by
 induction r with
 |nil=>exact .nil
 |@cons p q ps qs h t ih=>
  rw[bGf,bGf];refine .cons ?_ ih;obtain⟨h1,h2,h3⟩:=h;unfold putAt
  by_cases e:p.1=k
  .rw[bGa e,bGa (h1.symm.trans e)];exact⟨h1,h2,ry⟩
  .rw[bG7 e,bG7 (λz=>e (h1.trans z))];exact⟨h1,h2,h3⟩
def KT.put{H:Hp}{kvs:List (List Key×V)}{xs:List (List Key×Addr×Value)}(r:KT H kvs xs)(k:List Key){b:Addr}{y:V}{u:Value}(hb:H b=some (.tup (k.map kV)))(ry:RelV y u) :
  KT H (putK kvs k y) (storedH xs k b u):=by
 have e:(kvs.any λkv=>decide (kv.1=k))=(atKey xs k).isSome:=by
  rw[aJj,(r.val k).isSome_eq,bL3]
 unfold putK storedH;rw[e]
 by_cases q:(atKey xs k).isSome=true
 .rw[bGa q,bGa q];exact r.repl k ry
 .rw[bG7 q,bG7 q];exact Paired.snoc r ⟨rfl,hb,ry⟩
def KT.keeps{H H':Hp}{kvs:List (List Key×V)}{xs:List (List Key×Addr×Value)}(r:KT H kvs xs)(ht:∀b ys,H b=some (.tup ys)->H' b=some (.tup ys)):KT H' kvs xs:=
 Paired.mapP r λ_ _ z=>⟨z.1,ht _ _ z.2.1,z.2.2⟩
section
variable{P:Program}{w:World}{H:Hp}{h:Heap}{a:Addr}
def aYv{u:HO}(ok:HOk P w H h)(e:Rd H a u):iG P w H h a u:=e.ok ok
def aGn{kvs:List (Key×V)}(ok:HOk P w H h)(e:Rd H a (.dK kvs)):kvs.length<=sizeLine/\(a==sysModules)=false/\∃vs,KV kvs vs/\h.DictOf (iW P w) a vs:=
 show iG P w H h a (.dK kvs) from aYv ok e
def bD5{kvs:List (Key×V)}(ok:HOk P w H h)(e:H a=some (.dK kvs)):kvs.length<=sizeLine/\(a==sysModules)=false/\∃vs,KV kvs vs/\h.DictOf (iW P w) a vs:=aGn ok (.inl e)
def aCb{ks:List Key}(ok:HOk P w H h)(e:H a=some (.tup (ks.map kV))):(tupleKind (iW P w)).is h ks a:=by
 obtain⟨_,its,r,o,h1,h2,n,h3⟩:=(show iG P w H h a (.tup (ks.map kV)) from ok a _ e)
 exact⟨o,its.toArray,n,h1,h2,h3,by simpa using aGm r⟩
def aJl{kvs:List (List Key×V)}(ok:HOk P w H h)(e:Rd H a (.dT kvs)):kvs.length<=sizeLine/\(a==sysModules)=false/\
  ∃xs,KT H kvs xs/\h.DictOfH (tupleKind (iW P w)) a xs:=by
 obtain⟨z,y,xs,r,o,es,ep,h1,h2,h3,h4,h5⟩:=(show iG P w H h a (.dT kvs) from aYv ok e)
 refine⟨z,y,xs,r,o,es,ep,h1,h2,h3,h4,λx hx=>?_,h5⟩
 have all:∀{l:List (List Key×V)} {m:List (List Key×Addr×Value)},KT H l m->∀x∈m,(tupleKind (iW P w)).is h x.1 x.2.1:=by
  intro l m q
  induction q with
  |nil=>intro x hx;exact nomatch hx
  |@cons p q ps qs hq t ih=>
   intro x hx;rcases bG0.mp hx with e|hx
   .subst e;exact aCb ok (by rw[<-hq.1];exact hq.2.1)
   .exact ih x hx
 exact all r x hx
def aYw{kvs:List (List Key×V)}(ok:HOk P w H h)(e:H a=some (.dT kvs)):kvs.length<=sizeLine/\(a==sysModules)=false/\
  ∃xs,KT H kvs xs/\h.DictOfH (tupleKind (iW P w)) a xs:=aJl ok (.inl e)
end
def aCc(H:Hp)(a:Addr)(y:V)(r:Option V):Prop:=
 (∃kvs k,Rd H a (.dK kvs)/\y=kV k/\r=aB4 kvs k)\/∃kvs k b,Rd H a (.dT kvs)/\y=.ref b/\H b=some (.tup (k.map kV))/\r=aB4 kvs k
def aHy(H:Hp)(a:Addr)(y v:V)(H':Hp):Prop:=
 (∃kvs k,H a=some (.dK kvs)/\y=kV k/\kvs.length<sizeLine/\H'=upd H a (.dK (putK kvs k v)))\/
 ∃kvs k b,H a=some (.dT kvs)/\y=.ref b/\H b=some (.tup (k.map kV))/\kvs.length<sizeLine/\H'=upd H a (.dT (putK kvs k v))
theorem aCc.k{H:Hp}{a:Addr}{kvs:List (Key×V)}{k:Key}(e:H a=some (.dK kvs)):aCc H a (kV k) (aB4 kvs k):=.inl ⟨kvs,k,.inl e,rfl,rfl⟩
def aCc.t{H:Hp}{a b:Addr}{kvs:List (List Key×V)}{k:List Key}(e:H a=some (.dT kvs))(eb:H b=some (.tup (k.map kV))):aCc H a (.ref b) (aB4 kvs k):=.inr ⟨kvs,k,b,.inl e,rfl,eb,rfl⟩
theorem aHy.k{H:Hp}{a:Addr}{kvs:List (Key×V)}{k:Key}{v:V}(e:H a=some (.dK kvs))(hl:kvs.length<sizeLine):aHy H a (kV k) v (upd H a (.dK (putK kvs k v))):=.inl ⟨kvs,k,e,rfl,hl,rfl⟩
def aHy.t{H:Hp}{a b:Addr}{kvs:List (List Key×V)}{k:List Key}{v:V}(e:H a=some (.dT kvs))(eb:H b=some (.tup (k.map kV)))(hl:kvs.length<sizeLine) :
  aHy H a (.ref b) v (upd H a (.dT (putK kvs k v))):=.inr ⟨kvs,k,b,e,rfl,eb,hl,rfl⟩
section
variable{X:Cx}{pins:List (Addr×Obj)}{σ:St}{H:Hp}{s:Shared}{a:Addr}{y v:V}{u r:Value}{o:Option V}{A:Around}{E:Value->Shared->Prop}
def Inv.big(I:Inv X pins σ H s):sysModules<s.heap.objs.size:=by
 have h:mainGlobals<s.heap.objs.size:=(I.mod.glob.keeps I.bk).lt;exact bJm (by decide) h
def aQa{Q:Value->Shared->Prop}(hu:A.units+1<cLine)(I:Inv X pins σ H s)(g:aCc H a y (some v))(ry:RelV y u)(h:∀w' s',Inv X pins σ H s'->RelV v w'->Q w' s') :
  wpAny (model X.prog X.w) A (getItem (.ref a) u) Q E s:=by
 rcases g with ⟨kvs,k,e,ey,l⟩|⟨kvs,k,b,e,ey,eb,l⟩
 .subst ey;obtain⟨z,hd,vs,rel,dd⟩:=aGn I.hok e;obtain⟨w',hw,rw'⟩:=uV.some_of (v:=v) (o:=valueAt vs k) (by rw[l];exact rel.val k)
  exact wpAny_getItem_of (aJk ry) dd.mapOf hw (h w' _ (I.tok _) rw')
 .subst ey;cases (show u=Value.ref b from ry)
  obtain⟨z,hd,xs,rel,dd⟩:=aJl I.hok e;obtain⟨w',hw,rw'⟩:=uV.some_of (v:=v) (o:=(atKey xs k).map (·.2)) (by rw[l];exact rel.val k)
  obtain⟨p,hp,hp2⟩:=Option.map_eq_some_iff.mp hw;refine wpAny_getItem_heap (bJp hu) (aCb I.hok eb) dd hp ?_
  rw[hp2];exact h w' _ (I.tok _) rw'
def bFe{Q:Value->Shared->Prop}(hu:A.units+1<cLine)(I:Inv X pins σ H s)(g:aCc H a y o)(ry:RelV y u)(h:∀s',Inv X pins σ H s'->Q (.bool o.isSome) s') :
  wpAny (model X.prog X.w) A (compareOp .In u (.ref a)) Q E s:=by
 rcases g with ⟨kvs,k,e,ey,l⟩|⟨kvs,k,b,e,ey,eb,l⟩
 .subst ey;obtain⟨z,hd,vs,rel,dd⟩:=aGn I.hok e;refine wpAny_in_of (aJk ry) hd dd.mapOf ?_
  rw[<-(rel.val k).isSome_eq,<-l];exact h _ (I.tok _)
 .subst ey;cases (show u=Value.ref b from ry)
  obtain⟨z,hd,xs,rel,dd⟩:=aJl I.hok e;refine wpAny_in_heap (bJp hu) (aCb I.hok eb) hd dd ?_
  have q:=(rel.val k).isSome_eq;rw[bL3]at q;rw[<-q,<-l];exact h _ (I.tok _)
def aWd{Q:Value->Shared->Prop}(hu:A.units+1<cLine)(I:Inv X pins σ H s)(g:aCc H a y o)(ry:RelV y u)(h:∀s',Inv X pins σ H s'->Q (.bool (!o.isSome)) s') :
  wpAny (model X.prog X.w) A (compareOp .NotIn u (.ref a)) Q E s:=by
 rcases g with ⟨kvs,k,e,ey,l⟩|⟨kvs,k,b,e,ey,eb,l⟩
 .subst ey;obtain⟨z,hd,vs,rel,dd⟩:=aGn I.hok e;refine wpAny_notIn_of (aJk ry) hd dd.mapOf ?_
  rw[<-(rel.val k).isSome_eq,<-l];exact h _ (I.tok _)
 .subst ey;cases (show u=Value.ref b from ry)
  obtain⟨z,hd,xs,rel,dd⟩:=aJl I.hok e;refine wpAny_notIn_heap (bJp hu) (aCb I.hok eb) hd dd ?_
  have q:=(rel.val k).isSome_eq;rw[bL3]at q;rw[<-q,<-l];exact h _ (I.tok _)
def aHz{h':Heap}{t':Nat}{ob:HO}(I:Inv X pins σ H s)(mu:Mut (H a))(hs:Heap.SameBut a s.heap h')(he:∃q,h'.get? a=some q)(new:iG X.prog X.w (upd H a ob) h' a ob) :
  Inv X pins σ (upd H a ob) {s with heap:=h',toks:=t'}:=
 I.write (x:=a) (e:=a) mu (.inl rfl) (λb q hb z=>(hs.2 b hb).trans z) he new
def bAg{P:Program}{w:World}{H':Hp}{h':Heap}{kvs:List (Key×V)}{vs:List (Key×Value)}(z:kvs.length<=sizeLine)(hd:(a==sysModules)=false)(rel:KV kvs vs)(dd:h'.DictOf (iW P w) a vs) :
  iG P w H' h' a (.dK kvs):=⟨z,hd,vs,rel,dd⟩
def aQb{H':Hp}{Q:Unit->Shared->Prop}(hu:A.units+1<cLine)(I:Inv X pins σ H s)(g:aHy H a y v H')(ry:RelV y u)(rv:RelV v r)(h:∀s',Inv X pins σ H' s'->Q () s') :
  wpAny (model X.prog X.w) A (setItem (.ref a) u r) Q E s:=by
 rcases g with ⟨kvs,k,e,ey,l,eH⟩|⟨kvs,k,b,e,ey,eb,l,eH⟩
 .subst ey eH;obtain⟨z,hd,vs,rel,dd⟩:=bD5 I.hok e;have hz:vs.length<=sizeLine:=by rw[<-rel.length];exact z
  have hl:(putK kvs k v).length<=sizeLine:=by have:=aDb kvs k v;omega
  refine wpAny_setItem_pairs (hsz:=hz) (aJk ry) dd λh' dd' hs=>h _ ?_
  have he:∃q,h'.get? a=some q:=let ⟨q,_,_,hq,_⟩:=dd';⟨q,hq⟩;exact aHz I (by rw[e];exact True.intro) hs he (bAg hl hd (rel.put k rv) dd')
 .subst ey eH;cases (show u=Value.ref b from ry)
  obtain⟨z,hd,xs,rel,dd⟩:=aYw I.hok e;have hz:xs.length<=sizeLine:=by rw[<-Paired.length rel];exact z
  have hl:(putK kvs k v).length<=sizeLine:=by have:=aDb kvs k v;omega
  refine wpAny_setItem_heap (hsz:=hz) (bJp hu) (aCb I.hok eb) dd λh' dd' hs=>h _ ?_
  obtain⟨q,es,ep,hq,h2,h3,h4,_,h5⟩:=dd';refine aHz I (by rw[e];exact True.intro) hs ⟨q,hq⟩ ⟨hl,hd,_,(rel.put k eb rv).keeps λc ys ec=>?_,q,es,ep,hq,h2,h3,h4,h5⟩
  rw[bB (aYq ec e (λz=>nomatch z))]
  exact ec
end
section
variable{X:Cx}{pins:List (Addr×Obj)}{σ:St}{H:Hp}{s:Shared}{a:Addr}{kvs:List (Key×V)}{k:Key}{u:Value}{A:Around}{E:Value->Shared->Prop}
def bD6{Q:Value->Shared->Prop}(I:Inv X pins σ H s)(e:Rd H a (.dK kvs))(h:∀t s',Inv X pins σ H s'->Q (.int kvs.length t) s'):wpAny (model X.prog X.w) A (call (.builtin "len") [.ref a]) Q E s:=by
 obtain⟨z,hd,vs,rel,dd⟩:=aGn I.hok e;refine call_len_dict hd dd (by rw[<-rel.length];rw[bIi]at z;omega) ?_
 rw[<-rel.length];exact h _ _ (I.tok _)
end
def aJm{X:Cx}{pins:List (Addr×Obj)}{σ:St}{H:Hp}{s:Shared}{a:Addr}{y:V}{o:Option V}(I:Inv X pins σ H s)(g:aCc H a y o):s.TypeIs (.ref a) "dict":=by
 rcases g with ⟨kvs,k,e,_,_⟩|⟨kvs,k,b,e,_,_,_⟩
 .obtain⟨_,_,vs,_,dd⟩:=aGn I.hok e;exact dd.typeIs
 .obtain⟨_,_,xs,_,dd⟩:=aJl I.hok e;exact dd.typeIs
def sDPut(td ty tv:TE):TS:=λD σ H=>tv σ H λv H1=>td σ H1 λx H2=>ty σ H2 λy H3=>∃a H4,x=.ref a/\aHy H3 a y v H4/\D.nx σ H4
def aSd{P:Program}{w:World}{H:Hp}(h:Heap)(hb:sysModules<h.objs.size):iG P w H (h.push {cls:=.type "dict",data:=.dict #[]}) h.objs.size (.dK []):=
 ⟨bHp _,bGs.mpr (bHx (bGb hb)),[],.nil,Heap.DictOf.new h⟩
def aJn{P:Program}{w:World}{H:Hp}(h:Heap)(hb:sysModules<h.objs.size):iG P w H (h.push {cls:=.type "dict",data:=.dict #[]}) h.objs.size (.dT []):=
 ⟨bHp _,bGs.mpr (bHx (bGb hb)),[],.nil,_, #[],0,bG1 _ rfl,⟨rfl,rfl,rfl⟩,rfl,rfl,bMd⟩
def bAh:TE:=λ_ H Q=>∀p,H p=none->Q (.ref p) (upd H p (.dK []))
def bAi:TE:=λ_ H Q=>∀p,H p=none->Q (.ref p) (upd H p (.dT []))
section
variable{X:Cx}{pos:Pos}
def aSe:PE X (.Dict [] [] pos) bAh:=λpins s σ H Q I h=>
 wpAny_Dict_empty ⟨.ref s.heap.objs.size,_,I.laid (a:=s.heap.objs.size) (o:=.dK []) (t':=s.toks) (λ_ _ q=>bFt _ q) (bG4 _) (aSd s.heap I.big),rfl,h _ (I.hok.fresh (bG4 _))⟩
def aSf:PE X (.Dict [] [] pos) bAi:=λpins s σ H Q I h=>
 wpAny_Dict_empty ⟨.ref s.heap.objs.size,_,I.laid (a:=s.heap.objs.size) (o:=.dT []) (t':=s.toks) (λ_ _ q=>bFt _ q) (bG4 _) (aJn s.heap I.big),rfl,h _ (I.hok.fresh (bG4 _))⟩
end
def aSg:List (TE×TE)->St->Hp->(List (V×V)->Hp->Prop)->Prop
 |[],_,H,Q=>Q [] H
 |(tk,tv)::r,σ,H,Q=>tk σ H λx H1=>tv σ H1 λy H2=>aSg r σ H2 λps H3=>Q ((x,y)::ps) H3
abbrev VV:List (V×V)->List (Value×Value)->Prop:=Paired λp q=>RelV p.1 q.1/\RelV p.2 q.2
def PPs(X:Cx)(pos:Pos)(keys:List (Option Expr))(values:List Expr)(trs:List (TE×TE)):Prop:=
 ∀(pins:List (Addr×Obj)) (s:Shared) (σ:St) (H:Hp) (Q:List (V×V)->Hp->Prop),Inv X pins σ H s->aSg trs σ H Q->
  wpAny (model X.prog X.w) X.A (evalPairs (pairTrees keys values X.env pos)) (λvs s'=>∃ps H',Inv X pins σ H' s'/\VV ps vs/\Q ps H') X.xe s
def aWe{X:Cx}{pos:Pos}:PPs X pos [] [] []:=λpins s σ H Q I h=>pairTrees_nil_walk ⟨[],H,I,.nil,h⟩
def aSh{X:Cx}{pos:Pos}{k v:Expr}{ks:List (Option Expr)}{vs:List Expr}{tk tv:TE}{trs:List (TE×TE)}(hk:PE X k tk)(hv:PE X v tv)(hr:PPs X pos ks vs trs) :
  PPs X pos (some k::ks) (v::vs) ((tk,tv)::trs):=λpins s σ H Q I h=>
 pairTrees_cons_walk (thn (hk pins s σ H _ I h) λu s1 ⟨x,H1,I1,rx,q1⟩=>thn (hv pins s1 σ H1 _ I1 q1) λw2 s2 ⟨y,H2,I2,ry,q2⟩=>
  thn (hr pins s2 σ H2 _ I2 q2) λws s3 ⟨ps,H3,I3,rel,q3⟩=>⟨(x,y)::ps,H3,I3,.cons ⟨rx,ry⟩ rel,q3⟩)
structure M1(X:Cx)(o:Expr)(m:Str)(apos:Pos)(e:Expr)(cpos:Pos):Prop where
 base:attributeBase o m X.env (eval o X.env)=eval o X.env
 few:((backTo cpos (starEach [e] X.env)).all (λx=>!x.1)&&(backToKw cpos (keywordEach [] X.env)).all (λx=>x.1.isSome)
  && decide (([e]:List Expr).length+([]:List Keyword).length+(if ([]:List Keyword).isEmpty then 0 else 1)<30))=true
 line:(apos.endLine==cpos.line)=true
 trees:backTo cpos (starEach [e] X.env)=[(false,eval e X.env)]
end L2
set_option maxHeartbeats 1000000
open PySem.W (Frag findIn mroIn nsIn notCls keepIn kia_one fnOf codeIn mg_of isFn KdlSrc OpenLaw makesIn mg_none_of WalkO InK)
open List (foldl_cons mem_cons_self mem_cons_of_mem map_cons getD_eq_getElem?_getD drop_zero cons_append length_append length_singleton zip_cons_cons find?_cons nodup_cons length_range getElem?_cons_succ append_nil nil_append length_map length_cons Nodup pairwise_map length_zip map_nil drop_eq_getElem_cons lookup_cons mem_cons any_cons length_set forIn_nil forIn_cons length_nil getElem?_toArray not_mem_nil)
open Nat (zero_le testBit_or lt_succ_self mod_lt le_succ not_lt_zero lt_of_succ_lt_succ)
open Array (ext' append_empty getElem?_toList toList_push getD_eq_getD_getElem?)
open Int (toNat_natCast natCast_add emod_nonneg)
open Option (getD_some map_some)
open Bool (or_eq_true and_eq_true decide_and false_eq_true)
variable{α:Type}{c newId nF:String}{n np i j m ch x1 t' ep:Nat}{b q:Bool}{l a C fa I V_JUST_ONE A_Sides A_Machine:PySem.Addr}{tg o e elt value:PySem.Expr}{x qual name:PySem.Str}{y dV oc f1:PySem.Value}{E Q Qf:PySem.Value->PySem.Shared->Prop}{ys items:Array PySem.Value}{S T U:List (List Nat)}{rk u ks rk' la lb z:List Nat}{v:L2.V}{al:Nat->Bool}{s:PySem.Shared}{vs zs:List L2.V}{B A fp Z:List PySem.Addr}{acc sq:List (Nat×Nat)}{ns:List Int}{ws:List Bool}{H H' H1:L2.Hp}{X Y:L2.Cx}{es elts:List PySem.Expr}{pos p0 pos' p2 p1 apos cpos dp tp:PySem.Pos}{op:PySem.CmpOp}{gv:Int->Int->L2.V}{fd:PySem.FuncData}{ps N loose:List PySem.Str}{sm:PySem.Stmt}{h h' base:PySem.Heap}{M:PySem.Model}{env:PySem.Env}{body:List PySem.Stmt}{P prog:PySem.Program}{mg:PySem.Str->Option PySem.Value}{scope:PySem.Scope}{pins:List (PySem.Addr×PySem.Obj)}{te:L2.TE}{tt:L2.TT}{osl:Array (Option PySem.Value)}{kvs:List (List L2.Key×L2.V)}{oa:PySem.Obj}{t_LETTERS t_MOST_ROOMS t_MOST_LETTERS:PySem.Tok}{XP:(PySem.Str->Option PySem.Value)->PySem.Heap->Prop}
namespace Pu
inductive D where
 |non|bl (b:Bool)|int (i:Int)|str (s:List Nat)|tup (xs:List D)|lst (xs:List D)
 |dct (t:Bool) (ks vs:List D)
 |ins (c:String) (ns:List String) (xs:List D)
 |exn (c:String) (ns:List String) (xs:List D)
 |fn (f:String)
inductive R (α:Type) where
 |ok (a:α)|exc (x:D)|bad
@[inline] def R.bind{α β:Type}(r:R α)(f:α->R β):R β:=match r with
 |.ok a=>f a
 |.exc x=>.exc x
 |.bad=>.bad
def R.ok_of{β:Type}{r:R α}{f:α->R β}{b:β}(h:r.bind f=.ok b):∃a,r=.ok a/\f a=.ok b:=by
 cases r with
 |ok a=>exact⟨a,rfl,h⟩
 |exc x=>exact nomatch h
 |bad=>exact nomatch h
noncomputable section
open Classical in
def aV{α:Type}(c:Prop)(r:R α):R α:=if c then r else .bad
def aF{c:Prop}{r:R α}(h:c):aV c r=r:=bGa h
def aN{c:Prop}{r:R α}{a:α}(h:aV c r=.ok a):c/\r=.ok a:=by
 unfold aV at h;split at h
 .exact⟨by assumption,h⟩
 .exact nomatch h
inductive OK where
 |l|d (t:Bool) (ks:List D)|i (n:Nat) (c:String) (ns:List String)
def ofK:OK->List D->D
 |.l,xs=>.lst xs
 |.d t ks,xs=>.dct t ks xs
 |.i _ c ns,xs=>.ins c ns xs
inductive Sl where
 |v (d:D)|o (k:OK) (xs:List D)
abbrev PSt:=List (Option Sl)
abbrev Ex:=PSt->R D
inductive Fl where
 |nx (st:PSt)|rt (d:D)|bk (st:PSt)|ct (st:PSt)
abbrev Bd:=PSt->R Fl
@[irreducible] def big:Nat:=10000000
def qC:big=10000000:=by unfold big;rfl
def fC(h:n<=10000000):n<=big:=by rw[qC];exact h
def aI0(h:n<10000000):n<big:=by rw[qC];exact h
def aE0{n:Int}(h:n<=10000000):n<=(big:Int):=by rw[qC];exact h
def aI1{n:Int}(h : -10000000<=n) : -(big:Int)<=n:=by rw[qC];exact h
def sIx(n d:Nat):Option Int->Nat
 |none=>d
 |some v=>if v<0 then (v+(n:Int)).toNat else min v.toNat n
def ixN(n:Nat)(i:Int):Option Nat:=if 0<=i then (if i<n then some i.toNat else none) else if -(n:Int)<=i then some (i+n).toNat else none
def atI{α:Type}(xs:List α)(i:Int):Option α:=(ixN xs.length i).bind λj=>xs[j]?
def cut{α:Type}(xs:List α)(lo hi:Option Int):List α:=(xs.drop (sIx xs.length 0 lo)).take (sIx xs.length xs.length hi-sIx xs.length 0 lo)
def ofO{α:Type}:Option α->R α
 |some a=>.ok a
 |none=>.bad
abbrev Op2:=D->D->R D
def cY:Op2
 |.int i,.int j=>.ok (.int (i+j))
 |.str x,.str y=>aV (x.length+y.length<=big) (.ok (.str (x++y)))
 |.lst x,.lst y=>aV (x.length+y.length<=big) (.ok (.lst (x++y)))
 |_,_=>.bad
def aM5:Op2
 |.int i,.int j=>.ok (.int (i-j))
 |_,_=>.bad
def aNq:Op2
 |.int i,.int j=>aV (0<j/\j<1073741824) (.ok (.int (i/j)))
 |_,_=>.bad
def rG:Op2
 |.int i,.int j=>aV (0<j) (.ok (.int (i%j)))
 |_,_=>.bad
def bAj:Op2
 |.int i,.int j=>aV (0<=j/\j<=1000000/\i.natAbs<18446744073709551616) (.ok (.int (i^j.toNat)))
 |_,_=>.bad
def bAk:D->R D
 |.int i=>.ok (.int (-i))
 |_=>.bad
def bAl:D->Bool
 |.int _=>true
 |.str _=>true
 |_=>false
def keyOk(t:Bool)(d:D):Bool:=match d with
 |.int _=>!t
 |.str _=>!t
 |.tup xs=>t&&xs.all bAl
 |_=>false
mutual
def eqK:D->D->Bool
 |.int i,.int j=>i==j
 |.str x,.str y=>x==y
 |.tup x,.tup y=>aG0 x y
 |_,_=>false
def aG0:List D->List D->Bool
 |[],[]=>true
 |a::x,b::y=>eqK a b&&aG0 x y
 |_,_=>false
end
def pI(ks vs:List D)(k:D):Option D:=((ks.zip vs).find? λp=>eqK p.1 k).map (·.2)
def pJ(ks:List D)(k:D):Bool:=ks.any λx=>eqK x k
def rJ(ks:List D)(k:D):List D:=if pJ ks k=true then ks else ks++[k]
def wF(ks vs:List D)(k v:D):List D:=if pJ ks k=true then (ks.zip vs).map (λp=>if eqK p.1 k=true then v else p.2) else vs++[v]
def dIx:Op2
 |.dct t ks vs,k=>aV (keyOk t k=true) (ofO (pI ks vs k))
 |.lst x,.int i=>ofO (atI x i)
 |.tup x,.int i=>ofO (atI x i)
 |.str x,.int i=>aV (x.length<=big) (ofO ((atI x i).map λc=>.str [c]))
 |_,_=>.bad
mutual
def eqD:D->D->Bool
 |.non,.non=>true
 |.bl a,.bl b=>a==b
 |.bl a,.int j=>(if a then (1:Int) else 0)==j
 |.int i,.bl b=>i==(if b then (1:Int) else 0)
 |.int i,.int j=>i==j
 |.str x,.str y=>x==y
 |.tup x,.tup y=>lJ x y
 |.lst x,.lst y=>lJ x y
 |_,_=>false
def lJ:List D->List D->Bool
 |[],[]=>true
 |a::x,b::y=>eqD a b&&lJ x y
 |_,_=>false
end
mutual
def dep:D->Nat
 |.tup x=>fZ x+1
 |.lst x=>fZ x+1
 |.non=>0
 |.bl _=>0
 |.int _=>0
 |.str _=>0
 |.dct _ _ _=>0
 |.ins _ _ _=>0
 |.exn _ _ _=>0
 |.fn _=>0
def fZ:List D->Nat
 |[]=>0
 |a::x=>max (dep a) (fZ x)
end
mutual
def plain:D->Bool
 |.tup x=>cZ x
 |.lst x=>cZ x
 |.non=>true
 |.bl _=>true
 |.int _=>true
 |.str _=>true
 |.dct _ _ _=>false
 |.ins _ _ _=>false
 |.exn _ _ _=>false
 |.fn _=>false
def cZ:List D->Bool
 |[]=>true
 |a::x=>plain a&&cZ x
end
def dEq:Op2:=λa b=>aV (dep a<=64/\plain a=true/\plain b=true) (.ok (.bl (eqD a b)))
def dNe:Op2:=λa b=>aV (dep a<=64/\plain a=true/\plain b=true) (.ok (.bl (!eqD a b)))
def aDu:List D->List D->R Bool
 |[],[]=>.ok false
 |[],_::_=>.ok true
 |_::_,[]=>.ok false
 |a::x,b::y=>if eqD a b=true then aDu x y else match a,b with
  |.int i,.int j=>.ok (decide (i<j))
  |.str s,.str t=>.ok (decide (s<t))
  |_,_=>.bad
def dLe:Op2
 |.int i,.int j=>.ok (.bl (decide (i<=j)))
 |_,_=>.bad
def dGt:Op2
 |.int i,.int j=>.ok (.bl (decide (j<i)))
 |_,_=>.bad
def dGe:Op2
 |.int i,.int j=>.ok (.bl (decide (j<=i)))
 |_,_=>.bad
def gD:D->R D
 |.dct false ks _=>.ok (.int ks.length)
 |.lst x=>.ok (.int x.length)
 |.tup x=>.ok (.int x.length)
 |.str x=>aV (x.length<=big) (.ok (.int x.length))
 |_=>.bad
def aG1:D->Bool
 |.ins _ _ _=>false
 |.exn _ _ _=>false
 |.fn _=>false
 |_=>true
def isN:D->Bool
 |.non=>true
 |_=>false
def bD7:D->Bool
 |.str _=>true
 |_=>false
def aQc:D->Bool
 |.bl _=>true
 |_=>false
def isIn:D->Bool
 |.bl _=>true
 |.int _=>true
 |_=>false
def bD8:D->Bool
 |.tup _=>true
 |_=>false
def bD9:D->Bool
 |.dct _ _ _=>true
 |_=>false
def aQd:D->Bool
 |.lst _=>true
 |_=>false
def rK(x y:List Nat)(lo:Nat):Option Nat:=(List.range' lo (x.length+1-lo)).find? λi=>decide (i+y.length<=x.length)&&((x.drop i).take y.length==y)
abbrev Mop:=D->List D->R D
def aAi:Mop
 |.str x,[.str y]=>(ofO (rK x y 0)).bind λi=>.ok (.int i)
 |_,_=>.bad
def aDc:D->D->R D
 |.int i,.int j=>.ok (.int (if j>i then j else i))
 |_,_=>.bad
def aJo:D->D->R D
 |.int i,.int j=>.ok (.int (if j<i then j else i))
 |_,_=>.bad
def inD(x:D)(ys:List D):Bool:=ys.any λy=>eqD y x
def dIn:D->D->R D
 |k,.dct t ks _=>aV (keyOk t k=true) (.ok (.bl (pJ ks k)))
 |x,.lst ys=>aV (fZ ys<=60/\plain x=true/\cZ ys=true) (.ok (.bl (inD x ys)))
 |x,.tup ys=>aV (fZ ys<=60/\plain x=true/\cZ ys=true) (.ok (.bl (inD x ys)))
 |.str x,.str y=>.ok (.bl (rK y x 0).isSome)
 |_,_=>.bad
def sZ:D->D->R D
 |k,.dct t ks _=>aV (keyOk t k=true) (.ok (.bl (!pJ ks k)))
 |x,.lst ys=>aV (fZ ys<=60/\plain x=true/\cZ ys=true) (.ok (.bl (!inD x ys)))
 |x,.tup ys=>aV (fZ ys<=60/\plain x=true/\cZ ys=true) (.ok (.bl (!inD x ys)))
 |.str x,.str y=>.ok (.bl (!(rK y x 0).isSome))
 |_,_=>.bad
def dIs:D->D->R D
 |x,.non=>.ok (.bl (isN x))
 |.bl a,.bl b=>.ok (.bl (a==b))
 |_,_=>.bad
def aA(i:Nat):Ex:=λst=>match st[i]? with
 |some (some (.v d))=>.ok d
 |_=>.bad
def eF(i:Nat):Ex:=λst=>match st[i]? with
 |some (some (.v d))=>.ok d
 |some (some (.o k xs))=>.ok (ofK k xs)
 |_=>.bad
def eC(d:D):Ex:=λ_=>.ok d
def e2(op:Op2)(f g:Ex):Ex:=λst=>(f st).bind λx=>(g st).bind λy=>op x y
def e1(op:D->R D)(f:Ex):Ex:=λst=>(f st).bind op
def eB(p:D->Bool)(f:Ex):Ex:=λst=>(f st).bind λx=>aV (aG1 x=true) (.ok (.bl (p x)))
def onB{α:Type}(d:D)(f:Bool->R α):R α:=match d with
 |.bl b=>f b
 |_=>.bad
def uX{d:D}{f:Bool->R α}{a:α}(h:onB d f=.ok a):∃b,d=.bl b/\f b=.ok a:=by
 cases d<;>first|exact⟨_,rfl,h⟩|exact nomatch h
def pK(f g:Ex):Ex:=λst=>(f st).bind λx=>onB x λb=>if b=true then g st else .ok (.bl false)
def eOr(f g:Ex):Ex:=λst=>(f st).bind λx=>onB x λb=>if b=true then .ok (.bl true) else g st
def tD(f:Ex):Ex:=λst=>(f st).bind λx=>onB x λb=>.ok (.bl (!b))
abbrev Exs:=PSt->R (List D)
def aU:Exs:=λ_=>.ok []
def aC(f:Ex)(r:Exs):Exs:=λst=>(f st).bind λx=>(r st).bind λxs=>.ok (x::xs)
def rH(r:Exs):Ex:=λst=>(r st).bind λxs=>aV (xs.length<=big) (.ok (.tup xs))
def iI(r:Exs):Ex:=λst=>(r st).bind λxs=>aV (xs.length<=big) (.ok (.lst xs))
def aW(p:List D->R D)(r:Exs):Ex:=λst=>(r st).bind p
def eMt(m:Mop)(f:Ex)(r:Exs):Ex:=λst=>(f st).bind λx=>(r st).bind λxs=>m x xs
def inI(d:D){α:Type}(f:Int->R α):R α:=match d with
 |.int i=>f i
 |_=>.bad
def aI2{d:D}{f:Int->R α}{a:α}(h:inI d f=.ok a):∃i,d=.int i/\f i=.ok a:=by
 cases d<;>first|exact⟨_,rfl,h⟩|exact nomatch h
abbrev ExO:=PSt->R (Option Int)
def xM:ExO:=λ_=>.ok none
def xN(f:Ex):ExO:=λst=>(f st).bind λx=>inI x λi=>.ok (some i)
def dSl(x:D)(lo hi:Option Int):R D:=match x with
 |.lst xs=>.ok (.lst (cut xs lo hi))
 |.str xs=>aV (xs.length<=big) (.ok (.str (cut xs lo hi)))
 |_=>.bad
def eSl(f:Ex)(lo hi:ExO):Ex:=λst=>(f st).bind λx=>(lo st).bind λl=>(hi st).bind λh=>dSl x l h
abbrev ItE:=PSt->R (List D)
def itE(f:Ex):ItE:=λst=>(f st).bind λx=>match x with
 |.lst xs=>.ok xs
 |.tup xs=>.ok xs
 |.str xs=>aV (xs.length<=big) (.ok (xs.map λc=>.str [c]))
 |_=>.bad
def qF(lo:Int)(n:Nat):List D:=(List.range n).map λ(k:Nat)=>.int (lo+(k:Int))
def iZ(f:Ex):ItE:=λst=>(f st).bind λx=>inI x λj=>aV (-(big:Int)<=j/\j<=(big:Int)) (.ok (qF 0 j.toNat))
def bAm(f g:Ex):ItE:=λst=>(f st).bind λx=>(g st).bind λy=>inI x λi=>inI y λj=>aV (-(big:Int)<=i/\i<=(big:Int)/\-(big:Int)<=j/\j<=(big:Int)) (.ok (qF i (j-i).toNat))
abbrev Tg:=D->PSt->R PSt
def tgN(i:Nat):Tg:=λd st=>.ok (st.set i (some (.v d)))
def aCd:List Nat->List D->PSt->R PSt
 |[],[],st=>.ok st
 |i::is,d::ds,st=>aCd is ds (st.set i (some (.v d)))
 |_,_,_=>.bad
def tgT(is:List Nat):Tg:=λd st=>match d with
 |.tup xs=>aCd is xs st
 |.lst xs=>aCd is xs st
 |_=>.bad
def jO(tg:Tg)(c f:Ex)(st:PSt):List D->R (List D)
 |[]=>.ok []
 |d::ds=>(tg d st).bind λs1=>(c s1).bind λx=>onB x λb=>if b=true then (f s1).bind λy=>(jO tg c f st ds).bind λys=>.ok (y::ys) else jO tg c f st ds
def clr(is:List Nat)(st:PSt):PSt:=is.foldl (λs i=>s.set i none) st
def bI(is:List Nat)(tg:Tg)(it:ItE)(c f:Ex):Ex:=λst=>(it st).bind λxs=>aV (xs.length<=big) ((jO tg c f (clr is st) xs).bind λys=>.ok (.lst ys))
def bL:Ex:=λ_=>.ok (.bl true)
def bDa(r:R Fl)(f:PSt->R Fl):R Fl:=r.bind λx=>match x with
 |.nx st=>f st
 |.rt d=>.ok (.rt d)
 |.bk st=>.ok (.bk st)
 |.ct st=>.ok (.ct st)
def dB:Bd:=λst=>.ok (.nx st)
def bA(a b:Bd):Bd:=λst=>bDa (a st) b
def cN(i:Nat)(f:Ex):Bd:=λst=>(f st).bind λd=>.ok (.nx (st.set i (some (.v d))))
def rM(i:Nat)(f:Ex):Bd:=λst=>(f st).bind λd=>match d with
 |.lst xs=>.ok (.nx (st.set i (some (.o .l xs))))
 |_=>.bad
def aM6(tg:Tg)(f:Ex):Bd:=λst=>(f st).bind λd=>(tg d st).bind λs1=>.ok (.nx s1)
def aI3(i:Nat)(f:Ex):Bd:=λst=>(f st).bind λd=>match st[i]? with
 |some (some (.o .l xs))=>aV (xs.length<big) (.ok (.nx (st.set i (some (.o .l (xs++[d]))))))
 |_=>.bad
def aM7(i:Nat)(f:Ex):Bd:=λst=>(f st).bind λd=>match d with
 |.lst ys=>(match st[i]? with
  |some (some (.o .l xs))=>aV (xs.length+ys.length<=big) (.ok (.nx (st.set i (some (.o .l (xs++ys))))))
  |_=>.bad)
 |_=>.bad
def aNr(i:Nat)(t:Bool):Bd:=λst=>.ok (.nx (st.set i (some (.o (.d t []) []))))
def sDPut(i:Nat)(g f:Ex):Bd:=λst=>(f st).bind λd=>(g st).bind λk=>match st[i]? with
 |some (some (.o (.d t ks) vs))=>aV (keyOk t k=true/\vs.length<big) (.ok (.nx (st.set i (some (.o (.d t (rJ ks k)) (wF ks vs k d))))))
 |_=>.bad
def wG(i:Nat)(c f:String)(e:Ex):Bd:=λst=>(e st).bind λd=>match st[i]? with
 |some (some (.o (.i n c' ns) xs))=>aV (c'=c/\f∉ns/\ns.length<900) (.ok (.nx (st.set i (some (.o (.i n c' (ns++[f])) (xs++[d]))))))
 |_=>.bad
def dW(c f:String):D->R D
 |.ins c' ns xs=>aV (c'=c) (ofO ((ns.zip xs).lookup f))
 |_=>.bad
def aSi(c m:String)(p:List D->R D)(dv:List D)(f:Ex)(r:Exs):Ex:=λst=>(f st).bind λx=>(r st).bind λxs=>match x with
 |.ins c' ns _=>aV (c'=c/\m∉ns) (p (x::(xs++dv)))
 |_=>.bad
def aEi:Bd:=λ_=>.bad
def fz1(st:PSt)(i:Nat):PSt:=match st[i]? with
 |some (some (.o k xs))=>st.set i (some (.v (ofK k xs)))
 |_=>st
def sFz(is:List Nat)(b:Bd):Bd:=λst=>b (is.foldl fz1 st)
def cR(f:Ex):Bd:=λst=>(f st).bind λd=>.ok (.rt d)
def aWf(f:Ex):Bd:=λst=>(f st).bind λ_=>.ok (.nx st)
def sIf(c:Ex)(a b:Bd):Bd:=λst=>(c st).bind λx=>onB x λq=>if q=true then a st else b st
def forR(tg:Tg)(body:Bd):List D->PSt->R Fl
 |[],st=>.ok (.nx st)
 |d::ds,st=>(tg d st).bind λs1=>(body s1).bind λx=>match x with
  |.nx s2=>forR tg body ds s2
  |.ct s2=>forR tg body ds s2
  |.bk s2=>.ok (.nx s2)
  |.rt v=>.ok (.rt v)
def lK(tg:Tg)(it:ItE)(body:Bd):Bd:=λst=>(it st).bind λxs=>forR tg body xs st
def jP(c:Ex)(body:Bd):Nat->PSt->R Fl
 |0,_=>.bad
 |n+1,st=>(c st).bind λx=>onB x λq=>if q=true then (body st).bind λx=>(match x with
  |.nx s2=>jP c body n s2
  |.ct s2=>jP c body n s2
  |.bk s2=>.ok (.nx s2)
  |.rt v=>.ok (.rt v)) else .ok (.nx st)
def aI4(n:Nat)(c:Ex)(body:Bd):Bd:=λst=>jP c body n st
def fL(np n:Nat)(b:Bd)(ds:List D):R D:=
 aV (ds.length=np) ((b (ds.map (λd=>some (.v d))++List.replicate (n-np) none)).bind λx=>match x with
  |.nx _=>.ok .non
  |.rt d=>.ok d
  |_=>.bad)
def aEj(c:String)(np n:Nat)(b:Bd)(x:Nat)(ds:List D):R D:=
 aV (ds.length=np) ((b (some (.o (.i x c []) [])::(ds.map (λd=>some (.v d))++List.replicate (n-np-1) none))).bind λ(fl:Fl)=>match fl with
  |.nx st=>(match (st[0]?:Option (Option Sl)) with
   |some (some (.o (.i y c' ns) xs))=>aV (y=x) (.ok (.ins c' ns xs))
   |_=>.bad)
  |_=>.bad)
open Classical in
def aG2(c:String)(np n:Nat)(b:Bd)(ds:List D):R D:=if h:∃d,∀x,aEj c np n b x ds=.ok d then .ok (choose h) else .bad
def aNs{b:Bd}{ds:List D}{d:D}(h:∀x,aEj c np n b x ds=.ok d):aG2 c np n b ds=.ok d:=by
 unfold aG2;rw[dif_pos ⟨d,h⟩];have:=bLy (p:=λd=>∀x,aEj c np n b x ds=.ok d) ⟨d,h⟩ 0
 rw[h 0]at this;exact this.symm
def aNt{b:Bd}{ds:List D}{d:D}(h:aG2 c np n b ds=.ok d)(x:Nat):aEj c np n b x ds=.ok d:=by
 unfold aG2 at h;split at h
 .rename_i e;have:=bLy e x;rw[this];exact h
 .cases h
end
end Pu
variable{d:Pu.D}{ds xs dv:List Pu.D}{st' s1:Pu.PSt}{r:Pu.Exs}{f g:Pu.Ex}{p:List Pu.D->Pu.R Pu.D}{it:Pu.ItE}{L bd bd':Pu.Bd}{x5:Option Pu.Sl}{Sh:Pu.PSt->Prop}
namespace Pu
@[simp] theorem bg2:2<=big:=fC (by decide)
@[simp] theorem bg3:3<=big:=fC (by decide)
@[simp] theorem aK{β:Type}(a:α)(f:α->R β):(R.ok a).bind f=f a:=rfl
@[simp] theorem mR(b:Bool)(f:Bool->R α):onB (.bl b) f=f b:=rfl
@[simp] theorem bEj(i:Int)(f:Int->R α):inI (.int i) f=f i:=rfl
@[simp] theorem zN(i:Nat)(st:PSt):aA i st=(match st[i]? with|some (some (.v d))=>R.ok d|_=>.bad):=rfl
@[simp] theorem aYx(d:D)(st:PSt):eC d st=.ok d:=rfl
@[simp] theorem aJp(op:Op2)(f g:Ex)(st:PSt):e2 op f g st=(f st).bind λx=>(g st).bind λy=>op x y:=rfl
@[simp] theorem zZ(op:D->R D)(f:Ex)(st:PSt):e1 op f st=(f st).bind op:=rfl
@[simp] theorem bFq(p:D->Bool)(f:Ex)(st:PSt):eB p f st=(f st).bind λx=>aV (aG1 x=true) (.ok (.bl (p x))):=rfl
@[simp] theorem aNu(f g:Ex)(st:PSt):pK f g st=(f st).bind λx=>onB x λb=>if b=true then g st else .ok (.bl false):=rfl
@[simp] theorem bAn(f g:Ex)(st:PSt):eOr f g st=(f st).bind λx=>onB x λb=>if b=true then .ok (.bl true) else g st:=rfl
@[simp] theorem aNv(f:Ex)(st:PSt):tD f st=(f st).bind λx=>onB x λb=>.ok (.bl (!b)):=rfl
@[simp] theorem bEk(st:PSt):aU st=.ok []:=rfl
@[simp] theorem aSj(f:Ex)(r:Exs)(st:PSt):aC f r st=(f st).bind λx=>(r st).bind λxs=>.ok (x::xs):=rfl
@[simp] theorem aWg(r:Exs)(st:PSt):rH r st=(r st).bind λxs=>aV (xs.length<=big) (.ok (.tup xs)):=rfl
@[simp] theorem aWh(r:Exs)(st:PSt):iI r st=(r st).bind λxs=>aV (xs.length<=big) (.ok (.lst xs)):=rfl
@[simp] theorem aSk(p:List D->R D)(r:Exs)(st:PSt):aW p r st=(r st).bind p:=rfl
@[simp] theorem bDb(st:PSt):xM st=.ok none:=rfl
@[simp] theorem bDc(f:Ex)(st:PSt):xN f st=(f st).bind λx=>inI x λi=>.ok (some i):=rfl
@[simp] theorem bFf(f:Ex)(lo hi:ExO)(st:PSt):eSl f lo hi st=(f st).bind λx=>(lo st).bind λl=>(hi st).bind λh=>dSl x l h:=rfl
@[simp] theorem aWi(f:Ex)(st:PSt):iZ f st=(f st).bind λx=>inI x λj=>aV (-(big:Int)<=j/\j<=(big:Int)) (.ok (qF 0 j.toNat)):=rfl
@[simp] theorem bDd(tg:Tg)(b:Bd)(st:PSt):forR tg b [] st=.ok (.nx st):=rfl
def aCe(tg:Tg)(b:Bd)(d:D)(ds:List D)(st:PSt):forR tg b (d::ds) st=(tg d st).bind λs1=>(b s1).bind λx=>match x with
  |.nx s2=>forR tg b ds s2
  |.ct s2=>forR tg b ds s2
  |.bk s2=>.ok (.nx s2)
  |.rt v=>.ok (.rt v):=rfl
def xO(c:Ex)(b:Bd)(n:Nat)(st:PSt):jP c b (n+1) st=(c st).bind λx=>onB x λq=>if q=true then (b st).bind λx=>(match x with
  |.nx s2=>jP c b n s2
  |.ct s2=>jP c b n s2
  |.bk s2=>.ok (.nx s2)
  |.rt v=>.ok (.rt v)) else .ok (.nx st):=rfl
@[simp] theorem bAo(f:Ex)(st:PSt):itE f st=(f st).bind λx=>match x with|.lst xs=>.ok xs|.tup xs=>.ok xs|.str xs=>aV (xs.length<=big) (.ok (xs.map λc=>.str [c]))|_=>.bad:=rfl
@[simp] theorem aGo(n:Nat)(c:Ex)(b:Bd)(st:PSt):aI4 n c b st=jP c b n st:=rfl
@[simp] theorem aWj(i:Nat)(f:Ex)(st:PSt):aI3 i f st=(f st).bind λd=>match st[i]? with|some (some (.o .l xs))=>aV (xs.length<big) (.ok (.nx (st.set i (some (.o .l (xs++[d]))))))|_=>.bad:=rfl
@[simp] theorem aSl(i:Nat)(f:Ex)(st:PSt):rM i f st=(f st).bind λd=>match d with|.lst xs=>.ok (.nx (st.set i (some (.o .l xs))))|_=>.bad:=rfl
@[simp] theorem aWk(i:Nat)(f:Ex)(st:PSt):aM7 i f st=(f st).bind λd=>match d with|.lst ys=>(match st[i]? with|some (some (.o .l xs))=>aV (xs.length+ys.length<=big) (.ok (.nx (st.set i (some (.o .l (xs++ys))))))|_=>.bad)|_=>.bad:=rfl
@[simp] theorem aJq(i:Nat)(c f:String)(e:Ex)(st:PSt):wG i c f e st=(e st).bind λd=>match st[i]? with|some (some (.o (.i n c' ns) xs))=>aV (c'=c/\f∉ns/\ns.length<900) (.ok (.nx (st.set i (some (.o (.i n c' (ns++[f])) (xs++[d]))))))|_=>.bad:=rfl
@[simp] theorem oK(c f c':String)(ns:List String)(xs:List D):dW c f (.ins c' ns xs)=aV (c'=c) (ofO ((ns.zip xs).lookup f)):=rfl
@[simp] theorem bFg(is:List Nat)(b:Bd)(st:PSt):sFz is b st=b (is.foldl fz1 st):=rfl
@[simp] theorem bFh(st:PSt)(i:Nat):fz1 st i=(match st[i]? with|some (some (.o k xs))=>st.set i (some (.v (ofK k xs)))|_=>st):=rfl
@[simp] theorem bAp(x y:List Nat):sZ (.str x) (.str y)=.ok (.bl (!(rK y x 0).isSome)):=rfl
@[simp] theorem bEl(i j:Int):dGe (.int i) (.int j)=.ok (.bl (decide (j<=i))):=rfl
@[simp] theorem bDe(b:Int):aG1 (.int b)=true:=rfl
@[simp] theorem bDf(b:List D):aG1 (.lst b)=true:=rfl
@[simp] theorem bFi(i:Nat)(d:D)(st:PSt):tgN i d st=.ok (st.set i (some (.v d))):=rfl
@[simp] theorem bEm(st:PSt):clr [] st=st:=rfl
@[simp] theorem bDg(i:Nat)(is:List Nat)(st:PSt):clr (i::is) st=clr is (st.set i none):=rfl
def kJ(tg:Tg)(c f:Ex)(st:PSt)(d:D)(ds:List D):jO tg c f st (d::ds)=(tg d st).bind λs1=>(c s1).bind λx=>onB x λb=>if b=true then (f s1).bind λy=>(jO tg c f st ds).bind λys=>.ok (y::ys) else jO tg c f st ds:=rfl
@[simp] theorem aJr(is:List Nat)(tg:Tg)(it:ItE)(c f:Ex)(st:PSt):bI is tg it c f st=(it st).bind λxs=>aV (xs.length<=big) ((jO tg c f (clr is st) xs).bind λys=>.ok (.lst ys)):=rfl
@[simp] theorem bDh(st:PSt):dB st=.ok (.nx st):=rfl
@[simp] theorem aNw(a b:Bd)(st:PSt):bA a b st=bDa (a st) b:=rfl
@[simp] theorem aNx(i:Nat)(f:Ex)(st:PSt):cN i f st=(f st).bind λd=>.ok (.nx (st.set i (some (.v d)))):=rfl
@[simp] theorem aWl(tg:Tg)(f:Ex)(st:PSt):aM6 tg f st=(f st).bind λd=>(tg d st).bind λs1=>.ok (.nx s1):=rfl
@[simp] theorem zO(f:Ex)(st:PSt):cR f st=(f st).bind λd=>.ok (.rt d):=rfl
@[simp] theorem aM8(c:Ex)(a b:Bd)(st:PSt):sIf c a b st=(c st).bind λx=>onB x λq=>if q=true then a st else b st:=rfl
@[simp] theorem aNy(tg:Tg)(it:ItE)(body:Bd)(st:PSt):lK tg it body st=(it st).bind λxs=>forR tg body xs st:=rfl
@[simp] theorem bEn(i j:Int):dLe (.int i) (.int j)=.ok (.bl (decide (i<=j))):=rfl
@[simp] theorem aSm(x y:D):dEq x y=aV (dep x<=64/\plain x=true/\plain y=true) (.ok (.bl (eqD x y))):=rfl
@[simp] theorem aSn(x y:D):dNe x y=aV (dep x<=64/\plain x=true/\plain y=true) (.ok (.bl (!eqD x y))):=rfl
@[simp] theorem bEo(i:Int):dep (.int i)=0:=by unfold dep;rfl
@[simp] theorem bEp(x:List D):dep (.tup x)=fZ x+1:=by conv=>lhs;unfold dep
@[simp] theorem bEq(x:List D):dep (.lst x)=fZ x+1:=by conv=>lhs;unfold dep
@[simp] theorem bC5:plain .non=true:=by unfold plain;rfl
@[simp] theorem bDi(b:Bool):plain (.bl b)=true:=by unfold plain;rfl
@[simp] theorem bC6(i:Int):plain (.int i)=true:=by unfold plain;rfl
@[simp] theorem bC7(s:List Nat):plain (.str s)=true:=by unfold plain;rfl
@[simp] theorem bC8(x:List D):plain (.tup x)=cZ x:=by conv=>lhs;unfold plain
@[simp] theorem bC9(x:List D):plain (.lst x)=cZ x:=by conv=>lhs;unfold plain
@[simp] theorem bCa(t:Bool)(k v:List D):plain (.dct t k v)=false:=by unfold plain;rfl
@[simp] theorem bCb(c:String)(n:List String)(v:List D):plain (.ins c n v)=false:=by unfold plain;rfl
@[simp] theorem bCc(c:String)(n:List String)(v:List D):plain (.exn c n v)=false:=by unfold plain;rfl
@[simp] theorem bDj(f:String):plain (.fn f)=false:=by unfold plain;rfl
@[simp] theorem bAq:cZ []=true:=by unfold cZ;rfl
@[simp] theorem gH(a:D)(x:List D):cZ (a::x)=(plain a&&cZ x):=by conv=>lhs;unfold cZ
@[simp] theorem bDk:fZ []=0:=by unfold fZ;rfl
@[simp] theorem aCf(a:D)(x:List D):fZ (a::x)=max (dep a) (fZ x):=by conv=>lhs;unfold fZ
@[simp] theorem bEr(i j:Int):eqD (.int i) (.int j)=(i==j):=by unfold eqD;rfl
@[simp] theorem aWm:lJ [] []=true:=by unfold lJ;rfl
@[simp] theorem bDl(x:List D):gD (.lst x)=.ok (.int x.length):=rfl
@[simp] theorem bEs(x:List D)(i:Int):dIx (.lst x) (.int i)=ofO (atI x i):=rfl
@[simp] theorem bEt(x:List Nat)(l h:Option Int):dSl (.str x) l h=aV (x.length<=big) (.ok (.str (cut x l h))):=rfl
@[simp] theorem bDm(a:α):ofO (some a)=.ok a:=rfl
@[simp] theorem gR{c:Prop}{r:R α}(h:c):aV c r=r:=aF h
@[simp] theorem aWn{b:Bd} (h:ds.length=np):fL np n b ds=(b (ds.map (λd=>some (.v d))++List.replicate (n-np) none)).bind λx=>match x with
  |.nx _=>.ok .non
  |.rt d=>.ok d
  |_=>.bad:=aF h
def aSo{xs:List α}{i:Int}(h0:0<=i)(h:i<xs.length):atI xs i=some (xs[i.toNat]'(by omega)):=by
 unfold atI ixN;rw[bGa h0,bGa h];exact bFv (by omega)
def atI_nat{xs:List α}{i:Nat}(h:i<xs.length):atI xs (i:Int)=some xs[i]:=by
 rw[aSo (by omega) (by omega)]
 simp
def aA0:D->R D
 |.lst x=>.ok (.lst x)
 |.tup x=>.ok (.lst x)
 |_=>.bad
def bls:List D->R (List Bool)
 |[]=>.ok []
 |.bl b::r=>(bls r).bind λx=>.ok (b::x)
 |_::_=>.bad
def aDd:List D->R (List Int)
 |[]=>.ok []
 |.int i::r=>(aDd r).bind λx=>.ok (i::x)
 |_::_=>.bad
def aDv:D->R D
 |.lst x=>(bls x).bind λl=>.ok (.bl (l.all id))
 |_=>.bad
def aI5:List Int->Int
 |[]=>0
 |i::r=>r.foldl (λa b=>if b>a then b else a) i
noncomputable def aNz:D->R D
 |.lst x=>(aDd x).bind λl=>aV (0<l.length) (.ok (.int (aI5 l)))
 |_=>.bad
theorem aSp:∀{x:List D}{l:List Bool},bls x=.ok l->x=l.map D.bl
 |[],l,h=>by cases h;rfl
 |d::x,l,h=>by
  cases d<;>first|(cases h;done)|skip
  obtain⟨l',h1,h2⟩:=R.ok_of h;cases h2;rw[aSp h1];rfl
theorem aEk:∀{x:List D}{l:List Int},aDd x=.ok l->x=l.map D.int
 |[],l,h=>by cases h;rfl
 |d::x,l,h=>by
  cases d<;>first|(cases h;done)|skip
  obtain⟨l',h1,h2⟩:=R.ok_of h;cases h2;rw[aEk h1];rfl
theorem aO0:∀(l:List Bool),bls (l.map D.bl)=.ok l
 |[]=>rfl
 |b::l=>by show (bls (l.map D.bl)).bind _=_;rw[aO0 l];rfl
theorem aCg:∀(l:List Int),aDd (l.map D.int)=.ok l
 |[]=>rfl
 |b::l=>by show (aDd (l.map D.int)).bind _=_;rw[aCg l];rfl
theorem aCh:∀(r:List Int)(a:Int),a<=r.foldl (λa b=>if b>a then b else a) a/\(∀x∈r,x<=r.foldl (λa b=>if b>a then b else a) a)/\(r.foldl (λa b=>if b>a then b else a) a=a\/r.foldl (λa b=>if b>a then b else a) a∈r)
 |[],a=>⟨Int.le_refl _,λ_ h=>(by cases h),.inl rfl⟩
 |b::r,a=>by
  obtain⟨h1,h2,h3⟩:=aCh r (if b>a then b else a)
  rw[bM5];have ha:a<=(if b>a then b else a):=by split<;>omega
  have hb:b<=(if b>a then b else a):=by split<;>omega
  refine⟨Int.le_trans ha h1,λx hx=>?_,?_⟩
  .rcases bG0.mp hx with rfl|hx
   .exact Int.le_trans hb h1
   .exact h2 x hx
  .rcases h3 with h3|h3
   .rw[h3];split
    .exact .inr bFx
    .exact .inl rfl
   .exact .inr (bFw _ h3)
def aO1{l:List Int}{m:Int}(hm:m∈l)(hx:∀x∈l,x<=m):aI5 l=m:=by
 cases l with
 |nil=>cases hm
 |cons i r=>
  obtain⟨h1,h2,h3⟩:=aCh r i;have ha:aI5 (i::r)<=m:=by
   rcases h3 with h3|h3
   .exact hx _ (by show r.foldl _ i∈_;rw[h3];exact bFx)
   .exact hx _ (bFw _ h3)
  have hb:m<=aI5 (i::r):=by
   rcases bG0.mp hm with e|e
   .rw[e];exact h1
   .exact h2 _ e
  omega
inductive NFl where
 |nx (xss:List (List D)) (st:PSt)|rt (d:D)
abbrev NB:=List (List D)->PSt->R NFl
def pF(l:List Int):List Int:=l.foldl (λacc x=>if acc.any (· == x) then acc else acc++[x]) []
def rN:Nat->List D->List D
 |_,[]=>[]
 |n,d::ds=>.tup [.int (n:Int),d] :: rN (n+1) ds
def bDn(f:Ex):ItE:=λst=>(f st).bind λx=>match x with
 |.lst xs=>.ok (rN 0 xs)
 |_=>.bad
def atom:D->Bool
 |.non=>true
 |.bl _=>true
 |.int _=>true
 |.str _=>true
 |_=>false
def bDo:D->Bool
 |.lst xs=>xs.all atom
 |_=>false
noncomputable section
def bAr:D->R D
 |.lst xs=>aV (xs.length<=big/\xs.all bDo=true) (.ok (.lst xs))
 |_=>.bad
def unL:D->List D
 |.lst xs=>xs
 |_=>[]
open Classical in
def bFr(c:String)(np n:Nat)(b:Bd)(ds:List D):R D:=if h:∃r,∀x,aEj c np n b x ds=r then choose h else .bad
def dTup:D->R D
 |.lst xs=>.ok (.tup xs)
 |_=>.bad
end
def uY:List Nat->List D->List D
 |c::z,d::ds=>.tup [.str [c],d] :: uY z ds
 |_,_=>[]
def aO2(f g:Ex):ItE:=λst=>(f st).bind λx=>(g st).bind λy=>match x,y with
 |.str z,.lst ds=>.ok (uY z ds)
 |_,_=>.bad
noncomputable section
def aJs:Op2
 |.int i,.int j=>aV (0<=j/\j<=1000000/\i.natAbs<18446744073709551616) (.ok (.int (i*2^j.toNat)))
 |_,_=>.bad
def aQe:Op2
 |.int i,.int j=>aV (0<=j) (.ok (.int (i/2^j.toNat)))
 |_,_=>.bad
def aJt:Op2
 |.int i,.int j=>aV (0<=i/\0<=j) (.ok (.int ((i.toNat&&&j.toNat:Nat):Int)))
 |_,_=>.bad
def dOr:Op2
 |.int i,.int j=>aV (0<=i/\0<=j) (.ok (.int ((i.toNat|||j.toNat:Nat):Int)))
 |_,_=>.bad
end
def uB(i:Int):Nat:=if i=0 then 0 else i.natAbs.log2+1
def aE1:D->R D
 |.int i=>.ok (.int (uB i:Nat))
 |_=>.bad
def aB5:Op2
 |.int i,.int j=>.ok (.bl (decide (i<j)))
 |_,_=>.bad
noncomputable def jU:Op2
 |.int i,.int j=>aV ((-18446744073709551616<i/\i<18446744073709551616)\/(-18446744073709551616<j/\j<18446744073709551616)) (.ok (.int (i*j)))
 |_,_=>.bad
@[simp] theorem aEm(i j:Int):aB5 (.int i) (.int j)=.ok (.bl (decide (i<j))):=rfl
end Pu
variable{nb:Pu.NB}
namespace Pu
noncomputable section
def aAj(l:List Int):List Int:=l.mergeSort λa b=>decide (a<=b)
def uC(l:List Int):(aAj l).Perm l:=List.mergeSort_perm _ _
def aSq(l:List Int):(aAj l).Pairwise (· <= ·):=by
 have h:=List.pairwise_mergeSort (le:=λa b:Int=>decide (a<=b)) (λa b c h1 h2=>by
  have:=bIp h1;have:=bIp h2;exact bGe (by omega)) (λa b=>by
  rcases Int.le_total a b with h|h
  .simp[h]
  .simp[h]) l
 exact h.imp λh=>bIp h
def aB6:D->R D
 |.lst x=>(aDd x).bind λl=>aV (l.length<=4000/\(pF l).length<64) (.ok (.lst ((aAj (pF l)).map D.int)))
 |_=>.bad
end
def aG3:List D->List D->List D
 |c::z,d::y=>.tup [c,d] :: aG3 z y
 |_,_=>[]
noncomputable section
def prs:List D->R (List (Int×Int))
 |[]=>.ok []
 |.tup [.int i,.int j] :: x=>(prs x).bind λl=>.ok ((i,j)::l)
 |_=>.bad
def pD(p:Int×Int):D:=.tup [.int p.1,.int p.2]
theorem aSr:∀{x:List D} {l:List (Int×Int)},prs x=.ok l->x=l.map pD
 |[],_,h=>by cases h;rfl
 |d::x,l,h=>by
  unfold prs at h;split at h
  .cases ‹_::_=[]›
  .rename_i i j x' e;cases e;obtain⟨m,hm,h2⟩:=R.ok_of h;cases h2;rw[aSr hm];rfl
  .cases h
end
end Pu
namespace Pu
noncomputable section
open PySem.W PyProof.Rows
def aSs{α:Type}(c:Nat->Nat->Bool):KasT α->α
 |.ret a=>a
 |.ask i j k=>aSs c (k (c i j))
def gwK{α:Type}(c:Nat->Nat->Bool)(n:Nat):KasT α->(α->Prop)->Prop
 |.ret a,Q=>Q a
 |.ask i j k,Q=>i<n/\j<n/\gwK c n (k (c i j)) Q
def gwK.run{c:Nat->Nat->Bool} {Q:α->Prop} {t:KasT α} (h:gwK c n t Q):Q (aSs c t):=by
 induction t with
 |ret _=>exact h
 |ask i j k ih=>exact ih _ h.2.2
theorem gwK.bind{α β:Type}{c:Nat->Nat->Bool}{n:Nat}{P:α->Prop}{Q:β->Prop}{f:α->KasT β}(hf:∀a,P a->gwK c n (f a) Q){t:KasT α}(h:gwK c n t P):gwK c n (t.bind f) Q:=by
 induction t with
 |ret a=>exact hf a h
 |ask i j k ih=>exact⟨h.1,h.2.1,ih _ h.2.2⟩
def PRm(n:Nat)(p:Array Nat):Prop:=0<n/\p.toList.Perm (List.range n)
section
variable{c:Nat->Nat->Bool} {p:Array Nat}
def PRm.lt(h:PRm n p)(i:Nat):p.getD i 0<n:=by
 by_cases hi:i<p.size
 .rw[show p.getD i 0=p[i] by simp[Array.getD,hi]]
  exact bGr.mp (h.2.mem_iff.mp (bM9.mpr (Array.getElem_mem hi)))
 .rw[show p.getD i 0=0 by simp[Array.getD,hi]]
  exact h.1
def PRm.rev(h:PRm n p)(i j:Nat):PRm n (kas_rev p i j):=⟨h.1,(bKq.mp (mirror_perm _ _ _ _)).trans h.2⟩
theorem aM9(h:PRm n p):∀(f m:Nat),gwK c n (kas_asc p f m) λ_=>True
 |0,_=>trivial
 |f+1,m=>⟨h.lt _,h.lt _,by dsimp only;split;exact trivial;exact aM9 h f _⟩
theorem aE2:∀(f:Nat){p:Array Nat}(m q:Nat),PRm n p->gwK c n (kas_desc f p m q) λr=>PRm n r.1
 |0,_,_,_,h=>h
 |f+1,p,m,q,h=>⟨h.lt _,h.lt _,by
  dsimp only
  by_cases e:c (p.getD m 0) (p.getD (m-1) 0)=true
  .rw[bGa e];split
   .exact aE2 f _ _ (h.rev _ _)
   .exact aE2 f _ _ h
  .rw[bG7 e];exact⟨h.lt _,h.lt _,by dsimp only;split;exact h;exact aE2 f _ _ h⟩⟩
def aO3(h:PRm n p)(m z:Nat):gwK c n (kas_tail3 m z p) λr=>PRm n r.2:=by
 refine gwK.bind (P:=λ_=>True) (λ_ _=>?_) (aM9 (h.rev _ _) _ _)
 exact h.rev _ _
def aJu(h:PRm n p)(m z:Nat):gwK c n (kas_descPart m z p) λr=>PRm n r.2:=gwK.bind (λr hr=>by
 split
 .exact aO3 (hr.rev _ _) _ _
 .exact aO3 hr _ _) (aE2 _ _ _ h)
def aSt(h:PRm n p)(z:Nat):gwK c n (kas_count z p) λr=>PRm n r.2:=gwK.bind (λm _=>by
 split
 .exact h
 .split
  .exact⟨h.lt _,h.lt _,by dsimp only;split;exact h;exact aJu (h.rev _ _) _ _⟩
  .exact aJu h _ _) (aM9 h _ _)
theorem aJv(h:PRm n p)(k:Nat):∀(f l r:Nat),gwK c n (kas_place p k f l r) λ_=>True
 |0,_,_=>trivial
 |f+1,l,r=>by
  unfold kas_place;split
  .exact trivial
  .exact⟨h.lt _,h.lt _,by dsimp only;split<;>exact aJv h k f _ _⟩
theorem aSu:∀(f:Nat){p:Array Nat}(k:Nat),PRm n p->gwK c n (kas_bin f p k) (PRm n)
 |0,_,_,h=>h
 |f+1,p,k,h=>gwK.bind (λl _=>aSu f (k+1) ⟨h.1,(bKq.mp (bubble_perm _ _ _)).trans h.2⟩) (aJv h k _ _ _)
def aO4(h:0<n):gwK c n (kas_sort n) (PRm n):=gwK.bind (λr hr=>by
 split
 .exact aSu _ _ hr
 .exact hr) (aSt ⟨h,.refl _⟩ _)
end
def ltQ(x y:Int×Int):Bool:=if x.1==y.1 then decide (x.2<y.2) else decide (x.1<y.1)
def cmQ(l:List (Int×Int))(i j:Nat):Bool:=ltQ (l.getD i (0,0)) (l.getD j (0,0))
def ixQ(l:List (Int×Int)):List Nat:=if l.length<2 then List.range l.length else (aSs (cmQ l) (kas_sort l.length)).toList
def aWo(l:List (Int×Int)):List (Int×Int):=(ixQ l).map λi=>l.getD i (0,0)
def map_range{d:α}(l:List α):((List.range l.length).map λi=>l.getD i d)=l:=List.ext_getElem (by simp) λi h1 h2=>by simp[h2]
def aB7(l:List (Int×Int)):(ixQ l).Perm (List.range l.length):=by
 unfold ixQ;split
 .exact .refl _
 .exact(gwK.run (aO4 (c:=cmQ l) (n:=l.length) (by omega))).2
def aQf(l:List (Int×Int)):(aWo l).Perm l:=by
 have:=(aB7 l).map λi=>l.getD i (0,0)
 rwa [map_range]at this
def aAk:D->R D
 |.dct true ks _=>aV (ks.length<=big) (.ok (.lst ks))
 |_=>.bad
def aGp:D->R D
 |.dct true ks _=>(prs ks).bind λl=>aV (l.length<64) (.ok (.lst ((aWo l).map pD)))
 |_=>.bad
end
end Pu
namespace Pu
noncomputable section
def aGq:Op2
 |.lst z,.lst w=>.ok (.lst (aG3 z w))
 |_,_=>.bad
def aSv:Mop
 |.lst xs,[y]=>(ofO (xs.findIdx? λd=>eqD d y)).bind λn=>aV (xs.length<=big/\fZ xs<=60/\plain y=true/\cZ xs=true) (.ok (.int (n:Int)))
 |_,_=>.bad
def aI6(i:Nat)(g f:Ex):Bd:=λst=>(g st).bind λk=>(f st).bind λd=>aV (keyOk true k=true/\atom d=true) (.ok (.nx (st.set i (some (.o (.d true [k]) [d])))))
def aMa(p:List D->R D)(dv:List D)(r:Exs):Ex:=λst=>(r st).bind λxs=>p (xs++dv)
end
noncomputable section
def aB8(g:List D->R D):D->D->List D->R D
 |b,_,[]=>.ok b
 |b,kb,d::ds=>(g [d]).bind λk=>match k,kb with
  |.tup x,.tup y=>aV (fZ x<=60/\cZ x=true/\cZ y=true) ((aDu x y).bind λt=>if t=true then aB8 g d k ds else aB8 g b kb ds)
  |_,_=>.bad
def aJw(g:List D->R D):D->R D
 |.lst []=>.ok .non
 |.lst (d::ds)=>(g [d]).bind λk=>aB8 g d k ds
 |_=>.bad
end
noncomputable section
def aWp(f:String)(bs:List Bool):Op2
 |.fn g,i=>aV (g=f) (dIx (.tup (bs.map D.bl)) i)
 |x,i=>dIx x i
end
noncomputable section
def aDe:Bd:=bA (sIf (e2 aB5 (aA 1) (e1 gD (aA 0))) (cR (e2 dIx (aA 0) (aA 1))) (dB)) (bA (sIf (e2 dEq (e1 gD (aA 0)) (eC (.int 0))) (cR (e2 cY (e2 jU (eC (.int 48271)) (aA 1)) (eC (.int 7)))) (dB)) (cR (e2 cY (e2 dIx (aA 0) (e2 rG (e2 jU (aA 1) (eC (.int 7))) (e1 gD (aA 0)))) (e2 jU (eC (.int 7919)) (aA 1)))))
def dG:List D->R D:=fL 2 2 aDe
def aEn:Bd:=bA (cN 3 (e2 rG (e2 jU (e2 cY (e2 cY (e2 rG (aA 0) (eC (.int 2147483647))) (e2 jU (eC (.int 7919)) (aA 1))) (eC (.int 104729))) (eC (.int 48271))) (eC (.int 2147483629)))) (bA (cN 3 (e2 rG (e2 jU (e2 rG (e2 jU (aA 3) (aA 3)) (eC (.int 2147483647))) (eC (.int 69621))) (eC (.int 2147483587)))) (cR (e2 rG (e2 rG (e2 jU (aA 3) (aA 3)) (eC (.int 2147483629))) (aA 2))))
def bF:List D->R D:=fL 3 4 aEn
def wH(st:PSt):R Fl:=(bA (aI3 3 (e2 rG (aA 0) (aA 1))) (cN 0 (e2 aNq (aA 0) (aA 1)))) st
def aA1:Bd:=bA (rM 3 (iI (aU))) (bA (lK (tgN 4) (iZ (aA 2)) (wH)) (sFz [3] (cR (aA 3))))
def nJ:List D->R D:=fL 3 5 aA1
def aB9(st:PSt):R D:=(aW bF (aC (aW dG (aC (aA 0) (aC (e2 cY (e2 cY (aA 1) (eC (.int 1))) (aA 8)) (aU)))) (aC (aA 9) (aC (aA 5) (aU))))) st
def uZ(st:PSt):R D:=(bI [9] (tgN 9) (iZ (aA 3)) bL (aB9)) st
def pL(st:PSt):R D:=(aW nJ (aC (aW dG (aC (aA 0) (aC (e2 cY (e2 cY (aA 1) (eC (.int 1))) (aA 8)) (aU)))) (aC (aA 5) (aC (aA 3) (aU))))) st
def vA(st:PSt):R D:=(aW bF (aC (aW dG (aC (aA 0) (aC (e2 cY (e2 cY (aA 1) (eC (.int 1))) (aA 8)) (aU)))) (aC (eC (.int 5)) (aC (e2 cY (eC (.int 2)) (aW bF (aC (aA 4) (aC (eC (.int 2)) (aC (eC (.int 4)) (aU)))))) (aU))))) st
def pM(st:PSt):R D:=(e2 cY (aA 10) (e2 jU (e2 rG (aW dG (aC (aA 0) (aC (aA 1) (aU)))) (e2 bAj (eC (.int 10)) (eC (.int 29)))) (eC (.int 2)))) st
def aAl:Bd:=bA (cN 4 (aW dG (aC (aA 0) (aC (aA 1) (aU))))) (bA (cN 5 (e2 cY (eC (.int 1)) (aW bF (aC (aA 4) (aC (eC (.int 1)) (aC (aA 2) (aU))))))) (bA (cN 6 (bI [8] (tgN 8) (iZ (aA 5)) bL (uZ))) (bA (sIf (e2 dEq (aW bF (aC (aA 4) (aC (eC (.int 4)) (aC (eC (.int 2)) (aU))))) (eC (.int 0))) (cN 6 (bI [8] (tgN 8) (iZ (aA 5)) bL (pL))) (dB)) (bA (cN 7 (bI [8] (tgN 8) (iZ (aA 5)) bL (vA))) (bA (sIf (e2 dEq (aW bF (aC (aA 4) (aC (eC (.int 3)) (aC (eC (.int 8)) (aU))))) (eC (.int 0))) (cN 7 (bI [10] (tgN 10) (itE (aA 7)) bL (pM))) (dB)) (cR (iI (aC (aA 6) (aC (aA 7) (aU))))))))))
def qG:List D->R D:=fL 4 11 aAl
def jW(st:PSt):R D:=(e2 cY (aA 9) (eC (.int 2))) st
def wJ(st:PSt):R D:=(e2 cY (aA 10) (e2 jU (aA 3) (aW bF (aC (aA 0) (aC (e2 cY (e2 cY (eC (.int 3)) (e2 jU (eC (.int 5)) (aA 7))) (aA 10)) (aC (eC (.int 2)) (aU))))))) st
def jX(st:PSt):R Fl:=(aI3 6 (bI [10] (tgN 10) (itE (e2 dIx (aA 1) (e2 rG (aA 7) (aA 3)))) bL (wJ))) st
def fD(st:PSt):R D:=(e2 cY (aA 9) (eC (.int 2))) st
def wK(st:PSt):R D:=(e2 rG (e2 cY (aA 10) (eC (.int 1))) (aA 3)) st
def oU(st:PSt):R D:=(bI [10] (tgN 10) (itE (e2 dIx (aA 1) (e2 aM5 (aA 7) (eC (.int 1))))) bL (wK)) st
def oV(st:PSt):R D:=(e2 dIx (aA 2) (e2 aM5 (aA 7) (eC (.int 1)))) st
def oW(st:PSt):R D:=(e2 cY (aA 9) (eC (.int 1))) st
def aA2:Bd:=bA (cN 3 (e1 gD (aA 1))) (bA (cN 4 (aW bF (aC (aA 0) (aC (eC (.int 1)) (aC (eC (.int 5)) (aU)))))) (bA (sIf (e2 dEq (aA 4) (eC (.int 0))) (cR (iI (aC (aA 1) (aC (bI [9] (tgN 9) (itE (aA 2)) bL (jW)) (aU))))) (dB)) (bA (sIf (e2 dEq (aA 4) (eC (.int 1))) (bA (cN 5 (aW bF (aC (aA 0) (aC (eC (.int 2)) (aC (aA 3) (aU)))))) (cR (iI (aC (aA 1) (aC (e2 cY (e2 cY (eSl (aA 2) (xM) (xN (aA 5))) (iI (aC (e2 cY (e2 dIx (aA 2) (aA 5)) (eC (.int 1))) (aU)))) (eSl (aA 2) (xN (e2 cY (aA 5) (eC (.int 1)))) (xM))) (aU)))))) (dB)) (bA (sIf (pK (e2 dEq (aA 4) (eC (.int 2))) (e2 aB5 (aA 3) (eC (.int 4)))) (bA (rM 6 (iI (aU))) (bA (lK (tgN 7) (iZ (e2 jU (eC (.int 2)) (aA 3))) (jX)) (sFz [6] (cR (iI (aC (aA 6) (aC (e2 cY (aA 2) (bI [9] (tgN 9) (itE (aA 2)) bL (fD))) (aU)))))))) (dB)) (bA (sIf (e2 dEq (aA 4) (eC (.int 3))) (bA (cN 8 (bI [7] (tgN 7) (iZ (aA 3)) bL (oU))) (cR (iI (aC (aA 8) (aC (bI [7] (tgN 7) (iZ (aA 3)) bL (oV)) (aU)))))) (dB)) (cR (iI (aC (aA 1) (aC (bI [9] (tgN 9) (itE (aA 2)) bL (oW)) (aU))))))))))
def iR:List D->R D:=fL 3 11 aA2
def aAm:Bd:=bA (cN 1 (aW dG (aC (aA 0) (aC (eC (.int 0)) (aU))))) (bA (cN 2 (e2 cY (eC (.int 1)) (aW bF (aC (aA 1) (aC (eC (.int 1)) (aC (eC (.int 3)) (aU))))))) (bA (cN 3 (eC (.int 4))) (bA (sIf (e2 dEq (aW bF (aC (aA 1) (aC (eC (.int 2)) (aC (eC (.int 16)) (aU))))) (eC (.int 0))) (cN 3 (eC (.int 5))) (dB)) (bA (cN 4 (aW qG (aC (aA 0) (aC (eC (.int 1)) (aC (aA 3) (aC (aA 2) (aU))))))) (bA (cN 5 (aW qG (aC (aA 0) (aC (eC (.int 10)) (aC (aA 3) (aC (aA 2) (aU))))))) (bA (sIf (e2 dGt (aW bF (aC (aA 1) (aC (eC (.int 3)) (aC (eC (.int 4)) (aU))))) (eC (.int 0))) (cN 5 (aW iR (aC (aW dG (aC (aA 0) (aC (eC (.int 10)) (aU)))) (aC (e2 dIx (aA 4) (eC (.int 0))) (aC (e2 dIx (aA 4) (eC (.int 1))) (aU)))))) (dB)) (cR (iI (aC (aA 4) (aC (aA 5) (aC (aW bF (aC (aA 1) (aC (eC (.int 4)) (aC (e1 gD (e2 dIx (aA 4) (eC (.int 0)))) (aU))))) (aC (aW bF (aC (aA 1) (aC (eC (.int 5)) (aC (e1 gD (e2 dIx (aA 5) (eC (.int 0)))) (aU))))) (aU)))))))))))))
def vB:List D->R D:=fL 1 6 aAm
def aAn:Bd:=cR (e2 dEq (e2 aJt (e2 aQe (aA 0) (aA 1)) (eC (.int 1))) (eC (.int 1)))
def mU:List D->R D:=fL 2 2 aAn
def vC(st:PSt):R D:=(aA 1) st
def vD(st:PSt):R D:=(aW mU (aC (aA 0) (aC (aA 1) (aU)))) st
def aAo:Bd:=cR (bI [1] (tgN 1) (iZ (e1 aE1 (aA 0))) (vD) (vC))
def gM:List D->R D:=fL 1 2 aAo
def aEo(st:PSt):R Fl:=(cN 1 (e2 dOr (aA 1) (aA 2))) st
def aJx:Bd:=bA (cN 1 (eC (.int 0))) (bA (lK (tgN 2) (itE (aA 0)) (aEo)) (cR (aA 1)))
def aBa:List D->R D:=fL 1 3 aJx
def aDf:Bd:=cR (e2 (aWp "JUST_ONE" [false,true,true,false]) (aA 0) (e2 cY (e2 jU (e2 rG (aA 1) (eC (.int 2))) (eC (.int 2))) (e2 rG (aA 2) (eC (.int 2)))))
def lC:List D->R D:=fL 3 3 aDf
def jJ(st:PSt):R D:=(rH (aC (aA 3) (aC (aA 4) (aU)))) st
def mV(st:PSt):R D:=(aW lC (aC (aA 1) (aC (aA 3) (aC (aA 4) (aU))))) st
def uD(st:PSt):R Fl:=(aM7 2 (bI [4] (tgN 4) (itE (e1 aB6 (e1 (dW "Sides" "rights") (aA 0)))) (mV) (jJ))) st
def xP:Bd:=bA (rM 2 (iI (aU))) (bA (lK (tgN 3) (itE (e1 aB6 (e1 (dW "Sides" "lefts") (aA 0)))) (uD)) (sFz [2] (cR (aA 2))))
def lL:List D->R D:=fL 2 5 xP
def lD(st:PSt):R Fl:=(cN 1 (e2 dOr (aA 1) (e2 aJs (eC (.int 1)) (aA 2)))) st
def aCi:Bd:=bA (cN 1 (eC (.int 0))) (bA (lK (tgN 2) (itE (aA 0)) (lD)) (cR (aA 1)))
def lE:List D->R D:=fL 1 3 aCi
def xQ(st:PSt):R Fl:=(sDPut 3 (aA 4) (e2 aJt (e2 dOr (aW lE (aC (e2 dIx (aA 0) (aA 4)) (aU))) (e2 aJs (eC (.int 1)) (aA 4))) (aA 1))) st
def lM(st:PSt):R Fl:=(sIf (aW mU (aC (e2 dIx (eF 3) (aA 4)) (aC (aA 5) (aU)))) (sDPut 3 (aA 4) (e2 dOr (e2 dIx (eF 3) (aA 4)) (e2 dIx (eF 3) (aA 5)))) (dB)) st
def xR(st:PSt):R Fl:=(lK (tgN 4) (itE (aA 2)) (lM)) st
def aBb:Bd:=bA (cN 2 (aW gM (aC (aA 1) (aU)))) (bA (aNr 3 false) (bA (lK (tgN 4) (itE (aA 2)) (xQ)) (bA (lK (tgN 5) (itE (aA 2)) (xR)) (sFz [3] (cR (aA 3))))))
def pN:List D->R D:=fL 2 6 aBb
def aBc:Bd:=bA (cN 2 (aW gM (aC (aA 1) (aU)))) (cR (eOr (e2 dGt (e1 gD (aA 2)) (eC (.int 1))) (e2 dIn (e2 dIx (aA 2) (eC (.int 0))) (e2 dIx (aA 0) (e2 dIx (aA 2) (eC (.int 0)))))))
def pO:List D->R D:=fL 2 3 aBc
def wL(st:PSt):R D:=(aA 6) st
def wM(st:PSt):R D:=(aW mU (aC (e2 dIx (aA 2) (aA 6)) (aC (aA 4) (aU)))) st
def oX(st:PSt):R Fl:=(bA (cN 5 (aW lE (aC (bI [6] (tgN 6) (itE (aW gM (aC (e2 dIx (aA 2) (aA 4)) (aU)))) (wM) (wL)) (aU)))) (sIf (pK (e2 sZ (aA 5) (eF 3)) (aW pO (aC (aA 0) (aC (aA 5) (aU))))) (aI3 3 (aA 5)) (dB))) st
def aA3:Bd:=bA (cN 2 (aW pN (aC (aA 0) (aC (aA 1) (aU))))) (bA (rM 3 (iI (aU))) (bA (lK (tgN 4) (itE (aW gM (aC (aA 1) (aU)))) (oX)) (sFz [3] (cR (aA 3)))))
def nM:List D->R D:=fL 2 7 aA3
def wN(st:PSt):R D:=(aA 4) st
def oY(st:PSt):R D:=(pK (e2 dLe (e2 dIx (aA 5) (eC (.int 0))) (aA 1)) (e2 dLe (e2 dIx (aA 5) (eC (.int 1))) (aA 2))) st
def aA4:Bd:=bA (cN 3 (e2 aGq (e1 (dW "Sides" "lefts") (aA 0)) (e1 (dW "Sides" "rights") (aA 0)))) (cR (aW lE (aC (bI [4,5] (tgT [4,5]) (bDn (aA 3)) (oY) (wN)) (aU))))
def nO:List D->R D:=fL 3 6 aA4
def qH(st:PSt):R D:=(e2 dIx (e1 (dW "Sides" "rights") (aA 0)) (aA 3)) st
def qI(st:PSt):R D:=(e2 dIx (e1 (dW "Sides" "lefts") (aA 0)) (aA 3)) st
def uE:Bd:=bA (cN 2 (aW gM (aC (aA 1) (aU)))) (cR (rH (aC (e1 aNz (bI [3] (tgN 3) (itE (aA 2)) bL (qI))) (aC (e1 aNz (bI [3] (tgN 3) (itE (aA 2)) bL (qH))) (aU)))))
def jK:List D->R D:=fL 2 4 uE
def mW(st:PSt):R D:=(aA 6) st
def mX(st:PSt):R D:=(e2 dEq (aW jK (aC (aA 0) (aC (aA 6) (aU)))) (rH (aC (aA 3) (aC (aA 4) (aU))))) st
def uF(st:PSt):R Fl:=(bA (cN 5 (aW nM (aC (e1 (dW "Sides" "steps") (aA 0)) (aC (aW nO (aC (aA 0) (aC (aA 3) (aC (aA 4) (aU))))) (aU))))) (aM7 2 (bI [6] (tgN 6) (itE (aA 5)) (mX) (mW)))) st
def xT:Bd:=bA (rM 2 (iI (aU))) (bA (lK (tgT [3,4]) (itE (aW lL (aC (aA 0) (aC (aA 1) (aU))))) (uF)) (sFz [2] (cR (aA 2))))
def lN:List D->R D:=fL 2 7 xT
def fG(st:PSt):R Fl:=(bA (cN 9 (rH (aC (aA 8) (aC (e2 aDc (e2 dIx (aA 6) (eC (.int 1))) (e2 dIx (e1 (dW "Sides" "lefts") (aA 0)) (aA 8))) (aC (e2 aDc (e2 dIx (aA 6) (eC (.int 2))) (e2 dIx (e1 (dW "Sides" "rights") (aA 0)) (aA 8))) (aU)))))) (bA (sIf (pK (e2 dEq (aA 8) (aA 2)) (aW lC (aC (aA 1) (aC (e2 dIx (aA 9) (eC (.int 1))) (aC (e2 dIx (aA 9) (eC (.int 2))) (aU)))))) (cR (e2 cY (e2 dIx (eF 3) (aA 6)) (aA 7))) (dB)) (sIf (e2 sZ (aA 9) (eF 3)) (bA (sDPut 3 (aA 9) (e2 cY (e2 dIx (eF 3) (aA 6)) (aA 7))) (aI3 4 (aA 9))) (dB)))) st
def jY(st:PSt):R Fl:=(bA (cN 6 (e2 dIx (eF 4) (aA 5))) (bA (lK (tgT [7,8]) (aO2 (eC (.str [97,98,99])) (e2 dIx (e1 (dW "Sides" "steps") (aA 0)) (e2 dIx (aA 6) (eC (.int 0))))) (fG)) (cN 5 (e2 cY (aA 5) (eC (.int 1)))))) st
def jZ(st:PSt):R D:=(e2 aB5 (aA 5) (e1 gD (eF 4))) st
def aA5:Bd:=bA (aI6 3 (rH (aC (aA 2) (aC (e1 bAk (eC (.int 1))) (aC (e1 bAk (eC (.int 1))) (aU))))) (eC (.str []))) (bA (rM 4 (e1 aAk (eF 3))) (bA (cN 5 (eC (.int 0))) (bA (aI4 100000 (jZ) (jY)) (cR (eC .non)))))
def nP:List D->R D:=fL 3 10 aA5
def uG:Bd:=cR (rH (aC (e2 cY (e1 gD (e2 dIx (aA 0) (eC (.int 0)))) (e1 gD (e2 dIx (aA 0) (eC (.int 1))))) (aC (e1 gD (e2 dIx (aA 0) (eC (.int 0)))) (aC (e2 dIx (aA 0) (eC (.int 0))) (aC (e2 dIx (aA 0) (eC (.int 1))) (aU))))))
def bY:List D->R D:=fL 1 1 uG
def oZ:Bd:=sIf (e2 dNe (e1 (dW "Machine" "letters") (aA 0)) (e1 (dW "Machine" "letters") (aA 1))) (aEi) (dB)
def iQ:List D->R D:=fL 2 2 oZ
def mY(st:PSt):R Fl:=(sDPut 2 (rH (aC (aA 3) (aC (aA 4) (aU)))) (e2 aGq (e2 dIx (e1 (dW "Machine" "steps") (aA 0)) (aA 3)) (e2 dIx (e1 (dW "Machine" "steps") (aA 1)) (aA 4)))) st
def uH(st:PSt):R Fl:=(lK (tgN 4) (iZ (e1 (dW "Machine" "many") (aA 1))) (mY)) st
def qJ:Bd:=bA (aNr 2 true) (bA (lK (tgN 3) (iZ (e1 (dW "Machine" "many") (aA 0))) (uH)) (sFz [2] (cR (aA 2))))
def lO:List D->R D:=fL 2 5 qJ
def tE(st:PSt):R Fl:=(sIf (pK (e2 dIn (aA 8) (aA 2)) (e2 sZ (aA 8) (eF 3))) (bA (sDPut 3 (aA 8) (e2 cY (e2 dIx (eF 3) (aA 6)) (aA 7))) (aI3 4 (aA 8))) (dB)) st
def aA6(st:PSt):R Fl:=(bA (cN 6 (e2 dIx (eF 4) (aA 5))) (bA (lK (tgT [7,8]) (aO2 (eC (.str [97,98,99])) (e2 dIx (aA 0) (aA 6))) (tE)) (cN 5 (e2 cY (aA 5) (eC (.int 1)))))) st
def tH(st:PSt):R D:=(e2 aB5 (aA 5) (e1 gD (eF 4))) st
def xU:Bd:=bA (aI6 3 (aA 1) (eC (.str []))) (bA (rM 4 (iI (aC (aA 1) (aU)))) (bA (cN 5 (eC (.int 0))) (bA (aI4 100000 (tH) (aA6)) (sFz [3] (cR (aA 3))))))
def rO:List D->R D:=fL 3 9 xU
def vG:Bd:=cR (pK (eB isIn (aA 0)) (tD (eB aQc (aA 0))))
def jA:List D->R D:=fL 1 1 vG
def vH:Bd:=cR (pK (aW jA (aC (aA 0) (aU))) (pK (e2 dGe (aA 0) (eC (.int 0))) (e2 aB5 (aA 0) (aA 1))))
def jB:List D->R D:=fL 2 2 vH
def jC:Bd:=sIf (tD (aW jB (aC (aA 1) (aC (e1 (dW "Machine" "many") (aA 0)) (aU))))) (aEi) (dB)
def cG:List D->R D:=fL 2 2 jC
def qK(st:PSt):R D:=(e2 dIx (aA 6) (aA 7)) st
def qL(st:PSt):R D:=(eMt aSv (e1 (dW "Sides" "pairs") (eF 0)) (aC (aA 8) (aU))) st
def qM(st:PSt):R D:=(bI [8] (tgN 8) (itE (e2 dIx (aA 5) (aA 7))) bL (qL)) st
def qN(st:PSt):R D:=(e2 dIx (e1 (dW "Machine" "ranks") (aA 1)) (e2 dIx (aA 7) (eC (.int 0)))) st
def qO(st:PSt):R D:=(e2 dIx (e1 (dW "Machine" "ranks") (aA 2)) (e2 dIx (aA 7) (eC (.int 1)))) st
def gW:Bd:=bA (aWf (aW iQ (aC (aA 1) (aC (aA 2) (aU))))) (bA (aWf (aSi "Machine" "check_room" (cG) [] (aA 1) (aC (aA 3) (aU)))) (bA (aWf (aSi "Machine" "check_room" (cG) [] (aA 2) (aC (aA 4) (aU)))) (bA (cN 5 (aW lO (aC (aA 1) (aC (aA 2) (aU))))) (bA (cN 6 (aW rO (aC (aA 5) (aC (rH (aC (aA 3) (aC (aA 4) (aU)))) (aC (e1 aAk (aA 5)) (aU)))))) (bA (wG 0 "Sides" "pairs" (e1 aGp (aA 6))) (bA (wG 0 "Sides" "fronts" (bI [7] (tgN 7) (itE (e1 (dW "Sides" "pairs") (eF 0))) bL (qK))) (bA (wG 0 "Sides" "steps" (bI [7] (tgN 7) (itE (e1 (dW "Sides" "pairs") (eF 0))) bL (qM))) (bA (wG 0 "Sides" "lefts" (bI [7] (tgN 7) (itE (e1 (dW "Sides" "pairs") (eF 0))) bL (qN))) (wG 0 "Sides" "rights" (bI [7] (tgN 7) (itE (e1 (dW "Sides" "pairs") (eF 0))) bL (qO)))))))))))
def jL:List D->R D:=aG2 "Sides" 4 9 gW
def wO(st:PSt):R D:=(rH (aC (e2 dIx (e1 (dW "Sides" "fronts") (aA 5)) (aA 8)) (aC (aW nP (aC (aA 5) (aC (aA 2) (aC (aA 8) (aU))))) (aU)))) st
def aA7:Bd:=bA (cN 5 (aW jL (aC (aA 0) (aC (aA 1) (aC (aA 3) (aC (aA 4) (aU))))))) (bA (cN 6 (aW gM (aC (aW aBa (aC (aW lN (aC (aA 5) (aC (aA 2) (aU)))) (aU))) (aU)))) (bA (cN 7 (bI [8] (tgN 8) (itE (aA 6)) bL (wO))) (cR (e1 (aJw bY) (aA 7)))))
def fO:List D->R D:=fL 5 9 aA7
def qP(st:PSt):R D:=(e2 cY (aA 5) (e2 dIx (eC (.str [97,98,99])) (aA 6))) st
def xV(st:PSt):R Fl:=(aM7 4 (bI [6] (tgN 6) (iZ (aA 1)) bL (qP))) st
def xW(st:PSt):R Fl:=(bA (rM 4 (iI (aU))) (bA (lK (tgN 5) (itE (aA 2)) (xV)) (sFz [4] (cN 2 (aA 4))))) st
def aBd:Bd:=bA (cN 2 (iI (aC (eC (.str [])) (aU)))) (bA (lK (tgN 3) (iZ (aA 0)) (xW)) (cR (aA 2)))
def pP:List D->R D:=fL 2 7 aBd
def xX(st:PSt):R Fl:=(bA (cN 5 (e2 aDc (aA 5) (e2 dIx (e2 dIx (aA 0) (eC (.int 1))) (aA 3)))) (bA (cN 6 (e2 aDc (aA 6) (e2 dIx (e2 dIx (aA 1) (eC (.int 1))) (aA 4)))) (bA (cN 3 (e2 dIx (e2 dIx (e2 dIx (aA 0) (eC (.int 0))) (aA 3)) (eMt aAi (eC (.str [97,98,99])) (aC (aA 7) (aU))))) (cN 4 (e2 dIx (e2 dIx (e2 dIx (aA 1) (eC (.int 0))) (aA 4)) (eMt aAi (eC (.str [97,98,99])) (aC (aA 7) (aU)))))))) st
def aBe:Bd:=bA (cN 5 (eC (.int 0))) (bA (cN 6 (eC (.int 0))) (bA (lK (tgN 7) (itE (aA 2)) (xX)) (cR (iI (aC (aA 3) (aC (aA 4) (aC (e2 cY (e2 jU (eC (.int 2)) (e2 rG (aA 5) (eC (.int 2)))) (e2 rG (aA 6) (eC (.int 2)))) (aU))))))))
def lQ:List D->R D:=fL 5 8 aBe
def uI:Bd:=bA (aM6 (tgT [6,7]) (aA 3)) (bA (aM6 (tgT [8,9,10]) (aW lQ (aC (aA 0) (aC (aA 1) (aC (aA 6) (aC (aA 4) (aC (aA 5) (aU)))))))) (bA (aM6 (tgT [11,12,10]) (aW lQ (aC (aA 0) (aC (aA 1) (aC (aA 7) (aC (aA 8) (aC (aA 9) (aU)))))))) (cR (pK (e2 dEq (rH (aC (aA 11) (aC (aA 12) (aU)))) (rH (aC (aA 8) (aC (aA 9) (aU))))) (e2 dIx (aA 2) (aA 10))))))
def dH:List D->R D:=fL 6 13 uI
def xY(st:PSt):R D:=(aW pP (aC (aA 9) (aC (aA 6) (aU)))) st
def lU(st:PSt):R Fl:=(sIf (aW dH (aC (aA 0) (aC (aA 1) (aC (aA 2) (aC (rH (aC (aA 10) (aC (aA 11) (aU)))) (aC (aA 3) (aC (aA 4) (aU)))))))) (cR (rH (aC (aA 10) (aC (aA 11) (aU))))) (dB)) st
def xZ(st:PSt):R Fl:=(lK (tgN 11) (itE (e2 dIx (aA 7) (e2 aM5 (aA 8) (aA 9)))) (lU)) st
def yC(st:PSt):R Fl:=(lK (tgN 10) (itE (e2 dIx (aA 7) (aA 9))) (xZ)) st
def lV(st:PSt):R Fl:=(lK (tgN 9) (iZ (aA 8)) (yC)) st
def aBf:Bd:=bA (cN 6 (e1 gD (e2 dIx (e2 dIx (aA 0) (eC (.int 0))) (eC (.int 0))))) (bA (cN 7 (bI [9] (tgN 9) (iZ (e2 cY (aA 5) (eC (.int 1)))) bL (xY))) (bA (lK (tgN 8) (bAm (eC (.int 1)) (e2 cY (aA 5) (eC (.int 1)))) (lV)) (cR (eC .non))))
def fM:List D->R D:=fL 6 12 aBf
def tK(st:PSt):R D:=(aA 3) st
def nQ(st:PSt):R D:=(e2 sZ (aA 3) (eSl (eC (.str [97,98,99])) (xM) (xN (aA 1)))) st
def aA8(st:PSt):R Fl:=(sIf (eOr (tD (eB bD7 (aA 2))) (e2 dNe (bI [3] (tgN 3) (itE (aA 2)) (nQ) (tK)) (iI (aU)))) (cR (eC (.bl false))) (dB)) st
def aDg:Bd:=bA (sIf (eOr (tD (eB bD8 (aA 0))) (e2 dNe (e1 gD (aA 0)) (eC (.int 2)))) (cR (eC (.bl false))) (dB)) (bA (lK (tgN 2) (itE (aA 0)) (aA8)) (cR (e2 dNe (e2 dIx (aA 0) (eC (.int 1))) (eC (.str [])))))
def lF:List D->R D:=fL 2 4 aDg
def vI:Bd:=bA (cN 6 (e1 gD (e2 dIx (e2 dIx (aA 0) (eC (.int 0))) (eC (.int 0))))) (bA (cN 7 (e2 dIx (iI (aC (eC (.int 0)) (aC (eC (.int 10)) (aC (eC (.int 6)) (aC (eC (.int 4)) (aU)))))) (aA 6))) (bA (sIf (e2 dIs (aA 5) (eC .non)) (cR (e2 dIs (aW fM (aC (aA 0) (aC (aA 1) (aC (aA 2) (aC (aA 3) (aC (aA 4) (aC (aA 7) (aU)))))))) (eC .non))) (dB)) (bA (sIf (eOr (tD (aW lF (aC (aA 5) (aC (aA 6) (aU))))) (tD (aW dH (aC (aA 0) (aC (aA 1) (aC (aA 2) (aC (aA 5) (aC (aA 3) (aC (aA 4) (aU)))))))))) (cR (eC (.bl false))) (dB)) (bA (cN 8 (aW fM (aC (aA 0) (aC (aA 1) (aC (aA 2) (aC (aA 3) (aC (aA 4) (aC (e2 aJo (aA 7) (e2 cY (e1 gD (e2 dIx (aA 5) (eC (.int 0)))) (e1 gD (e2 dIx (aA 5) (eC (.int 1)))))) (aU))))))))) (cR (eOr (pK (e2 dIs (aA 8) (eC .non)) (e2 dGt (e2 cY (e1 gD (e2 dIx (aA 5) (eC (.int 0)))) (e1 gD (e2 dIx (aA 5) (eC (.int 1))))) (aA 7))) (e2 dEq (aA 8) (aA 5))))))))
def lW:List D->R D:=fL 6 9 vI
def yD:Bd:=cR (aW fO (aC (aA 0) (aC (aA 1) (aC (eC (.fn "JUST_ONE")) (aC (aA 2) (aC (aA 3) (aU)))))))
def fU:List D->R D:=fL 4 4 yD
def mZ:Bd:=cR (pK (eB aQd (aA 0)) (pK (e2 dGe (e1 gD (aA 0)) (eC (.int 1))) (e2 dLe (e1 gD (aA 0)) (aA 1))))
def eN:List D->R D:=fL 2 2 mZ
def aAp(st:PSt):R D:=(aW jB (aC (aA 3) (aC (aA 2) (aU)))) st
def aEp:Bd:=cR (pK (e2 dEq (e1 gD (aA 0)) (aA 1)) (e1 aDv (bI [3] (tgN 3) (itE (aA 0)) bL (aAp))))
def aBg:List D->R D:=fL 3 4 aEp
def tL(st:PSt):R D:=(aW eN (aC (aA 1) (aC (eC (.int 3)) (aU)))) st
def tM(st:PSt):R D:=(aW aBg (aC (aA 1) (aC (e1 gD (e2 dIx (aA 0) (eC (.int 0)))) (aC (e1 gD (aA 0)) (aU))))) st
def yE:Bd:=bA (sIf (tD (aW eN (aC (aA 0) (aC (eC (.int 8)) (aU))))) (cR (eC (.bl false))) (dB)) (bA (sIf (tD (e1 aDv (bI [1] (tgN 1) (itE (aA 0)) bL (tL)))) (cR (eC (.bl false))) (dB)) (cR (e1 aDv (bI [1] (tgN 1) (itE (aA 0)) bL (tM)))))
def rP:List D->R D:=fL 1 2 yE
def tQ(st:PSt):R D:=(pK (aW jA (aC (aA 2) (aU))) (e2 dGe (aA 2) (eC (.int 0)))) st
def yF:Bd:=bA (sIf (eOr (tD (eB aQd (aA 0))) (e2 dNe (e1 gD (aA 0)) (aA 1))) (cR (eC (.bl false))) (dB)) (cR (e1 aDv (bI [2] (tgN 2) (itE (aA 0)) bL (tQ))))
def rQ:List D->R D:=fL 2 3 yF
def jD(st:PSt):R D:=(e1 aA0 (aA 3)) st
def fV:Bd:=bA (sIf (tD (aW rP (aC (aA 1) (aU)))) (aEi) (dB)) (bA (sIf (tD (aW rQ (aC (aA 2) (aC (e1 gD (aA 1)) (aU))))) (aEi) (dB)) (bA (wG 0 "Machine" "steps" (bI [3] (tgN 3) (itE (aA 1)) bL (jD))) (bA (wG 0 "Machine" "ranks" (e1 aA0 (aA 2))) (bA (wG 0 "Machine" "many" (e1 gD (aA 1))) (wG 0 "Machine" "letters" (e1 gD (e2 dIx (aA 1) (eC (.int 0)))))))))
def fW:List D->R D:=aG2 "Machine" 2 4 fV
def aWq(st:PSt):R D:=(e1 aA0 (aA 12)) st
def aWr(st:PSt):R D:=(e1 aA0 (aA 12)) st
def aBh(st:PSt):R D:=(e2 aB5 (aW bF (aC (aA 10) (aC (aA 13) (aC (eC (.int 5)) (aU))))) (eC (.int 2))) st
def aI7(st:PSt):R Fl:=(bA (cN 10 (aW dG (aC (aA 0) (aC (e2 cY (eC (.int 19)) (aA 4)) (aU))))) (bA (cN 11 (e1 dTup (bI [13] (tgN 13) (iZ (eC (.int 4))) bL (aBh)))) (bA (cN 5 (aW fO (aC (aA 1) (aC (aA 2) (aC (aA 11) (aC (aA 8) (aC (aA 9) (aU)))))))) (bA (sIf (tD (aW lW (aC (aA 6) (aC (aA 7) (aC (aA 11) (aC (aA 8) (aC (aA 9) (aC (aA 5) (aU))))))))) (cR (eC (.bl false))) (dB)) (aI3 3 (rH (aC (aA 11) (aC (aA 5) (aU))))))))) st
def aO5(st:PSt):R Fl:=(sIf (e2 dNe (aW fO (aC (aA 1) (aC (aA 2) (aC (aA 11) (aC (aA 8) (aC (aA 9) (aU))))))) (aA 5)) (cR (eC (.bl false))) (dB)) st
def aSw:Bd:=bA (aM6 (tgT [6,7,8,9]) (aW vB (aC (aA 0) (aU)))) (bA (cN 1 (aW fW (aC (bI [12] (tgN 12) (itE (e2 dIx (aA 6) (eC (.int 0)))) bL (aWq)) (aC (e1 aA0 (e2 dIx (aA 6) (eC (.int 1)))) (aU))))) (bA (cN 2 (aW fW (aC (bI [12] (tgN 12) (itE (e2 dIx (aA 7) (eC (.int 0)))) bL (aWr)) (aC (e1 aA0 (e2 dIx (aA 7) (eC (.int 1)))) (aU))))) (bA (rM 3 (iI (aU))) (bA (lK (tgN 4) (iZ (eC (.int 2))) (aI7)) (bA (cN 5 (aMa fU [.int 0,.int 0] (aC (aA 1) (aC (aA 2) (aU))))) (bA (sIf (tD (aW lW (aC (aA 6) (aC (aA 7) (aC (rH (aC (eC (.bl false)) (aC (eC (.bl true)) (aC (eC (.bl true)) (aC (eC (.bl false)) (aU)))))) (aC (eC (.int 0)) (aC (eC (.int 0)) (aC (aA 5) (aU))))))))) (cR (eC (.bl false))) (dB)) (bA (sFz [3] (lK (tgT [11,5]) (itE (aA 3)) (aO5))) (cR (pK (e2 dEq (e1 (dW "Machine" "steps") (aA 1)) (e2 dIx (aA 6) (eC (.int 0)))) (e2 dEq (e1 (dW "Machine" "ranks") (aA 2)) (e2 dIx (aA 7) (eC (.int 1)))))))))))))
def aGr:List D->R D:=fL 1 14 aSw
end
@[simp] theorem aJy(x:List D):aDv (.lst x)=(bls x).bind λl=>.ok (.bl (l.all id)):=rfl
@[simp] theorem bCd(x:List D):aA0 (.lst x)=.ok (.lst x):=rfl
def aSx{x:List D}{l:List Bool}(h:x=l.map D.bl)(ht:∀b∈l,b=true):aDv (.lst x)=.ok (.bl true):=by
 subst h;rw[aJy,aO0];have:l.all id=true:=bLm.mpr λb hb=>by simp[ht b hb]
 simp[this]
def Ltr(m:Int)(x:List Nat):Prop:=∀c∈x,97<=c/\(c:Int)<97+m
def aJ{a b:Bd}{st:PSt}{r:R Fl}(h:a st=.ok (.nx st'))(h2:b st'=r):bA a b st=r:=by
 rw[aNw,h];exact h2
def dI{a b:Bd}{st:PSt}{r:R Fl}(h:a st=.ok (.nx st))(h2:b st=r):bA a b st=r:=aJ h h2
def qQ{a b:Bd}{st:PSt} (h:a st=.ok (.rt d)):bA a b st=.ok (.rt d):=by
 rw[aNw,h];rfl
def cL{b:Bd} {d:D} (h:ds.length=np) (hb:b (ds.map (λd=>some (.v d))++List.replicate (n-np) none)=.ok (.rt d)):fL np n b ds=.ok d:=by
 rw[aWn h,hb];rfl
def aDh(n:Nat):qF 0 n=(List.range n).map λ(k:Nat)=>D.int (k:Int):=by
 unfold qF;refine bHu λk _=>?_
 rw[Int.zero_add]
theorem aCj{tg:Tg}{c f:Ex}{st:PSt}(g:D->D):∀(ds:List D),(∀d∈ds,∃s1,tg d st=.ok s1/\c s1=.ok (.bl true)/\f s1=.ok (g d))->jO tg c f st ds=.ok (ds.map g)
 |[],_=>rfl
 |d::ds,h=>by
  obtain⟨s1,e1,e2,e3⟩:=h d bFx;rw[kJ,e1];simp only[aK,e2,mR,if_true,e3,aCj g ds λd hd=>h d (mem_cons_of_mem _ hd),map_cons]
def bG{st:PSt} (h:f st=.ok d):cN i f st=.ok (.nx (st.set i (some (.v d)))):=by rw[aNx,h,aK]
def pQ{st:PSt} (h:f st=.ok (.lst xs)):rM i f st=.ok (.nx (st.set i (some (.o .l xs)))):=by rw[aSl,h,aK]
def aR{st:PSt} {x:R D} (h:r st=.ok ds) (hp:p ds=x):aW p r st=x:=by rw[aSk,h,aK,hp]
def aH{op:Op2} {st:PSt} {x y:D} {z:R D} (hf:f st=.ok x) (hg:g st=.ok y) (h:op x y=z):e2 op f g st=z:=by rw[aJp,hf,aK,hg,aK,h]
def yG{c:Ex}{a b:Bd}{st:PSt}{r:R Fl}(h:c st=.ok (.bl true))(ha:a st=r):sIf c a b st=r:=by rw[aM8,h,aK,mR,bGa rfl,ha]
def oM{c:Ex}{a b:Bd}{st:PSt}{r:R Fl}(h:c st=.ok (.bl false))(hb:b st=r):sIf c a b st=r:=by rw[aM8,h,aK,mR,bG7 bGh,hb]
def vJ{st:PSt}{p:Bool}(hf:f st=.ok (.bl p))(hg:p=true->g st=.ok (.bl q)):pK f g st=.ok (.bl (p&&q)):=by
 rw[aNu,hf,aK,mR];cases p with
 |true=>rw[bGa rfl,hg rfl];rfl
 |false=>rfl
def aGs{st:PSt}{p:Bool}(hf:f st=.ok (.bl p))(hg:p=false->g st=.ok (.bl q)):eOr f g st=.ok (.bl (p||q)):=by
 rw[bAn,hf,aK,mR];cases p with
 |true=>rfl
 |false=>rw[bG7 bGh,hg rfl];rfl
def aCk{st:PSt}{p:Bool}(hf:f st=.ok (.bl p)):tD f st=.ok (.bl (!p)):=by rw[aNv,hf,aK,mR]
def dX{st:PSt} (h:f st=.ok d):cR f st=.ok (.rt d):=by rw[zO,h,aK]
def dY{tg:Tg} {st:PSt} {r:R Fl} (h:it st=.ok xs) (hr:forR tg L xs st=r):lK tg it L st=r:=by rw[aNy,h,aK,hr]
def aP{st:PSt}{d:D} (h:f st=.ok d) (hr:r st=.ok ds):aC f r st=.ok (d::ds):=by rw[aSj,h,aK,hr,aK]
def gY{st:PSt} (h:r st=.ok ds) (hl:ds.length<=1000:=by exact bIp rfl):iI r st=.ok (.lst ds):=by rw[aWh,h,aK,aF (fC (bGy hl (by decide)))]
def kO{i j:Int}(h:0<j):rG (.int i) (.int j)=.ok (.int (i%j)):=aF h
def aWs{i j:Int}(h:0<j/\j<1073741824):aNq (.int i) (.int j)=.ok (.int (i/j)):=aF h
def aCl(i j:Int):dEq (.int i) (.int j)=.ok (.bl (decide (i=j))):=by
 have:(i==j)=decide (i=j):=by by_cases h:i=j<;>simp[h]
 rw[<-this];exact aF ⟨bHp 64,rfl,rfl⟩
def bAs(i j:Int):dNe (.int i) (.int j)=.ok (.bl (!decide (i=j))):=by
 have:(i==j)=decide (i=j):=by by_cases h:i=j<;>simp[h]
 rw[<-this];exact aF ⟨bHp 64,rfl,rfl⟩
def aCm{st:PSt} (h:f st=.ok d) (hs:st[i]?=some (some (.o .l xs))) (hl:xs.length<1000000):aI3 i f st=.ok (.nx (st.set i (some (.o .l (xs++[d]))))):=by
 rw[aWj,h,aK,hs];exact aF (aI0 (bJm hl (by decide)))
def aBi{st:PSt} (h:f st=.ok (.int n)) (hn:n<=1000000):iZ f st=.ok ((List.range n).map λ(k:Nat)=>D.int (k:Int)):=by
 rw[aWi,h,aK,<-aDh];exact aF ⟨aI1 (by omega),aE0 (by omega)⟩
def nR{E C:Ex}{is:List Nat}{tg:Tg} {st:PSt} {ys:List D} (h:it st=.ok xs) (hl:xs.length<=1000000) (hc:jO tg C E (clr is st) xs=.ok ys):bI is tg it C E st=.ok (.lst ys):=by
 rw[aJr,h,aK,aF (fC (bGy hl (by decide))),hc,aK]
def aEq{c:Ex}{b:Bd}{st:PSt} {r:R Fl} (hc:c st=.ok (.bl true)) (hb:b st=.ok (.nx st')) (hr:jP c b n st'=r):jP c b (n+1) st=r:=by
 rw[xO,hc,aK,mR,bGa rfl,hb];exact hr
def aGt{c:Ex}{b:Bd}{st:PSt} (hc:c st=.ok (.bl false)):jP c b (n+1) st=.ok (.nx st):=by rw[xO,hc,aK,mR,bG7 bGh]
def fX{tg:Tg} {d:D} {st s2:PSt} {r:R Fl} (ht:tg d st=.ok s1) (hL:L s1=.ok (.nx s2)) (hr:forR tg L ds s2=r):forR tg L (d::ds) st=r:=by
 rw[aCe,ht,aK,hL];exact hr
def fY{i:Int} (h:atI xs i=some d):dIx (.lst xs) (.int i)=.ok d:=by
 show ofO (atI xs i)=_;rw[h];rfl
def aWt{p q:Nat}(h:p<q):decide ((p:Int)<(q:Int))=true:=bGe (by omega)
def bDp{p q:Nat}(h:¬ p<q):decide ((p:Int)<(q:Int))=false:=bG3 (by omega)
def gJ{r:R D}{p:Bool}(h:r=.ok (.bl p))(e:p=q):r=.ok (.bl q):=by rw[h,e]
def oN{st:PSt} (h:f st=.ok (.lst xs)):itE f st=.ok xs:=by rw[bAo,h,aK]
def aMb{st:PSt}{ys:List D}(h:f st=.ok (.lst ys))(hs:st[i]?=some (some (.o .l xs)))(hl:xs.length+ys.length<=big):aM7 i f st=.ok (.nx (st.set i (some (.o .l (xs++ys))))):=by
 rw[aWk,h,aK];dsimp only;rw[hs];exact aF hl
def nats(l:List Nat):List D:=l.map λ(x:Nat)=>D.int (x:Int)
structure Mch(S:List (List Nat))(rk:List Nat)(c:Nat):Prop where
 one:1<=S.length
 most:S.length<=8
 c1:1<=c
 c3:c<=3
 row:∀r∈S,r.length=c/\∀x∈r,x<S.length
 rks:rk.length=S.length
def stD(S:List (List Nat)):List D:=S.map λr=>D.lst (nats r)
theorem aEr{tg:Tg}{c f:Ex}{st:PSt}{P:D->D->Prop}:∀(ds:List D),(∀d∈ds,∃s1 y,tg d st=.ok s1/\c s1=.ok (.bl true)/\f s1=.ok y/\P d y)->∃ys,jO tg c f st ds=.ok ys/\ys.length=ds.length/\∀y∈ys,∃d∈ds,P d y
 |[],_=>⟨[],rfl,rfl,λ_ h=>nomatch h⟩
 |d::ds,h=>by
  obtain⟨s1,y,e1,e2,e3,e4⟩:=h d bFx;obtain⟨ys,e5,e6,e7⟩:=aEr ds λd hd=>h d (bFw _ hd)
  refine⟨y::ys,?_,by simp[e6],λz hz=>?_⟩
  .rw[kJ,e1];simp[e2,e3,e5]
  .rcases bG0.mp hz with rfl|hz
   .exact⟨d,bFx,e4⟩
   .obtain⟨d',h1,h2⟩:=e7 z hz;exact⟨d',bFw _ h1,h2⟩
theorem aO6:∀(ys:List D)(c n:Nat),(∀y∈ys,∃r:List Nat,y=.lst (nats r)/\r.length=c/\∀x∈r,x<n)->∃S:List (List Nat),ys=stD S/\∀r∈S,r.length=c/\∀x∈r,x<n
 |[],_,_,_=>⟨[],rfl,λ_ h=>nomatch h⟩
 |y::ys,c,n,h=>by
  obtain⟨r,rfl,h1⟩:=h y bFx;obtain⟨S,rfl,h2⟩:=aO6 ys c n λy hy=>h y (bFw _ hy)
  refine⟨r::S,rfl,λr' hr=>?_⟩
  rcases bG0.mp hr with rfl|hr
  .exact h1
  .exact h2 r' hr
def aO7{xs:List α}{i:Int}(h0:0<=i)(h:i<xs.length):∃a∈xs,atI xs i=some a:=⟨_,bGq _,aSo h0 h⟩
def aBj{E:Ex}{st:PSt}{v:Nat}{xs:List D}(hv:st[v]?=some (some (.v (.lst xs))))(hl:xs.length<=100000)(h:∀d∈xs,E ((st.set j none).set j (some (.v d)))=.ok (.bl true)):e1 aDv (bI [j] (tgN j) (itE (aA v)) bL E) st=.ok (.bl true):=by
 have e:=aCj (tg:=tgN j) (c:=bL) (f:=E) (st:=st.set j none) (λ_=>D.bl true) xs λd hd=>⟨_,rfl,rfl,h d hd⟩
 have e2:xs.map (λ_=>D.bl true)=(xs.map λ_=>true).map D.bl:=by simp
 simp[hv,show xs.length<=big from fC (by omega),e]
 rw[e2,<-aJy];exact aSx rfl λb hb=>by obtain⟨_,_,z⟩:=bGc.mp hb;exact z.symm
def aQg{E:Ex}{st:PSt}{v:Nat}{xs:List D}(hv:st[v]?=some (some (.v (.lst xs))))(hl:xs.length<=100000)(h:∀d∈xs,E ((st.set j none).set j (some (.v d)))=.ok d):bI [j] (tgN j) (itE (aA v)) bL E st=.ok (.lst xs):=by
 have e:=aCj (tg:=tgN j) (c:=bL) (f:=E) (st:=st.set j none) id xs λd hd=>⟨_,rfl,rfl,h d hd⟩
 simp[hv,show xs.length<=big from fC (by omega),e]
def aJz(n:Int):D->Bool
 |.int i=>decide (0<=i)&&decide (i<n)
 |_=>false
def aGu(i:Int):jA [.int i]=.ok (.bl true):=by
 unfold jA vG;simp[isIn,aQc]
def aSy(d:D)(hb:aG1 d=true):jA [d]=.ok (.bl (isIn d && !aQc d)):=by
 unfold jA vG;cases hi:isIn d<;>simp[hb,hi]
def aSz(d:D)(n:Int)(hb:aG1 d=true):jB [d,.int n]=.ok (.bl (aJz n d)):=by
 have hw:=aSy d hb;unfold jB vH;cases d<;>first|(simp[hw,isIn,aQc,aJz];done)|skip
 rename_i i
 by_cases h0:0<=i<;>simp[hw,isIn,aQc,aJz,h0]
def aQh{x:Nat}(h:x<n):jB [.int x,.int n]=.ok (.bl true):=by
 have hw:=aGu x;unfold jB vH;simp[hw,h]
def aGv(xs:List D)(m:Int):eN [.lst xs,.int m]=.ok (.bl (decide (1<=(xs.length:Int))&&decide ((xs.length:Int)<=m))):=by
 unfold eN mZ
 by_cases h:1<=xs.length
 .have h':(1:Int)<=xs.length:=by omega
  simp[aQd,h,h']
 .have h':¬ (1:Int)<=xs.length:=by omega
  simp[aQd,h,h']
def bH(r:List Nat):(nats r).length=r.length:=by unfold nats;simp
def gU(S:List (List Nat)):(stD S).length=S.length:=by unfold stD;simp
def qR{r:List Nat} (h:d∈nats r):∃x∈r,d=.int (x:Nat):=by
 obtain⟨x,h1,h2⟩:=bGc.mp h;exact⟨x,h1,h2.symm⟩
def aE3{S:List (List Nat)} (h:d∈stD S):∃r∈S,d=.lst (nats r):=by
 obtain⟨x,h1,h2⟩:=bGc.mp h;exact⟨x,h1,h2.symm⟩
def bAt(r:List Nat)(n:Nat)(h:∀x∈r,x<n)(hl:r.length<=1000):aBg [.lst (nats r),.int r.length,.int n]=.ok (.bl true):=by
 have e:=aBj (E:=aAp) (st:=[some (.v (.lst (nats r))),some (.v (.int r.length)),some (.v (.int n)),none]) (j:=3) (v:=0) (xs:=nats r) rfl (by rw[bH];omega) (λd hd=>by
  obtain⟨x,hx,rfl⟩:=qR hd;have:=h x hx;simp[aAp,aQh this])
 refine cL rfl ?_
 unfold aEp;have h1:e2 dEq (e1 gD (aA 0)) (aA 1) [some (.v (.lst (nats r))),some (.v (.int r.length)),some (.v (.int n)),none]=.ok (.bl true):=by simp[bH]
 show cR _ [some (.v (.lst (nats r))),some (.v (.int r.length)),some (.v (.int n)),none]=_;rw[zO,aNu,h1];show (e1 aDv _ _).bind _=_;rw[e];rfl
def mD(S:List (List Nat))(rk:List Nat)(c:Nat):D:=.ins "Machine" ["steps","ranks","many","letters"] [.lst (stD S),.lst (nats rk),.int S.length,.int c]
section
variable {c:Nat}
def Mch.row0(M:Mch S rk c):∃r T,S=r::T/\r.length=c:=by
 cases S with
 |nil=>exact absurd M.one (by simp)
 |cons r T=>exact⟨r,T,rfl,(M.row r bFx).1⟩
def Mch.at0(M:Mch S rk c):∃r,r∈S/\atI (stD S) 0=some (.lst (nats r))/\r.length=c:=by
 obtain⟨r,T,rfl,h⟩:=M.row0;refine⟨r,bFx,?_,h⟩;have:=atI_nat (xs:=stD (r::T)) (i:=0) (by simp[stD])
 simpa [stD] using this
def aT0(M:Mch S rk c):rP [.lst (stD S)]=.ok (.bl true):=by
 obtain⟨r0,hr0,e0,l0⟩:=M.at0;have h1:=M.one;have h8:=M.most;have f1:=aGv (stD S) 8;rw[gU]at f1;have f1':eN [.lst (stD S),.int 8]=.ok (.bl true):=by rw[f1];congr 2;simp;omega
 have a1:=aBj (E:=tL) (st:=[some (.v (.lst (stD S))),none]) (j:=1) (v:=0) (xs:=stD S) rfl (by rw[gU];omega) (λd hd=>by
  obtain⟨r,hr,rfl⟩:=aE3 hd;have f:=aGv (nats r) 3;rw[bH,(M.row r hr).1]at f;have h3:=M.c3;have h0:=M.c1;simp[tL,f];omega)
 have a2:=aBj (E:=tM) (st:=[some (.v (.lst (stD S))),none]) (j:=1) (v:=0) (xs:=stD S) rfl (by rw[gU];omega) (λd hd=>by
  obtain⟨r,hr,rfl⟩:=aE3 hd;have h3:=M.c3;have f:=bAt r S.length (M.row r hr).2 (by rw[(M.row r hr).1];omega)
  have el:(nats r0).length=r.length:=by rw[bH,l0,(M.row r hr).1]
  simp[tM,e0,el,gU,f])
 refine cL rfl ?_
 unfold yE;refine dI (by simp[f1']) (dI ?_ ?_)
 .rw[aM8,aNv];show ((e1 aDv _ [some (.v (.lst (stD S))),none]).bind _).bind _=_;rw[a1];rfl
 .rw[zO];show (e1 aDv _ [some (.v (.lst (stD S))),none]).bind _=_;rw[a2];rfl
def aT1(M:Mch S rk c):rQ [.lst (nats rk),.int S.length]=.ok (.bl true):=by
 have h8:=M.most;have a1:=aBj (E:=tQ) (st:=[some (.v (.lst (nats rk))),some (.v (.int S.length)),none]) (j:=2) (v:=0) (xs:=nats rk) rfl (by rw[bH,M.rks];omega) (λd hd=>by
  obtain⟨x,hx,rfl⟩:=qR hd;simp[tQ,aGu])
 refine cL rfl ?_
 unfold yF;refine dI (by simp[aQd,bH,M.rks]) ?_
 rw[zO];show (e1 aDv _ [some (.v (.lst (nats rk))),some (.v (.int S.length)),none]).bind _=_;rw[a1];rfl
def aEs:dW "Machine" "many" (mD S rk c)=.ok (.int S.length):=by unfold mD;rw[oK,aF rfl];rfl
def aK0:dW "Machine" "letters" (mD S rk c)=.ok (.int c):=by unfold mD;rw[oK,aF rfl];rfl
def aCn:dW "Machine" "steps" (mD S rk c)=.ok (.lst (stD S)):=by unfold mD;rw[oK,aF rfl];rfl
end
section
variable {c:Nat}
def aO8(M:Mch S rk c):fW [.lst (stD S),.lst (nats rk)]=.ok (mD S rk c):=by
 obtain⟨r0,hr0,e0,l0⟩:=M.at0;have h8:=M.most;refine aNs λx=>?_
 unfold aEj;rw[aF (show ([D.lst (stD S),D.lst (nats rk)]:List D).length=2 from rfl)]
 have hs:=aT0 M;have hk:=aT1 M;have cp:=aQg (E:=jD) (st:=[some (.o (.i x "Machine" []) []),some (.v (.lst (stD S))),some (.v (.lst (nats rk))),none]) (j:=3) (v:=1) (xs:=stD S) rfl (by rw[gU];omega) (λd hd=>by
  obtain⟨r,hr,rfl⟩:=aE3 hd;simp[jD])
 have key:fV [some (.o (.i x "Machine" []) []),some (.v (.lst (stD S))),some (.v (.lst (nats rk))),none]=.ok (.nx [some (.o (.i x "Machine" ["steps","ranks","many","letters"]) [.lst (stD S),.lst (nats rk),.int S.length,.int c]),some (.v (.lst (stD S))),some (.v (.lst (nats rk))),none]):=by
  unfold fV;refine dI (by simp[hs]) (dI (by simp[gU,hk]) ?_)
  refine aJ (st':=[some (.o (.i x "Machine" ["steps"]) [.lst (stD S)]),some (.v (.lst (stD S))),some (.v (.lst (nats rk))),none]) ?_ ?_
  .rw[aJq,cp];simp
  refine aJ (st':=[some (.o (.i x "Machine" ["steps","ranks"]) [.lst (stD S),.lst (nats rk)]),some (.v (.lst (stD S))),some (.v (.lst (nats rk))),none]) (by simp) ?_
  refine aJ (st':=[some (.o (.i x "Machine" ["steps","ranks","many"]) [.lst (stD S),.lst (nats rk),.int S.length]),some (.v (.lst (stD S))),some (.v (.lst (nats rk))),none]) (by simp[gU]) ?_
  simp[e0,bH,l0]
 show (fV [some (.o (.i x "Machine" []) []),some (.v (.lst (stD S))),some (.v (.lst (nats rk))),none]).bind _=_;rw[key];simp[mD]
end
def aCo(x:Nat)(l:List Nat):nats (x::l)=.int (x:Nat)::nats l:=rfl
def aT2(r:List Nat)(S:List (List Nat)):stD (r::S)=.lst (nats r)::stD S:=rfl
theorem qT:∀l:List Nat,cZ (nats l)=true/\fZ (nats l)=0/\lJ (nats l) (nats l)=true
 |[]=>⟨rfl,by unfold nats;simp,by unfold nats;simp[lJ]⟩
 |x::l=>by
  obtain⟨h1,h2,h3⟩:=qT l;rw[aCo];refine⟨by simp[h1],by simp[h2],?_⟩
  unfold lJ;rw[h3];simp
theorem aGw:∀S:List (List Nat),cZ (stD S)=true/\fZ (stD S)<=1/\lJ (stD S) (stD S)=true
 |[]=>⟨rfl,by unfold stD;simp,by unfold stD;simp[lJ]⟩
 |r::S=>by
  obtain⟨h1,h2,h3⟩:=aGw S;obtain⟨k1,k2,k3⟩:=qT r;have kd:dep (.lst (nats r))=1:=by unfold dep;rw[k2]
  have ke:eqD (.lst (nats r)) (.lst (nats r))=true:=by(conv=>lhs;unfold eqD);exact k3
  have kp:plain (.lst (nats r))=true:=by(conv=>lhs;unfold plain);exact k1
  rw[aT2];refine⟨by rw[gH,kp,h1];rfl,by rw[aCf,kd];omega,?_⟩
  conv=>lhs;unfold lJ
  rw[ke,h3];rfl
def aWu(l:List Nat):dNe (.lst (nats l)) (.lst (nats l))=.ok (.bl false)/\dEq (.lst (nats l)) (.lst (nats l))=.ok (.bl true):=by
 obtain⟨k1,k2,k3⟩:=qT l;have kd:dep (.lst (nats l))=1:=by unfold dep;rw[k2]
 have ke:eqD (.lst (nats l)) (.lst (nats l))=true:=by(conv=>lhs;unfold eqD);exact k3
 have kp:plain (.lst (nats l))=true:=by(conv=>lhs;unfold plain);exact k1
 rw[aSn,aSm,aF ⟨by omega,kp,kp⟩,aF ⟨by omega,kp,kp⟩,ke]
 exact⟨rfl,rfl⟩
def bAu(S:List (List Nat)):dNe (.lst (stD S)) (.lst (stD S))=.ok (.bl false)/\dEq (.lst (stD S)) (.lst (stD S))=.ok (.bl true):=by
 obtain⟨k1,k2,k3⟩:=aGw S;have kd:dep (.lst (stD S))<=2:=by unfold dep;omega
 have ke:eqD (.lst (stD S)) (.lst (stD S))=true:=by(conv=>lhs;unfold eqD);exact k3
 have kp:plain (.lst (stD S))=true:=by(conv=>lhs;unfold plain);exact k1
 rw[aSn,aSm,aF ⟨by omega,kp,kp⟩,aF ⟨by omega,kp,kp⟩,ke]
 exact⟨rfl,rfl⟩
structure MchW(S:List (List Nat))(rk:List Nat)(c:Nat):Prop where
 most:S.length<=64
 c1:1<=c
 c3:c<=3
 row:∀r∈S,r.length=c/\∀x∈r,x<S.length
def Mch.w{c:Nat}(M:Mch S rk c):MchW S rk c:=⟨bGy M.most (by decide),M.c1,M.c3,M.row⟩
section
variable{S:List (List Nat)}{rk:List Nat}{c:Nat}
def stp(S:List (List Nat))(q a:Nat):Nat:=(S.getD q []).getD a 0
def yH(M:MchW S rk c){q a:Nat}(hq:q<S.length)(ha:a<c):∃r,atI (stD S) (q:Int)=some (.lst (nats r))/\atI (nats r) (a:Int)=some (.int (stp S q a))/\stp S q a<S.length:=by
 have hr:=M.row S[q] (bGq hq);have ha':a<S[q].length:=by rw[hr.1];exact ha
 have e:stp S q a=S[q][a]:=by
  simp[stp,getD_eq_getElem?_getD,List.getElem?_eq_getElem hq,List.getElem?_eq_getElem ha']
 refine⟨S[q],?_,?_,?_⟩
 .rw[atI_nat (by rw[gU];exact hq)];simp[stD]
 .rw[atI_nat (by rw[bH];exact ha'),e];simp[nats]
 .rw[e];exact hr.2 _ (bGq ha')
def aT3(h:m<=3){ch:Nat}(h1:97<=ch)(h2:(ch:Int)<97+m):rK [97,98,99] [ch] 0=some (ch-97):=by
 have:ch=97\/ch=98\/ch=99:=by omega
 rcases this with rfl|rfl|rfl<;>rfl
end
theorem jV:∀(n:Nat)(l:List Nat),l.Nodup->(∀x∈l,x<n)->l.length<=n
 |0,l,_,h=>by
  cases l with
  |nil=>exact bG4 _
  |cons x l=>exact absurd (h x bFx) (by omega)
 |n+1,l,nd,h=>by
  have ih:=jV n (l.erase n) (nd.erase n) λx hx=>by
   have h1:=h x (List.mem_of_mem_erase hx);have h2:x≠n:=λe=>((nd.mem_erase_iff).mp hx).1 e
   omega
  by_cases hm:n∈l
  .rw[bL4 hm]at ih;omega
  .rw[List.erase_of_not_mem hm]at ih;omega
def aO9(g:Nat)(l:List Nat):inD (.int g) (nats l)=decide (g∈l):=by
 unfold inD nats;rw[bKw]
 by_cases h:g∈l
 .rw[bGe h,bI3];exact⟨g,h,by simp[eqD]⟩
 .rw[bG3 h,bJb];intro x hx
  have : ¬ (x : Int) = (g : Int) := fun z => h (by have : x = g := by omega
                                                   rw[<-this];exact hx)
  simp[eqD,this]
def aCp{q:Nat}(hq:q<S.length):atI (stD S) (q:Int)=some (.lst (nats S[q])):=by
 rw[atI_nat (by rw[gU];exact hq)]
 unfold stD;rw[bK9]
def sIx_none(n d:Nat):sIx n d none=d:=rfl
def sIx_nat(n d k:Nat):sIx n d (some (k:Int))=min k n:=by
 show (if (k:Int)<0 then ((k:Int)+n).toNat else min (k:Int).toNat n)=_
 rw[bG7 (by omega),bH9]
def bAv(x:List α)(n:Nat):cut x none (some (n:Int))=x.take n:=by
 unfold cut;rw[sIx_none,sIx_nat,drop_zero,bMk]
 by_cases h:n<=x.length
 .rw[Nat.min_eq_left h]
 .rw[Nat.min_eq_right (by omega),bLn,bJ2 (by omega)]
def bAw(x:List α)(n:Nat)(h:n<=x.length):cut x (some (n:Int)) none=x.drop n:=by
 unfold cut;rw[sIx_none,sIx_nat];rw[Nat.min_eq_left h,bJ2 (by rw[bLl];omega)]
def slB(u v:List Nat):Prop:=u.length<v.length\/(u.length=v.length/\u<v)
theorem aMc:∀{u v:List Nat}(a b:Nat),u.length=v.length->u<v->u++[a] < v++[b]
 |[],[],_,_,_,h=>absurd h (bKz _)
 |[],_::_,_,_,h,_=>by simp at h
 |_::_,[],_,_,h,_=>by simp at h
 |x::u,y::v,a,b,h,h2=>by
  rw[bKk,bKk,bJ7];rcases bJ7.mp h2 with h3|⟨h3,h4⟩
  .exact .inl h3
  .exact .inr ⟨h3,aMc a b (by simpa using h) h4⟩
theorem aI8:∀(u:List Nat){a b:Nat},a<b->u++[a] < u++[b]
 |[],a,b,h=>by
  show [a] < [b];rw[bJ7];exact .inl h
 |x::u,a,b,h=>by
  rw[bKk,bKk,bJ7];exact .inr ⟨rfl,aI8 u h⟩
def aE4{v:List Nat}(a b:Nat)(h:slB u v):slB (u++[a]) (v++[b]):=by
 rcases h with h|⟨h1,h2⟩
 .exact .inl (by rw[bGg,bGg];simpa using h)
 .exact .inr ⟨by rw[bGg,bGg,h1];rfl,aMc a b h1 h2⟩
def aK1(u:List Nat){a b:Nat}(h:a<b):slB (u++[a]) (u++[b]):=.inr ⟨by simp,aI8 u h⟩
def aWv(u:List Nat)(a:Nat):slB [] (u++[a]):=.inl (by simp)
def vK(h:slB u u):False:=h.elim (bH0 _) λh=>bKz _ h.2
def yI{v w:List Nat}(h1:slB u v)(h2:slB v w):slB u w:=by
 rcases h1 with h1|⟨h1,h3⟩ <;> rcases h2 with h2|⟨h2,h4⟩
 .exact .inl (by omega)
 .exact .inl (by omega)
 .exact .inl (by omega)
 .exact .inr ⟨by omega,bMg h3 h4⟩
def sle(u v:List Nat):Prop:=u=v\/slB u v
def bAx{v w:List Nat}(h1:sle u v)(h2:sle v w):sle u w:=by
 rcases h1 with rfl|h1
 .exact h2
 .rcases h2 with rfl|h2
  .exact .inr h1
  .exact .inr (yI h1 h2)
def aOa{v:List Nat}(a:Nat)(h:sle u v):sle (u++[a]) (v++[a]):=h.imp (λe=>by rw[e]) (aE4 a a)
def aMd{v w:List Nat}(h1:sle u v)(h2:slB v w):slB u w:=by
 rcases h1 with rfl|h1
 .exact h2
 .exact yI h1 h2
def aI9(u v:List Nat):sle u v\/slB v u:=by
 rcases bHg u.length v.length with h|h|h
 .exact .inl (.inr (.inl h))
 .by_cases e:u=v
  .exact .inl (.inl e)
  .by_cases l:u<v
   .exact .inl (.inr (.inr ⟨h,l⟩))
   .by_cases l2:v<u
    .exact .inr (.inr ⟨h.symm,l2⟩)
    .exact absurd (List.le_antisymm (List.not_lt.mp l2) (List.not_lt.mp l)) e
 .exact .inr (.inl h)
section
variable{α:Type}[DecidableEq α]{δ:α->Nat->α}{s:α}{c p j:Nat}{P:α->Prop}{acc:List (α×List Nat)}
def goG(δ:α->Nat->α):α->List Nat->α
 |a,[]=>a
 |a,ch::w=>goG δ (δ a (ch-97)) w
theorem zP:∀(x y:List Nat)(a:α),goG δ a (x++y)=goG δ (goG δ a x) y
 |[],_,_=>rfl
 |_::x,y,a=>zP x y _
def zQ(x:List Nat)(a:α)(k:Nat):goG δ a (x++[97+k])=δ (goG δ a x) k:=by
 rw[zP];show δ _ (97+k-97)=_;rw[bIu]
def bsG(acc:List (α×List Nat))(g:α)(w:List Nat):List (α×List Nat):=if g∈acc.map (·.1) then acc else acc++[(g,w)]
structure BG(δ:α->Nat->α)(s:α)(c:Nat)(P:α->Prop)(p j:Nat)(acc:List (α×List Nat)):Prop where
 nd:(acc.map (·.1)).Nodup
 hd:acc[0]?=some (s,[])
 lt:∀x∈acc,P x.1/\goG δ s x.2=x.1/\Ltr c x.2
 par:∀(k:Nat)(x:α×List Nat),acc[k]?=some x->1<=k->∃q y ch,acc[q]?=some y/\x.2=y.2++[ch]/\(q<p\/(q=p/\ch<97+j))
 ord:∀(i k:Nat)(x y:α×List Nat),acc[i]?=some x->acc[k]?=some y->i<k->slB x.2 y.2
 cls:∀(i:Nat)(x:α×List Nat)(l:Nat),acc[i]?=some x->l<c->(i<p\/(i=p/\l<j))->∃y∈acc,y.1=δ x.1 l/\sle y.2 (x.2++[97+l])
def BG.start(hs:P s):BG δ s c P 0 0 [(s,[])] where
 nd:=by simp
 hd:=rfl
 lt:=λx hx=>by rw[bFz.mp hx];exact⟨hs,rfl,λ_ h=>nomatch h⟩
 par:=λk x e h=>by
  have:k<1:=(bFy.mp e).1;omega
 ord:=λi k x y e1 e2 h=>by
  have:k<1:=(bFy.mp e2).1;omega
 cls:=λi x l _ _ h=>by omega
def BG.next(b:BG δ s c P p c acc):BG δ s c P (p+1) 0 acc where
 nd:=b.nd
 hd:=b.hd
 lt:=b.lt
 par:=λk x e h=>by
  obtain⟨q,y,ch,h1,h2,h3⟩:=b.par k x e h;exact⟨q,y,ch,h1,h2,.inl (by omega)⟩
 ord:=b.ord
 cls:=λi x l e hl h=>b.cls i x l e hl (by omega)
def BG.below(b:BG δ s c P p j acc){x y:α×List Nat}{k:Nat}(hx:acc[p]?=some x)(hy:acc[k]?=some y):slB y.2 (x.2++[97+j]):=by
 by_cases hk:k=0
 .subst hk;rw[b.hd]at hy;cases hy;exact aWv _ _
 .obtain⟨q,z,ch,h1,h2,h3⟩:=b.par k y hy (by omega)
  rw[h2];rcases h3 with h3|⟨rfl,h3⟩
  .exact aE4 _ _ (b.ord q p z x h1 hx h3)
  .rw[hx]at h1;cases h1;exact aK1 _ h3
def aMe{g:α}{w:List Nat}{k:Nat}{x:α×List Nat}(h:acc[k]?=some x):(bsG acc g w)[k]?=some x:=by
 unfold bsG;split
 .exact h
 .rw[bH5 (bFy.mp h).1];exact h
def BG.turn(hP:∀a k,P a->k<c->P (δ a k))(b:BG δ s c P p j acc){x:α×List Nat}(hx:acc[p]?=some x)(hj:j<c):BG δ s c P p (j+1) (bsG acc (δ x.1 j) (x.2++[97+j])):=by
 have hxm:x∈acc:=bGt hx;obtain⟨x1,x2,x3⟩:=b.lt x hxm;unfold bsG
 by_cases hc:δ x.1 j∈acc.map (·.1)
 .rw[bGa hc];refine⟨b.nd,b.hd,b.lt,λk y e h=>?_,b.ord,λi y l e hl h=>?_⟩
  .obtain⟨q,z,ch,h1,h2,h3⟩:=b.par k y e h;exact⟨q,z,ch,h1,h2,h3.imp id λh=>⟨h.1,by omega⟩⟩
  .by_cases hip:i=p/\l=j
   .obtain⟨rfl,rfl⟩:=hip;rw[hx]at e;cases e;obtain⟨y,hy,ey⟩:=bGc.mp hc;obtain⟨k,hk⟩:=bH6.mp hy;exact⟨y,hy,ey,.inr (b.below hx hk)⟩
   .exact b.cls i y l e hl (by omega)
 .rw[bG7 hc];have old:∀{k:Nat}{y:α×List Nat},acc[k]?=some y->(acc++[(δ x.1 j,x.2++[97+j])])[k]?=some y:=λ{k y} e=>by
   rw[bH5 (bFy.mp e).1];exact e
  have inv:∀{k:Nat}{y:α×List Nat},(acc++[(δ x.1 j,x.2++[97+j])])[k]?=some y->acc[k]?=some y\/(k=acc.length/\y=(δ x.1 j,x.2++[97+j])):=λ{k y} e=>by
   by_cases hk:k<acc.length
   .rw[bH5 hk]at e;exact .inl e
   .have hlt:=(bFy.mp e).1;rw[bGg,bHc]at hlt;have:k=acc.length:=by omega
    subst this;rw[bIb (bG4 _),bMl]at e;simp at e;exact .inr ⟨rfl,e.symm⟩
  have lt_of:∀{k:Nat}{y:α×List Nat},acc[k]?=some y->k<acc.length:=λe=>(bFy.mp e).1
  refine⟨?_,old b.hd,λy hy=>?_,λk y e h=>?_,λi k y z e1 e2 h=>?_,λi y l e hl h=>?_⟩
  .rw[bGw,bI8];refine⟨b.nd,by simp,λa ha b' hb=>?_⟩
   rw[List.map_singleton,bFz]at hb;rw[hb];exact λz=>hc (by rw[<-show a=δ x.1 j from z];exact ha)
  .rcases bGm.mp hy with hy|hy
   .exact b.lt y hy
   .rw[bFz.mp hy];refine⟨hP _ _ x1 hj,by rw[zQ,x2],λch hch=>?_⟩
    rcases bGm.mp hch with h|h
    .exact x3 ch h
    .rw[bFz.mp h];constructor<;>omega
  .rcases inv e with e|⟨rfl,rfl⟩
   .obtain⟨q,z,ch,h1,h2,h3⟩:=b.par k y e h;exact⟨q,z,ch,old h1,h2,h3.imp id λh=>⟨h.1,by omega⟩⟩
   .exact⟨p,x,97+j,old hx,rfl,.inr ⟨rfl,by omega⟩⟩
  .rcases inv e2 with e2|⟨rfl,rfl⟩
   .rcases inv e1 with e1|⟨rfl,_⟩
    .exact b.ord i k y z e1 e2 h
    .have:=lt_of e2;omega
   .rcases inv e1 with e1|⟨rfl,_⟩
    .exact b.below hx e1
    .omega
  .rcases inv e with e'|⟨rfl,rfl⟩
   .by_cases hip:i=p/\l=j
    .obtain⟨rfl,rfl⟩:=hip;rw[hx]at e';cases e';exact⟨_,bG8 _ (bFz.mpr rfl),rfl,.inl rfl⟩
    .obtain⟨z,h1,h2⟩:=b.cls i y l e' hl (by omega)
     exact⟨z,bGx _ h1,h2⟩
   .have:=lt_of hx;omega
def aE5{v:List Nat}(h:v≠[])(hv:Ltr c v):∃u k,v=u++[97+k]/\k<c/\Ltr c u:=by
 obtain⟨u,ch,rfl⟩:∃u ch,v=u++[ch]:=⟨v.dropLast,v.getLast h,(List.dropLast_concat_getLast h).symm⟩;have h1:=hv ch (by simp)
 refine⟨u,ch-97,by rw[show 97+(ch-97)=ch by omega],by omega,λx hx=>hv x (bGx _ hx)⟩
theorem BG.wl(b:BG δ s c P p j acc):∀(n k:Nat)(x:α×List Nat),k<=n->acc[k]?=some x->x.2.length<=k
 |0,k,x,hk,e=>by
  obtain rfl:k=0:=by omega
  rw[b.hd]at e;cases e;exact bG4 _
 |n+1,k,x,hk,e=>by
  by_cases h0:k=0
  .subst h0;exact BG.wl b n 0 x (bHp _) e
  obtain⟨q,y,ch,h1,h2,_⟩:=b.par k x e (by omega)
  have hq:q<k:=by
   rcases bHg q k with z|z|z
   .exact z
   .subst z;rw[h1]at e;cases e;have:=congrArg List.length h2;simp at this
   .exact(vK (yI (b.ord k q x y e h1 z) (by rw[h2];exact .inl (by simp)))).elim
  have:=BG.wl b n q y (by omega) h1
  rw[h2,bGg,bHc];omega
theorem BG.least(b:BG δ s c P p j acc)(ok:List Nat->Prop)(hok:∀v k,ok (v++[97+k])->ok v/\∀(i:Nat) y,acc[i]?=some y->sle y.2 v->i<p):∀(n:Nat)(v:List Nat),v.length=n->Ltr c v->ok v->∃y∈acc,y.1=goG δ s v/\sle y.2 v
 |0,v,hn,_,_=>by
  rw[bHh.mp hn];exact⟨_,bGt b.hd,rfl,.inl rfl⟩
 |n+1,v,hn,hv,ho=>by
  obtain⟨u,k,rfl,hk,hu⟩:=aE5 (λz=>by rw[z]at hn;cases hn) hv
  obtain⟨o1,o2⟩:=hok u k ho;obtain⟨y,hy,e1,e2⟩:=BG.least b ok hok n u (by simpa using hn) hu o1
  obtain⟨i,hi⟩:=bH6.mp hy;obtain⟨z,hz,f1,f2⟩:=b.cls i y k hi hk (.inl (o2 i y hi e2));exact⟨z,hz,by rw[f1,e1,zQ],bAx f2 (aOa _ e2)⟩
def BG.whole(b:BG δ s c P acc.length 0 acc){v:List Nat}(hv:Ltr c v):∃y∈acc,y.1=goG δ s v/\sle y.2 v:=
 b.least (λ_=>True) (λ_ _ _=>⟨trivial,λ_ _ e _=>(bFy.mp e).1⟩) _ v rfl hv trivial
theorem BG.hit(b:BG δ s c P p j acc){x:α×List Nat}(hx:acc[p]?=some x){hit:α->Prop}(no:∀(i:Nat) y k,acc[i]?=some y->k<c->(i<p\/(i=p/\k<j))->¬ hit (δ y.1 k)){u:List Nat}(hu:u≠[])(hl:Ltr c u)(hh:hit (goG δ s u)):sle (x.2++[97+j]) u:=by
 rcases aI9 (x.2++[97+j]) u with h|h
 .exact h
 obtain⟨v,k,rfl,hk,hv⟩:=aE5 hu hl;have up:∀{w:List Nat},slB (w++[97+k]) (x.2++[97+j])->sle w x.2:=λ{w} h=>by
  rcases aI9 w x.2 with z|z
  .exact z
  .exact(vK (yI h (aE4 _ _ z))).elim
 obtain⟨y,hy,e1,e2⟩:=b.least (λv=>sle v x.2) (λv k h=>by
  have h1:slB v x.2:=by
   rcases h with h|h
   .rw[<-h];exact .inl (by simp)
   .exact yI (.inl (by simp)) h
  refine⟨.inr h1,λi y hi hs=>?_⟩
  rcases bHg i p with z|z|z
  .exact z
  .subst z;rw[hx]at hi;cases hi;exact(vK (aMd hs h1)).elim
  .exact(vK (yI (b.ord p i x y hx hi z) (aMd hs h1))).elim) _ v rfl hv (up h)
 obtain⟨i,hi⟩:=bH6.mp hy;have h2:slB (y.2++[97+k]) (x.2++[97+j]):=aMd (aOa _ e2) h;rw[zQ,<-e1]at hh;refine absurd hh (no i y k hi hk ?_);rcases bHg i p with z|z|z
 .exact .inl z
 .subst z;rw[hx]at hi;cases hi;refine .inr ⟨rfl,?_⟩;rcases bHg k j with q|q|q
  .exact q
  .subst q;exact(vK h2).elim
  .exact(vK (yI h2 (aK1 _ (by omega)))).elim
 .exact(vK (yI h2 (aE4 _ _ (b.ord p i x y hx hi z)))).elim
def BG.nohit(b:BG δ s c P acc.length 0 acc){hit:α->Prop}(no:∀(i:Nat) y k,acc[i]?=some y->k<c->¬ hit (δ y.1 k)) (hu:u≠[]) (hl:Ltr c u):¬ hit (goG δ s u):=λhh=>by
 obtain⟨v,k,rfl,hk,hv⟩:=aE5 hu hl;obtain⟨y,hy,e1,_⟩:=b.whole hv;obtain⟨i,hi⟩:=bH6.mp hy;rw[zQ,<-e1]at hh;exact no i y k hi hk hh
end
section
variable{α:Type}[DecidableEq α](e:α->D)(he:∀a b,eqK (e a) (e b)=decide (a=b))
include he
def bDq(g:α):∀(l:List α),pJ (l.map e) (e g)=decide (g∈l):=λl=>by
 unfold pJ;rw[bKw]
 by_cases hg:g∈l
 .rw[bGe hg,bI3];exact⟨g,hg,by simp[he]⟩
 .rw[bG3 hg,bJb];intro x hx;have:x≠g:=λz=>hg (by rw[<-z];exact hx)
  simp[he,this]
def bAy{g:α}{l:List α}(h:g∈l):pJ (l.map e) (e g)=true:=(bDq e he g l).trans (bGe h)
def bAz{g:α}{l:List α}(h:g∉l):pJ (l.map e) (e g)=false:=(bDq e he g l).trans (bG3 h)
theorem aWw{x:α×List Nat}:∀{acc:List (α×List Nat)},(acc.map (·.1)).Nodup->x∈acc->pI (acc.map λy=>e y.1) (acc.map λy=>D.str y.2) (e x.1)=some (.str x.2)
 |[],_,h=>nomatch h
 |y::acc,nd,h=>by
  unfold pI;rw[bGf,bGf,bHq,find?_cons];dsimp only;rw[he];rw[bGf,bIj]at nd;rcases bG0.mp h with rfl|h
  .rw[bGe rfl];rfl
  .rw[bG3 λz:y.1=x.1=>nd.1 (by rw[z];exact bGc.mpr ⟨x,h,rfl⟩)]
   exact aWw nd.2 h
end
def orN(l:List Nat):Nat->Nat:=λb=>l.foldl (λb r=>b|||2^r) b
theorem aOb(r:Nat):∀(l:List Nat)(b:Nat),(orN l b).testBit r=(b.testBit r||decide (r∈l))
 |[],b=>by simp[orN]
 |x::l,b=>by
  show (orN l (b|||2^x)).testBit r=_
  rw[aOb r l,bMj,Nat.testBit_two_pow]
  by_cases h:x=r
  .simp[h]
  .have h':¬ r=x:=λz=>h z.symm
   simp[h,h']
def aEt(l:List Nat):Nat:=orN l 0
def qU(l:List Nat)(r:Nat):(aEt l).testBit r=decide (r∈l):=by
 unfold aEt;rw[aOb,bKa,bLc]
def bO(n:Nat):List Nat:=(List.range (uB n)).filter λr=>n.testBit r
def aT4{r:Nat}(h:uB n<=r):n.testBit r=false:=by
 unfold uB at h
 by_cases h0:(n:Int)=0
 .have:n=0:=by omega
  rw[this,bKa]
 .rw[bG7 h0]at h;have hn:n≠0:=λz=>h0 (by rw[z];rfl)
  have h1:n<2^(n.log2+1):=(Nat.log2_lt hn).mp (bIh _);exact bLr (bG9 h1 (bKd (by decide) (by simpa using h)))
def bW{r:Nat}:r∈bO n↔n.testBit r=true:=by
 unfold bO;rw[bH7,bGr];refine⟨λh=>h.2,λh=>⟨?_,h⟩⟩
 rcases Nat.lt_or_ge r (uB n) with h1|h1
 .exact h1
 .rw[aT4 h1]at h;cases h
def aGx(n:Nat):aEt (bO n)=n:=bKe λr=>by
 rw[qU];cases h:n.testBit r with
 |true=>exact bGe (bW.mpr h)
 |false=>exact bG3 λz=>by rw[bW.mp z]at h;cases h
def aGy{l:List Nat}{r:Nat}:r∈bO (aEt l)↔r∈l:=by
 rw[bW,qU,bGl]
def eU{k r:Nat}(h:n<2^k)(hr:r∈bO n):r<k:=by
 rw[bW]at hr;rcases Nat.lt_or_ge r k with h1|h1
 .exact h1
 .rw[bLr (bG9 h (bKd (by decide) h1))]at hr
  cases hr
def aT5{k:Nat}(h:n<2^k):uB n<=k:=by
 unfold uB
 by_cases h0:(n:Int)=0
 .rw[bGa h0];exact bHp _
 .rw[bG7 h0];have hn:n≠0:=λz=>h0 (by rw[z];rfl)
  have:n.log2<k:=(Nat.log2_lt hn).mpr h;show (n:Int).natAbs.log2+1<=k;rw[Int.natAbs_natCast];omega
@[simp] theorem aT6(i j:Int):aJs (.int i) (.int j)=aV (0<=j/\j<=1000000/\i.natAbs<18446744073709551616) (.ok (.int (i*2^j.toNat))):=rfl
@[simp] theorem bDr(i j:Int):aQe (.int i) (.int j)=aV (0<=j) (.ok (.int (i/2^j.toNat))):=rfl
@[simp] theorem aT7(i j:Int):aJt (.int i) (.int j)=aV (0<=i/\0<=j) (.ok (.int ((i.toNat&&&j.toNat:Nat):Int))):=rfl
@[simp] theorem aWx(i j:Int):dOr (.int i) (.int j)=aV (0<=i/\0<=j) (.ok (.int ((i.toNat|||j.toNat:Nat):Int))):=rfl
@[simp] theorem aYy(i:Int):aE1 (.int i)=.ok (.int (uB i:Nat)):=rfl
def aT8(n r:Nat):(((n:Int)/2^r).toNat&&&(1:Int).toNat)=if n.testBit r=true then 1 else 0:=by
 have e:((n:Int)/2^r).toNat=n/2^r:=by
  have:(n:Int)/2^r=((n/2^r:Nat):Int):=by push_cast;rfl
  rw[this,bH9]
 rw[e,show (1:Int).toNat=1 from rfl,Nat.and_one_is_mod,Nat.testBit_eq_decide_div_mod_eq]
 by_cases h:n/2^r%2=1
 .simp[h]
 .have:n/2^r%2=0:=by omega
  simp[this]
def aMf(n r:Nat):mU [.int n,.int r]=.ok (.bl (n.testBit r)):=by
 have hb:=aT8 n r;have h0:0<=(n:Int)/2^r:=Int.ediv_nonneg (by omega) (Int.pow_nonneg (by decide))
 refine cL rfl ?_
 unfold aAn;show cR _ [some (.v (.int n)),some (.v (.int r))]=_;have e1:e2 aQe (aA 0) (aA 1) [some (.v (.int n)),some (.v (.int r))]=.ok (.int ((n:Int)/2^r)):=by simp
 have e2':e2 aJt (e2 aQe (aA 0) (aA 1)) (eC (.int 1)) [some (.v (.int n)),some (.v (.int r))]=.ok (.int ((if n.testBit r=true then 1 else 0:Nat):Int)):=by
  rw[aJp,e1,aK,aYx,aK,aT7,aF ⟨h0,by decide⟩,hb]
 rw[zO,aJp,e2'];cases n.testBit r<;>simp
theorem aEu{tg:Tg}{C E:Ex}{st:PSt}{q:Nat->Bool}{G:Nat->D}:∀(ks:List Nat),(∀k∈ks,∃s1,tg (.int k) st=.ok s1/\C s1=.ok (.bl (q k))/\E s1=.ok (G k))->jO tg C E st (nats ks)=.ok ((ks.filter q).map G)
 |[],_=>rfl
 |k::ks,h=>by
  obtain⟨s1,e1,e2,e3⟩:=h k bFx;have ih:=aEu ks λk hk=>h k (bFw _ hk)
  show jO tg C E st (.int k::nats ks)=_;rw[kJ,e1];cases hq:q k with
  |true=>
   rw[bLd hq,bGf];simp[e2,e3,hq,ih]
  |false=>
   rw[bLe (by rw[hq];decide)]
   simp[e2,hq,ih]
def aK2(n:Nat):qF 0 n=nats (List.range n):=by
 rw[aDh];rfl
def uJ{k:Nat}(h:n<2^k)(hk:k<=2000):gM [.int n]=.ok (.lst (nats (bO n))):=by
 have hb:=aT5 h;have e:=aEu (tg:=tgN 1) (C:=vD) (E:=vC) (st:=[some (.v (.int n)),none]) (q:=λr=>n.testBit r) (G:=λr=>.int r) (List.range (uB n)) (λr _=>⟨_,rfl,by
  simp[vD,aMf n r],by simp[vC]⟩)
 refine cL rfl ?_
 unfold aAo;show cR _ [some (.v (.int n)),none]=_;have hi:iZ (e1 aE1 (aA 0)) [some (.v (.int n)),none]=.ok (nats (List.range (uB n))):=by
  simp[show ((uB n:Nat):Int)<=(big:Int) from aE0 (by omega)]
  exact aK2 _
 rw[zO,aJr,hi];simp only[aK,bH,length_range];rw[aF (fC (by omega)),show clr [1] [some (Sl.v (D.int n)),none]=[some (.v (.int n)),none] from rfl,e]
 rfl
theorem aGz(a:Option Sl):∀(l:List Nat)(b:Nat)(x2:Option Sl),(∀r∈l,r<=1000000)->∃x2',forR (tgN 2) lD (nats l) [a,some (.v (.int b)),x2]=.ok (.nx [a,some (.v (.int (orN l b))),x2'])
 |[],b,x2,_=>⟨x2,rfl⟩
 |r::l,b,x2,h=>by
  obtain⟨x2',e⟩:=aGz a l (b|||2^r) (some (.v (.int r))) λr hr=>h r (bFw _ hr)
  refine⟨x2',?_⟩;have hr:=h r bFx;have hr':(r:Int)<=1000000:=by omega
  have ee:((1:Int)*2^(r:Int).toNat)=((2^r:Nat):Int):=by push_cast;simp
  show forR (tgN 2) lD (.int r::nats l) _=_;rw[aCe];have e3:(2:Int)^r=((2^r:Nat):Int):=by push_cast;rfl
  have t:lD [a,some (.v (.int b)),some (.v (.int r))]=.ok (.nx [a,some (.v (.int ((b|||2^r:Nat):Int))),some (.v (.int r))]):=by
   have h1:e2 aJs (eC (.int 1)) (aA 2) [a,some (.v (.int b)),some (.v (.int r))]=.ok (.int ((2^r:Nat):Int)):=by
    simp only[aJp,aYx,zN,aK,getElem?_cons_succ,List.getElem?_cons_zero];rw[aT6,aF ⟨by omega,hr',by decide⟩,ee]
   unfold lD;rw[aNx,aJp,h1];simp only[zN,aK,getElem?_cons_succ,List.getElem?_cons_zero];rw[aWx,aF ⟨bKt _,bKt _⟩,bH9,bH9];rfl
  show (lD [a,some (.v (.int b)),some (.v (.int r))]).bind _=_;rw[t];exact e
def aIa{l:List Nat}(h:∀r∈l,r<=1000000)(hl:l.length<=1000000):lE [.lst (nats l)]=.ok (.int (aEt l)):=by
 obtain⟨x2',e⟩:=aGz (some (.v (.lst (nats l)))) l 0 none h;refine cL rfl ?_
 unfold aCi;refine aJ (st':=[some (.v (.lst (nats l))),some (.v (.int 0)),none]) (by simp) ?_
 refine aJ (st':=[some (.v (.lst (nats l))),some (.v (.int (aEt l))),x2']) ?_ (by simp)
 rw[aNy,show itE (aA 0) [some (Sl.v (D.lst (nats l))),some (.v (.int 0)),none]=.ok (nats l) from rfl,aK]
 exact e
inductive Rch (S:List (List Nat)) (c:Nat) (al:Nat->Bool) (s:Nat):Nat->Prop where
 |here:Rch S c al s s
 |on {r l:Nat}:Rch S c al s r->l<c->al (stp S r l)=true->Rch S c al s (stp S r l)
def jE(n:Nat):(bO n).Nodup:=List.nodup_range.filter _
def aIb{l:List Nat}{k:Nat}(h:∀r∈l,r<k):aEt l<2^k:=bL0 _ λr hr=>by
 rw[qU];exact bG3 λz=>by have:=h r z;omega
open Classical in
noncomputable def jF(S:List (List Nat))(c n r:Nat):Nat:=aEt ((List.range S.length).filter λg=>decide (Rch S c (λg=>n.testBit g) r g))
section
variable {c:Nat}
def aEv(M:MchW S rk c) {s g:Nat} (hs:s<S.length) (h:Rch S c al s g):g<S.length:=by
 induction h with
 |here=>exact hs
 |on _ hl _ ih=>obtain⟨_,_,_,h⟩:=yH M ih hl;exact h
def aMg{s g:Nat}(hs:al s=true)(h:Rch S c al s g):al g=true:=by
 cases h with
 |here=>exact hs
 |on _ _ ha=>exact ha
open Classical in
def pY(M:MchW S rk c){r:Nat}(hr:r<S.length)(g:Nat):(jF S c n r).testBit g=true↔Rch S c (λg=>n.testBit g) r g:=by
 unfold jF;rw[qU,bGl,bH7,bGr,bGl];exact⟨λh=>h.2,λh=>⟨aEv M hr h,h⟩⟩
def aBk{r:Nat}:jF S c n r<2^S.length:=aIb λg hg=>bGr.mp (bH7.mp hg).1
def aBl(M:MchW S rk c){a b:Nat}(ha:a<S.length):b∈S.getD a []↔∃l,l<c/\stp S a l=b:=by
 have hr:=(M.row S[a] (bGq ha)).1;have hg:S.getD a []=S[a]:=by rw[bG5,bFv ha];rfl
 have e:∀l,stp S a l=S[a].getD l 0:=λl=>by unfold stp;rw[hg]
 rw[hg];constructor
 .intro h;obtain⟨l,hl,rfl⟩:=bJf.mp h;exact⟨l,by omega,by rw[e,bG5,bFv hl];rfl⟩
 .rintro⟨l,hl,rfl⟩;have hl':l<S[a].length:=by omega
  rw[e,bG5,bFv hl'];exact bGq hl'
def Rch.trans{a b d:Nat}(h1:Rch S c al a b)(h2:Rch S c al b d):Rch S c al a d:=by
 induction h2 with
 |here=>exact h1
 |on _ hl ha ih=>exact .on ih hl ha
end
def bB0(g:Nat)(l:List Nat):dIn (.int g) (.lst (nats l))=.ok (.bl (decide (g∈l))):=by
 obtain⟨p1,p2,_⟩:=qT l;rw[<-aO9];exact aF ⟨by rw[p2];exact bHp 60,rfl,p1⟩
def bB1(h:n<=1000000):aJs (.int 1) (.int n)=.ok (.int ((2^n:Nat):Int)):=by
 have e:((2^n:Nat):Int)=1*2^(n:Int).toNat:=by rw[Int.one_mul,bH9];push_cast;rfl
 rw[e];exact aF ⟨by omega,by omega,by decide⟩
def aWy(a b:Nat):aJt (.int a) (.int b)=.ok (.int ((a&&&b:Nat):Int)):=by
 rw[<-bH9 a,<-bH9 b];exact aF ⟨by omega,by omega⟩
def aK3(g:Nat)(l:List Nat):pJ (nats l) (.int g)=decide (g∈l):=by
 unfold pJ nats;rw[bKw]
 by_cases h:g∈l
 .rw[bGe h,bI3];exact⟨g,h,by simp[eqK]⟩
 .rw[bG3 h,bJb];intro x hx
  have : ¬ (x : Int) = (g : Int) := fun z => h (by have e : x = g := by omega
                                                   rw[<-e];exact hx)
  simp[eqK,this]
theorem aBm(V:Nat->D){g:Nat}:∀{l:List Nat},g∈l->pI (nats l) (l.map V) (.int g)=some (V g)
 |[],h=>nomatch h
 |x::l,h=>by
  show pI (.int x::nats l) (V x::l.map V) (.int g)=_;unfold pI;rw[bHq,find?_cons]
  by_cases e:x=g
  .simp[eqK,e]
  .have:¬ (x:Int)=(g:Int):=by omega
   simp only[eqK,beq_eq_false_iff_ne.mpr this];exact aBm V ((bG0.mp h).resolve_left λz=>e z.symm)
def aK4(l:List Nat)(x:Nat):nats (l++[x])=nats l++[.int x]:=by unfold nats;simp
def aE6{ks vs:List D}{g:Nat} (h:pI ks vs (.int g)=some d):dIx (.dct false ks vs) (.int g)=.ok d:=by
 show aV (keyOk false (.int g)=true) (ofO (pI ks vs (.int g)))=_;rw[aF (c:=keyOk false (.int g)=true) rfl,h];rfl
inductive Pw (B:Nat->Nat->Prop) (K:Nat->Prop):Nat->Nat->Prop where
 |one {a b:Nat}:B a b->Pw B K a b
 |mid {a m b:Nat}:K m->Pw B K a m->Pw B K m b->Pw B K a b
def Pw.cut{B:Nat->Nat->Prop}{K K':Nat->Prop}{k a b:Nat}(hK:∀m,K' m->K m\/m=k)(h:Pw B K' a b):Pw B K a b\/(Pw B K a k/\Pw B K k b):=by
 induction h with
 |one h=>exact .inl (.one h)
 |mid hm _ _ i1 i2=>
  rename_i a m b _ _;rcases hK m hm with hm|rfl
  .rcases i1 with x|⟨x1,x2⟩
   .rcases i2 with y|⟨y1,y2⟩
    .exact .inl (.mid hm x y)
    .exact .inr ⟨.mid hm x y1,y2⟩
   .rcases i2 with y|⟨y1,y2⟩
    .exact .inr ⟨x1,.mid hm x2 y⟩
    .exact .inr ⟨x1,y2⟩
  .exact .inr ⟨i1.elim id λz=>z.1,i2.elim id λz=>z.2⟩
def Pw.mono{B:Nat->Nat->Prop}{K K':Nat->Prop}{a b:Nat}(hK:∀m,K m->K' m)(h:Pw B K a b):Pw B K' a b:=by
 induction h with
 |one h=>exact .one h
 |mid hm _ _ i1 i2=>exact .mid (hK _ hm) i1 i2
def iH(V:Nat->Nat)(m:Nat):Nat->Nat:=λr=>if (V r).testBit m=true then V r|||V m else V r
theorem aOc{B:Nat->Nat->Prop}{R:Nat->Prop}(hR:∀a b,R a->B a b->R b):∀(ks ds:List Nat)(V:Nat->Nat),(∀k∈ks,R k)->(∀r,R r->∀g,(V r).testBit g=true↔Pw B (· ∈ ds) r g)->∀r,R r->∀g,((ks.foldl iH V) r).testBit g=true↔Pw B (· ∈ ds++ks) r g
 |[],ds,V,_,h,r,hr,g=>by rw[bJn];exact h r hr g
 |k::ks,ds,V,hk,h,r,hr,g=>by
  have e:ds++k::ks=(ds++[k])++ks:=by simp
  rw[e];refine aOc hR ks (ds++[k]) (iH V k) (λx hx=>hk x (bFw _ hx)) (λr hr g=>?_) r hr g
  have hk':=hk k bFx;have up:∀{a b:Nat},Pw B (· ∈ ds) a b->Pw B (· ∈ ds++[k]) a b:=λz=>z.mono λm hm=>bGx _ hm
  have in_k:k∈ds++[k]:=by simp
  unfold iH
  by_cases hb:(V r).testBit k=true
  .rw[bGa hb,bMj,or_eq_true,h r hr g,h k hk' g];constructor
   .rintro(z|z)
    .exact up z
    .exact .mid in_k (up ((h r hr k).mp hb)) (up z)
   .intro z;rcases z.cut (K:=(· ∈ ds)) (k:=k) (λm hm=>by simpa using hm) with y|⟨_,y⟩
    .exact .inl y
    .exact .inr y
  .rw[bG7 hb,h r hr g];constructor
   .exact up
   .intro z;rcases z.cut (K:=(· ∈ ds)) (k:=k) (λm hm=>by simpa using hm) with y|⟨y,_⟩
    .exact y
    .exact absurd ((h r hr k).mpr y) hb
section
variable{S:List (List Nat)}{rk:List Nat}{c n:Nat}
def pG(S:List (List Nat))(n:Nat):Nat->Nat:=λr=>(aEt (S.getD r [])|||2^r)&&&n
def aT9{r g:Nat}:(pG S n r).testBit g=true↔(r=g\/g∈S.getD r [])/\n.testBit g=true:=by
 unfold pG;rw[Nat.testBit_and,bMj,qU,Nat.testBit_two_pow,bLf,or_eq_true,bGl,bGl];exact⟨λh=>⟨h.1.symm,h.2⟩,λh=>⟨h.1.symm,h.2⟩⟩
def aQi(M:MchW S rk c)(hn:n<2^S.length){r:Nat}(hr:r∈bO n)(g:Nat):(((bO n).foldl iH (pG S n)) r).testBit g=true↔Rch S c (λg=>n.testBit g) r g:=by
 have hp:=aOc (B:=λa b=>(a=b\/b∈S.getD a [])/\n.testBit b=true) (R:=(· ∈ bO n)) (λa b _ h=>bW.mpr h.2) (bO n) [] (pG S n) (λk hk=>hk) (λr _ g=>by
  rw[aT9];constructor
  .exact λh=>.one h
  .intro h;cases h with
   |one h=>exact h
   |mid h _ _=>cases h) r hr g
 rw[hp,nil_append];clear hp;constructor
 .intro h;have hi:∀{a b:Nat},Pw (λa b=>(a=b\/b∈S.getD a [])/\n.testBit b=true) (· ∈ bO n) a b->a∈bO n->Rch S c (λg=>n.testBit g) a b:=by
   intro a b h
   induction h with
   |one h=>
    intro ha;obtain⟨rfl|h1,h2⟩:=h
    .exact .here
    .obtain⟨l,hl,rfl⟩:=(aBl M (eU hn ha)).mp h1;exact .on .here hl h2
   |mid hm _ _ i1 i2=>exact λha=>Rch.trans (i1 ha) (i2 hm)
  exact hi h hr
 .intro h
  induction h with
  |here=>exact .one ⟨.inl rfl,bW.mp hr⟩
  |on h1 hl ha ih=>
   have hx:_∈bO n:=bW.mpr (aMg (al:=λg=>n.testBit g) (bW.mp hr) h1)
   exact .mid hx ih (.one ⟨.inr ((aBl M (eU hn hx)).mpr ⟨_,hl,rfl⟩),ha⟩)
def aTa(M:MchW S rk c)(hn:n<2^S.length){r:Nat}(hr:r∈bO n):((bO n).foldl iH (pG S n)) r=jF S c n r:=bKe λg=>by
 have e:=(aQi M hn hr g).trans (pY M (eU hn hr) g).symm;cases h1:(((bO n).foldl iH (pG S n)) r).testBit g with
 |true=>exact(e.mp h1).symm
 |false=>
  cases h2:(jF S c n r).testBit g with
  |true=>rw[e.mpr h2]at h1;cases h1
  |false=>rfl
def aIc(a b:Nat):dOr (.int a) (.int b)=.ok (.int ((a|||b:Nat):Int)):=by
 rw[<-bH9 a,<-bH9 b];exact aF ⟨by omega,by omega⟩
def xF(S:List (List Nat))(n:Nat)(ks:List Nat)(V:Nat->Nat)(x4 x5:Option Sl):PSt:=[some (.v (.lst (stD S))),some (.v (.int n)),some (.v (.lst (nats (bO n)))),some (.o (.d false (nats ks)) (ks.map λr=>D.int (V r:Nat))),x4,x5]
def aWz{V:Nat->Nat}{r:Nat}{x:D}(hr:r∉ks):rJ (nats ks) (.int r)=nats (ks++[r])/\wF (nats ks) (ks.map λr=>D.int (V r:Nat)) (.int r) x=(ks.map λr=>D.int (V r:Nat))++[x]:=by
 have hk:pJ (nats ks) (.int r)=false:=by rw[aK3,bG3 hr]
 unfold rJ wF;rw[hk,aK4];exact⟨rfl,rfl⟩
def aX0{V:Nat->Nat}{r x:Nat}(hr:r∈ks):rJ (nats ks) (.int r)=nats ks/\wF (nats ks) (ks.map λr=>D.int (V r:Nat)) (.int r) (.int x)=ks.map λk=>D.int ((if k=r then x else V k:Nat):Int):=by
 have hk:pJ (nats ks) (.int r)=true:=by rw[aK3,bGe hr]
 unfold rJ wF;rw[hk,bGa rfl,bGa rfl];refine⟨rfl,?_⟩;unfold nats;rw[List.zip_map',bH8];refine bHu λk _=>?_
 show (if eqK (.int (k:Int)) (.int (r:Int))=true then D.int (x:Int) else D.int (V k:Int))=_
 by_cases e:k=r
 .rw[bGa e,bGa (by rw[e];simp[eqK])]
 .have:¬ (k:Int)=(r:Int):=by omega
  rw[bG7 e,bG7 (by simp[eqK,this])]
def aOd{st:PSt}{k:D}{ks vs:List D}(hf:f st=.ok d)(hg:g st=.ok k)(hs:st[i]?=some (some (.o (.d false ks) vs)))(hk:keyOk false k=true)(hl:vs.length<1000):sDPut i g f st=.ok (.nx (st.set i (some (.o (.d false (rJ ks k)) (wF ks vs k d))))):=by
 unfold sDPut;rw[hf,aK,hg,aK,hs];exact aF ⟨hk,aI0 (by omega)⟩
theorem aH0(M:MchW S rk c):∀(rs ks:List Nat)(x4:Option Sl),(ks++rs).Nodup->(∀r∈ks++rs,r<S.length)->∃x4',forR (tgN 4) xQ (nats rs) (xF S n ks (pG S n) x4 none)=.ok (.nx (xF S n (ks++rs) (pG S n) x4' none))
 |[],ks,x4,_,_=>⟨x4,by rw[bJn];rfl⟩
 |r::rs,ks,x4,nd,hl=>by
  have n8:=M.most;have h1:ks++r::rs=(ks++[r])++rs:=by simp
  rw[h1]at nd hl;obtain⟨x4',e⟩:=aH0 M rs (ks++[r]) (some (.v (.int r))) nd hl;refine⟨x4',?_⟩;rw[h1];have hr:r∉ks:=λz=>(bI8.mp (bI8.mp nd).1).2.2 r z r (bFz.mpr rfl) rfl
  have hrl:r<S.length:=hl r (by simp)
  have hlen:ks.length<=S.length:=jV S.length ks (bI8.mp (bI8.mp nd).1).1 λx hx=>hl x (by simp[hx])
  have hg:S.getD r []=S[r]:=by rw[bG5,bFv hrl];rfl
  have hrow:=M.row S[r] (bGq hrl);have c3:=M.c3;have hb:=aIa (l:=S[r]) (λx hx=>by have:=hrow.2 x hx;omega) (by rw[hrow.1];omega)
  obtain⟨p1,p2⟩:=aWz (V:=pG S n) (x:=.int (pG S n r:Nat)) hr;refine fX rfl (s2:=xF S n (ks++[r]) (pG S n) (some (.v (.int r))) none) ?_ e;have hv:e2 aJt (e2 dOr (aW lE (aC (e2 dIx (aA 0) (aA 4)) aU)) (e2 aJs (eC (.int 1)) (aA 4))) (aA 1) (xF S n ks (pG S n) (some (.v (.int r))) none)=.ok (.int (pG S n r:Nat)):=by
   unfold pG;rw[hg];exact aH (aH (aR (aP (aH rfl rfl (fY (aCp hrl))) rfl) hb) (aH rfl rfl (bB1 (by omega))) (aIc _ _)) rfl (aWy _ _)
  refine(aOd hv rfl rfl rfl (by rw[bG6];omega)).trans ?_
  rw[p1,p2];unfold xF;rw[bGw];rfl
def aQj{V:Nat->Nat}{r:Nat}(hl:ks.length<1000)(hr:r∈ks)(hm:m∈ks):lM (xF S n ks V (some (.v (.int r))) (some (.v (.int m))))=.ok (.nx (xF S n ks (λk=>if k=r then iH V m r else V k) (some (.v (.int r))) (some (.v (.int m))))):=by
 have gr:e2 dIx (eF 3) (aA 4) (xF S n ks V (some (.v (.int r))) (some (.v (.int m))))=.ok (.int (V r:Nat)):=aH rfl rfl (aE6 (aBm (λr=>D.int (V r:Nat)) hr))
 have gm:e2 dIx (eF 3) (aA 5) (xF S n ks V (some (.v (.int r))) (some (.v (.int m))))=.ok (.int (V m:Nat)):=aH rfl rfl (aE6 (aBm (λr=>D.int (V r:Nat)) hm))
 have t:=aR (aP gr (show aC (aA 5) aU (xF S n ks V (some (.v (.int r))) (some (.v (.int m))))=.ok [.int m] from rfl)) (aMf (V r) m)
 by_cases hb:(V r).testBit m=true
 .rw[hb]at t;obtain⟨p1,p2⟩:=aX0 (V:=V) (x:=V r|||V m) hr
  refine yG t ((aOd (aH gr gm (aIc _ _)) rfl rfl rfl (by rw[bG6];omega)).trans ?_)
  rw[p1,p2];unfold iH;rw[bGa hb];rfl
 .rw[Bool.eq_false_iff.mpr hb]at t;refine oM t ?_
  have:(λk=>if k=r then iH V m r else V k)=V:=funext λk=>by
   by_cases e:k=r
   .rw[bGa e,e];unfold iH;rw[bG7 hb]
   .rw[bG7 e]
  rw[this];rfl
theorem aH1{ks:List Nat}{V:Nat->Nat}{m:Nat}(hl:ks.length<1000)(hm:m∈ks):∀(rs:List Nat)(W:Nat->Nat)(x4:Option Sl),(∀r∈rs,r∈ks)->W m=V m->(∀r∈rs,W r=V r\/W r=iH V m r)->∃W' x4',forR (tgN 4) lM (nats rs) (xF S n ks W x4 (some (.v (.int m))))=.ok (.nx (xF S n ks W' x4' (some (.v (.int m)))))/\∀r,W' r=if r∈rs then iH V m r else W r
 |[],W,x4,_,_,_=>⟨W,x4,rfl,λr=>by rw[bG7 (by simp)]⟩
 |r::rs,W,x4,hs,hw,hv=>by
  have ho:iH W m r=iH V m r:=by
   rcases hv r bFx with h|h
   .unfold iH;rw[h,hw]
   .unfold iH at h ⊢;rw[h,hw]
    by_cases hb:(V r).testBit m=true
    .rw[bGa hb]
     by_cases hb2:(V r|||V m).testBit m=true
     .rw[bGa hb2,Nat.or_assoc,Nat.or_self]
     .rw[bG7 hb2]
    .rw[bG7 hb,bG7 hb]
  have hom:iH V m m=V m:=by
   unfold iH;split
   .exact Nat.or_self _
   .rfl
  obtain⟨W',x4',e,h⟩:=aH1 hl hm rs (λk=>if k=r then iH W m r else W k) (some (.v (.int r))) (λx hx=>hs x (bFw _ hx)) (by
   show (if m=r then iH W m r else W m)=V m
   by_cases e:m=r
   .rw[bGa e,ho,<-e,hom]
   .rw[bG7 e,hw]) (λx hx=>by
   show (if x=r then iH W m r else W x)=V x\/(if x=r then iH W m r else W x)=iH V m x
   by_cases e:x=r
   .rw[bGa e,ho,e];exact .inr rfl
   .rw[bG7 e];exact hv x (bFw _ hx))
  refine⟨W',x4',fX rfl (aQj hl (hs r bFx) hm) e,λx=>?_⟩
  rw[h x]
  by_cases hx:x∈rs
  .rw[bGa hx,bGa (bFw _ hx)]
  .rw[bG7 hx]
   by_cases e:x=r
   .rw[bGa e,bGa (by rw[e];exact bFx),ho,e]
   .rw[bG7 e,bG7 (by simp[e,hx])]
def aEw{ks:List Nat}{V W:Nat->Nat}{x4:Option Sl}(h:∀k∈ks,V k=W k):xF S n ks V x4 x5=xF S n ks W x4 x5:=by
 unfold xF;rw[bHu λk hk=>congrArg (λx:Nat=>D.int (x:Int)) (h k hk)]
theorem aH2(hl:(bO n).length<1000):∀(ms:List Nat)(V:Nat->Nat)(x4 x5:Option Sl),(∀m∈ms,m∈bO n)->∃x4' x5',forR (tgN 5) xR (nats ms) (xF S n (bO n) V x4 x5)=.ok (.nx (xF S n (bO n) (ms.foldl iH V) x4' x5'))
 |[],V,x4,x5,_=>⟨x4,x5,rfl⟩
 |m::ms,V,x4,x5,hs=>by
  obtain⟨W,y4,e,h⟩:=aH1 (S:=S) (n:=n) (V:=V) hl (hs m bFx) (bO n) V x4 (λr hr=>hr) rfl λr _=>.inl rfl
  obtain⟨z4,z5,e'⟩:=aH2 hl ms (iH V m) y4 (some (.v (.int m))) λx hx=>hs x (bFw _ hx)
  refine⟨z4,z5,fX rfl (dY (L:=lM) rfl e) ?_⟩;rw[aEw (W:=iH V m) λk hk=>by rw[h k,bGa hk]]
  exact e'
def aTb(M:MchW S rk c)(hn:n<2^S.length):pN [.lst (stD S),.int n]=.ok (.dct false (nats (bO n)) ((bO n).map λr=>D.int (jF S c n r:Nat))):=by
 have n8:=M.most;have hro:=uJ hn (by omega)
 have hlen:(bO n).length<=S.length:=jV S.length _ (jE _) λx hx=>eU hn hx
 obtain⟨x4,e1⟩:=aH0 (n:=n) M (bO n) [] none (jE n) λr hr=>eU hn hr
 obtain⟨y4,y5,e2⟩:=aH2 (S:=S) (n:=n) (by omega) (bO n) (pG S n) x4 none λm hm=>hm
 refine cL rfl (aJ (st':=[some (.v (.lst (stD S))),some (.v (.int n)),some (.v (.lst (nats (bO n)))),none,none,none]) (bG (aR rfl hro)) (aJ (st':=xF S n [] (pG S n) none none) rfl (aJ (dY rfl e1) (aJ (dY rfl e2) ?_))));rw[aEw λk hk=>aTa M hn hk]
 rfl
end
noncomputable def fH(S:List (List Nat))(c n r:Nat):Nat:=aEt ((bO (jF S c n r)).filter λg=>(jF S c n g).testBit r)
def roundN(S:List (List Nat))(m:Nat):Bool:=decide (1<(bO m).length)||decide ((bO m).headD 0∈S.getD ((bO m).headD 0) [])
noncomputable def pA(S:List (List Nat))(c n:Nat):List Nat:=(bO n).foldl (λps r=>if fH S c n r∉ps/\roundN S (fH S c n r)=true then ps++[fH S c n r] else ps) []
section
variable{S:List (List Nat)}{rk:List Nat}{c n:Nat}
def aOe{n r:Nat}:fH S c n r<2^S.length:=aIb λg hg=>eU aBk (bH7.mp hg).1
def aTc(M:MchW S rk c) (hm:m<2^S.length) (h0:m≠0):pO [.lst (stD S),.int m]=.ok (.bl (roundN S m)):=by
 have n8:=M.most;have hro:=uJ hm (by omega)
 obtain⟨r,T,eT⟩:∃r T,bO m=r::T:=by
  cases h:bO m with
  |nil=>
   refine absurd ?_ h0;have:=aGx m;rw[h]at this;exact this.symm
  |cons r T=>exact⟨r,T,rfl⟩
 rw[eT]at hro;have hr:r<S.length:=eU hm (by rw[eT];exact bFx)
 refine cL rfl (aJ (st':=[some (.v (.lst (stD S))),some (.v (.int m)),some (.v (.lst (nats (r::T))))]) (bG (aR rfl hro)) (dX ?_));have ln:e1 gD (aA 2) [some (.v (.lst (stD S))),some (.v (.int m)),some (.v (.lst (nats (r::T))))]=.ok (.int ((T.length+1:Nat):Int)):=by
  show R.ok (D.int (((nats (r::T)).length:Nat):Int))=_;rw[bH];rfl
 have v0:e2 dIx (aA 2) (eC (.int 0)) [some (.v (.lst (stD S))),some (.v (.int m)),some (.v (.lst (nats (r::T))))]=.ok (.int r):=aH rfl rfl (fY (atI_nat (i:=0) (by rw[bH];exact Nat.succ_pos _)))
 have hg:S.getD r []=S[r]:=by rw[bG5,bFv hr];rfl
 have t:=aGs (aH ln (rfl:eC (.int 1) _=_) (rfl:dGt _ _=_)) λ_=>aH v0 (aH (rfl:aA 0 _=.ok (.lst (stD S))) v0 (fY (aCp hr))) (bB0 r S[r])
 refine gJ t ?_
 unfold roundN;rw[eT];show (decide ((1:Int)<((T.length+1:Nat):Int))||decide (r∈S[r]))=(decide (1<T.length+1)||decide (r∈S.getD r []))
 rw[hg];congr 1;exact decide_eq_decide.mpr (by omega)
noncomputable def pst(S:List (List Nat))(c n:Nat)(ps:List Nat)(x4 x5:Option Sl):PSt:=[some (.v (.lst (stD S))),some (.v (.int n)),some (.v (.dct false (nats (bO n)) ((bO n).map λr=>D.int (jF S c n r:Nat)))),some (.o .l (nats ps)),x4,x5,none]
def aMh(M:MchW S rk c)(hn:n<2^S.length){r:Nat}(hr:r∈bO n)(ps:List Nat)(hps:ps.length<=1000)(x5:Option Sl):∃x5',oX (pst S c n ps (some (.v (.int r))) x5)=.ok (.nx (pst S c n (if fH S c n r∉ps/\roundN S (fH S c n r)=true then ps++[fH S c n r] else ps) (some (.v (.int r))) x5')):=by
 have n8:=M.most;have hrl:=eU hn hr;have hrb:=bW.mp hr;have hro:=uJ (aBk (S:=S) (c:=c) (n:=n) (r:=r)) (by omega)
 have hin:∀g∈bO (jF S c n r),g∈bO n:=λg hg=>bW.mpr (aMg (al:=λg=>n.testBit g) hrb ((pY M hrl g).mp (bW.mp hg)))
 have gk:∀{g:Nat},g∈bO n->pI (nats (bO n)) ((bO n).map λr=>D.int (jF S c n r:Nat)) (.int g)=some (.int (jF S c n g:Nat)):=λ{g} h=>aBm (λr=>D.int (jF S c n r:Nat)) h
 have hlen:(bO (jF S c n r)).length<=S.length:=jV S.length _ (jE _) λx hx=>eU aBk hx
 have ce:=aEu (tg:=tgN 6) (C:=wM) (E:=wL) (st:=pst S c n ps (some (.v (.int r))) x5) (q:=λg=>(jF S c n g).testBit r) (G:=λg=>.int g) (bO (jF S c n r)) (λg hg=>⟨_,rfl,aR (aP (aH rfl rfl (aE6 (gk (hin g hg)))) rfl) (aMf (jF S c n g) r),rfl⟩)
 have hi:itE (aW gM (aC (e2 dIx (aA 2) (aA 4)) aU)) (pst S c n ps (some (.v (.int r))) x5)=.ok (nats (bO (jF S c n r))):=oN (aR (aP (aH rfl rfl (aE6 (gk hr))) rfl) hro);have hcomp:=nR (is:=[6]) hi (by rw[bH];omega) ce
 have hbi:lE [.lst (nats ((bO (jF S c n r)).filter λg=>(jF S c n g).testBit r))]=.ok (.int (fH S c n r)):=aIa (λg hg=>by have:=eU aBk (bH7.mp hg).1;omega) (by have:=bK6 (λg=>(jF S c n g).testBit r) (bO (jF S c n r));omega)
 have hne:fH S c n r≠0:=λz=>by
  have:(fH S c n r).testBit r=true:=by
   unfold fH;rw[qU,bGl,bH7];have h0:(jF S c n r).testBit r=true:=(pY M hrl r).mpr .here;exact⟨bW.mpr h0,h0⟩
  rw[z,bKa]at this;cases this
 have hgo:=aTc M (aOe (S:=S) (c:=c) (n:=n) (r:=r)) hne;obtain⟨p1,p2,_⟩:=qT ps;refine⟨some (.v (.int (fH S c n r))),aJ (st':=pst S c n ps (some (.v (.int r))) (some (.v (.int (fH S c n r))))) (bG (aR (aP hcomp rfl) hbi)) ?_⟩;have t:=vJ (st:=pst S c n ps (some (.v (.int r))) (some (.v (.int (fH S c n r))))) (aH (f:=aA 5) (g:=eF 3) rfl rfl (show sZ (.int (fH S c n r)) (.lst (nats ps))=.ok (.bl (!decide (fH S c n r∈ps))) by rw[<-aO9];exact aF ⟨by rw[p2];exact bHp 60,rfl,p1⟩)) λ_=>aR (r:=aC (aA 0) (aC (aA 5) aU)) rfl hgo
 by_cases h:fH S c n r∉ps/\roundN S (fH S c n r)=true
 .rw[bGa h];refine yG (gJ t (by rw[bG3 h.1,h.2];rfl)) ?_
  rw[aCm (xs:=nats ps) (d:=.int (fH S c n r)) rfl rfl (by rw[bH];omega),<-aK4]
  rfl
 .rw[bG7 h];refine oM (gJ t ?_) rfl;cases h1:roundN S (fH S c n r) with
  |false=>rw[bKy]
  |true=>rw[bGe (bIk λz=>h ⟨z,h1⟩)];rfl
theorem aEx(M:MchW S rk c)(hn:n<2^S.length):∀(rs:List Nat)(ps:List Nat)(x4 x5:Option Sl),(∀r∈rs,r∈bO n)->ps.length+rs.length<=1000->∃x4' x5',forR (tgN 4) oX (nats rs) (pst S c n ps x4 x5)=.ok (.nx (pst S c n (rs.foldl (λps r=>if fH S c n r∉ps/\roundN S (fH S c n r)=true then ps++[fH S c n r] else ps) ps) x4' x5'))
 |[],ps,x4,x5,_,_=>⟨x4,x5,rfl⟩
 |r::rs,ps,x4,x5,h,hl=>by
  rw[bGn]at hl;obtain⟨x5',e1⟩:=aMh M hn (h r bFx) ps (by omega) x5
  obtain⟨y4,y5,e2⟩:=aEx M hn rs (if fH S c n r∉ps/\roundN S (fH S c n r)=true then ps++[fH S c n r] else ps) (some (.v (.int r))) x5' (λr hr=>h r (bFw _ hr)) (by
   split
   .rw[bGg,bHc];omega
   .omega)
  exact⟨y4,y5,fX rfl e1 e2⟩
def aK5(M:MchW S rk c)(hn:n<2^S.length):nM [.lst (stD S),.int n]=.ok (.lst (nats (pA S c n))):=by
 have n8:=M.most;have hro:=uJ hn (by omega)
 have hlen:(bO n).length<=S.length:=jV S.length _ (jE _) λx hx=>eU hn hx
 obtain⟨y4,y5,e⟩:=aEx M hn (bO n) [] none none (λ_ h=>h) (by simp;omega)
 exact cL rfl (aJ (bG (aR rfl (aTb M hn))) (aJ (st':=pst S c n [] none none) (pQ (gY rfl)) (aJ (dY (oN (aR rfl hro)) e) rfl)))
end
section
variable{S:List (List Nat)}{rk:List Nat}{c n:Nat}
def inN(n:Nat):Nat->Bool:=λg=>n.testBit g
def Mut(S:List (List Nat))(c n a b:Nat):Prop:=Rch S c (inN n) a b/\Rch S c (inN n) b a
def rR(M:MchW S rk c){r g:Nat}(hr:r<S.length):(fH S c n r).testBit g=true↔Mut S c n r g:=by
 unfold fH;rw[qU,bGl,bH7,bW,pY M hr];constructor
 .rintro⟨h1,h2⟩;exact⟨h1,(pY M (aEv M hr h1) r).mp h2⟩
 .rintro⟨h1,h2⟩;exact⟨h1,(pY M (aEv M hr h1) r).mpr h2⟩
def aK6(M:MchW S rk c){r g:Nat}(hr:r<S.length)(h:Rch S c (inN n) r g)(hb:Rch S c (inN n) g r):Rch S c (inN (fH S c n r)) r g:=by
 induction h with
 |here=>exact .here
 |on h1 hl ha ih=>
  rename_i y l;have hy:Rch S c (inN n) y r:=Rch.trans (.on .here hl ha) hb;exact .on (ih hy) hl ((rR M hr).mpr ⟨.on h1 hl ha,hb⟩)
def Mut.symm{a b:Nat}(h:Mut S c n a b):Mut S c n b a:=⟨h.2,h.1⟩
theorem Mut.trans{a b d:Nat}(h1:Mut S c n a b)(h2:Mut S c n b d):Mut S c n a d:=⟨Rch.trans h1.1 h2.1,Rch.trans h2.2 h1.2⟩
def aTd(M:MchW S rk c){r g:Nat}(hr:r<S.length)(h:Mut S c n r g):fH S c n g=fH S c n r:=bKe λx=>by
 have hg:=aEv M hr h.1;have e:(fH S c n g).testBit x=true↔(fH S c n r).testBit x=true:=by
  rw[rR M hg,rR M hr];exact⟨λz=>h.trans z,λz=>h.symm.trans z⟩
 cases h1:(fH S c n g).testBit x with
 |true=>exact(e.mp h1).symm
 |false=>
  cases h2:(fH S c n r).testBit x with
  |true=>rw[e.mpr h2]at h1;cases h1
  |false=>rfl
def LpN(S:List (List Nat))(c n:Nat):Prop:=n≠0/\(∀a∈bO n,∀b∈bO n,Rch S c (inN n) a b)/\roundN S n=true
theorem aH3(f:Nat->Nat)(q:Nat->Bool):∀(rs ps:List Nat)(m:Nat),m∈rs.foldl (λps r=>if f r∉ps/\q (f r)=true then ps++[f r] else ps) ps↔m∈ps\/∃r∈rs,f r=m/\q m=true
 |[],ps,m=>by simp
 |r::rs,ps,m=>by
  rw[bM5,aH3 f q rs]
  by_cases h:f r∉ps/\q (f r)=true
  .rw[bGa h];constructor
   .rintro(h1|⟨r',h1,h2⟩)
    .rcases bGm.mp h1 with h1|h1
     .exact .inl h1
     .rw[bFz]at h1;exact .inr ⟨r,bFx,h1.symm,by rw[h1];exact h.2⟩
    .exact .inr ⟨r',bFw _ h1,h2⟩
   .rintro(h1|⟨r',h1,h2,h3⟩)
    .exact .inl (bGx _ h1)
    .rcases bG0.mp h1 with rfl|h1
     .exact .inl (bG8 _ (by rw[h2];simp))
     .exact .inr ⟨r',h1,h2,h3⟩
  .rw[bG7 h];constructor
   .rintro(h1|⟨r',h1,h2⟩)
    .exact .inl h1
    .exact .inr ⟨r',bFw _ h1,h2⟩
   .rintro(h1|⟨r',h1,h2,h3⟩)
    .exact .inl h1
    .rcases bG0.mp h1 with rfl|h1
     .refine .inl (bIk λz=>h ⟨by rw[h2];exact z,by rw[h2];exact h3⟩)
     .exact .inr ⟨r',h1,h2,h3⟩
def aCq:m∈pA S c n↔∃r∈bO n,fH S c n r=m/\roundN S m=true:=by
 unfold pA;rw[aH3 (λr=>fH S c n r) (roundN S)]
 simp
def aX1(M:MchW S rk c){r:Nat}(hn:n<2^S.length)(hr:r∈bO n){g:Nat}(hg:g∈bO (fH S c n r)):g∈bO n:=by
 have h:=(rR M (eU hn hr)).mp (bW.mp hg);exact bW.mpr (aMg (al:=inN n) (bW.mp hr) h.1)
def aK7(M:MchW S rk c){r:Nat}(hn:n<2^S.length)(hr:r∈bO n):r∈bO (fH S c n r):=bW.mpr ((rR M (eU hn hr)).mpr ⟨.here,.here⟩)
def aQk(M:MchW S rk c){r:Nat}(hn:n<2^S.length)(hr:r∈bO n)(hq:roundN S (fH S c n r)=true):LpN S c (fH S c n r):=by
 have hrl:=eU hn hr;refine⟨(λz=>by have:=aK7 M hn hr;rw[z,bW,bKa]at this;cases this),λa ha b hb=>?_,hq⟩
 have ha':=(rR M hrl).mp (bW.mp ha);have hb':=(rR M hrl).mp (bW.mp hb);have hal:=aEv M hrl ha'.1;have h1:=aK6 (n:=n) M hal ha'.2 ha'.1;rw[aTd M hrl ha']at h1;exact Rch.trans h1 (aK6 M hrl hb'.1 hb'.2)
end
def qD(p:Nat×Nat):D:=.tup [.int (p.1:Nat),.int (p.2:Nat)]
def nxt(S T:List (List Nat))(p:Nat×Nat):List (Nat×Nat):=(S.getD p.1 []).zip (T.getD p.2 [])
def InR(n m:Nat)(p:Nat×Nat):Prop:=p.1<n/\p.2<m
def aYz(p q:Nat×Nat):eqD (qD p) (qD q)=decide (p=q):=by
 obtain⟨a,b⟩:=p;obtain⟨c,d⟩:=q;simp only[qD,eqD,lJ,Bool.and_true,Prod.mk.injEq,decide_and];congr 1
 .by_cases h:a=c
  .simp[h]
  .rw[bG3 h,bGs];omega
 .by_cases h:b=d
  .simp[h]
  .rw[bG3 h,bGs];omega
def aOf(p q:Nat×Nat):eqK (qD p) (qD q)=decide (p=q):=by
 obtain⟨a,b⟩:=p;obtain⟨c,d⟩:=q;simp only[qD,eqK,aG0,Bool.and_true,Prod.mk.injEq,decide_and];congr 1
 .by_cases h:a=c
  .simp[h]
  .rw[bG3 h,bGs];omega
 .by_cases h:b=d
  .simp[h]
  .rw[bG3 h,bGs];omega
def aZ0(f:D->Bool)(g:Nat×Nat)(h:∀p,f (qD p)=decide (p=g))(acc:List (Nat×Nat)):(acc.map qD).any f=decide (g∈acc):=by
 rw[bKw]
 by_cases hg:g∈acc
 .rw[bGe hg,bI3];exact⟨g,hg,by simp[h]⟩
 .rw[bG3 hg,bJb];intro x hx;have:x≠g:=λz=>hg (by rw[<-z];exact hx)
  simp[h,this]
def bFj(g:Nat×Nat)(acc:List (Nat×Nat)):inD (qD g) (acc.map qD)=decide (g∈acc):=aZ0 _ g (λp=>aYz p g) acc
def aZ1(g:Nat×Nat)(acc:List (Nat×Nat)):pJ (acc.map qD) (qD g)=decide (g∈acc):=aZ0 _ g (λp=>aOf p g) acc
def aOg(acc:List (Nat×Nat)):cZ (acc.map qD)=true/\fZ (acc.map qD)<=1:=by
 induction acc with
 |nil=>simp[fZ]
 |cons p acc ih=>
  obtain⟨h1,h2⟩:=ih;rw[bGf];refine⟨by rw[gH,h1];simp[qD],?_⟩
  conv=>lhs;unfold fZ
  have:dep (qD p)=1:=by simp[qD,dep,fZ]
  omega
theorem aTe:∀(r t:List Nat),aG3 (nats r) (nats t)=(r.zip t).map qD
 |[],t=>by simp[nats,aG3]
 |a::r,[]=>by simp[nats,aG3]
 |a::r,b::t=>by
  have:=aTe r t;unfold nats at this ⊢;rw[bGf,bGf,aG3,this];rfl
def cP(p:Nat×Nat):Int×Int:=(p.1,p.2)
theorem aZ2:∀acc:List (Nat×Nat),prs (acc.map qD)=.ok (acc.map cP)
 |[]=>rfl
 |p::acc=>by
  rw[bGf,qD,prs,aZ2 acc];rfl
section
variable {c:Nat}
def aX2{p:Nat×Nat}(hp:InR S.length T.length p):(nxt S T p).map qD=aG3 (nats (S[p.1]'hp.1)) (nats (T[p.2]'hp.2)):=by
 rw[aTe];unfold nxt;rw[bG5,bFv hp.1,bMh,bG5,bFv hp.2,bMh]
end
def aIe{tg:Tg} {st:PSt} (hf:f st=.ok d) (ht:tg d st=.ok s1):aM6 tg f st=.ok (.nx s1):=by
 rw[aWl,hf,aK,ht,aK]
def bFk{i:Nat}{p:Nat×Nat}(h:acc[i]?=some p):atI (acc.map qD) (i:Int)=some (qD p):=by
 obtain⟨h1,h2⟩:=bFy.mp h;rw[atI_nat (by rw[bG6];exact h1),bK9,h2]
def aK8{st:PSt} {vs:List D} {p:Nat×Nat} (hf:f st=.ok d) (hg:g st=.ok (qD p)) (hs:st[i]?=some (some (.o (.d true (acc.map qD)) vs))) (hp:p∉acc) (hl:vs.length<1000000):sDPut i g f st=.ok (.nx (st.set i (some (.o (.d true ((acc++[p]).map qD)) (vs++[d]))))):=by
 have hk:pJ (acc.map qD) (qD p)=false:=by rw[aZ1,bG3 hp]
 unfold sDPut;rw[hf,aK,hg,aK,hs];have e1:rJ (acc.map qD) (qD p)=(acc++[p]).map qD:=by
  unfold rJ;rw[hk,bGw];rfl
 have e2:wF (acc.map qD) vs (qD p) d=vs++[d]:=by
  unfold wF;rw[hk];rfl
 dsimp only;rw[aF ⟨rfl,aI0 (bJm hl (by decide))⟩,e1,e2]
theorem get_map(h:Nat×Nat->D){p:Nat×Nat}:∀{acc:List (Nat×Nat)},p∈acc->pI (acc.map qD) (acc.map h) (qD p)=some (h p)
 |q::acc,hp=>by
  unfold pI;rw[bGf,bGf,bHq,find?_cons];dsimp only;rw[aOf]
  by_cases e:q=p
  .rw[bGe e,e];rfl
  .rw[bG3 e];exact get_map h ((bG0.mp hp).resolve_left (bHx e))
section
variable{S T:List (List Nat)}{rk rk':List Nat}{c c' l r i:Nat}{acc:List (Nat×Nat)}
def hvP(S T:List (List Nat))(p:Nat×Nat):D:=.lst ((nxt S T p).map qD)
def gst(S T:List (List Nat))(m1 m2:D)(acc:List (Nat×Nat))(x3 x4:Option Sl):PSt:=[some (.v m1),some (.v m2),some (.o (.d true (acc.map qD)) (acc.map (hvP S T))),x3,x4]
def aTf(hl:l<S.length)(hr:r<T.length)(hp:(l,r)∉acc)(hn:acc.length<1000):mY (gst S T (mD S rk c) (mD T rk' c') acc (some (.v (.int l))) (some (.v (.int r))))=.ok (.nx (gst S T (mD S rk c) (mD T rk' c') (acc++[(l,r)]) (some (.v (.int l))) (some (.v (.int r))))):=by
 have f1:e1 (dW "Machine" "steps") (aA 0) (gst S T (mD S rk c) (mD T rk' c') acc (some (.v (.int l))) (some (.v (.int r))))=.ok (.lst (stD S)):=aCn;have f2:e1 (dW "Machine" "steps") (aA 1) (gst S T (mD S rk c) (mD T rk' c') acc (some (.v (.int l))) (some (.v (.int r))))=.ok (.lst (stD T)):=aCn;have hd:=aK8 (i:=2) (g:=rH (aC (aA 3) (aC (aA 4) aU))) (f:=e2 aGq (e2 dIx (e1 (dW "Machine" "steps") (aA 0)) (aA 3)) (e2 dIx (e1 (dW "Machine" "steps") (aA 1)) (aA 4))) (st:=gst S T (mD S rk c) (mD T rk' c') acc (some (.v (.int l))) (some (.v (.int r)))) (acc:=acc) (vs:=acc.map (hvP S T)) (p:=(l,r)) (d:=hvP S T (l,r))
  (aH (aH f1 rfl (fY (aCp hl))) (aH f2 rfl (fY (aCp hr))) (by unfold hvP;rw[aX2 (p:=(l,r)) ⟨hl,hr⟩];rfl)) (by simp[qD,gst]) rfl hp (by rw[bG6];omega)
 show sDPut 2 _ _ _=_;rw[hd];unfold gst;rw[bGw (f:=hvP S T)];rfl
theorem aTg(hl:l<S.length):∀(k r:Nat) (acc:List (Nat×Nat)) (x4:Option Sl),r+k=T.length->(∀p∈acc,p.1<l\/(p.1=l/\p.2<r))->acc.length+k<=1000->
  ∃x4',forR (tgN 4) mY ((List.range' r k).map λ(k:Nat)=>D.int (k:Int)) (gst S T (mD S rk c) (mD T rk' c') acc (some (.v (.int l))) x4)=.ok (.nx (gst S T (mD S rk c) (mD T rk' c') (acc++(List.range' r k).map (Prod.mk l)) (some (.v (.int l))) x4'))
 |0,r,acc,x4,_,_,_=>⟨x4,by simp[forR]⟩
 |k+1,r,acc,x4,hk,ha,hn=>by
  obtain⟨x4',e⟩:=aTg hl k (r+1) (acc++[(l,r)]) (some (.v (.int r))) (by omega) (λp hp=>by
   rcases bGm.mp hp with hp|hp
   .rcases ha p hp with h|h
    .exact .inl h
    .exact .inr ⟨h.1,by omega⟩
   .rw[bFz.mp hp];exact .inr ⟨rfl,bIh _⟩) (by rw[bGg,bHc];omega)
  refine⟨x4',?_⟩;rw[bJh,bGf,bGf];rw[bIq,List.singleton_append]at e;exact fX (s1:=gst S T (mD S rk c) (mD T rk' c') acc (some (.v (.int l))) (some (.v (.int r)))) rfl (aTf hl (by omega) (λz=>by rcases ha _ z with h|h<;>simp at h) (by omega)) e
def uK(n m l k:Nat):List (Nat×Nat):=(List.range' l k).flatMap λl=>(List.range' 0 m).map (Prod.mk l)
theorem aOh(h8:T.length<=8):∀(k l:Nat) (acc:List (Nat×Nat)) (x3 x4:Option Sl),l+k=S.length->(∀p∈acc,p.1<l)->acc.length+8*k<=1000->
  ∃x3' x4',forR (tgN 3) uH ((List.range' l k).map λ(k:Nat)=>D.int (k:Int)) (gst S T (mD S rk c) (mD T rk' c') acc x3 x4)=.ok (.nx (gst S T (mD S rk c) (mD T rk' c') (acc++uK S.length T.length l k) x3' x4'))
 |0,l,acc,x3,x4,_,_,_=>⟨x3,x4,by simp[forR,uK]⟩
 |k+1,l,acc,x3,x4,hk,ha,hn=>by
  obtain⟨y4,e1⟩:=aTg (S:=S) (T:=T) (rk:=rk) (rk':=rk') (c:=c) (c':=c') (l:=l) (by omega) T.length 0 acc x4 (by omega) (λp hp=>.inl (ha p hp)) (by omega)
  obtain⟨z3,z4,e2⟩:=aOh h8 k (l+1) (acc++(List.range' 0 T.length).map (Prod.mk l)) (some (.v (.int l))) y4 (by omega) (λp hp=>by
   rcases bGm.mp hp with hp|hp
   .have:=ha p hp;omega
   .obtain⟨x,_,rfl⟩:=bGc.mp hp;exact bIh _) (by rw[bGg,bG6,List.length_range'];omega)
  refine⟨z3,z4,?_⟩;have ea:acc++uK S.length T.length l (k+1)=(acc++(List.range' 0 T.length).map (Prod.mk l))++uK S.length T.length (l+1) k:=by
   unfold uK;rw[bJh,bL5,bIq]
  rw[ea,bJh,bGf];refine fX (s1:=gst S T (mD S rk c) (mD T rk' c') acc (some (.v (.int l))) x4) rfl (dY (aBi (n:=T.length) ?_ (by omega)) ?_) e2
  .exact aEs
  .rw[bKf];exact e1
def aEy{p:Nat×Nat}:p∈uK n m 0 n↔InR n m p:=by
 unfold uK InR;rw[List.mem_flatMap];constructor
 .rintro⟨l,h1,h2⟩;obtain⟨r,h3,rfl⟩:=bGc.mp h2;have:=bK0.mp h1;have:=bK0.mp h3;constructor<;>dsimp only<;>omega
 .rintro⟨h1,h2⟩;exact⟨p.1,bK0.mpr ⟨bHp _,by omega⟩,bGc.mpr ⟨p.2,bK0.mpr ⟨bHp _,by omega⟩,rfl⟩⟩
theorem aK9(n m:Nat):∀(k l:Nat),(uK n m l k).length=k*m
 |0,l=>by simp[uK]
 |k+1,l=>by
  have:=aK9 n m k (l+1);unfold uK at this ⊢;rw[bJh,bL5,bGg,this,bG6,List.length_range',Nat.succ_mul,Nat.add_comm]
def aEz(S T:List (List Nat)):D:=.dct true ((uK S.length T.length 0 S.length).map qD) ((uK S.length T.length 0 S.length).map (hvP S T))
def aQl(M:Mch S rk c)(M':Mch T rk' c'):lO [mD S rk c,mD T rk' c']=.ok (aEz S T):=by
 have h8:=M.most;obtain⟨x3,x4,e⟩:=aOh (S:=S) (T:=T) (rk:=rk) (rk':=rk') (c:=c) (c':=c') M'.most S.length 0 [] none none (by omega) (λ_ h=>nomatch h) (by simp;omega)
 rw[nil_append]at e;refine cL rfl ?_
 unfold qJ;refine aJ (st':=gst S T (mD S rk c) (mD T rk' c') [] none none) rfl ?_
 refine aJ (st':=gst S T (mD S rk c) (mD T rk' c') (uK S.length T.length 0 S.length) x3 x4) (dY (aBi (n:=S.length) aEs (by omega)) (by rw[bKf];exact e)) ?_
 simp[gst,ofK,aEz]
end
def dTw(S T:List (List Nat))(p:Nat×Nat)(k:Nat):Nat×Nat:=(stp S p.1 k,stp T p.2 k)
def pairs_len{l:List (Nat×Nat)}(nd:l.Nodup)(h:∀p∈l,InR n m p){k:Nat}(hn:n<=k)(hm:m<=8):l.length<=8*k:=by
 have h1:=jV (8*k) (l.map λp=>8*p.1+p.2) (by
  unfold Nodup;rw[bLz];exact nd.imp_of_mem λ{a b} ha hbM ne z=>ne (by
   have h1:=h a ha;have h2:=h b hbM;unfold InR at h1 h2;exact bMi (by omega) (by omega))) λx hx=>by
  obtain⟨p,hp,rfl⟩:=bGc.mp hx;have:=h p hp;unfold InR at this;omega
 simpa using h1
section
variable{S T:List (List Nat)}{rk rk':List Nat}{c l r i:Nat}{acc:List ((Nat×Nat)×List Nat)}
abbrev B2(S T:List (List Nat))(c l r i j:Nat)(acc:List ((Nat×Nat)×List Nat)):Prop:=BG (dTw S T) (l,r) c (InR S.length T.length) i j acc
def aTh(M:Mch S rk c)(M':Mch T rk' c)(p:Nat×Nat)(k:Nat)(hp:InR S.length T.length p)(hk:k<c):InR S.length T.length (dTw S T p k):=by
 obtain⟨_,_,_,h1⟩:=yH M.w hp.1 hk;obtain⟨_,_,_,h2⟩:=yH M'.w hp.2 hk;exact⟨h1,h2⟩
def aCr(M:Mch S rk c){q:Nat}(hq:q<S.length):(S.getD q []).length=c:=by
 rw[bG5,bFv hq,bMh,(M.row _ (bGq hq)).1]
def aE7(M:Mch S rk c)(M':Mch T rk' c){p:Nat×Nat}(hp:InR S.length T.length p):(nxt S T p).length=c:=by
 unfold nxt;rw[length_zip,aCr M hp.1,aCr M' hp.2,Nat.min_self]
def aTi(M:Mch S rk c)(M':Mch T rk' c){p:Nat×Nat}(hp:InR S.length T.length p){k:Nat}(hk:k<(nxt S T p).length):(nxt S T p)[k]=dTw S T p k:=by
 have hl:=aE7 M M' hp;have e:(nxt S T p)[k]=((S.getD p.1 [])[k]'(by rw[aCr M hp.1];omega),(T.getD p.2 [])[k]'(by rw[aCr M' hp.2];omega)):=bLo
 rw[e];unfold dTw stp;rw[ bG5 (l:=S.getD p.1 []),bG5 (l:=T.getD p.2 []),bFv (by rw[aCr M hp.1];omega),bFv (by rw[aCr M' hp.2];omega)]
 rfl
def kQ(acc:List ((Nat×Nat)×List Nat)):List D:=acc.map λx=>qD x.1
def wQ(acc:List ((Nat×Nat)×List Nat)):List D:=acc.map λx=>D.str x.2
def aOi(acc:List ((Nat×Nat)×List Nat)):kQ acc=(acc.map (·.1)).map qD:=by unfold kQ;rw[bH8];rfl
def vst(S T:List (List Nat))(l r:Nat)(acc:List ((Nat×Nat)×List Nat))(i:Nat)(x6 x7 x8:Option Sl):PSt:=
 [some (.v (aEz S T)),some (.v (qD (l,r))),some (.v (.lst ((uK S.length T.length 0 S.length).map qD))),some (.o (.d true (kQ acc)) (wQ acc)),some (.o .l (kQ acc)),some (.v (.int i)),x6,x7,x8]
def B2.len(b:B2 S T c l r i j acc)(hn:S.length<=8)(hm:T.length<=8):acc.length<=64:=by
 have:=pairs_len b.nd (λp hp=>by obtain⟨x,hx,rfl⟩:=bGc.mp hp;exact(b.lt x hx).1) hn hm
 rwa [bG6]at this
def aTj(M:Mch S rk c)(M':Mch T rk' c){x:(Nat×Nat)×List Nat} (b:B2 S T c l r i j acc) (hx:acc[i]?=some x) (hj:j<c) :
  tE (vst S T l r acc i (some (.v (qD x.1))) (some (.v (.str [97+j]))) (some (.v (qD (dTw S T x.1 j)))))=.ok (.nx (vst S T l r (bsG acc (dTw S T x.1 j) (x.2++[97+j])) i (some (.v (qD x.1))) (some (.v (.str [97+j]))) (some (.v (qD (dTw S T x.1 j)))))):=by
 obtain⟨p1,p2⟩:=aOg (uK S.length T.length 0 S.length);have hxm:=bGt hx;have hl:=b.len M.most M'.most;have hil:=(bFy.mp hx).1;have hwl:=b.wl i i x (bG4 _) hx;have hg:=aTh M M' x.1 j (b.lt x hxm).1 hj;generalize hge:dTw S T x.1 j=g at hg;have t1:e2 dIn (aA 8) (aA 2) (vst S T l r acc i (some (.v (qD x.1))) (some (.v (.str [97+j]))) (some (.v (qD g))))=.ok (.bl true):=aH rfl rfl (by
  have:=bFj g (uK S.length T.length 0 S.length);rw[bGe (aEy.mpr hg)]at this;rw[<-this];exact aF ⟨by omega,by simp[qD],p1⟩)
 have t2:e2 sZ (aA 8) (eF 3) (vst S T l r acc i (some (.v (qD x.1))) (some (.v (.str [97+j]))) (some (.v (qD g))))=.ok (.bl (!decide (g∈acc.map (·.1)))):=aH rfl rfl (by rw[<-aZ1,<-aOi];exact aF rfl)
 have t:=vJ t1 λ_=>t2
 unfold bsG
 by_cases h:g∈acc.map (·.1)
 .rw[bGa h];exact oM (gJ t (by rw[bGe h];rfl)) rfl
 .rw[bG7 h];refine yG (gJ t (by rw[bG3 h];rfl)) ?_
  have ev:e2 cY (e2 dIx (eF 3) (aA 6)) (aA 7) (vst S T l r acc i (some (.v (qD x.1))) (some (.v (.str [97+j]))) (some (.v (qD g))))=.ok (.str (x.2++[97+j])):=by
   refine aH (x:=.str x.2) (y:=.str [97+j]) (aH rfl rfl ?_) rfl (aF (fC (by show x.2.length+1<=_;omega)))
   show aV (keyOk true (qD x.1)=true) (ofO (pI (kQ acc) (wQ acc) (qD x.1)))=_;rw[aF (c:=keyOk true (qD x.1)=true) rfl,show pI (kQ acc) (wQ acc) (qD x.1)=_ from aWw qD aOf b.nd hxm]
   rfl
  have hd:=aK8 (i:=3) (g:=aA 8) (acc:=acc.map (·.1)) (vs:=wQ acc) (p:=g) ev rfl (by rw[<-aOi];rfl) h (by unfold wQ;rw[bG6];omega)
  refine aJ hd ?_
  have ha:=aCm (i:=4) (f:=aA 8) (st:=(vst S T l r acc i (some (.v (qD x.1))) (some (.v (.str [97+j]))) (some (.v (qD g)))).set 3 (some (.o (.d true ((acc.map (·.1)++[g]).map qD)) (wQ acc++[.str (x.2++[97+j])])))) (xs:=kQ acc) (d:=qD g) rfl rfl (by unfold kQ;rw[bG6];omega)
  rw[ha];unfold vst kQ wQ;simp only[List.map_append,List.map_map,map_cons,map_nil];rfl
def aKa(h:j<3):[97,98,99].drop j=(97+j)::[97,98,99].drop (j+1):=by
 have:j=0\/j=1\/j=2:=by omega
 rcases this with rfl|rfl|rfl<;>rfl
theorem aTk(M:Mch S rk c)(M':Mch T rk' c){x:(Nat×Nat)×List Nat}:∀(k j:Nat) (acc:List ((Nat×Nat)×List Nat)) (x7 x8:Option Sl),j+k=c->B2 S T c l r i j acc->acc[i]?=some x->
  ∃acc' x7' x8',forR (tgT [7,8]) tE (uY ([97,98,99].drop j) (((nxt S T x.1).drop j).map qD)) (vst S T l r acc i (some (.v (qD x.1))) x7 x8)=.ok (.nx (vst S T l r acc' i (some (.v (qD x.1))) x7' x8'))/\B2 S T c l r i c acc'/\acc'[i]?=some x
 |0,j,acc,x7,x8,hk,b,hx=>by
  obtain rfl:j=c:=by omega
  refine⟨acc,x7,x8,?_,b,hx⟩;rw[bJx (l:=nxt S T x.1) (by rw[aE7 M M' (b.lt x (bGt hx)).1];exact bG4 _)]
  cases [97,98,99].drop j<;>rfl
 |k+1,j,acc,x7,x8,hk,b,hx=>by
  have c3:=M.c3;have hj:j<c:=by omega
  have hp:=(b.lt x (bGt hx)).1;have hlt:j<(nxt S T x.1).length:=by rw[aE7 M M' hp];exact hj
  obtain⟨acc',y7,y8,e,b',hx'⟩:=aTk M M' k (j+1) _ (some (.v (.str [97+j]))) (some (.v (qD (dTw S T x.1 j)))) (by omega) (b.turn (aTh M M') hx hj) (aMe hx)
  refine⟨acc',y7,y8,?_,b',hx'⟩;rw[aKa (by omega),bIn hlt,aTi M M' hp,bGf]
  exact fX (s1:=vst S T l r acc i (some (.v (qD x.1))) (some (.v (.str [97+j]))) (some (.v (qD (dTw S T x.1 j))))) rfl (aTj M M' b hx hj) e
theorem aOj(M:Mch S rk c)(M':Mch T rk' c):∀(k i:Nat) (acc:List ((Nat×Nat)×List Nat)) (x6 x7 x8:Option Sl) (f:Nat),65<=k+i->k<=f->B2 S T c l r i 0 acc->i<=acc.length->
  ∃acc' x6' x7' x8',jP tH aA6 f (vst S T l r acc i x6 x7 x8)=.ok (.nx (vst S T l r acc' acc'.length x6' x7' x8'))/\B2 S T c l r acc'.length 0 acc'
 |0,i,acc,x6,x7,x8,f,hk,hf,b,hi=>by have:=b.len M.most M'.most;omega
 |k+1,i,acc,x6,x7,x8,f,hk,hf,b,hi=>by
  obtain⟨f,rfl⟩:∃g,f=g+1:=⟨f-1,by omega⟩
  have test:tH (vst S T l r acc i x6 x7 x8)=.ok (.bl (decide ((i:Int)<((kQ acc).length:Nat)))):=aH rfl rfl rfl;rw[show (kQ acc).length=acc.length by unfold kQ;simp]at test
  by_cases hlt:i<acc.length
  .have hx:acc[i]?=some acc[i]:=bFv hlt;generalize acc[i]=x at hx;have hp:=(b.lt x (bGt hx)).1;obtain⟨acc1,y7,y8,e,b1,hx1⟩:=aTk (l:=l) (r:=r) (i:=i) M M' c 0 acc x7 x8 (by omega) b hx
   have hl2:=(bFy.mp hx1).1;obtain⟨acc2,z6,z7,z8,ew,b2⟩:=aOj M M' k (i+1) acc1 (some (.v (qD x.1))) y7 y8 f (by omega) (by omega) b1.next (by omega)
   refine⟨acc2,z6,z7,z8,aEq (gJ test (aWt hlt)) (st':=vst S T l r acc1 (i+1) (some (.v (qD x.1))) y7 y8) ?_ ew,b2⟩;refine aJ (st':=vst S T l r acc i (some (.v (qD x.1))) x7 x8) (bG (aH rfl rfl (fY (by rw[aOi];exact bFk (by rw[bGu,hx];rfl))))) ?_
   refine aJ (st':=vst S T l r acc1 i (some (.v (qD x.1))) y7 y8) (dY (xs:=uY [97,98,99] ((nxt S T x.1).map qD)) ?_ e) (bG rfl);show ((e2 dIx (aA 0) (aA 6)) _).bind _=_;rw[aH (x:=aEz S T) (y:=qD x.1) (z:=.ok (hvP S T x.1)) rfl rfl (by
    show aV (keyOk true (qD x.1)=true) (ofO (pI _ _ (qD x.1)))=_;rw[aF (c:=keyOk true (qD x.1)=true) rfl,get_map (hvP S T) (aEy.mpr hp)];rfl)]
   rfl
  .have:i=acc.length:=by omega
   subst this;exact⟨acc,x6,x7,x8,aGt (gJ test (bDp hlt)),b⟩
def aTl(M:Mch S rk c)(M':Mch T rk' c)(hl:l<S.length)(hr:r<T.length):∃acc,rO [aEz S T,qD (l,r),.lst ((uK S.length T.length 0 S.length).map qD)]=.ok (.dct true (kQ acc) (wQ acc))/\B2 S T c l r acc.length 0 acc:=by
 obtain⟨acc,x6,x7,x8,e,b⟩:=aOj (l:=l) (r:=r) M M' 65 0 [((l,r),[])] none none none 100000 (by omega) (by omega) (BG.start ⟨hl,hr⟩) (bHp _)
 refine⟨acc,cL rfl ?_,b⟩;unfold xU;refine aJ (st':=[some (.v (aEz S T)),some (.v (qD (l,r))),some (.v (.lst ((uK S.length T.length 0 S.length).map qD))),some (.o (.d true [qD (l,r)]) [.str []]),none,none,none,none,none]) ?_ ?_
 .show ((aA 1) _).bind _=_;exact aF ⟨rfl,rfl⟩
 refine aJ (st':=[some (.v (aEz S T)),some (.v (qD (l,r))),some (.v (.lst ((uK S.length T.length 0 S.length).map qD))),some (.o (.d true [qD (l,r)]) [.str []]),some (.o .l [qD (l,r)]),none,none,none,none]) (pQ (gY rfl)) ?_
 refine aJ (st':=vst S T l r [((l,r),[])] 0 none none none) (bG rfl) ?_
 refine aJ (st':=vst S T l r acc acc.length x6 x7 x8) (by rw[aGo];exact e) ?_
 simp[vst,ofK]
end
theorem aKb{α:Type}{C E:Ex}{st:PSt}{j:Nat}(F G:α->D){q:α->Bool}:∀l:List α,(∀a∈l,C (st.set j (some (.v (F a))))=.ok (.bl (q a))/\(q a=true->E (st.set j (some (.v (F a))))=.ok (G a)))->jO (tgN j) C E st (l.map F)=.ok ((l.filter q).map G)
 |[],_=>rfl
 |a::l,h=>by
  obtain⟨h1,h2⟩:=h a bFx;rw[bGf,kJ,show tgN j (F a) st=.ok (st.set j (some (.v (F a)))) from rfl,aK,h1,aK,mR,aKb F G l λa ha=>h a (bFw _ ha)]
  cases hq:q a with
  |true=>
   rw[bGa rfl,h2 hq,aK,aK,bLd hq];rfl
  |false=>
   rw[bG7 bGh,bLe (by rw[hq];exact bGh)]
def vL{E:Ex}{st:PSt} (F G:α->D) {l:List α} (h:it st=.ok (l.map F)) (hl:l.length<=1000000) (hE:∀a∈l,E ((st.set j none).set j (some (.v (F a))))=.ok (G a)):bI [j] (tgN j) it bL E st=.ok (.lst (l.map G)):=by
 have:=aKb (C:=bL) (E:=E) (st:=st.set j none) (j:=j) F G (q:=λ_=>true) l λa ha=>⟨rfl,λ_=>hE a ha⟩
 rw[List.filter_eq_self.mpr λ_ _=>rfl]at this
 exact nR h (by rw[bG6];exact hl) this
def bB2(L:List (Nat×Nat)):∃sq:List (Nat×Nat),(aWo (L.map cP)).map pD=sq.map qD/\sq.Perm L:=by
 have hp:=aQf (L.map cP);refine⟨(aWo (L.map cP)).map λp=>(p.1.toNat,p.2.toNat),?_,?_⟩
 .rw[bH8];refine bHu λp hp'=>?_
  obtain⟨q,_,rfl⟩:=bGc.mp (hp.mem_iff.mp hp');rfl
 .have:=hp.map λp:Int×Int=>(p.1.toNat,p.2.toNat)
  rw[bH8]at this;have e:L.map ((λp:Int×Int=>(p.1.toNat,p.2.toNat)) ∘ cP)=L:=by
   conv=>rhs;rw[<-List.map_id L]
   exact bHu λp _=>rfl
  rwa [e]at this
section
variable{S T:List (List Nat)}{rk rk':List Nat}{c l r:Nat}
structure Sd(S T:List (List Nat))(c l r:Nat)(sq:List (Nat×Nat))(fr:Nat×Nat->List Nat):Prop where
 nd:sq.Nodup
 inr:∀p∈sq,InR S.length T.length p
 len:sq.length<=64
 cl:∀p∈sq,∀k,k<c->dTw S T p k∈sq
 lead:∀p∈sq,goG (dTw S T) (l,r) (fr p)=p/\Ltr c (fr p)/\(fr p).length<=64
 least:∀v,Ltr c v->goG (dTw S T) (l,r) v∈sq/\sle (fr (goG (dTw S T) (l,r) v)) v
def uS(S T:List (List Nat))(c:Nat)(sq:List (Nat×Nat)):List (List Nat):=sq.map λp=>(List.range c).map λk=>sq.idxOf (dTw S T p k)
def laS(rk:List Nat)(sq:List (Nat×Nat)):List Nat:=sq.map λp=>rk.getD p.1 0
def lbS(rk':List Nat)(sq:List (Nat×Nat)):List Nat:=sq.map λp=>rk'.getD p.2 0
def sdD(S T:List (List Nat))(rk rk':List Nat)(c:Nat)(sq:List (Nat×Nat))(fr:Nat×Nat->List Nat):D:=.ins "Sides" ["pairs","fronts","steps","lefts","rights"] [.lst (sq.map qD),.lst (sq.map λp=>D.str (fr p)),.lst (stD (uS S T c sq)),.lst (nats (laS rk sq)),.lst (nats (lbS rk' sq))]
def aIf:dW "Machine" "ranks" (mD S rk c)=.ok (.lst (nats rk)):=by unfold mD;rw[oK,aF rfl];rfl
def aMi:iQ [mD S rk c,mD T rk' c]=.ok .non:=by
 unfold iQ oZ;simp[aK0]
def aTm{x:Nat}(h:x<S.length):cG [mD S rk c,.int x]=.ok .non:=by
 unfold cG jC;have h1:=aSz (.int x) S.length rfl;have:aJz S.length (.int x)=true:=by simp[aJz,h]
 simp[aEs,h1,this]
def sst(x:Nat)(ns:List String)(xs:List D)(m1 m2 a b:D)(x5 x6:Option Sl):PSt:=[some (.o (.i x "Sides" ns) xs),some (.v m1),some (.v m2),some (.v a),some (.v b),x5,x6,none,none]
def aH4{x:Nat}{ns:List String} {d m1 m2 a b:D} {x6 x7 x8:Option Sl}:e1 (dW "Sides" "pairs") (eF 0) [some (.o (.i x "Sides" ("pairs" :: ns)) (d::xs)),some (.v m1),some (.v m2),some (.v a),some (.v b),x5,x6,x7,x8]=.ok d:=by
 show aV ("Sides"="Sides") (ofO ((("pairs" :: ns).zip (d::xs)).lookup "pairs"))=_;rw[aF rfl,bHq,bHj,beq_self_eq_true];rfl
def aBn{x:Nat}{ns:List String} {m1 m2 a b:D} {x6:Option Sl} {f:String} {e:Ex} (h:e (sst x ns xs m1 m2 a b x5 x6)=.ok d) (hf:f∉ns/\ns.length<900):wG 0 "Sides" f e (sst x ns xs m1 m2 a b x5 x6)=.ok (.nx (sst x (ns++[f]) (xs++[d]) m1 m2 a b x5 x6)):=by
 rw[aJq,h,aK];exact aF ⟨rfl,hf⟩
def aTn{ks vs:List D}{p:Nat×Nat} (h:pI ks vs (qD p)=some d):dIx (.dct true ks vs) (qD p)=.ok d:=by
 show aV (keyOk true (qD p)=true) (ofO (pI _ _ (qD p)))=_;rw[aF (c:=keyOk true (qD p)=true) rfl,h];rfl
def bDs{g:Nat×Nat}(h:g∈sq):(sq.map qD).findIdx? (λd=>eqD d (qD g))=some (sq.idxOf g):=by
 induction sq with
 |nil=>nomatch h
 |cons p sq ih=>
  rw[bGf,List.findIdx?_cons,aYz,List.idxOf_cons]
  by_cases e:p=g
  .rw[bGe e,bGa rfl,show (p==g)=true by simp[e]]
   rfl
  .rw[bG3 e,bG7 bGh,show (p==g)=false by simp[e],ih ((bG0.mp h).resolve_left (bHx e))]
   rfl
def yJ{l:List Nat}{i:Nat}(h:i<l.length):atI (nats l) (i:Int)=some (.int (l.getD i 0:Nat)):=by
 rw[atI_nat (by rw[bH];exact h)]
 simp[nats,h]
def aTo(M:Mch S rk c)(M':Mch T rk' c)(s7:S.length<=7)(hl:l<S.length)(hr:r<T.length):∃sq fr,jL [mD S rk c,mD T rk' c,.int l,.int r]=.ok (sdD S T rk rk' c sq fr)/\Sd S T c l r sq fr:=by
 obtain⟨acc,hw,b⟩:=aTl M M' hl hr;obtain⟨sq,hsq,perm⟩:=bB2 (acc.map (·.1));have hlen:acc.length<64:=by
  have:=pairs_len b.nd (λp hp=>by obtain⟨x,hx,rfl⟩:=bGc.mp hp;exact(b.lt x hx).1) s7 M'.most
  rw[bG6]at this;omega
 have hn:=M.most;have hm:=M'.most;have hsl:sq.length<=64:=by rw[perm.length_eq,bG6];omega
 have frE:∃fr:Nat×Nat->List Nat,∀x∈acc,fr x.1=x.2:=by
  refine⟨λp=>((acc.find? λx=>decide (x.1=p)).map (·.2)).getD [],λx hx=>?_⟩
  have nd:=b.nd;clear hw b hsq perm hlen hsl
  induction acc with
  |nil=>nomatch hx
  |cons y acc ih=>
   rw[bGf,bIj]at nd;dsimp only;rw[find?_cons];rcases bG0.mp hx with rfl|hx
   .rw[bGe rfl];rfl
   .rw[bG3 λz:y.1=x.1=>nd.1 (by rw[z];exact bGc.mpr ⟨x,hx,rfl⟩)]
    exact ih hx nd.2
 obtain⟨fr,hfr⟩:=frE;have of_sq:∀p∈sq,∃x∈acc,x.1=p:=λp hp=>bGc.mp (perm.mem_iff.mp hp)
 have in_sq:∀x∈acc,x.1∈sq:=λx hx=>perm.mem_iff.mpr (bGc.mpr ⟨x,hx,rfl⟩)
 have sd:Sd S T c l r sq fr:=by
  refine⟨perm.nodup_iff.mpr b.nd,λp hp=>?_,hsl,λp hp k hk=>?_,λp hp=>?_,λv hv=>?_⟩
  .obtain⟨x,hx,rfl⟩:=of_sq p hp;exact(b.lt x hx).1
  .obtain⟨x,hx,rfl⟩:=of_sq p hp;obtain⟨i,hi⟩:=bH6.mp hx;obtain⟨y,hy,e,_⟩:=b.cls i x k hi hk (.inl (bFy.mp hi).1);rw[<-e];exact in_sq y hy
  .obtain⟨x,hx,rfl⟩:=of_sq p hp;obtain⟨i,hi⟩:=bH6.mp hx;have h1:=b.wl i i x (bG4 _) hi;have h2:=(bFy.mp hi).1;rw[hfr x hx];exact⟨(b.lt x hx).2.1,(b.lt x hx).2.2,by omega⟩
  .obtain⟨y,hy,e1,e2⟩:=b.whole hv;rw[<-e1,hfr y hy];exact⟨in_sq y hy,e2⟩
 refine⟨sq,fr,?_,sd⟩;refine aNs λx=>?_
 unfold aEj;rw[aF (show ([mD S rk c,mD T rk' c,D.int l,D.int r]:List D).length=4 from rfl)]
 let st (ns:List String) (xs:List D):PSt:=sst x ns xs (mD S rk c) (mD T rk' c) (.int l) (.int r) (some (.v (aEz S T))) (some (.v (.dct true (kQ acc) (wQ acc))))
 have it:∀ns xs,itE (e1 (dW "Sides" "pairs") (eF 0)) (st ("pairs" :: ns) (.lst (sq.map qD)::xs))=.ok (sq.map qD):=λns xs=>oN aH4
 have c1:∀ns xs,bI [7] (tgN 7) (itE (e1 (dW "Sides" "pairs") (eF 0))) bL qK (st ("pairs" :: ns) (.lst (sq.map qD)::xs))=.ok (.lst (sq.map λp=>D.str (fr p))):=λns xs=>vL qD _ (it ns xs) (by omega) λp hp=>by
  obtain⟨x,hx,rfl⟩:=of_sq p hp;rw[hfr x hx];exact aH rfl rfl (aTn (aWw qD aOf b.nd hx))
 have c2:∀ns xs,bI [7] (tgN 7) (itE (e1 (dW "Sides" "pairs") (eF 0))) bL qM (st ("pairs" :: ns) (.lst (sq.map qD)::xs))=.ok (.lst (stD (uS S T c sq))):=λns xs=>by
  unfold stD uS;rw[bH8];refine vL qD _ (it ns xs) (by omega) λp hp=>?_
  have hpin:=sd.inr p hp;have c3:=M.c3;have h3:=aE7 M M' hpin;have en:nxt S T p=(List.range c).map (dTw S T p):=by
   refine List.ext_getElem (by rw[h3];simp) λi h1 h2=>?_
   rw[aTi M M' hpin h1];simp
  obtain⟨p1,p2⟩:=aOg sq;have e:=vL (E:=qL) (j:=8) (it:=itE (e2 dIx (aA 5) (aA 7))) (st:=((st ("pairs" :: ns) (.lst (sq.map qD)::xs)).set 7 none).set 7 (some (.v (qD p)))) (l:=List.range c) (λk=>qD (dTw S T p k)) (λk=>D.int (sq.idxOf (dTw S T p k):Nat)) (oN (aH rfl rfl (aTn (by
    rw[get_map (hvP S T) (aEy.mpr hpin)];unfold hvP;rw[en,bH8];rfl)))) (by rw[bIc];omega) λk hk=>by
   have hgL:=sd.cl p hp k (bGr.mp hk);show ((e1 (dW "Sides" "pairs") (eF 0)) _).bind _=_;rw[show (e1 (dW "Sides" "pairs") (eF 0)) ((((st ("pairs" :: ns) (.lst (sq.map qD)::xs)).set 7 none).set 7 (some (.v (qD p)))).set 8 none |>.set 8 (some (.v (qD (dTw S T p k)))))=.ok (.lst (sq.map qD)) from aH4,aK]
   show (ofO ((sq.map qD).findIdx? λd=>eqD d (qD (dTw S T p k)))).bind _=_
   rw[bDs hgL];exact aF ⟨fC (by rw[bG6];omega),by omega,by simp[qD],p1⟩
  refine e.trans ?_
  unfold nats;rw[Function.comp_apply,bH8];rfl
 have c3:∀ns xs,bI [7] (tgN 7) (itE (e1 (dW "Sides" "pairs") (eF 0))) bL qN (st ("pairs" :: ns) (.lst (sq.map qD)::xs))=.ok (.lst (nats (laS rk sq))):=λns xs=>by
  unfold nats laS;rw[bH8];exact vL qD _ (it ns xs) (by omega) λp hp=>aH (x:=.lst (nats rk)) (y:=.int p.1) aIf rfl (fY (yJ (by rw[M.rks];exact(sd.inr p hp).1)))
 have c4:∀ns xs,bI [7] (tgN 7) (itE (e1 (dW "Sides" "pairs") (eF 0))) bL qO (st ("pairs" :: ns) (.lst (sq.map qD)::xs))=.ok (.lst (nats (lbS rk' sq))):=λns xs=>by
  unfold nats lbS;rw[bH8];exact vL qD _ (it ns xs) (by omega) λp hp=>aH (x:=.lst (nats rk')) (y:=.int p.2) aIf rfl (fY (yJ (by rw[M'.rks];exact(sd.inr p hp).2)))
 have key:gW (sst x [] [] (mD S rk c) (mD T rk' c) (.int l) (.int r) none none)=.ok (.nx (st ["pairs","fronts","steps","lefts","rights"] [.lst (sq.map qD),.lst (sq.map λp=>D.str (fr p)),.lst (stD (uS S T c sq)),.lst (nats (laS rk sq)),.lst (nats (lbS rk' sq))])):=by
  unfold gW;refine aJ (st':=sst x [] [] (mD S rk c) (mD T rk' c) (.int l) (.int r) none none) ?_ ?_
  .show (aW _ _ _).bind _=_;rw[aR rfl aMi];rfl
  refine aJ (st':=sst x [] [] (mD S rk c) (mD T rk' c) (.int l) (.int r) none none) ?_ (aJ (st':=sst x [] [] (mD S rk c) (mD T rk' c) (.int l) (.int r) none none) ?_ ?_)
  .show (aV _ (cG [mD S rk c,.int l])).bind _=_;rw[aTm hl,aF (by decide)]
   rfl
  .show (aV _ (cG [mD T rk' c,.int r])).bind _=_;rw[aTm hr,aF (by decide)]
   rfl
  refine aJ (st':=sst x [] [] (mD S rk c) (mD T rk' c) (.int l) (.int r) (some (.v (aEz S T))) none) (bG (aR rfl (aQl M M'))) ?_
  have hl':e1 aAk (aA 5) (sst x [] [] (mD S rk c) (mD T rk' c) (.int l) (.int r) (some (.v (aEz S T))) none)=.ok (.lst ((uK S.length T.length 0 S.length).map qD)):=aF (fC (by rw[bG6,aK9];have:S.length*T.length<=8*8:=Nat.mul_le_mul hn hm;omega))
  have ht:rH (aC (aA 3) (aC (aA 4) aU)) (sst x [] [] (mD S rk c) (mD T rk' c) (.int l) (.int r) (some (.v (aEz S T))) none)=.ok (qD (l,r)):=by simp[sst,qD]
  refine aJ (st':=st [] []) (bG (aR (aP rfl (aP ht (aP hl' rfl))) hw)) ?_
  have hs:e1 aGp (aA 6) (st [] [])=.ok (.lst (sq.map qD)):=by
   show (prs (kQ acc)).bind _=_;rw[aOi,aZ2,aK,<-hsq];exact aF (by rw[bG6,bG6];omega)
  exact aJ (aBn hs (by decide)) (aJ (aBn (c1 _ _) (by decide)) (aJ (aBn (c2 _ _) (by decide)) (aJ (aBn (c3 _ _) (by decide)) (aBn (c4 _ _) (by decide)))))
 show (gW (sst x [] [] (mD S rk c) (mD T rk' c) (.int l) (.int r) none none)).bind _=_;rw[key];simp[st,sst,sdD]
end
def Wd(w:D)(ws:List Bool):Prop:=ws.length=4/\(w=.tup (ws.map D.bl)\/(w=.fn "JUST_ONE"/\ws=[false,true,true,false]))
def wI(ws:List Bool)(p q:Int):Bool:=ws.getD (p%2*2+q%2).toNat false
def aH5{w:D} (hw:Wd w ws) (p q:Int):lC [w,.int p,.int q]=.ok (.bl (wI ws p q)):=by
 have hi:e2 cY (e2 jU (e2 rG (aA 1) (eC (.int 2))) (eC (.int 2))) (e2 rG (aA 2) (eC (.int 2))) [some (.v w),some (.v (.int p)),some (.v (.int q))]=.ok (.int (p%2*2+q%2)):=
  aH (aH (aH rfl rfl (kO (by decide))) rfl (aF (by omega))) (aH rfl rfl (kO (by decide))) rfl
 have at4:dIx (.tup (ws.map D.bl)) (.int (p%2*2+q%2))=.ok (.bl (wI ws p q)):=by
  obtain⟨n,hn⟩:∃n:Nat,p%2*2+q%2=n:=⟨(p%2*2+q%2).toNat,by omega⟩
  have hl:n<ws.length:=by rw[hw.1];omega
  show ofO (atI (ws.map D.bl) _)=_;unfold wI;rw[hn,atI_nat (by rw[bG6];exact hl)]
  simp[hl,ofO]
 refine cL rfl (dX (aH rfl hi ?_));rcases hw.2 with rfl|⟨rfl,rfl⟩
 .exact at4
 .exact(aF rfl).trans at4
def Few(la:List Nat):Prop:=∃rk:List Nat,rk.length<=8/\∀x∈la,x∈rk
def sdG(pr fr:D)(U:List (List Nat))(la lb:List Nat):D:=.ins "Sides" ["pairs","fronts","steps","lefts","rights"] [pr,fr,.lst (stD U),.lst (nats la),.lst (nats lb)]
section
variable{pr fr w:D}{U:List (List Nat)}{la lb:List Nat}{ws:List Bool}{c:Nat}
def aIg:dW "Sides" "lefts" (sdG pr fr U la lb)=.ok (.lst (nats la)):=by unfold sdG;rw[oK,aF rfl];rfl
def aIh:dW "Sides" "rights" (sdG pr fr U la lb)=.ok (.lst (nats lb)):=by unfold sdG;rw[oK,aF rfl];rfl
def bB3:dW "Sides" "fronts" (sdG pr fr U la lb)=.ok fr:=by unfold sdG;rw[oK,aF rfl];rfl
def aZ3:dW "Sides" "steps" (sdG pr fr U la lb)=.ok (.lst (stD U)):=by unfold sdG;rw[oK,aF rfl];rfl
theorem aBo{x:Int}:∀(l acc:List Int),x∈l.foldl (λacc x=>if acc.any (· == x) then acc else acc++[x]) acc↔x∈acc\/x∈l
 |[],acc=>by simp
 |y::l,acc=>by
  rw[bM5,aBo l,bG0];split
  .rename_i h;obtain⟨z,hz,e⟩:=bI3.mp h;have:=eq_of_beq e;subst this;exact⟨λh=>h.imp id .inr,λh=>h.elim .inl λh=>h.elim (λh=>.inl (h ▸ hz)) .inr⟩
  .rw[bGm,bFz,or_assoc]
theorem aTp:∀(l acc:List Int),acc.Nodup->(l.foldl (λacc x=>if acc.any (· == x) then acc else acc++[x]) acc).Nodup
 |[],acc,h=>h
 |y::l,acc,h=>by
  rw[bM5];refine aTp l _ ?_
  split
  .exact h
  .rename_i hn;refine bI8.mpr ⟨h,by simp,λa ha b hbM e=>hn ?_⟩
   rw[bFz.mp hbM]at e;exact bI3.mpr ⟨a,ha,by simp[e]⟩
def aMj{x:Int}{l:List Int}:x∈aAj (pF l)↔x∈l:=by
 rw[(uC _).mem_iff];unfold pF;rw[aBo];simp
theorem aTq:∀{l:List Nat}{r:List Nat},l.Nodup->(∀x∈l,x∈r)->l.length<=r.length
 |[],_,_,_=>bHp _
 |a::l,r,nd,h=>by
  rw[bIj]at nd;have ha:=h a bFx;have:=aTq (l:=l) (r:=r.erase a) nd.2 λx hx=>(List.mem_erase_of_ne λz=>nd.1 (by rw[<-z];exact hx)).mpr (h x (bFw _ hx))
  rw[bL4 ha]at this;have:=List.length_pos_of_mem ha;rw[bGn];omega
def zz(la:List Nat):List Int:=la.map λ(x:Nat)=>(x:Int)
def aIi{p:Int}:p∈zz la↔∃x∈la,(x:Int)=p:=bGc
def aIj(h:Few la):(pF (zz la)).length<=8:=by
 obtain⟨rk,h8,hm⟩:=h;have h1:=aTq (l:=(pF (zz la)).map Int.toNat) (r:=rk) (by
  unfold Nodup;rw[bLz];refine(aTp (zz la) [] bMd).imp_of_mem λ{a b} ha hbM ne z=>ne ?_
  obtain⟨x,_,rfl⟩:=aIi.mp ((aBo _ _).mp ha |>.resolve_left (λz=>nomatch z))
  obtain⟨y,_,rfl⟩:=aIi.mp ((aBo _ _).mp hbM |>.resolve_left (λz=>nomatch z))
  rw[bH9,bH9]at z;rw[z]) λx hx=>by
  obtain⟨z,hz,rfl⟩:=bGc.mp hx;obtain⟨y,hy,rfl⟩:=aIi.mp ((aBo _ _).mp hz |>.resolve_left (λz=>nomatch z))
  exact hm y hy
 rw[bG6]at h1;omega
def aTr(h:Few la)(hl:la.length<=64):aB6 (.lst (nats la))=.ok (.lst ((aAj (pF (zz la))).map D.int)):=by
 show (aDd (nats la)).bind _=_;have:nats la=(zz la).map D.int:=by unfold nats zz;rw[bH8];rfl
 have h8:=aIj h;rw[this,aCg,aK];exact aF ⟨by unfold zz;rw[bG6];omega,by omega⟩
def bDt{C E:Ex}{st:PSt} {q:Int->Bool} {G:Int->D} (l:List Int) (h:∀a∈l,C (st.set j (some (.v (.int a))))=.ok (.bl (q a))/\(q a=true->E (st.set j (some (.v (.int a))))=.ok (G a))):jO (tgN j) C E st (l.map D.int)=.ok ((l.filter q).map G):=aKb D.int G l h
theorem aF0(fl:Few lb)(hlb:lb.length<=64)(hw:Wd w ws):∀(ps:List Int) (acc:List (Int×Int)) (x3:Option Sl),acc.length+8*ps.length<=1000->
  ∃(out:List (Int×Int)) (x3':Option Sl),forR (tgN 3) uD (ps.map D.int) [some (.v (sdG pr fr U la lb)),some (.v w),some (.o .l (acc.map pD)),x3,none]=.ok (.nx [some (.v (sdG pr fr U la lb)),some (.v w),some (.o .l (out.map pD)),x3',none])/\out.length<=acc.length+8*ps.length/\∀z,z∈out↔z∈acc\/(z.1∈ps/\z.2∈zz lb/\wI ws z.1 z.2=true)
 |[],acc,x3,_=>⟨acc,x3,rfl,by simp,by simp⟩
 |p::ps,acc,x3,hn=>by
  rw[bGn]at hn
  let news:=((aAj (pF (zz lb))).filter λq=>wI ws p q).map λq=>(p,q)
  have h8:=aIj fl;have nl:news.length<=8:=by
   show (List.map _ _).length<=_;rw[bG6];refine bGy (bK6 _ _) ?_
   rw[(uC _).length_eq];exact h8
  obtain⟨out,y3,e,ol,om⟩:=aF0 fl hlb hw ps (acc++news) (some (.v (.int p))) (by rw[bGg];omega)
  refine⟨out,y3,?_,?_,λz=>?_⟩
  .rw[bGf];refine fX (s1:=[some (.v (sdG pr fr U la lb)),some (.v w),some (.o .l (acc.map pD)),some (.v (.int p)),none]) rfl ?_ e;have:=aMb (i:=2) (f:=bI [4] (tgN 4) (itE (e1 aB6 (e1 (dW "Sides" "rights") (aA 0)))) mV jJ) (st:=[some (.v (sdG pr fr U la lb)),some (.v w),some (.o .l (acc.map pD)),some (.v (.int p)),none]) (xs:=acc.map pD) (ys:=news.map pD) (by
    refine nR (xs:=(aAj (pF (zz lb))).map D.int) (oN ?_) ?_ ?_
    .rw[zZ,show e1 (dW "Sides" "rights") (aA 0) [some (.v (sdG pr fr U la lb)),some (.v w),some (.o .l (acc.map pD)),some (.v (.int p)),none]=.ok (.lst (nats lb)) from aIh,aK]
     exact aTr fl hlb
    .rw[bG6,(uC _).length_eq];omega
    .have:=bDt (C:=mV) (E:=jJ) (st:=[some (.v (sdG pr fr U la lb)),some (.v w),some (.o .l (acc.map pD)),some (.v (.int p)),none]) (j:=4) (q:=λq=>wI ws p q) (G:=λq=>pD (p,q)) (aAj (pF (zz lb))) λq _=>⟨aR rfl (aH5 hw p q),λ_=>by simp[jJ,pD]⟩
     show jO _ _ _ _ _=.ok (List.map pD (List.map _ _));rw[bH8];exact this) rfl (fC (by rw[bG6,bG6];omega))
   show aM7 2 _ _=_;rw[this,bGw];rfl
  .rw[bGg]at ol;rw[bGn];omega
  .rw[om,bGm,bG0];have hnew:z∈news↔z.1=p/\z.2∈zz lb/\wI ws z.1 z.2=true:=by
    show z∈List.map _ _↔_;rw[bGc];constructor
    .rintro⟨q,hq,rfl⟩;obtain⟨h1,h2⟩:=bH7.mp hq;exact⟨rfl,aMj.mp h1,h2⟩
    .rintro⟨h1,h2,h3⟩;exact⟨z.2,bH7.mpr ⟨aMj.mpr h2,by rw[<-h1];exact h3⟩,by rw[<-h1]⟩
   rw[hnew];constructor
   .rintro((h|⟨h1,h2⟩)|⟨h1,h2⟩)
    .exact .inl h
    .exact .inr ⟨.inl h1,h2⟩
    .exact .inr ⟨.inr h1,h2⟩
   .rintro(h|⟨h1|h1,h2⟩)
    .exact .inl (.inl h)
    .exact .inl (.inr ⟨h1,h2⟩)
    .exact .inr ⟨h1,h2⟩
def aQm(fa:Few la)(fb:Few lb)(ha:la.length<=64)(hbM:lb.length<=64)(hw:Wd w ws):∃out:List (Int×Int),lL [sdG pr fr U la lb,w]=.ok (.lst (out.map pD))/\out.length<=64/\∀z,z∈out↔z.1∈zz la/\z.2∈zz lb/\wI ws z.1 z.2=true:=by
 have h8:=aIj fa;have hl:(aAj (pF (zz la))).length<=8:=by rw[(uC _).length_eq];exact h8
 obtain⟨out,x3,e,ol,om⟩:=aF0 (pr:=pr) (fr:=fr) (U:=U) (la:=la) fb hbM hw (aAj (pF (zz la))) [] none (by simp;omega)
 refine⟨out,cL rfl ?_,by simp at ol;omega,λz=>by rw[om,aMj];simp⟩
 refine aJ (pQ (gY rfl)) (aJ (dY (oN ?_) e) ?_)
 .show (dW "Sides" "lefts" (sdG pr fr U la lb)).bind _=_;rw[aIg,aK];exact aTr fa ha
 .rfl
end
def aA9(p q:Int):Nat->List (Nat×Nat)->List Nat
 |_,[]=>[]
 |k,x::l=>if (x.1:Int)<=p/\(x.2:Int)<=q then k::aA9 p q (k+1) l else aA9 p q (k+1) l
def aAq(p q:Int)(k:Nat)(x:Nat×Nat)(l:List (Nat×Nat)):aA9 p q k (x::l)=if (x.1:Int)<=p/\(x.2:Int)<=q then k::aA9 p q (k+1) l else aA9 p q (k+1) l:=rfl
theorem aCs{p q:Int}{i:Nat}:∀{l:List (Nat×Nat)} {k:Nat},i∈aA9 p q k l↔k<=i/\∃x,l[i-k]?=some x/\(x.1:Int)<=p/\(x.2:Int)<=q
 |[],k=>by simp[aA9]
 |x::l,k=>by
  have ih:=aCs (p:=p) (q:=q) (i:=i) (l:=l) (k:=k+1);have key:(k<=i/\∃y,(x::l)[i-k]?=some y/\(y.1:Int)<=p/\(y.2:Int)<=q)↔(i=k/\(x.1:Int)<=p/\(x.2:Int)<=q)\/(k+1<=i/\∃y,l[i-(k+1)]?=some y/\(y.1:Int)<=p/\(y.2:Int)<=q):=by
   constructor
   .rintro⟨h1,y,h2,h3⟩
    by_cases e:i=k
    .subst e;rw[bMl]at h2;cases h2;exact .inl ⟨rfl,h3⟩
    .rw[show i-k=(i-(k+1))+1 by omega]at h2
     exact .inr ⟨by omega,y,h2,h3⟩
   .rintro(⟨rfl,h⟩|⟨h1,y,h2,h3⟩)
    .exact⟨bG4 _,x,by rw[bMl];rfl,h⟩
    .exact⟨by omega,y,by rw[show i-k=(i-(k+1))+1 by omega];exact h2,h3⟩
  rw[key,<-ih,aAq];split
  .rename_i h;rw[bG0];exact⟨λz=>z.imp (λe=>⟨e,h⟩) id,λz=>z.imp (λe=>e.1) id⟩
  .rename_i h;exact⟨.inr,λz=>z.resolve_left λe=>h e.2⟩
theorem aKc{p q:Int}:∀(l:List (Nat×Nat)) (k:Nat),(aA9 p q k l).length<=l.length
 |[],_=>bG4 _
 |x::l,k=>by
  have:=aKc (p:=p) (q:=q) l (k+1);rw[aAq];split<;>simp only[length_cons] <;> omega
theorem aH6{p q:Int}{a:Option Sl}{d3:Option Sl}:∀(l:List (Nat×Nat)) (k:Nat),jO (tgT [4,5]) oY wN [a,some (.v (.int p)),some (.v (.int q)),d3,none,none] (rN k (l.map qD))=.ok (nats (aA9 p q k l))
 |[],_=>rfl
 |x::l,k=>by
  rw[bGf];show jO _ _ _ _ (.tup [.int k,qD x] :: rN (k+1) (l.map qD))=_;rw[kJ,show tgT [4,5] (.tup [.int k,qD x]) [a,some (.v (.int p)),some (.v (.int q)),d3,none,none]=.ok [a,some (.v (.int p)),some (.v (.int q)),d3,some (.v (.int k)),some (.v (qD x))] from rfl,aK]
  have hc:oY [a,some (.v (.int p)),some (.v (.int q)),d3,some (.v (.int k)),some (.v (qD x))]=.ok (.bl (decide ((x.1:Int)<=p)&&decide ((x.2:Int)<=q))):=vJ rfl λ_=>rfl
  rw[hc,aK,mR,aH6 l (k+1),aAq]
  by_cases h:(x.1:Int)<=p/\(x.2:Int)<=q
  .rw[bGa h,bGe h.1,bGe h.2];rfl
  .rw[bG7 h];have:¬ (decide ((x.1:Int)<=p)&&decide ((x.2:Int)<=q))=true:=by simpa using h
   rw[bG7 this]
def kpN(la lb:List Nat)(p q:Int):Nat:=aEt (aA9 p q 0 (la.zip lb))
def aX3{l:List Int}(h:l≠[]):aI5 l∈l/\∀x∈l,x<=aI5 l:=by
 cases l with
 |nil=>exact(h rfl).elim
 |cons i r=>
  obtain⟨h1,h2,h3⟩:=aCh r i;refine⟨?_,λx hx=>?_⟩
  .rcases h3 with h3|h3
   .show r.foldl _ i∈_;rw[h3];exact bFx
   .exact bFw _ h3
  .rcases bG0.mp hx with rfl|hx
   .exact h1
   .exact h2 x hx
def aG4(rk:List Nat)(n:Nat):Int:=aI5 ((bO n).map λr=>(rk.getD r 0:Int))
def aOk(h0:n≠0):bO n≠[]:=λz=>h0 (by
 have:=aGx n;rw[z]at this;exact this.symm)
def aKd{n:Nat}(h0:n≠0):(∃r∈bO n,(rk.getD r 0:Int)=aG4 rk n)/\∀r∈bO n,(rk.getD r 0:Int)<=aG4 rk n:=by
 obtain⟨h1,h2⟩:=aX3 (l:=(bO n).map λr=>(rk.getD r 0:Int)) (by simpa using aOk h0)
 obtain⟨r,hr,e⟩:=bGc.mp h1;exact⟨⟨r,hr,e⟩,λr hr=>h2 _ (bGc.mpr ⟨r,hr,rfl⟩)⟩
def aTs{n r:Nat}{p:Int}(hr:r∈bO n)(e:(rk.getD r 0:Int)=p)(hx:∀r∈bO n,(rk.getD r 0:Int)<=p):aG4 rk n=p:=
 aO1 (bGc.mpr ⟨r,hr,e⟩) λx hx'=>by
  obtain⟨r,hr,rfl⟩:=bGc.mp hx';exact hx r hr
def pB{st:PSt} (h:r st=.ok ds) (hl:ds.length<=1000:=by exact bIp rfl):rH r st=.ok (.tup ds):=by rw[aWg,h,aK,aF (fC (bGy hl (by decide)))]
structure Pl(U:List (List Nat))(la lb:List Nat)(c:Nat):Prop where
 m:MchW U la c
 fa:Few la
 fb:Few lb
 la:la.length=U.length
 lb:lb.length=U.length
section
variable{pr fr w:D}{U:List (List Nat)}{la lb:List Nat}{ws:List Bool}{c n:Nat}{p q:Int}
def aMk(P:Pl U la lb c):i∈bO (kpN la lb p q)↔i<U.length/\(la.getD i 0:Int)<=p/\(lb.getD i 0:Int)<=q:=by
 unfold kpN;rw[aGy,aCs,bMk];have hz:(la.zip lb).length=U.length:=by rw[length_zip,P.la,P.lb,Nat.min_self]
 constructor
 .rintro⟨_,x,h1,h2⟩;have hi:=(bFy.mp h1).1;rw[hz]at hi;have e:x=(la[i]'(by rw[P.la];exact hi),lb[i]'(by rw[P.lb];exact hi)):=by
   rw[bFv (by rw[hz];exact hi)]at h1
   cases h1;exact bLo
  subst e;refine⟨hi,?_⟩;simpa [P.la,P.lb,hi] using h2
 .rintro⟨hi,h2⟩;refine⟨bHp _,_,bFv (by rw[hz];exact hi),?_⟩
  rw[bLo];simpa [P.la,P.lb,hi] using h2
def aOl(P:Pl U la lb c):kpN la lb p q<2^U.length:=by
 refine aIb λi hi=>?_
 have h:i∈bO (kpN la lb p q):=aGy.mpr hi;exact((aMk P).mp h).1
def aX4(P:Pl U la lb c):nO [sdG pr fr U la lb,.int p,.int q]=.ok (.int (kpN la lb p q)):=by
 have h64:=P.m.most;have ha:=P.la;have hz:(la.zip lb).length<=64:=by rw[length_zip];omega
 have hk:=aKc (p:=p) (q:=q) (la.zip lb) 0;refine cL rfl (aJ (st':=[some (.v (sdG pr fr U la lb)),some (.v (.int p)),some (.v (.int q)),some (.v (.lst ((la.zip lb).map qD))),none,none]) (bG (aH aIg aIh ?_)) (dX (aR (aP (nR (xs:=rN 0 ((la.zip lb).map qD)) ?_ ?_ (aH6 _ _)) rfl) (aIa (λi hi=>?_) (by omega)))))
 .show aGq (.lst (nats la)) (.lst (nats lb))=_;rw[<-aTe];rfl
 .rfl
 .have:∀(k:Nat)(l:List D),(rN k l).length=l.length:=λk l=>by
   induction l generalizing k with
   |nil=>rfl
   |cons x l ih=>show (rN (k+1) l).length+1=_;rw[ih];rfl
  rw[this,bG6];omega
 .obtain⟨_,x,h1,_⟩:=aCs.mp hi;have:=(bFy.mp h1).1;omega
def aTt(P:Pl U la lb c)(hn:n<2^U.length)(h0:n≠0):jK [sdG pr fr U la lb,.int n]=.ok (.tup [.int (aG4 la n),.int (aG4 lb n)]):=by
 have h64:=P.m.most;have hl:(bO n).length<=U.length:=jV U.length _ (jE _) λx hx=>eU hn hx
 have key:∀{E:Ex}{ll:List Nat},ll.length=U.length->(∀r:Nat,r<ll.length->E [some (.v (sdG pr fr U la lb)),some (.v (.int n)),some (.v (.lst (nats (bO n)))),some (.v (.int r))]=.ok (.int (ll.getD r 0:Nat)))->e1 aNz (bI [3] (tgN 3) (itE (aA 2)) bL E) [some (.v (sdG pr fr U la lb)),some (.v (.int n)),some (.v (.lst (nats (bO n)))),none]=.ok (.int (aG4 ll n)):=λ{E ll} h1 h2=>by
  have hc:=vL (E:=E) (st:=[some (.v (sdG pr fr U la lb)),some (.v (.int n)),some (.v (.lst (nats (bO n)))),none]) (j:=3) (it:=itE (aA 2)) (l:=bO n) (λ(x:Nat)=>D.int (x:Int)) (λr=>D.int (ll.getD r 0:Nat)) rfl (by omega) λr hr=>h2 r (by rw[h1];exact eU hn hr)
  have em:(bO n).map (λr=>D.int (ll.getD r 0:Nat))=((bO n).map λr=>(ll.getD r 0:Int)).map D.int:=by rw[bH8];rfl
  rw[zZ,hc,aK,em];show (aDd _).bind _=_;rw[aCg,aK];exact aF (by rw[bG6];exact List.length_pos_iff.mpr (aOk h0))
 refine cL rfl (aJ (bG (aR rfl (uJ hn (by omega)))) (dX ?_))
 have k1:=key (E:=qI) P.la λr hr=>aH aIg rfl (fY (yJ hr))
 have k2:=key (E:=qH) P.lb λr hr=>aH aIh rfl (fY (yJ hr))
 exact pB (aP k1 (aP k2 rfl))
def aIk(P:Pl U la lb c){k:Nat}(hk:k<2^U.length)(h:m∈pA U c k):m<2^U.length/\m≠0:=by
 obtain⟨r,hr,rfl,_⟩:=aCq.mp h;refine⟨aOe,λz=>?_⟩
 have:=aK7 P.m hk hr;rw[z]at this;exact absurd (bW.mp this) (by simp)
def aQn{k:Nat}:(pA U c k).length<=(bO k).length:=by
 have hf:∀(rs ps:List Nat),(rs.foldl (λps r=>if fH U c k r∉ps/\roundN U (fH U c k r)=true then ps++[fH U c k r] else ps) ps).length<=ps.length+rs.length:=λrs=>by
  induction rs with
  |nil=>intro ps;exact bG4 _
  |cons r rs ih=>
   intro ps;rw[bM5,bGn];refine bGy (ih _) ?_
   split
   .rw[bGg,bHc];omega
   .omega
 have:=hf (bO k) [];simpa [pA] using this
def aKe(U:List (List Nat))(c:Nat)(la lb:List Nat)(z:Int×Int)(m:Nat):Prop:=m∈pA U c (kpN la lb z.1 z.2)/\aG4 la m=z.1/\aG4 lb m=z.2
theorem aDi(P:Pl U la lb c):∀(zs:List (Int×Int)) (acc:List Nat) (x3 x4 x5:Option Sl),acc.length+64*zs.length<=10000->
  ∃(out:List Nat)(x3' x4' x5':Option Sl),forR (tgT [3,4]) uF (zs.map pD) [some (.v (sdG pr fr U la lb)),some (.v w),some (.o .l (nats acc)),x3,x4,x5,none]=.ok (.nx [some (.v (sdG pr fr U la lb)),some (.v w),some (.o .l (nats out)),x3',x4',x5',none])/\out.length<=acc.length+64*zs.length/\∀m,m∈out↔m∈acc\/∃z∈zs,aKe U c la lb z m
 |[],acc,x3,x4,x5,_=>⟨acc,x3,x4,x5,rfl,by simp,by simp⟩
 |z::zs,acc,x3,x4,x5,hn=>by
  rw[bGn]at hn;have h64:=P.m.most;have hk:=aOl (p:=z.1) (q:=z.2) P
  let news:=(pA U c (kpN la lb z.1 z.2)).filter λm=>decide (aG4 la m=z.1)&&decide (aG4 lb m=z.2)
  have nl:(pA U c (kpN la lb z.1 z.2)).length<=64:=by
   have h1:(bO (kpN la lb z.1 z.2)).length<=U.length:=jV U.length _ (jE _) λx hx=>eU hk hx
   have:=aQn (U:=U) (c:=c) (k:=kpN la lb z.1 z.2);omega
  have nl2:news.length<=64:=bGy (bK6 _ _) nl;obtain⟨out,y3,y4,y5,e,ol,om⟩:=aDi P zs (acc++news) (some (.v (.int z.1))) (some (.v (.int z.2))) (some (.v (.lst (nats (pA U c (kpN la lb z.1 z.2)))))) (by rw[bGg];omega)
  refine⟨out,y3,y4,y5,?_,by rw[bGg]at ol;rw[bGn];omega,λm=>?_⟩
  .rw[bGf];refine fX (s1:=[some (.v (sdG pr fr U la lb)),some (.v w),some (.o .l (nats acc)),some (.v (.int z.1)),some (.v (.int z.2)),x5,none]) rfl ?_ e;refine aJ (bG (aR (aP aZ3 (aP (aR rfl (aX4 P)) rfl)) (aK5 P.m hk))) ?_
   have hx:=aMb (i:=2) (f:=bI [6] (tgN 6) (itE (aA 5)) mX mW) (st:=[some (.v (sdG pr fr U la lb)),some (.v w),some (.o .l (nats acc)),some (.v (.int z.1)),some (.v (.int z.2)),some (.v (.lst (nats (pA U c (kpN la lb z.1 z.2))))),none]) (xs:=nats acc) (ys:=nats news) (by
    refine nR (xs:=nats (pA U c (kpN la lb z.1 z.2))) rfl (by rw[bH];omega) ?_
    refine aKb (C:=mX) (E:=mW) (j:=6) (λ(x:Nat)=>D.int (x:Int)) (λ(x:Nat)=>D.int (x:Int)) _ λm hm=>⟨?_,λ_=>rfl⟩
    obtain⟨h1,h2⟩:=aIk P hk hm;refine aH (aR rfl (aTt P h1 h2)) (pB rfl) ?_
    refine(aF ⟨by simp[dep,fZ],by simp,by simp⟩).trans ?_
    have eb:∀a b:Int,(a==b)=decide (a=b):=λa b=>by by_cases h:a=b<;>simp[h]
    simp[eqD,lJ,eb]) rfl (fC (by rw[bH,bH];omega))
   have en:nats (acc++news)=nats acc++nats news:=by unfold nats;rw[bGw]
   rw[en];exact hx
  .rw[om,bGm];have hnew:m∈news↔aKe U c la lb z m:=by
    show m∈List.filter _ _↔_;rw[bH7,bLf,bGl,bGl];exact bMo
   rw[hnew];constructor
   .rintro((h|h)|⟨y,hy,h⟩)
    .exact .inl h
    .exact .inr ⟨z,bFx,h⟩
    .exact .inr ⟨y,bFw _ hy,h⟩
   .rintro(h|⟨y,hy,h⟩)
    .exact .inl (.inl h)
    .rcases bG0.mp hy with rfl|hy
     .exact .inl (.inr h)
     .exact .inr ⟨y,hy,h⟩
def aQo(P:Pl U la lb c)(hw:Wd w ws):∃out:List Nat,lN [sdG pr fr U la lb,w]=.ok (.lst (nats out))/\out.length<=10000/\∀m,m∈out↔∃z:Int×Int,z.1∈zz la/\z.2∈zz lb/\wI ws z.1 z.2=true/\aKe U c la lb z m:=by
 have h64:=P.m.most;have ha:=P.la;have hbM:=P.lb;obtain⟨zs,e1',zl,zm⟩:=aQm (pr:=pr) (fr:=fr) (U:=U) P.fa P.fb (by omega) (by omega) hw
 obtain⟨out,x3,x4,x5,e,ol,om⟩:=aDi (pr:=pr) (fr:=fr) (w:=w) P zs [] none none none (by simp;omega)
 refine⟨out,cL rfl (aJ (pQ (gY rfl)) (aJ (dY (oN (aR rfl e1')) e) rfl)),by simp at ol;omega,λm=>?_⟩
 rw[om];constructor
 .rintro(h|⟨z,hz,h⟩)
  .nomatch h
  .obtain⟨a,b,d⟩:=(zm z).mp hz;exact⟨z,a,b,d,h⟩
 .rintro⟨z,a,b,d,h⟩;exact .inr ⟨z,(zm z).mpr ⟨a,b,d⟩,h⟩
theorem aH7:∀(l:List Nat)(b:Nat)(a x2:Option Sl),∃(d:Nat)(x2':Option Sl),forR (tgN 2) aEo (nats l) [a,some (.v (.int b)),x2]=.ok (.nx [a,some (.v (.int d)),x2'])/\∀i,d.testBit i=true↔b.testBit i=true\/∃m∈l,m.testBit i=true
 |[],b,a,x2=>⟨b,x2,rfl,by simp⟩
 |m::l,b,a,x2=>by
  obtain⟨d,y2,e,h⟩:=aH7 l (b|||m) a (some (.v (.int m)))
  refine⟨d,y2,fX (s1:=[a,some (.v (.int b)),some (.v (.int m))]) rfl (bG (aH rfl rfl (aIc b m))) e,λi=>?_⟩
  rw[h,bMj,or_eq_true,or_assoc];simp
def aQp{l:List Nat}{k:Nat}(hl:∀m∈l,m<2^k)(hk:k<=64):∃d:Nat,aBa [.lst (nats l)]=.ok (.int d)/\d<2^k/\∀i,i∈bO d↔∃m∈l,i∈bO m:=by
 obtain⟨d,x2,e,h⟩:=aH7 l 0 (some (.v (.lst (nats l)))) none;refine⟨d,cL rfl (aJ (bG rfl) (aJ (dY (oN rfl) e) rfl)),bL0 _ λi hi=>?_,λi=>?_⟩
 .cases hd:d.testBit i with
  |false=>rfl
  |true=>
   obtain z|⟨m,hm,z⟩:=(h i).mp hd
   .simp at z
   .have:=eU (hl m hm) (bW.mpr z);omega
 .rw[bW,h];simp[bW]
end
section
variable{U:List (List Nat)}{la lb:List Nat}{ws:List Bool}{c n:Nat}
def gls(U:List (List Nat)):Nat->List Nat->List Nat
 |_,[]=>[]
 |i,ch::w=>stp U i (ch-97)::gls U (stp U i (ch-97)) w
abbrev goP(U:List (List Nat)):Nat->List Nat->Nat:=goG (stp U)
theorem zR:∀(x y:List Nat)(i:Nat),gls U i (x++y)=gls U i x++gls U (goP U i x) y
 |[],_,_=>rfl
 |ch::x,y,i=>by
  show _::gls U _ (x++y)=_;rw[zR x y];rfl
theorem uL:∀(x:List Nat)(i:Nat),goP U i x=i/\x=[]\/goP U i x∈gls U i x
 |[],_=>.inl ⟨rfl,rfl⟩
 |ch::x,i=>.inr (by
  show goP U (stp U i (ch-97)) x∈stp U i (ch-97)::gls U _ x;rcases uL x (stp U i (ch-97)) with ⟨h,_⟩|h
  .rw[h];exact bFx
  .exact bFw _ h)
def mxM(la:List Nat)(a:Nat)(gs:List Nat):Nat:=gs.foldl (λa g=>max a (la.getD g 0+1)) a
theorem aE8(la:List Nat):∀(gs:List Nat)(a:Nat),a<=mxM la a gs/\(∀g∈gs,la.getD g 0+1<=mxM la a gs)/\(mxM la a gs=a\/∃g∈gs,mxM la a gs=la.getD g 0+1)
 |[],a=>⟨bG4 _,λ_ h=>(nomatch h),.inl rfl⟩
 |g::gs,a=>by
  obtain⟨h1,h2,h3⟩:=aE8 la gs (max a (la.getD g 0+1));refine⟨?_,λx hx=>?_,?_⟩
  .show a<=mxM la (max a _) gs;omega
  .show la.getD x 0+1<=mxM la (max a _) gs;rcases bG0.mp hx with rfl|hx
   .omega
   .exact h2 x hx
  .show mxM la (max a _) gs=a\/_;rcases h3 with h3|⟨x,hx,h3⟩
   .rcases bMm (la.getD g 0+1) a with z|z
    .exact .inl (by omega)
    .exact .inr ⟨g,bFx,by show mxM la (max a _) gs=_;omega⟩
   .exact .inr ⟨x,bFw _ hx,h3⟩
structure WR(U:List (List Nat))(la lb:List Nat)(ws:List Bool)(c i:Nat)(t:List Nat):Prop where
 ne:t≠[]
 lt:Ltr c t
 cl:goP U i t=i
 wt:wI ws ((mxM la 0 (gls U i t):Nat)-1:Int) ((mxM lb 0 (gls U i t):Nat)-1:Int)=true
theorem aOm(al:Nat->Bool):∀(w:List Nat)(i:Nat),Ltr c w->(∀g∈gls U i w,al g=true)->Rch U c al i (goP U i w)/\∀g∈gls U i w,Rch U c al i g/\Rch U c al g (goP U i w)
 |[],i,_,_=>⟨.here,λ_ h=>nomatch h⟩
 |ch::w,i,hl,ha=>by
  have h1:=hl ch bFx;obtain⟨r1,r2⟩:=aOm al w (stp U i (ch-97)) (λx hx=>hl x (bFw _ hx)) λg hg=>ha g (bFw _ hg)
  have r0:Rch U c al i (stp U i (ch-97)):=.on .here (by omega) (ha _ bFx)
  refine⟨r0.trans r1,λg hg=>?_⟩
  rcases bG0.mp hg with rfl|hg
  .exact⟨r0,r1⟩
  .exact⟨r0.trans (r2 g hg).1,(r2 g hg).2⟩
def aX5{a b:Nat}(h:Rch U c al a b):∃w,Ltr c w/\goP U a w=b/\∀g∈gls U a w,al g=true:=by
 induction h with
 |here=>exact⟨[],λ_ h=>(nomatch h),rfl,λ_ h=>nomatch h⟩
 |@on r k _ hl ha ih=>
  obtain⟨w,h1,h2,h3⟩:=ih;refine⟨w++[97+k],λx hx=>?_,by rw[goP,zQ];show stp U (goP U a w) k=_;rw[h2],λg hg=>?_⟩
  .rcases bGm.mp hx with hx|hx
   .exact h1 x hx
   .rw[bFz.mp hx];constructor<;>omega
  .rw[zR]at hg;rcases bGm.mp hg with hg|hg
   .exact h3 g hg
   .have:gls U (goP U a w) [97+k]=[stp U r k]:=by
     rw[h2];show [stp U r (97+k-97)]=_;rw[bIu]
    rw[this]at hg;rw[bFz.mp hg];exact ha
def aBp{x y:List Nat}(hx:Ltr c x)(hy:Ltr c y):Ltr c (x++y):=λz hz=>(bGm.mp hz).elim (hx z) (hy z)
def aMl(P:Pl U la lb c){z:Int×Int} (hw:wI ws z.1 z.2=true) (h:aKe U c la lb z m) (hi:i∈bO m):∃t,WR U la lb ws c i t:=by
 obtain⟨h1,h2,h3⟩:=h;have hk:=aOl (p:=z.1) (q:=z.2) P;obtain⟨m1,m0⟩:=aIk P hk h1;obtain⟨r,hr,e,hq⟩:=aCq.mp h1;have lp:LpN U c m:=by rw[<-e];exact aQk P.m hk hr (by rw[e];exact hq)
 have wd:∀{a b:Nat},a∈bO m->b∈bO m->∃w,Ltr c w/\goP U a w=b/\∀g∈gls U a w,inN m g=true:=λha hbM=>aX5 (lp.2.1 _ ha _ hbM)
 obtain⟨w0,l0,g0,a0,n0⟩:∃w,Ltr c w/\goP U i w=i/\(∀g∈gls U i w,inN m g=true)/\w≠[]:=by
  by_cases hbM:∃b∈bO m,b≠i
  .obtain⟨b,hbM,ne⟩:=hbM;obtain⟨w,x1,x2,x3⟩:=wd hi hbM;obtain⟨v,y1,y2,y3⟩:=wd hbM hi;refine⟨w++v,aBp x1 y1,by rw[goP,zP];show goP U (goP U i w) v=i;rw[x2,y2],λg hg=>?_,λz=>?_⟩
   .rw[zR,x2]at hg;exact(bGm.mp hg).elim (x3 g) (y3 g)
   .rw[(bLs.mp z).1]at x2;exact ne x2.symm
  .have all:∀b∈bO m,b=i:=λb hb'=>bIk λz=>hbM ⟨b,hb',z⟩
   have one:¬ 1<(bO m).length:=λz=>by
    have nd:=jE m;generalize bO m=L at nd all z
    match L,z with
    |x::y::l,_=>
     have e1:=all x (by simp)
     have e2:=all y (by simp)
     simp[e1,e2]at nd
   have hd:(bO m).headD 0=i:=by
    cases hm:bO m with
    |nil=>rw[hm]at hi;nomatch hi
    |cons x l=>exact all x (by rw[hm];exact bFx)
   have hr2:=lp.2.2;unfold roundN at hr2;rw[bG3 one,bLc,bGl,hd]at hr2;obtain⟨k,hk1,hk2⟩:=(aBl P.m (eU m1 hi)).mp hr2;have gl:gls U i [97+k]=[i]:=by
    show [stp U i (97+k-97)]=_;rw[bIu,hk2]
   refine⟨[97+k],λx hx=>by rw[bFz.mp hx];constructor<;>omega,?_,λg hg=>?_,by simp⟩
   .show stp U i (97+k-97)=i;rw[bIu,hk2]
   .rw[gl]at hg;rw[bFz.mp hg];exact bW.mp hi
 obtain⟨⟨r1,hr1,er1⟩,t1⟩:=aKd (rk:=la) m0;obtain⟨⟨r2,hr2,er2⟩,t2⟩:=aKd (rk:=lb) m0;obtain⟨w1,l1,g1,a1⟩:=wd hi hr1;obtain⟨w2,l2,g2,a2⟩:=wd hr1 hr2;obtain⟨w3,l3,g3,a3⟩:=wd hr2 hi;have eg:gls U i (w0++(w1++(w2++w3)))=gls U i w0++(gls U i w1++(gls U r1 w2++gls U r2 w3)):=by rw[zR,zR,zR,g0,g1,g2]
 have all:∀g∈gls U i (w0++(w1++(w2++w3))),g∈bO m:=λg hg=>by
  rw[eg]at hg;simp only[List.mem_append]at hg;refine bW.mpr ?_
  rcases hg with h|h|h|h
  .exact a0 g h
  .exact a1 g h
  .exact a2 g h
  .exact a3 g h
 have ii:i∈gls U i (w0++(w1++(w2++w3))):=by
  rw[eg];rcases uL (U:=U) w0 i with ⟨_,z⟩|z
  .exact absurd z n0
  .rw[g0]at z;exact bGx _ z
 have i1:r1∈gls U i (w0++(w1++(w2++w3))):=by
  rcases uL (U:=U) w1 i with ⟨z,_⟩|z
  .rw[g1]at z;rw[z];exact ii
  .rw[g1]at z;rw[eg];exact bG8 _ (bGx _ z)
 have i2:r2∈gls U i (w0++(w1++(w2++w3))):=by
  rcases uL (U:=U) w2 r1 with ⟨z,_⟩|z
  .rw[g2]at z;rw[z];exact i1
  .rw[g2]at z;rw[eg];exact bG8 _ (bG8 _ (bGx _ z))
 have mxe:∀{ll:List Nat}{rr:Nat}{tp:Int},rr∈gls U i (w0++(w1++(w2++w3)))->(ll.getD rr 0:Int)=tp->(∀x∈bO m,(ll.getD x 0:Int)<=tp)->((mxM ll 0 (gls U i (w0++(w1++(w2++w3)))):Nat)-1:Int)=tp:=λ{ll rr tp} hr e hx=>by
  obtain⟨_,s2,s3⟩:=aE8 ll (gls U i (w0++(w1++(w2++w3)))) 0;have:=s2 rr hr;rcases s3 with s3|⟨g,hg,s3⟩
  .omega
  .have:=hx g (all g hg);omega
 refine⟨w0++(w1++(w2++w3)),λz=>n0 (bLs.mp z).1,aBp l0 (aBp l1 (aBp l2 l3)),?_,?_⟩
 .rw[goP,zP,zP,zP];show goP U (goP U (goP U (goP U i w0) w1) w2) w3=i;rw[g0,g1,g2,g3]
 .rw[mxe i1 er1 t1,mxe i2 er2 t2,h2,h3];exact hw
theorem aMm(P:Pl U la lb c):∀(w:List Nat)(i:Nat),i<U.length->Ltr c w->∀g∈gls U i w,g<U.length
 |[],_,_,_,_,h=>nomatch h
 |ch::w,i,hi,hl,g,hg=>by
  have h1:=hl ch bFx;obtain⟨_,_,_,h2⟩:=yH P.m hi (show ch-97<c by omega)
  rcases bG0.mp hg with rfl|hg
  .exact h2
  .exact aMm P w _ h2 (λx hx=>hl x (bFw _ hx)) g hg
def aMn(P:Pl U la lb c) {t:List Nat} (hi:i<U.length) (h:WR U la lb ws c i t):∃z:Int×Int,∃m,z.1∈zz la/\z.2∈zz lb/\wI ws z.1 z.2=true/\aKe U c la lb z m/\i∈bO m:=by
 have lt:=aMm P t i hi h.lt;have ii:i∈gls U i t:=by
  rcases uL (U:=U) t i with ⟨_,z⟩|z
  .exact absurd z h.ne
  .rw[h.cl]at z;exact z
 have mxe:∀(ll:List Nat),ll.length=U.length->∃g∈gls U i t,((mxM ll 0 (gls U i t):Nat)-1:Int)=(ll.getD g 0:Nat)/\((ll.getD g 0:Nat):Int)∈zz ll/\∀x∈gls U i t,(ll.getD x 0:Int)<=(ll.getD g 0:Nat):=λll hl=>by
  obtain⟨_,s2,s3⟩:=aE8 ll (gls U i t) 0;have:=s2 i ii;rcases s3 with s3|⟨g,hg,s3⟩
  .omega
  .refine⟨g,hg,by omega,aIi.mpr ⟨ll.getD g 0,?_,rfl⟩,λx hx=>by have:=s2 x hx;omega⟩
   have hgl:g<ll.length:=by rw[hl];exact lt g hg
   rw[bG5,bFv hgl];exact bGq _
 obtain⟨g1,hg1,e1,z1,b1⟩:=mxe la P.la;obtain⟨g2,hg2,e2,z2,b2⟩:=mxe lb P.lb;have hk:=aOl (p:=(la.getD g1 0:Nat)) (q:=(lb.getD g2 0:Nat)) P;have ink:∀g∈gls U i t,g∈bO (kpN la lb (la.getD g1 0:Nat) (lb.getD g2 0:Nat)):=λg hg=>(aMk P).mpr ⟨lt g hg,b1 g hg,b2 g hg⟩
 have hw:=h.wt;rw[e1,e2]at hw;obtain⟨_,rr⟩:=aOm (U:=U) (inN (kpN la lb (la.getD g1 0:Nat) (lb.getD g2 0:Nat))) t i h.lt λg hg=>bW.mp (ink g hg)
 rw[h.cl]at rr;have inm:∀g∈gls U i t,g∈bO (fH U c (kpN la lb (la.getD g1 0:Nat) (lb.getD g2 0:Nat)) i):=λg hg=>bW.mpr ((rR P.m hi).mpr (rr g hg))
 have sub:∀g∈bO (fH U c (kpN la lb (la.getD g1 0:Nat) (lb.getD g2 0:Nat)) i),_:=λg hg=>(aMk P).mp (aX1 P.m hk (ink i ii) hg)
 refine⟨(((la.getD g1 0:Nat):Int),((lb.getD g2 0:Nat):Int)),_,z1,z2,hw,⟨aCq.mpr ⟨i,ink i ii,rfl,?_⟩,aTs (inm g1 hg1) rfl λr hr=>(sub r hr).2.1,aTs (inm g2 hg2) rfl λr hr=>(sub r hr).2.2⟩,inm i ii⟩
 unfold roundN
 by_cases hl:1<(bO (fH U c (kpN la lb (la.getD g1 0:Nat) (lb.getD g2 0:Nat)) i)).length
 .rw[bGe hl];rfl
 .rw[bG3 hl,bLc,bGl];have all:∀g∈bO (fH U c (kpN la lb (la.getD g1 0:Nat) (lb.getD g2 0:Nat)) i),g=i:=λg hg=>by
   have hi':=inm i ii;generalize bO (fH U c (kpN la lb (la.getD g1 0:Nat) (lb.getD g2 0:Nat)) i)=L at hl hg hi'
   match L,hl with
   |[],_=>nomatch hg
   |[x],_=>rw[bFz.mp hg,bFz.mp hi']
   |x::y::L,hl=>simp at hl
  have hd:(bO (fH U c (kpN la lb (la.getD g1 0:Nat) (lb.getD g2 0:Nat)) i)).headD 0=i:=by
   have hi':=inm i ii;generalize bO (fH U c (kpN la lb (la.getD g1 0:Nat) (lb.getD g2 0:Nat)) i)=L at all hi';cases L with
   |nil=>nomatch hi'
   |cons x l=>exact all x bFx
  rw[hd];obtain⟨ch,t',rfl⟩:∃ch t',t=ch::t':=by
   cases t with
   |nil=>exact absurd rfl h.ne
   |cons ch t'=>exact⟨ch,t',rfl⟩
  have h1:=h.lt ch bFx;have:=all _ (inm (stp U i (ch-97)) bFx);exact(aBl P.m hi).mpr ⟨ch-97,by omega,this⟩
end
def aTu{tg:Tg} {d v:D} {st:PSt} (ht:tg d st=.ok s1) (hL:L s1=.ok (.rt v)):forR tg L (d::ds) st=.ok (.rt v):=by
 rw[aCe,ht,aK,hL];rfl
def aTv{c:Ex}{b:Bd}{st:PSt} {v:D} (hc:c st=.ok (.bl true)) (hbM:b st=.ok (.rt v)):jP c b (n+1) st=.ok (.rt v):=by
 rw[xO,hc,aK,mR,bGa rfl,hbM];rfl
abbrev Tr:=Nat×Nat×Nat
def tTr(x:Tr):D:=.tup [.int x.1,.int ((x.2.1:Nat)-1:Int),.int ((x.2.2:Nat)-1:Int)]
def aTw(x y:Tr):eqK (tTr x) (tTr y)=decide (x=y):=by
 obtain⟨a,b,d⟩:=x;obtain⟨a',b',d'⟩:=y;have eb:∀a b:Int,(a==b)=decide (a=b):=λa b=>by by_cases h:a=b<;>simp[h]
 by_cases h:(a,b,d)=(a',b',d')
 .rw[bGe h];cases h;simp[tTr,eqK,aG0]
 .rw[bG3 h];simp only[tTr,eqK,aG0,eb,Bool.and_true];simp only[Prod.mk.injEq]at h
  by_cases h1:a=a'
  .by_cases h2:b=b'
   .rw[bG3 (p:=(d:Int)-1=(d':Int)-1) λz=>h ⟨h1,h2,by omega⟩]
    simp
   .rw[bG3 (p:=(b:Int)-1=(b':Int)-1) (by omega)]
    simp
  .rw[bG3 (p:=(a:Int)=(a':Int)) (by omega)]
   simp
def d3(U:List (List Nat))(la lb:List Nat)(x:Tr)(k:Nat):Tr:=(stp U x.1 k,max x.2.1 (la.getD (stp U x.1 k) 0+1),max x.2.2 (lb.getD (stp U x.1 k) 0+1))
section
variable{pr fr w:D}{U:List (List Nat)}{la lb:List Nat}{ws:List Bool}{c i s:Nat}{acc:List (Tr×List Nat)}
theorem go3:∀(t:List Nat)(i a b:Nat),goG (d3 U la lb) (i,a,b) t=(goP U i t,mxM la a (gls U i t),mxM lb b (gls U i t))
 |[],_,_,_=>rfl
 |ch::t,i,a,b=>go3 t (stp U i (ch-97)) _ _
def aKf(la:List Nat)(a:Nat):Prop:=a=0\/∃x∈la,a=x+1
def P3(U:List (List Nat))(la lb:List Nat)(x:Tr):Prop:=x.1<U.length/\aKf la x.2.1/\aKf lb x.2.2
def aOn{la:List Nat}{a g:Nat}(h:aKf la a)(hg:g<la.length):aKf la (max a (la.getD g 0+1)):=by
 rcases bMm a (la.getD g 0+1) with z|z
 .rw[Nat.max_eq_right z];refine .inr ⟨la.getD g 0,?_,rfl⟩;rw[bG5,bFv hg];exact bGq _
 .rw[Nat.max_eq_left z];exact h
def bDu(P:Pl U la lb c)(x:Tr)(k:Nat)(h:P3 U la lb x)(hk:k<c):P3 U la lb (d3 U la lb x k):=by
 obtain⟨_,_,_,h1⟩:=yH P.m h.1 hk;exact⟨h1,aOn h.2.1 (by rw[P.la];exact h1),aOn h.2.2 (by rw[P.lb];exact h1)⟩
def aOo(h:Few la):∃f:Nat->Nat,(∀a,aKf la a->f a<9)/\∀a b,aKf la a->aKf la b->f a=f b->a=b:=by
 obtain⟨rk,h8,hm⟩:=h;have mem:∀a,aKf la a->a∈0::rk.map (· + 1):=λa ha=>by
  rcases ha with rfl|⟨x,hx,rfl⟩
  .exact bFx
  .exact bFw _ (bGc.mpr ⟨x,hm x hx,rfl⟩)
 refine⟨λa=>(0::rk.map (· + 1)).idxOf a,λa ha=>?_,λa b ha hbM e=>?_⟩
 .have:=bHr (mem a ha);rw[bGn,bG6]at this;show List.idxOf a _<9;omega
 .have ea:=bKx (bHr (mem a ha));have eb:=bKx (bHr (mem b hbM));rw[<-ea,<-eb];congr 1
def aX6(P:Pl U la lb c){l:List Tr}(nd:l.Nodup)(h:∀x∈l,P3 U la lb x):l.length<=5184:=by
 obtain⟨f,f1,f2⟩:=aOo P.fa;obtain⟨g,g1,g2⟩:=aOo P.fb;have h64:=P.m.most;have h1:=jV 5184 (l.map λx=>81*x.1+9*f x.2.1+g x.2.2) (by
  unfold Nodup;rw[bLz];exact nd.imp_of_mem λ{a b} ha hbM ne z=>ne (by
   have h1:=h a ha;have h2:=h b hbM;have a1:=f1 _ h1.2.1;have a2:=f1 _ h2.2.1;have b1:=g1 _ h1.2.2;have b2:=g1 _ h2.2.2;exact bMi (by omega) (bMi (f2 _ _ h1.2.1 h2.2.1 (by omega)) (g2 _ _ h1.2.2 h2.2.2 (by omega))))) λx hx=>by
  obtain⟨p,hp,rfl⟩:=bGc.mp hx;have h1:=h p hp;have a1:=f1 _ h1.2.1;have b1:=g1 _ h1.2.2;have:=h1.1;omega
 simpa using h1
abbrev B3(U:List (List Nat))(la lb:List Nat)(c s i j:Nat)(acc:List (Tr×List Nat)):Prop:=BG (d3 U la lb) (s,0,0) c (P3 U la lb) i j acc
def B3.len(P:Pl U la lb c) (b:B3 U la lb c s i j acc):acc.length<=5184:=by
 have:=aX6 P b.nd λp hp=>by obtain⟨x,hx,rfl⟩:=bGc.mp hp;exact(b.lt x hx).1
 rwa [bG6]at this
def Hit(ws:List Bool)(s:Nat)(x:Tr):Prop:=x.1=s/\wI ws ((x.2.1:Nat)-1:Int) ((x.2.2:Nat)-1:Int)=true
def kT(acc:List (Tr×List Nat)):List D:=acc.map λx=>tTr x.1
def wT(acc:List (Tr×List Nat)):List D:=acc.map λx=>D.str x.2
def aZ4(acc:List (Tr×List Nat)):kT acc=(acc.map (·.1)).map tTr:=by unfold kT;rw[bH8];rfl
def rst(pr fr w:D)(U:List (List Nat))(la lb:List Nat)(s:Nat)(acc:List (Tr×List Nat))(i:Nat)(x6 x7 x8 x9:Option Sl):PSt:=
 [some (.v (sdG pr fr U la lb)),some (.v w),some (.v (.int s)),some (.o (.d true (kT acc)) (wT acc)),some (.o .l (kT acc)),some (.v (.int i)),x6,x7,x8,x9]
def aTx(P:Pl U la lb c)(hw:Wd w ws){x:Tr×List Nat} (b:B3 U la lb c s i j acc) (hx:acc[i]?=some x) (hj:j<c) (x9:Option Sl) :
  (Hit ws s (d3 U la lb x.1 j)->fG (rst pr fr w U la lb s acc i (some (.v (tTr x.1))) (some (.v (.str [97+j]))) (some (.v (.int (stp U x.1.1 j)))) x9)=.ok (.rt (.str (x.2++[97+j]))))/\
  (¬ Hit ws s (d3 U la lb x.1 j)->fG (rst pr fr w U la lb s acc i (some (.v (tTr x.1))) (some (.v (.str [97+j]))) (some (.v (.int (stp U x.1.1 j)))) x9)=.ok (.nx (rst pr fr w U la lb s (bsG acc (d3 U la lb x.1 j) (x.2++[97+j])) i (some (.v (tTr x.1))) (some (.v (.str [97+j]))) (some (.v (.int (stp U x.1.1 j)))) (some (.v (tTr (d3 U la lb x.1 j))))))):=by
 have hxm:=bGt hx;have hl:=b.len P;have hil:=(bFy.mp hx).1;have hwl:=b.wl i i x (bG4 _) hx;have hp:=(b.lt x hxm).1;obtain⟨_,_,_,hg⟩:=yH P.m hp.1 hj;have mxd:∀(a g:Nat),(D.int (if ((g:Nat):Int)>((a:Nat)-1:Int) then ((g:Nat):Int) else ((a:Nat)-1:Int)))=D.int (((max a (g+1):Nat):Int)-1):=λa g=>by
  congr 1;split<;>omega
 have e9:rH (aC (aA 8) (aC (e2 aDc (e2 dIx (aA 6) (eC (.int 1))) (e2 dIx (e1 (dW "Sides" "lefts") (aA 0)) (aA 8))) (aC (e2 aDc (e2 dIx (aA 6) (eC (.int 2))) (e2 dIx (e1 (dW "Sides" "rights") (aA 0)) (aA 8))) aU))) (rst pr fr w U la lb s acc i (some (.v (tTr x.1))) (some (.v (.str [97+j]))) (some (.v (.int (stp U x.1.1 j)))) x9)=.ok (tTr (d3 U la lb x.1 j)):=by
  refine pB (aP rfl (aP ?_ (aP ?_ rfl)))
  .exact aH (y:=.int (la.getD (stp U x.1.1 j) 0:Nat)) rfl (aH aIg rfl (fY (yJ (by rw[P.la];exact hg)))) (congrArg R.ok (mxd _ _))
  .exact aH (y:=.int (lb.getD (stp U x.1.1 j) 0:Nat)) rfl (aH aIh rfl (fY (yJ (by rw[P.lb];exact hg)))) (congrArg R.ok (mxd _ _))
 have ev:e2 cY (e2 dIx (eF 3) (aA 6)) (aA 7) (rst pr fr w U la lb s acc i (some (.v (tTr x.1))) (some (.v (.str [97+j]))) (some (.v (.int (stp U x.1.1 j)))) (some (.v (tTr (d3 U la lb x.1 j)))))=.ok (.str (x.2++[97+j])):=by
  refine aH (x:=.str x.2) (y:=.str [97+j]) (aH rfl rfl ?_) rfl (aF (fC (by show x.2.length+1<=_;omega)))
  show aV (keyOk true (tTr x.1)=true) (ofO (pI (kT acc) (wT acc) (tTr x.1)))=_;rw[aF (c:=keyOk true (tTr x.1)=true) rfl,show pI (kT acc) (wT acc) (tTr x.1)=_ from aWw tTr aTw b.nd hxm]
  rfl
 have test:pK (e2 dEq (aA 8) (aA 2)) (aW lC (aC (aA 1) (aC (e2 dIx (aA 9) (eC (.int 1))) (aC (e2 dIx (aA 9) (eC (.int 2))) aU)))) (rst pr fr w U la lb s acc i (some (.v (tTr x.1))) (some (.v (.str [97+j]))) (some (.v (.int (stp U x.1.1 j)))) (some (.v (tTr (d3 U la lb x.1 j)))))=.ok (.bl (decide (((stp U x.1.1 j:Nat):Int)=(s:Int))&&wI ws (((d3 U la lb x.1 j).2.1:Nat)-1:Int) (((d3 U la lb x.1 j).2.2:Nat)-1:Int))):=
  vJ (aH rfl rfl (aCl _ _)) λ_=>aR rfl (aH5 hw _ _)
 refine⟨λh=>aJ (bG e9) (qQ (yG (gJ test ?_) (dX ev))),λh=>aJ (st':=rst pr fr w U la lb s acc i (some (.v (tTr x.1))) (some (.v (.str [97+j]))) (some (.v (.int (stp U x.1.1 j)))) (some (.v (tTr (d3 U la lb x.1 j))))) (bG e9) (aJ (oM (gJ test ?_) rfl) ?_)⟩
 .rw[bGe (show ((stp U x.1.1 j:Nat):Int)=(s:Int) by rw[show stp U x.1.1 j=s from h.1]),h.2]
  rfl
 .by_cases h1:stp U x.1.1 j=s
  .cases hz:wI ws (((d3 U la lb x.1 j).2.1:Nat)-1:Int) (((d3 U la lb x.1 j).2.2:Nat)-1:Int) with
   |true=>exact absurd ⟨h1,hz⟩ h
   |false=>rw[bKy]
  .rw[bG3 (show ¬ ((stp U x.1.1 j:Nat):Int)=(s:Int) by omega),bMc]
 .have t2:e2 sZ (aA 9) (eF 3) (rst pr fr w U la lb s acc i (some (.v (tTr x.1))) (some (.v (.str [97+j]))) (some (.v (.int (stp U x.1.1 j)))) (some (.v (tTr (d3 U la lb x.1 j)))))=.ok (.bl (!pJ (kT acc) (tTr (d3 U la lb x.1 j)))):=aH rfl rfl (aF rfl);unfold bsG
  by_cases hm:d3 U la lb x.1 j∈acc.map (·.1)
  .rw[bGa hm];have hk:pJ (kT acc) (tTr (d3 U la lb x.1 j))=true:=by rw[aZ4];exact bAy tTr aTw hm
   exact oM (gJ t2 (by rw[hk];rfl)) rfl
  .rw[bG7 hm];have hk:pJ (kT acc) (tTr (d3 U la lb x.1 j))=false:=by rw[aZ4];exact bAz tTr aTw hm
   refine yG (gJ t2 (by rw[hk];rfl)) ?_
   refine aJ (st':=(rst pr fr w U la lb s acc i (some (.v (tTr x.1))) (some (.v (.str [97+j]))) (some (.v (.int (stp U x.1.1 j)))) (some (.v (tTr (d3 U la lb x.1 j))))).set 3 (some (.o (.d true (kT acc++[tTr (d3 U la lb x.1 j)])) (wT acc++[.str (x.2++[97+j])])))) ?_ ?_
   .unfold sDPut;rw[ev,aK,show aA 9 (rst pr fr w U la lb s acc i (some (.v (tTr x.1))) (some (.v (.str [97+j]))) (some (.v (.int (stp U x.1.1 j)))) (some (.v (tTr (d3 U la lb x.1 j)))))=.ok (tTr (d3 U la lb x.1 j)) from rfl,aK]
    show aV _ (R.ok (Fl.nx (List.set _ 3 (some (Sl.o (.d true (rJ (kT acc) (tTr (d3 U la lb x.1 j)))) (wF (kT acc) (wT acc) (tTr (d3 U la lb x.1 j)) (.str (x.2++[97+j]))))))))=_;rw[aF ⟨rfl,aI0 (by unfold wT;rw[bG6];omega)⟩]
    unfold rJ wF;rw[hk];rfl
   .rw[aCm (i:=4) (f:=aA 9) (xs:=kT acc) (d:=tTr (d3 U la lb x.1 j)) rfl rfl (by unfold kT;rw[bG6];omega)]
    unfold rst kT wT;simp only[List.map_append,map_cons,map_nil];rfl
def NH(U:List (List Nat))(la lb:List Nat)(ws:List Bool)(c s p j:Nat)(acc:List (Tr×List Nat)):Prop:=∀(i:Nat) y k,acc[i]?=some y->k<c->(i<p\/(i=p/\k<j))->¬ Hit ws s (d3 U la lb y.1 k)
def NH.turn{x:Tr×List Nat} (n:NH U la lb ws c s i j acc) (hx:acc[i]?=some x) (h:¬ Hit ws s (d3 U la lb x.1 j)) {g:Tr} {v:List Nat}:NH U la lb ws c s i (j+1) (bsG acc g v):=λk y m hy hm hk=>by
 have hil:=(bFy.mp hx).1;have hlt:k<acc.length:=by omega
 have e:=aMe (g:=g) (w:=v) (bFv hlt);rw[hy]at e;cases e
 by_cases hip:k=i/\m=j
 .obtain⟨rfl,rfl⟩:=hip;rw[bFv hlt]at hx;cases hx;exact h
 .exact n k _ m (bFv hlt) hm (by omega)
def aZ5(P:Pl U la lb c){g:Nat}(hg:g<U.length):(U.getD g []).length=c:=by
 rw[bG5,bFv hg,bMh,(P.m.row _ (bGq hg)).1]
theorem aTy(P:Pl U la lb c)(hw:Wd w ws){x:Tr×List Nat}:∀(k j:Nat) (acc:List (Tr×List Nat)) (x7 x8 x9:Option Sl),j+k=c->B3 U la lb c s i j acc->NH U la lb ws c s i j acc->acc[i]?=some x->
  (∃m acc',m<c/\B3 U la lb c s i m acc'/\NH U la lb ws c s i m acc'/\acc'[i]?=some x/\Hit ws s (d3 U la lb x.1 m)/\forR (tgT [7,8]) fG (uY ([97,98,99].drop j) (nats ((U.getD x.1.1 []).drop j))) (rst pr fr w U la lb s acc i (some (.v (tTr x.1))) x7 x8 x9)=.ok (.rt (.str (x.2++[97+m]))))\/
  ∃acc' x7' x8' x9',forR (tgT [7,8]) fG (uY ([97,98,99].drop j) (nats ((U.getD x.1.1 []).drop j))) (rst pr fr w U la lb s acc i (some (.v (tTr x.1))) x7 x8 x9)=.ok (.nx (rst pr fr w U la lb s acc' i (some (.v (tTr x.1))) x7' x8' x9'))/\B3 U la lb c s i c acc'/\NH U la lb ws c s i c acc'/\acc'[i]?=some x
 |0,j,acc,x7,x8,x9,hk,b,n,hx=>by
  obtain rfl:j=c:=by omega
  refine .inr ⟨acc,x7,x8,x9,?_,b,n,hx⟩;rw[bJx (l:=U.getD x.1.1 []) (by rw[aZ5 P (b.lt x (bGt hx)).1.1];exact bG4 _)]
  cases [97,98,99].drop j<;>rfl
 |k+1,j,acc,x7,x8,x9,hk,b,n,hx=>by
  have c3:=P.m.c3;have hj:j<c:=by omega
  have hp:=(b.lt x (bGt hx)).1;have hlt:j<(U.getD x.1.1 []).length:=by rw[aZ5 P hp.1];exact hj
  have er:(U.getD x.1.1 []).drop j=stp U x.1.1 j::(U.getD x.1.1 []).drop (j+1):=by
   rw[bIn hlt];congr 1;unfold stp;rw[bG5 (l:=U.getD x.1.1 []),bFv hlt,bMh]
  obtain⟨t1,t2⟩:=aTx (pr:=pr) (fr:=fr) P hw b hx hj x9;rw[aKa (by omega),er,aCo]
  by_cases h:Hit ws s (d3 U la lb x.1 j)
  .exact .inl ⟨j,acc,hj,b,n,hx,h,aTu (s1:=rst pr fr w U la lb s acc i (some (.v (tTr x.1))) (some (.v (.str [97+j]))) (some (.v (.int (stp U x.1.1 j)))) x9) rfl (t1 h)⟩
  .have go:∀{r:R Fl},forR (tgT [7,8]) fG (uY ([97,98,99].drop (j+1)) (nats ((U.getD x.1.1 []).drop (j+1)))) (rst pr fr w U la lb s (bsG acc (d3 U la lb x.1 j) (x.2++[97+j])) i (some (.v (tTr x.1))) (some (.v (.str [97+j]))) (some (.v (.int (stp U x.1.1 j)))) (some (.v (tTr (d3 U la lb x.1 j)))))=r->forR (tgT [7,8]) fG (uY ((97+j)::[97,98,99].drop (j+1)) (.int (stp U x.1.1 j:Nat)::nats ((U.getD x.1.1 []).drop (j+1)))) (rst pr fr w U la lb s acc i (some (.v (tTr x.1))) x7 x8 x9)=r:=λe=>fX (s1:=rst pr fr w U la lb s acc i (some (.v (tTr x.1))) (some (.v (.str [97+j]))) (some (.v (.int (stp U x.1.1 j)))) x9) rfl (t2 h) e
   rcases aTy P hw k (j+1) _ (some (.v (.str [97+j]))) (some (.v (.int (stp U x.1.1 j)))) (some (.v (tTr (d3 U la lb x.1 j)))) (by omega) (b.turn (bDu P) hx hj) (n.turn hx h) (aMe hx) with ⟨m,acc',h1,h2,h3,h4,h5,e⟩|⟨acc',y7,y8,y9,e,h1,h2,h3⟩
   .exact .inl ⟨m,acc',h1,h2,h3,h4,h5,go e⟩
   .exact .inr ⟨acc',y7,y8,y9,go e,h1,h2,h3⟩
theorem aOp(P:Pl U la lb c)(hw:Wd w ws):∀(k i:Nat) (acc:List (Tr×List Nat)) (x6 x7 x8 x9:Option Sl) (f:Nat),5185<=k+i->k<=f->B3 U la lb c s i 0 acc->NH U la lb ws c s i 0 acc->i<=acc.length->
  (∃p m x acc',m<c/\B3 U la lb c s p m acc'/\NH U la lb ws c s p m acc'/\acc'[p]?=some x/\Hit ws s (d3 U la lb x.1 m)/\jP jZ jY f (rst pr fr w U la lb s acc i x6 x7 x8 x9)=.ok (.rt (.str (x.2++[97+m]))))\/
  ∃acc' x6' x7' x8' x9',jP jZ jY f (rst pr fr w U la lb s acc i x6 x7 x8 x9)=.ok (.nx (rst pr fr w U la lb s acc' acc'.length x6' x7' x8' x9'))/\B3 U la lb c s acc'.length 0 acc'/\NH U la lb ws c s acc'.length 0 acc'
 |0,i,acc,x6,x7,x8,x9,f,hk,hf,b,n,hi=>by have:=b.len P;omega
 |k+1,i,acc,x6,x7,x8,x9,f,hk,hf,b,n,hi=>by
  obtain⟨f,rfl⟩:∃g,f=g+1:=⟨f-1,by omega⟩
  have test:jZ (rst pr fr w U la lb s acc i x6 x7 x8 x9)=.ok (.bl (decide ((i:Int)<((kT acc).length:Nat)))):=aH rfl rfl rfl;rw[show (kT acc).length=acc.length by unfold kT;simp]at test
  by_cases hlt:i<acc.length
  .have hx:acc[i]?=some acc[i]:=bFv hlt;generalize acc[i]=x at hx;have hp:=(b.lt x (bGt hx)).1;have h6:cN 6 (e2 dIx (eF 4) (aA 5)) (rst pr fr w U la lb s acc i x6 x7 x8 x9)=.ok (.nx (rst pr fr w U la lb s acc i (some (.v (tTr x.1))) x7 x8 x9)):=bG (aH rfl rfl (fY (by
    obtain⟨h1,h2⟩:=bFy.mp hx;unfold kT;rw[atI_nat (by rw[bG6];exact h1),bK9,h2])))
   have hz:aO2 (eC (.str [97,98,99])) (e2 dIx (e1 (dW "Sides" "steps") (aA 0)) (e2 dIx (aA 6) (eC (.int 0)))) (rst pr fr w U la lb s acc i (some (.v (tTr x.1))) x7 x8 x9)=.ok (uY [97,98,99] (nats (U.getD x.1.1 []))):=by
    have:e2 dIx (e1 (dW "Sides" "steps") (aA 0)) (e2 dIx (aA 6) (eC (.int 0))) (rst pr fr w U la lb s acc i (some (.v (tTr x.1))) x7 x8 x9)=.ok (.lst (nats (U.getD x.1.1 []))):=aH (y:=.int x.1.1) aZ3 rfl (fY (by
     rw[aCp hp.1,bG5,bFv hp.1];rfl))
    show (e2 dIx (e1 (dW "Sides" "steps") (aA 0)) (e2 dIx (aA 6) (eC (.int 0))) _).bind _=_;rw[this];rfl
   rcases aTy (pr:=pr) (fr:=fr) P hw c 0 acc x7 x8 x9 (by omega) b n hx with ⟨m,acc',h1,h2,h3,h4,h5,e⟩|⟨acc1,y7,y8,y9,e,b1,n1,hx1⟩
   .exact .inl ⟨i,m,x,acc',h1,h2,h3,h4,h5,aTv (gJ test (aWt hlt)) (aJ h6 (qQ (dY hz e)))⟩
   .have hl2:=(bFy.mp hx1).1;have go:jY (rst pr fr w U la lb s acc i x6 x7 x8 x9)=.ok (.nx (rst pr fr w U la lb s acc1 (i+1) (some (.v (tTr x.1))) y7 y8 y9)):=aJ h6 (aJ (dY hz e) (bG rfl));have n2:NH U la lb ws c s (i+1) 0 acc1:=λk y m hy hm hk=>n1 k y m hy hm (by omega)
    rcases aOp P hw k (i+1) acc1 (some (.v (tTr x.1))) y7 y8 y9 f (by omega) (by omega) b1.next n2 (by omega) with ⟨p,m,x',acc',h1,h2,h3,h4,h5,ew⟩|⟨acc',z6,z7,z8,z9,ew,h1,h2⟩
    .exact .inl ⟨p,m,x',acc',h1,h2,h3,h4,h5,aEq (gJ test (aWt hlt)) go ew⟩
    .exact .inr ⟨acc',z6,z7,z8,z9,aEq (gJ test (aWt hlt)) go ew,h1,h2⟩
  .have:i=acc.length:=by omega
   subst this;exact .inr ⟨acc,x6,x7,x8,x9,aGt (gJ test (bDp hlt)),b,n⟩
def aMo{t:List Nat}(ne:t≠[])(hl:Ltr c t):Hit ws s (goG (d3 U la lb) (s,0,0) t)↔WR U la lb ws c s t:=by
 rw[go3];exact⟨λh=>⟨ne,hl,h.1,h.2⟩,λh=>⟨h.cl,h.wt⟩⟩
def aTz(P:Pl U la lb c)(hw:Wd w ws)(hs:s<U.length):(∃t,nP [sdG pr fr U la lb,w,.int s]=.ok (.str t)/\WR U la lb ws c s t/\t.length<=6000/\∀u,WR U la lb ws c s u->sle t u)\/∀u,¬ WR U la lb ws c s u:=by
 rcases aOp (pr:=pr) (fr:=fr) (w:=w) P hw 5185 0 [((s,0,0),[])] none none none none 100000 (by omega) (by omega) (BG.start ⟨hs,.inl rfl,.inl rfl⟩) (λ_ _ _ _ _ h=>by omega) (bHp _) with ⟨p,m,x,acc,h1,h2,h3,h4,h5,e⟩|⟨acc,x6,x7,x8,x9,e,h1,h2⟩
 .have hxm:=bGt h4;have hx:=h2.lt x hxm;have hil:=(bFy.mp h4).1;have hwl:=h2.wl p p x (bG4 _) h4;have hln:=h2.len P;have hlt:Ltr c (x.2++[97+m]):=aBp hx.2.2 λz hz=>by rw[bFz.mp hz];constructor<;>omega
  have ht:WR U la lb ws c s (x.2++[97+m]):=(aMo (by simp) hlt).mp (by rw[zQ,hx.2.1];exact h5)
  refine .inl ⟨_,cL rfl ?_,ht,by rw[bGg,bHc];omega,λu hu=>h2.hit h4 h3 hu.ne hu.lt ((aMo hu.ne hu.lt).mpr hu)⟩
  refine aJ (st':=[some (.v (sdG pr fr U la lb)),some (.v w),some (.v (.int s)),some (.o (.d true [tTr (s,0,0)]) [.str []]),none,none,none,none,none,none]) ?_ ?_
  .unfold aI6;rw[pB (ds:=[.int s,.int (-1),.int (-1)]) rfl,aK];exact aF ⟨rfl,rfl⟩
  refine aJ (pQ (xs:=[tTr (s,0,0)]) (aF (fC (by show 1<=_;omega)))) (aJ (st':=rst pr fr w U la lb s [((s,0,0),[])] 0 none none none none) (bG rfl) (qQ (by rw[aGo];exact e)))
 .refine .inr λu hu=>h1.nohit (hit:=Hit ws s) (λi y k hy hk=>h2 i y k hy hk (.inl (bFy.mp hy).1)) hu.ne hu.lt ((aMo hu.ne hu.lt).mpr hu)
end
abbrev Tl:=List Nat×List Nat
def klt(x y:Tl):Prop:=x.1.length+x.2.length<y.1.length+y.2.length\/(x.1.length+x.2.length=y.1.length+y.2.length/\(x.1.length<y.1.length\/(x.1.length=y.1.length/\(x.1<y.1\/(x.1=y.1/\x.2<y.2)))))
def aMp{x y z:Tl}(h1:klt x y)(h2:klt y z):klt x z:=by
 rcases h1 with h1|⟨h1,h1|⟨h3,h4⟩⟩
 .rcases h2 with h2|⟨h2,_⟩
  .exact .inl (by omega)
  .exact .inl (by omega)
 .rcases h2 with h2|⟨h2,h2'|⟨h5,_⟩⟩
  .exact .inl (by omega)
  .exact .inr ⟨by omega,.inl (by omega)⟩
  .exact .inr ⟨by omega,.inl (by omega)⟩
 .rcases h2 with h2|⟨h2,h2'|⟨h5,h6⟩⟩
  .exact .inl (by omega)
  .exact .inr ⟨by omega,.inl (by omega)⟩
  .refine .inr ⟨by omega,.inr ⟨by omega,?_⟩⟩
   rcases h4 with h4|⟨h4,h7⟩ <;> rcases h6 with h6|⟨h6,h8⟩
   .exact .inl (bMg h4 h6)
   .exact .inl (by rw[<-h6];exact h4)
   .exact .inl (by rw[h4];exact h6)
   .exact .inr ⟨h4.trans h6,bMg h7 h8⟩
def bB4{x y:Tl}(h1:sle x.1 y.1)(h2:sle x.2 y.2):x=y\/klt x y:=by
 have len:∀{u v:List Nat},sle u v->u.length<=v.length:=λh=>by
  rcases h with rfl|h|h
  .exact bG4 _
  .omega
  .omega
 have l1:=len h1;have l2:=len h2;rcases h1 with h1|h1|⟨h1,h3⟩
 .rcases h2 with h2|h2|⟨h2,h4⟩
  .exact .inl (bMi h1 h2)
  .exact .inr (.inl (by omega))
  .exact .inr (.inr ⟨by rw[h1];omega,.inr ⟨by rw[h1],.inr ⟨h1,h4⟩⟩⟩)
 .exact .inr (.inl (by omega))
 .by_cases e:x.2.length=y.2.length
  .exact .inr (.inr ⟨by omega,.inr ⟨h1,.inl h3⟩⟩)
  .exact .inr (.inl (by omega))
def itD(x:Tl):D:=.tup [.str x.1,.str x.2]
def aF1(x:Tl):List D:=[.int ((x.1.length+x.2.length:Nat):Int),.int (x.1.length:Nat),.str x.1,.str x.2]
def aU0{x:Tl}(h1:x.1.length<=100000)(h2:x.2.length<=100000):bY [itD x]=.ok (.tup (aF1 x)):=by
 have e0:e2 dIx (aA 0) (eC (.int 0)) [some (.v (itD x))]=.ok (.str x.1):=aH rfl rfl rfl;have e1':e2 dIx (aA 0) (eC (.int 1)) [some (.v (itD x))]=.ok (.str x.2):=aH rfl rfl rfl;have l0:e1 gD (e2 dIx (aA 0) (eC (.int 0))) [some (.v (itD x))]=.ok (.int (x.1.length:Nat)):=by rw[zZ,e0,aK];exact aF (fC (by omega))
 have l1:e1 gD (e2 dIx (aA 0) (eC (.int 1))) [some (.v (itD x))]=.ok (.int (x.2.length:Nat)):=by rw[zZ,e1',aK];exact aF (fC (by omega))
 refine cL rfl (dX (pB (aP (aH l0 l1 ?_) (aP l0 (aP e0 (aP e1' rfl))))));show R.ok (D.int ((x.1.length:Int)+(x.2.length:Int)))=_;rw[bMe]
def aKg{i j:Int}{a b:List D}:aDu (.int i::a) (.int j::b)=if i=j then aDu a b else .ok (decide (i<j)):=by
 rw[aDu]
 by_cases h:i=j
 .rw[bGa h,bGa (by simp[eqD,h])]
 .rw[bG7 h,bG7 (by simp[eqD,h])]
def aKh{s t:List Nat}{a b:List D}:aDu (.str s::a) (.str t::b)=if s=t then aDu a b else .ok (decide (s<t)):=by
 rw[aDu]
 by_cases h:s=t
 .rw[bGa h,bGa (by simp[eqD,h])]
 .rw[bG7 h,bG7 (by simp[eqD,h])]
def aX7(x y:Tl):∃t:Bool,aDu (aF1 x) (aF1 y)=.ok t/\(t=true↔klt x y):=by
 unfold aF1 klt;rw[aKg]
 by_cases h1:((x.1.length+x.2.length:Nat):Int)=((y.1.length+y.2.length:Nat):Int)
 .have h1':x.1.length+x.2.length=y.1.length+y.2.length:=by omega
  rw[bGa h1,aKg]
  by_cases h2:((x.1.length:Nat):Int)=((y.1.length:Nat):Int)
  .have h2':x.1.length=y.1.length:=by omega
   rw[bGa h2,aKh]
   by_cases h3:x.1=y.1
   .rw[bGa h3,aKh]
    by_cases h4:x.2=y.2
    .rw[bGa h4];refine⟨false,rfl,?_⟩;rw[h3,h4];simp[List.lt_irrefl]
    .rw[bG7 h4];refine⟨_,rfl,?_⟩;rw[bGl,h3];simp only[List.lt_irrefl,false_or,true_and];constructor
     .intro h;exact .inr ⟨by omega,.inr h⟩
     .rintro(h|⟨_,h|h⟩)
      .omega
      .omega
      .exact h
   .rw[bG7 h3];refine⟨_,rfl,?_⟩;rw[bGl];constructor
    .intro h;exact .inr ⟨h1',.inr ⟨h2',.inl h⟩⟩
    .rintro(h|⟨_,h|⟨_,h|h⟩⟩)
     .omega
     .omega
     .exact h
     .exact absurd h.1 h3
  .rw[bG7 h2];refine⟨_,rfl,?_⟩;rw[bGl];constructor
   .intro h;exact .inr ⟨h1',.inl (by omega)⟩
   .rintro(h|⟨_,h|⟨h,_⟩⟩) <;> omega
 .rw[bG7 h1];refine⟨_,rfl,?_⟩;rw[bGl];constructor
  .intro h;exact .inl (by omega)
  .rintro(h|⟨h,_⟩) <;> omega
def aX8(x y:Tl):klt x y\/x=y\/klt y x:=by
 rcases bHg (x.1.length+x.2.length) (y.1.length+y.2.length) with h|h|h
 .exact .inl (.inl h)
 .rcases bHg x.1.length y.1.length with h1|h1|h1
  .exact .inl (.inr ⟨h,.inl h1⟩)
  .have h2:x.2.length=y.2.length:=by omega
   rcases aI9 x.1 y.1 with (e|z|z)|(z|z)
   .rcases aI9 x.2 y.2 with (e2|z|z)|(z|z)
    .exact .inr (.inl (bMi e e2))
    .omega
    .exact .inl (.inr ⟨h,.inr ⟨h1,.inr ⟨e,z.2⟩⟩⟩)
    .omega
    .exact .inr (.inr (.inr ⟨h.symm,.inr ⟨h1.symm,.inr ⟨e.symm,z.2⟩⟩⟩))
   .omega
   .exact .inl (.inr ⟨h,.inr ⟨h1,.inl z.2⟩⟩)
   .omega
   .exact .inr (.inr (.inr ⟨h.symm,.inr ⟨h1.symm,.inl z.2⟩⟩))
  .exact .inr (.inr (.inr ⟨h.symm,.inl h1⟩))
 .exact .inr (.inr (.inl h))
theorem aIl:∀(its:List Tl)(b:Tl),(∀x∈b::its,x.1.length<=100000/\x.2.length<=100000)->∃r∈b::its,aB8 bY (itD b) (.tup (aF1 b)) (its.map itD)=.ok (itD r)/\∀x∈b::its,¬ klt x r
 |[],b,_=>⟨b,bFx,rfl,λx hx=>by
  rw[bFz.mp hx];rintro(h|⟨_,h|⟨_,h|⟨_,h⟩⟩⟩)
  .omega
  .omega
  .exact bKz _ h
  .exact bKz _ h⟩
 |d::its,b,h=>by
  obtain⟨h1,h2⟩:=h d (by simp)
  obtain⟨t,ht,hk⟩:=aX7 d b;have step:aB8 bY (itD b) (.tup (aF1 b)) (itD d::its.map itD)=if t=true then aB8 bY (itD d) (.tup (aF1 d)) (its.map itD) else aB8 bY (itD b) (.tup (aF1 b)) (its.map itD):=by
   rw[aB8,aU0 h1 h2,aK];dsimp only;rw[aF ⟨by simp[aF1,dep,fZ],by simp[aF1],by simp[aF1]⟩,ht,aK]
  rw[bGf,step];cases t with
  |true=>
   rw[bGa rfl];have kd:=hk.mp rfl;obtain⟨r,hr,e,hm⟩:=aIl its d λx hx=>h x (by rcases bG0.mp hx with rfl|hx<;>simp[*])
   refine⟨r,bFw _ hr,e,λx hx=>?_⟩
   rcases bG0.mp hx with rfl|hx
   .exact λz=>hm d bFx (aMp kd z)
   .exact hm x hx
  |false=>
   rw[bG7 bGh];have kd:¬ klt d b:=λz=>bGh (hk.mpr z)
   obtain⟨r,hr,e,hm⟩:=aIl its b λx hx=>h x (by rcases bG0.mp hx with rfl|hx<;>simp[*])
   refine⟨r,by rcases bG0.mp hr with rfl|hr<;>simp[*],e,λx hx=>?_⟩
   rcases bG0.mp hx with rfl|hx
   .exact hm x bFx
   .rcases bG0.mp hx with rfl|hx
    .intro z;rcases bG0.mp hr with rfl|hr'
     .exact kd z
     .rcases Classical.em (klt b r) with hbM|hbM
      .exact hm b bFx hbM
      ·
       exact hbM (by
        rcases aX8 b r with hz|hz|hz
        .exact hz
        .rw[hz]at kd;exact absurd z kd
        .exact absurd (aMp z hz) kd)
    .exact hm x (bFw _ hx)
def bB5{its:List Tl}(h:∀x∈its,x.1.length<=100000/\x.2.length<=100000):(its=[]/\aJw bY (.lst (its.map itD))=.ok .non)\/∃r∈its,aJw bY (.lst (its.map itD))=.ok (itD r)/\∀x∈its,¬ klt x r:=by
 cases its with
 |nil=>exact .inl ⟨rfl,rfl⟩
 |cons b its=>
  obtain⟨h1,h2⟩:=h b bFx;obtain⟨r,hr,e,hm⟩:=aIl its b h;refine .inr ⟨r,hr,?_,hm⟩;rw[bGf,aJw,aU0 h1 h2,aK];exact e
section
variable{S T:List (List Nat)}{rk rk':List Nat}{ws:List Bool}{c l r:Nat}{sq:List (Nat×Nat)}{fr:Nat×Nat->List Nat}
def bef(S T:List (List Nat)):Nat×Nat->List Nat->List (Nat×Nat)
 |_,[]=>[]
 |p,ch::w=>p::bef S T (dTw S T p (ch-97)) w
def aft(S T:List (List Nat)):Nat×Nat->List Nat->List (Nat×Nat)
 |_,[]=>[]
 |p,ch::w=>dTw S T p (ch-97)::aft S T (dTw S T p (ch-97)) w
theorem aOq(y:Nat×Nat):∀(w:List Nat)(p:Nat×Nat),(y∈bef S T p w\/y=goG (dTw S T) p w)↔(y=p\/y∈aft S T p w)
 |[],p=>by simp[bef,aft,goG]
 |ch::w,p=>by
  have ih:=aOq y w (dTw S T p (ch-97));show (y∈p::bef S T (dTw S T p (ch-97)) w\/y=goG (dTw S T) (dTw S T p (ch-97)) w)↔(y=p\/y∈dTw S T p (ch-97)::aft S T (dTw S T p (ch-97)) w);rw[bG0,bG0,or_assoc,ih]
def hbM(f:Nat×Nat->Nat)(l:List (Nat×Nat))(a:Nat):Nat:=l.foldl (λa x=>max a (f x)) a
theorem aKi(f:Nat×Nat->Nat):∀(l:List (Nat×Nat)) (a:Nat),a<=hbM f l a/\(∀x∈l,f x<=hbM f l a)/\(hbM f l a=a\/∃x∈l,hbM f l a=f x)
 |[],a=>⟨bG4 _,λ_ h=>(nomatch h),.inl rfl⟩
 |x::l,a=>by
  obtain⟨h1,h2,h3⟩:=aKi f l (max a (f x));refine⟨?_,λy hy=>?_,?_⟩
  .show a<=hbM f l (max a (f x));omega
  .show f y<=hbM f l (max a (f x));rcases bG0.mp hy with rfl|hy
   .omega
   .exact h2 y hy
  .show hbM f l (max a (f x))=a\/_;rcases h3 with h3|⟨y,hy,h3⟩
   .rcases bMm (f x) a with z|z
    .exact .inl (by omega)
    .exact .inr ⟨x,bFx,by show hbM f l (max a (f x))=_;omega⟩
   .exact .inr ⟨y,bFw _ hy,h3⟩
structure WP(S T:List (List Nat))(rk rk':List Nat)(ws:List Bool)(c:Nat)(p:Nat×Nat)(t:List Nat):Prop where
 ne:t≠[]
 lt:Ltr c t
 cl:goG (dTw S T) p t=p
 wt:wI ws (hbM (λx=>rk.getD x.1 0) (bef S T p t) 0:Nat) (hbM (λx=>rk'.getD x.2 0) (bef S T p t) 0:Nat)=true
def aZ6(M:Mch S rk c)(M':Mch T rk' c)(sd:Sd S T c l r sq fr):Pl (uS S T c sq) (laS rk sq) (lbS rk' sq) c:=by
 have ul:(uS S T c sq).length=sq.length:=by unfold uS;rw[bG6]
 refine⟨⟨by rw[ul];exact sd.len,M.c1,M.c3,λrow hr=>?_⟩,⟨rk,by rw[M.rks];exact M.most,λx hx=>?_⟩,⟨rk',by rw[M'.rks];exact M'.most,λx hx=>?_⟩,by unfold laS;rw[bG6,ul],by unfold lbS;rw[bG6,ul]⟩
 .obtain⟨p,hp,rfl⟩:=bGc.mp hr;refine⟨by simp,λx hx=>?_⟩
  obtain⟨k,hk,rfl⟩:=bGc.mp hx;rw[ul];exact bHr (sd.cl p hp k (bGr.mp hk))
 .obtain⟨p,hp,rfl⟩:=bGc.mp hx;have h1:p.1<rk.length:=by rw[M.rks];exact(sd.inr p hp).1
  rw[bG5,bFv h1];exact bGq _
 .obtain⟨p,hp,rfl⟩:=bGc.mp hx;have h1:p.2<rk'.length:=by rw[M'.rks];exact(sd.inr p hp).2
  rw[bG5,bFv h1];exact bGq _
def qA(sq:List (Nat×Nat))(i:Nat):Nat×Nat:=sq.getD i (0,0)
def yK(hi:i<sq.length):qA sq i=sq[i]:=by unfold qA;rw[bG5,bFv hi];rfl
def bFl(sd:Sd S T c l r sq fr){k:Nat}(hi:i<sq.length)(hk:k<c):stp (uS S T c sq) i k<sq.length/\qA sq (stp (uS S T c sq) i k)=dTw S T (qA sq i) k:=by
 have e:stp (uS S T c sq) i k=sq.idxOf (dTw S T (qA sq i) k):=by
  unfold stp uS;rw[bG5 (l:=List.map _ _),bGu,bFv hi,yK hi];simp[hk]
 have hm:=sd.cl _ (bGq hi) k hk;rw[<-yK hi]at hm;have h1:=bHr hm;rw[e];exact⟨h1,by rw[yK h1];exact bKx h1⟩
theorem aF2(sd:Sd S T c l r sq fr):∀(t:List Nat)(i:Nat),i<sq.length->Ltr c t->goP (uS S T c sq) i t<sq.length/\qA sq (goP (uS S T c sq) i t)=goG (dTw S T) (qA sq i) t/\(gls (uS S T c sq) i t).map (qA sq)=aft S T (qA sq i) t
 |[],i,hi,_=>⟨hi,rfl,rfl⟩
 |ch::t,i,hi,hl=>by
  have h1:=hl ch bFx;obtain⟨s1,s2⟩:=bFl sd hi (show ch-97<c by omega)
  obtain⟨a,b,d⟩:=aF2 sd t (stp (uS S T c sq) i (ch-97)) s1 λx hx=>hl x (bFw _ hx)
  rw[s2]at b d;refine⟨a,b,?_⟩;show qA sq (stp (uS S T c sq) i (ch-97))::(gls (uS S T c sq) _ t).map (qA sq)=_;rw[d,s2];rfl
def aOr{ll:List Nat}{f:Nat×Nat->Nat}{i:Nat}{t:List Nat}(sd:Sd S T c l r sq fr)(hf:∀j,j<sq.length->ll.getD j 0=f (qA sq j))(hi:i<sq.length)(hl:Ltr c t)(ne:t≠[])(cl:goG (dTw S T) (qA sq i) t=qA sq i)(lt:∀g∈gls (uS S T c sq) i t,g<sq.length):((mxM ll 0 (gls (uS S T c sq) i t):Nat)-1:Int)=(hbM f (bef S T (qA sq i) t) 0:Nat):=by
 obtain⟨_,_,ea⟩:=aF2 sd t i hi hl;obtain⟨ch,t',et⟩:∃ch t',t=ch::t':=by
  cases t with
  |nil=>exact absurd rfl ne
  |cons ch t'=>exact⟨ch,t',rfl⟩
 have hp:qA sq i∈bef S T (qA sq i) t:=by rw[et];exact bFx
 have ba:∀y,y∈bef S T (qA sq i) t↔y∈aft S T (qA sq i) t:=λy=>by
  have h:=aOq (S:=S) (T:=T) y t (qA sq i);rw[cl]at h;have ha:qA sq i∈aft S T (qA sq i) t:=by
   rcases uL (U:=uS S T c sq) t i with ⟨_,z⟩|z
   .exact absurd z ne
   .rw[<-ea];obtain⟨_,eq,_⟩:=aF2 sd t i hi hl;rw[cl]at eq;rw[<-eq];exact bGc.mpr ⟨_,z,rfl⟩
  constructor
  .intro z;rcases h.mp (.inl z) with q|q
   .rw[q];exact ha
   .exact q
  .intro z;rcases h.mpr (.inr z) with q|q
   .exact q
   .rw[q];exact hp
 obtain⟨_,m2,m3⟩:=aE8 ll (gls (uS S T c sq) i t) 0;obtain⟨_,b2,b3⟩:=aKi f (bef S T (qA sq i) t) 0;have up:∀y∈bef S T (qA sq i) t,f y+1<=mxM ll 0 (gls (uS S T c sq) i t):=λy hy=>by
  have:=(ba y).mp hy;rw[<-ea]at this;obtain⟨g,hg,rfl⟩:=bGc.mp this;have:=m2 g hg
  rwa [hf g (lt g hg)]at this
 have h0:=up _ hp;rcases m3 with m3|⟨g,hg,m3⟩
 .omega
 .have hy:qA sq g∈bef S T (qA sq i) t:=(ba _).mpr (by rw[<-ea];exact bGc.mpr ⟨g,hg,rfl⟩)
  have:=b2 _ hy;rw[hf g (lt g hg)]at m3;rcases b3 with b3|⟨y,hy',b3⟩
  .omega
  .have:=up y hy';omega
def aZ7(M:Mch S rk c)(M':Mch T rk' c)(sd:Sd S T c l r sq fr) {t:List Nat} (hi:i<sq.length):WR (uS S T c sq) (laS rk sq) (lbS rk' sq) ws c i t↔WP S T rk rk' ws c (qA sq i) t:=by
 have ul:(uS S T c sq).length=sq.length:=by unfold uS;rw[bG6]
 have fa:∀j,j<sq.length->(laS rk sq).getD j 0=rk.getD (qA sq j).1 0:=λj hj=>by
  unfold laS;rw[bG5,bGu,bFv hj,yK hj];rfl
 have fb:∀j,j<sq.length->(lbS rk' sq).getD j 0=rk'.getD (qA sq j).2 0:=λj hj=>by
  unfold lbS;rw[bG5,bGu,bFv hj,yK hj];rfl
 have lt:Ltr c t->∀g∈gls (uS S T c sq) i t,g<sq.length:=λhl g hg=>by
  have:=aMm (aZ6 M M' sd) t i (by rw[ul];exact hi) hl g hg
  rwa [ul]at this
 constructor
 .intro h;obtain⟨a,b,_⟩:=aF2 sd t i hi h.lt;have cl:goG (dTw S T) (qA sq i) t=qA sq i:=by rw[<-b,h.cl]
  refine⟨h.ne,h.lt,cl,?_⟩;rw[<-aOr (f:=λx=>rk.getD x.1 0) sd fa hi h.lt h.ne cl (lt h.lt),<-aOr (f:=λx=>rk'.getD x.2 0) sd fb hi h.lt h.ne cl (lt h.lt)]
  exact h.wt
 .intro h;obtain⟨a,b,_⟩:=aF2 sd t i hi h.lt;rw[h.cl,yK a,yK hi]at b;have inj:∀{x y:Nat}(hx:x<sq.length)(hy:y<sq.length),sq[x]=sq[y]->x=y:=λ{x y} hx hy e=>by
   have nd:=bIl.mp sd.nd;rcases bHg x y with z|z|z
   .exact absurd e (nd x y hx hy z)
   .exact z
   .exact absurd e.symm (nd y x hy hx z)
  refine⟨h.ne,h.lt,inj a hi b,?_⟩;rw[aOr (f:=λx=>rk.getD x.1 0) sd fa hi h.lt h.ne h.cl (lt h.lt),aOr (f:=λx=>rk'.getD x.2 0) sd fb hi h.lt h.ne h.cl (lt h.lt)]
  exact h.wt
theorem aKj{E:Ex}{st:PSt}{j:Nat}{R':Nat->Tl->Prop}:∀(is:List Nat),(∀i∈is,∃x,E (st.set j (some (.v (.int (i:Nat)))))=.ok (itD x)/\R' i x)->∃xs:List Tl,jO (tgN j) bL E st (nats is)=.ok (xs.map itD)/\(∀x∈xs,∃i∈is,R' i x)/\∀i∈is,∃x∈xs,R' i x
 |[],_=>⟨[],rfl,λ_ h=>(nomatch h),λ_ h=>nomatch h⟩
 |i::is,h=>by
  obtain⟨x,e,hx⟩:=h i bFx;obtain⟨xs,es,h1,h2⟩:=aKj is λi hi=>h i (bFw _ hi)
  refine⟨x::xs,?_,λy hy=>?_,λk hk=>?_⟩
  .rw[aCo,kJ,show tgN j (.int (i:Nat)) st=.ok (st.set j (some (.v (.int (i:Nat))))) from rfl,aK,show bL _=.ok (.bl true) from rfl,aK,mR,bGa rfl,e,aK,es]
   rfl
  .rcases bG0.mp hy with rfl|hy
   .exact⟨i,bFx,hx⟩
   .obtain⟨k,hk,z⟩:=h1 y hy;exact⟨k,bFw _ hk,z⟩
  .rcases bG0.mp hk with rfl|hk
   .exact⟨x,bFx,hx⟩
   .obtain⟨y,hy,z⟩:=h2 k hk;exact⟨y,bFw _ hy,z⟩
def Told(S T:List (List Nat))(rk rk':List Nat)(ws:List Bool)(c l r:Nat)(d:D):Prop:=
 (d=.non/\∀f t,Ltr c f->¬ WP S T rk rk' ws c (goG (dTw S T) (l,r) f) t)\/
 ∃x:Tl,d=itD x/\Ltr c x.1/\WP S T rk rk' ws c (goG (dTw S T) (l,r) x.1) x.2/\x.1.length<=100/\x.2.length<=6000/\∀y:Tl,Ltr c y.1->WP S T rk rk' ws c (goG (dTw S T) (l,r) y.1) y.2->¬ klt y x
def aOs{w:D}(M:Mch S rk c)(M':Mch T rk' c)(s7:S.length<=7)(hl:l<S.length)(hr:r<T.length)(hw:Wd w ws):∃d,fO [mD S rk c,mD T rk' c,w,.int l,.int r]=.ok d/\Told S T rk rk' ws c l r d:=by
 obtain⟨sq,fr,es,sd⟩:=aTo M M' s7 hl hr;have P:=aZ6 M M' sd;have ul:(uS S T c sq).length=sq.length:=by unfold uS;rw[bG6]
 have h64:=sd.len;obtain⟨out,ep,ol,om⟩:=aQo (pr:=.lst (sq.map qD)) (fr:=.lst (sq.map λp=>D.str (fr p))) P hw
 obtain⟨d,ej,dl,dm⟩:=aQp (l:=out) (k:=(uS S T c sq).length) (λm hm=>by
  obtain⟨z,_,_,_,h⟩:=(om m).mp hm;exact(aIk P (aOl P) h.1).1) (by rw[ul];exact h64)
 have wrP:∀i∈bO d,i<sq.length/\∃t,WR (uS S T c sq) (laS rk sq) (lbS rk' sq) ws c i t:=λi hi=>by
  have h1:=eU dl hi;rw[ul]at h1;obtain⟨m,hm,him⟩:=(dm i).mp hi;obtain⟨z,z1,z2,hz,h⟩:=(om m).mp hm;exact⟨h1,aMl P hz h him⟩
 have hlen:(bO d).length<=64:=by
  have:=jV (uS S T c sq).length _ (jE d) λx hx=>eU dl hx
  rw[ul]at this;omega
 let st:PSt:=[some (.v (mD S rk c)),some (.v (mD T rk' c)),some (.v w),some (.v (.int l)),some (.v (.int r)),some (.v (sdD S T rk rk' c sq fr)),some (.v (.lst (nats (bO d)))),none,none]
 obtain⟨xs,ex,x1,x2⟩:=aKj (E:=wO) (st:=st) (j:=8) (R':=λi x=>x.1=fr (qA sq i)/\WR (uS S T c sq) (laS rk sq) (lbS rk' sq) ws c i x.2/\x.2.length<=6000/\∀u,WR (uS S T c sq) (laS rk sq) (lbS rk' sq) ws c i u->sle x.2 u) (bO d) λi hi=>by
  obtain⟨h1,t0,ht0⟩:=wrP i hi;rcases aTz (pr:=.lst (sq.map qD)) (fr:=.lst (sq.map λp=>D.str (fr p))) (s:=i) P hw (by rw[ul];exact h1) with ⟨t,e,a,b,b'⟩|no
  .refine⟨(fr (qA sq i),t),pB (aP (aH (x:=.lst (sq.map λp=>D.str (fr p))) (bB3 (pr:=.lst (sq.map qD))) rfl (fY ?_)) (aP (aR rfl e) rfl)),rfl,a,b,b'⟩
   rw[atI_nat (by rw[bG6];exact h1),bK9,yK h1]
  .exact absurd ht0 (no t0)
 have xl:∀x∈xs,x.1.length<=100000/\x.2.length<=100000:=λx hx=>by
  obtain⟨i,hi,h1,_,h3,_⟩:=x1 x hx;have:=(sd.lead (qA sq i) (by rw[yK (wrP i hi).1];exact bGq _)).2.2
  rw[h1];omega
 have run:∀{v:D},aJw bY (.lst (xs.map itD))=.ok v->fO [mD S rk c,mD T rk' c,w,.int l,.int r]=.ok v:=λ{v} hv=>by
  refine cL rfl (aJ (bG (aR rfl es)) (aJ (st':=st) (bG (aR (aP (aR (aP (aR rfl ep) rfl) ej) rfl) (uJ dl (by rw[ul];omega)))) (aJ (bG (nR (xs:=nats (bO d)) (oN rfl) (by rw[bH];omega) ex)) (dX ?_))))
  rw[zZ];show R.bind (R.ok (D.lst (xs.map itD))) _=_;rw[aK,hv]
 have find:∀f t,Ltr c f->WP S T rk rk' ws c (goG (dTw S T) (l,r) f) t->∃x∈xs,sle x.1 f/\sle x.2 t:=λf t hf ht=>by
  obtain⟨hm,hs⟩:=sd.least f hf;obtain⟨i,hi,e⟩:=bJf.mp hm;have hq:qA sq i=goG (dTw S T) (l,r) f:=by rw[yK hi,e]
  have hwr:WR (uS S T c sq) (laS rk sq) (lbS rk' sq) ws c i t:=(aZ7 M M' sd hi).mpr (by rw[hq];exact ht)
  obtain⟨z,m,z1,z2,hz,hp,him⟩:=aMn P (by rw[ul];exact hi) hwr
  have hid:i∈bO d:=(dm i).mpr ⟨m,(om m).mpr ⟨z,z1,z2,hz,hp⟩,him⟩;obtain⟨x,hx,h1,h2,h3,h4⟩:=x2 i hid;exact⟨x,hx,by rw[h1,hq];exact hs,h4 t hwr⟩
 rcases bB5 xl with ⟨e0,em⟩|⟨x,hx,em,hm⟩
 .refine⟨.non,run em,.inl ⟨rfl,λf t hf ht=>?_⟩⟩
  obtain⟨x,hx,_⟩:=find f t hf ht;rw[e0]at hx
  nomatch hx
 .obtain⟨i,hi,h1,h2,h3,h4⟩:=x1 x hx;have hil:=(wrP i hi).1;obtain⟨l1,l2,l3⟩:=sd.lead (qA sq i) (by rw[yK hil];exact bGq _)
  refine⟨itD x,run em,.inr ⟨x,rfl,by rw[h1];exact l2,?_,by rw[h1];omega,h3,λy hy1 hy2 hk=>?_⟩⟩
  .rw[h1,l1];exact(aZ7 M M' sd hil).mp h2
  .obtain⟨v,hv,v1,v2⟩:=find y.1 y.2 hy1 hy2;rcases bB4 (x:=v) (y:=y) v1 v2 with e|e
   .subst e;exact hm v hv hk
   .exact hm v hv (aMp e hk)
end
def pD2(S:List (List Nat))(rk:List Nat):D:=.lst [.lst (stD S),.lst (nats rk)]
section
variable{S T:List (List Nat)}{rk rk':List Nat}{ws:List Bool}{c l r:Nat}
def aOt{f:Nat×Nat->Nat}{p:Nat×Nat}{ch:Nat}{t:List Nat}{h:Nat}:hbM f (bef S T p (ch::t)) h=hbM f (bef S T (dTw S T p (ch-97)) t) (max h (f p)):=rfl
theorem aF3(M:Mch S rk c)(M':Mch T rk' c)(x2:Option Sl):∀(t:List Nat)(p:Nat×Nat)(h lo:Nat)(x7:Option Sl),InR S.length T.length p->Ltr c t->∃x7',forR (tgN 7) xX (t.map λch=>D.str [ch]) [some (.v (pD2 S rk)),some (.v (pD2 T rk')),x2,some (.v (.int p.1)),some (.v (.int p.2)),some (.v (.int h)),some (.v (.int lo)),x7] =
  .ok (.nx [some (.v (pD2 S rk)),some (.v (pD2 T rk')),x2,some (.v (.int (goG (dTw S T) p t).1)),some (.v (.int (goG (dTw S T) p t).2)),some (.v (.int (hbM (λx=>rk.getD x.1 0) (bef S T p t) h:Nat))),some (.v (.int (hbM (λx=>rk'.getD x.2 0) (bef S T p t) lo:Nat))),x7'])/\InR S.length T.length (goG (dTw S T) p t)
 |[],p,h,lo,x7,hp,_=>⟨x7,rfl,hp⟩
 |ch::t,p,h,lo,x7,hp,hl=>by
  have h1:=hl ch bFx;have c3:=M.c3;have hk:ch-97<c:=by omega
  obtain⟨y7,e,hi⟩:=aF3 M M' x2 t (dTw S T p (ch-97)) (max h (rk.getD p.1 0)) (max lo (rk'.getD p.2 0)) (some (.v (.str [ch]))) (aTh M M' p _ hp hk) λx hx=>hl x (bFw _ hx)
  refine⟨y7,?_,hi⟩;rw[bGf,aOt,aOt];refine fX (s1:=[some (.v (pD2 S rk)),some (.v (pD2 T rk')),x2,some (.v (.int p.1)),some (.v (.int p.2)),some (.v (.int h)),some (.v (.int lo)),some (.v (.str [ch]))]) rfl ?_ e;obtain⟨r1,q1,q2,_⟩:=yH M.w hp.1 hk;obtain⟨r2,q3,q4,_⟩:=yH M'.w hp.2 hk;have mxd:∀(a g:Nat),R.ok (D.int (if ((g:Nat):Int)>((a:Nat):Int) then ((g:Nat):Int) else ((a:Nat):Int)))=R.ok (D.int ((max a g:Nat):Int)):=λa g=>by
   congr 2;split<;>omega
  have ix:∀{st:PSt},st[7]?=some (some (.v (.str [ch])))->eMt aAi (eC (.str [97,98,99])) (aC (aA 7) aU) st=.ok (.int ((ch-97:Nat):Int)):=λ{st} h7=>by
   have:aC (aA 7) aU st=.ok [.str [ch]]:=aP (by rw[zN,h7]) rfl
   show (eC (.str [97,98,99]) st).bind (λx=>(aC (aA 7) aU st).bind λxs=>aAi x xs)=_
   rw[this];show (ofO (rK [97,98,99] [ch] 0)).bind _=_;rw[aT3 c3 h1.1 h1.2];rfl
  refine aJ (bG (aH (x:=.int h) (y:=.int (rk.getD p.1 0:Nat)) rfl (aH (x:=.lst (nats rk)) (y:=.int p.1) rfl rfl (fY (yJ (by rw[M.rks];exact hp.1)))) (mxd _ _))) ?_
  refine aJ (bG (aH (x:=.int lo) (y:=.int (rk'.getD p.2 0:Nat)) rfl (aH (x:=.lst (nats rk')) (y:=.int p.2) rfl rfl (fY (yJ (by rw[M'.rks];exact hp.2)))) (mxd _ _))) ?_
  refine aJ (bG (aH (aH (x:=.lst (stD S)) (y:=.int p.1) rfl rfl (fY q1)) (ix rfl) (fY q2))) ?_
  exact bG (aH (aH (x:=.lst (stD T)) (y:=.int p.2) rfl rfl (fY q3)) (ix rfl) (fY q4))
def aH8(M:Mch S rk c)(M':Mch T rk' c){t:List Nat}{p:Nat×Nat}(hp:InR S.length T.length p)(hl:Ltr c t)(hn:t.length<=100000):lQ [pD2 S rk,pD2 T rk',.str t,.int p.1,.int p.2]=.ok (.lst [.int (goG (dTw S T) p t).1,.int (goG (dTw S T) p t).2,.int (2*((hbM (λx=>rk.getD x.1 0) (bef S T p t) 0:Nat)%2:Int)+(hbM (λx=>rk'.getD x.2 0) (bef S T p t) 0:Nat)%2)])/\InR S.length T.length (goG (dTw S T) p t):=by
 obtain⟨x7,e,hi⟩:=aF3 M M' (some (.v (.str t))) t p 0 0 none hp hl;refine⟨cL rfl (aJ (bG rfl) (aJ (bG rfl) (aJ (dY (xs:=t.map λch=>D.str [ch]) (aF (fC (by omega))) e) (dX (gY (aP rfl (aP rfl (aP (aH (aH rfl (aH rfl rfl (kO (by decide))) (aF (by omega))) (aH rfl rfl (kO (by decide))) rfl) rfl)))))))),hi⟩
def wB(S T:List (List Nat))(rk rk':List Nat)(ws:List Bool)(p:Nat×Nat)(t:List Nat):Bool:=decide (goG (dTw S T) p t=p)&&wI ws (hbM (λx=>rk.getD x.1 0) (bef S T p t) 0:Nat) (hbM (λx=>rk'.getD x.2 0) (bef S T p t) 0:Nat)
def bDv{p:Nat×Nat}{t:List Nat}(ne:t≠[])(hl:Ltr c t):wB S T rk rk' ws p t=true↔WP S T rk rk' ws c p t:=by
 unfold wB;rw[bLf,bGl];exact⟨λh=>⟨ne,hl,h.1,h.2⟩,λh=>⟨h.cl,h.wt⟩⟩
def aU1(M:Mch S rk c)(M':Mch T rk' c)(hl:l<S.length)(hr:r<T.length)(h4:ws.length=4){x:Tl}(h1:Ltr c x.1)(h2:Ltr c x.2)(n1:x.1.length<=100000)(n2:x.2.length<=100000):dH [pD2 S rk,pD2 T rk',.tup (ws.map D.bl),itD x,.int l,.int r]=.ok (.bl (wB S T rk rk' ws (goG (dTw S T) (l,r) x.1) x.2)):=by
 obtain⟨e1',i1⟩:=aH8 M M' (p:=(l,r)) ⟨hl,hr⟩ h1 n1;obtain⟨e2',i2⟩:=aH8 M M' i1 h2 n2;generalize goG (dTw S T) (l,r) x.1=p at *;have eb:∀a b:Nat,((a:Int)==(b:Int))=decide (a=b):=λa b=>by
  by_cases h:a=b
  .simp[h]
  .rw[bG3 h,bGs];omega
 refine cL rfl (aJ (aIe rfl rfl) (aJ (aIe (aR rfl e1') rfl) (aJ (aIe (aR rfl e2') rfl) (dX ?_))));refine vJ (aH (pB rfl) (pB rfl) ((aF ⟨by simp[dep,fZ],by simp,by simp⟩).trans ?_)) λ_=>aH rfl rfl ?_
 .simp only[eqD,lJ,eb,Bool.and_true];rw[<-decide_and];congr 2;exact decide_eq_decide.mpr ⟨λh=>bMi h.1 h.2,λh=>by rw[h];exact⟨rfl,rfl⟩⟩
 .generalize hbM (λx=>rk.getD x.1 0) (bef S T p x.2) 0=a
  generalize hbM (λx=>rk'.getD x.2 0) (bef S T p x.2) 0=b
  obtain⟨n,hn⟩:∃n:Nat,2*((a:Int)%2)+(b:Int)%2=n:=⟨(2*((a:Int)%2)+(b:Int)%2).toNat,by omega⟩
  have hlt:n<ws.length:=by omega
  show ofO (atI (ws.map D.bl) _)=_;unfold wI;rw[hn,atI_nat (by rw[bG6];exact hlt),show ((a:Int)%2*2+(b:Int)%2).toNat=n by omega]
  simp[hlt,ofO]
def tx(c:Nat):Nat->List (List Nat)
 |0=>[[]]
 |k+1=>(tx c k).flatMap λw=>(List.range c).map λj=>w++[97+j]
theorem dF:∀{k:Nat}{w:List Nat},w∈tx c k↔w.length=k/\Ltr c w
 |0,w=>by
  constructor
  .intro h;rw[bFz.mp h];exact⟨rfl,λ_ h=>nomatch h⟩
  .rintro⟨h,_⟩;rw[bHh.mp h];exact bFz.mpr rfl
 |k+1,w=>by
  show w∈List.flatMap _ _↔_;rw[List.mem_flatMap];constructor
  .rintro⟨u,hu,h⟩;obtain⟨j,hj,rfl⟩:=bGc.mp h;obtain⟨h1,h2⟩:=dF.mp hu;refine⟨by simp[h1],λz hz=>?_⟩
   rcases bGm.mp hz with hz|hz
   .exact h2 z hz
   .have:=bGr.mp hj;rw[bFz.mp hz];constructor<;>omega
  .rintro⟨h1,h2⟩;obtain⟨u,k',rfl,hk,hu⟩:=aE5 (λz=>by rw[z]at h1;cases h1) h2
   exact⟨u,dF.mpr ⟨by simpa using h1,hu⟩,List.mem_map.mpr ⟨k',List.mem_range.mpr hk,rfl⟩⟩
theorem aCt:∀k:Nat,(tx c k).Pairwise (· < ·)
 |0=>by simp[tx]
 |k+1=>by
  show (List.flatMap _ _).Pairwise _;refine List.pairwise_flatMap.mpr ⟨λw _=>?_,(aCt k).imp_of_mem λ{a b} ha hbM h x hx y hy=>?_⟩
  .rw[bLz];exact bIa.imp λh=>aI8 w (by omega)
  .obtain⟨i,_,rfl⟩:=bGc.mp hx;obtain⟨j,_,rfl⟩:=bGc.mp hy;exact aMc _ _ ((dF.mp ha).1.trans (dF.mp hbM).1.symm) h
theorem aU2(h:c<=3):∀k:Nat,(tx c k).length<=3^k
 |0=>by simp[tx]
 |k+1=>by
  have ih:=aU2 h k;show (List.flatMap _ _).length<=_;rw[List.length_flatMap];have:∀ls:List (List Nat),(ls.map λw=>((List.range c).map λj=>w++[97+j]).length).sum=ls.length*c:=λls=>by
   induction ls with
   |nil=>simp
   |cons a ls ih=>rw[bGf,List.sum_cons,ih,bGn,Nat.succ_mul];simp;omega
  rw[this,Nat.pow_succ];exact Nat.mul_le_mul ih h
theorem aU3(c3:c<=3){x0 x2 x3:Option Sl}:∀(us acc:List (List Nat)) (x5:Option Sl),acc.length+3*us.length<=1000000->(∀u∈us,u.length<=100)->∃x5',forR (tgN 5) xV (us.map D.str) [x0,some (.v (.int c)),x2,x3,some (.o .l (acc.map D.str)),x5,none]=.ok (.nx [x0,some (.v (.int c)),x2,x3,some (.o .l ((acc++us.flatMap λw=>(List.range c).map λj=>w++[97+j]).map D.str)),x5',none])
 |[],acc,x5,_,_=>⟨x5,by simp[forR]⟩
 |u::us,acc,x5,hn,hu=>by
  rw[bGn]at hn;obtain⟨y5,e⟩:=aU3 c3 (x0:=x0) (x2:=x2) (x3:=x3) us (acc++(List.range c).map λj=>u++[97+j]) (some (.v (.str u))) (by rw[bGg,bG6,bIc];omega) λx hx=>hu x (bFw _ hx)
  refine⟨y5,?_⟩;rw[bGf];rw[bIq]at e;rw[bL5];refine fX (s1:=[x0,some (.v (.int c)),x2,x3,some (.o .l (acc.map D.str)),some (.v (.str u)),none]) rfl ?_ e;have hul:=hu u bFx;have hc:=vL (E:=qP) (st:=[x0,some (.v (.int c)),x2,x3,some (.o .l (acc.map D.str)),some (.v (.str u)),none]) (j:=6) (it:=iZ (aA 1)) (l:=List.range c) (λ(k:Nat)=>D.int (k:Int)) (λk=>D.str (u++[97+k])) (aBi rfl (by omega)) (by rw[bIc];omega) λk hk=>by
   have:=bGr.mp hk;refine aH (x:=.str u) (y:=.str [97+k]) rfl (aH rfl rfl ?_) (aF (fC (by show u.length+1<=_;omega)))
   have:k=0\/k=1\/k=2:=by omega
   rcases this with rfl|rfl|rfl<;>exact aF (fC (by decide))
  have hx:=aMb (i:=4) (f:=bI [6] (tgN 6) (iZ (aA 1)) bL qP) (xs:=acc.map D.str) (ys:=(List.range c).map λk=>D.str (u++[97+k])) hc rfl (fC (by rw[bG6,bG6,bIc];omega))
  rw[bGw (l₁:=acc),bH8];exact hx
theorem aOu(c3:c<=3){x0:Option Sl}:∀(m k:Nat)(x3 x4 x5:Option Sl),k+m<=10->∃x3' x4' x5',forR (tgN 3) xW ((List.range' k m).map λ(k:Nat)=>D.int (k:Int)) [x0,some (.v (.int c)),some (.v (.lst ((tx c k).map D.str))),x3,x4,x5,none]=.ok (.nx [x0,some (.v (.int c)),some (.v (.lst ((tx c (k+m)).map D.str))),x3',x4',x5',none])
 |0,k,x3,x4,x5,_=>⟨x3,x4,x5,rfl⟩
 |m+1,k,x3,x4,x5,hk=>by
  have hl:(tx c k).length<=59049:=bGy (aU2 c3 k) (bGy (bKd (by decide) (show k<=10 by omega)) (by decide))
  obtain⟨y5,e⟩:=aU3 c3 (x0:=x0) (x2:=some (.v (.lst ((tx c k).map D.str)))) (x3:=some (.v (.int k))) (tx c k) [] x5 (by simp;omega) λu hu=>by rw[(dF.mp hu).1];omega
  obtain⟨z3,z4,z5,e2'⟩:=aOu c3 (x0:=x0) m (k+1) (some (.v (.int k))) (some (.v (.lst ((tx c (k+1)).map D.str)))) y5 (by omega)
  refine⟨z3,z4,z5,?_⟩;rw[bJh,bGf,show k+(m+1)=k+1+m by omega]
  refine fX (s1:=[x0,some (.v (.int c)),some (.v (.lst ((tx c k).map D.str))),some (.v (.int k)),x4,x5,none]) rfl ?_ e2';exact aJ (pQ (gY rfl)) (aJ (dY (oN rfl) e) rfl)
def aU4(c3:c<=3){k:Nat}(hk:k<=10):pP [.int k,.int c]=.ok (.lst ((tx c k).map D.str)):=by
 obtain⟨x3,x4,x5,e⟩:=aOu c3 (x0:=some (.v (.int k))) k 0 none none none (by omega)
 rw[bMn]at e;exact cL rfl (aJ (bG (gY rfl)) (aJ (dY (aBi rfl (by omega)) (by rw[bKf];exact e)) (dX rfl)))
end
theorem yL{tg:Tg}{L:Bd}{α:Type}{F:α->D}{Sh:PSt->Prop}:∀(xs:List α),(∀x∈xs,∀st,Sh st->∃s1 s2,tg (F x) st=.ok s1/\L s1=.ok (.nx s2)/\Sh s2)->∀st,Sh st->∃s2,forR tg L (xs.map F) st=.ok (.nx s2)/\Sh s2
 |[],_,st,h=>⟨st,rfl,h⟩
 |x::xs,h,st,hs=>by
  obtain⟨s1,s2,e1,e2,h2⟩:=h x bFx st hs;obtain⟨s3,e3,h3⟩:=yL xs (λx hx=>h x (bFw _ hx)) s2 h2
  exact⟨s3,fX e1 e2 e3,h3⟩
def aE9{tg:Tg} {F:α->D} {R':α->α->Prop} {xs:List α} {x:α} {v:D} (so:xs.Pairwise R') (hx:x∈xs) (h:∀y∈xs,R' y x->∀st,Sh st->∃s1 s2,tg (F y) st=.ok s1/\L s1=.ok (.nx s2)/\Sh s2) (hv:∀st,Sh st->∃s1,tg (F x) st=.ok s1/\L s1=.ok (.rt v)):∀st,Sh st->forR tg L (xs.map F) st=.ok (.rt v):=by
 induction xs with
 |nil=>nomatch hx
 |cons y xs ih=>
  intro st hs;rw[List.pairwise_cons]at so;rw[bGf];rcases bG0.mp hx with rfl|hx
  .obtain⟨s1,e1,e2⟩:=hv st hs;exact aTu e1 e2
  .obtain⟨s1,s2,e1,e2,h2⟩:=h y bFx (so.1 x hx) st hs;exact fX e1 e2 (ih so.2 hx (λy hy=>h y (bFw _ hy)) s2 h2)
section
variable{S T:List (List Nat)}{rk rk':List Nat}{ws:List Bool}{c l r m:Nat}
def nA(S T:List (List Nat))(rk rk':List Nat)(ws:List Bool)(c l r m:Nat)(x8 x9 x10 x11:Option Sl):PSt:=
 [some (.v (pD2 S rk)),some (.v (pD2 T rk')),some (.v (.tup (ws.map D.bl))),some (.v (.int l)),some (.v (.int r)),some (.v (.int m)),some (.v (.int c)),some (.v (.lst ((List.range (m+1)).map λk=>D.lst ((tx c k).map D.str)))),x8,x9,x10,x11]
def aCu(S T:List (List Nat))(rk rk':List Nat)(ws:List Bool)(l r:Nat)(x:Tl):Bool:=wB S T rk rk' ws (goG (dTw S T) (l,r) x.1) x.2
def aZ8{m k:Nat}(h:k<m+1):atI ((List.range (m+1)).map λk=>D.lst ((tx c k).map D.str)) (k:Int)=some (.lst ((tx c k).map D.str)):=by
 rw[atI_nat (by simpa using h)]
 simp
def aAr(M:Mch S rk c)(M':Mch T rk' c)(hl:l<S.length)(hr:r<T.length)(h4:ws.length=4){x:Tl}(h1:Ltr c x.1)(h2:Ltr c x.2)(n1:x.1.length<=10)(n2:x.2.length<=10)(x8 x9:Option Sl) :
  (aCu S T rk rk' ws l r x=false->lU (nA S T rk rk' ws c l r m x8 x9 (some (.v (.str x.1))) (some (.v (.str x.2))))=.ok (.nx (nA S T rk rk' ws c l r m x8 x9 (some (.v (.str x.1))) (some (.v (.str x.2))))))/\
  (aCu S T rk rk' ws l r x=true->lU (nA S T rk rk' ws c l r m x8 x9 (some (.v (.str x.1))) (some (.v (.str x.2))))=.ok (.rt (itD x))):=by
 have test:aW dH (aC (aA 0) (aC (aA 1) (aC (aA 2) (aC (rH (aC (aA 10) (aC (aA 11) aU))) (aC (aA 3) (aC (aA 4) aU)))))) (nA S T rk rk' ws c l r m x8 x9 (some (.v (.str x.1))) (some (.v (.str x.2))))=.ok (.bl (aCu S T rk rk' ws l r x)):=
  aR (aP rfl (aP rfl (aP rfl (aP (pB rfl) (aP rfl (aP rfl rfl)))))) (aU1 M M' hl hr h4 h1 h2 (by omega) (by omega))
 exact⟨λh=>oM (gJ test h) rfl,λh=>yG (gJ test h) (dX (pB rfl))⟩
def aMq(M:Mch S rk c)(M':Mch T rk' c)(hl:l<S.length)(hr:r<T.length)(h4:ws.length=4)(hm:m<=10) :
  ((∀x:Tl,Ltr c x.1->Ltr c x.2->x.2≠[]->x.1.length+x.2.length<=m->aCu S T rk rk' ws l r x=false)->fM [pD2 S rk,pD2 T rk',.tup (ws.map D.bl),.int l,.int r,.int m]=.ok .non)/\
  ∀x:Tl,Ltr c x.1->Ltr c x.2->x.2≠[]->x.1.length+x.2.length<=m->aCu S T rk rk' ws l r x=true->(∀y:Tl,Ltr c y.1->Ltr c y.2->y.2≠[]->klt y x->aCu S T rk rk' ws l r y=false)->fM [pD2 S rk,pD2 T rk',.tup (ws.map D.bl),.int l,.int r,.int m]=.ok (itD x):=by
 have c3:=M.c3;obtain⟨r0,hr0,er0,lr0⟩:=M.at0;have rows:bI [9] (tgN 9) (iZ (e2 cY (aA 5) (eC (.int 1)))) bL xY [some (.v (pD2 S rk)),some (.v (pD2 T rk')),some (.v (.tup (ws.map D.bl))),some (.v (.int l)),some (.v (.int r)),some (.v (.int m)),some (.v (.int c)),none,none,none,none,none]=.ok (.lst ((List.range (m+1)).map λk=>D.lst ((tx c k).map D.str))):=
  vL (λ(k:Nat)=>D.int (k:Int)) _ (aBi (n:=m+1) rfl (by omega)) (by rw[bIc];omega) λk hk=>aR rfl (aU4 c3 (by have:=bGr.mp hk;omega))
 have run:∀{d:D},(∀st,(∃a b d e,st=nA S T rk rk' ws c l r m a b d e)->forR (tgN 8) lV ((List.range m).map λ(k:Nat)=>D.int (1+(k:Int))) st=.ok (.rt d)\/((∃s2,forR (tgN 8) lV ((List.range m).map λ(k:Nat)=>D.int (1+(k:Int))) st=.ok (.nx s2)/\∃a b d e,s2=nA S T rk rk' ws c l r m a b d e)/\d=.non))->fM [pD2 S rk,pD2 T rk',.tup (ws.map D.bl),.int l,.int r,.int m]=.ok d:=λ{d} h=>by
  refine cL rfl (aJ (st':=[some (.v (pD2 S rk)),some (.v (pD2 T rk')),some (.v (.tup (ws.map D.bl))),some (.v (.int l)),some (.v (.int r)),some (.v (.int m)),some (.v (.int c)),none,none,none,none,none]) (bG ?_) (aJ (st':=nA S T rk rk' ws c l r m none none none none) (bG rows) ?_))
  .rw[zZ,aH (x:=.lst (stD S)) (y:=.int 0) (aH rfl rfl rfl) rfl (fY er0),aK];show R.ok (D.int ((nats r0).length:Nat))=_;rw[bH,lr0]
  .have it:bAm (eC (.int 1)) (e2 cY (aA 5) (eC (.int 1))) (nA S T rk rk' ws c l r m none none none none)=.ok ((List.range m).map λ(k:Nat)=>D.int (1+(k:Int))):=by
    show aV _ (.ok (qF 1 (((m:Int)+1)-1).toNat))=_;rw[aF ⟨aI1 (by omega),aE0 (by omega),aI1 (by omega),aE0 (by omega)⟩,show (((m:Int)+1)-1).toNat=m by omega]
    rfl
   rcases h _ ⟨none,none,none,none,rfl⟩ with h5|⟨⟨s2,h5,a,b,d',e,hs2⟩,hd⟩
   .exact qQ (dY it h5)
   .subst hs2 hd;exact aJ (dY it h5) rfl
 have turn:∀(n k:Nat)(f:List Nat){z:Tl->Prop},n<m->k<=n->f∈tx c k->(∀t∈tx c (n+1-k),aCu S T rk rk' ws l r (f,t)=false)->∀e,∃s2,forR (tgN 11) lU ((tx c (n+1-k)).map D.str) (nA S T rk rk' ws c l r m (some (.v (.int (1+(n:Int))))) (some (.v (.int k))) (some (.v (.str f))) e)=.ok (.nx s2)/\∃e',s2=nA S T rk rk' ws c l r m (some (.v (.int (1+(n:Int))))) (some (.v (.int k))) (some (.v (.str f))) e':=λn k f _ hn hk hf no e=>
  yL (F:=D.str) (Sh:=λst=>∃e',st=nA S T rk rk' ws c l r m (some (.v (.int (1+(n:Int))))) (some (.v (.int k))) (some (.v (.str f))) e') _ (λt ht st ⟨e',hs⟩=>by
   subst hs;obtain⟨f1,f2⟩:=dF.mp hf;obtain⟨t1,t2⟩:=dF.mp ht;exact⟨_,_,rfl,(aAr M M' hl hr h4 (x:=(f,t)) f2 t2 (by show f.length<=10;omega) (by show t.length<=10;omega) _ _).1 (no t ht),_,rfl⟩) _ ⟨e,rfl⟩
 have it3:∀(n k:Nat)(a11:Option Sl)(f:List Nat),n<m->k<=n->itE (e2 dIx (aA 7) (e2 aM5 (aA 8) (aA 9))) (nA S T rk rk' ws c l r m (some (.v (.int (1+(n:Int))))) (some (.v (.int k))) (some (.v (.str f))) a11)=.ok ((tx c (n+1-k)).map D.str):=λn k a11 f hn hk=>oN (aH (y:=.int ((n+1-k:Nat):Int)) rfl (aH rfl rfl (by show R.ok (D.int (1+(n:Int)-(k:Int)))=_;congr 2;omega)) (fY (aZ8 (by omega))))
 have it4:∀(n k:Nat)(a10 a11:Option Sl),n<m->k<=n->itE (e2 dIx (aA 7) (aA 9)) (nA S T rk rk' ws c l r m (some (.v (.int (1+(n:Int))))) (some (.v (.int k))) a10 a11)=.ok ((tx c k).map D.str):=λn k a10 a11 hn hk=>oN (aH rfl rfl (fY (aZ8 (by omega))))
 have it5:∀(n:Nat)(a9 a10 a11:Option Sl),n<m->iZ (aA 8) (nA S T rk rk' ws c l r m (some (.v (.int (1+(n:Int))))) a9 a10 a11)=.ok ((List.range (n+1)).map λ(k:Nat)=>D.int (k:Int)):=λn a9 a10 a11 hn=>aBi (n:=n+1) (by show R.ok (D.int (1+(n:Int)))=_;congr 2;omega) (by omega)
 have front:∀(n k:Nat)(fs:List Nat),n<m->k<=n->fs∈tx c k->(∀t∈tx c (n+1-k),aCu S T rk rk' ws l r (fs,t)=false)->∀st,(∃d e,st=nA S T rk rk' ws c l r m (some (.v (.int (1+(n:Int))))) (some (.v (.int k))) d e)->∃s1 s2,tgN 10 (.str fs) st=.ok s1/\xZ s1=.ok (.nx s2)/\∃d e,s2=nA S T rk rk' ws c l r m (some (.v (.int (1+(n:Int))))) (some (.v (.int k))) d e:=λn k f hn hk hf no st ⟨d,e,hs⟩=>by
  subst hs;obtain⟨s2,e2',e',hs2⟩:=turn n k f (z:=λ_=>True) hn hk hf no e
  exact⟨_,s2,rfl,dY (it3 n k e f hn hk) e2',_,_,hs2⟩
 have size:∀(n k:Nat),n<m->k<=n->(∀f∈tx c k,∀t∈tx c (n+1-k),aCu S T rk rk' ws l r (f,t)=false)->∀st,(∃b d e,st=nA S T rk rk' ws c l r m (some (.v (.int (1+(n:Int))))) b d e)->∃s1 s2,tgN 9 (.int (k:Int)) st=.ok s1/\yC s1=.ok (.nx s2)/\∃b d e,s2=nA S T rk rk' ws c l r m (some (.v (.int (1+(n:Int))))) b d e:=λn k hn hk no st ⟨b,d,e,hs⟩=>by
  subst hs;obtain⟨s2,e2',d',e',hs2⟩:=yL (F:=D.str) (Sh:=λst=>∃d e,st=nA S T rk rk' ws c l r m (some (.v (.int (1+(n:Int))))) (some (.v (.int k))) d e) (tx c k) (λf hf=>front n k f hn hk hf (no f hf)) _ ⟨d,e,rfl⟩
  exact⟨_,s2,rfl,dY (it4 n k d e hn hk) e2',_,_,_,hs2⟩
 have total:∀(n:Nat),n<m->(∀k,k<=n->∀f∈tx c k,∀t∈tx c (n+1-k),aCu S T rk rk' ws l r (f,t)=false)->∀st,(∃a b d e,st=nA S T rk rk' ws c l r m a b d e)->∃s1 s2,tgN 8 (.int (1+(n:Int))) st=.ok s1/\lV s1=.ok (.nx s2)/\∃a b d e,s2=nA S T rk rk' ws c l r m a b d e:=λn hn no st ⟨a,b,d,e,hs⟩=>by
  subst hs;obtain⟨s2,e2',b',d',e',hs2⟩:=yL (F:=λ(k:Nat)=>D.int (k:Int)) (Sh:=λst=>∃b d e,st=nA S T rk rk' ws c l r m (some (.v (.int (1+(n:Int))))) b d e) (List.range (n+1)) (λk hk=>size n k hn (by have:=bGr.mp hk;omega) (no k (by have:=bGr.mp hk;omega))) _ ⟨b,d,e,rfl⟩
  exact⟨_,s2,rfl,dY (it5 n b d e hn) e2',_,_,_,_,hs2⟩
 have nonil:∀{n k:Nat}{t:List Nat},k<=n->t∈tx c (n+1-k)->t≠[]:=λhk ht z=>by
  have:=(dF.mp ht).1;rw[z]at this;simp at this;omega
 constructor
 .intro no;refine run λst hs=>.inr ⟨yL (F:=λ(k:Nat)=>D.int (1+(k:Int))) (Sh:=λst=>∃a b d e,st=nA S T rk rk' ws c l r m a b d e) (List.range m) (λn hn=>total n (bGr.mp hn) λk hk f hf t ht=>no (f,t) (dF.mp hf).2 (dF.mp ht).2 (nonil hk ht) ?_) st hs,rfl⟩
  have:=(dF.mp hf).1;have:=(dF.mp ht).1;have:=bGr.mp hn;show f.length+t.length<=m;omega
 .intro x h1 h2 ne hle hit low;have hpos:0<x.2.length:=List.length_pos_iff.mpr ne;obtain⟨n,hn⟩:∃n,x.1.length+x.2.length=n+1:=⟨x.1.length+x.2.length-1,by omega⟩
  have hx1:x.1∈tx c x.1.length:=dF.mpr ⟨rfl,h1⟩;have hx2:x.2∈tx c (n+1-x.1.length):=dF.mpr ⟨by omega,h2⟩
  refine run λst hs=>.inl ?_
  refine aE9 (F:=λ(k:Nat)=>D.int (1+(k:Int))) (Sh:=λst=>∃a b d e,st=nA S T rk rk' ws c l r m a b d e) bIa (bGr.mpr (show n<m by omega)) (λi hi hin=>total i (bGr.mp hi) λk hk f hf t ht=>low (f,t) (dF.mp hf).2 (dF.mp ht).2 (nonil hk ht) (.inl ?_)) (λst ⟨a,b,d,e,hs⟩=>?_) st hs
  .have:=(dF.mp hf).1;have:=(dF.mp ht).1;show f.length+t.length<x.1.length+x.2.length;omega
  subst hs;refine⟨_,rfl,dY (it5 n b d e (by omega)) (aE9 (F:=λ(k:Nat)=>D.int (k:Int)) (Sh:=λst=>∃b d e,st=nA S T rk rk' ws c l r m (some (.v (.int (1+(n:Int))))) b d e) bIa (bGr.mpr (show x.1.length<n+1 by omega)) (λk hk hkx=>size n k (by omega) (by omega) λf hf t ht=>low (f,t) (dF.mp hf).2 (dF.mp ht).2 (nonil (by omega) ht) (.inr ⟨?_,.inl ?_⟩)) (λst ⟨b,d,e,hs⟩=>?_) _ ⟨b,d,e,rfl⟩)⟩
  .have:=(dF.mp hf).1;have:=(dF.mp ht).1;show f.length+t.length=x.1.length+x.2.length;omega
  .rw[(dF.mp hf).1];exact hkx
  subst hs;refine⟨_,rfl,dY (it4 n x.1.length d e (by omega) (by omega)) (aE9 (F:=D.str) (Sh:=λst=>∃d e,st=nA S T rk rk' ws c l r m (some (.v (.int (1+(n:Int))))) (some (.v (.int x.1.length))) d e) (aCt _) hx1 (λf hf hfx=>front n x.1.length f (by omega) (by omega) hf λt ht=>low (f,t) (dF.mp hf).2 (dF.mp ht).2 (nonil (by omega) ht) (.inr ⟨?_,.inr ⟨(dF.mp hf).1,.inl hfx⟩⟩)) (λst ⟨d,e,hs⟩=>?_) _ ⟨d,e,rfl⟩)⟩
  .have:=(dF.mp hf).1;have:=(dF.mp ht).1;show f.length+t.length=x.1.length+x.2.length;omega
  subst hs;refine⟨_,rfl,dY (it3 n x.1.length e x.1 (by omega) (by omega)) (aE9 (F:=D.str) (Sh:=λst=>∃e,st=nA S T rk rk' ws c l r m (some (.v (.int (1+(n:Int))))) (some (.v (.int x.1.length))) (some (.v (.str x.1))) e) (aCt _) hx2 (λt ht htx st ⟨e,hs⟩=>?_) (λst ⟨e,hs⟩=>?_) _ ⟨e,rfl⟩)⟩
  .subst hs;have tl:=(dF.mp ht).1;refine⟨_,_,rfl,(aAr M M' hl hr h4 (x:=(x.1,t)) h1 (dF.mp ht).2 (by show x.1.length<=10;omega) (by show t.length<=10;omega) _ _).1 (low (x.1,t) h1 (dF.mp ht).2 (nonil (by omega) ht) (.inr ⟨?_,.inr ⟨rfl,.inr ⟨rfl,htx⟩⟩⟩)),_,rfl⟩
   show x.1.length+t.length=x.1.length+x.2.length;omega
  .subst hs;exact⟨_,rfl,(aAr M M' hl hr h4 h1 h2 (by omega) (by omega) _ _).2 hit⟩
def aX9(hc:c<=3){x:Tl}(h1:Ltr c x.1)(h2:Ltr c x.2)(ne:x.2≠[])(n1:x.1.length<=100000)(n2:x.2.length<=100000):lF [itD x,.int c]=.ok (.bl true):=by
 have key:∀(u:List Nat)(x3:Option Sl),Ltr c u->u.length<=100000->aA8 [some (.v (itD x)),some (.v (.int c)),some (.v (.str u)),none]=.ok (.nx [some (.v (itD x)),some (.v (.int c)),some (.v (.str u)),none]):=λu x3 hu hn=>by
  have cs:bI [3] (tgN 3) (itE (aA 2)) nQ tK [some (.v (itD x)),some (.v (.int c)),some (.v (.str u)),none]=.ok (.lst []):=by
   refine nR (xs:=u.map λch=>D.str [ch]) (aF (fC (by omega))) (by rw[bG6];omega) ?_
   have:=aKb (C:=nQ) (E:=tK) (st:=[some (.v (itD x)),some (.v (.int c)),some (.v (.str u)),none]) (j:=3) (λch=>D.str [ch]) (λch=>D.str [ch]) (q:=λ_=>false) u λch hch=>⟨?_,λz=>nomatch z⟩
   .rw[List.filter_eq_nil_iff.mpr λ_ _=>bGh]at this
    exact this
   .have h:=hu ch hch;have hch':ch=97\/ch=98\/ch=99:=by omega
    have hc':c=0\/c=1\/c=2\/c=3:=by omega
    rcases hch' with rfl|rfl|rfl<;>rcases hc' with rfl|rfl|rfl|rfl<;>first|omega|(simp[nQ,rK];first|exact⟨0,by decide⟩|exact⟨1,by decide⟩|exact⟨2,by decide⟩)
  refine oM (aGs (p:=false) (q:=false) (aCk (p:=true) (show aV (aG1 (.str u)=true) (R.ok (D.bl true))=_ from aF rfl)) λ_=>aH cs (gY rfl) ?_) rfl
  exact aF ⟨by simp[fZ],by simp,by simp⟩
 refine cL rfl (aJ (oM (aGs (p:=false) (q:=false) (aCk (p:=true) (show aV (aG1 (itD x)=true) (R.ok (D.bl true))=_ from aF rfl)) λ_=>?_) rfl) (aJ (dY (xs:=[.str x.1,.str x.2]) rfl (fX rfl (key x.1 none h1 n1) (fX rfl (key x.2 none h2 n2) rfl))) (dX (aH rfl rfl ?_))))
 .exact aH rfl rfl (bAs _ _)
 .refine(aF ⟨by simp[dep],by simp,by simp⟩).trans ?_
  have:(x.2==([]:List Nat))=false:=by simpa using ne
  simp[eqD,this]
end
def tR{i j:Int}(h : -1000000<i/\i<1000000\/-1000000<j/\j<1000000):jU (.int i) (.int j)=.ok (.int (i*j)):=aF (by omega)
def aU5(i j:Int):cY (.int i) (.int j)=.ok (.int (i+j)):=rfl
def aBq(ns:List Int)(i:Int)(hi:0<=i):∃v,dG [.lst (ns.map D.int),.int i]=.ok (.int v):=by
 have len:e1 gD (aA 0) [some (.v (.lst (ns.map D.int))),some (.v (.int i))]=.ok (.int (ns.length:Nat)):=by simp
 have ix:∀j:Int,0<=j->j<ns.length->∃v,dIx (.lst (ns.map D.int)) (.int j)=.ok (.int v):=λj h0 h1=>by
  obtain⟨d,hd,e⟩:=aO7 (xs:=ns.map D.int) h0 (by simpa using h1)
  obtain⟨v,_,rfl⟩:=bGc.mp hd;exact⟨v,fY e⟩
 by_cases h:i<ns.length
 .obtain⟨v,hv⟩:=ix i hi h;exact⟨v,cL rfl (qQ (yG (aH rfl len (by rw[aEm,bGe h])) (dX (aH rfl rfl hv))))⟩
 .by_cases h0:ns.length=0
  .refine⟨48271*i+7,cL rfl (dI (oM (aH rfl len (by rw[aEm,bG3 h])) rfl) (qQ (yG (aH len rfl (by rw[aCl,bGe (by omega)])) (dX (aH (aH rfl rfl (tR (.inl (by omega)))) rfl rfl)))))⟩
  .obtain⟨v,hv⟩:=ix (i*7%ns.length) (bLg _ (by omega)) (bJq _ (by omega))
   refine⟨v+7919*i,cL rfl (dI (oM (aH rfl len (by rw[aEm,bG3 h])) rfl) (dI (oM (aH len rfl (by rw[aCl,bG3 (by omega)])) rfl) (dX (aH (aH rfl (aH (aH rfl rfl (tR (.inr (by omega)))) len (kO (by omega))) hv) (aH rfl rfl (tR (.inl (by omega)))) rfl))))⟩
def lX(v k:Int) (hm:0<m):∃x:Nat,x<m/\bF [.int v,.int k,.int m]=.ok (.int x):=by
 have sm:∀z n:Int,0<n->n<4294967296->-18446744073709551616<z%n/\z%n<18446744073709551616:=λz n h1 h2=>⟨by have:=bLg z (show n≠0 by omega);omega,by have:=bJq z h1;omega⟩
 have:∃z:Int,bF [.int v,.int k,.int m]=.ok (.int (z%m)):=⟨_,cL rfl (aJ (bG (aH (aH (aH (aH (aH rfl rfl (kO (by omega))) (aH rfl rfl (tR (.inl (by omega)))) (aU5 _ _)) rfl (aU5 _ _)) rfl (tR (.inr (by omega)))) rfl (kO (by omega)))) (aJ (bG (aH (aH (aH (aH rfl rfl (aF (.inl (sm _ _ (by omega) (by omega))))) rfl (kO (by omega))) rfl (tR (.inr (by omega)))) rfl (kO (by omega)))) (dX (aH (aH (aH rfl rfl (aF (.inl (sm _ _ (by omega) (by omega))))) rfl (kO (by omega))) rfl (kO (by omega))))))⟩
 obtain⟨z,e⟩:=this;have h1:=bLg z (show (m:Int)≠0 by omega)
 have h2:=bJq z (show (0:Int)<m by omega)
 exact⟨(z%m).toNat,by omega,by rw[Int.toNat_of_nonneg h1];exact e⟩
theorem aZ9{Q:Nat->Prop}:∀(ys:List D),(∀y∈ys,∃n:Nat,y=.int n/\Q n)->∃r:List Nat,ys=nats r/\∀x∈r,Q x
 |[],_=>⟨[],rfl,λ_ h=>nomatch h⟩
 |y::ys,h=>by
  obtain⟨n,rfl,hn⟩:=h y bFx;obtain⟨r,rfl,hr⟩:=aZ9 ys λy hy=>h y (bFw _ hy)
  exact⟨n::r,rfl,λx hx=>(bG0.mp hx).elim (λe=>by rw[e];exact hn) (hr x)⟩
def qW{E:Ex}{st:PSt} {xs:List D} {Q:Nat->Prop} (h:it st=.ok xs) (hl:xs.length<=1000000) (hE:∀d∈xs,∃n:Nat,E ((st.set j none).set j (some (.v d)))=.ok (.int n)/\Q n):∃r,bI [j] (tgN j) it bL E st=.ok (.lst (nats r))/\r.length=xs.length/\∀x∈r,Q x:=by
 obtain⟨ys,e1,e2,e3⟩:=aEr (tg:=tgN j) (c:=bL) (f:=E) (st:=st.set j none) (P:=λ_ y=>∃n:Nat,y=.int n/\Q n) xs λd hd=>let ⟨n,e,q⟩:=hE d hd;⟨_,_,rfl,rfl,e,n,rfl,q⟩
 obtain⟨r,rfl,hr⟩:=aZ9 ys λy hy=>let ⟨_,_,h⟩:=e3 y hy;h
 exact⟨r,nR h hl e1,by rw[<-e2,bH],hr⟩
def aF4{E:Ex}{st:PSt}{c:Nat} {xs:List D} (h:it st=.ok xs) (hl:xs.length<=1000000) (hE:∀d∈xs,∃r,E ((st.set j none).set j (some (.v d)))=.ok (.lst (nats r))/\r.length=c/\∀x∈r,x<n):∃S,bI [j] (tgN j) it bL E st=.ok (.lst (stD S))/\S.length=xs.length/\∀r∈S,r.length=c/\∀x∈r,x<n:=by
 obtain⟨ys,e1,e2,e3⟩:=aEr (tg:=tgN j) (c:=bL) (f:=E) (st:=st.set j none) (P:=λ_ y=>∃r:List Nat,y=.lst (nats r)/\r.length=c/\∀x∈r,x<n) xs λd hd=>let ⟨r,e,q⟩:=hE d hd;⟨_,_,rfl,rfl,e,r,rfl,q⟩
 obtain⟨S,rfl,hS⟩:=aO6 ys c n λy hy=>let ⟨_,_,h⟩:=e3 y hy;h
 exact⟨S,nR h hl e1,by rw[<-e2,gU],hS⟩
def yM{st:PSt} (h:f st=.ok (.int n)) (hn:n<=1000000):∃xs,iZ f st=.ok xs/\xs.length=n/\∀d∈xs,∃k:Nat,k<n/\d=.int k:=⟨_,aBi h hn,by simp,λd hd=>by
 obtain⟨k,h1,rfl⟩:=bGc.mp hd;exact⟨k,bGr.mp h1,rfl⟩⟩
def aQq(v:Int) (hm:0<m) (h8:m<=1000) (hn:n<=1000):∃r:List Nat,nJ [.int v,.int m,.int n]=.ok (.lst (nats r))/\r.length=n/\∀x∈r,x<m:=by
 have turn:∀(ks:List D)(v:Int)(r:List Nat)(x4:Option Sl),r.length+ks.length<=1000->(∀x∈r,x<m)->∃v' r' x4',forR (tgN 4) wH ks [some (.v (.int v)),some (.v (.int m)),some (.v (.int n)),some (.o .l (nats r)),x4]=.ok (.nx [some (.v (.int v')),some (.v (.int m)),some (.v (.int n)),some (.o .l (nats r')),x4'])/\r'.length=r.length+ks.length/\∀x∈r',x<m:=by
  intro ks
  induction ks with
  |nil=>exact λv r x4 _ hr=>⟨v,r,x4,rfl,rfl,hr⟩
  |cons d ks ih=>
   intro v r x4 hl hr;have h1:=bLg v (show (m:Int)≠0 by omega)
   have h2:=bJq v (show (0:Int)<m by omega)
   rw[bGn]at hl;obtain⟨v',r',x4',e,e2,e3⟩:=ih (v/m) (r++[(v%m).toNat]) (some (.v d)) (by rw[bGg,bHc];omega) λx hx=>(bGm.mp hx).elim (hr x) λh=>by rw[bFz.mp h];omega
   refine⟨v',r',x4',fX (s1:=[some (.v (.int v)),some (.v (.int m)),some (.v (.int n)),some (.o .l (nats r)),some (.v d)]) rfl (aJ (aCm (aH rfl rfl (kO (by omega))) rfl (by rw[bH];omega)) (bG (aH rfl rfl (aWs (by omega))))) ?_,by rw[e2,bGg,bGn];simp;omega,e3⟩
   have en:nats (r++[(v%m).toNat])=nats r++[.int (v%m)]:=by
    unfold nats;rw[bGw,List.map_singleton,Int.toNat_of_nonneg h1]
   rw[en]at e;exact e
 obtain⟨xs,e0,l0,_⟩:=yM (f:=aA 2) (st:=[some (.v (.int v)),some (.v (.int m)),some (.v (.int n)),some (.o .l (nats [])),none]) (n:=n) rfl (by omega)
 obtain⟨v',r',x4',e,e2,e3⟩:=turn xs v [] none (by simp;omega) (λ_ h=>nomatch h)
 refine⟨r',cL rfl (aJ (pQ (gY rfl)) (aJ (dY e0 e) ?_)),by rw[e2,l0];simp,e3⟩
 simp[ofK]
def aU6(ns:List Int){s mo c:Nat}(h1:1<=mo)(h8:mo<=8)(c1:1<=c)(c3:c<=3):∃S rk,qG [.lst (ns.map D.int),.int s,.int mo,.int c]=.ok (.lst [.lst (stD S),.lst (nats rk)])/\Mch S rk c/\S.length<=mo:=by
 obtain⟨v,hv⟩:=aBq ns s (by omega)
 obtain⟨x,hx,ex⟩:=lX v 1 (m:=mo) (by omega)
 obtain⟨n,en⟩:∃n,n=1+x:=⟨_,rfl⟩;have cl:∀k:Nat,∃u,dG [.lst (ns.map D.int),.int ((s:Int)+1+(k:Int))]=.ok (.int u):=λk=>aBq ns _ (by omega)
 let st (x6 x7:Option Sl):PSt:=[some (.v (.lst (ns.map D.int))),some (.v (.int s)),some (.v (.int mo)),some (.v (.int c)),some (.v (.int v)),some (.v (.int n)),x6,x7,none,none,none]
 have rows:∀x6 x7,∃S,bI [8] (tgN 8) (iZ (aA 5)) bL uZ (st x6 x7)=.ok (.lst (stD S))/\S.length=n/\∀r∈S,r.length=c/\∀y∈r,y<n:=λx6 x7=>by
  obtain⟨xs,e0,l0,m0⟩:=yM (f:=aA 5) (st:=st x6 x7) (n:=n) rfl (by omega)
  obtain⟨S,e,l,h⟩:=aF4 (E:=uZ) (j:=8) (c:=c) (n:=n) e0 (by omega) λd hd=>by
   obtain⟨k,hk,rfl⟩:=m0 d hd;obtain⟨ys,e1,l1,m1⟩:=yM (f:=aA 3) (st:=((st x6 x7).set 8 none).set 8 (some (.v (.int k)))) (n:=c) rfl (by omega)
   obtain⟨u,hu⟩:=cl k;obtain⟨r,e2,l2,h2⟩:=qW (E:=aB9) (j:=9) (Q:=λy=>y<n) e1 (by omega) λd hd=>by
    obtain⟨j,hj,rfl⟩:=m1 d hd;obtain⟨y,hy,ey⟩:=lX u j (m:=n) (by omega)
    exact⟨y,aR (aP (aR (aP rfl (aP (aH (aH rfl rfl rfl) rfl rfl) rfl)) hu) rfl) ey,hy⟩
   exact⟨r,e2,by rw[l2,l1],h2⟩
  exact⟨S,e,by rw[l,l0],h⟩
 have rows2:∀x6 x7,∃S,bI [8] (tgN 8) (iZ (aA 5)) bL pL (st x6 x7)=.ok (.lst (stD S))/\S.length=n/\∀r∈S,r.length=c/\∀y∈r,y<n:=λx6 x7=>by
  obtain⟨xs,e0,l0,m0⟩:=yM (f:=aA 5) (st:=st x6 x7) (n:=n) rfl (by omega)
  obtain⟨S,e,l,h⟩:=aF4 (E:=pL) (j:=8) (c:=c) (n:=n) e0 (by omega) λd hd=>by
   obtain⟨k,hk,rfl⟩:=m0 d hd;obtain⟨u,hu⟩:=cl k;obtain⟨r,e2,l2,h2⟩:=aQq u (m:=n) (n:=c) (by omega) (by omega) (by omega)
   exact⟨r,aR (aP (aR (aP rfl (aP (aH (aH rfl rfl rfl) rfl rfl) rfl)) hu) rfl) e2,l2,h2⟩
  exact⟨S,e,by rw[l,l0],h⟩
 have rks:∀x6 x7,∃rk,bI [8] (tgN 8) (iZ (aA 5)) bL vA (st x6 x7)=.ok (.lst (nats rk))/\rk.length=n:=λx6 x7=>by
  obtain⟨xs,e0,l0,m0⟩:=yM (f:=aA 5) (st:=st x6 x7) (n:=n) rfl (by omega)
  obtain⟨y,hy,ey⟩:=lX v 2 (m:=4) (by omega)
  obtain⟨r,e,l,_⟩:=qW (E:=vA) (j:=8) (Q:=λ_=>True) e0 (by omega) λd hd=>by
   obtain⟨k,hk,rfl⟩:=m0 d hd;obtain⟨u,hu⟩:=cl k;obtain⟨z,hz,ez⟩:=lX u 5 (m:=2+y) (by omega)
   refine⟨z,aR (aP (aR (aP rfl (aP (aH (aH rfl rfl rfl) rfl rfl) rfl)) hu) (aP rfl (aP (aH rfl (aR rfl ey) (aU5 _ _)) rfl))) ?_,True.intro⟩;rw[show (2:Int)+(y:Int)=((2+y:Nat):Int) by omega]
   exact ez
  exact⟨r,e,by rw[l,l0]⟩
 have rks2:∀(x6:Option Sl)(rk:List Nat),rk.length=n->∃rk',bI [10] (tgN 10) (itE (aA 7)) bL pM (st x6 (some (.v (.lst (nats rk)))))=.ok (.lst (nats rk'))/\rk'.length=n:=λx6 rk hk=>by
  obtain⟨r,e,l,_⟩:=qW (E:=pM) (j:=10) (Q:=λ_=>True) (it:=itE (aA 7)) (st:=st x6 (some (.v (.lst (nats rk))))) (xs:=nats rk) (oN rfl) (by rw[bH];omega) λd hd=>by
   obtain⟨y,hy,rfl⟩:=qR hd;have h1:=bLg v (show (10^29:Int)≠0 by decide)
   obtain⟨z,hz⟩:=Int.eq_ofNat_of_zero_le h1;have hz2:(y:Int)+v%10^29*2=((y+z*2:Nat):Int):=by rw[hz];omega
   refine⟨y+z*2,?_,True.intro⟩;rw[<-hz2];exact aH rfl (aH (aH (aR rfl hv) (aH rfl rfl (aF (by decide))) (kO (by decide))) rfl (tR (.inr (by omega)))) rfl
  exact⟨r,e,by rw[l,bH,hk]⟩
 have ifq:∀(x6 x7:Option Sl)(k m:Nat),0<m->∃b,e2 dEq (aW bF (aC (aA 4) (aC (eC (.int k)) (aC (eC (.int m)) aU)))) (eC (.int 0)) (st x6 x7)=.ok (.bl b):=λx6 x7 k m hm=>by
  obtain⟨y,_,ey⟩:=lX v k hm;exact⟨_,aH (aR rfl ey) rfl (aCl _ _)⟩
 obtain⟨S1,es1,ls1,hs1⟩:=rows none none;obtain⟨S2,es2,ls2,hs2⟩:=rows2 (some (.v (.lst (stD S1)))) none;have hS:∃S,sIf (e2 dEq (aW bF (aC (aA 4) (aC (eC (.int 4)) (aC (eC (.int 2)) aU)))) (eC (.int 0))) (cN 6 (bI [8] (tgN 8) (iZ (aA 5)) bL pL)) dB (st (some (.v (.lst (stD S1)))) none)=.ok (.nx (st (some (.v (.lst (stD S)))) none))/\S.length=n/\∀r∈S,r.length=c/\∀y∈r,y<n:=by
  obtain⟨b,hbM⟩:=ifq (some (.v (.lst (stD S1)))) none 4 2 (by omega)
  cases b with
  |true=>exact⟨S2,yG hbM (bG es2),ls2,hs2⟩
  |false=>exact⟨S1,oM hbM rfl,ls1,hs1⟩
 obtain⟨S,e3,ls,hs⟩:=hS;obtain⟨k1,ek1,lk1⟩:=rks (some (.v (.lst (stD S)))) none;obtain⟨k2,ek2,lk2⟩:=rks2 (some (.v (.lst (stD S)))) k1 lk1;have hK:∃rk,sIf (e2 dEq (aW bF (aC (aA 4) (aC (eC (.int 3)) (aC (eC (.int 8)) aU)))) (eC (.int 0))) (cN 7 (bI [10] (tgN 10) (itE (aA 7)) bL pM)) dB (st (some (.v (.lst (stD S)))) (some (.v (.lst (nats k1)))))=.ok (.nx (st (some (.v (.lst (stD S)))) (some (.v (.lst (nats rk))))))/\rk.length=n:=by
  obtain⟨b,hbM⟩:=ifq (some (.v (.lst (stD S)))) (some (.v (.lst (nats k1)))) 3 8 (by omega)
  cases b with
  |true=>exact⟨k2,yG hbM (bG ek2),lk2⟩
  |false=>exact⟨k1,oM hbM rfl,lk1⟩
 obtain⟨rk,e5,lk⟩:=hK;refine⟨S,rk,cL rfl ?_,⟨by omega,by omega,c1,c3,λr hr=>by rw[ls];exact hs r hr,by rw[lk,ls]⟩,by omega⟩
 unfold aAl;refine aJ (bG (aR rfl hv)) (aJ (st':=st none none) ?_ (aJ (bG es1) (aJ e3 (aJ (bG ek1) (aJ e5 (dX (gY rfl)))))));rw[bG (d:=.int n) (aH rfl (aR rfl ex) (by rw[aU5,en];congr 2))]
 rfl
def aOv{xs:List α}{i:Int}(h1 : -(xs.length:Int)<=i)(h2:i<xs.length):∃a∈xs,atI xs i=some a:=by
 by_cases h:0<=i
 .exact aO7 h h2
 .unfold atI ixN;rw[bG7 h,bGa h1];exact⟨xs[(i+xs.length).toNat]'(by omega),bGq _,bFv (by omega)⟩
def bB6{ys:List D}(h:xs.length+ys.length<=1000):cY (.lst xs) (.lst ys)=.ok (.lst (xs++ys)):=aF (fC (bGy h (by decide)))
section
variable{S:List (List Nat)}{rk:List Nat}{c:Nat}
def bst(v:Int)(S:List (List Nat))(rk:List Nat)(w:Nat)(x5 x6 x7 x8:Option Sl):PSt:=[some (.v (.int v)),some (.v (.lst (stD S))),some (.v (.lst (nats rk))),some (.v (.int (S.length:Nat))),some (.v (.int w)),x5,x6,x7,x8,none,none]
def aIm{E:Ex}(k:Nat)(hE:∀(st:PSt)(y:Nat),st[9]?=some (some (.v (.int y)))->E st=.ok (.int ((y+k:Nat):Int)))(h8:rk.length<=1000){st:PSt}(hl:9<st.length)(h2:st[2]?=some (some (.v (.lst (nats rk))))):∃rk',bI [9] (tgN 9) (itE (aA 2)) bL E st=.ok (.lst (nats rk'))/\rk'.length=rk.length:=by
 obtain⟨r,e,l,_⟩:=qW (E:=E) (j:=9) (Q:=λ_=>True) (it:=itE (aA 2)) (st:=st) (xs:=nats rk) (oN (by rw[zN,h2])) (by rw[bH];omega) λd hd=>by
  obtain⟨y,hy,rfl⟩:=qR hd;exact⟨y+k,hE _ y (by simp[hl]),True.intro⟩
 exact⟨r,e,by rw[l,bH]⟩
def aU7{st:PSt}{y:Nat}(k:Nat)(h:st[9]?=some (some (.v (.int y)))):e2 cY (aA 9) (eC (.int k)) st=.ok (.int ((y+k:Nat):Int)):=aH (x:=.int y) (by rw[zN,h]) rfl rfl
theorem aKk(M:Mch S rk c)(v:Int)(w:Nat){x5 x8:Option Sl}:∀(ks:List D) (R:List (List Nat)) (x7:Option Sl),R.length+ks.length<=1000->(∀d∈ks,∃k:Nat,d=.int k)->(∀r∈R,r.length=c/\∀x∈r,x<2*S.length)->
  ∃R' x7',forR (tgN 7) jX ks (bst v S rk w x5 (some (.o .l (stD R))) x7 x8)=.ok (.nx (bst v S rk w x5 (some (.o .l (stD R'))) x7' x8))/\R'.length=R.length+ks.length/\∀r∈R',r.length=c/\∀x∈r,x<2*S.length
 |[],R,x7,_,_,hR=>⟨R,x7,rfl,rfl,hR⟩
 |d::ks,R,x7,hl,hk,hR=>by
  obtain⟨k,rfl⟩:=hk d bFx;have h1:=M.one;have hp:k%S.length<S.length:=mod_lt _ (by omega)
  have hrow:=M.row _ (bGq hp);rw[bGn]at hl;have ix:e2 dIx (aA 1) (e2 rG (aA 7) (aA 3)) (bst v S rk w x5 (some (.o .l (stD R))) (some (.v (.int k))) x8)=.ok (.lst (nats S[k%S.length])):=aH rfl (aH rfl rfl (kO (by omega))) (fY (by rw[<-Int.natCast_emod];exact aCp hp))
  obtain⟨r,e,lr,hr⟩:=qW (E:=wJ) (j:=10) (Q:=λx=>x<2*S.length) (it:=itE (e2 dIx (aA 1) (e2 rG (aA 7) (aA 3)))) (st:=bst v S rk w x5 (some (.o .l (stD R))) (some (.v (.int k))) x8) (oN ix) (by rw[bH,hrow.1];have:=M.c3;omega) λd hd=>by
   obtain⟨g,hg,rfl⟩:=qR hd;have hg':=hrow.2 g hg;obtain⟨y,hy,ey⟩:=lX v (3+5*(k:Int)+(g:Int)) (m:=2) (by omega)
   have hlt:g+S.length*y<2*S.length:=by
    have:y=0\/y=1:=by omega
    rcases this with rfl|rfl<;>omega
   refine⟨g+S.length*y,?_,hlt⟩;have h8:=M.most;rw[bMe,Int.natCast_mul];exact aH rfl (aH rfl (aR (aP rfl (aP (aH (aH rfl (aH rfl rfl (tR (.inl (by omega)))) rfl) rfl rfl) rfl)) ey) (tR (.inl (by omega)))) rfl
  obtain⟨R',x7',e2,l2,h2⟩:=aKk M v w (x5:=x5) (x8:=x8) ks (R++[r]) (some (.v (.int k))) (by rw[bGg,bHc];omega) (λd hd=>hk d (bFw _ hd)) λq hq=>(bGm.mp hq).elim (hR q) λh=>by rw[bFz.mp h];exact⟨by rw[lr,bH,hrow.1],hr⟩
  refine⟨R',x7',fX (s1:=bst v S rk w x5 (some (.o .l (stD R))) (some (.v (.int k))) x8) rfl (aCm e rfl (by rw[gU];omega)) ?_,by rw[l2,bGg,bGn];simp;omega,h2⟩
  rw[show stD (R++[r])=stD R++[.lst (nats r)] by unfold stD;rw[bGw];rfl]at e2
  exact e2
def Mch.with(M:Mch S rk c) (h:rk'.length=rk.length):Mch S rk' c:=⟨M.one,M.most,M.c1,M.c3,M.row,h.trans M.rks⟩
def aQr(M:Mch S rk c)(v:Int):∃S' rk',iR [.int v,.lst (stD S),.lst (nats rk)]=.ok (pD2 S' rk')/\Mch S' rk' c:=by
 have h1:=M.one;have h8:=M.most;have hk:=M.rks;obtain⟨w,hw,ew⟩:=lX v 1 (m:=5) (by omega)
 have t:∀k:Int,e2 dEq (aA 4) (eC (.int k)) (bst v S rk w none none none none)=.ok (.bl (decide ((w:Int)=k))):=λk=>aH rfl rfl (aCl _ _)
 have go:∀{d:D},bA (sIf (e2 dEq (aA 4) (eC (.int 0))) (cR (iI (aC (aA 1) (aC (bI [9] (tgN 9) (itE (aA 2)) bL jW) aU)))) dB) (bA (sIf (e2 dEq (aA 4) (eC (.int 1))) (bA (cN 5 (aW bF (aC (aA 0) (aC (eC (.int 2)) (aC (aA 3) aU))))) (cR (iI (aC (aA 1) (aC (e2 cY (e2 cY (eSl (aA 2) xM (xN (aA 5))) (iI (aC (e2 cY (e2 dIx (aA 2) (aA 5)) (eC (.int 1))) aU))) (eSl (aA 2) (xN (e2 cY (aA 5) (eC (.int 1)))) xM)) aU))))) dB) (bA (sIf (pK (e2 dEq (aA 4) (eC (.int 2))) (e2 aB5 (aA 3) (eC (.int 4)))) (bA (rM 6 (iI aU)) (bA (lK (tgN 7) (iZ (e2 jU (eC (.int 2)) (aA 3))) jX) (sFz [6] (cR (iI (aC (aA 6) (aC (e2 cY (aA 2) (bI [9] (tgN 9) (itE (aA 2)) bL fD)) aU))))))) dB) (bA (sIf (e2 dEq (aA 4) (eC (.int 3))) (bA (cN 8 (bI [7] (tgN 7) (iZ (aA 3)) bL oU)) (cR (iI (aC (aA 8) (aC (bI [7] (tgN 7) (iZ (aA 3)) bL oV) aU))))) dB) (cR (iI (aC (aA 1) (aC (bI [9] (tgN 9) (itE (aA 2)) bL oW) aU))))))) (bst v S rk w none none none none)=.ok (.rt d)->iR [.int v,.lst (stD S),.lst (nats rk)]=.ok d:=λ{d} h=>by
  refine cL rfl (aJ (bG (d:=.int (S.length:Nat)) (by simp[gU])) (aJ (bG (aR rfl ew)) h))
 by_cases w0:w=0
 .obtain⟨r,e,l⟩:=aIm (E:=jW) 2 (λst y h=>aU7 2 h) (by omega) (st:=bst v S rk w none none none none) (by simp[bst]) rfl
  exact⟨S,r,go (qQ (yG (gJ (t 0) (by rw[w0];rfl)) (dX (gY (aP rfl (aP e rfl)))))),M.with l⟩
 have f0:sIf (e2 dEq (aA 4) (eC (.int 0))) (cR (iI (aC (aA 1) (aC (bI [9] (tgN 9) (itE (aA 2)) bL jW) aU)))) dB (bst v S rk w none none none none)=.ok (.nx (bst v S rk w none none none none)):=oM (gJ (t 0) (bG3 (by omega))) rfl
 by_cases w1:w=1
 .obtain⟨a,ha,ea⟩:=lX v 2 (m:=S.length) (by omega)
  have hak:a<rk.length:=by omega
  refine⟨S,rk.take a++[rk[a]+1]++rk.drop (a+1),go (dI f0 (qQ (yG (gJ (t 1) (by rw[w1];rfl)) (aJ (st':=bst v S rk w (some (.v (.int a))) none none none) (bG (aR rfl ea)) (dX (gY (aP rfl (aP ?_ rfl)))))))),M.with (by simp;omega)⟩
  have s1:eSl (aA 2) xM (xN (aA 5)) (bst v S rk w (some (.v (.int a))) none none none)=.ok (.lst (nats (rk.take a))):=by
   show R.ok (D.lst (cut (nats rk) none (some (a:Int))))=_;rw[bAv];unfold nats;rw[List.map_take]
  have s2:eSl (aA 2) (xN (e2 cY (aA 5) (eC (.int 1)))) xM (bst v S rk w (some (.v (.int a))) none none none)=.ok (.lst (nats (rk.drop (a+1)))):=by
   show R.ok (D.lst (cut (nats rk) (some ((a:Int)+1)) none))=_;rw[show (a:Int)+1=((a+1:Nat):Int) by omega,bAw _ _ (by rw[bH];omega)]
   unfold nats;rw[List.map_drop]
  have s3:e2 cY (e2 dIx (aA 2) (aA 5)) (eC (.int 1)) (bst v S rk w (some (.v (.int a))) none none none)=.ok (.int ((rk[a]+1:Nat):Int)):=aH (x:=.int (rk[a]:Nat)) (aH rfl rfl (fY (by rw[atI_nat (by rw[bH];exact hak)];simp[nats]))) rfl rfl
  have s4:iI (aC (e2 cY (e2 dIx (aA 2) (aA 5)) (eC (.int 1))) aU) (bst v S rk w (some (.v (.int a))) none none none)=.ok (.lst [.int ((rk[a]+1:Nat):Int)]):=gY (aP s3 rfl);have:=aH (aH s1 s4 (bB6 (by rw[bH,bK8];simp;omega))) s2 (bB6 (by rw[bGg,bH,bH,bK8,bLl];simp;omega))
  rw[this];unfold nats;rw[bGw,bGw];rfl
 have f1:sIf (e2 dEq (aA 4) (eC (.int 1))) (bA (cN 5 (aW bF (aC (aA 0) (aC (eC (.int 2)) (aC (aA 3) aU))))) (cR (iI (aC (aA 1) (aC (e2 cY (e2 cY (eSl (aA 2) xM (xN (aA 5))) (iI (aC (e2 cY (e2 dIx (aA 2) (aA 5)) (eC (.int 1))) aU))) (eSl (aA 2) (xN (e2 cY (aA 5) (eC (.int 1)))) xM)) aU))))) dB (bst v S rk w none none none none)=.ok (.nx (bst v S rk w none none none none)):=oM (gJ (t 1) (bG3 (by omega))) rfl
 have t2:pK (e2 dEq (aA 4) (eC (.int 2))) (e2 aB5 (aA 3) (eC (.int 4))) (bst v S rk w none none none none)=.ok (.bl (decide ((w:Int)=2)&&decide ((S.length:Int)<4))):=vJ (t 2) λ_=>aH rfl rfl rfl
 by_cases w2:w=2/\S.length<4
 .obtain⟨xs,e0,l0,m0⟩:=yM (f:=e2 jU (eC (.int 2)) (aA 3)) (st:=bst v S rk w none (some (.o .l (stD []))) none none) (n:=2*S.length) (aH rfl rfl (by rw[tR (.inl (by omega))];rfl)) (by omega)
  obtain⟨R,x7,e1,l1,h1'⟩:=aKk M v w (x5:=none) (x8:=none) xs [] none (by simp;omega) (λd hd=>let ⟨k,_,h⟩:=m0 d hd;⟨k,h⟩) (λ_ h=>nomatch h)
  have lR:R.length=2*S.length:=by rw[l1,l0];simp
  obtain⟨r,e,l⟩:=aIm (E:=fD) (rk:=rk) 2 (λst y h=>aU7 2 h) (by omega) (st:=bst v S rk w none (some (.v (.lst (stD R)))) x7 none) (by simp[bst]) rfl
  refine⟨R,rk++r,go (dI f0 (dI f1 (qQ (yG (gJ t2 (by rw[w2.1,bGe (show (S.length:Int)<4 by omega)];rfl)) (aJ (st':=bst v S rk w none (some (.o .l (stD []))) none none) (pQ (gY rfl)) (aJ (dY e0 e1) ?_)))))),⟨by omega,by omega,M.c1,M.c3,λq hq=>by rw[lR];exact h1' q hq,by rw[bGg,l,lR,hk];omega⟩⟩
  have:sFz [6] (cR (iI (aC (aA 6) (aC (e2 cY (aA 2) (bI [9] (tgN 9) (itE (aA 2)) bL fD)) aU)))) (bst v S rk w none (some (.o .l (stD R))) x7 none)=cR (iI (aC (aA 6) (aC (e2 cY (aA 2) (bI [9] (tgN 9) (itE (aA 2)) bL fD)) aU))) (bst v S rk w none (some (.v (.lst (stD R)))) x7 none):=rfl;rw[this];have hh:e2 cY (aA 2) (bI [9] (tgN 9) (itE (aA 2)) bL fD) (bst v S rk w none (some (.v (.lst (stD R)))) x7 none)=.ok (.lst (nats (rk++r))):=by
   rw[aH (x:=.lst (nats rk)) rfl e (bB6 (by rw[bH,bH];omega))]
   unfold nats;rw[bGw]
  exact dX (gY (aP rfl (aP hh rfl)))
 have f2:sIf (pK (e2 dEq (aA 4) (eC (.int 2))) (e2 aB5 (aA 3) (eC (.int 4)))) (bA (rM 6 (iI aU)) (bA (lK (tgN 7) (iZ (e2 jU (eC (.int 2)) (aA 3))) jX) (sFz [6] (cR (iI (aC (aA 6) (aC (e2 cY (aA 2) (bI [9] (tgN 9) (itE (aA 2)) bL fD)) aU))))))) dB (bst v S rk w none none none none)=.ok (.nx (bst v S rk w none none none none)):=oM (gJ t2 (by
  by_cases z:w=2
  .rw[bG3 (show ¬ (S.length:Int)<4 from λq=>w2 ⟨z,by omega⟩),bKy]
  .rw[bG3 (show ¬ (w:Int)=2 by omega),bMc])) rfl
 by_cases w3:w=3
 .obtain⟨xs,e0,l0,m0⟩:=yM (f:=aA 3) (st:=bst v S rk w none none none none) (n:=S.length) rfl (by omega)
  obtain⟨R,e1,l1,hR⟩:=aF4 (E:=oU) (j:=7) (c:=c) (n:=S.length) e0 (by omega) λd hd=>by
   obtain⟨k,hk',rfl⟩:=m0 d hd;obtain⟨d,hd,ed⟩:=aOv (xs:=stD S) (i:=(k:Int)-1) (by rw[gU];omega) (by rw[gU];omega)
   obtain⟨q,hq,rfl⟩:=aE3 hd;obtain⟨r,e,lr,hr⟩:=qW (E:=wK) (j:=10) (Q:=λx=>x<S.length) (it:=itE (e2 dIx (aA 1) (e2 aM5 (aA 7) (eC (.int 1))))) (st:=((bst v S rk w none none none none).set 7 none).set 7 (some (.v (.int k)))) (oN (aH rfl (aH rfl rfl rfl) (fY ed))) (by rw[bH,(M.row q hq).1];have:=M.c3;omega) λd hd=>by
    obtain⟨g,hg,rfl⟩:=qR hd;refine⟨(g+1)%S.length,?_,mod_lt _ (by omega)⟩
    rw[Int.natCast_emod,bMe];exact aH (aH rfl rfl rfl) rfl (kO (by omega))
   exact⟨r,e,by rw[lr,bH,(M.row q hq).1],hr⟩
  have lR:R.length=S.length:=by rw[l1,l0]
  obtain⟨ys,e0',l0',m0'⟩:=yM (f:=aA 3) (st:=bst v S rk w none none none (some (.v (.lst (stD R))))) (n:=S.length) rfl (by omega)
  obtain⟨r,e,l,_⟩:=qW (E:=oV) (j:=7) (Q:=λ_=>True) e0' (by omega) λd hd=>by
   obtain⟨k,hk',rfl⟩:=m0' d hd;obtain⟨d,hd,ed⟩:=aOv (xs:=nats rk) (i:=(k:Int)-1) (by rw[bH];omega) (by rw[bH];omega)
   obtain⟨y,hy,rfl⟩:=qR hd;exact⟨y,aH rfl (aH rfl rfl rfl) (fY ed),True.intro⟩
  exact⟨R,r,go (dI f0 (dI f1 (dI f2 (qQ (yG (gJ (t 3) (by rw[w3];rfl)) (aJ (bG e1) (dX (gY (aP rfl (aP e rfl)))))))))),⟨by omega,by omega,M.c1,M.c3,λq hq=>by rw[lR];exact hR q hq,by rw[l,l0',lR]⟩⟩
 .obtain⟨r,e,l⟩:=aIm (E:=oW) 1 (λst y h=>aU7 1 h) (by omega) (st:=bst v S rk w none none none none) (by simp[bst]) rfl
  exact⟨S,r,go (dI f0 (dI f1 (dI f2 (dI (oM (gJ (t 3) (bG3 (by omega))) rfl) (dX (gY (aP rfl (aP e rfl)))))))),M.with l⟩
def bB7(ns:List Int):∃S rk T rk' c l r,vB [.lst (ns.map D.int)]=.ok (.lst [pD2 S rk,pD2 T rk',.int (l:Nat),.int (r:Nat)])/\Mch S rk c/\Mch T rk' c/\S.length<=7/\l<S.length/\r<T.length:=by
 obtain⟨v,hv⟩:=aBq ns 0 (by omega)
 obtain⟨x,hx,ex⟩:=lX v 1 (m:=3) (by omega)
 obtain⟨y,hy,ey⟩:=lX v 2 (m:=16) (by omega)
 obtain⟨z,hz,ez⟩:=lX v 3 (m:=4) (by omega)
 obtain⟨u,hu⟩:=aBq ns 10 (by omega)
 have hmo:∃mo:Nat,1<=mo/\mo<=7/\sIf (e2 dEq (aW bF (aC (aA 1) (aC (eC (.int 2)) (aC (eC (.int 16)) aU)))) (eC (.int 0))) (cN 3 (eC (.int 5))) dB [some (.v (.lst (ns.map D.int))),some (.v (.int v)),some (.v (.int ((1+x:Nat):Int))),some (.v (.int 4)),none,none]=.ok (.nx [some (.v (.lst (ns.map D.int))),some (.v (.int v)),some (.v (.int ((1+x:Nat):Int))),some (.v (.int mo)),none,none]):=by
  have t:=aH (op:=dEq) (f:=aW bF (aC (aA 1) (aC (eC (.int 2)) (aC (eC (.int 16)) aU)))) (g:=eC (.int 0)) (st:=[some (.v (.lst (ns.map D.int))),some (.v (.int v)),some (.v (.int ((1+x:Nat):Int))),some (.v (.int 4)),none,none]) (aR rfl ey) rfl (aCl _ _)
  by_cases h:(y:Int)=0
  .exact⟨5,by omega,by omega,yG (gJ t (bGe h)) rfl⟩
  .exact⟨4,by omega,by omega,oM (gJ t (bG3 h)) rfl⟩
 obtain⟨mo,mo1,mo8,emo⟩:=hmo;obtain⟨S,rk,e4,M,sm⟩:=aU6 ns (s:=1) (mo:=mo) (c:=1+x) mo1 (by omega) (by omega) (by omega)
 obtain⟨T0,rk0,e5,M0,_⟩:=aU6 ns (s:=10) (mo:=mo) (c:=1+x) mo1 (by omega) (by omega) (by omega)
 obtain⟨T1,rk1,e6,M1⟩:=aQr M u
 let st (d:D):PSt:=[some (.v (.lst (ns.map D.int))),some (.v (.int v)),some (.v (.int ((1+x:Nat):Int))),some (.v (.int mo)),some (.v (pD2 S rk)),some (.v d)]
 have hT:∃T rk',sIf (e2 dGt (aW bF (aC (aA 1) (aC (eC (.int 3)) (aC (eC (.int 4)) aU)))) (eC (.int 0))) (cN 5 (aW iR (aC (aW dG (aC (aA 0) (aC (eC (.int 10)) aU))) (aC (e2 dIx (aA 4) (eC (.int 0))) (aC (e2 dIx (aA 4) (eC (.int 1))) aU))))) dB (st (pD2 T0 rk0))=.ok (.nx (st (pD2 T rk')))/\Mch T rk' (1+x):=by
  have t:=aH (op:=dGt) (f:=aW bF (aC (aA 1) (aC (eC (.int 3)) (aC (eC (.int 4)) aU)))) (g:=eC (.int 0)) (st:=st (pD2 T0 rk0)) (z:=.ok (.bl (decide ((0:Int)<(z:Int))))) (aR rfl ez) rfl rfl
  by_cases h:(0:Int)<z
  .exact⟨T1,rk1,yG (gJ t (bGe h)) (bG (aR (aP (aR rfl hu) rfl) e6)),M1⟩
  .exact⟨T0,rk0,oM (gJ t (bG3 h)) rfl,M0⟩
 obtain⟨T,rk',eT,M'⟩:=hT;obtain⟨l,hl,el⟩:=lX v 4 (m:=S.length) (by have:=M.one;omega)
 obtain⟨r,hr,er⟩:=lX v 5 (m:=T.length) (by have:=M'.one;omega)
 refine⟨S,rk,T,rk',1+x,l,r,cL rfl ?_,M,M',by omega,hl,hr⟩
 unfold aAm;refine aJ (bG (aR rfl hv)) (aJ (bG (d:=.int ((1+x:Nat):Int)) (aH rfl (aR rfl ex) (by rw[aU5];congr 2))) (aJ (bG rfl) (aJ emo (aJ (bG (aR rfl e4)) (aJ (bG (aR rfl e5)) (aJ eT (dX (gY (aP rfl (aP rfl (aP ?_ (aP ?_ rfl))))))))))))
 .refine aR (aP rfl (aP rfl (aP (d:=.int (S.length:Nat)) ?_ rfl))) el;show R.ok (D.int ((stD S).length:Nat))=_;rw[gU]
 .refine aR (aP rfl (aP rfl (aP (d:=.int (T.length:Nat)) ?_ rfl))) er;show R.ok (D.int ((stD T).length:Nat))=_;rw[gU]
end
section
variable {c l r:Nat}
def aOw(x:Tl):plain (itD x)=true/\dep (itD x)<=1/\eqD (itD x) (itD x)=true:=by
 unfold itD;simp[dep,fZ,eqD,lJ]
def bDw(x:Tl):dEq (itD x) (itD x)=.ok (.bl true):=by
 obtain⟨h1,h2,h3⟩:=aOw x;exact(aF ⟨by omega,h1,h1⟩).trans (by rw[h3])
def aKl(M:Mch S rk c)(M':Mch T rk' c)(hl:l<S.length)(hr:r<T.length)(h4:ws.length=4) (h:Told S T rk rk' ws c l r d):lW [pD2 S rk,pD2 T rk',.tup (ws.map D.bl),.int l,.int r,d]=.ok (.bl true):=by
 obtain⟨r0,hr0,er0,lr0⟩:=M.at0;have c1:=M.c1;have c3:=M.c3;obtain⟨m,hm,em⟩:∃m:Nat,m<=10/\atI [D.int 0,D.int 10,D.int 6,D.int 4] (c:Int)=some (.int (m:Nat)):=by
  have:c=1\/c=2\/c=3:=by omega
  rcases this with rfl|rfl|rfl
  .exact⟨10,by omega,rfl⟩
  .exact⟨6,by omega,rfl⟩
  .exact⟨4,by omega,rfl⟩
 let st (x8:Option Sl):PSt:=[some (.v (pD2 S rk)),some (.v (pD2 T rk')),some (.v (.tup (ws.map D.bl))),some (.v (.int l)),some (.v (.int r)),some (.v d),some (.v (.int c)),some (.v (.int m)),x8]
 have start:∀{x:R Fl},bA (sIf (e2 dIs (aA 5) (eC .non)) (cR (e2 dIs (aW fM (aC (aA 0) (aC (aA 1) (aC (aA 2) (aC (aA 3) (aC (aA 4) (aC (aA 7) aU))))))) (eC .non))) dB) (bA (sIf (eOr (tD (aW lF (aC (aA 5) (aC (aA 6) aU)))) (tD (aW dH (aC (aA 0) (aC (aA 1) (aC (aA 2) (aC (aA 5) (aC (aA 3) (aC (aA 4) aU))))))))) (cR (eC (.bl false))) dB) (bA (cN 8 (aW fM (aC (aA 0) (aC (aA 1) (aC (aA 2) (aC (aA 3) (aC (aA 4) (aC (e2 aJo (aA 7) (e2 cY (e1 gD (e2 dIx (aA 5) (eC (.int 0)))) (e1 gD (e2 dIx (aA 5) (eC (.int 1)))))) aU)))))))) (cR (eOr (pK (e2 dIs (aA 8) (eC .non)) (e2 dGt (e2 cY (e1 gD (e2 dIx (aA 5) (eC (.int 0)))) (e1 gD (e2 dIx (aA 5) (eC (.int 1))))) (aA 7))) (e2 dEq (aA 8) (aA 5)))))) (st none)=x->vI [some (.v (pD2 S rk)),some (.v (pD2 T rk')),some (.v (.tup (ws.map D.bl))),some (.v (.int l)),some (.v (.int r)),some (.v d),none,none,none]=x:=λh=>by
  refine aJ (bG ?_) (aJ (st':=st none) (bG (aH (gY rfl) rfl (fY em))) h);rw[zZ,aH (x:=.lst (stD S)) (y:=.int 0) (aH rfl rfl rfl) rfl (fY er0),aK];show R.ok (D.int ((nats r0).length:Nat))=R.ok (D.int (c:Nat));rw[bH,lr0]
 have hitP:∀y:Tl,Ltr c y.2->y.2≠[]->(aCu S T rk rk' ws l r y=true↔WP S T rk rk' ws c (goG (dTw S T) (l,r) y.1) y.2):=λy h2 ne=>bDv ne h2
 have noB:∀{b:Bool},¬ b=true->b=false:=λ{b} h=>by cases b;rfl;exact absurd rfl h
 rcases h with ⟨rfl,no⟩|⟨x,rfl,h1,wp,n1,n2,low⟩
 .have f:=(aMq M M' hl hr h4 hm).1 λy y1 y2 ne _=>noB λz=>no y.1 y.2 y1 ((hitP y y2 ne).mp z)
  exact cL rfl (start (qQ (yG rfl (dX (aH (aR rfl f) rfl rfl)))))
 .have hit:aCu S T rk rk' ws l r x=true:=(hitP x wp.lt wp.ne).mpr wp;have lows:∀y:Tl,Ltr c y.1->Ltr c y.2->y.2≠[]->klt y x->aCu S T rk rk' ws l r y=false:=λy y1 y2 ne k=>noB λz=>low y y1 ((hitP y y2 ne).mp z) k
  have len0:∀x8,e1 gD (e2 dIx (aA 5) (eC (.int 0))) (st x8)=.ok (.int (x.1.length:Nat)):=λx8=>by
   rw[zZ,show e2 dIx (aA 5) (eC (.int 0)) (st x8)=.ok (.str x.1) from aH rfl rfl rfl,aK]
   exact aF (fC (by omega))
  have len1:∀x8,e1 gD (e2 dIx (aA 5) (eC (.int 1))) (st x8)=.ok (.int (x.2.length:Nat)):=λx8=>by
   rw[zZ,show e2 dIx (aA 5) (eC (.int 1)) (st x8)=.ok (.str x.2) from aH rfl rfl rfl,aK]
   exact aF (fC (by omega))
  have sum:∀x8,e2 cY (e1 gD (e2 dIx (aA 5) (eC (.int 0)))) (e1 gD (e2 dIx (aA 5) (eC (.int 1)))) (st x8)=.ok (.int ((x.1.length+x.2.length:Nat):Int)):=λx8=>aH (len0 x8) (len1 x8) (by show R.ok (D.int ((x.1.length:Int)+(x.2.length:Int)))=_;rw[bMe])
  have mn:e2 aJo (aA 7) (e2 cY (e1 gD (e2 dIx (aA 5) (eC (.int 0)))) (e1 gD (e2 dIx (aA 5) (eC (.int 1))))) (st none)=.ok (.int ((min m (x.1.length+x.2.length):Nat):Int)):=aH rfl (sum none) (by
   show R.ok (D.int (if ((x.1.length+x.2.length:Nat):Int)<(m:Int) then ((x.1.length+x.2.length:Nat):Int) else (m:Int)))=_
   congr 2;split<;>omega)
  have t2:eOr (tD (aW lF (aC (aA 5) (aC (aA 6) aU)))) (tD (aW dH (aC (aA 0) (aC (aA 1) (aC (aA 2) (aC (aA 5) (aC (aA 3) (aC (aA 4) aU)))))))) (st none)=.ok (.bl false):=
   aGs (p:=false) (q:=false) (aCk (p:=true) (aR rfl (aX9 c3 h1 wp.lt wp.ne (by omega) (by omega)))) λ_=>aCk (p:=true) ((aR rfl (aU1 M M' hl hr h4 h1 wp.lt (by omega) (by omega))).trans (by rw[show wB S T rk rk' ws (goG (dTw S T) (l,r) x.1) x.2=true from hit]))
  by_cases hle:x.1.length+x.2.length<=m
  .have f:=(aMq (m:=min m (x.1.length+x.2.length)) M M' hl hr h4 (by omega)).2 x h1 wp.lt wp.ne (by omega) hit lows
   exact cL rfl (start (aJ (oM rfl rfl) (aJ (oM t2 rfl) (aJ (st':=st (some (.v (itD x)))) (bG (aR (aP rfl (aP rfl (aP rfl (aP rfl (aP rfl (aP mn rfl)))))) f)) (dX (aGs (p:=false) (q:=true) (vJ (p:=false) (q:=true) rfl λz=>nomatch z) λ_=>aH rfl rfl (bDw x)))))))
  .have f:=(aMq (m:=min m (x.1.length+x.2.length)) M M' hl hr h4 (by omega)).1 λy y1 y2 ne hy=>lows y y1 y2 ne (.inl (by omega))
   exact cL rfl (start (aJ (oM rfl rfl) (aJ (oM t2 rfl) (aJ (st':=st (some (.v .non))) (bG (aR (aP rfl (aP rfl (aP rfl (aP rfl (aP rfl (aP mn rfl)))))) f)) (dX (aGs (p:=true) (q:=true) (vJ (p:=true) (q:=true) rfl λ_=>aH (sum _) rfl (by show R.ok (D.bl (decide ((m:Int)<((x.1.length+x.2.length:Nat):Int))))=_;rw[bGe (by omega)])) λz=>nomatch z))))))
def aQs(h:Told S T rk rk' ws c l r d):dNe d d=.ok (.bl false):=by
 rcases h with ⟨rfl,_⟩|⟨x,rfl,_⟩
 .exact aF ⟨by simp[dep],by simp,by simp⟩
 .obtain⟨h1,h2,h3⟩:=aOw x;exact(aF ⟨by omega,h1,h1⟩).trans (by rw[h3];rfl)
def aZa{E:Ex}{st:PSt}{v:Nat}(M:Mch S rk c)(hv:st[v]?=some (some (.v (pD2 S rk))))(hE:∀row:List Nat,E ((st.set j none).set j (some (.v (.lst (nats row)))))=.ok (.lst (nats row))):bI [j] (tgN j) (itE (e2 dIx (aA v) (eC (.int 0)))) bL E st=.ok (.lst (stD S)):=by
 have h8:=M.most;unfold stD;exact vL (l:=S) (λrow=>D.lst (nats row)) _ (oN (aH (x:=pD2 S rk) (by rw[zN,hv]) rfl rfl)) (by omega) λrow _=>hE row
def law_true(ns:List Int)(hn:ns.length<=63):aGr [.lst (ns.map D.int)]=.ok (.bl true):=by
 obtain⟨S,rk,T,rk',c,l,r,e0,M,M',s7,hl,hr⟩:=bB7 ns
 let st (ys:List D) (x4 x5 x10 x11:Option Sl) (k:OK):PSt:=[some (.v (.lst (ns.map D.int))),some (.v (mD S rk c)),some (.v (mD T rk' c)),some (.o k ys),x4,x5,some (.v (pD2 S rk)),some (.v (pD2 T rk')),some (.v (.int l)),some (.v (.int r)),x10,x11,none,none]
 let FD (y:D):Prop:=∃(ws:List Bool)(d:D),y=.tup [.tup (ws.map D.bl),d]/\ws.length=4/\fO [mD S rk c,mD T rk' c,.tup (ws.map D.bl),.int l,.int r]=.ok d/\Told S T rk rk' ws c l r d
 have turn:∀(k:Nat)(ys:List D)(x5 x10 x11:Option Sl),ys.length<=100->(∀y∈ys,FD y)->∃ys' x5' x10' x11',aI7 (st ys (some (.v (.int k))) x5 x10 x11 .l)=.ok (.nx (st ys' (some (.v (.int k))) x5' x10' x11' .l))/\ys'.length=ys.length+1/\∀y∈ys',FD y:=λk ys x5 x10 x11 hy hys=>by
  obtain⟨u,hu⟩:=aBq ns (19+(k:Int)) (by omega)
  have hbM:∀j:Nat,∃b:Bool,e2 aB5 (aW bF (aC (aA 10) (aC (aA 13) (aC (eC (.int 5)) aU)))) (eC (.int 2)) ((st ys (some (.v (.int k))) x5 (some (.v (.int u))) x11 .l).set 13 (some (.v (.int (j:Nat)))))=.ok (.bl b):=λj=>by
   obtain⟨x,_,ex⟩:=lX u j (m:=5) (by omega)
   exact⟨_,aH (aR rfl ex) rfl rfl⟩
  obtain⟨b0,h0⟩:=hbM 0;obtain⟨b1,h1⟩:=hbM 1;obtain⟨b2,h2⟩:=hbM 2;obtain⟨b3,h3⟩:=hbM 3;have hc:bI [13] (tgN 13) (iZ (eC (.int 4))) bL aBh (st ys (some (.v (.int k))) x5 (some (.v (.int u))) x11 .l)=.ok (.lst ([b0,b1,b2,b3].map D.bl)):=by
   refine nR (aBi (n:=4) rfl (by omega)) (by simp) ?_
   have e:(List.range 4).map (λ(k:Nat)=>D.int (k:Int))=[.int ((0:Nat):Int),.int ((1:Nat):Int),.int ((2:Nat):Int),.int ((3:Nat):Int)]:=rfl
   have go:∀{j:Nat}{b:Bool}{ds ys':List D},e2 aB5 (aW bF (aC (aA 10) (aC (aA 13) (aC (eC (.int 5)) aU)))) (eC (.int 2)) ((st ys (some (.v (.int k))) x5 (some (.v (.int u))) x11 .l).set 13 (some (.v (.int (j:Nat)))))=.ok (.bl b)->jO (tgN 13) bL aBh (clr [13] (st ys (some (.v (.int k))) x5 (some (.v (.int u))) x11 .l)) ds=.ok ys'->jO (tgN 13) bL aBh (clr [13] (st ys (some (.v (.int k))) x5 (some (.v (.int u))) x11 .l)) (.int (j:Nat)::ds)=.ok (.bl b::ys'):=λ{j b ds ys'} h1 h2=>by
    rw[kJ,show tgN 13 (.int (j:Nat)) (clr [13] (st ys (some (.v (.int k))) x5 (some (.v (.int u))) x11 .l))=.ok ((st ys (some (.v (.int k))) x5 (some (.v (.int u))) x11 .l).set 13 (some (.v (.int (j:Nat))))) from rfl,aK,show bL _=.ok (.bl true) from rfl,aK,mR,bGa rfl,show aBh ((st ys (some (.v (.int k))) x5 (some (.v (.int u))) x11 .l).set 13 (some (.v (.int (j:Nat)))))=.ok (.bl b) from h1,aK,h2]
    rfl
   rw[e];exact go h0 (go h1 (go h2 (go h3 rfl)))
  obtain⟨d,ed,td⟩:=aOs (w:=.tup ([b0,b1,b2,b3].map D.bl)) (ws:=[b0,b1,b2,b3]) M M' s7 hl hr ⟨rfl,.inl rfl⟩;refine⟨ys++[.tup [.tup ([b0,b1,b2,b3].map D.bl),d]],some (.v d),some (.v (.int u)),some (.v (.tup ([b0,b1,b2,b3].map D.bl))),?_,by simp,λy hy'=>?_⟩
  .refine aJ (st':=st ys (some (.v (.int k))) x5 (some (.v (.int u))) x11 .l) (bG (aR (aP rfl (aP (aH rfl rfl rfl) rfl)) hu)) ?_
   refine aJ (st':=st ys (some (.v (.int k))) x5 (some (.v (.int u))) (some (.v (.tup ([b0,b1,b2,b3].map D.bl)))) .l) (bG ?_) ?_
   .rw[zZ,hc,aK];rfl
   refine aJ (st':=st ys (some (.v (.int k))) (some (.v d)) (some (.v (.int u))) (some (.v (.tup ([b0,b1,b2,b3].map D.bl)))) .l) (bG (aR rfl ed)) ?_
   refine dI (oM (aCk (p:=true) (aR rfl (aKl M M' hl hr rfl td))) rfl) ?_
   exact aCm (pB rfl) rfl (by omega)
  .rcases bGm.mp hy' with hy'|hy'
   .exact hys y hy'
   .exact⟨[b0,b1,b2,b3],d,bFz.mp hy',rfl,ed,td⟩
 obtain⟨y1,a5,a10,a11,t1,l1,f1⟩:=turn 0 [] none none none (by simp) λ_ h=>nomatch h
 obtain⟨y2,b5,b10,b11,t2,l2,f2⟩:=turn 1 y1 a5 a10 a11 (by simp at l1;omega) f1
 have loop:forR (tgN 4) aI7 ((List.range 2).map λ(k:Nat)=>D.int (k:Int)) (st [] none none none none .l)=.ok (.nx (st y2 (some (.v (.int (1:Nat)))) b5 b10 b11 .l)):=by
  have e:(List.range 2).map (λ(k:Nat)=>D.int (k:Int))=[.int ((0:Nat):Int),.int ((1:Nat):Int)]:=rfl
  rw[e];exact fX rfl t1 (fX rfl t2 rfl)
 obtain⟨d0,ed0,td0⟩:=aOs (w:=.fn "JUST_ONE") (ws:=[false,true,true,false]) (l:=0) (r:=0) M M' s7 M.one M'.one ⟨rfl,.inr ⟨rfl,rfl⟩⟩;have part:aMa fU [.int 0,.int 0] (aC (aA 1) (aC (aA 2) aU)) (st y2 (some (.v (.int (1:Nat)))) b5 b10 b11 .l)=.ok d0:=by
  have:fU [mD S rk c,mD T rk' c,.int 0,.int 0]=.ok d0:=cL rfl (dX (aR rfl ed0));exact this
 have look:∀(zs:List D)(x5 x11:Option Sl),(∀y∈zs,FD y)->∃x5' x11',forR (tgT [11,5]) aO5 zs [some (.v (.lst (ns.map D.int))),some (.v (mD S rk c)),some (.v (mD T rk' c)),some (.v (.lst y2)),some (.v (.int (1:Nat))),x5,some (.v (pD2 S rk)),some (.v (pD2 T rk')),some (.v (.int l)),some (.v (.int r)),b10,x11,none,none]=.ok (.nx [some (.v (.lst (ns.map D.int))),some (.v (mD S rk c)),some (.v (mD T rk' c)),some (.v (.lst y2)),some (.v (.int (1:Nat))),x5',some (.v (pD2 S rk)),some (.v (pD2 T rk')),some (.v (.int l)),some (.v (.int r)),b10,x11',none,none]):=λzs=>by
  induction zs with
  |nil=>exact λx5 x11 _=>⟨x5,x11,rfl⟩
  |cons y zs ih=>
   intro x5 x11 h;obtain⟨ws,d,rfl,h4,ed,td⟩:=h y bFx;obtain⟨z5,z11,e⟩:=ih (some (.v d)) (some (.v (.tup (ws.map D.bl)))) λy hy=>h y (bFw _ hy)
   exact⟨z5,z11,fX rfl (oM (aH (aR rfl ed) rfl (aQs td)) rfl) e⟩
 obtain⟨z5,z11,el⟩:=look y2 (some (.v d0)) b11 f2;refine cL rfl ?_
 unfold aSw;refine aJ (aIe (aR rfl e0) rfl) ?_
 refine aJ (bG (aR (aP (aZa M rfl λrow=>rfl) (aP (show (dIx (pD2 S rk) (.int 1)).bind aA0=_ from rfl) rfl)) (aO8 M))) ?_
 refine aJ (bG (aR (aP (aZa M' rfl λrow=>rfl) (aP (show (dIx (pD2 T rk') (.int 1)).bind aA0=_ from rfl) rfl)) (aO8 M'))) ?_
 refine aJ (st':=st [] none none none none .l) (pQ (gY rfl)) ?_
 refine aJ (dY (aBi (n:=2) rfl (by omega)) loop) ?_
 refine aJ (st':=st y2 (some (.v (.int (1:Nat)))) (some (.v d0)) b10 b11 .l) (bG part) ?_
 refine dI (oM (aCk (p:=true) (aR (aP rfl (aP rfl (aP (pB rfl) (aP rfl (aP rfl (aP rfl rfl)))))) (aKl (ws:=[false,true,true,false]) M M' M.one M'.one rfl td0))) rfl) ?_
 refine aJ (dY (xs:=y2) rfl el) (dX ?_);refine vJ (p:=true) (q:=true) (aH aCn (aH rfl rfl rfl) ?_) λ_=>aH (show dW "Machine" "ranks" (mD T rk' c)=_ from aIf) (aH rfl rfl rfl) ?_
 .exact(bAu S).2
 .exact(aWu rk').2
end
end Pu
namespace Pu
open PySem PySem.Spec PyProof.Rows L2
abbrev LSt:=L2.St
def kW:Key->D
 |.inl i=>.int i
 |.inr x=>.str x.cps.toList
structure ExcCl(K:Frag)(C:Addr):Prop where
 ga:findIn K (.ref C) "__getattribute__"=some (some (.builtin "BaseException.__getattribute__"))
 gn:findIn K (.ref C) "__getattr__"=some none
 mb:mroIn K C (.type "BaseException")=some true
 cl:(PySem.W.clsIn K C).isSome=true
 fd:findIn K (.ref C) "__class__"=some (some (.builtin "object.__class__"))
 sp:PySem.W.specialIn K (.builtin "object.__class__") "__get__"=some (some (.builtin "getset_descriptor.__get__"))
 tk:PySem.W.takesIn K (.builtin "object.__class__")=some true
 mr:mroIn K C (.type "object")=some true
structure ExcAt(K:Frag)(c:String)(C:Addr)(bm:List Value):Prop where
 ns:nsIn K mainGlobals (Str.ofString c)=some (some (.ref C))
 ob:∃(B newId initId:String)(bmB:List Value),ExcBaseFacts B newId initId bmB/\∀h,K.In h->∃N nm q bs hdct sn sub ab col dd k0 k1 k2 k3 k5 mN,
  h.get? C=some (excClassObj nm q C N bs bm hdct sn sub ab col dd k0 k1 k2 k3 k5 newId)/\h.Ns N mN/\mN "__init__"=none/\OwnTail h bmB bm
 ic:ExcCl K C
def aZb(a C:Addr)(h:Heap):Prop:=∃o,h.get? a=some o/\o.cls=.ref C/\notCls o=true
structure ExcIs(K:Frag)(c:String)(C:Addr):Prop where
 ns:nsIn K mainGlobals (Str.ofString c)=some (some (.ref C))
 ic:ExcCl K C
def ExcAt.is{K:Frag} {bm:List Value} (h:ExcAt K c C bm):ExcIs K c C:=⟨h.ns,h.ic⟩
def xOb(x C:Addr)(d:Option Addr)(h:Heap):Prop:=∃o,h.get? x=some o/\o.cls=.ref C/\notCls o=true/\o.dict=d
def xFs(dx:Addr)(fs:List (Str×V))(h:Heap):Prop:=∃mA,h.Ns1 dx mA/\(∀f,uV (fs.lookup f) (mA f))/\PySem.Within mA (fs.map (·.1))
def txH:List D->Bool
 |.str _::_=>true
 |_=>false
mutual
def Rep(K:Frag)(H:Hp):D->V->Prop
 |.non,v=>v=V.non
 |.bl b,v=>v=V.bl b
 |.int i,v=>v=V.int i
 |.str s,v=>v=V.str ⟨s.toArray⟩
 |.tup ds,v=>∃a vs,v=V.ref a/\H a=some (.tup vs)/\bD K H ds vs
 |.lst ds,v=>∃a vs,v=V.ref a/\SqL K H a vs/\bD K H ds vs/\(txH ds=true->H a=some (.lst vs))
 |.dct t ks ds,v=>∃a vs,v=V.ref a/\((t=false/\∃kvs:List (Key×V),H a=some (.dK kvs)/\kvs.map (λp=>kW p.1)=ks/\vs=kvs.map (·.2))\/(t=true/\∃kvs:List (List Key×V),H a=some (.dT kvs)/\kvs.map (λp=>D.tup (p.1.map kW))=ks/\vs=kvs.map (·.2)))/\bD K H ds vs
 |.ins c ns ds,v=>∃a C dx fs vs,v=V.ref a/\H a=some (.ins C dx fs)/\nsIn K mainGlobals (Str.ofString c)=some (some (.ref C))/\fs.map (·.1)=ns.map Str.ofString/\vs=fs.map (·.2)/\bD K H ds vs
 |.exn c ns ds,v=>∃a φ C,v=V.ref a/\H a=some (.ext φ)/\(∀h,φ h->aZb a C h)/\ExcIs K c C/\∃dx fs vs,((ns=[]/\vs=[])\/(φ=xOb a C (some dx)/\dx≠a/\H dx=some (.ext (xFs dx fs))/\fs.map (·.1)=ns.map Str.ofString/\vs=fs.map (·.2)))/\bD K H ds vs
 |.fn f,v=>∃a,v=V.ref a/\nsIn K mainGlobals (Str.ofString f)=some (some (.ref a))
def bD(K:Frag)(H:Hp):List D->List V->Prop
 |[],vs=>vs=[]
 |d::ds,vs=>∃v r,vs=v::r/\Rep K H d v/\bD K H ds r
end
def yN{K:Frag} {xs:List V} (e:bC H H') (h:SqT K H a xs):SqT K H' a xs:=by
 rcases h with (h|⟨o,h⟩)|h
 .exact .inl (.inl (e _ _ h))
 .exact .inl (.inr ⟨o,e _ _ h⟩)
 .exact .inr h
mutual
theorem Rep.mono{K:Frag}{H H':Hp}(s:bC H H'):∀{d:D}{v:V},Rep K H d v->Rep K H' d v
 |.non,_,h=>by unfold Rep at h ⊢; exact h
 |.bl _,_,h=>by unfold Rep at h ⊢; exact h
 |.int _,_,h=>by unfold Rep at h ⊢; exact h
 |.str _,_,h=>by unfold Rep at h ⊢; exact h
 |.tup _,_,h=>by
  unfold Rep at h ⊢;obtain⟨a,vs,e,q,r⟩:=h;exact⟨a,vs,e,s _ _ q,bD.mono s r⟩
 |.lst _,_,h=>by
  unfold Rep at h ⊢;obtain⟨a,vs,e,q,r,t⟩:=h;exact⟨a,vs,e,s.seq q,bD.mono s r,λz=>s _ _ (t z)⟩
 |.dct _ _ _,_,h=>by
  unfold Rep at h ⊢;obtain⟨a,vs,e,q,r⟩:=h;refine⟨a,vs,e,?_,bD.mono s r⟩;rcases q with ⟨q0,kvs,q1,q2⟩|⟨q0,kvs,q1,q2⟩
  .exact .inl ⟨q0,kvs,s _ _ q1,q2⟩
  .exact .inr ⟨q0,kvs,s _ _ q1,q2⟩
 |.ins _ _ _,_,h=>by
  unfold Rep at h ⊢;obtain⟨a,C,dx,fs,vs,e,q1,q2,q3,q4,r⟩:=h;exact⟨a,C,dx,fs,vs,e,s _ _ q1,q2,q3,q4,bD.mono s r⟩
 |.fn _,_,h=>by unfold Rep at h ⊢; exact h
 |.exn _ _ _,_,h=>by
  unfold Rep at h ⊢;obtain⟨a,φ,C,e,q,hφ,hi,dx,fs,vs,h1,r⟩:=h;refine⟨a,φ,C,e,s _ _ q,hφ,hi,dx,fs,vs,?_,bD.mono s r⟩;rcases h1 with h1|⟨h1,h2,h3,h4⟩
  .exact .inl h1
  .exact .inr ⟨h1,h2,s _ _ h3,h4⟩
theorem bD.mono{K:Frag}{H H':Hp}(s:bC H H'):∀{ds:List D}{vs:List V},bD K H ds vs->bD K H' ds vs
 |[],_,h=>by unfold bD at h ⊢; exact h
 |d::ds,_,h=>by
  unfold bD at h ⊢;obtain⟨v,r,e,q,t⟩:=h;exact⟨v,r,e,Rep.mono s q,bD.mono s t⟩
end
section
variable{K:Frag}{H:Hp}
def pR:Rep K H .non v↔v=V.non:=by unfold Rep;exact bMo
def cU:Rep K H (.bl b) v↔v=V.bl b:=by unfold Rep;exact bMo
def bN{i:Int}:Rep K H (.int i) v↔v=V.int i:=by unfold Rep;exact bMo
def eZ{s:List Nat}:Rep K H (.str s) v↔v=V.str ⟨s.toArray⟩:=by unfold Rep;exact bMo
def lY:Rep K H (.tup ds) v↔∃a vs,v=V.ref a/\H a=some (.tup vs)/\bD K H ds vs:=by conv=>lhs;unfold Rep
def gO(h:Rep K H (.tup ds) v):∃a vs,v=V.ref a/\SqT K H a vs/\bD K H ds vs:=
 let ⟨a,vs,e,q,r⟩:=lY.mp h;⟨a,vs,e,SqT.of q,r⟩
def aF5:Rep K H (.lst ds) v↔∃a vs,v=V.ref a/\SqL K H a vs/\bD K H ds vs/\(txH ds=true->H a=some (.lst vs)):=by conv=>lhs;unfold Rep
structure LstR(K:Frag)(H:Hp)(ds:List D)(v:V):Prop where
 mp:Rep K H (.lst ds) v->∃a vs,v=V.ref a/\SqL K H a vs/\bD K H ds vs
 mpr:(∃a vs,v=V.ref a/\H a=some (.lst vs)/\bD K H ds vs)->Rep K H (.lst ds) v
def fB:LstR K H ds v:=⟨λh=>let ⟨a,vs,e,q,r,_⟩:=aF5.mp h;⟨a,vs,e,q,r⟩,λ⟨a,vs,e,h,r⟩=>aF5.mpr ⟨a,vs,e,SqL.of h,r,λ_=>h⟩⟩
def rT{t:Bool}{ks:List D}:Rep K H (.dct t ks ds) v↔∃a vs,v=V.ref a/\((t=false/\∃kvs:List (Key×V),H a=some (.dK kvs)/\kvs.map (λp=>kW p.1)=ks/\vs=kvs.map (·.2))\/(t=true/\∃kvs:List (List Key×V),H a=some (.dT kvs)/\kvs.map (λp=>D.tup (p.1.map kW))=ks/\vs=kvs.map (·.2)))/\bD K H ds vs:=by conv=>lhs;unfold Rep
def aIn{ns:List String}:Rep K H (.ins c ns ds) v↔∃a C dx fs vs,v=V.ref a/\H a=some (.ins C dx fs)/\nsIn K mainGlobals (Str.ofString c)=some (some (.ref C))/\fs.map (·.1)=ns.map Str.ofString/\vs=fs.map (·.2)/\bD K H ds vs:=by conv=>lhs;unfold Rep
def aXa{ns:List String}:Rep K H (.exn c ns ds) v↔∃a φ C,v=V.ref a/\H a=some (.ext φ)/\(∀h,φ h->aZb a C h)/\ExcIs K c C/\∃dx fs vs,((ns=[]/\vs=[])\/(φ=xOb a C (some dx)/\dx≠a/\H dx=some (.ext (xFs dx fs))/\fs.map (·.1)=ns.map Str.ofString/\vs=fs.map (·.2)))/\bD K H ds vs:=by conv=>lhs;unfold Rep
def aMr{f:String}:Rep K H (.fn f) v↔∃a,v=V.ref a/\nsIn K mainGlobals (Str.ofString f)=some (some (.ref a)):=by conv=>lhs;unfold Rep
def cH:bD K H [] vs↔vs=[]:=by unfold bD;exact bMo
def bJ{d:D}:bD K H (d::ds) vs↔∃v r,vs=v::r/\Rep K H d v/\bD K H ds r:=by conv=>lhs;unfold bD
def bD.nil:bD K H [] []:=cH.mpr rfl
def bD.cons{d:D}{ds:List D}{v:V}{vs:List V}(h:Rep K H d v)(t:bD K H ds vs):bD K H (d::ds) (v::vs):=bJ.mpr ⟨v,vs,rfl,h,t⟩
theorem bD.length:∀{ds:List D}{vs:List V},bD K H ds vs->vs.length=ds.length
 |[],_,h=>by rw[cH.mp h];rfl
 |_::ds,_,h=>by
  obtain⟨v,r,rfl,_,t⟩:=bJ.mp h;rw[bGn,bGn,bD.length t]
theorem bD.get:∀{ds:List D}{vs:List V}{i:Nat}{d:D},bD K H ds vs->ds[i]?=some d->∃v,vs[i]?=some v/\Rep K H d v
 |[],_,_,_,_,e=>by simp at e
 |_::ds,_,0,d,h,e=>by
  obtain⟨v,r,rfl,q,t⟩:=bJ.mp h;simp at e;subst e;exact⟨v,rfl,q⟩
 |_::ds,_,i+1,d,h,e=>by
  obtain⟨v,r,rfl,q,t⟩:=bJ.mp h;obtain⟨u,e1,e2⟩:=bD.get (i:=i) t (by simpa using e)
  exact⟨u,by simpa using e1,e2⟩
theorem bD.append:∀{ds es:List D}{vs us:List V},bD K H ds vs->bD K H es us->bD K H (ds++es) (vs++us)
 |[],_,_,_,h,t=>by rw[cH.mp h];exact t
 |_::_,_,_,_,h,t=>by
  obtain⟨v,r,rfl,q,w⟩:=bJ.mp h;exact .cons q (bD.append w t)
theorem bD.set{d:D}{v:V}(hd:Rep K H d v):∀{ds:List D}{vs:List V}(i:Nat),bD K H ds vs->bD K H (ds.set i d) (vs.set i v)
 |[],_,_,h=>by rw[cH.mp h];exact .nil
 |_::_,_,0,h=>by
  obtain⟨v,r,rfl,q,w⟩:=bJ.mp h;exact .cons hd w
 |_::_,_,i+1,h=>by
  obtain⟨v,r,rfl,q,w⟩:=bJ.mp h;exact .cons q (bD.set hd i w)
theorem bD.take:∀{ds:List D}{vs:List V}(n:Nat),bD K H ds vs->bD K H (ds.take n) (vs.take n)
 |_,_,0,_=>.nil
 |[],_,_+1,h=>by rw[cH.mp h];exact .nil
 |_::_,_,n+1,h=>by
  obtain⟨v,r,rfl,q,w⟩:=bJ.mp h;exact .cons q (bD.take n w)
theorem bD.drop:∀{ds:List D}{vs:List V}(n:Nat),bD K H ds vs->bD K H (ds.drop n) (vs.drop n)
 |_,_,0,h=>h
 |[],_,_+1,h=>by rw[cH.mp h];exact .nil
 |_::_,_,n+1,h=>by
  obtain⟨v,r,rfl,q,w⟩:=bJ.mp h;exact bD.drop n w
end
def hide(A:List Addr)(H:Hp):Hp:=λb=>if b∈A then none else H b
def lZ{b:Addr}(h:b∈A):hide A H b=none:=bGa h
def dC{b:Addr}(h:b∉A):hide A H b=H b:=bG7 h
def aX(A:List Addr)(H:Hp):bC (hide A H) H:=λb o h=>by
 unfold hide at h;split at h
 .cases h
 .exact h
theorem bC.hide{A:List Addr}{H H':Hp}(s:bC H H'):bC (hide A H) (hide A H'):=λb o h=>by
 unfold Pu.hide at h ⊢;split at h
 .cases h
 .rename_i q;rw[bG7 q];exact s b o h
def pZ{A':List Addr} (h:∀a∈A',a∈A):bC (hide A H) (hide A' H):=λb o q=>by
 by_cases hb:b∈A
 .rw[lZ hb]at q;cases q
 .rw[dC hb]at q;rw[dC λz=>hb (h b z)]
  exact q
def aKm(H:Hp):hide [] H=H:=by
 funext b;exact dC (by simp)
def uM{o:HO}(h:a∈A):hide A (upd H a o)=hide A H:=by
 funext b
 by_cases hb:b∈A
 .rw[lZ hb,lZ hb]
 .rw[dC hb,dC hb];exact bB λz=>hb (z ▸ h)
def cI{p:Addr}{o:HO}(h:H p=none):bC H (upd H p o):=λb u q=>by
 rw[bB (aZ q h)];exact q
def nT:HO->Bool
 |.tup _=>false
 |_=>true
def aZc{o:Option HO}(h:o.any nT=true):∃u,o=some u/\nT u=true:=by
 cases o with
 |none=>cases h
 |some u=>exact⟨u,rfl,h⟩
def Own(A:List Addr)(H:Hp):Prop:=∀a∈A,(H a).any nT=true
def Own.mono(h:Own A H)(s:bC H H'):Own A H':=λa ha=>by
 obtain⟨o,e,n⟩:=aZc (h a ha);rw[s a o e];exact n
theorem Own.tup{A:List Addr}{H:Hp}(h:Own A H){a:Addr}{xs:List V}(e:H a=some (.tup xs)):a∉A:=λz=>by
 have:=h a z;rw[e]at this;cases this
def Own.free(h:Own A H){p:Addr}(e:H p=none):p∉A:=λz=>by
 have q:=h p z;rw[e]at q;cases q
def gK{K:Frag} {p:Addr} (w:Own A H) (e:H p=none) (h:bD K (hide A H) ds vs):Rep K (hide A (upd H p (.lst vs))) (.lst ds) (.ref p):=
 fB.mpr ⟨p,vs,rfl,(by rw[dC (w.free e)];exact bT),h.mono (bC.hide (cI e))⟩
def rW{K:Frag} {p:Addr} (w:Own A H) (e:H p=none) (h:bD K (hide A H) ds vs):Rep K (hide A (upd H p (.tup vs))) (.tup ds) (.ref p):=
 lY.mpr ⟨p,vs,rfl,(by rw[dC (w.free e)];exact bT),h.mono (bC.hide (cI e))⟩
def KOk(K:Frag):OK->Addr->HO->List V->Prop
 |.l,_,o,vs=>o=.lst vs
 |.d t ks,_,o,vs=>(t=false/\∃kvs:List (Key×V),o=.dK kvs/\kvs.map (λp=>kW p.1)=ks/\vs=kvs.map (·.2))\/(t=true/\∃kvs:List (List Key×V),o=.dT kvs/\kvs.map (λp=>D.tup (p.1.map kW))=ks/\vs=kvs.map (·.2))
 |.i n c ns,a,o,vs=>a=n/\∃C dx fs,o=.ins C dx fs/\nsIn K mainGlobals (Str.ofString c)=some (some (.ref C))/\fs.map (·.1)=ns.map Str.ofString/\vs=fs.map (·.2)
def KOk.rep{K:Frag} {k:OK} {o:HO} (ko:KOk K k a o vs) (h:H a=some o) (r:bD K H ds vs):Rep K H (ofK k ds) (.ref a):=by
 cases k with
 |l=>have e:o=.lst vs:=ko;subst e;exact fB.mpr ⟨a,vs,rfl,h,r⟩
 |d t ks=>
  refine rT.mpr ⟨a,vs,rfl,?_,r⟩;rcases ko with ⟨q0,kvs,rfl,q⟩|⟨q0,kvs,rfl,q⟩
  .exact .inl ⟨q0,kvs,h,q⟩
  .exact .inr ⟨q0,kvs,h,q⟩
 |i n c ns=>
  obtain⟨_,C,dx,fs,rfl,q1,q2,q3⟩:=ko;exact aIn.mpr ⟨a,C,dx,fs,vs,rfl,h,q1,q2,q3,r⟩
def KOk.nt{K:Frag}{k:OK}{o:HO} (ko:KOk K k a o vs):nT o=true:=by
 cases k with
 |l=>rw[show o=.lst vs from ko];rfl
 |d t ks=>rcases ko with ⟨_,_,rfl,_⟩|⟨_,_,rfl,_⟩ <;> rfl
 |i n c ns=>obtain⟨_,_,_,_,rfl,_⟩:=ko;rfl
structure RS(K:Frag)(B A:List Addr)(H:Hp)(st:PSt)(σ:LSt):Prop where
 len:st.length=σ.length
 own:Own (A++B) H
 dis:∀a∈A,a∉B
 val:∀(i:Nat) d,st[i]?=some (some (.v d))->∃v,σ[i]?=some (some v)/\Rep K (hide (A++B) H) d v
 lst:∀(i:Nat) k xs,st[i]?=some (some (.o k xs))->∃a o vs,σ[i]?=some (some (.ref a))/\a∈A/\H a=some o/\KOk K k a o vs/\bD K (hide (A++B) H) xs vs/\
  ∀(j:Nat) k' ys,st[j]?=some (some (.o k' ys))->σ[j]?=some (some (.ref a))->j=i
theorem RS.mono{K:Frag}{B A:List Addr}{H H':Hp}{st:PSt}{σ:LSt}(r:RS K B A H st σ)(s:bC H H'):RS K B A H' st σ where
 len:=r.len
 own:=r.own.mono s
 dis:=r.dis
 val:=λi d e=>let ⟨v,e1,q⟩:=r.val i d e;⟨v,e1,q.mono (bC.hide s)⟩
 lst:=λi k xs e=>let ⟨a,o,vs,e1,m,h,ko,q,u⟩:=r.lst i k xs e;⟨a,o,vs,e1,m,s _ _ h,ko,q.mono (bC.hide s),u⟩
def Le(A:List Addr)(H:Hp)(A':List Addr)(H':Hp):Prop:=bC (hide A H) (hide A' H')
theorem Le.refl{A:List Addr}{H:Hp}:Le A H A H:=bC.refl _
def Le.of(s:bC H H'):Le A H A H':=bC.hide s
theorem Le.trans{A A1 A2:List Addr}{H H1 H2:Hp}(a:Le A H A1 H1)(b:Le A1 H1 A2 H2):Le A H A2 H2:=bC.trans a b
def tI(K:Frag)(B:List Addr)(f:Ex):TE:=λσ H Q=>∃A st d,RS K B A H st σ/\f st=.ok d/\∀v H',bC H H'->Rep K (hide (A++B) H') d v->Q v H'
def kY(K:Frag)(A:List Addr)(H:Hp)(d:D)(v:V):Prop:=
 Rep K (hide A H) d v\/∃a k o ds vs,d=ofK k ds/\v=V.ref a/\H a=some o/\KOk K k a o vs/\bD K (hide A H) ds vs
theorem kY.mono{K:Frag}{A:List Addr}{H H':Hp}{d:D}{v:V}(s:bC H H')(h:kY K A H d v):kY K A H' d v:=by
 rcases h with h|⟨a,k,o,ds,vs,e1,e2,e3,ko,q⟩
 .exact .inl (h.mono (bC.hide s))
 .exact .inr ⟨a,k,o,ds,vs,e1,e2,s _ _ e3,ko,q.mono (bC.hide s)⟩
def tP(K:Frag)(B:List Addr)(f:Ex):TE:=λσ H Q=>∃A st d,RS K B A H st σ/\f st=.ok d/\∀v H',bC H H'->kY K (A++B) H' d v->Q v H'
def tA(K:Frag)(B:List Addr)(f:Exs):TA:=λσ H Q=>∃A st ds,RS K B A H st σ/\f st=.ok ds/\∀vs H',bC H H'->bD K (hide (A++B) H') ds vs->Q vs H'
def tT(K:Frag)(B:List Addr)(f:Ex):TT:=λσ H Q=>∃A st b,RS K B A H st σ/\f st=.ok (.bl b)/\∀H',bC H H'->Q b H'
def tO(K:Frag)(B:List Addr)(f:ExO):TO:=λσ H Q=>∃A st o,RS K B A H st σ/\f st=.ok o/\∀H',bC H H'->Q o H'
def aXb(K:Frag)(B A:List Addr)(H:Hp)(r:Fl)(Dn:Ends):Prop:=match r with
 |.nx st'=>∀A' σ' H',Le A H A' H'->RS K B A' H' st' σ'->Dn.nx σ' H'
 |.bk st'=>∀A' σ' H',Le A H A' H'->RS K B A' H' st' σ'->Dn.bk σ' H'
 |.ct st'=>∀A' σ' H',Le A H A' H'->RS K B A' H' st' σ'->Dn.ct σ' H'
 |.rt d=>∀A' v H',Le A H A' H'->Rep K (hide (A'++B) H') d v->Dn.rt v H'
def aXb.mono{K:Frag}{A1:List Addr} {r:Fl} {Dn:Ends} (l:Le A H A1 H1) (p:aXb K B A H r Dn):aXb K B A1 H1 r Dn:=by
 cases r with
 |nx st=>exact λA' σ' H' l'=>p A' σ' H' (l.trans l')
 |bk st=>exact λA' σ' H' l'=>p A' σ' H' (l.trans l')
 |ct st=>exact λA' σ' H' l'=>p A' σ' H' (l.trans l')
 |rt d=>exact λA' v H' l'=>p A' v H' (l.trans l')
def tS(K:Frag)(B:List Addr)(b:Bd):TS:=λDn σ H=>∃A st r,RS K B A H st σ/\b st=.ok r/\aXb K B A H r Dn
def aMs(K:Frag)(B A:List Addr)(H:Hp)(J:It)(ds:List D):Prop:=∀A' H',Le A H A' H'->Own (A'++B) H'->∀(i:Nat),
 (∀d,ds[i]?=some d->J.go i H'/\∀x H3,J.yld i H' x H3->bC H' H3/\Rep K (hide (A'++B) H3) d x)/\(ds.length<=i->J.stop i H')
def tIt(K:Frag)(B:List Addr)(f:ItE):TI:=λσ H R=>∃A st ds,RS K B A H st σ/\f st=.ok ds/\∀J H',bC H H'->aMs K B A H' J ds->R J H'
def tG(K:Frag)(B:List Addr)(g:Tg):TG:=λv σ H Q=>∃A st d s1,RS K B A H st σ/\Rep K (hide (A++B) H) d v/\g d st=.ok s1/\∀σ',RS K B A H s1 σ'->Q σ' H
section
def cO{t t':TE}(h:PE X e t)(m:∀σ H Q,t' σ H Q->t σ H Q):PE X e t':=λpins s σ H Q I q=>h pins s σ H Q I (m σ H Q q)
def aMt{t t':TT}(h:PT X e t)(m:∀σ H Q,t' σ H Q->t σ H Q):PT X e t':=λpins s σ H Q I q=>h pins s σ H Q I (m σ H Q q)
def aU8{t t':TT}(h:PW X e t)(m:∀σ H Q,t' σ H Q->t σ H Q):PW X e t':=λw pins s σ H Q I q=>h w pins s σ H Q I (m σ H Q q)
def aU9{t t':TA}(h:PA X es t)(m:∀σ H Q,t' σ H Q->t σ H Q):PA X es t':=λpos pins s σ H Q I q=>h pos pins s σ H Q I (m σ H Q q)
def aUa{e:Option Expr}{t t':TO}(h:PO X e t)(m:∀σ H Q,t' σ H Q->t σ H Q):PO X e t':=λpins s σ H Q I q=>h pins s σ H Q I (m σ H Q q)
def jQ{st:Stmt}{t t':TS}(h:PS X st t)(m:∀D σ H,t' D σ H->t D σ H):PS X st t':=λpins s σ H D I q=>h pins s σ H D I (m D σ H q)
def aOx{st:List Stmt}{t t':TS}(h:PSs X st t)(m:∀D σ H,t' D σ H->t D σ H):PSs X st t':=λpins s σ H D I q=>h pins s σ H D I (m D σ H q)
def aUb{t t':TG}(h:PG X e t)(m:∀v σ H Q,t' v σ H Q->t v σ H Q):PG X e t':=λpins s σ H v u Q I r q=>h pins s σ H v u Q I r (m v σ H Q q)
def aMu{t t':TI}(h:L2.PI X tg e t)(m:∀σ H R,t' σ H R->t σ H R):L2.PI X tg e t':=λpins s σ H R I q=>h pins s σ H R I (m σ H R q)
end
section
variable {a b:Expr} {h:Ex}
def aB(i:Nat) (hN:X.N[i]?=some x:=by rfl) (hv:Vis X.env.scope x:=by first|exact Or.inl rfl|exact Or.inr (Or.inl rfl)|exact Or.inr (Or.inr rfl)) (hd:(x==("__debug__":Str))=false:=by decide)
  (hcd:(x==("__classdict__":Str))=false:=by decide):PE X (.Name x pos) (tI X.K B (aA i)):=by
 refine cO (aAh hN hv hd hcd) ?_
 rintro σ H Q ⟨A,st,d,rs,hd,q⟩;unfold aA at hd;split at hd
 .rename_i d' e;cases hd;obtain⟨v,e1,r⟩:=rs.val i _ e;exact⟨v,e1,q v H (bC.refl _) r⟩
 .cases hd
end
end Pu
variable{σ τ:Pu.LSt}
namespace Pu
open PySem PySem.Spec PyProof.Rows L2
section
variable{X:Cx}{B:List Addr}{a b e:Expr}{f g:Ex}{pos:Pos}
def i_c(h:PE X e (tC v))(r:∀H,Rep X.K H d v):PE X e (tI X.K B (eC d)):=cO h (by
 rintro σ H Q ⟨A,st,d',rs,hd,q⟩;cases hd;exact q v H (bC.refl _) (r _))
def aL{i:Int}:PE X (.Constant (.int i) j pos) (tI X.K B (eC (.int i))):=i_c aZl λ_=>bN.mpr rfl
def aCv:PE X (.Constant (.bool q) j pos) (tI X.K B (eC (.bl q))):=i_c bCf λ_=>cU.mpr rfl
def aKn:PE X (.Constant .none j pos) (tI X.K B (eC .non)):=i_c aRs λ_=>pR.mpr rfl
def aDj(s:List Nat)(hx:x=⟨s.toArray⟩:=by first|rfl|decide|decide+kernel):PE X (.Constant (.str x) j pos) (tI X.K B (eC (.str s))):=i_c aZm λ_=>eZ.mpr (by rw[hx])
def aUc{y:Str}{t:Tok}(s:List Nat)(hm:X.mg x=some (.str y t))(hg:Gl X x:=by rfl)(hy:y=⟨s.toArray⟩:=by first|rfl|decide|decide+kernel)(hd:(x==("__debug__":Str))=false:=by decide):PE X (.Name x pos) (tI X.K B (eC (.str s))):=
 i_c (aDz (v:=.str y) hg hm ⟨t,rfl⟩ hd) λ_=>eZ.mpr (by rw[hy])
def aUd{i:Int}{t:Tok}(hm:X.mg x=some (.int i t))(hg:Gl X x:=by rfl)(hd:(x==("__debug__":Str))=false:=by decide):PE X (.Name x pos) (tI X.K B (eC (.int i))):=
 i_c (aDz (v:=.int i) hg hm ⟨t,rfl⟩ hd) λ_=>bN.mpr rfl
def toP(h:PE X e (tI X.K B f)):PE X e (tP X.K B f):=cO h (by
 rintro σ H Q ⟨A,st,d,rs,hd,q⟩;exact⟨A,st,d,rs,hd,λv H' s r=>q v H' s (.inl r)⟩)
def iJ(i:Nat) (hN:X.N[i]?=some x:=by rfl) (hv:Vis X.env.scope x:=by first|exact Or.inl rfl|exact Or.inr (Or.inl rfl)|exact Or.inr (Or.inr rfl)) (hd:(x==("__debug__":Str))=false:=by decide)
  (hcd:(x==("__classdict__":Str))=false:=by decide):PE X (.Name x pos) (tP X.K B (eF i)):=by
 refine cO (aAh hN hv hd hcd) ?_
 rintro σ H Q ⟨A,st,d,rs,hd,q⟩;unfold eF at hd;split at hd
 .rename_i d' e;cases hd;obtain⟨v,e1,r⟩:=rs.val i _ e;exact⟨v,e1,q v H (bC.refl _) (.inl r)⟩
 .rename_i k xs e;cases hd;obtain⟨a,o,vs,e1,m,h,ko,r,_⟩:=rs.lst i _ _ e;exact⟨_,e1,q _ H (bC.refl _) (.inr ⟨a,_,o,xs,vs,rfl,rfl,h,ko,r⟩)⟩
 .cases hd
section
variable{K:Frag}
theorem kY.non(h:kY K A H .non v):v=V.non:=by
 rcases h with h|⟨_,k,_,_,_,e,_⟩
 .exact pR.mp h
 .cases k<;>cases e
theorem kY.bl{q:Bool}(h:kY K A H (.bl q) v):v=V.bl q:=by
 rcases h with h|⟨_,k,_,_,_,e,_⟩
 .exact cU.mp h
 .cases k<;>cases e
theorem kY.int{i:Int}(h:kY K A H (.int i) v):v=V.int i:=by
 rcases h with h|⟨_,k,_,_,_,e,_⟩
 .exact bN.mp h
 .cases k<;>cases e
theorem kY.str{s:List Nat}(h:kY K A H (.str s) v):v=V.str ⟨s.toArray⟩:=by
 rcases h with h|⟨_,k,_,_,_,e,_⟩
 .exact eZ.mp h
 .cases k<;>cases e
theorem kY.tup{ds:List D}(h:kY K A H (.tup ds) v):∃a vs,v=V.ref a/\SqT K H a vs/\bD K (hide A H) ds vs:=by
 rcases h with h|⟨_,k,_,_,_,e,_⟩
 .obtain⟨a,vs,e,q,r⟩:=gO h;exact⟨a,vs,e,yN (aX _ _) q,r⟩
 .cases k<;>cases e
theorem kY.lst{ds:List D}(h:kY K A H (.lst ds) v):∃a vs,v=V.ref a/\SqL K H a vs/\bD K (hide A H) ds vs:=by
 rcases h with h|⟨a,k,o,ds',vs,e,e2,h,ko,r⟩
 .obtain⟨a,vs,e,q,r⟩:=fB.mp h;exact⟨a,vs,e,(aX _ _).seq q,r⟩
 .cases k<;>cases e;have e3:o=.lst vs:=ko;subst e3;exact⟨a,vs,e2,SqL.of h,r⟩
end
def yO(K:Frag)(r:R2)(o:Op2):Prop:=∀(A:List Addr)(H:Hp)(x y d:D)(v u:V)(Q:VK),Own A H->kY K A H x v->kY K A H y u->o x y=.ok d->
 (∀w H',bC H H'->Rep K (hide A H') d w->Q w H')->r v u H Q
def aF6{r:R2}{o:Op2}(sem:yO X.K r o) {Q:VK} (h:tI X.K B (e2 o f g) σ H Q):tOp r (tP X.K B f) (tP X.K B g) σ H Q:=by
 obtain⟨A,st,d,rs,hd,q⟩:=h;obtain⟨x,hx,h2⟩:=R.ok_of hd;obtain⟨y,hy,h3⟩:=R.ok_of h2;refine⟨A,st,x,rs,hx,λv H1 s1 r1=>⟨A,st,y,rs.mono s1,hy,λu H2 s2 r2=>?_⟩⟩
 exact sem (A++B) H2 x y d v u Q (rs.own.mono (s1.trans s2)) (r1.mono s2) r2 h3 λw H' s' r'=>q w H' (s1.trans (s2.trans s')) r'
def aG5{op:Operator}{r:R2}{o:Op2}(ho:OpR X (binaryOp op) r)(sem:yO X.K r o)(ha:PE X a (tP X.K B f))(hb:PE X b (tP X.K B g)):PE X (.BinOp a op b pos) (tI X.K B (e2 o f g)):=
 cO (bCs ho ha hb) λ_ _ _ h=>aF6 sem h
def iV{r:R2}{o:Op2}(ho:OpR X (compareOp op) r)(sem:yO X.K r o)(ha:PE X a (tP X.K B f))(hb:PE X b (tP X.K B g))(hm:behindInMarks op b=false):PE X (.Compare a [op] [b] pos) (tI X.K B (e2 o f g)):=
 cO (aVz ho ha hb hm) λ_ _ _ h=>aF6 sem h
def bDx{f:Ex} {Q:Bool->Hp->Prop} (h:tT X.K B f σ H Q):tI X.K B f σ H λx H'=>∃k,x=.bl k/\Q k H':=by
 obtain⟨A,st,k,rs,hk,q⟩:=h;exact⟨A,st,.bl k,rs,hk,λv H' s r=>⟨k,cU.mp r,q H' s⟩⟩
def dZ{r:R2}{o:Op2}(ho:OpR X (compareOp op) r)(sem:yO X.K r o)(ha:PE X a (tP X.K B f))(hb:PE X b (tP X.K B g))(hm:behindInMarks op b=false):PT X (.Compare a [op] [b] pos) (tT X.K B (e2 o f g)):=
 aMt (aW0 ho ha hb hm) λ_ _ _ h=>aF6 sem (bDx h)
def iK{f:Ex}(h:PE X e (tI X.K B f))(he:∀whole,isTrue e X.env whole=(do let v <- whole;standAt e.pos;holding [v] (truthy v)):=by intro _;rfl):PT X e (tT X.K B f):=
 aMt (aZn h he) λ_ _ _ q=>bDx q
def vM{K:Frag}{g:Int->Int->D} {o:Op2} (hr:∀H i j,Rep K H (g i j) (gv i j)) (ho:∀x y d,o x y=.ok d->∃i j,x=.int i/\y=.int j/\d=g i j):yO K (rI0 gv) o:=by
 intro A H x y d v u Q w rx ry e q;obtain⟨i,j,rfl,rfl,rfl⟩:=ho x y d e;exact⟨i,j,rx.int,ry.int,q _ H (bC.refl _) (hr _ _ _)⟩
def aF7{K:Frag}{C:Int->Int->Prop}{g:Int->Int->D} {o:Op2} (hr:∀H i j,Rep K H (g i j) (gv i j)) (ho:∀x y d,o x y=.ok d->∃i j,x=.int i/\y=.int j/\C i j/\d=g i j):yO K (rI C gv) o:=by
 intro A H x y d v u Q w rx ry e q;obtain⟨i,j,rfl,rfl,c,rfl⟩:=ho x y d e;exact⟨i,j,rx.int,ry.int,c,q _ H (bC.refl _) (hr _ _ _)⟩
def aUe(ha:PE X a (tP X.K B f))(hb:PE X b (tP X.K B g)):PE X (.BinOp a .Sub b pos) (tI X.K B (e2 aM5 f g)):=
 aG5 bA1 (vM (g:=λi j=>.int (i-j)) (λ_ _ _=>bN.mpr rfl) λx y d e=>by
  unfold aM5 at e;split at e
  .cases e;exact⟨_,_,rfl,rfl,rfl⟩
  .cases e) ha hb
def bB8(ha:PE X a (tP X.K B f))(hb:PE X b (tP X.K B g)):PE X (.BinOp a .FloorDiv b pos) (tI X.K B (e2 aNq f g)):=
 aG5 aVy (aF7 (g:=λi j=>.int (i/j)) (λ_ _ _=>bN.mpr rfl) λx y d e=>by
  unfold aNq at e;split at e
  .obtain⟨c,e⟩:=aN e;cases e;exact⟨_,_,rfl,rfl,c,rfl⟩
  .cases e) ha hb
def qX(ha:PE X a (tP X.K B f))(hb:PE X b (tP X.K B g)):PE X (.BinOp a .Mod b pos) (tI X.K B (e2 rG f g)):=
 aG5 bA3 (aF7 (g:=λi j=>.int (i%j)) (λ_ _ _=>bN.mpr rfl) λx y d e=>by
  unfold rG at e;split at e
  .obtain⟨c,e⟩:=aN e;cases e;exact⟨_,_,rfl,rfl,c,rfl⟩
  .cases e) ha hb
def bDy(ha:PE X a (tP X.K B f))(hb:PE X b (tP X.K B g)):PE X (.BinOp a .Pow b pos) (tI X.K B (e2 bAj f g)):=
 aG5 bA4 (aF7 (g:=λi j=>.int (i^j.toNat)) (λ_ _ _=>bN.mpr rfl) λx y d e=>by
  unfold bAj at e;split at e
  .obtain⟨c,e⟩:=aN e;cases e;exact⟨_,_,rfl,rfl,c,rfl⟩
  .cases e) ha hb
def bDz(K:Frag):R2:=λx y H Q=>∃l b xs zs,x=.ref l/\y=.ref b/\SqL K H l xs/\SqL K H b zs/\xs.length+zs.length<=sizeLine/\∀p,H p=none->Q (.ref p) (upd H p (.lst (xs++zs)))
def aXc:OpR X (binaryOp .Add) (bDz X.K):=by
 intro pins s σ H x y v u Q I rx ry h;obtain⟨l,b,xs,zs,rfl,rfl,hH,hB,hz,q⟩:=h;cases rx;cases ry;obtain⟨its,r,⟨⟨cls,dd,data,sl⟩,n,ho,hc,_,hd⟩,z⟩:=I.list hH;obtain⟨its2,r2,⟨⟨cls2,dd2,data2,sl2⟩,n2,ho2,hc2,_,hd2⟩,z2⟩:=I.list hB;simp only at hc hd hc2 hd2;subst hc hd hc2 hd2;have l1:=r.length;have l2:=r2.length;refine concat_meets ⟨_,ho,rfl⟩ ⟨_,ho2,rfl⟩ noFill_list_add seq_list_add PySem.F.slot_list_add PySem.F.entry_list_add (PySem.F.args_list_add_2 _ _) (list_addW l b its.toArray its2.toArray n n2 dd dd2 sl sl2 (by simp only[List.size_toArray];omega)) ⟨ho,ho2,?_⟩
 have ea:its.toArray++its2.toArray=(its++its2).toArray:=by simp
 rw[ea];exact⟨.ref _,_,I.lnew (t':=s.toks) (r.append r2) (by rw[bGg];omega),rfl,q _ I.fresh⟩
def aXd(x y:List Nat):(⟨x.toArray⟩:Str)++(⟨y.toArray⟩:Str)=⟨(x++y).toArray⟩:=by
 show Str.append _ _=_;unfold Str.append;simp
def str_len(x:List Nat):(⟨x.toArray⟩:Str).length=x.length:=by simp[Str.length]
def lim(h:n<=big):n<=sizeLine:=bGy (by rw[qC]at h;exact h:n<=10000000) (by decide)
def dJ(ha:PE X a (tP X.K B f))(hb:PE X b (tP X.K B g)):PE X (.BinOp a .Add b pos) (tI X.K B (e2 cY f g)):=by
 refine aG5 (bA0.or (aLz.or aXc)) ?_ ha hb;intro A H x y d v u Q w rx ry e q;cases x<;>cases y<;>first|(cases e;done)|skip
 .cases e;exact .inl ⟨_,_,rx.int,ry.int,q _ H (bC.refl _) (bN.mpr rfl)⟩
 .obtain⟨c,e⟩:=aN e;cases e;exact .inr (.inl ⟨_,_,rx.str,ry.str,by rw[str_len,str_len];exact lim c,q _ H (bC.refl _) (eZ.mpr (by rw[aXd]))⟩)
 .obtain⟨c,e⟩:=aN e;cases e;obtain⟨l,xs,e1,h1,r1⟩:=rx.lst;obtain⟨m,ys,e2,h2,r2⟩:=ry.lst;have l1:=r1.length;have l2:=r2.length;refine .inr (.inr ⟨l,m,xs,ys,e1,e2,h1,h2,by rw[l1,l2];exact lim c,λp hp=>q _ _ (cI hp) ?_⟩)
  exact gK w hp (r1.append r2)
def aMv{K:Frag}:yO K (rI0 λi j=>.bl (decide (i<=j))) dLe:=vM (g:=λi j=>.bl (decide (i<=j))) (λ_ _ _=>cU.mpr rfl) λx y d e=>by
 unfold dLe at e;split at e
 .cases e;exact⟨_,_,rfl,rfl,rfl⟩
 .cases e
def aMw{K:Frag}:yO K (rI0 λi j=>.bl (decide (j<i))) dGt:=vM (g:=λi j=>.bl (decide (j<i))) (λ_ _ _=>cU.mpr rfl) λx y d e=>by
 unfold dGt at e;split at e
 .cases e;exact⟨_,_,rfl,rfl,rfl⟩
 .cases e
def aMx{K:Frag}:yO K (rI0 λi j=>.bl (decide (j<=i))) dGe:=vM (g:=λi j=>.bl (decide (j<=i))) (λ_ _ _=>cU.mpr rfl) λx y d e=>by
 unfold dGe at e;split at e
 .cases e;exact⟨_,_,rfl,rfl,rfl⟩
 .cases e
theorem kY.ref{K:Frag}{A:List Addr}{H:Hp}{d:D}{v:V}(h:kY K A H d v)(h1:d≠.non)(h2:∀b,d≠.bl b)(h3:∀i,d≠.int i)(h4:∀s,d≠.str s):∃a,v=V.ref a:=by
 rcases h with h|⟨a,_,_,_,_,_,e,_⟩
 .cases d with
  |non=>exact(h1 rfl).elim
  |bl b=>exact(h2 b rfl).elim
  |int i=>exact(h3 i rfl).elim
  |str s=>exact(h4 s rfl).elim
  |tup _=>obtain⟨a,_,e,_⟩:=gO h;exact⟨a,e⟩
  |lst _=>obtain⟨a,_,e,_⟩:=fB.mp h;exact⟨a,e⟩
  |dct _ _ _=>obtain⟨a,_,e,_⟩:=rT.mp h;exact⟨a,e⟩
  |ins _ _ _=>obtain⟨a,_,_,_,_,e,_⟩:=aIn.mp h;exact⟨a,e⟩
  |exn _ _ _=>obtain⟨a,_,_,e,_⟩:=aXa.mp h;exact⟨a,e⟩
  |fn _=>obtain⟨a,e,_⟩:=aMr.mp h;exact⟨a,e⟩
 .exact⟨a,e⟩
def aXe{K:Frag} (h:kY K A H d v):decide (v=V.non)=isN d:=by
 cases d with
 |non=>rw[h.non];rfl
 |bl _=>rw[h.bl];rfl
 |int _=>rw[h.int];rfl
 |str _=>rw[h.str];rfl
 |tup _=>obtain⟨a,vs,e,_⟩:=h.tup;rw[e];rfl
 |lst _=>obtain⟨a,vs,e,_⟩:=h.lst;rw[e];rfl
 |dct _ _ _=>obtain⟨a,e⟩:=h.ref (by intro z;cases z) (by intro _ z;cases z) (by intro _ z;cases z) (by intro _ z;cases z);rw[e];rfl
 |ins _ _ _=>obtain⟨a,e⟩:=h.ref (by intro z;cases z) (by intro _ z;cases z) (by intro _ z;cases z) (by intro _ z;cases z);rw[e];rfl
 |exn _ _ _=>obtain⟨a,e⟩:=h.ref (by intro z;cases z) (by intro _ z;cases z) (by intro _ z;cases z) (by intro _ z;cases z);rw[e];rfl
 |fn _=>obtain⟨a,e⟩:=h.ref (by intro z;cases z) (by intro _ z;cases z) (by intro _ z;cases z) (by intro _ z;cases z);rw[e];rfl
def aUf(n:Nat)(i:Int):L2.ixN n i=Pu.ixN n i:=rfl
theorem bD.atI{K:Frag}{H:Hp}{ds:List D}{vs:List V}{i:Int}{d:D}(r:bD K H ds vs)(e:Pu.atI ds i=some d):∃v,L2.atI vs i=some v/\Rep K H d v:=by
 unfold Pu.atI at e;unfold L2.atI;rw[r.length,aUf];cases h:Pu.ixN ds.length i with
 |none=>rw[h]at e;cases e
 |some j=>
  rw[h]at e;exact r.get e
def yP{o:Option α}{a:α}(h:ofO o=.ok a):o=some a:=by
 cases o with
 |none=>cases h
 |some b=>cases h;rfl
def bB9{K:Frag}{x:D}(hd:bD9 x=false)(A:List Addr)(H:Hp)(x' y d:D)(v u:V)(Q:VK)(w:Own A H)(rx:kY K A H x v)(ry:kY K A H y u)(e:dIx x y=.ok d)(q:∀w H',bC H H'->Rep K (hide A H') d w->Q w H'):rIx K v u H Q:=by
 cases x<;>first|(cases hd;done)|skip
 all_goals cases y
 all_goals first|(cases e;done)|skip
 .rename_i s i;obtain⟨hz,e⟩:=aN e;have e:=yP e;cases h:Pu.atI s i with
  |none=>rw[h]at e;cases e
  |some c=>
   rw[h]at e;cases e;refine .inr (.inr ⟨_,i,c,rx.str,ry.int,by rw[str_len];exact lim hz,?_,q _ H (bC.refl _) (eZ.mpr rfl)⟩)
   show L2.atI s.toArray.toList i=some c;rw[bJk];exact h
 .rename_i ds i;have h:=yP (show ofO (Pu.atI ds i)=.ok d from e)
  obtain⟨l,xs,e1,h1,r1⟩:=rx.tup;obtain⟨z,h2,r2⟩:=r1.atI h;exact .inr (.inl ⟨l,xs,i,z,e1,ry.int,h1,h2,q _ H (bC.refl _) r2⟩)
 .rename_i ds i;have h:=yP (show ofO (Pu.atI ds i)=.ok d from e)
  obtain⟨l,xs,e1,h1,r1⟩:=rx.lst;obtain⟨z,h2,r2⟩:=r1.atI h;exact .inl ⟨l,xs,i,z,e1,ry.int,h1,h2,q _ H (bC.refl _) r2⟩
def yQ(h:PE X a (tI X.K B f)):PE X (.BoolOp .And [a] pos) (tI X.K B f):=aRt h
def aZd(h:PE X a (tI X.K B f)):PE X (.BoolOp .Or [a] pos) (tI X.K B f):=aRt h
def aAa{rest:List Expr}(ha:PE X a (tI X.K B f))(hb:PE X (.BoolOp .And (b::rest) pos) (tI X.K B g)):PE X (.BoolOp .And (a::b::rest) pos) (tI X.K B (pK f g)):=by
 refine cO (aZr ha hb) ?_
 rintro σ H Q ⟨A,st,d,rs,hd,q⟩;obtain⟨x,hx,h2⟩:=R.ok_of hd;obtain⟨k,rfl,h3⟩:=uX h2;refine⟨A,st,_,rs,hx,λv H1 s1 r1=>⟨k,cU.mp r1,?_⟩⟩
 cases k with
 |true=>exact⟨A,st,d,rs.mono s1,h3,λw H' s' r'=>q w H' (s1.trans s') r'⟩
 |false=>cases h3;exact q _ H1 s1 (cU.mpr rfl)
def bE0{rest:List Expr}(ha:PE X a (tI X.K B f))(hb:PE X (.BoolOp .Or (b::rest) pos) (tI X.K B g)):PE X (.BoolOp .Or (a::b::rest) pos) (tI X.K B (eOr f g)):=by
 refine cO (bCj ha hb) ?_
 rintro σ H Q ⟨A,st,d,rs,hd,q⟩;obtain⟨x,hx,h2⟩:=R.ok_of hd;obtain⟨k,rfl,h3⟩:=uX h2;refine⟨A,st,_,rs,hx,λv H1 s1 r1=>⟨k,cU.mp r1,?_⟩⟩
 cases k with
 |true=>cases h3;exact q _ H1 s1 (cU.mpr rfl)
 |false=>exact⟨A,st,d,rs.mono s1,h3,λw H' s' r'=>q w H' (s1.trans s') r'⟩
def bE1(ha:PE X a (tI X.K B f)):PE X (.UnaryOp .Not a pos) (tI X.K B (tD f)):=by
 refine cO (aZs ha) ?_
 rintro σ H Q ⟨A,st,d,rs,hd,q⟩;obtain⟨x,hx,h2⟩:=R.ok_of hd;obtain⟨k,rfl,h3⟩:=uX h2;cases h3;exact⟨A,st,_,rs,hx,λv H1 s1 r1=>⟨k,cU.mp r1,q _ H1 s1 (cU.mpr rfl)⟩⟩
def aF8(h:PT X a (tT X.K B f)):PW X (.BoolOp .And [a] pos) (tT X.K B f):=aVr h
def aOy(h:PT X a (tT X.K B f)):PW X (.BoolOp .Or [a] pos) (tT X.K B f):=aZo h
def aKo{rest:List Expr}(ha:PT X a (tT X.K B f))(hb:PW X (.BoolOp .And (b::rest) pos) (tT X.K B g)):PW X (.BoolOp .And (a::b::rest) pos) (tT X.K B (pK f g)):=by
 refine aU8 (aZp ha hb) ?_
 rintro σ H Q ⟨A,st,d,rs,hd,q⟩;obtain⟨x,hx,h2⟩:=R.ok_of hd;obtain⟨k,rfl,h3⟩:=uX h2;refine⟨A,st,k,rs,hx,λH1 s1=>?_⟩
 cases k with
 |true=>exact⟨A,st,d,rs.mono s1,h3,λH' s'=>q H' (s1.trans s')⟩
 |false=>cases h3;exact q H1 s1
def aXf{rest:List Expr}(ha:PT X a (tT X.K B f))(hb:PW X (.BoolOp .Or (b::rest) pos) (tT X.K B g)):PW X (.BoolOp .Or (a::b::rest) pos) (tT X.K B (eOr f g)):=by
 refine aU8 (bCg ha hb) ?_
 rintro σ H Q ⟨A,st,d,rs,hd,q⟩;obtain⟨x,hx,h2⟩:=R.ok_of hd;obtain⟨k,rfl,h3⟩:=uX h2;refine⟨A,st,k,rs,hx,λH1 s1=>?_⟩
 cases k with
 |true=>cases h3;exact q H1 s1
 |false=>exact⟨A,st,d,rs.mono s1,h3,λH' s'=>q H' (s1.trans s')⟩
def wR(ha:PT X a (tT X.K B f)):PT X (.UnaryOp .Not a pos) (tT X.K B (tD f)):=by
 refine aMt (aZq ha) ?_
 rintro σ H Q ⟨A,st,d,rs,hd,q⟩;obtain⟨x,hx,h2⟩:=R.ok_of hd;obtain⟨k,rfl,h3⟩:=uX h2;cases h3;exact⟨A,st,k,rs,hx,λH1 s1=>q H1 s1⟩
def aQ:PA X [] (tA X.K B aU):=aU9 gC (by
 rintro σ H Q ⟨A,st,d,rs,hd,q⟩;cases hd;exact q [] H (bC.refl _) .nil)
def aD(ha:PE X e (tI X.K B f))(hr:PA X es (tA X.K B r))(hs:starEach (e::es) X.env=(false,eval e X.env)::starEach es X.env:=by rfl):PA X (e::es) (tA X.K B (aC f r)):=by
 refine aU9 (cT ha hr hs) ?_
 rintro σ H Q ⟨A,st,ds,rs,hd,q⟩;obtain⟨x,hx,h2⟩:=R.ok_of hd;obtain⟨xs,hxs,h3⟩:=R.ok_of h2;cases h3;refine⟨A,st,x,rs,hx,λv H1 s1 r1=>⟨A,st,xs,rs.mono s1,hxs,λvs H2 s2 r2=>?_⟩⟩
 exact q _ H2 (s1.trans s2) (.cons (r1.mono (bC.hide s2)) r2)
def qY(h:PA X es (tA X.K B r)):PE X (.Tuple es x1 pos) (tI X.K B (rH r)):=by
 refine cO (bAc h) ?_
 rintro σ H Q ⟨A,st,d,rs,hd,q⟩;obtain⟨xs,hx,h2⟩:=R.ok_of hd;obtain⟨c,h3⟩:=aN h2;cases h3;refine⟨A,st,xs,rs,hx,λvs H1 s1 r1=>⟨by rw[r1.length];exact lim c,λp hp=>q _ _ (s1.trans (cI hp)) ?_⟩⟩
 exact rW (rs.own.mono s1) hp r1
def wU(h:PA X es (tA X.K B r)):PE X (.List es pos) (tI X.K B (iI r)):=by
 refine cO (aS4 h) ?_
 rintro σ H Q ⟨A,st,d,rs,hd,q⟩;obtain⟨xs,hx,h2⟩:=R.ok_of hd;obtain⟨c,h3⟩:=aN h2;cases h3;refine⟨A,st,xs,rs,hx,λvs H1 s1 r1=>⟨by rw[r1.length];exact lim c,λp hp=>q _ _ (s1.trans (cI hp)) ?_⟩⟩
 exact gK (rs.own.mono s1) hp r1
def spI(K:Frag)(np:Nat)(p:List D->R D):Sp:=λvs H Q _=>∃A ds d,Own A H/\bD K (hide A H) ds vs/\ds.length=np/\p ds=.ok d/\∀v H',bC H H'->Rep K (hide A H') d v->Q v H'
def bBa{k:Nat} (F:FnOk X.prog X.w X.K X.mg X.base CX0 k fa fd ps (spI X.K np p)) (hr:Room k X.A) (hm:X.mg x=some (.ref fa))
  (hk:keepIn X.K (.ref fa)=true) (hb:Binds X.K fd ps []) (hl:∀ds d,p ds=.ok d->ds.length=np) (ha:PA X (e::es) (tA X.K B r)) (hg:Gl X x:=by rfl) (hdb:(x==("__debug__":Str))=false:=by decide)
  (he:starEach (e::es) X.env=(false,eval e X.env)::starEach es X.env:=by rfl) (hpl:(backTo pos (starEach es X.env)).any (·.1)=false:=by rfl) :
  PE X (.Call (.Name x p0) (e::es) [] pos) (tI X.K B (aW p r)):=by
 refine cO (aNn F hr hg hm hk hb .nil aNp ha hdb he hpl) ?_
 rintro σ H Q ⟨A,st,d,rs,hd,q⟩;obtain⟨xs,hx,h2⟩:=R.ok_of hd;refine⟨A,st,xs,rs,hx,λvs H1 s1 r1=>?_⟩
 show spI X.K np p (vs++[]) H1 Q E0;rw[bJn];exact⟨A++B,xs,d,rs.own.mono s1,r1,hl _ _ h2,h2,λw H' s' r'=>q w H' (s1.trans s') r'⟩
end
def aIo(a b:Key):eqK (kW a) (kW b)=decide (a=b):=by
 cases a with
 |inl i=>
  cases b with
  |inl j=>unfold kW eqK;rw[aRn]
  |inr y=>unfold kW eqK;rw[aRp]
 |inr x=>
  cases b with
  |inl j=>unfold kW eqK;rw[aRq]
  |inr y=>
   unfold kW eqK;rw[aRo,bKl,bJc,bGl];constructor
   .intro h;cases x;cases y;congr 1;exact ext' h
   .rintro rfl;rfl
theorem aKp:∀(a b:List Key),aG0 (a.map kW) (b.map kW)=decide (a=b)
 |[],[]=>by unfold aG0;simp
 |[],_::_=>by unfold aG0;simp
 |_::_,[]=>by unfold aG0;simp
 |x::a,y::b=>by
  have ih:=aKp a b;rw[bGf,bGf];unfold aG0;rw[aIo,ih,bKl,bLf,bGl,bGl,bGl,List.cons.injEq]
def aKq(a b:List Key):eqK (.tup (a.map kW)) (.tup (b.map kW))=decide (a=b):=by
 rw[<-aKp]
 conv=>lhs;unfold eqK
section
variable{κ:Type}[DecidableEq κ]{E:κ->D}(hE:∀a b,eqK (E a) (E b)=decide (a=b)){K:Frag}{H:Hp}
include hE
theorem aIp(k:κ):∀(kvs:List (κ×V)) (ds:List D),bD K H ds (kvs.map (·.2))->(∀d,pI (kvs.map λp=>E p.1) ds (E k)=some d->∃v,aB4 kvs k=some v/\Rep K H d v)/\(aB4 kvs k).isSome=pJ (kvs.map λp=>E p.1) (E k)
 |[],ds,r=>⟨λd h=>by cases ds<;>simp[pI]at h,rfl⟩
 |(a,v)::kvs,ds,r=>by
  cases ds with
  |nil=>have:=cH.mp r;simp at this
  |cons d ds=>
   obtain⟨v',r',e,h1,h2⟩:=bJ.mp r;rw[bGf]at e;injection e with e1 e2
   subst e1 e2;obtain⟨i1,i2⟩:=aIp k kvs ds h2
   by_cases ha:a=k
   .have hk:eqK (E a) (E k)=true:=by rw[hE,bGl];exact ha
    refine⟨λd' h=>?_,?_⟩
    .unfold pI at h;rw[bGf,bHq,bLt (by simpa using hk)]at h
     cases h;exact⟨v,xJ ha,h1⟩
    .rw[xJ ha];unfold pJ;rw[bGf,bKh,hk];rfl
   .have hk:eqK (E a) (E k)=false:=by rw[hE,bLh];exact ha
    refine⟨λd' h=>?_,?_⟩
    .rw[xK ha];refine i1 d' ?_
     unfold pI at h ⊢;rw[bGf,bHq,bLu (by simpa using hk)]at h
     exact h
    .rw[xK ha,i2];unfold pJ;rw[bGf,bKh,hk];rfl
def aUg(k:κ)(kvs:List (κ×V)):(kvs.any λkv=>decide (kv.1=k))=pJ (kvs.map λp=>E p.1) (E k):=by
 unfold pJ;rw[bKw];congr 1;funext p;simp[hE]
def aOz(k:κ)(v:V)(d:D)(hd:Rep K H d v)(kvs:List (κ×V))(ds:List D)(r:bD K H ds (kvs.map (·.2))) :
  (putK kvs k v).map (λp=>E p.1)=rJ (kvs.map λp=>E p.1) (E k)/\bD K H (wF (kvs.map λp=>E p.1) ds (E k) d) ((putK kvs k v).map (·.2)):=by
 unfold putK rJ wF;rw[aUg hE]
 by_cases hh:pJ (kvs.map λp=>E p.1) (E k)=true
 .rw[bGa hh,bGa hh,bGa hh];constructor
  .rw[bH8];refine bHu λp _=>?_
   simp only[Function.comp_apply];split<;>rfl
  .clear hh
   induction kvs generalizing ds with
   |nil=>have:=r.length;cases ds with|nil=>exact .nil|cons _ _=>simp at this
   |cons p kvs ih=>
    obtain⟨a,w⟩:=p;cases ds with
    |nil=>have:=cH.mp r;simp at this
    |cons d0 ds=>
     obtain⟨v',r',e,h1,h2⟩:=bJ.mp r;rw[bGf]at e;injection e with e1 e2
     subst e1 e2;rw[bGf,bGf,bGf,bHq,bGf];refine .cons ?_ (ih ds h2)
     by_cases ha:a=k
     .have hk:eqK (E a) (E k)=true:=by rw[hE,bGl];exact ha
      rw[bGa hk,bGa ha];exact hd
     .have hk:eqK (E a) (E k)=false:=by rw[hE,bLh];exact ha
      rw[bG7 (by rw[hk];exact bGh),bG7 ha]
      exact h1
 .rw[bG7 hh,bG7 hh,bG7 hh];refine⟨by rw[bGw];rfl,?_⟩
  rw[bGw];exact r.append (.cons hd .nil)
end
def aAs{K:Frag} (r:Rep K H d v) (h:keyOk false d=true):∃k:Key,d=kW k/\v=kV k:=by
 cases d<;>first|(cases h;done)|skip
 .exact⟨.inl _,rfl,bN.mp r⟩
 .exact⟨.inr _,rfl,eZ.mp r⟩
theorem aBr{K:Frag}{H:Hp}:∀{ds:List D}{vs:List V},bD K H ds vs->ds.all bAl=true->∃ks:List Key,ds=ks.map kW/\vs=ks.map kV
 |[],vs,r,_=>⟨[],rfl,cH.mp r⟩
 |d::ds,vs,r,h=>by
  obtain⟨v,r',rfl,h1,h2⟩:=bJ.mp r;rw[List.all_cons,bLf]at h;obtain⟨ks,e1,e2⟩:=aBr h2 h.2;obtain⟨k,e3,e4⟩:=aAs h1 (by cases d<;>first|(cases h.1;done)|rfl)
  exact⟨k::ks,by rw[e1,e3];rfl,by rw[e2,e4];rfl⟩
def yR{K:Frag} (r:Rep K H d v) (h:keyOk true d=true):∃(ks:List Key)(b:Addr),d=.tup (ks.map kW)/\v=.ref b/\H b=some (.tup (ks.map kV)):=by
 cases d<;>first|(cases h;done)|skip
 rename_i xs;obtain⟨b,vs,e,hb,rs⟩:=lY.mp r;have h':xs.all bAl=true:=by
  unfold keyOk at h;simpa using h
 obtain⟨ks,e1,e2⟩:=aBr rs h';exact⟨ks,b,by rw[e1],e,by rw[<-e2];exact hb⟩
def aIq{K:Frag} {t:Bool} {ks:List D} {k:D} {u:V} (rx:kY K A H (.dct t ks ds) v) (ry:Rep K H k u) (hk:keyOk t k=true) :
  ∃a o,v=.ref a/\aCc H a u o/\o.isSome=pJ ks k/\∀d,pI ks ds k=some d->∃w,o=some w/\Rep K (hide A H) d w:=by
 have key:∃a vs,v=V.ref a/\((t=false/\∃kvs:List (Key×V),H a=some (.dK kvs)/\kvs.map (λp=>kW p.1)=ks/\vs=kvs.map (·.2))\/(t=true/\∃kvs:List (List Key×V),H a=some (.dT kvs)/\kvs.map (λp=>D.tup (p.1.map kW))=ks/\vs=kvs.map (·.2)))/\bD K (hide A H) ds vs:=by
  rcases rx with h|⟨a,kk,o,ds',vs,e,e2,h,ko,r⟩
  .obtain⟨a,vs,e,q,r⟩:=rT.mp h;refine⟨a,vs,e,?_,r⟩;rcases q with ⟨q0,kvs,q1,q2⟩|⟨q0,kvs,q1,q2⟩
   .exact .inl ⟨q0,kvs,aX _ _ _ _ q1,q2⟩
   .exact .inr ⟨q0,kvs,aX _ _ _ _ q1,q2⟩
  .cases kk<;>cases e;refine⟨a,vs,e2,?_,r⟩;rcases ko with ⟨q0,kvs,q1,q2⟩|⟨q0,kvs,q1,q2⟩
   .subst q1;exact .inl ⟨q0,kvs,h,q2⟩
   .subst q1;exact .inr ⟨q0,kvs,h,q2⟩
 obtain⟨a,vs,e,q,r⟩:=key;rcases q with ⟨rfl,kvs,q1,rfl,rfl⟩|⟨rfl,kvs,q1,rfl,rfl⟩
 .obtain⟨k',e1,e2⟩:=aAs ry hk;subst e1 e2;obtain⟨i1,i2⟩:=aIp aIo k' kvs ds r;exact⟨a,_,e,aCc.k q1,i2,λd hd=>let ⟨w,h1,h2⟩:=i1 d hd;⟨w,h1,h2⟩⟩
 .obtain⟨k',b,e1,e2,e3⟩:=yR ry hk;subst e1 e2;obtain⟨i1,i2⟩:=aIp aKq k' kvs ds r;exact⟨a,_,e,aCc.t q1 e3,i2,λd hd=>let ⟨w,h1,h2⟩:=i1 d hd;⟨w,h1,h2⟩⟩
section
variable{X:Cx}{B:List Addr}{a b e:Expr}{f g:Ex}{pos:Pos}
def bBb:R2:=λx y H Q=>∃p v,x=.ref p/\aCc H p y (some v)/\Q v H
def aP0(hu:X.A.units+64<cLine):IxR X bBb:=by
 intro value slice pins s σ H x y v u Q I rx ry h hs;obtain⟨p,z,rfl,g,q⟩:=h;cases rx;have hT:=aJm I g;unfold subscriptTail;refine bFs ?_
 rw[getitemInPython_of_ne hT.not_modules];refine bFs (bJr hT PySem.F.slot_dict_getitem.lookup ?_);have h2:wpAny (model X.prog X.w) X.A (getItem (.ref p) u) (EP X pins σ Q) X.xe s:=aQa (by omega) I g ry λw' s3 I3 rw'=>⟨z,H,I3,rw',q⟩
 have fin:wpAny (model X.prog X.w) X.A (subscripted slice false (.ref p) u) (λr s3=>wpAny (model X.prog X.w) X.A (letTemporaryGo value (.ref p) r >>= λ_=>pure r) (EP X pins σ Q) X.xe s3) X.xe s:=by
  rw[hs];exact wpAny_operating (bI6 h2 (λr s3 h3=>bFs (wpAny_letTemporaryGo (bFu h3))) λ_ _ x=>x)
 first
  |exact bFu (bFs fin)
  |exact bFs (bFu (bFs fin))
  |exact bFs fin
def aP1{K:Frag}:yO K (λx y H Q=>rIx K x y H Q\/bBb x y H Q) dIx:=by
 intro A H x y d v u Q w rx ry e q
 by_cases hx:bD9 x=true
 .cases x<;>first|(cases hx;done)|skip
  rename_i t ks vs;have e':aV (keyOk t y=true) (ofO (pI ks vs y))=.ok d:=by cases y<;>exact e
  obtain⟨hk,e2⟩:=aN e';have ryr:Rep K H y u:=by
   rcases ry with h|⟨a,kk,o,ds,vs',e1,_⟩
   .exact h.mono (aX _ _)
   .subst e1;cases kk<;>cases t<;>cases hk
  obtain⟨a,o,e3,g,_,g2⟩:=aIq rx ryr hk;obtain⟨z,e4,rz⟩:=g2 d (yP e2);subst e4;exact .inr ⟨a,z,e3,g,q _ H (bC.refl _) rz⟩
 .exact .inl (bB9 (by simpa using hx) A H x y d v u Q w rx ry e q)
def bZ(hu:X.A.units+64<cLine)(ha:PE X a (tP X.K B f))(hb:PE X b (tP X.K B g))(hs:aHu b:=by intro _ _;rfl):PE X (.Subscript a b pos) (tI X.K B (e2 dIx f g)):=
 cO (aYt (aS8.or (aP0 hu)) ha hb hs) λ_ _ _ h=>aF6 aP1 h
def aQt:lB X (.builtin "len") (λxs H Q=>∃a kvs,xs=[V.ref a]/\H a=some (.dK kvs)/\Q (.int kvs.length) H):=by
 intro pins s σ H xs us Q I r h;obtain⟨a,kvs,rfl,hk,q⟩:=h;obtain⟨u,rfl,ru⟩:=r.one;obtain rfl:u=Value.ref a:=ru;exact bD6 I (.inl hk) λt s' I'=>⟨.int kvs.length,H,I',⟨t,rfl⟩,q⟩
def aXg{K:Frag} {ks:List D} (rx:kY K A H (.dct false ks ds) v):∃a kvs,v=.ref a/\H a=some (.dK kvs)/\kvs.length=ks.length:=by
 rcases rx with h|⟨a,kk,o,ds',vs,e,e2,h,ko,r⟩
 .obtain⟨a,vs,e,q,r⟩:=rT.mp h;rcases q with ⟨_,kvs,q1,rfl,_⟩|⟨q0,_⟩
  .exact⟨a,kvs,e,aX _ _ _ _ q1,by simp⟩
  .cases q0
 .cases kk<;>cases e;rcases ko with ⟨_,kvs,rfl,rfl,_⟩|⟨q0,_⟩
  .exact⟨a,kvs,e2,h,by simp⟩
  .cases q0
end
section
variable{K:Frag} {st:PSt}
def zT{k:OK} (h:(st.set i (some (.v d)))[j]?=some (some (.o k xs))):j≠i/\st[j]?=some (some (.o k xs)):=by
 rw[bGj]at h
 by_cases e:i=j
 .subst e;rw[bGa rfl]at h;split at h<;>simp at h
 .rw[bG7 e]at h;exact⟨λz=>e z.symm,h⟩
def Le.app{A':List Addr} (l:Le A H A' H'):bC (hide (A++B) H) (hide (A'++B) H'):=λb u q=>by
 have q1:=aX _ _ _ _ q;have hb:b∉A++B:=λz=>by rw[lZ z]at q;cases q
 have q2:hide A H b=some u:=by rw[dC λz=>hb (bGx _ z)];exact q1
 have q3:=l b u q2;have hb':b∉A':=λz=>by rw[lZ z]at q3;cases q3
 rw[dC λz=>(bGm.mp z).elim hb' λz=>hb (bG8 _ z)]
 exact aX _ _ _ _ q3
theorem RS.set(r:RS K B A H st σ){d:D}{v:V}(i:Nat)(h:Rep K (hide (A++B) H) d v):RS K B A H (st.set i (some (.v d))) (σ.set i (some v)) where
 len:=by rw[bJd,bJd,r.len]
 own:=r.own
 dis:=r.dis
 val:=λj d' e=>by
  rw[bGj]at e
  by_cases hij:i=j
  .subst hij;rw[bGa rfl]at e;split at e
   .rename_i hl;simp at e;subst e;exact⟨v,by rw[bGj,bGa rfl,bGa (by rw[<-r.len];exact hl)],h⟩
   .cases e
  .rw[bG7 hij]at e;obtain⟨u,e1,q⟩:=r.val j d' e;exact⟨u,by rw[bGj,bG7 hij];exact e1,q⟩
 lst:=λj kk xs e=>by
  obtain⟨hj,e'⟩:=zT e;obtain⟨a,o,vs,e1,m,h1,ko,q,u⟩:=r.lst j kk xs e';refine⟨a,o,vs,by rw[bGj,bG7 λz=>hj z.symm];exact e1,m,h1,ko,q,λk k' ys ek ek2=>?_⟩
  obtain⟨hk,ek'⟩:=zT ek;rw[bGj,bG7 λz=>hk z.symm]at ek2
  exact u k k' ys ek' ek2
def aXh{p:Addr}{o:HO}(n:nT o=true)(w:Own (A++B) H):Own ((p::A)++B) (upd H p o):=λa ha=>by
 by_cases e:a=p
 .subst e;rw[bT];exact n
 .rw[bB e];exact w a ((bG0.mp ha).resolve_left e)
def aF9{p:Addr}{o:HO}(hp:H p=none):bC (hide (A++B) H) (hide ((p::A)++B) (upd H p o)):=λb u q=>by
 have q1:=aX _ _ _ _ q;have hb:b∉A++B:=λz=>by rw[lZ z]at q;cases q
 have ne:b≠p:=aZ q1 hp;rw[dC (show b∉(p::A)++B from λz=>(bG0.mp z).elim ne hb),bB ne]
 exact q1
def aIr{p:Addr}{o:HO}(hp:H p=none):Le A H (p::A) (upd H p o):=λb u q=>by
 have q1:=aX _ _ _ _ q;have hb:b∉A:=λz=>by rw[lZ z]at q;cases q
 have ne:b≠p:=aZ q1 hp;rw[dC λz=>(bG0.mp z).elim ne hb,bB ne]
 exact q1
def RS.setO(r:RS K B A H st σ){p:Addr}{kk:OK}{o:HO} (i:Nat) (hp:H p=none) (ko:KOk K kk p o vs) (h:bD K (hide (A++B) H) ds vs) :
  RS K B (p::A) (upd H p o) (st.set i (some (.o kk ds))) (σ.set i (some (.ref p))) where
 len:=by rw[bJd,bJd,r.len]
 own:=aXh ko.nt r.own
 dis:=λa ha hb=>by
  rcases bG0.mp ha with rfl|ha
  .exact r.own.free hp (bG8 _ hb)
  .exact r.dis a ha hb
 val:=λj d' e=>by
  rw[bGj]at e
  by_cases hij:i=j
  .subst hij;rw[bGa rfl]at e;split at e<;>simp at e
  .rw[bG7 hij]at e;obtain⟨u,e1,q⟩:=r.val j d' e;exact⟨u,by rw[bGj,bG7 hij];exact e1,q.mono (aF9 hp)⟩
 lst:=λj k0 xs e=>by
  rw[bGj]at e
  by_cases hij:i=j
  .subst hij;rw[bGa rfl]at e;split at e
   .rename_i hl;simp at e;obtain⟨e0,e⟩:=e;subst e0 e;refine⟨p,o,vs,by rw[bGj,bGa rfl,bGa (by rw[<-r.len];exact hl)],bFx,bT,ko,h.mono (aF9 hp),λk k' ys ek ek2=>?_⟩
    by_cases hk:i=k
    .exact hk.symm
    .rw[bGj,bG7 hk]at ek ek2;obtain⟨a,o',vs',e1,m,h1,_⟩:=r.lst k k' ys ek;rw[e1]at ek2;cases ek2;rw[hp]at h1;cases h1
   .cases e
  .rw[bG7 hij]at e;obtain⟨a,o',vs',e1,m,h1,ko',q,u⟩:=r.lst j k0 xs e;have ne:a≠p:=aZ h1 hp;refine⟨a,o',vs',by rw[bGj,bG7 hij];exact e1,bFw _ m,by rw[bB ne];exact h1,ko',q.mono (aF9 hp),λk k' ys ek ek2=>?_⟩
   by_cases hk:i=k
   .subst hk;rw[bGj,bGa rfl]at ek2;split at ek2
    .simp at ek2;exact absurd ek2.symm ne
    .cases ek2
   .rw[bGj,bG7 hk]at ek ek2;exact u k k' ys ek ek2
def RS.write(r:RS K B A H st σ) {k0 k1:OK} {o':HO} {vs':List V} (hi:st[i]?=some (some (.o k0 xs))) (hs:σ[i]?=some (some (.ref a))) (ko:KOk K k1 a o' vs') (h:bD K (hide (A++B) H) ds vs') :
  RS K B A (upd H a o') (st.set i (some (.o k1 ds))) σ/\Le A H A (upd H a o'):=by
 obtain⟨a',o,vs,e1,m,h1,_,q,u⟩:=r.lst i k0 xs hi;rw[hs]at e1;cases e1;have hh:hide (A++B) (upd H a o')=hide (A++B) H:=uM (bGx _ m);refine⟨⟨by rw[bJd,r.len],λb hb=>?_,r.dis,λj d e=>?_,λj kj ys e=>?_⟩,?_⟩
 .by_cases e:b=a
  .subst e;rw[bT];exact ko.nt
  .rw[bB e];exact r.own b hb
 .rw[hh];rw[bGj]at e
  by_cases hij:i=j
  .subst hij;rw[bGa rfl]at e;split at e<;>simp at e
  .rw[bG7 hij]at e;exact r.val j d e
 .rw[hh];have ne:∀{k:Nat}{kz:OK}{zs:List D},(st.set i (some (.o k1 ds)))[k]?=some (some (.o kz zs))->∃kw ws,st[k]?=some (some (.o kw ws)):=λ{k kz zs} ek=>by
   rw[bGj]at ek
   by_cases hk:i=k
   .subst hk;exact⟨_,_,hi⟩
   .rw[bG7 hk]at ek;exact⟨_,_,ek⟩
  rw[bGj]at e
  by_cases hij:i=j
  .subst hij;rw[bGa rfl]at e;split at e
   .simp at e;obtain⟨e0,e⟩:=e;subst e0 e;exact⟨a,o',vs',hs,m,bT,ko,h,λk kz zs ek ek2=>let ⟨kw,ws,ew⟩:=ne ek;u k kw ws ew ek2⟩
   .cases e
  .rw[bG7 hij]at e;obtain⟨c,oc,ws,c1,cm,ch,kc,cq,cu⟩:=r.lst j kj ys e;have hca:c≠a:=λz=>by subst z;exact hij (u j kj ys e c1).symm
   exact⟨c,oc,ws,c1,cm,by rw[bB hca];exact ch,kc,cq,λk kz zs ek ek2=>let ⟨kw,ws,ew⟩:=ne ek;cu k kw ws ew ek2⟩
 .unfold Le;rw[uM m];exact bC.refl _
theorem RS.fz1(r:RS K B A H st σ)(i:Nat):∃A',RS K B A' H (Pu.fz1 st i) σ/\Le A H A' H:=by
 unfold Pu.fz1;split
 .rename_i kk xs e;obtain⟨a,o,vs,e1,m,h1,ko,q,u⟩:=r.lst i kk xs e;have hsub:∀b∈A.filter (λc=>decide (c≠a)),b∈A:=λb hb=>(bH7.mp hb).1
  have hsub2:∀b∈A.filter (λc=>decide (c≠a))++B,b∈A++B:=λb hb=>(bGm.mp hb).elim (λz=>bGx _ (hsub b z)) (bG8 _)
  have sm:bC (hide (A++B) H) (hide (A.filter (λc=>decide (c≠a))++B) H):=pZ hsub2
  have hout:a∉A.filter (λc=>decide (c≠a))++B:=λz=>(bGm.mp z).elim (λz=>bIp (bH7.mp z).2 rfl) (r.dis a m)
  refine⟨A.filter λc=>decide (c≠a),⟨by rw[bJd,r.len],λb hb=>r.own b (hsub2 b hb),λb hb=>r.dis b (hsub b hb),λj d ej=>?_,λj kj ys ej=>?_⟩,pZ hsub⟩
  .rw[bGj]at ej
   by_cases hij:i=j
   .subst hij;rw[bGa rfl]at ej;split at ej
    .simp at ej;subst ej;exact⟨_,e1,ko.rep (by rw[dC hout];exact h1) (q.mono sm)⟩
    .cases ej
   .rw[bG7 hij]at ej;obtain⟨v,e2,q2⟩:=r.val j d ej;exact⟨v,e2,q2.mono sm⟩
  .obtain⟨hj,ej'⟩:=zT ej;obtain⟨c,oc,ws,c1,cm,ch,kc,cq,cu⟩:=r.lst j kj ys ej';have hca:c≠a:=λz=>by subst z;exact hj (u j kj ys ej' c1)
   exact⟨c,oc,ws,c1,bH7.mpr ⟨cm,bGe hca⟩,ch,kc,cq.mono sm,λk kz zs ek ek2=>cu k kz zs (zT ek).2 ek2⟩
 .exact⟨A,r,Le.refl⟩
def RS.fz(is:List Nat):∀{A:List Addr}{st:PSt},RS K B A H st σ->∃A',RS K B A' H (is.foldl Pu.fz1 st) σ/\Le A H A' H:=by
 induction is with
 |nil=>exact λr=>⟨_,r,Le.refl⟩
 |cons i is ih=>
  intro A st r;obtain⟨A1,r1,l1⟩:=r.fz1 i;obtain⟨A2,r2,l2⟩:=ih r1;exact⟨A2,r2,l1.trans l2⟩
end
section
variable{X:Cx}{B:List Addr}{a b e:Expr}{f g:Ex}{pos:Pos}{bd bd':Bd}{sm:Stmt}{rest:List Stmt}
def gB:PSs X [] (tS X.K B dB):=aOx aVs (by
 rintro Dn σ H ⟨A,st,r,rs,hr,p⟩;cases hr;exact p A σ H Le.refl rs)
def aG(h1:PS X sm (tS X.K B bd))(h2:PSs X rest (tS X.K B bd')):PSs X (sm::rest) (tS X.K B (bA bd bd')):=by
 refine aOx (aRu h1 h2) ?_
 rintro Dn σ H ⟨A,st,r,rs,hr,p⟩;obtain⟨x,hx,h3⟩:=R.ok_of hr;refine⟨A,st,x,rs,hx,?_⟩;cases x with
 |nx s1=>exact λA' σ' H' l rs'=>⟨A',s1,r,rs',h3,p.mono l⟩
 |rt d=>cases h3;exact p
 |bk s1=>cases h3;exact p
 |ct s1=>cases h3;exact p
def aY(h1:PS X sm (tS X.K B bd)):PSs X [sm] (tS X.K B bd):=aVt h1
def aG6(is:List Nat)(h:PS X sm (tS X.K B bd)):PS X sm (tS X.K B (sFz is bd)):=jQ h (by
 rintro Dn σ H ⟨A,st,r,rs,hr,p⟩;obtain⟨A',rs',l⟩:=RS.fz is rs;exact⟨A',_,r,rs',hr,p.mono l⟩)
def cA(h:PE X e (tI X.K B f)):PS X (.Return (some e) pos) (tS X.K B (cR f)):=jQ (aZt h) (by
 rintro Dn σ H ⟨A,st,r,rs,hr,p⟩;obtain⟨d,hd,h3⟩:=R.ok_of hr;cases h3;exact⟨A,st,d,rs,hd,λv H' s q=>p A v H' (Le.of s) q⟩)
def aUh(h:PE X e (tI X.K B f))(hs:swapsWith e none pos.line X.env=pure false:=by rfl):PS X (.Expr e pos) (tS X.K B (aWf f)):=jQ (aHo h hs) (by
 rintro Dn σ H ⟨A,st,r,rs,hr,p⟩;obtain⟨d,hd,h3⟩:=R.ok_of hr;cases h3;exact⟨A,st,d,rs,hd,λv H' s q=>p A σ H' (Le.of s) (rs.mono s)⟩)
def cB(i:Nat) (he:PE X e (tI X.K B f)) (hN:X.N.Nodup) (hi:X.N[i]?=some x:=by rfl) (hx:Loc X.env.scope x:=by first|exact Or.inl rfl|exact Or.inr rfl) (hs:swapsWith e (some (.Name x pos')) pos.line X.env=pure false:=by rfl)
  (hf:X.fn x=true\/X.env.scope.names.lookup x=some .local:=by first|exact .inl rfl|exact .inr rfl|assumption):PS X (.Assign [.Name x pos'] e pos) (tS X.K B (cN i f)):=jQ (aEg hN hi hx he hs hf) (by
 rintro Dn σ H ⟨A,st,r,rs,hr,p⟩;obtain⟨d,hd,h3⟩:=R.ok_of hr;cases h3;exact⟨A,st,d,rs,hd,λv H' s q=>p A _ H' (Le.of s) ((rs.mono s).set i q)⟩)
def tF(K:Frag)(B:List Addr)(f:Ex):TE:=λσ H Q=>∃A st ds,RS K B A H st σ/\f st=.ok (.lst ds)/\∀p vs H',bC H H'->H' p=none->bD K (hide (A++B) H') ds vs->Q (.ref p) (upd H' p (.lst vs))
def aDk(h:PA X es (tA X.K B r)):PE X (.List es pos) (tF X.K B (iI r)):=by
 refine cO (aS4 h) ?_
 rintro σ H Q ⟨A,st,d,rs,hd,q⟩;obtain⟨xs,hx,h2⟩:=R.ok_of hd;obtain⟨c,h3⟩:=aN h2;cases h3;exact⟨A,st,_,rs,hx,λvs H1 s1 r1=>⟨by rw[r1.length];exact lim c,λp hp=>q p vs H1 s1 hp r1⟩⟩
def vN(i:Nat) (he:PE X e (tF X.K B f)) (hN:X.N.Nodup) (hi:X.N[i]?=some x:=by rfl) (hx:Loc X.env.scope x:=by first|exact Or.inl rfl|exact Or.inr rfl) (hs:swapsWith e (some (.Name x pos')) pos.line X.env=pure false:=by rfl)
  (hf:X.fn x=true\/X.env.scope.names.lookup x=some .local:=by first|exact .inl rfl|exact .inr rfl|assumption):PS X (.Assign [.Name x pos'] e pos) (tS X.K B (rM i f)):=jQ (aEg hN hi hx he hs hf) (by
 rintro Dn σ H ⟨A,st,r,rs,hr,p⟩;obtain⟨d,hd,h3⟩:=R.ok_of hr;cases d<;>first|(cases h3;done)|skip
 cases h3;exact⟨A,st,_,rs,hd,λa vs H' s hn q=>p (a::A) _ _ ((Le.of s).trans (aIr hn)) ((rs.mono s).setO (kk:=.l) i hn rfl q)⟩)
def lH{c:Expr}{t:Ex}{x y:List Stmt}(hc:PT X c (tT X.K B t))(ha:PSs X x (tS X.K B bd))(hb:PSs X y (tS X.K B bd')):PS X (.If c x y pos) (tS X.K B (sIf t bd bd')):=jQ (bCm hc ha hb) (by
 rintro Dn σ H ⟨A,st,r,rs,hr,p⟩;obtain⟨d,hd,h3⟩:=R.ok_of hr;obtain⟨k,rfl,h4⟩:=uX h3;refine⟨A,st,k,rs,hd,λH1 s1=>?_⟩
 cases k with
 |true=>exact⟨A,st,r,rs.mono s1,h4,p.mono (Le.of s1)⟩
 |false=>exact⟨A,st,r,rs.mono s1,h4,p.mono (Le.of s1)⟩)
def bK(i:Nat) (hN:X.N.Nodup) (hi:X.N[i]?=some x:=by rfl) (hx:Loc X.env.scope x:=by first|exact Or.inl rfl|exact Or.inr rfl)
  (hf:X.fn x=true\/X.env.scope.names.lookup x=some .local:=by first|exact .inl rfl|exact .inr rfl|assumption):PG X (.Name x pos) (tG X.K B (tgN i)):=aUb (aVu hN hi hx hf) (by
 rintro v σ H Q ⟨A,st,d,s1,rs,hr,hg,q⟩;cases hg;exact q _ (rs.set i hr))
def tGs(K:Frag)(B:List Addr)(is:List Nat):TGs:=λvs σ H Q=>∃A st ds s1,RS K B A H st σ/\bD K (hide (A++B) H) ds vs/\aCd is ds st=.ok s1/\∀σ',RS K B A H s1 σ'->Q σ' H
def aP2{t t':TGs}(h:PGs X es t)(m:∀v σ H Q,t' v σ H Q->t v σ H Q):PGs X es t':=λpins s σ H v u Q I r q=>h pins s σ H v u Q I r (m v σ H Q q)
def vO:PGs X [] (tGs X.K B []):=aP2 aVv (by
 rintro v σ H Q ⟨A,st,ds,s1,rs,hr,hg,q⟩;cases ds with
 |nil=>cases hg;exact⟨cH.mp hr,q σ rs⟩
 |cons _ _=>exact nomatch hg)
def eE(i:Nat){is:List Nat} (h2:PGs X es (tGs X.K B is)) (hN:X.N.Nodup) (hi:X.N[i]?=some x:=by rfl) (hx:Loc X.env.scope x:=by first|exact Or.inl rfl|exact Or.inr rfl)
  (hf:X.fn x=true\/X.env.scope.names.lookup x=some .local:=by first|exact .inl rfl|exact .inr rfl|assumption)
  (hs:(assignEach (.Name x pos::es) X.env).map (·.2)=assign (.Name x pos) X.env::(assignEach es X.env).map (·.2):=by rfl):PGs X (.Name x pos::es) (tGs X.K B (i::is)):=aP2 (aRv (bK i (pos:=pos) hN hi hx hf) h2 hs) (by
 rintro v σ H Q ⟨A,st,ds,s1,rs,hr,hg,q⟩;cases ds with
 |nil=>exact nomatch hg
 |cons d ds=>
  obtain⟨u,r,e,r1,r2⟩:=bJ.mp hr;exact⟨u,r,e,A,st,d,st.set i (some (.v d)),rs,r1,rfl,λσ' rs'=>⟨A,_,ds,s1,rs',r2,hg,q⟩⟩)
def aFa{it:Addr} (hl:h.IsList l items) (s:Heap.SameBut it h h') (hne:l≠it):h'.IsList l items:=by
 obtain⟨o,e,r⟩:=hl;exact⟨o,(s.2 l hne).trans e,r⟩
theorem aH9{M:Program}{w:World}{A:Around}{E:Value->Shared->Prop}{it t:Addr}{items:Array Value}(hne:t≠it):∀(n i:Nat)(s:Shared)(Q:List Value->Shared->Prop),s.heap.IsListIter it t i->s.heap.IsList t items->i+n<=items.size->
  (∀h',h'.IsListIter it t (i+n)->Heap.SameBut it s.heap h'->Q ((items.toList.drop i).take n) {s with heap:=h'})->wpAny (model M w) A (draw (.ref it) n) Q E s
 |0,i,s,Q,hit,_,_,hQ=>by
  show wpAny _ _ (pure []) Q E s;exact bFu (by simpa using hQ s.heap hit (Heap.SameBut.refl ..))
 |n+1,i,s,Q,hit,ht,hle,hQ=>by
  have hlt:i<items.size:=by omega
  show wpAny _ _ (pyNext (.ref it) >>= _) Q E s;refine bFs (wpAny_pyNext_list_item hit ht (x:=items[i]) (by simp[hlt]) λh1 hit1 hs1=>?_)
  refine bFs (bGo (aH9 hne n (i+1) _ _ hit1 (aFa ht hs1 hne) (by omega) λh2 hit2 hs2=>bFu ?_))
  have hd:items.toList.drop i=items[i] :: items.toList.drop (i+1):=by simp[drop_eq_getElem_cons,hlt]
  have:=hQ h2 (by rw[show i+(n+1)=i+1+n by omega];exact hit2) (hs1.trans hs2)
  rw[hd,List.take_succ_cons]at this;exact this
def aBs{M:Program}{w:World}{A:Around} {s:Shared} {pos:Pos} {t:Addr} {Q:Unit->Shared->Prop} (hh:A.handled=none) (ht:s.heap.IsList t items)
  (hn:(assignEach elts env).length=items.size) (hstar:(assignEach elts env).findIdx? (·.1)=none)
  (h:∀h',Heap.ExtBut s.heap.objs.size s.heap h'->wpAny (model M w) A (assignInOrder ((assignEach elts env).map (·.2)) items.toList) Q E {s with heap:=h'}) :
  wpAny (model M w) A (assign (.Tuple elts x1 pos) env (.ref t)) Q E s:=by
 have hlt:t≠s.heap.objs.size:=by obtain⟨o,ho,_⟩:=ht;exact bGb (bG2 ho)
 rw[assign_Tuple];refine bFs (bJo ?_);unfold unpack;rw[hn,hstar];refine bFs (bGo ?_);unfold unpackItems;refine bFs ?_
 unfold notIterableAtAll;refine bFs (bJr ht.typeIs PySem.F.slot_list_iter.lookup ?_);refine bFu ?_
 simp only[false_eq_true,if_false];refine bFs (bGo (bJe ht ?_));have ht0:(s.heap.push {cls:=.type "list_iterator",data:=.fields #[.ref t,rawInt 0]}).IsList t items:=by
  obtain⟨o,ho,r⟩:=ht;exact⟨o,bFt _ ho,r⟩
 refine bFs (bGo (aH9 hlt items.size 0 _ _ ⟨_,bG1 _ rfl,rfl,rfl⟩ ht0 (by omega) λh1 hit1 hs1=>?_))
 have hall:List.take items.size (List.drop 0 items.toList)=items.toList:=by
  rw[drop_zero];exact bJ2 (by simp)
 rw[hall];rw[bG7 (by simp)]
 refine bFs (bGo (wpAny_pyNext_list_end hh hit1 (aFa ht0 hs1 hlt) (by simp) λh2 he2=>?_))
 simp only[Option.isSome_none,false_eq_true,if_false];refine bFu (h h2 λb o hb e=>he2 b o hb (hs1.extBut b o hb (bFt _ e)))
def bFm(K:Frag)(n:Nat)(t:TGs):TG:=λv σ H Q=>∃a xs,v=.ref a/\(SqT K H a xs\/SqL K H a xs)/\xs.length=n/\t xs σ H Q
def bBc{k:Nat}{t:TGs} (hc:X.calm=true) (h:PGs X es t)
  (hn:(assignEach es X.env).length=n:=by rfl) (hst:(assignEach es X.env).findIdx? (·.1)=none:=by rfl):PG X (.Tuple es k pos) (bFm X.K n t):=by
 intro pins s σ H v u Q I r hw;obtain⟨a,xs,e1,hq,hl,hw⟩:=hw;rcases hq with hq|hq
 .exact aZv hc h hn hst pins s σ H v u Q I r ⟨a,xs,e1,hq,hl,hw⟩
 .subst e1;cases r;obtain⟨its,rv,ht,hz⟩:=I.list hq;refine aBs (I.ok.hd hc) ht.isList (by simp[hn,<-hl,rv.length]) hst λh' hx=>?_
  have I1:Inv X pins σ H {s with heap:=h'}:=I.kept (t':=s.toks) λb o e=>hx b o (bGb (bG2 e)) e
  exact h pins _ σ H xs _ Q I1 (by simpa using rv) hw
def aFb:∀(is:List Nat)(ds:List D)(st:PSt),aCd is ds st=.ok s1->ds.length=is.length:=by
 intro is
 induction is with
 |nil=>intro ds st h;cases ds with|nil=>rfl|cons _ _=>exact nomatch h
 |cons i is ih=>intro ds st h;cases ds with|nil=>exact nomatch h|cons _ ds=>exact congrArg (· + 1) (ih ds _ h)
def aBt{is:List Nat} {k:Nat} (hc:X.calm=true) (h:PGs X es (tGs X.K B is)) (hn:(assignEach es X.env).length=is.length:=by rfl) (hst:(assignEach es X.env).findIdx? (·.1)=none:=by rfl):PG X (.Tuple es k pos) (tG X.K B (tgT is)):=aUb (bBc hc h hn hst) (by
 rintro v σ H Q ⟨A,st,d,s1,rs,hr,hg,q⟩;cases d<;>first|(cases hg;done)|skip
 .rename_i ds;obtain⟨a,vs,e,h1,h2⟩:=gO hr;exact⟨a,vs,e,.inl (yN (aX _ _) h1),by rw[h2.length];exact aFb is ds st hg,A,st,ds,s1,rs,h2,hg,q⟩
 .rename_i ds;obtain⟨a,vs,e,h1,h2⟩:=fB.mp hr;exact⟨a,vs,e,.inr ((aX _ _).seq h1),by rw[h2.length];exact aFb is ds st hg,A,st,ds,s1,rs,h2,hg,q⟩)
def aP3{t:Tg}(he:PE X e (tI X.K B f))(hg:PG X tg (tG X.K B t))(hs:swapsWithSole [tg] e pos.line X.env=pure false:=by rfl)(hw:swappedStores [tg] e X.env=pure none:=by rfl)
  (h1:(assignEach [tg] X.env).map (·.2)=[assign tg X.env]:=by rfl):PS X (.Assign [tg] e pos) (tS X.K B (aM6 t f)):=jQ (aRw he hg hs hw h1) (by
 rintro Dn σ H ⟨A,st,r,rs,hr,p⟩;obtain⟨d,hd,h3⟩:=R.ok_of hr;obtain⟨s1,hs1,h4⟩:=R.ok_of h3;cases h4;exact⟨A,st,d,rs,hd,λv H' s q=>⟨A,st,d,s1,rs.mono s,q,hs1,λσ' rs'=>p A σ' H' (Le.of s) rs'⟩⟩)
def iY{iter:Expr} {t:Tg} (hi:L2.PI X tg iter (tIt X.K B it)) (hg:PG X tg (tG X.K B t)) (hb:PSs X body (tS X.K B bd)) (hp:PassesOwn (model X.prog X.w) X.A X.env X.xe) (hc:X.calm=true)
  (hs:∀x,foldedSetIterable iter X.env x=pure x:=by intro _;rfl):PS X (.For tg iter body [] pos) (tS X.K B (lK t it bd)):=jQ (aZy hp hc hi hg hb hs) (by
 rintro Dn σ H ⟨A,st,r,rs,hr,p⟩;obtain⟨ds,hd,h3⟩:=R.ok_of hr;refine⟨A,st,ds,rs,hd,λJ H1 s1 ito=>?_⟩
 refine⟨λi m σ' H'=>∃A' st',m=ds.length-i/\i<=ds.length/\RS X.K B A' H' st' σ'/\forR t bd (ds.drop i) st'=.ok r/\Le A H1 A' H',⟨ds.length,A,st,by simp,zero_le _,rs.mono s1,by rw[drop_zero];exact h3,Le.refl⟩,?_⟩
 rintro i m σ' H' ⟨A',st',rfl,hle,rs',hf,l⟩;obtain⟨i1,i2⟩:=ito A' H' l rs'.own i
 by_cases hlt:i<ds.length
 .have hd':ds[i]?=some ds[i]:=bFv hlt;obtain⟨go,yl⟩:=i1 _ hd';rw[bIn hlt]at hf;obtain⟨s2,hs2,h5⟩:=R.ok_of hf;obtain⟨fl,hfl,h6⟩:=R.ok_of h5;refine .inr ⟨go,λσ2 H2=>∃A2 st2,i+1<=ds.length/\RS X.K B A2 H2 st2 σ2/\forR t bd (ds.drop (i+1)) st2=.ok r/\Le A H1 A2 H2,?_,λx H2 y=>?_⟩
  .rintro σ2 H2 ⟨A2,st2,hle2,rs2,hf2,l2⟩;exact⟨ds.length-(i+1),by omega,A2,st2,rfl,hle2,rs2,hf2,l2⟩
  .obtain⟨sm,rx⟩:=yl x H2 y;have l5:Le A H1 A' H2:=l.trans (Le.of sm);refine⟨A',st',ds[i],s2,rs'.mono sm,rx,hs2,λσ3 rs3=>⟨A',s2,fl,rs3,hfl,?_⟩⟩
   cases fl with
   |nx s4=>exact λA4 σ4 H4 l4 rs4=>⟨A4,s4,hlt,rs4,h6,l5.trans l4⟩
   |ct s4=>exact λA4 σ4 H4 l4 rs4=>⟨A4,s4,hlt,rs4,h6,l5.trans l4⟩
   |bk s4=>cases h6;exact p.mono ((Le.of s1).trans l5)
   |rt d=>cases h6;exact p.mono ((Le.of s1).trans l5)
 .have e:i=ds.length:=by omega
  subst e;rw[List.drop_length]at hf;cases hf;exact .inl ⟨i2 (bG4 _),p A' σ' H' ((Le.of s1).trans l) rs'⟩)
def aP4(n:Nat){c:Expr}{t:Ex} (hc:PT X c (tT X.K B t)) (hb:PSs X body (tS X.K B bd)) (hp:PassesOwn (model X.prog X.w) X.A X.env X.xe):PS X (.While c body [] pos) (tS X.K B (aI4 n t bd)):=jQ (aRx hp hc hb) (by
 rintro Dn σ H ⟨A,st,r,rs,hr,p⟩;refine⟨λm σ' H'=>∃A' st',RS X.K B A' H' st' σ'/\jP t bd m st'=.ok r/\Le A H A' H',⟨n,A,st,rs,hr,Le.refl⟩,?_⟩
 rintro m σ' H' ⟨A',st',rs',hw,l⟩;cases m with
 |zero=>exact nomatch hw
 |succ m=>
  obtain⟨d,hd,h3⟩:=R.ok_of hw;obtain⟨k,rfl,h4⟩:=uX h3;refine⟨A',st',k,rs',hd,λH1 s1=>?_⟩
  cases k with
  |false=>
   cases h4;exact p A' σ' H1 (l.trans (Le.of s1)) (rs'.mono s1)
  |true=>
   obtain⟨fl,hfl,h6⟩:=R.ok_of h4;refine⟨λσ2 H2=>∃A2 st2,RS X.K B A2 H2 st2 σ2/\jP t bd m st2=.ok r/\Le A H A2 H2,?_,A',st',fl,rs'.mono s1,hfl,?_⟩
   .rintro σ2 H2 ⟨A2,st2,rs2,hf2,l2⟩;exact⟨m,bIh m,A2,st2,rs2,hf2,l2⟩
   .cases fl with
    |nx s4=>exact λA4 σ4 H4 l4 rs4=>⟨A4,s4,rs4,h6,l.trans ((Le.of s1).trans l4)⟩
    |ct s4=>exact λA4 σ4 H4 l4 rs4=>⟨A4,s4,rs4,h6,l.trans ((Le.of s1).trans l4)⟩
    |bk s4=>cases h6;exact p.mono (l.trans (Le.of s1))
    |rt d=>cases h6;exact p.mono (l.trans (Le.of s1)))
def bBd{K:Frag} (hq:SqL K (hide (A++B) H) l vs) (r:bD K (hide (A++B) H) ds vs):aMs K B A H (Itl K l) ds:=by
 intro A' H' le own i;have hq':SqL K H' l vs:=(aX _ _).seq ((Le.app le).seq hq);refine⟨λd hd=>?_,λhl=>⟨vs,hq',by rw[r.length];exact hl⟩⟩
 obtain⟨v,hv,rv⟩:=r.get hd;refine⟨⟨vs,v,hq',hv⟩,λx H3 y=>⟨by rw[y.1];exact bC.refl _,?_⟩⟩
 have hx:=y.2 vs hq';rw[y.1];rw[hv]at hx;cases hx;exact rv.mono (Le.app le)
def bBe{K:Frag} (hq:SqT K (hide (A++B) H) l vs) (r:bD K (hide (A++B) H) ds vs):aMs K B A H (Itt K l) ds:=by
 intro A' H' le own i;have hq':SqT K H' l vs:=yN (aX _ _) (yN (Le.app le) hq);refine⟨λd hd=>?_,λhl=>⟨vs,hq',by rw[r.length];exact hl⟩⟩
 obtain⟨v,hv,rv⟩:=r.get hd;refine⟨⟨vs,v,hq',hv⟩,λx H3 y=>⟨by rw[y.1];exact bC.refl _,?_⟩⟩
 have hx:=y.2 vs hq';rw[y.1];rw[hv]at hx;cases hx;exact rv.mono (Le.app le)
def aUi{K:Frag} {lo:Int}:aMs K B A H (Itr lo n) (qF lo n):=by
 intro A' H' le own i;have hl:(qF lo n).length=n:=by simp[qF]
 refine⟨λd hd=>?_,λh=>by rw[hl]at h;exact h⟩
 have hi:i<n:=by
  have:=(bFy.mp hd).1;rw[hl]at this;exact this
 have e:d=.int (lo+(i:Int)):=by
  unfold qF at hd;rw[bGu,List.getElem?_range hi]at hd;exact(bHl hd).symm
 subst e;exact⟨hi,λx H3 y=>⟨by rw[y.1];exact bC.refl _,bN.mpr y.2⟩⟩
def Its(z:List Nat):It:=⟨λi _=>i<z.length,λi H x H'=>H'=H/\∃c,z[i]?=some c/\x=.str ⟨#[c]⟩,λi _=>z.length<=i⟩
def aUj{w:World}{K:Frag} {it:Addr} {n:String} {t:Tok} (hn:n="str_ascii_iterator"\/n="str_iterator"):Turn P w K tg (Its z) [it] it (λi h=>h.IsStrIter it n ⟨z.toArray⟩ t i) where
 mem:=by simp
 obj:=λi h st b hb=>by
  have e:b=it:=by simpa using hb
  subst e;obtain⟨o,e,c,d⟩:=st;exact⟨o,e,λv z=>by rw[d]at z;cases z⟩
 keep:=λi h h' st k=>let ⟨o,e,r⟩:=st;⟨o,k it (by simp) o e,r⟩
 item:=by
  intro X hP hw hK hc i pins s σ H E I hf st hg;subst hP hw hK;obtain⟨f0,f1,f2,f3,f4,f5⟩:=hf it (by simp)
  have fin:∀v h' tk,SignAt ⟨z.toArray⟩ i v->Heap.IsStrIter h' it n ⟨z.toArray⟩ t (i+1)->(∀b o,b∉[it]->s.heap.get? b=some o->h'.get? b=some o)->
    ∃u,some v=some u/\wpAny (model X.prog X.w) X.A (letOwnedTupleGo tg (.ref it) u) (λ_ s2=>∃x H',Inv X pins σ H' s2/\RelV x u/\(Its z).yld i H x H'/\Heap.IsStrIter s2.heap it n ⟨z.toArray⟩ t (i+1)/\∀b∈[it],H' b=none) E {s with heap:=h',toks:=tk}:=by
   intro v h' tk hv st' kk;obtain⟨c,u,hcu,rfl⟩:=hv;have I1:Inv X pins σ H {s with heap:=h',toks:=tk}:=I.turned (λb o hb e=>kk b o (by simpa using hb) e) f0 f1 f3 f4 f5
   obtain⟨o,e,c',d⟩:=id st';refine⟨_,rfl,aNm (s:={s with heap:=h',toks:=tk}) e c' d (by rcases hn with rfl|rfl<;>decide) ⟨.str ⟨#[c]⟩,H,I1,⟨u,rfl⟩,⟨rfl,c,?_,rfl⟩,st',λb hb=>(hf b hb).1⟩⟩
   simpa using hcu
  have hg2:i<z.length:=hg;have hg':i<(⟨z.toArray⟩:Str).cps.size:=by simpa using hg2
  rcases hn with rfl|rfl
  .exact(Walks.strAscii (prog:=X.prog) (w:=X.w) (I.ok.hd hc) it ⟨z.toArray⟩ t).item i s _ _ hg' st λv h' tk hv st' kk=>fin v h' tk hv st' kk
  .exact(Walks.strWide (prog:=X.prog) (w:=X.w) (I.ok.hd hc) it ⟨z.toArray⟩ t).item i s _ _ hg' st λv h' tk hv st' kk=>fin v h' tk hv st' kk
 done:=by
  intro X hP hw hK hc i pins s σ H E I hf st hg;subst hP hw hK;obtain⟨f0,f1,f2,f3,f4,f5⟩:=hf it (by simp)
  have hg2:z.length<=i:=hg;rcases hn with rfl|rfl
  .exact wpAny_pyNext_ascii_end (I.ok.hd hc) st (by simpa using hg2) λh' eb=>⟨rfl,I.turned (t':=s.toks) (λb o hb e=>eb b o hb e) f0 f1 f3 f4 f5⟩
  .exact wpAny_pyNext_wide_end (I.ok.hd hc) st (by simpa using hg2) λh' eb=>⟨rfl,I.turned (t':=s.toks) (λb o hb e=>eb b o hb e) f0 f1 f3 f4 f5⟩
 self:=λ_ _ _ _ _ st h=>by
  rcases hn with rfl|rfl
  .exact wpAny_pyIter_striter_ascii st h
  .exact wpAny_pyIter_striter_wide st h
def bBf{K:Frag}:aMs K B A H (Its z) (z.map λc=>.str [c]):=by
 intro A' H' le own i;refine⟨λd hd=>?_,λh=>(by simpa using h:z.length<=i)⟩
 rw[bGu]at hd;cases hz:z[i]? with
 |none=>rw[hz]at hd;cases hd
 |some c=>
  rw[hz]at hd;cases hd;refine⟨(bFy.mp hz).1,λx H3 y=>⟨by rw[y.1];exact bC.refl _,?_⟩⟩
  obtain⟨c',hc',rfl⟩:=y.2;rw[hz]at hc';cases hc';exact eZ.mpr rfl
def bFn(K:Frag)(tl:TE):TI:=λσ H R=>tl σ H λx H1=>(∃a,x=.ref a/\(((∃xs,SqL K H1 a xs)/\R (Itl K a) H1)\/((∃xs,SqT K H1 a xs)/\R (Itt K a) H1)))\/∃z:List Nat,x=.str ⟨z.toArray⟩/\R (Its z) H1
def bBg{l:Expr}{tl:TE}(hl:PE X l tl):L2.PI X tg l (bFn X.K tl):=by
 intro pins s σ H R I h;refine thn (hl pins s σ H _ I h) λv s1 ⟨x,H1,I1,r1,q1⟩=>?_
 rcases q1 with ⟨a,e,q⟩|⟨z,rfl,q⟩
 rotate_left
 .obtain⟨t,rfl⟩:=r1;refine wpAny_pyIter_strU ?_
  refine⟨s1.heap.objs.size,[s1.heap.objs.size],_,_,H1,rfl,I1.kept (t':=s1.toks) λb o e=>bFt _ e,aUj (z:=z) (n:=strIterType ⟨z.toArray⟩) (t:=t) (by unfold strIterType;split<;>simp),⟨_,bG1 _ rfl,rfl,rfl⟩,λb hb=>?_,q⟩
  have e:b=s1.heap.objs.size:=by simpa using hb
  subst e;exact I1.fpOk (bG4 _) (I1.hok.fresh (bG4 _))
 subst e;cases r1;rcases q with ⟨⟨xs,hq⟩,q⟩|⟨⟨xs,hq⟩,q⟩
 .obtain⟨its,rv,p,hz⟩:=I1.list hq;refine bJe p.isList ?_
  refine⟨s1.heap.objs.size,[s1.heap.objs.size],_,_,H1,rfl,I1.kept (t':=s1.toks) λb o e=>bFt _ e,aPv a _,⟨_,bG1 _ rfl,rfl,rfl⟩,λb hb=>?_,q⟩
  have e:b=s1.heap.objs.size:=by simpa using hb
  subst e;exact I1.fpOk (bG4 _) (I1.hok.fresh (bG4 _))
 .obtain⟨its,rv,p,hz⟩:=I1.tuple hq;refine wpAny_pyIter_tuple (show s1.heap.IsTuple a its.toArray from p) ?_
  refine⟨s1.heap.objs.size,[s1.heap.objs.size],_,_,H1,rfl,I1.kept (t':=s1.toks) λb o e=>bFt _ e,aLv a _,⟨_,bG1 _ rfl,rfl,rfl⟩,λb hb=>?_,q⟩
  have e:b=s1.heap.objs.size:=by simpa using hb
  subst e;exact I1.fpOk (bG4 _) (I1.hok.fresh (bG4 _))
def iM{l:Expr}(hl:PE X l (tI X.K B f)):L2.PI X tg l (tIt X.K B (itE f)):=aMu (bBg hl) (by
 rintro σ H Rq ⟨A,st,ds,rs,hd,q⟩;obtain⟨x,hx,h2⟩:=R.ok_of hd;refine⟨A,st,x,rs,hx,λv H1 s1 r1=>?_⟩
 cases x<;>first|(cases h2;done)|skip
 .obtain⟨_,h2⟩:=aN h2;cases h2;exact .inr ⟨_,eZ.mp r1,q _ H1 s1 bBf⟩
 .cases h2;obtain⟨a,vs,e,h3,r3⟩:=gO r1;exact .inl ⟨a,e,.inr ⟨⟨vs,yN (aX _ _) h3⟩,q _ H1 s1 (bBe h3 r3)⟩⟩
 .cases h2;obtain⟨a,vs,e,h3,r3⟩:=fB.mp r1;exact .inl ⟨a,e,.inl ⟨⟨vs,(aX _ _).seq h3⟩,q _ H1 s1 (bBd h3 r3)⟩⟩)
def oO{p:Pos}(hm:X.mg "range"=none)(ha:PE X a (tP X.K B f))(hg:Gl X "range":=by rfl)(hs:starEach [a] X.env=[(false,eval a X.env)]:=by rfl):L2.PI X tg (.Call (.Name "range" p) [a] [] pos) (tIt X.K B (iZ f)):=aMu (aPw hg hm (cT ha gC hs) hs) (by
 rintro σ H Rq ⟨A,st,ds,rs,hd,q⟩;obtain⟨x,hx,h2⟩:=R.ok_of hd;obtain⟨j,rfl,h3⟩:=aI2 h2;obtain⟨c,h4⟩:=aN h3;rw[qC]at c;cases h4;exact⟨A,st,_,rs,hx,λv H1 s1 r1=>⟨j,by rw[r1.int],by omega,by omega,q _ H1 s1 aUi⟩⟩)
def bE2{p:Pos}(hm:X.mg "range"=none)(ha:PE X a (tP X.K B f))(hb:PE X b (tP X.K B g))(hg:Gl X "range":=by rfl)(hs:starEach [a,b] X.env=[(false,eval a X.env),(false,eval b X.env)]:=by rfl)(hs2:starEach [b] X.env=[(false,eval b X.env)]:=by rfl)
  (hs3:starEach [a,b] X.env=(false,eval a X.env)::starEach [b] X.env:=by rfl):L2.PI X tg (.Call (.Name "range" p) [a,b] [] pos) (tIt X.K B (bAm f g)):=aMu (aPx hg hm (cT ha (cT hb gC hs2) hs3) hs hs2) (by
 rintro σ H Rq ⟨A,st,ds,rs,hd,q⟩;obtain⟨x,hx,h2⟩:=R.ok_of hd;obtain⟨y,hy,h5⟩:=R.ok_of h2;obtain⟨i,rfl,h6⟩:=aI2 h5;obtain⟨j,rfl,h3⟩:=aI2 h6;obtain⟨c,h4⟩:=aN h3;rw[qC]at c;cases h4;exact⟨A,st,_,rs,hx,λv H1 s1 r1=>⟨A,st,_,rs.mono s1,hy,λu H2 s2 r2=>⟨i,j,by rw[r1.int,r2.int],⟨by omega,by omega,by omega,by omega⟩,q _ H2 (s1.trans s2) aUi⟩⟩⟩)
end
def aUk{K:Frag} (w:Own B H) (r:bD K (hide B H) ds vs):RS K B [] H (ds.map (λd=>some (Sl.v d))++List.replicate (N.length-ds.length) none) (L2.start N vs):=by
 have hl:=r.length;have nov:∀(i:Nat)(s:Sl),(ds.map (λd=>some (Sl.v d))++List.replicate (N.length-ds.length) none)[i]?=some (some s)->∃d,ds[i]?=some d/\s=.v d:=λi s e=>by
  by_cases hi:i<ds.length
  .rw[bH5 (by simpa using hi),List.getElem?_map,List.getElem?_eq_getElem hi]at e
   simp at e;exact⟨ds[i],bFv hi,e.symm⟩
  .rw[bIb (by simpa using hi),List.getElem?_replicate]at e
   split at e<;>simp at e
 refine⟨by unfold L2.start;simp[hl],by rw[nil_append];exact w,λa ha=>absurd ha (by simp),λi d e=>?_,λi kk xs e=>?_⟩
 .obtain⟨d',e1,e2⟩:=nov i _ e;cases e2;obtain⟨v,hv,rv⟩:=r.get e1;refine⟨v,?_,by rw[nil_append];exact rv⟩
  unfold L2.start;have hi:i<vs.length:=(bFy.mp hv).1;rw[bH5 (by simpa using hi),List.getElem?_map,hv]
  rfl
 .obtain⟨d',e1,e2⟩:=nov i _ e;cases e2
def yS(ds:List D)(d:D)(h:fL np n bd ds=.ok d):ds.length=np:=(aN h).1
structure DefOk(P:Program)(w:World)(K:Frag)(mg:Str->Option Value)(base:Heap)(x:Str)(k np:Nat)(p:List D->R D):Prop where
 ex:∃(fa:Addr)(fd:FuncData)(ps:List Str),FnOk P w K mg base CX0 k fa fd ps (spI K np p)/\mg x=some (.ref fa)/\keepIn K (.ref fa)=true/\Binds K fd ps []
 len:∀ds d,p ds=.ok d->ds.length=np
def DefOk.of{w:World}{K:Frag} {k:Nat} (h:FnOk P w K mg base CX0 k fa fd ps (spI K np p)) (m:mg x=some (.ref fa))
  (kp:keepIn K (.ref fa)=true) (b:Binds K fd ps []) (l:∀ds d,p ds=.ok d->ds.length=np):DefOk P w K mg base x k np p:=⟨⟨fa,fd,ps,h,m,kp,b⟩,l⟩
section
variable{X:Cx}{B:List Addr}{a b e:Expr}{f g:Ex}{pos:Pos}
def aO{k:Nat} (h:DefOk X.prog X.w X.K X.mg X.base x k np p) (hr:Room j X.A) (hk:k<=j) (ha:PA X (e::es) (tA X.K B r)) (hg:Gl X x:=by rfl) (hdb:(x==("__debug__":Str))=false:=by decide)
  (he:starEach (e::es) X.env=(false,eval e X.env)::starEach es X.env:=by rfl) (hpl:(backTo pos (starEach es X.env)).any (·.1)=false:=by rfl):PE X (.Call (.Name x p0) (e::es) [] pos) (tI X.K B (aW p r)):=by
 obtain⟨fa,fd,ps,F,m,kp,bd⟩:=h.ex;exact bBa F (hr.mono hk) m kp bd h.len ha hg hdb he hpl
def aMy{K:Frag} {a:Addr} (hS:SqL K H a (ns.map V.int)):bD K H [.lst (ns.map D.int)] [.ref a]:=by
 refine .cons (aF5.mpr ⟨a,_,rfl,hS,?_,λz=>by cases ns<;>cases z⟩) .nil
 clear hS
 induction ns with
 |nil=>exact .nil
 |cons n ns ih=>exact .cons (bN.mpr rfl) ih
def bBh{K:Frag} {a:Addr} {E:XK} (hS:SqL K H a (ns.map V.int)) (h:p [.lst (ns.map D.int)]=.ok (.bl true)):spI K 1 p [.ref a] H (λv _=>v=.bl true) E:=
 ⟨[],[.lst (ns.map D.int)],.bl true,λb hb=>absurd hb (by simp),by rw[aKm];exact aMy hS,rfl,h,λv H' _ r=>cU.mp r⟩
def gQ(hm:X.mg "len"=none)(ha:PE X a (tP X.K B f))(hg:Gl X "len":=by rfl)(hs:starEach [a] X.env=(false,eval a X.env)::starEach [] X.env:=by rfl):PE X (.Call (.Name "len" p0) [a] [] pos) (tI X.K B (e1 gD f)):=by
 refine cO (oJ (aHw.or (aHx.or aQt)) hg hm PySem.boot_len (cT ha gC hs) (he:=hs)) ?_
 rintro σ H Q ⟨A,st,d,rs,hd,q⟩;obtain⟨x,hx,h2⟩:=R.ok_of hd;refine⟨A,st,x,rs,hx,λv H1 s1 r1=>?_⟩
 cases x<;>first|(cases h2;done)|skip
 .obtain⟨c,h3⟩:=aN h2;cases h3;exact .inr (.inl ⟨_,by rw[r1.str],by rw[str_len];exact lim c,by rw[str_len];exact q _ H1 s1 (bN.mpr rfl)⟩)
 .cases h2;obtain⟨l,vs,e,h3,r3⟩:=r1.tup;exact .inl ⟨l,vs,by rw[e],.inr h3,by rw[r3.length];exact q _ H1 s1 (bN.mpr rfl)⟩
 .cases h2;obtain⟨l,vs,e,h3,r3⟩:=r1.lst;exact .inl ⟨l,vs,by rw[e],.inl h3,by rw[r3.length];exact q _ H1 s1 (bN.mpr rfl)⟩
 .rename_i t ks ds;cases t<;>first|(cases h2;done)|skip
  cases h2;obtain⟨a,kvs,e,h3,h4⟩:=aXg r1;exact .inr (.inr ⟨a,kvs,by rw[e],h3,by rw[h4];exact q _ H1 s1 (bN.mpr rfl)⟩)
def aMz:PO X none (tO X.K B xM):=aUa aW6 (by
 rintro σ H Q ⟨A,st,o,rs,ho,q⟩;cases ho;exact q H (bC.refl _))
def aN0(h:PE X e (tP X.K B f)):PO X (some e) (tO X.K B (xN f)):=aUa (aW7 h) (by
 rintro σ H Q ⟨A,st,o,rs,ho,q⟩;obtain⟨x,hx,h2⟩:=R.ok_of ho;obtain⟨i,rfl,h3⟩:=aI2 h2;cases h3;exact⟨A,st,_,rs,hx,λv H1 s1 r1=>⟨i,r1.int,q H1 s1⟩⟩)
theorem aKr{α:Type}(x:List α):∀(k a:Nat),((List.range k).map (a + ·)).filterMap (x[·]?)=(x.drop a).take k
 |0,a=>by simp
 |k+1,a=>by
  rw[bLv,bGf,bJj,bH8];have e:((λb=>a+b) ∘ Nat.succ)=λb=>(a+1)+b:=by funext b;simp only[Function.comp_apply];omega
  rw[e];have ih:=aKr x k (a+1);rw[ih]
  by_cases h:a<x.length
  .rw[bM0,bFv h];simp only[drop_eq_getElem_cons h,List.take_succ_cons]
  .rw[bM0,bHn (by omega)]
   simp only[List.drop_eq_nil_of_le (by omega:x.length<=a),List.drop_eq_nil_of_le (by omega:x.length<=a+1),List.take_nil]
def aP5(n d:Nat)(o:Option Int):(match o with|none=>(d:Int)|some i=>if (1:Int)>0 then max 0 (min (if i<0 then i+(n:Int) else i) (n:Int)) else max (-1) (min (if i<0 then i+(n:Int) else i) ((n:Int)-1)))=((sIx n d o:Nat):Int):=by
 cases o with
 |none=>rfl
 |some i=>
  show (if (1:Int)>0 then _ else _)=(((if i<0 then (i+(n:Int)).toNat else min i.toNat n):Nat):Int)
  rw[bGa (by decide)]
  by_cases h:i<0
  .rw[bGa h,bGa h];omega
  .rw[bG7 h,bG7 h];omega
def aUl(lo hi:Option Int)(n:Nat):Builtin.Str.strSliceIndices lo hi 1 n=(List.range (sIx n n hi-sIx n 0 lo)).map (sIx n 0 lo + ·):=by
 unfold Builtin.Str.strSliceIndices;simp only[show (1:Int)>0 by decide,if_true]
 have e1:=aP5 n 0 lo;have e2:=aP5 n n hi;simp only[show (1:Int)>0 by decide,if_true]at e1 e2
 rw[show ((0:Nat):Int)=0 from rfl]at e1
 refine Eq.trans (congrArg (λz=>sliceRange z _ 1) (show _=((sIx n 0 lo:Nat):Int) from e1)) (Eq.trans (congrArg (λz=>sliceRange _ z 1) (show _=((sIx n n hi:Nat):Int) from e2)) ?_)
 unfold sliceRange;simp only[show (1:Int)>0 by decide,if_true]
 have hc:(if ((sIx n 0 lo:Nat):Int)<((sIx n n hi:Nat):Int) then (((sIx n n hi:Nat):Int)-((sIx n 0 lo:Nat):Int)+1-1)/1 else 0).toNat=sIx n n hi-sIx n 0 lo:=by
  by_cases h:((sIx n 0 lo:Nat):Int)<((sIx n n hi:Nat):Int)
  .rw[bGa h,Int.ediv_one];omega
  .rw[bG7 h];omega
 rw[hc];refine bHu λk _=>?_
 omega
def aXi(n d:Nat)(hd:d<=n)(o:Option Int):sIx n d o<=n:=by
 cases o with
 |none=>exact hd
 |some v=>
  show (if v<0 then (v+(n:Int)).toNat else min v.toNat n)<=n
  by_cases hv:v<0
  .rw[bGa hv];omega
  .rw[bG7 hv];omega
def aQu(x:List Nat)(lo hi:Option Int):Txt.slice ⟨x.toArray⟩ lo hi=⟨(cut x lo hi).toArray⟩:=by
 unfold Txt.slice cut;rw[str_len,aUl,bG6,bIc];have h1:=aXi x.length x.length (bG4 _) hi
 by_cases h:sIx x.length x.length hi-sIx x.length 0 lo=x.length
 .have e0:sIx x.length 0 lo=0\/x.length=0:=by omega
  rw[bGa (by simp[h]),h]
  rcases e0 with e0|e0
  .rw[e0,drop_zero,bLn]
  .rw[bHh.mp e0];simp
 .rw[bG7 (by simp[h])]
  have e:(λ(i:Nat)=>(⟨x.toArray⟩:Str).cps[i]?)=λi=>x[i]?:=by funext i;simp
  rw[e,aKr]
def bFo:V->Option Int->Option Int->Hp->VK->Prop:=λx lo hi H Q=>∃z:List Nat,x=.str ⟨z.toArray⟩/\z.length<=sizeLine/\Q (.str ⟨(cut z lo hi).toArray⟩) H
def bBi:SlR X bFo:=by
 intro pins s σ H x v vl vu lo hi sl Q I rx hs pl pu h;obtain⟨z,rfl,hz,q⟩:=h;obtain⟨t,rfl⟩:=rx;refine⟨"str",_,PySem.F.slot_str_getitem.lookup,typeIs_str _ _ _,?_⟩;have hl:(Txt.slice ⟨z.toArray⟩ lo hi).length<=sizeLine:=bGy (Txt.slice_le _ _ _) (by rw[str_len];exact hz)
 have fin:∀t' k,EP X pins σ Q (.str (Txt.slice ⟨z.toArray⟩ lo hi) t') {s with toks:=k}:=λt' k=>⟨.str ⟨(cut z lo hi).toArray⟩,H,I.tok k,⟨t',by rw[aQu]⟩,q⟩
 cases pl with
 |none=>
  cases pu with
  |none=>exact bIv (l:=none) (u:=none) (st:=none) hs rfl (bKm ⟨hl,fin⟩)
  |int j uj=>exact bIv (l:=none) (u:=some (j,uj)) (st:=none) hs rfl (bKm ⟨hl,fin⟩)
 |int i ui=>
  cases pu with
  |none=>exact bIv (l:=some (i,ui)) (u:=none) (st:=none) hs rfl (bKm ⟨hl,fin⟩)
  |int j uj=>exact bIv (l:=some (i,ui)) (u:=some (j,uj)) (st:=none) hs rfl (bKm ⟨hl,fin⟩)
def aUm{K:Frag} (lo hi:Option Int) (r:bD K H ds vs):bD K H (cut ds lo hi) (aQ5 vs lo hi):=by
 unfold cut aQ5;rw[r.length];exact(r.drop _).take _
def bBj{lo hi:Option Expr}{l u:ExO} (ha:PE X a (tP X.K B f)) (hl:PO X lo (tO X.K B l)) (hu:PO X hi (tO X.K B u)):PE X (.Subscript a (.Slice lo hi none p2) pos) (tI X.K B (eSl f l u)):=by
 refine cO (aS7 (aWa.or bBi) ha hl hu) ?_
 rintro σ H Q ⟨A,st,d,rs,hd,q⟩;obtain⟨x,hx,h2⟩:=R.ok_of hd;obtain⟨l',hl',h3⟩:=R.ok_of h2;obtain⟨u',hu',h4⟩:=R.ok_of h3;refine⟨A,st,x,rs,hx,λv H1 s1 r1=>⟨A,st,l',rs.mono s1,hl',λH2 s2=>⟨A,st,u',rs.mono (s1.trans s2),hu',λH3 s3=>?_⟩⟩⟩
 have r3:=r1.mono (s2.trans s3);cases x<;>first|(cases h4;done)|skip
 .obtain⟨c,h5⟩:=aN h4;cases h5;exact .inr ⟨_,r3.str,lim c,q _ H3 (s1.trans (s2.trans s3)) (eZ.mpr rfl)⟩
 .cases h4;obtain⟨p,vs,e,h6,r6⟩:=r3.lst;refine .inl ⟨p,vs,e,h6,λn hn=>q _ _ (s1.trans (s2.trans (s3.trans (cI hn)))) ?_⟩
  exact gK (rs.own.mono (s1.trans (s2.trans s3))) hn (aUm _ _ r6)
end
def clo(cells:List (Str×Addr)):List (Str×NameKind)->List (Str×Addr)->List (Str×Addr)
 |[],acc=>acc
 |(n,k)::r,acc=>if k == .free then clo cells r ((n,(cells.lookup n).getD 0)::acc) else clo cells r acc
theorem aAt{env:Env}:∀(names:List (Str×NameKind)) (acc:List (Str×Addr)),(∀y∈names,y.2=.free->∃c,env.cells.lookup y.1=some c)->
  (forIn names acc λx cs=>if x.2 == .free then (do let c <- cellOf env x.1;pure (ForInStep.yield ((x.1,c)::cs))) else pure (ForInStep.yield cs):Sem (List (Str×Addr)))=pure (clo env.cells names acc)
 |[],acc,_=>by rw[forIn_nil];rfl
 |(n,k)::r,acc,h=>by
  rw[forIn_cons];unfold clo
  by_cases hk:k=.free
  .subst hk;obtain⟨c,e⟩:=h (n,.free) bFx rfl;have e2:cellOf env n=pure c:=by unfold cellOf;rw[e]
   simp only[beq_self_eq_true,if_true,e2,e,getD_some];show (forIn r ((n,c)::acc) _:Sem (List (Str×Addr)))=_;exact aAt r _ λy hy=>h y (bFw _ hy)
  .have hb:(k==NameKind.free)=false:=by simpa using hk
   simp only[hb,false_eq_true,if_false];show (forIn r acc _:Sem (List (Str×Addr)))=_;exact aAt r _ λy hy=>h y (bFw _ hy)
def aG7{scope:Scope} (h:∀y∈scope.names,y.2=.free->∃c,env.cells.lookup y.1=some c):closureFor scope env=pure (clo env.cells scope.names []):=by
 have q:=aAt (env:=env) scope.names [] h;unfold closureFor;rw[<-q];simp only[pure_bind,bind_pure]
theorem aIs{cells:List (Str×Addr)}:∀(names:List (Str×NameKind)) (acc:List (Str×Addr)) (x:Str) (c:Addr),(∀y∈names,y.2=.free->∃c,cells.lookup y.1=some c)->(x,c)∈clo cells names acc->((x,NameKind.free)∈names/\cells.lookup x=some c)\/(x,c)∈acc
 |[],acc,x,c,_,h=>.inr h
 |(n,k)::r,acc,x,c,hn,h=>by
  unfold clo at h;have hr:∀y∈r,y.2=.free->∃c,cells.lookup y.1=some c:=λy hy=>hn y (bFw _ hy)
  by_cases hk:k=.free
  .subst hk;rw[bGa (by simp)]at h
   obtain⟨c',e⟩:=hn (n,.free) bFx rfl;rcases aIs r _ x c hr h with ⟨h1,h2⟩|h1
   .exact .inl ⟨bFw _ h1,h2⟩
   .rcases bG0.mp h1 with h1|h1
    .cases h1;refine .inl ⟨bFx,?_⟩;have e':cells.lookup n=some c':=e;rw[e'];rfl
    .exact .inr h1
  .rw[bG7 (by simpa using hk)]at h
   rcases aIs r _ x c hr h with ⟨h1,h2⟩|h1
   .exact .inl ⟨bFw _ h1,h2⟩
   .exact .inr h1
theorem aIt{cells:List (Str×Addr)}:∀(names:List (Str×NameKind)) (acc:List (Str×Addr)) (x:Str),((x,NameKind.free)∈names\/∃c,(x,c)∈acc)->∃c,(x,c)∈clo cells names acc
 |[],acc,x,h=>by
  rcases h with h|h
  .cases h
  .exact h
 |(n,k)::r,acc,x,h=>by
  unfold clo
  by_cases hk:k=.free
  .subst hk;rw[bGa (by simp)]
   refine aIt r _ x ?_
   rcases h with h|⟨c,h⟩
   .rcases bG0.mp h with h|h
    .cases h;exact .inr ⟨_,bFx⟩
    .exact .inl h
   .exact .inr ⟨c,bFw _ h⟩
  .rw[bG7 (by simpa using hk)]
   refine aIt r _ x ?_
   rcases h with h|h
   .rcases bG0.mp h with h|h
    .cases h;exact absurd rfl hk
    .exact .inl h
   .exact .inr h
theorem tU{α:Type}:∀{l:List (Str×α)} {x:Str} {c:α},(x,c)∈l->∃c',l.lookup x=some c'
 |(n,v)::r,x,c,h=>by
  rw[bHj];cases hb:x==n with
  |true=>exact⟨v,rfl⟩
  |false=>
   rcases bG0.mp h with h|h
   .cases h;simp at hb
   .exact tU h
theorem mC{env:Env}:∀(names:List (Str×NameKind)) (x:Str),(names.map λ(n,k)=>if (k==NameKind.free&&env.scope.kind == .function&&env.kindOf n==some .cell) then (n,NameKind.cell) else (n,k)).lookup x =
  (names.lookup x).map λk=>if (k==NameKind.free&&env.scope.kind == .function&&env.kindOf x==some .cell) then NameKind.cell else k
 |[],_=>rfl
 |(n,k)::r,x=>by
  have ih:=@mC env r x;rw[bGf,bHj];show List.lookup x ((if (k==NameKind.free&&env.scope.kind == .function&&env.kindOf n==some .cell)=true then (n,NameKind.cell) else (n,k))::_)=_
  cases hx:x==n with
  |true=>
   have e:x=n:=bJc.mp hx;subst e
   by_cases hc:(k==NameKind.free&&env.scope.kind == .function&&env.kindOf x==some .cell)=true
   .rw[bGa hc,bHj,bHj,hx];simp only[map_some];rw[bGa hc]
   .rw[bG7 hc,bHj,bHj,hx];simp only[map_some];rw[bG7 hc]
  |false=>
   by_cases hc:(k==NameKind.free&&env.scope.kind == .function&&env.kindOf n==some .cell)=true
   .rw[bGa hc,bHj,bHj,hx];exact ih
   .rw[bG7 hc,bHj,bHj,hx];exact ih
theorem nU:∀(names:List (Str×NameKind)) (n:Nat) (acc:List (Str×Addr)),cellsFrom n names acc=cellsFrom n names []++acc
 |[],_,_=>rfl
 |(x,k)::r,n,acc=>by
  unfold cellsFrom;split
  .rw[nU r (n+1) ((x,n)::acc),nU r (n+1) [(x,n)],bIq];rfl
  .exact nU r n acc
theorem vP:∀(names:List (Str×NameKind)) (n:Nat) (acc:List (Str×Addr)) (x:Str) (c:Addr),(x,c)∈cellsFrom n names acc->(x,c)∈acc\/(x,NameKind.cell)∈names
 |[],_,_,_,_,h=>.inl h
 |(y,k)::r,n,acc,x,c,h=>by
  unfold cellsFrom at h;split at h
  .rename_i hk;rcases vP r _ _ x c h with z|z
   .rcases bG0.mp z with z|z
    .cases z;exact .inr (by rw[show k=NameKind.cell from by simpa using hk];exact bFx)
    .exact .inl z
   .exact .inr (bFw _ z)
  .rcases vP r _ _ x c h with z|z
   .exact .inl z
   .exact .inr (bFw _ z)
theorem nW:∀(names:List (Str×NameKind)) (n:Nat) (acc:List (Str×Addr)) (x:Str),((x,NameKind.cell)∈names\/∃c,(x,c)∈acc)->∃c,(x,c)∈cellsFrom n names acc
 |[],_,_,x,h=>h.elim (λz=>nomatch z) id
 |(y,k)::r,n,acc,x,h=>by
  unfold cellsFrom;split
  .refine nW r _ _ x ?_
   rcases h with h|⟨c,h⟩
   .rcases bG0.mp h with h|h
    .cases h;exact .inr ⟨n,bFx⟩
    .exact .inl h
   .exact .inr ⟨c,bFw _ h⟩
  .rename_i hk;refine nW r _ _ x ?_
   rcases h with h|h
   .rcases bG0.mp h with h|h
    .cases h;exact absurd rfl hk
    .exact .inl h
   .exact .inr h
theorem aFc{α:Type}(x:Str):∀(l r:List (Str×α)),(l++r).lookup x=(l.lookup x).or (r.lookup x)
 |[],r=>by simp
 |(y,v)::l,r=>by
  rw[bKk,bHj,bHj];cases hb:x==y with
  |true=>rfl
  |false=>exact aFc x l r
theorem nY{α:Type}:∀{l:List (Str×α)} {x:Str} {v:α},(l.map (·.1)).Nodup->(x,v)∈l->l.lookup x=some v
 |(y,w)::l,x,v,nd,h=>by
  rw[bGf,bIj]at nd;rw[bHj];rcases bG0.mp h with h|h
  .cases h;simp
  .have hne:(x==y)=false:=by
    rw[bGs];intro z;exact nd.1 (bGc.mpr ⟨(x,v),h,z⟩)
   rw[hne];exact nY nd.2 h
def aQv{A:Around} {s:Shared} {scope:Scope} {gl:Addr} {cl:List (Str×Addr)} {Q:Env->Shared->Prop}
  (hQ:∀h',h'.Ns s.heap.objs.size (λ_=>none)->(∀b o,s.heap.get? b=some o->h'.get? b=some o)->CellsOk h' (s.heap.objs.size+1) (cellsFrom (s.heap.objs.size+1) scope.names [])->
   Q {scope:=scope,locals:=s.heap.objs.size,globals:=gl,cells:=cellsFrom (s.heap.objs.size+1) scope.names cl,qual:=qual,func:=none,code:=env.code,frame:=env.frame,builtins:=env.builtins} {s with heap:=h'}) :
  wpAny M A (newFunctionEnv scope gl cl [] qual none .none (some env)) Q E s:=by
 simp only[newFunctionEnv,Option.isSome_some,if_true];refine bFs (wpAny_alloc (bFs (wpAny_layCells _ (λname kind cells=>by cases hkc:kind==NameKind.cell<;>simp[hkc]) _ _ _ _ ?_)))
 rw[forIn_nil];refine bFs (bFu (bFu ?_));have ok:=cellsFrom_ok scope.names (s.heap.push {cls:=.type "dict",data:=.dict #[]}) (s.heap.objs.size+1) [] ⟨λ_ _ hm=>(nomatch hm),List.Pairwise.nil⟩ (by rw[bGp];exact bG4 _)
 rw[bGp]at ok;have e:({s with heap:=s.heap.push {cls:=.type "dict",data:=.dict #[]} }:Shared).heap.objs.size=s.heap.objs.size+1:=bGp ..
 rw[e];exact hQ _ ((Heap.Ns.new s.heap (.type "dict")).keeps (pushCells_keeps _ _)) (λb o q=>pushCells_keeps _ _ b o (bFt _ q)) ok
structure CScope(X:Cx)(scope:Scope)(is:List Nat):Prop where
 kind:scope.kind=.function
 nd:(scope.names.map (·.1)).Nodup
 free:∀x∈scope.names,x.2=.free->X.env.kindOf x.1=some .cell\/X.env.kindOf x.1=some .free
 own:∀(i:Nat) x,X.N[i]?=some x->(scope.names.lookup x=some .local\/scope.names.lookup x=some .cell)->i∈is
section
variable{X:Cx}{scope:Scope}{is:List Nat}
theorem CScope.names(S:CScope X scope is):∀x∈scope.names,x.2=.local->scope.names.lookup x.1=some .local:=λx hx e=>nY S.nd (by rw[<-e];exact hx)
def cQ(X:Cx)(scope:Scope)(C:Addr)(s₀:Shared)(H₀:Hp)(fp:List Addr):Cx:=
 {X with s₀:=s₀,H₀:=H₀,env:=compEnvC scope (cellsFrom (C+1) scope.names (clo X.env.cells scope.names [])) C X.env,outer:=X.stack,stack:=X.stack,ex:=fp,fn:=λx=>scope.names.lookup x==some .cell,pn:=[],xe:=λ_ _=>False,calm:=true}
theorem CScope.cells(S:CScope X scope is)(ok:X.Ok):∀y∈scope.names,y.2=.free->∃c,X.env.cells.lookup y.1=some c:=λy hy hf=>ok.has y.1 (S.free y hy hf)
def CScope.lk(S:CScope X scope is)(ok:X.Ok){n:Nat}{x:Str}{c:Addr}(h:(cellsFrom n scope.names (clo X.env.cells scope.names [])).lookup x=some c) :
  ((cellsFrom n scope.names []).lookup x=some c/\scope.names.lookup x=some .cell)\/(scope.names.lookup x=some .free/\X.env.cells.lookup x=some c):=by
 rw[nU,aFc]at h;cases e:(cellsFrom n scope.names []).lookup x with
 |some c'=>
  rw[e]at h;cases h;rcases vP _ _ _ _ _ (bH1 e) with z|z
  .cases z
  .exact .inl ⟨rfl,nY S.nd z⟩
 |none=>
  rw[e]at h;have h:(clo X.env.cells scope.names []).lookup x=some c:=h;rcases aIs scope.names [] x c (S.cells ok) (bH1 h) with ⟨h1,h2⟩|h2
  .exact .inr ⟨nY S.nd h1,h2⟩
  .cases h2
def aKs(is:List Nat)(σ:LSt):LSt:=is.foldl (λτ i=>τ.set i none) σ
def aKt(is:List Nat):∀σ:LSt,(aKs is σ).length=σ.length:=by
 induction is with
 |nil=>exact λ_=>rfl
 |cons i is ih=>intro σ;show (aKs is (σ.set i none)).length=_;rw[ih,bJd]
def aUn(is:List Nat):∀(σ:LSt)(j:Nat)(v:V),(aKs is σ)[j]?=some (some v)->σ[j]?=some (some v)/\j∉is:=by
 induction is with
 |nil=>exact λσ j v h=>⟨h,by simp⟩
 |cons i is ih=>
  intro σ j v h;obtain⟨h1,h2⟩:=ih (σ.set i none) j v h;rw[bGj]at h1
  by_cases e:i=j
  .subst e;rw[bGa rfl]at h1;split at h1<;>cases h1
  .rw[bG7 e]at h1;exact⟨h1,λz=>(bG0.mp z).elim (λz=>e z.symm) h2⟩
def aN1{s:Shared}{fp:List Addr} (S:CScope X scope is) (hc:X.calm=true) (I:Inv X pins σ H s) (hf:∀b∈fp,xH X pins H b) (hlt:∀b∈fp,b<s.heap.objs.size)
  (hn:h'.Ns s.heap.objs.size λ_=>none) (hk:∀b o,s.heap.get? b=some o->h'.get? b=some o) (hcl:CellsOk h' (s.heap.objs.size+1) (cellsFrom (s.heap.objs.size+1) scope.names [])) :
  Inv (cQ X scope s.heap.objs.size s H fp) [] (aKs is σ) H {s with heap:=h',toks:=t'}:=by
 have lk:=@CScope.lk X scope is S I.ok (s.heap.objs.size+1);have nf:∀b∈fp,b≠s.heap.objs.size:=λb hb=>bGb (hlt b hb)
 have cellLt:∀x c,X.env.cells.lookup x=some c->c<s.heap.objs.size:=λx c e=>by
  obtain⟨v,q⟩:=I.cell x c e;exact q.lt
 have ownGe:∀x c,(cellsFrom (s.heap.objs.size+1) scope.names []).lookup x=some c->s.heap.objs.size+1<=c:=λx c e=>(hcl.empty x c (bH1 e)).2
 have has:∀x k,(k=.cell\/k=.free)->scope.names.lookup x=some k->∃c,(cellsFrom (s.heap.objs.size+1) scope.names (clo X.env.cells scope.names [])).lookup x=some c:=λx k hk e=>by
  have hm:=bH1 e;rcases hk with rfl|rfl
  .obtain⟨c,q⟩:=nW scope.names (s.heap.objs.size+1) (clo X.env.cells scope.names []) x (.inl hm);exact tU q
  .obtain⟨c,q⟩:=nW scope.names (s.heap.objs.size+1) (clo X.env.cells scope.names []) x (.inr (aIt (cells:=X.env.cells) scope.names [] x (.inl hm)));exact tU q
 have knd:∀x,(relabel scope X.env).names.lookup x=some .cell\/(relabel scope X.env).names.lookup x=some .free->scope.names.lookup x=some .cell\/scope.names.lookup x=some .free:=λx hx=>by
  unfold relabel at hx;rw[mC]at hx;cases e:scope.names.lookup x with
  |none=>rw[e]at hx;rcases hx with hx|hx<;>cases hx
  |some k=>
   rw[e]at hx;simp only[map_some]at hx
   by_cases hc:(k==NameKind.free&&X.env.scope.kind == .function&&X.env.kindOf x==some .cell)=true
   .simp only[and_eq_true,beq_iff_eq]at hc;exact .inr (by rw[hc.1.1])
   .rw[bG7 hc]at hx;exact hx
 refine⟨⟨I.ok.mod,?_,I.ok.glob,I.ok.blt,bG4 _,λx y c h1 h2=>?_,λx hx=>?_,λx c hfn e=>?_,λ_=>I.ok.hd hc,I.ok.frames,.inl rfl,λb hb=>⟨nf b hb,λx c e z=>?_⟩,I.bs,?_,λb o e hb=>?_,λb hb z=>?_,I.stack,I.stkFree⟩,
  rfl,I.bare,Un.kept hk,⟨_,hn,λi x v e1 e2 e3=>?_⟩,λx c e=>?_,I.hok.fresh (bG4 _),λx c e=>?_,(λp hp=>absurd (show p∈([]:List (Addr×Obj)) from hp) (by simp)),I.hok.kept hk,by rw[aKt];exact I.len⟩
 .show (relabel scope X.env).kind=.function;exact S.kind
 .rcases lk h1 with ⟨a1,_⟩|⟨_,a1⟩ <;> rcases lk h2 with ⟨a2,_⟩|⟨_,a2⟩
  .exact name_of_addr hcl.apart (bH1 a1) (bH1 a2)
  .exact absurd (bG9 (cellLt y c a2) (bL6 (ownGe x c a1))) (bH0 _)
  .exact absurd (bG9 (cellLt x c a1) (bL6 (ownGe y c a2))) (bH0 _)
  .exact I.ok.inj x y c a1 a2
 .rcases knd x hx with e|e
  .exact has x _ (.inl rfl) e
  .exact has x _ (.inr rfl) e
 .have hfn:scope.names.lookup x=some .cell:=bJc.mp hfn;rcases lk e with ⟨a1,_⟩|⟨a1,_⟩
  .have:=ownGe x c a1;show s.heap.objs.size<=c;omega
  .rw[hfn]at a1;cases a1
 .rcases lk e with ⟨a1,_⟩|⟨_,a1⟩
  .have h2:=hlt b hb;rw[<-z]at h2;exact absurd (bG9 h2 (bL6 (ownGe x c a1))) (bH0 _)
  .exact(hf b hb).2.2.2.2.1 x c a1 z
 .exact bGy I.ok.bsz I.sz
 .rcases (hf b hb).2.2.2.1 with z|z
  .exact I.ok.noex b o e z
  .exact absurd (bG9 (bG2 e) (bGy I.ok.bsz z)) (bH0 _)
 .rcases bG0.mp (I.stkSub b z) with z|z
  .exact(hf b hb).2.1 z
  .exact(hf b hb).2.2.1 z
 .obtain⟨e2,hni⟩:=aUn is σ i v e2;have e3:(relabel scope X.env).names.lookup x=some .local\/(relabel scope X.env).names.lookup x=some .cell\/(relabel scope X.env).names.lookup x=some .free:=e3;have hfr:scope.names.lookup x=some .free:=by
   have e4:=e3;unfold relabel at e4;rw[mC]at e4;cases e:scope.names.lookup x with
   |none=>rw[e]at e4;rcases e4 with e4|e4|e4<;>cases e4
   |some k=>
    rw[e]at e4;simp only[map_some]at e4
    by_cases hc:(k==NameKind.free&&X.env.scope.kind == .function&&X.env.kindOf x==some .cell)=true
    .simp only[and_eq_true,beq_iff_eq]at hc;rw[hc.1.1]
    .rw[bG7 hc]at e4;rcases e4 with e4|e4|e4
     .exact absurd (S.own i x e1 (.inl (by rw[e,e4]))) hni
     .exact absurd (S.own i x e1 (.inr (by rw[e,e4]))) hni
     .exact e4
  have hrel:(relabel scope X.env).names.lookup x=some .cell\/(relabel scope X.env).names.lookup x=some .free:=by
   rcases e3 with e3|e3|e3
   .unfold relabel at e3;rw[mC,hfr]at e3;simp only[map_some]at e3;split at e3<;>cases e3
   .exact .inl e3
   .exact .inr e3
  have hvis:=S.free _ (bH1 hfr) rfl;obtain⟨m,hm,hl⟩:=I.loc;obtain⟨u,ru,lu⟩:=hl i x v e1 e2 (.inr hvis);refine⟨u,ru,.inr ⟨hrel,?_⟩⟩;rcases lu with ⟨k1,_⟩|⟨_,c,ec,zc⟩
  .have k1:X.env.kindOf x=some .local:=k1;rcases hvis with q|q<;>rw[k1]at q<;>cases q
  .obtain⟨c2,e5⟩:=has x _ (.inr rfl) hfr;rcases lk e5 with ⟨_,a1⟩|⟨_,a1⟩
   .rw[hfr]at a1;cases a1
   .rw[ec]at a1;cases a1;exact⟨c,e5,zc.keeps hk⟩
 .rcases lk e with ⟨a1,_⟩|⟨_,a1⟩
  .exact⟨_,(hcl.empty x c (bH1 a1)).1⟩
  .obtain⟨v,q⟩:=I.cell x c a1;exact⟨v,q.keeps hk⟩
 .rcases lk e with ⟨a1,_⟩|⟨_,a1⟩
  .exact I.hok.fresh (by have:=ownGe x c a1;omega)
  .exact I.freeC x c a1
end
def aFd(elt target iter c:Expr)(scope:Scope)(pos:Pos)(it acc:Value)(env:Env) :
  compTurn (.ListComp elt [⟨target,iter,[c],0⟩] scope pos) 0 it acc env=(standAt iter.pos >>= λ_=>pyNext it >>= λr=>match r with
   |none=>pure (.done .next)
   |some v=>letOwnedTupleGo target it v >>= λ_=>assign target env v >>= λ_=>isTrue c env (eval c env) >>= λok=>
    if ok=true then (eval elt env >>= λx=>call (.builtin "list.append") [acc,x] >>= λ_=>again (.compLoop (.ListComp elt [⟨target,iter,[c],0⟩] scope pos) 0 it acc env))
    else again (.compLoop (.ListComp elt [⟨target,iter,[c],0⟩] scope pos) 0 it acc env)):=by
 unfold compTurn;simp[forIn_cons,forIn_nil];rfl
def aDw(elt target iter:Expr)(scope:Scope)(pos:Pos)(it acc:Value)(env:Env) :
  compTurn (.ListComp elt [⟨target,iter,[],0⟩] scope pos) 0 it acc env=(standAt iter.pos >>= λ_=>pyNext it >>= λr=>match r with
   |none=>pure (.done .next)
   |some v=>letOwnedTupleGo target it v >>= λ_=>assign target env v >>= λ_=>
    (eval elt env >>= λx=>call (.builtin "list.append") [acc,x] >>= λ_=>again (.compLoop (.ListComp elt [⟨target,iter,[],0⟩] scope pos) 0 it acc env))):=by
 unfold compTurn;simp[forIn_nil];rfl
section
variable{X:Cx}{scope:Scope}{is:List Nat}{elt tg iter:Expr}{pos:Pos}{wi:TI}{g:TG}{te:TE}{tt:TT}
def tLC(is:List Nat)(wi:TI)(g:TG)(tt:TT)(te:TE):TE:=λσ H Q=>wi σ H λJ H1=>∀p,H1 p=none->∃W:Nat->Nat->LSt->List V->Hp->Prop,(∃m,W 0 m (aKs is σ) [] (upd H1 p (.lst [])))/\
 ∀i m τ vs H,W i m τ vs H->H p=some (.lst vs)/\((J.stop i H/\Q (.ref p) H)\/(J.go i H/\∀x H',J.yld i H x H'->g x τ H' λτ2 H2=>tt τ2 H2 λk H3=>
  if k=true then te τ2 H3 λy H4=>H4 p=some (.lst vs)/\vs.length<sizeLine/\∃m',m' < m/\W (i+1) m' τ2 (vs++[y]) (upd H4 p (.lst (vs++[y]))) else ∃m',m' < m/\W (i+1) m' τ2 vs H3))
def aBu{σ5:LSt}{H5:Hp}{s5:Shared}{fp:List Addr} (I:Inv X pins σ H s) (hf:∀b∈fp,xH X pins H b) (hC:s.heap.objs.size<=C) (J:Inv (cQ X scope C s H fp) [] σ5 H5 s5)
  (hs:Heap.SameBut C s5.heap h'):Inv X pins σ H5 {s5 with heap:=h'}:=by
 have hfree:H5 C=none:=J.free;have ne:∀b o,s.heap.get? b=some o->b≠C:=λb o e z=>by
  have:=bG2 e;subst z;exact absurd (bG9 this hC) (bH0 _)
 have u:Un (frs X.stack) fp H H5 s.heap h':=⟨λb o e n hb hx=>hs.extBut b o (ne b o e) (J.base.keep b o e n hb hx),λb o e n hb hx=>by
   obtain⟨sl,q⟩:=J.base.slot b o e n hb hx;exact⟨sl,hs.extBut b _ (ne b o e) q⟩,J.base.free,λb o e hx=>by
   obtain⟨o',q⟩:=J.base.there b o e hx;exact⟨o',hs.extBut b _ (ne b o e) q⟩,J.base.tups,J.base.frzs,J.base.tbls⟩
 have hok:HOk X.prog X.w H5 h':=λb o e=>by
  refine(J.hok b o e).stay (λc v hc q=>hs.extBut c v ?_ q) (λ_ q=>q) λ_ _ q=>q
  rintro rfl;rcases hc with z|z
  .subst z;rw[hfree]at e;cases e
  .rw[hfree]at z;cases z
 obtain⟨hh,gg,dd,tt,os⟩:=s5;have hos:os=s.os:=J.os;subst hos;have fin:=I.call (h':=h') (g':=gg) (d':=dd) (t':=tt) (ch:=fp) u hok J.bare λb hb=>⟨(hf b hb).2.2.2.1,(hf b hb).2.1,(hf b hb).2.2.2.2.1,(hf b hb).2.2.2.2.2⟩
 exact fin
def aHa{p:Addr} {k:Sem α} {Q:α->Shared->Prop} (he:PE Y elt te) (hx:∀e s',Y.xe e s'->E e s') (I:Inv Y pins τ H s) (hw:te τ H λy H4=>H4 p=some (.lst vs)/\vs.length<sizeLine/\∀s',Inv Y pins τ (upd H4 p (.lst (vs++[y]))) s'->wpAny (model Y.prog Y.w) Y.A k Q E s') :
  wpAny (model Y.prog Y.w) Y.A (eval elt Y.env >>= λx=>call (.builtin "list.append") [.ref p,x] >>= λ_=>k) Q E s:=by
 refine bFs (bI6 (he pins s τ H _ I hw) (λu s1 ⟨y,H4,I4,r4,hp,hz,q⟩=>?_) hx)
 obtain⟨z,its,n,r,hl,e⟩:=I4.lstM hp;refine bFs (call_meets bJw ⟨_,e,rfl⟩ PySem.F.entry_list_append (bLb _ _) (PySem.list_append p its.toArray n u (by rw[bGd];omega)) ⟨e,?_⟩)
 refine q _ (I4.lset (its':=its++[u]) (t':=s1.toks) hp e (by simp) (r.append (.cons r4 .nil)) ?_)
 rw[bGg,bHc];omega
end
def aQw{env:Env}{g:TG} {it p:Addr} {fp:List Addr} {tn:Nat->Heap->Prop} {J:It} {R:Result->Shared->Prop} {iterPos:Pos} {rest:Sem Fin}
  (T:Turn Y.prog Y.w Y.K tg J fp it tn) (hc:Y.calm=true) (hE:Y.xe=λ_ _=>False) (hg:PG Y tg g) (hq:(Code.compLoop e 0 (.ref it) (.ref p) Y.env).quiet=true)
  (hden:∀(s:Shared)(Q:Fin->Shared->Prop),wpAny (model Y.prog Y.w) Y.A (pyNext (.ref it) >>= λr=>match r with
    |none=>pure (.done .next)
    |some v=>letOwnedTupleGo tg (.ref it) v >>= λ_=>assign tg Y.env v >>= λ_=>rest) Q (λ_ _=>False) s->
   wpAny (model Y.prog Y.w) (Y.A.under (.compLoop e 0 (.ref it) (.ref p) Y.env)) ((model Y.prog Y.w).den (.compLoop e 0 (.ref it) (.ref p) Y.env)) Q (λ_ _=>False) s)
  (hrest:∀(τ:LSt)(H:Hp)(s:Shared) (pins:List (Addr×Obj)) (vs:List V) (N:Hp->List V->Prop) (Q:Fin->Shared->Prop),Inv Y pins τ H s->
   (tt τ H λk H3=>if k=true then te τ H3 λy H4=>H4 p=some (.lst vs)/\vs.length<sizeLine/\N (upd H4 p (.lst (vs++[y]))) (vs++[y]) else N H3 vs)->
   (∀s' H' ws,Inv Y pins τ H' s'->N H' ws->Q (.again (.compLoop e 0 (.ref it) (.ref p) Y.env)) s')->wpAny (model Y.prog Y.w) Y.A rest Q (λ_ _=>False) s)
  (W:Nat->Nat->LSt->List V->Hp->Prop) {Qe:Hp->Prop}
  (step:∀i m τ vs H,W i m τ vs H->H p=some (.lst vs)/\((J.stop i H/\Qe H)\/(J.go i H/\∀x H',J.yld i H x H'->g x τ H' λτ2 H2=>tt τ2 H2 λk H3=>
   if k=true then te τ2 H3 λy H4=>H4 p=some (.lst vs)/\vs.length<sizeLine/\∃m',m' < m/\W (i+1) m' τ2 (vs++[y]) (upd H4 p (.lst (vs++[y]))) else ∃m',m' < m/\W (i+1) m' τ2 vs H3)))
  (hR:∀τ H s,Inv Y [] τ H s->Qe H->R (.ok .next) s) (I:Inv Y [] τ H s) (st:tn i s.heap) (fr:∀b∈fp,xH Y [] H b) (w:W i m τ vs H) :
  codeAny (model Y.prog Y.w) Y.A (.compLoop e 0 (.ref it) (.ref p) Y.env) R s:=by
 have stat:∀{H':Hp},(∀b∈fp,H' b=none)->∀b∈fp,xH Y [] H' b:=λhn b hb=>⟨hn b hb,(fr b hb).2⟩
 refine codeAny_loop hq (λn s'=>∃i τ' vs' H',Inv Y [] τ' H' s'/\tn i s'.heap/\(∀b∈fp,H' b=none)/\W i n τ' vs' H') (λn s3 hI=>?_) m ⟨i,τ,vs,H,I,st,λb hb=>(fr b hb).1,w⟩
 obtain⟨i,τ3,vs3,H3,I3,st3,fr3,w3⟩:=hI;refine bI6 (hden s3 _ ?_) (λ_ _ q=>q) (λ_ _ q=>q.elim)
 obtain⟨hp,hs⟩:=step i n τ3 vs3 H3 w3;rcases hs with ⟨stop,qe⟩|⟨go,hs⟩
 .refine bFs (thn (T.done Y rfl rfl rfl hc i [] s3 τ3 H3 (λ_ _=>False) I3 (stat fr3) st3 stop) λr s4 ⟨hr,I4⟩=>?_)
  subst hr;exact bFu (hR τ3 H3 s4 I4 qe)
 .refine bFs (thn (T.item Y rfl rfl rfl hc i [] s3 τ3 H3 (λ_ _=>False) I3 (stat fr3) st3 go) λr s4 ⟨u,hr,h4⟩=>?_)
  subst hr;refine bFs (thn h4 λ_ s5 ⟨x,H5,I5,r5,y5,st5,fr5⟩=>?_)
  have I5':=I5.pinned (stat fr5) (T.obj _ _ st5);have hg':=hg _ s5 τ3 H5 x u _ I5' r5 (hs x H5 y5);rw[hE]at hg';refine bFs (thn hg' λ_ s6 ⟨τ6,H6,I6,q6⟩=>?_)
  refine hrest τ6 H6 s6 _ vs3 (λH' ws=>∃m',m' < n/\W (i+1) m' τ6 ws H') _ I6 q6 λs7 H7 ws I7 ⟨m',hm,w7⟩=>?_
  refine⟨rfl,m',hm,i+1,τ6,ws,H7,I7.unpinned,T.keep _ _ _ st5 λb hb o e=>(I7.pin (b,o) (bG8 _ (bG8 _ (uW hb e)))).1,λb hb=>?_,w7⟩
  obtain⟨o,e,d⟩:=T.obj _ _ st5 b hb;exact(I7.pin (b,o) (bG8 _ (bG8 _ (uW hb e)))).2.1
section
variable{X:Cx}{scope:Scope}{is:List Nat}{elt tg iter c:Expr}{pos:Pos}{wi:TI}{g:TG}{te:TE}{tt:TT}
def uN{use:Option (Value->Sem Unit)} {ppos:Pos} {pins:List (Addr×Obj)} {s:Shared} {H:Hp} {Q:VK} {ifs:List Expr} {rest:Env->Value->Value->Sem Fin} (S:CScope X scope is) (hc:X.calm=true) (hi:L2.PI X tg iter wi) (hg:∀C s₀ H₀ fp,PG (cQ X scope C s₀ H₀ fp) tg g)
  (hquiet:∀it acc env,(Code.compLoop (.ListComp elt [⟨tg,iter,ifs,0⟩] scope pos) 0 it acc env).quiet=true)
  (hden:∀C s₀ H₀ fp it p (s:Shared) (Q:Fin->Shared->Prop),wpAny (model X.prog X.w) X.A (pyNext (.ref it) >>= λr=>match r with
    |none=>pure (.done .next)
    |some v=>letOwnedTupleGo tg (.ref it) v >>= λ_=>assign tg (cQ X scope C s₀ H₀ fp).env v >>= λ_=>rest (cQ X scope C s₀ H₀ fp).env (.ref it) (.ref p)) Q (λ_ _=>False) s->
   wpAny (model X.prog X.w) (X.A.under (.compLoop (.ListComp elt [⟨tg,iter,ifs,0⟩] scope pos) 0 (.ref it) (.ref p) (cQ X scope C s₀ H₀ fp).env)) ((model X.prog X.w).den (.compLoop (.ListComp elt [⟨tg,iter,ifs,0⟩] scope pos) 0 (.ref it) (.ref p) (cQ X scope C s₀ H₀ fp).env)) Q (λ_ _=>False) s)
  (hrest:∀C s₀ H₀ fp it p (τ:LSt) (H:Hp) (s:Shared) (pins:List (Addr×Obj)) (vs:List V) (N:Hp->List V->Prop) (Q:Fin->Shared->Prop),Inv (cQ X scope C s₀ H₀ fp) pins τ H s->
   (tt τ H λk H3=>if k=true then te τ H3 λy H4=>H4 p=some (.lst vs)/\vs.length<sizeLine/\N (upd H4 p (.lst (vs++[y]))) (vs++[y]) else N H3 vs)->
   (∀s' H' ws,Inv (cQ X scope C s₀ H₀ fp) pins τ H' s'->N H' ws->Q (.again (.compLoop (.ListComp elt [⟨tg,iter,ifs,0⟩] scope pos) 0 (.ref it) (.ref p) (cQ X scope C s₀ H₀ fp).env)) s')->
   wpAny (model X.prog X.w) X.A (rest (cQ X scope C s₀ H₀ fp).env (.ref it) (.ref p)) Q (λ_ _=>False) s)
  (hs:∀x,foldedSetIterable iter X.env x=pure x) (I:Inv X pins σ H s) (h:tLC is wi g tt te σ H Q)
  (hfin:∀C p H5 s5 m5 s3 H3 fp τ,s3.heap.objs.size<=C->Inv X pins σ H3 s3->(∀b∈fp,xH X pins H3 b)->Inv (cQ X scope C s3 H3 fp) [] τ H5 s5->s5.heap.Ns C m5->Q (.ref p) H5->compPost (model X.prog X.w) X.A X.xe use Qf (.ref p) C (.ok .next) s5) :
  wpAny (model X.prog X.w) X.A (comprehension (.ListComp elt [⟨tg,iter,ifs,0⟩] scope pos) scope X.env ppos (newList []) false (eval iter X.env) use) Qf X.xe s:=by
 refine wpAny_comprehension_free (use:=use) rfl hs (aG7 (S.cells I.ok)) S.kind S.names ?_
 refine thn (hi pins s σ H _ I h) λv s1 h1=>thn h1 λitv s2 h2=>?_
 obtain⟨it,fp,tn,J,H2,e,I2,T,st2,f2,hW⟩:=h2;subst e;refine bHe (aQv λh₁ hns₁ hkp hcl₁=>?_)
 have I3:Inv X pins σ (upd H2 s2.heap.objs.size (.lst [])) {s2 with heap:=s2.heap.push {cls:=.type "list",data:=.seq ([]:List Value).toArray} }:=I2.lnew (t':=s2.toks) .nil (bHp _)
 obtain⟨W,⟨m,w0⟩,step⟩:=hW s2.heap.objs.size I2.fresh;have hob:∀b∈fp,b<s2.heap.objs.size:=λb hb=>let ⟨o,e,_⟩:=T.obj 0 _ st2 b hb;bG2 e
 have hfp:∀b∈fp,xH X pins (upd H2 s2.heap.objs.size (.lst [])) b:=λb hb=>⟨by rw[bB (bGb (hob b hb))];exact(f2 b hb).1,(f2 b hb).2⟩
 have hk:∀b o,(s2.heap.push {cls:=.type "list",data:=.seq ([]:List Value).toArray}).get? b=some o->h₁.get? b=some o:=hkp;have Ic:=aN1 (t':=s2.toks) S hc I3 hfp (λb hb=>bG9 (hob b hb) (by rw[bGp];exact bLa _)) hns₁ hk hcl₁
 have st4:tn 0 h₁:=T.keep 0 _ _ st2 λb _ o e=>hk b o (bFt _ e)
 have fr4:∀b∈fp,xH (cQ X scope _ _ _ fp) [] (upd H2 s2.heap.objs.size (.lst [])) b:=λb hb=>⟨(hfp b hb).1,(Ic.ok.exf b hb).1,Ic.ok.exfs b hb,.inl hb,λx c e=>(Ic.ok.exf b hb).2 x c e,λp hp=>absurd (show p∈([]:List (Addr×Obj)) from hp) (by simp)⟩
 have loop:=aQw (Y:=cQ X scope _ _ _ fp) (e:=.ListComp elt [⟨tg,iter,ifs,0⟩] scope pos) (env:=X.env) (iterPos:=pos) T rfl rfl (hg _ _ _ fp) (hquiet _ _ _) (hden _ _ _ fp it s2.heap.objs.size) (hrest _ _ _ fp it s2.heap.objs.size) W step
  (R:=compPost (model X.prog X.w) X.A X.xe use Qf (.ref s2.heap.objs.size) (s2.heap.push {cls:=.type "list",data:=.seq ([]:List Value).toArray}).objs.size) (λτ H5 s5 I5 q5=>by
   obtain⟨m5,hn5,_⟩:=I5.loc;exact hfin _ _ H5 s5 m5 _ _ fp τ (bG4 _) I3 hfp I5 hn5 q5) Ic st4 fr4 w0
 exact codeAny_compStart_list loop (T.self _ 0 _ _ _ st4 loop)
def qZ{it acc:Value}:(Code.compLoop e 0 it acc env).quiet=true:=rfl
def bBk {it p : Addr}  {Q : Fin -> Shared -> Prop} (h : wpAny (model X.prog X.w) X.A (pyNext (.ref it) >>= fun r => match r with
        |none=>pure (.done .next)
        |some v=>letOwnedTupleGo tg (.ref it) v >>= λ_=>assign tg Y.env v >>= λ_=>(eval elt Y.env >>= λx=>call (.builtin "list.append") [.ref p,x] >>= λ_=>again (.compLoop (.ListComp elt [⟨tg,iter,[],0⟩] scope pos) 0 (.ref it) (.ref p) Y.env))) Q (λ_ _=>False) s) :
      wpAny (model X.prog X.w) (X.A.under (.compLoop (.ListComp elt [⟨tg,iter,[],0⟩] scope pos) 0 (.ref it) (.ref p) Y.env)) ((model X.prog X.w).den (.compLoop (.ListComp elt [⟨tg,iter,[],0⟩] scope pos) 0 (.ref it) (.ref p) Y.env)) Q (λ_ _=>False) s:=by
 show wpAny _ _ ((compTurn (.ListComp elt [⟨tg,iter,[],0⟩] scope pos) 0 (.ref it) (.ref p) Y.env).onRaise (λx=>do noteFrame x Y.env;theTreesLotGoes x)) _ _ s
 refine wpAny_noted ?_
 rw[aDw];exact bFs (bJo (bI6 h (λ_ _ q=>q) λ_ _ q=>q.elim))
def bE3 {it p : Addr}  {Q : Fin -> Shared -> Prop} (h : wpAny (model X.prog X.w) X.A (pyNext (.ref it) >>= fun r => match r with
        |none=>pure (.done .next)
        |some v=>letOwnedTupleGo tg (.ref it) v >>= λ_=>assign tg Y.env v >>= λ_=>(isTrue c Y.env (eval c Y.env) >>= λok=>if ok=true then (eval elt Y.env >>= λx=>call (.builtin "list.append") [.ref p,x] >>= λ_=>again (.compLoop (.ListComp elt [⟨tg,iter,[c],0⟩] scope pos) 0 (.ref it) (.ref p) Y.env))
          else again (.compLoop (.ListComp elt [⟨tg,iter,[c],0⟩] scope pos) 0 (.ref it) (.ref p) Y.env))) Q (λ_ _=>False) s) :
      wpAny (model X.prog X.w) (X.A.under (.compLoop (.ListComp elt [⟨tg,iter,[c],0⟩] scope pos) 0 (.ref it) (.ref p) Y.env)) ((model X.prog X.w).den (.compLoop (.ListComp elt [⟨tg,iter,[c],0⟩] scope pos) 0 (.ref it) (.ref p) Y.env)) Q (λ_ _=>False) s:=by
 show wpAny _ _ ((compTurn (.ListComp elt [⟨tg,iter,[c],0⟩] scope pos) 0 (.ref it) (.ref p) Y.env).onRaise (λx=>do noteFrame x Y.env;theTreesLotGoes x)) _ _ s
 refine wpAny_noted ?_
 rw[aFd];exact bFs (bJo (bI6 h (λ_ _ q=>q) λ_ _ q=>q.elim))
def aEa:TT:=λ_ H Q=>Q true H
def aUo(hY:Y.xe=λ_ _=>False)(he:PE Y elt te){it p:Addr}(τ:LSt)(H:Hp)(s:Shared)(pins:List (Addr×Obj))(vs:List V)(N:Hp->List V->Prop)(Q:Fin->Shared->Prop)(I:Inv Y pins τ H s)
  (h:aEa τ H λk H3=>if k=true then te τ H3 λy H4=>H4 p=some (.lst vs)/\vs.length<sizeLine/\N (upd H4 p (.lst (vs++[y]))) (vs++[y]) else N H3 vs)
  (mono:∀(Q Q':VK),(∀v H',Q v H'->Q' v H')->te τ H Q->te τ H Q')
  (q:∀s' H' ws,Inv Y pins τ H' s'->N H' ws->Q (.again (.compLoop (.ListComp elt [⟨tg,iter,[],0⟩] scope pos) 0 (.ref it) (.ref p) Y.env)) s') :
  wpAny (model Y.prog Y.w) Y.A (eval elt Y.env >>= λx=>call (.builtin "list.append") [.ref p,x] >>= λ_=>again (.compLoop (.ListComp elt [⟨tg,iter,[],0⟩] scope pos) 0 (.ref it) (.ref p) Y.env)) Q (λ_ _=>False) s:=by
 have h':te τ H λy H4=>H4 p=some (.lst vs)/\vs.length<sizeLine/\N (upd H4 p (.lst (vs++[y]))) (vs++[y]):=h
 exact aHa he (by rw[hY];exact λ_ _ z=>z) I (mono _ _ (λy H4 ⟨a,b,n⟩=>⟨a,b,λs' I'=>bFu (q s' _ _ I' n)⟩) h')
end
section
variable{K:Frag} {st:PSt}
def aXj(is:List Nat):∀st:PSt,(clr is st).length=st.length:=by
 induction is with
 |nil=>exact λ_=>rfl
 |cons i is ih=>intro st;show (clr is (st.set i none)).length=_;rw[ih,bJd]
def aEb(is:List Nat):∀(st:PSt)(j:Nat)(x:Sl),(clr is st)[j]?=some (some x)->st[j]?=some (some x)/\j∉is:=by
 induction is with
 |nil=>exact λσ j v h=>⟨h,by simp⟩
 |cons i is ih=>
  intro σ j v h;obtain⟨h1,h2⟩:=ih (σ.set i none) j v h;rw[bGj]at h1
  by_cases e:i=j
  .subst e;rw[bGa rfl]at h1;split at h1<;>cases h1
  .rw[bG7 e]at h1;exact⟨h1,λz=>(bG0.mp z).elim (λz=>e z.symm) h2⟩
def aFe(is:List Nat):∀(σ:LSt)(j:Nat),j∉is->(aKs is σ)[j]?=σ[j]?:=by
 induction is with
 |nil=>exact λσ j _=>rfl
 |cons i is ih=>
  intro σ j h;show (aKs is (σ.set i none))[j]?=_;rw[ih _ j λz=>h (bFw _ z),bGj,bG7 (show ¬ i=j from λz=>h (z ▸ bFx))]
theorem RS.clr(is:List Nat)(r:RS K B A H st σ):RS K B A H (Pu.clr is st) (aKs is σ) where
 len:=by rw[aXj,aKt,r.len]
 own:=r.own
 dis:=r.dis
 val:=λi d e=>by
  obtain⟨e1,h⟩:=aEb is st i _ e;rw[aFe is σ i h];exact r.val i d e1
 lst:=λi kk xs e=>by
  obtain⟨e1,h⟩:=aEb is st i _ e;obtain⟨a,o,vs,e2,m,h1,ko,q,u⟩:=r.lst i kk xs e1;refine⟨a,o,vs,by rw[aFe is σ i h];exact e2,m,h1,ko,q,λj k' ys ej ej2=>?_⟩
  obtain⟨e3,h3⟩:=aEb is st j _ ej;rw[aFe is σ j h3]at ej2;exact u j k' ys e3 ej2
def RS.weaken(r:RS K B A H st σ)(hl:st'.length=st.length)(h:∀(j:Nat)(x:Sl),st'[j]?=some (some x)->st[j]?=some (some x)):RS K B A H st' σ where
 len:=hl.trans r.len
 own:=r.own
 dis:=r.dis
 val:=λi d e=>r.val i d (h i _ e)
 lst:=λi kk xs e=>by
  obtain⟨a,o,vs,e2,m,h1,ko,q,u⟩:=r.lst i kk xs (h i _ e);exact⟨a,o,vs,e2,m,h1,ko,q,λj k' ys ej ej2=>u j k' ys (h j _ ej) ej2⟩
def mem_mid{p b:Addr}:b∈A++p::B↔b=p\/b∈A++B:=by
 simp only[List.mem_append,mem_cons];constructor
 .rintro(h|h|h)
  .exact .inr (.inl h)
  .exact .inl h
  .exact .inr (.inr h)
 .rintro(h|h|h)
  .exact .inr (.inl h)
  .exact .inl h
  .exact .inr (.inr h)
def aKu{p:Addr}{o:HO}(hp:H p=none):bC (hide (A++B) H) (hide (A++p::B) (upd H p o)):=λb u q=>by
 have q1:=aX _ _ _ _ q;have hb:b∉A++B:=λz=>by rw[lZ z]at q;cases q
 have ne:b≠p:=aZ q1 hp;rw[dC (show b∉A++p::B from λz=>(mem_mid.mp z).elim ne hb),bB ne]
 exact q1
def RS.grow(r:RS K B A H st σ){p:Addr} (hp:H p=none):RS K (p::B) A (upd H p (.lst vs)) st σ where
 len:=r.len
 own:=λa ha=>by
  by_cases e:a=p
  .subst e;rw[bT];rfl
  .rw[bB e];exact r.own a ((mem_mid.mp ha).resolve_left e)
 dis:=λa ha hb=>by
  rcases bG0.mp hb with rfl|hb
  .exact r.own.free hp (bGx _ ha)
  .exact r.dis a ha hb
 val:=λj d' e=>let ⟨u,e1,q⟩:=r.val j d' e;⟨u,e1,q.mono (aKu hp)⟩
 lst:=λj kk xs e=>by
  obtain⟨a,o,vs',e1,m,h1,ko,q,u⟩:=r.lst j kk xs e;exact⟨a,o,vs',e1,m,by rw[bB (aZ h1 hp)];exact h1,ko,q.mono (aKu hp),u⟩
def RS.put{p:Addr}(r:RS K (p::B) A H st σ):RS K (p::B) A (upd H p (.lst vs)) st σ:=by
 have hh:hide (A++p::B) (upd H p (.lst vs))=hide (A++p::B) H:=uM (mem_mid.mpr (.inl rfl));refine⟨r.len,λb hb=>?_,r.dis,λj d e=>by rw[hh];exact r.val j d e,λj kk xs e=>?_⟩
 .by_cases e:b=p
  .subst e;rw[bT];rfl
  .rw[bB e];exact r.own b hb
 .obtain⟨a,o,vs',e1,m,h1,ko,q,u⟩:=r.lst j kk xs e;refine⟨a,o,vs',e1,m,?_,ko,by rw[hh];exact q,u⟩
  have:a≠p:=λz=>r.dis a m (z ▸ bFx)
  rw[bB this];exact h1
end
def aDl(is:List Nat)(t:Tg):Prop:=∀d st s2,t d st=.ok s2->s2.length=st.length/\∀(j:Nat),j∉is->s2[j]?=st[j]?
def eX:aDl [i] (tgN i):=λd st s2 h=>by
 cases h;refine⟨bJd,λj hj=>?_⟩
 rw[bGj,bG7 λz=>hj (by simp[z])]
def bE4{is:List Nat}:aDl is (tgT is):=by
 have key:∀(is:List Nat)(ds:List D)(st s2:PSt),aCd is ds st=.ok s2->s2.length=st.length/\∀(j:Nat),j∉is->s2[j]?=st[j]?:=by
  intro is
  induction is with
  |nil=>intro ds st s2 h;cases ds with|nil=>cases h;exact⟨rfl,λ_ _=>rfl⟩|cons _ _=>cases h
  |cons i is ih=>
   intro ds st s2 h;cases ds with
   |nil=>cases h
   |cons d ds=>
    obtain⟨h1,h2⟩:=ih ds _ s2 h;refine⟨by rw[h1,bJd],λj hj=>?_⟩
    rw[h2 j λz=>hj (bFw _ z),bGj,bG7 (show ¬ i=j from λz=>hj (z ▸ bFx))]
 intro d st s2 h;cases d<;>first|(cases h;done)|exact key is _ st s2 h
def ndB:List Str->Bool
 |[]=>true
 |x::r=>!r.contains x&&ndB r
theorem aZe:∀{l:List Str},ndB l=true->l.Nodup
 |[],_=>.nil
 |x::r,h=>by
  unfold ndB at h;simp only[and_eq_true,Bool.not_eq_true']at h;exact bIj.mpr ⟨λz=>by rw[List.contains_iff_mem.mpr z]at h;exact Bool.noConfusion h.1,aZe h.2⟩
def bE5(scope:Scope)(outer:List (Str×NameKind))(N:List Str)(is:List Nat):Bool:=
 scope.kind == .function&&ndB (scope.names.map (·.1))&&scope.names.all (λx=>x.2 !=.free||outer.lookup x.1==some .cell||outer.lookup x.1==some .free) &&
  (List.range N.length).all λi=>(scope.names.lookup (N.getD i "") !=some .local&&scope.names.lookup (N.getD i "") !=some .cell)||is.contains i
def CScope.of{is:List Nat}(h:bE5 scope X.env.scope.names X.N is=true):CScope X scope is:=by
 unfold bE5 at h;simp only[and_eq_true,List.all_eq_true]at h;obtain⟨⟨⟨h1,h0⟩,h2⟩,h3⟩:=h;refine⟨by simpa using h1,aZe h0,λx hx hf=>?_,λi x e hl=>?_⟩
 .have:=h2 x hx;simp only[or_eq_true,bne_iff_ne,ne_eq,beq_iff_eq]at this;rcases this with (z|z)|z
  .exact absurd hf z
  .exact .inl z
  .exact .inr z
 .have hi:i<X.N.length:=(bFy.mp e).1;have:=h3 i (bGr.mpr hi);rw[bG5,e]at this;simp only[getD_some,or_eq_true,and_eq_true,bne_iff_ne,ne_eq]at this;rcases this with ⟨z1,z2⟩|z
  .rcases hl with hl|hl
   .exact absurd hl z1
   .exact absurd hl z2
  .simpa using z
def aXk{K:Frag} (Q Q':VK) (m:∀v H',Q v H'->Q' v H') (h:tI K B f τ H Q):tI K B f τ H Q':=
 let ⟨A,st,d,rs,hd,q⟩:=h;⟨A,st,d,rs,hd,λv H' s r=>m v H' (q v H' s r)⟩
def tIx(K:Frag)(f:Ex):TE:=λτ H Q=>∃B,tI K B f τ H Q
def tTx(K:Frag)(f:Ex):TT:=λτ H Q=>∃B,tT K B f τ H Q
def tGx(K:Frag)(t:Tg):TG:=λv τ H Q=>∃B,tG K B t v τ H Q
def aUp(h:∀B,PE X e (tI X.K B f)):PE X e (tIx X.K f):=λpins s σ H Q I ⟨B,q⟩=>h B pins s σ H Q I q
def bE6(h:∀B,PT X e (tT X.K B f)):PT X e (tTx X.K f):=λpins s σ H Q I ⟨B,q⟩=>h B pins s σ H Q I q
def aUq{t:Tg}(h:∀B,PG X e (tG X.K B t)):PG X e (tGx X.K t):=λpins s σ H v u Q I r ⟨B,q⟩=>h B pins s σ H v u Q I r q
def yU{K:Frag} (Q Q':VK) (m:∀v H',Q v H'->Q' v H') (h:tIx K f τ H Q):tIx K f τ H Q':=let ⟨B,q⟩:=h;⟨B,aXk Q Q' m q⟩
def aKv{K:Frag} {is:List Nat} {t:Tg} {c:Ex} {H:Hp} (hsub:aDl is t)
  (htt:∀τ H Q,tTx K c τ H Q->tt τ H Q) {st:PSt} {ys:List D} (rs:RS K B A H st σ) (hx:it st=.ok xs) (hl:xs.length<=big) (hy:jO t c f (clr is st) xs=.ok ys) {Q:VK}
  (q:∀p vs H1 H',bC H H1->H1 p=none->bC H1 H'->H' p=some (.lst vs)->bD K (hide (A++p::B) H') ys vs->Q (.ref p) H'):tLC is (tIt K B it) (tGx K t) tt (tIx K f) σ H Q:=by
 refine⟨A,st,xs,rs,hx,λJ H1 s1 ito p hp=>?_⟩
 have rs1:=rs.mono s1;refine⟨λi m τ vs H'=>m=xs.length-i/\i<=xs.length/\vs.length<=i/\H' p=some (.lst vs)/\bC H1 H'/\RS K (p::B) A H' (clr is st) τ/\
   ∃ds rest,bD K (hide (A++p::B) H') ds vs/\jO t c f (clr is st) (xs.drop i)=.ok rest/\ds++rest=ys,⟨xs.length,by simp,bHp _,bHp _,bT,cI hp,(rs1.clr is).grow hp,[],ys,.nil,by rw[drop_zero];exact hy,rfl⟩,?_⟩
 rintro i m τ vs H' ⟨rfl,hi,hvl,hpv,s2,rs2,ds,rest,rds,hr,hcat⟩;refine⟨hpv,?_⟩;have mv:∀a,a∈(p::A)++B↔a∈A++p::B:=λa=>by
  rw[mem_mid];exact bG0
 have le:Le A H1 (p::A) H':=λb u z=>by
  have z1:=aX _ _ _ _ z;have hb:b∉A:=λw=>by rw[lZ w]at z;cases z
  have ne:b≠p:=aZ z1 hp;rw[dC (show b∉p::A from λw=>(bG0.mp w).elim ne hb)]
  exact s2 b u z1
 obtain⟨i1,i2⟩:=ito (p::A) H' le (λa ha=>rs2.own a ((mv a).mp ha)) i
 by_cases hlt:i<xs.length
 .have hd':xs[i]?=some xs[i]:=bFv hlt;obtain⟨go,yl⟩:=i1 _ hd';rw[bIn hlt]at hr;obtain⟨st2,hst2,h5⟩:=R.ok_of hr;obtain⟨cb,hcb,h6⟩:=R.ok_of h5;obtain⟨k,rfl,h7⟩:=uX h6;refine .inr ⟨go,λx H2 y=>?_⟩
  obtain⟨sm3,rx⟩:=yl x H2 y;have hpv:=sm3 _ _ hpv;have s2:=s2.trans sm3;have rs2:=rs2.mono sm3;have rds:=rds.mono (bC.hide sm3);have rx':Rep K (hide (A++p::B) H2) xs[i] x:=rx.mono (pZ λa ha=>(mv a).mpr ha)
  obtain⟨sl,sg⟩:=hsub _ _ _ hst2;have back:∀(j:Nat)(z:Sl),(clr is st)[j]?=some (some z)->st2[j]?=some (some z):=λj z ez=>by rw[sg j (aEb is st j z ez).2];exact ez
  refine⟨p::B,A,clr is st,xs[i],st2,rs2,rx',hst2,λτ2 rs3=>htt _ _ _ ⟨p::B,A,st2,k,rs3,hcb,λH3 s3=>?_⟩⟩
  cases k with
  |true=>
   obtain⟨y',hy',h8⟩:=R.ok_of h7;obtain⟨rest',hrest',h9⟩:=R.ok_of h8;cases h9;refine⟨p::B,A,st2,y',rs3.mono s3,hy',λv H4 s4 r4=>⟨s4 _ _ (s3 _ _ hpv),?_,xs.length-(i+1),by omega,rfl,hlt,by rw[bGg,bHc];omega,bT,?_,?_,ds++[y'],rest',?_,hrest',by rw[bIq];exact hcat⟩⟩
   .have:sizeLine=16777216:=by decide
    have hbg:=qC;omega
   .exact λb u z=>by rw[bB (aZ z hp)];exact s4 _ _ (s3 _ _ (s2 b u z))
   .exact(((rs3.mono s3).mono s4).weaken (by rw[sl]) back).put
   .rw[uM (mem_mid.mpr (.inl rfl))];exact(rds.mono (bC.hide (s3.trans s4))).append (.cons r4 .nil)
  |false=>exact⟨xs.length-(i+1),by omega,rfl,hlt,by omega,s3 _ _ hpv,s2.trans s3,(rs3.mono s3).weaken (by rw[sl]) back,ds,rest,rds.mono (bC.hide s3),h7,hcat⟩
 .have e:i=xs.length:=by omega
  subst e;rw[List.drop_length]at hr;cases hr;rw[bJn]at hcat;subst hcat;exact .inl ⟨i2 (bG4 _),q p vs H1 H' s1 hp s2 hpv rds⟩
section
variable {iter c:Expr} {t:Tg} {u:Ex}
def aZf(hY:Y.xe=λ_ _=>False)(he:PE Y elt te)(ht:PT Y c tt){it p:Addr}(τ:LSt)(H:Hp)(s:Shared)(pins:List (Addr×Obj))(vs:List V)(N:Hp->List V->Prop)(Q:Fin->Shared->Prop)(I:Inv Y pins τ H s)
  (h:tt τ H λk H3=>if k=true then te τ H3 λy H4=>H4 p=some (.lst vs)/\vs.length<sizeLine/\N (upd H4 p (.lst (vs++[y]))) (vs++[y]) else N H3 vs)
  (mono:∀H (Q Q':VK),(∀v H',Q v H'->Q' v H')->te τ H Q->te τ H Q')
  (q:∀s' H' ws,Inv Y pins τ H' s'->N H' ws->Q (.again (.compLoop (.ListComp elt [⟨tg,iter,[c],0⟩] scope pos) 0 (.ref it) (.ref p) Y.env)) s') :
  wpAny (model Y.prog Y.w) Y.A (isTrue c Y.env (eval c Y.env) >>= fun ok => if ok = true then (eval elt Y.env >>= fun x => call (.builtin "list.append") [.ref p, x] >>= fun _ => again (.compLoop (.ListComp elt [⟨tg, iter, [c], 0⟩] scope pos) 0 (.ref it) (.ref p) Y.env))
        else again (.compLoop (.ListComp elt [⟨tg,iter,[c],0⟩] scope pos) 0 (.ref it) (.ref p) Y.env)) Q (λ_ _=>False) s:=by
 have ht':=ht pins s τ H _ I h;rw[hY]at ht';refine bFs (thn ht' λk s1 ⟨H1,I1,q1⟩=>?_)
 cases k with
 |true=>
  rw[bGa rfl];have q1:te τ H1 λy H4=>H4 p=some (.lst vs)/\vs.length<sizeLine/\N (upd H4 p (.lst (vs++[y]))) (vs++[y]):=q1
  exact aHa he (by rw[hY];exact λ_ _ z=>z) I1 (mono _ _ _ (λy H4 ⟨a,b,n⟩=>⟨a,b,λs' I'=>bFu (q s' _ _ I' n)⟩) q1)
 |false=>
  rw[bG7 bGh];exact bFu (q s1 H1 vs I1 q1)
def aN2{Q:VK}{st:PSt} {ys:List D} {p:Addr} {H':Hp} (rs:RS X.K B A H st σ) (q:∀v H',bC H H'->Rep X.K (hide (A++B) H') (.lst ys) v->Q v H') (s1:bC H H1) (hp:H1 p=none) (s2:bC H1 H')
  (hv:H' p=some (.lst vs)) (r:bD X.K (hide (A++p::B) H') ys vs):Q (.ref p) H':=
 q _ H' (s1.trans s2) (fB.mpr ⟨p,vs,rfl,(by rw[dC ((rs.own.mono s1).free hp)];exact hv),r.mono (pZ λa ha=>mem_mid.mpr (.inr ha))⟩)
def gF(is:List Nat)(hsub:aDl is t)(S:CScope X scope is)(hi:L2.PI X tg iter (tIt X.K B it))(hg:∀(B:List Addr)(C:Addr)(s₀:Shared)(H₀:Hp)(fp:List Addr),PG (cQ X scope C s₀ H₀ fp) tg (tG X.K B t))
  (he:∀(B:List Addr)(C:Addr)(s₀:Shared)(H₀:Hp)(fp:List Addr),PE (cQ X scope C s₀ H₀ fp) elt (tI X.K B f)) (hc:X.calm=true) (hs:∀x,foldedSetIterable iter X.env x=pure x:=by intro _;rfl) :
  PE X (.ListComp elt [⟨tg,iter,[],0⟩] scope pos) (tI X.K B (bI is t it bL f)):=by
 intro pins s σ H Q I h;obtain⟨A,st,d,rs,hd,q⟩:=h;obtain⟨xs,hx,h2⟩:=R.ok_of hd;obtain⟨hl,h3⟩:=aN h2;obtain⟨ys,hy,h4⟩:=R.ok_of h3;cases h4;rw[bLi];refine uN (use:=none) (Qf:=EP X pins σ Q) (Q:=Q) (tt:=aEa) (te:=tIx X.K f) (rest:=λenv it p=>eval elt env >>= λx=>call (.builtin "list.append") [p,x] >>= λ_=>again (.compLoop (.ListComp elt [⟨tg,iter,[],0⟩] scope pos) 0 it p env)) S hc hi (λC s₀ H₀ fp=>aUq λB=>hg B C s₀ H₀ fp) (λ_ _ _=>qZ)
  (λC s₀ H₀ fp it p s Q h=>bBk (Y:=cQ X scope C s₀ H₀ fp) h) (λC s₀ H₀ fp it p τ H s pins vs N Q I h q=>aUo (Y:=cQ X scope C s₀ H₀ fp) rfl (aUp λB=>he B C s₀ H₀ fp) τ H s pins vs N Q I h (λQ Q' m h=>yU Q Q' m h) q) hs I
  (aKv hsub (λτ H Q ⟨B,A,st,k,rs,hk,q⟩=>?_) rs hx hl hy λp vs H1 H' s1 hp s2 hv r=>aN2 rs q s1 hp s2 hv r) λC p H5 s5 m5 s3 H3 fp τ hC I3 hfp I5 hn5 q5=>⟨m5,hn5,λh' hs'=>⟨.ref p,H5,aBu I3 hfp hC I5 hs',rfl,q5⟩⟩
 cases hk;exact q H (bC.refl _)
def aBv(is:List Nat)(hsub:aDl is t)(S:CScope X scope is)(hi:L2.PI X tg iter (tIt X.K B it))(hg:∀(B:List Addr)(C:Addr)(s₀:Shared)(H₀:Hp)(fp:List Addr),PG (cQ X scope C s₀ H₀ fp) tg (tG X.K B t))
  (ht:∀(B:List Addr)(C:Addr)(s₀:Shared)(H₀:Hp)(fp:List Addr),PT (cQ X scope C s₀ H₀ fp) c (tT X.K B u))
  (he:∀(B:List Addr)(C:Addr)(s₀:Shared)(H₀:Hp)(fp:List Addr),PE (cQ X scope C s₀ H₀ fp) elt (tI X.K B f)) (hc:X.calm=true) (hs:∀x,foldedSetIterable iter X.env x=pure x:=by intro _;rfl) :
  PE X (.ListComp elt [⟨tg,iter,[c],0⟩] scope pos) (tI X.K B (bI is t it u f)):=by
 intro pins s σ H Q I h;obtain⟨A,st,d,rs,hd,q⟩:=h;obtain⟨xs,hx,h2⟩:=R.ok_of hd;obtain⟨hl,h3⟩:=aN h2;obtain⟨ys,hy,h4⟩:=R.ok_of h3;cases h4;rw[bLi];exact uN (use:=none) (Qf:=EP X pins σ Q) (Q:=Q) (tt:=tTx X.K u) (te:=tIx X.K f) (rest:=λenv it p=>isTrue c env (eval c env) >>= λok=>if ok=true then (eval elt env >>= λx=>call (.builtin "list.append") [p,x] >>= λ_=>again (.compLoop (.ListComp elt [⟨tg,iter,[c],0⟩] scope pos) 0 it p env)) else again (.compLoop (.ListComp elt [⟨tg,iter,[c],0⟩] scope pos) 0 it p env)) S hc hi (λC s₀ H₀ fp=>aUq λB=>hg B C s₀ H₀ fp) (λ_ _ _=>qZ)
  (λC s₀ H₀ fp it p s Q h=>bE3 (Y:=cQ X scope C s₀ H₀ fp) h) (λC s₀ H₀ fp it p τ H s pins vs N Q I h q=>aZf (Y:=cQ X scope C s₀ H₀ fp) rfl (aUp λB=>he B C s₀ H₀ fp) (bE6 λB=>ht B C s₀ H₀ fp) τ H s pins vs N Q I h (λ_ Q Q' m h=>yU Q Q' m h) q) hs I
  (aKv hsub (λτ H Q h=>h) rs hx hl hy λp vs H1 H' s1 hp s2 hv r=>aN2 rs q s1 hp s2 hv r) λC p H5 s5 m5 s3 H3 fp τ hC I3 hfp I5 hn5 q5=>⟨m5,hn5,λh' hs'=>⟨.ref p,H5,aBu I3 hfp hC I5 hs',rfl,q5⟩⟩
end
end Pu
namespace Pu
open PySem PySem.Spec PyProof.Rows L2 PySem.SeqAt
section
variable{X:Cx}{pins:List (Addr×Obj)}{σ:LSt}{H:Hp}{s:Shared}
def aP6(I:Inv X pins σ H s) {xs ys:List V} (h1:SqL X.K H a xs) (h2:SqT X.K H a ys):False:=by
 obtain⟨its,_,⟨o,n,e,hc,_⟩,_⟩:=I.list h1;obtain⟨its2,_,⟨o2,e2,hc2,_⟩,_⟩:=I.tuple h2;rw[e]at e2;cases e2;rw[hc]at hc2;simp at hc2
mutual
theorem Rep.inj(I:Inv X pins σ H s):∀{x y:D}{v:V},plain x=true->plain y=true->Rep X.K H x v->Rep X.K H y v->x=y
 |x,y,v,px,py,h,h'=>by
  cases x<;>first|(simp at px;done)|skip
  all_goals cases y<;>first|(simp at py;done)|skip
  case tup.tup=>
   obtain⟨a,vs,e,hq,hr⟩:=gO h;obtain⟨a',vs',e',hq',hr'⟩:=gO h';subst e;cases e';cases I.tuple_inj hq hq';rw[bD.inj I (by simpa using px) (by simpa using py) hr hr']
  case lst.lst=>
   obtain⟨a,vs,e,hq,hr⟩:=fB.mp h;obtain⟨a',vs',e',hq',hr'⟩:=fB.mp h';subst e;cases e';cases I.list_inj hq hq';rw[bD.inj I (by simpa using px) (by simpa using py) hr hr']
  case tup.lst=>
   obtain⟨a,vs,e,hq,hr⟩:=gO h;obtain⟨a',vs',e',hq',hr'⟩:=fB.mp h';subst e;cases e';exact(aP6 I hq' hq).elim
  case lst.tup=>
   obtain⟨a,vs,e,hq,hr⟩:=fB.mp h;obtain⟨a',vs',e',hq',hr'⟩:=gO h';subst e;cases e';exact(aP6 I hq hq').elim
  all_goals simp only[pR,cU,bN,eZ,lY,fB]at h h'
  all_goals first|(obtain⟨_,_,h',_⟩:=h';subst h';cases h;done)|(obtain⟨_,_,h,_⟩:=h;subst h;cases h';done)|(subst h;cases h';first|rfl|done)|(subst h;injection h' with h';injection h' with h';rw[show _=_ by simpa using congrArg Array.toList h'])
theorem bD.inj(I:Inv X pins σ H s):∀{xs ys:List D}{vs:List V},cZ xs=true->cZ ys=true->bD X.K H xs vs->bD X.K H ys vs->xs=ys
 |[],ys,vs,px,py,h,h'=>by
  have e:=cH.mp h;subst e;cases ys with
  |nil=>rfl
  |cons y ys=>obtain⟨_,_,h',_⟩:=bJ.mp h';cases h'
 |x::xs,ys,vs,px,py,h,h'=>by
  obtain⟨v,r,e,h1,h2⟩:=bJ.mp h;subst e;cases ys with
  |nil=>exact nomatch cH.mp h'
  |cons y ys=>
   obtain⟨v',r',e',h1',h2'⟩:=bJ.mp h';cases e';simp only[gH,and_eq_true]at px py;rw[Rep.inj I px.1 py.1 h1 h1',bD.inj I px.2 py.2 h2 h2']
end
mutual
theorem aKw:∀x:D,plain x=true->eqD x x=true
 |.non,_=>by unfold eqD;rfl
 |.bl b,_=>by unfold eqD;simp
 |.int i,_=>by unfold eqD;simp
 |.str x,_=>by unfold eqD;simp
 |.tup x,h=>by unfold eqD;exact aCw x (by simpa using h)
 |.lst x,h=>by unfold eqD;exact aCw x (by simpa using h)
 |.dct _ _ _,h=>by simp at h
 |.ins _ _ _,h=>by simp at h
 |.exn _ _ _,h=>by simp at h
 |.fn _,h=>by simp at h
theorem aCw:∀x:List D,cZ x=true->lJ x x=true
 |[],_=>by unfold lJ;rfl
 |a::x,h=>by
  simp only[gH,and_eq_true]at h;unfold lJ;rw[aKw a h.1,aCw x h.2];rfl
end
def pairE(xs ys:List D)(j:Nat):Bool:=eqD (xs.getD j .non) (ys.getD j .non)
theorem aBw:∀xs ys:List D,((List.range (min xs.length ys.length)).all (pairE xs ys)&&xs.length==ys.length)=lJ xs ys
 |[],[]=>by unfold lJ;rfl
 |[],_::_=>by unfold lJ;simp
 |_::_,[]=>by unfold lJ;simp
 |x::xs,y::ys=>by
  have ih:=aBw xs ys;have e:lJ (x::xs) (y::ys)=(eqD x y&&lJ xs ys):=by conv=>lhs;unfold lJ
  rw[e,<-ih];have hm:min (x::xs).length (y::ys).length=min xs.length ys.length+1:=by simp only[length_cons];omega
  rw[hm,bLv,List.all_cons,List.all_map];have e1:pairE (x::xs) (y::ys) 0=eqD x y:=rfl;have e2:(pairE (x::xs) (y::ys) ∘ Nat.succ)=pairE xs ys:=rfl;rw[e1,e2,Bool.and_assoc];congr 1;simp
def aN3{ys:List D}(h:xs.length≠ys.length):lJ xs ys=false:=by
 rw[<-aBw];simp[h]
inductive Vw (X:Cx) (H:Hp) (s:Shared):D->Value->Prop
 |non:Vw X H s .non .none
 |bl (b:Bool):Vw X H s (.bl b) (.bool b)
 |int (i:Int) (t:Tok):Vw X H s (.int i) (.int i t)
 |str (x:List Nat) (t:Tok):Vw X H s (.str x) (.str ⟨x.toArray⟩ t)
 |tup {x:List D} {ws:List V} {its:List Value} {l:Addr} (hq:s.heap.IsTuple l its.toArray) (hr:bD X.K H x ws) (hv:Vals ws its):Vw X H s (.tup x) (.ref l)
 |lst {x:List D} {ws:List V} {its:List Value} {l:Addr} (hq:s.heap.IsList l its.toArray) (hr:bD X.K H x ws) (hv:Vals ws its):Vw X H s (.lst x) (.ref l)
def Vw.of(I:Inv X pins σ H s){x:D} {a:Value} (h:Rep X.K H x v) (r:RelV v a) (p:plain x=true):Vw X H s x a:=by
 cases x with
 |non=>have e:=pR.mp h;subst e;have e:a=Value.none:=r;subst e;exact .non
 |bl b=>have e:=cU.mp h;subst e;have e:a=Value.bool b:=r;subst e;exact .bl b
 |int i=>have e:=bN.mp h;subst e;obtain⟨t,e⟩:∃t,a=Value.int i t:=r;subst e;exact .int i t
 |str x=>have e:=eZ.mp h;subst e;obtain⟨t,e⟩:∃t,a=Value.str ⟨x.toArray⟩ t:=r;subst e;exact .str x t
 |tup x=>obtain⟨l,ws,e,hq,hr⟩:=gO h;subst e;have e:a=Value.ref l:=r;subst e;obtain⟨its,rv,pl,_⟩:=I.tuple hq;exact .tup pl hr rv
 |lst x=>obtain⟨l,ws,e,hq,hr⟩:=fB.mp h;subst e;have e:a=Value.ref l:=r;subst e;obtain⟨its,rv,pl,_⟩:=I.list hq;exact .lst pl.isList hr rv
 |_=>simp at p
def aXl{A:Around}{x y:D}{a b:Value}{k:Bool}(wa:Vw X H s x a)(wb:Vw X H s y b)(h:RcAt A s a b k)(hs:a=b->k=true):EqAt A s a b k:=λprog w E Q hq=>by
 unfold eqBool;refine bGo (bHs (λe=>?_) λ_=>?_)
 .rw[hs (eq_of_beq e)]at hq;exact bFs (bK1 (bFu hq))
 .cases wa<;>cases wb<;>exact bFs (h prog w E _ (bI7 hq))
def aUr{u:V}{a:Value}(h:RelV v a)(h':RelV u a):v=u:=by
 cases v<;>(first|subst h|(obtain⟨_,h⟩:=h;subst h)) <;> cases u<;>first|(cases h';done)|(cases h';rfl)|(obtain⟨_,h'⟩:=h';cases h';done)|(obtain⟨_,h'⟩:=h';cases h';rfl)
def aKx(x y:List Nat):eqD (.str x) (.str y)=((⟨x.toArray⟩:Str)==⟨y.toArray⟩):=by rw[<-str_beq];unfold eqD;simp
def bE7{A:Around}{a b:Value}{k k':Bool}(h:RcAt A s a b k)(e:k=k'):RcAt A s a b k':=e ▸ h
def bE8{A:Around}{a b:Value}{k k':Bool}(h:RcNeAt A s a b k)(e:k=k'):RcNeAt A s a b k':=e ▸ h
def aKy(I:Inv X pins σ H s){x y:D}{A:Around}{u:V}{a b:Value}(ra:Rep X.K H x v)(rb:Rep X.K H y u)(va:RelV v a)(vb:RelV u b)(px:plain x=true)(py:plain y=true)(h:RcAt A s a b (eqD x y)):EqAt A s a b (eqD x y):=
 aXl (Vw.of I ra va px) (Vw.of I rb vb py) h λe=>by rw[Rep.inj I px py ra (aUr (e ▸ va) vb ▸ rb)];exact aKw y py
mutual
theorem aIu(I:Inv X pins σ H s)(x y:D)(A:Around)(v u:V)(a b:Value)(ra:Rep X.K H x v)(rb:Rep X.K H y u)(va:RelV v a)(vb:RelV u b)(hu:A.units+dep x<cLine)(px:plain x=true)(py:plain y=true):RcAt A s a b (eqD x y)/\RcNeAt A s a b (!eqD x y):=by
 have hu':A.units<cLine:=Nat.lt_of_le_of_lt (bKb _ _) hu;have wa:=Vw.of I ra va px;have wb:=Vw.of I rb vb py;clear ra rb va vb;cases wa<;>cases wb
 case tup.tup x _ i1 _ hq hr hv y _ i2 _ hq' hr' hv'=>
  have hd:dep (.tup x)=fZ x+1:=by conv=>lhs;unfold dep
  have:=aCx I x y A.in1 _ _ _ _ hr hr' hv hv' (by show A.units+1+fZ x<cLine;omega) (by simpa using px) (by simpa using py)
  have e:eqD (.tup x) (.tup y)=lJ x y:=by conv=>lhs;unfold eqD
  rw[e,<-aBw,<-hr.length,<-hr'.length,hv.length,hv'.length,<-bGd,<-bGd];exact⟨RcAt.tuples hq hq' hu' λj j1 j2=>by simpa using this j (by simpa using j1) (by simpa using j2),RcNeAt.tuples hq hq' hu' λj j1 j2=>by simpa using this j (by simpa using j1) (by simpa using j2)⟩
 case lst.lst x _ i1 _ hq hr hv y _ i2 _ hq' hr' hv'=>
  have hd:dep (.lst x)=fZ x+1:=by conv=>lhs;unfold dep
  have:=aCx I x y A.in1 _ _ _ _ hr hr' hv hv' (by show A.units+1+fZ x<cLine;omega) (by simpa using px) (by simpa using py)
  have e:eqD (.lst x) (.lst y)=lJ x y:=by conv=>lhs;unfold eqD
  have n1:i1.length=x.length:=by rw[<-hv.length,hr.length]
  have n2:i2.length=y.length:=by rw[<-hv'.length,hr'.length]
  rw[e]
  by_cases hz:i1.length=i2.length
  .rw[show lJ x y=(List.range i1.toArray.size).all (pairE x y) by rw[<-aBw,bGd,n1];simp[show x.length=y.length by omega]]
   exact⟨RcAt.lists hq hq' (by simpa using hz) hu' λj j1 j2=>by simpa using this j (by simpa using j1) (by simpa using j2),RcNeAt.lists hq hq' (by simpa using hz) hu' λj j1 j2=>by simpa using this j (by simpa using j1) (by simpa using j2)⟩
  .rw[aN3 (by omega)]
   exact⟨RcAt.lists_lengths hq hq' (by simpa using hz) hu',RcNeAt.lists_lengths hq hq' (by simpa using hz) hu'⟩
 all_goals
  constructor
  .apply bE7
   .with_reducible first|exact RcAt.none_none|exact RcAt.none_bool _|exact RcAt.none_int _ _|exact RcAt.none_str _ _|exact RcAt.none_tuple ‹_› hu'|exact RcAt.none_list ‹_› hu'|exact RcAt.bool_none _|exact RcAt.bool_bool _ _|exact RcAt.bool_int _ _ _|exact RcAt.bool_str _ _ _|exact RcAt.bool_tuple _ ‹_› hu'|exact RcAt.bool_list _ ‹_› hu'|exact RcAt.int_none _ _|exact RcAt.int_bool _ _ _|exact RcAt.int_int _ _ _ _|exact RcAt.int_str _ _ _ _|exact RcAt.int_tuple _ _ ‹_› hu'|exact RcAt.int_list _ _ ‹_› hu'|exact RcAt.str_none _ _|exact RcAt.str_bool _ _ _|exact RcAt.str_int _ _ _ _|exact RcAt.str_str _ _ _ _|exact RcAt.str_tuple _ _ ‹_› hu'|exact RcAt.str_list _ _ ‹_› hu'|exact RcAt.tuple_none ‹_› hu'|exact RcAt.tuple_bool _ ‹_› hu'|exact RcAt.tuple_int _ _ ‹_› hu'|exact RcAt.tuple_str _ _ ‹_› hu'|exact RcAt.tuple_list ‹_› ‹_› hu'|exact RcAt.list_none ‹_› hu'|exact RcAt.list_bool _ ‹_› hu'|exact RcAt.list_int _ _ ‹_› hu'|exact RcAt.list_str _ _ ‹_› hu'|exact RcAt.list_tuple ‹_› ‹_› hu'
   .first|exact(aKx _ _).symm|(unfold eqD;rfl)
  .apply bE8
   .with_reducible first|exact RcNeAt.none_none|exact RcNeAt.none_bool _|exact RcNeAt.none_int _ _|exact RcNeAt.none_str _ _|exact RcNeAt.none_tuple ‹_› hu'|exact RcNeAt.none_list ‹_› hu'|exact RcNeAt.bool_none _|exact RcNeAt.bool_bool _ _|exact RcNeAt.bool_int _ _ _|exact RcNeAt.bool_str _ _ _|exact RcNeAt.bool_tuple _ ‹_› hu'|exact RcNeAt.bool_list _ ‹_› hu'|exact RcNeAt.int_none _ _|exact RcNeAt.int_bool _ _ _|exact RcNeAt.int_int _ _ _ _|exact RcNeAt.int_str _ _ _ _|exact RcNeAt.int_tuple _ _ ‹_› hu'|exact RcNeAt.int_list _ _ ‹_› hu'|exact RcNeAt.str_none _ _|exact RcNeAt.str_bool _ _ _|exact RcNeAt.str_int _ _ _ _|exact RcNeAt.str_str _ _ _ _|exact RcNeAt.str_tuple _ _ ‹_› hu'|exact RcNeAt.str_list _ _ ‹_› hu'|exact RcNeAt.tuple_none ‹_› hu'|exact RcNeAt.tuple_bool _ ‹_› hu'|exact RcNeAt.tuple_int _ _ ‹_› hu'|exact RcNeAt.tuple_str _ _ ‹_› hu'|exact RcNeAt.tuple_list ‹_› ‹_› hu'|exact RcNeAt.list_none ‹_› hu'|exact RcNeAt.list_bool _ ‹_› hu'|exact RcNeAt.list_int _ _ ‹_› hu'|exact RcNeAt.list_str _ _ ‹_› hu'|exact RcNeAt.list_tuple ‹_› ‹_› hu'
   .first|exact congrArg _ (aKx _ _).symm|(unfold eqD;rfl)
theorem aCx(I:Inv X pins σ H s):∀(xs ys:List D)(A:Around)(vs us:List V)(as bs:List Value),bD X.K H xs vs->bD X.K H ys us->Vals vs as->Vals us bs->A.units+fZ xs<cLine->cZ xs=true->cZ ys=true->∀(j:Nat)(h1:j<as.length)(h2:j<bs.length),EqAt A s as[j] bs[j] (pairE xs ys j)
 |[],_,A,vs,us,as,bs,ra,rb,va,vb,hu,px,py,j,h1,h2=>by
  have e:=cH.mp ra;subst e;cases va;exact absurd h1 (bK2 _)
 |x::xs,[],A,vs,us,as,bs,ra,rb,va,vb,hu,px,py,j,h1,h2=>by
  have e:=cH.mp rb;subst e;cases vb;exact absurd h2 (bK2 _)
 |x::xs,y::ys,A,vs,us,as,bs,ra,rb,va,vb,hu,px,py,j,h1,h2=>by
  obtain⟨v,r,e,p1,p2⟩:=bJ.mp ra;subst e;obtain⟨u,r',e,q1,q2⟩:=bJ.mp rb;subst e;have hd:fZ (x::xs)=max (dep x) (fZ xs):=by conv=>lhs;unfold fZ
  rw[hd]at hu;simp only[gH,and_eq_true]at px py;cases va with
  |cons va vas=>
   cases vb with
   |cons vb vbs=>
    cases j with
    |zero=>exact aKy I p1 q1 va vb px.1 py.1 (aIu I x y A v u _ _ p1 q1 va vb (by omega) px.1 py.1).1
    |succ j=>exact aCx I xs ys A r r' _ _ p2 q2 vas vbs (by omega) px.2 py.2 j (bId h1) (bId h2)
end
def aKz(I:Inv X pins σ H s)(x y:D)(A:Around)(v u:V)(a b:Value)(ra:Rep X.K H x v)(rb:Rep X.K H y u)(va:RelV v a)(vb:RelV u b)(hu:A.units+dep x<cLine)(px:plain x=true)(py:plain y=true):EqAt A s a b (eqD x y):=
 aKy I ra rb va vb px py (aIu I x y A v u _ _ ra rb va vb hu px py).1
def aUs(I:Inv X pins σ H s)(x y:D)(A:Around)(v u:V)(a b:Value)(ra:Rep X.K H x v)(rb:Rep X.K H y u)(va:RelV v a)(vb:RelV u b)(hu:A.units+dep x<cLine)(px:plain x=true)(py:plain y=true):RcAt A s a b (eqD x y):=(aIu I x y A v u a b ra rb va vb hu px py).1
def aUt(I:Inv X pins σ H s)(x y:D)(A:Around)(v u:V)(a b:Value)(ra:Rep X.K H x v)(rb:Rep X.K H y u)(va:RelV v a)(vb:RelV u b)(hu:A.units+dep x<cLine)(px:plain x=true)(py:plain y=true):RcNeAt A s a b (!eqD x y):=(aIu I x y A v u a b ra rb va vb hu px py).2
end
end Pu
namespace Pu
open PySem PySem.Spec PyProof.Rows L2
section
variable{X:Cx}{B:List Addr}{a b e:Expr}{f g:Ex}{pos:Pos}
theorem kY.rep{K:Frag}{A:List Addr}{H:Hp}{d:D}{v:V}(h:kY K A H d v):Rep K H d v:=by
 rcases h with h|⟨a,k,o,ds,vs,e1,e2,e3,ko,q⟩
 .exact h.mono (aX _ _)
 .subst e1 e2;exact ko.rep e3 (q.mono (aX _ _))
def aXm(K:Frag)(neg:Bool):R2:=λv u H Q=>∃x y,Rep K H x v/\Rep K H y u/\(dep x<=64/\plain x=true/\plain y=true)/\Q (.bl (if neg then !eqD x y else eqD x y)) H
def jR(hu:X.A.units+64<cLine):OpR X (compareOp .Eq) (aXm X.K false):=by
 intro pins s σ H v u a b Q I ra rb h;obtain⟨x,y,rx,ry,hd,q⟩:=h;exact aUs I x y X.A v u a b rx ry ra rb (by omega) hd.2.1 hd.2.2 X.prog X.w X.xe _ ⟨.bl _,H,I,rfl,q⟩
def aCy(hu:X.A.units+64<cLine):OpR X (compareOp .NotEq) (aXm X.K true):=by
 intro pins s σ H v u a b Q I ra rb h;obtain⟨x,y,rx,ry,hd,q⟩:=h;exact aUt I x y X.A v u a b rx ry ra rb (by omega) hd.2.1 hd.2.2 X.prog X.w X.xe _ ⟨.bl _,H,I,rfl,q⟩
def jT{K:Frag}:yO K (aXm K false) dEq:=by
 intro A H x y d v u Q w rx ry e q;obtain⟨c,e⟩:=aN e;cases e;exact⟨x,y,rx.rep,ry.rep,c,q _ H (bC.refl _) (cU.mpr rfl)⟩
def aCz{K:Frag}:yO K (aXm K true) dNe:=by
 intro A H x y d v u Q w rx ry e q;obtain⟨c,e⟩:=aN e;cases e;exact⟨x,y,rx.rep,ry.rep,c,q _ H (bC.refl _) (cU.mpr rfl)⟩
def tyD:D->String
 |.non=>"NoneType"
 |.bl _=>"bool"
 |.int _=>"int"
 |.str _=>"str"
 |.tup _=>"tuple"
 |.lst _=>"list"
 |.dct _ _ _=>"dict"
 |.ins _ _ _=>""
 |.exn _ _ _=>""
 |.fn _=>""
structure IsT(T:String)(p:D->Bool):Prop where
 boot:bootBuiltins T=some (.type T)
 ans:∀(K:Frag)(d:D),aG1 d=true->PySem.W.kitOne K (.type (tyD d)) (.type T)=some (p d)
def aUu{T:String}{p:D->Bool}(h:IsT T p):lB X (.builtin "isinstance") (λxs H Q=>∃v d,xs=[v,.ty T]/\aG1 d=true/\Rep X.K H d v/\Q (.bl (p d)) H):=by
 intro pins s σ H xs us Q I r q;obtain⟨v,d,rfl,hbl,rd,q⟩:=q;obtain⟨u,u2,rfl,ru,ru2⟩:=r.two;have e2:u2=Value.type T:=ru2;subst e2;have fin:∀tk,EP X pins σ Q (.bool (p d)) {s with toks:=tk}:=λtk=>⟨.bl (p d),H,I.tok tk,rfl,q⟩
 have e:=h.ans X.K d hbl;cases d with
 |non=>have z:=pR.mp rd;subst z;have z:u=Value.none:=ru;subst z;exact kia_one PySem.W.kitx_none I.kIn True.intro e (λz=>nomatch z) fin
 |bl x=>have z:=cU.mp rd;subst z;have z:u=Value.bool x:=ru;subst z;exact kia_one PySem.W.kitx_bool I.kIn True.intro e (λz=>nomatch z) fin
 |int x=>have z:=bN.mp rd;subst z;obtain⟨t,z⟩:∃t,u=Value.int x t:=ru;subst z;exact kia_one PySem.W.kitx_int I.kIn True.intro e (λz=>nomatch z) fin
 |str x=>have z:=eZ.mp rd;subst z;obtain⟨t,z⟩:∃t,u=Value.str ⟨x.toArray⟩ t:=ru;subst z;exact kia_one PySem.W.kitx_str I.kIn True.intro e (λz=>nomatch z) fin
 |tup x=>
  obtain⟨l,vs,z,hq,_⟩:=gO rd;subst z;have z:u=Value.ref l:=ru;subst z;obtain⟨its,_,⟨o,h1,h2,_⟩,_⟩:=I.tuple hq;exact kia_one PySem.W.kitx_tuple I.kIn ⟨o,h1,h2⟩ e (λz=>nomatch z) fin
 |lst x=>
  obtain⟨l,vs,z,hq,_⟩:=fB.mp rd;subst z;have z:u=Value.ref l:=ru;subst z;obtain⟨its,_,⟨o,n,h1,h2,_⟩,_⟩:=I.list hq;exact kia_one PySem.W.kitx_list I.kIn ⟨o,h1,h2⟩ e (λz=>nomatch z) fin
 |dct t ks x=>
  obtain⟨l,vs,z,hq,_⟩:=rT.mp rd;subst z;have z:u=Value.ref l:=ru;subst z;have hd:∃o,s.heap.get? l=some o/\o.ExactDict:=by
   rcases hq with ⟨_,kvs,hq,_⟩|⟨_,kvs,hq,_⟩
   .obtain⟨_,_,vs',_,m⟩:kvs.length<=sizeLine/\(l==sysModules)=false/\∃vs,KV kvs vs/\s.heap.DictOf (iW X.prog X.w) l vs:=I.hok l _ hq;obtain⟨o,es,n,h1,h2,_⟩:=m;exact⟨o,h1,h2⟩
   .obtain⟨_,_,xs,_,o,es,ep,h1,h2,_⟩:=I.hok l _ hq;exact⟨o,h1,h2⟩
  obtain⟨o,h1,h2⟩:=hd;exact kia_one PySem.W.kitx_dict I.kIn ⟨o,h1,h2.1⟩ e (λz=>nomatch z) fin
 |ins _ _ _=>exact nomatch hbl
 |exn _ _ _=>exact nomatch hbl
 |fn _=>exact nomatch hbl
def uO{T:Str}{S:String}{p:D->Bool} (hT:IsT S p) (hm:X.mg "isinstance"=none) (hmT:X.mg T=none) (ha:PE X a (tP X.K B f)) (hST:bootBuiltins T=some (.type S):=by first|rfl|exact hT.boot) (hg:Gl X "isinstance":=by rfl) (hgT:Gl X T:=by rfl) (hnT:T≠"__name__":=by decide) (hdT:(T==("__debug__":Str))=false:=by decide)
  (hs:starEach [a,.Name T p1] X.env=(false,eval a X.env)::starEach [.Name T p1] X.env:=by rfl) (hs2:starEach [.Name T p1] X.env=(false,eval (.Name T p1) X.env)::starEach [] X.env:=by rfl) :
  PE X (.Call (.Name "isinstance" p0) [a,.Name T p1] [] pos) (tI X.K B (eB p f)):=by
 have hTy:PE X (.Name T p1) (tC (.ty S)):=aVq hgT hmT hST rfl hnT hdT;refine cO (oJ (aUu hT) hg hm boot_isinstance (cT ha (cT hTy gC hs2) hs) (he:=hs)) ?_
 rintro σ H Q ⟨A,st,d,rs,hd,q⟩;obtain⟨x,hx,h2⟩:=R.ok_of hd;obtain⟨hbl,h2⟩:=aN h2;cases h2;exact⟨A,st,x,rs,hx,λv H1 s1 r1=>⟨v,x,rfl,hbl,r1.rep,q _ H1 s1 (cU.mpr rfl)⟩⟩
def ty_str:IsT "str" bD7:=⟨rfl,λK d hb=>by cases d<;>first|(cases hb;done)|kernel_rfl⟩
def ty_bool:IsT "bool" aQc:=⟨rfl,λK d hb=>by cases d<;>first|(cases hb;done)|kernel_rfl⟩
def ty_int:IsT "int" isIn:=⟨rfl,λK d hb=>by cases d<;>first|(cases hb;done)|kernel_rfl⟩
def ty_tuple:IsT "tuple" bD8:=⟨rfl,λK d hb=>by cases d<;>first|(cases hb;done)|kernel_rfl⟩
def ty_list:IsT "list" aQd:=⟨rfl,λK d hb=>by cases d<;>first|(cases hb;done)|kernel_rfl⟩
end
end Pu
namespace Pu
open PySem PySem.Spec PyProof.Rows L2 PySem.SeqAt PySem.StrLaws
def aN4(x y:List Nat)(i:Nat):Builtin.Str.subAt ⟨x.toArray⟩ ⟨y.toArray⟩ i=((x.drop i).take y.length==y):=by
 rw[subAt_eq];simp[Str.length]
theorem aL0(s sub:Str)(hi:Nat):∀(l:List Nat)(st:Array Nat×Nat),1<=st.1.size->(forIn l st (occBody s sub hi 1)).run.fst=st.1
 |[],st,h=>rfl
 |a::l,st,h=>by
  rw[forIn_cons];unfold occBody;rw[bG7 (λz=>by have:=z.1.1.1;omega)]
  exact aL0 s sub hi l (st.1,st.2) h
theorem aL1(s sub:Str)(hi:Nat):∀(l:List Nat)(free:Nat),(∀i∈l,free<=i)->
  (forIn l ((#[]:Array Nat),free) (occBody s sub hi 1)).run.fst.toList=(l.find? λi=>decide (i+sub.length<=hi)&&Builtin.Str.subAt s sub i).toList
 |[],free,_=>rfl
 |a::l,free,hf=>by
  rw[forIn_cons];have ha:free<=a:=hf a bFx
  by_cases hc:a+sub.length<=hi/\Builtin.Str.subAt s sub a=true
  .have e:(decide (a+sub.length<=hi)&&Builtin.Str.subAt s sub a)=true:=by rw[hc.2,bGe hc.1];rfl
   rw[bLt (p:=λi=>decide (i+sub.length<=hi)&&Builtin.Str.subAt s sub i) e]
   have e2:occBody s sub hi 1 a ((#[]:Array Nat),free)=pure (ForInStep.yield ((#[]:Array Nat).push a,a+sub.length)):=by
    unfold occBody;exact bGa ⟨⟨⟨by simp,ha⟩,hc.1⟩,hc.2⟩
   rw[e2];show (forIn l (((#[]:Array Nat).push a),a+sub.length) (occBody s sub hi 1)).run.fst.toList=_;rw[aL0 s sub hi l _ (by simp)]
   rfl
  .have e:¬ (decide (a+sub.length<=hi)&&Builtin.Str.subAt s sub a)=true:=λz=>hc (by simpa using z)
   rw[bLu (p:=λi=>decide (i+sub.length<=hi)&&Builtin.Str.subAt s sub i) e]
   have e2:occBody s sub hi 1 a ((#[]:Array Nat),free)=pure (ForInStep.yield ((#[]:Array Nat),free)):=by
    unfold occBody;exact bG7 λh=>hc ⟨h.1.2,h.2⟩
   rw[e2];exact aL1 s sub hi l free λi hi'=>hf i (bFw _ hi')
def aHb(x y:List Nat)(lo:Nat):Builtin.Str.occurrences ⟨x.toArray⟩ ⟨y.toArray⟩ lo (⟨x.toArray⟩:Str).length 1=(rK x y lo).toList:=by
 rw[occ_eq,aL1 _ _ _ _ _ (λi hi=>by simp[List.mem_range']at hi;omega)]
 unfold rK;simp only[aN4,str_len]
section
variable {a b:Expr}
def bFp{id:String}{m:Mop} {q:V->List V->Hp->VK->Prop} (slot:Slot "str" name id) (hty:typeOf (.builtin id)=pure (.type "method_descriptor")) (hm:MtR X id q)
  (hk:∀x xs d,m x xs=.ok d->∃s,x=.str s) (sem:∀(A:List Addr)(H:Hp)(x d:D)(xs:List D)(v:V)(vs:List V)(Q:VK),Own A H->kY X.K A H x v->bD X.K (hide A H) xs vs->m x xs=.ok d->(∀w H',bC H H'->Rep X.K (hide A H') d w->Q w H')->q v vs H Q)
  (ho:PE X o (tP X.K B f)) (ha:PA X (e::es) (tA X.K B r))
  (hbase:attributeBase o name X.env (eval o X.env)=eval o X.env:=by rfl)
  (hfew:((backTo cpos (starEach (e::es) X.env)).all (λx=>!x.1)&&(backToKw cpos (keywordEach [] X.env)).all (λx=>x.1.isSome)
   && decide ((e::es).length+([]:List Keyword).length+(if ([]:List Keyword).isEmpty then 0 else 1)<30))=true:=by rfl)
  (hline:(apos.endLine==cpos.line)=true:=by rfl) (hs:starEach (e::es) X.env=(false,eval e X.env)::starEach es X.env:=by rfl) (hplain:(backTo cpos (starEach es X.env)).any (·.1)=false:=by rfl) :
  PE X (.Call (.Attribute o name apos) (e::es) [] cpos) (tI X.K B (eMt m f r)):=by
 refine cO (aNo PySem.F.plainAttrs_str slot hty hm ho ha hbase hfew hline hs hplain) ?_
 rintro σ H Q ⟨A,st,d,rs,hd,k⟩;obtain⟨x,hx,h2⟩:=R.ok_of hd;obtain⟨xs,hxs,h3⟩:=R.ok_of h2;obtain⟨s,rfl⟩:=hk x xs d h3;refine⟨A,st,_,rs,hx,λv H1 s1 r1=>⟨?_,A,st,xs,rs.mono s1,hxs,λvs H2 s2 r2=>?_⟩⟩
 .rw[r1.str];rfl
 .exact sem (A++B) H2 _ d xs v vs Q (rs.own.mono (s1.trans s2)) (r1.mono s2) r2 h3 λw H' s' r'=>k w H' (s1.trans (s2.trans s')) r'
def aZg{K:Frag} (h:bD K H [d] vs):∃v,vs=[v]/\Rep K H d v:=by
 obtain⟨v,r,rfl,h1,h2⟩:=bJ.mp h;rw[cH.mp h2];exact⟨v,rfl,h1⟩
def aUv:MtR X "str.index" (λx vs H Q=>∃(s y:List Nat)(i:Nat),x=.str ⟨s.toArray⟩/\vs=[.str ⟨y.toArray⟩]/\rK s y 0=some i/\Q (.int i) H):=by
 intro pins s σ H x vs v us Q I rx rv h;obtain⟨z,y,i,rfl,rfl,hi,q⟩:=h;obtain⟨t,rfl⟩:=rx;obtain⟨u,rfl,t2,rfl⟩:=rv.one;exact SC.index (i:=i) (rest:=[]) (by rw[aHb,hi];rfl) ⟨.int _,H,I.tok _,⟨_,rfl⟩,q⟩
end
end Pu
namespace Pu
open PySem PySem.Spec PyProof.Rows L2 PySem.SeqAt
section
variable{X:Cx}{B:List Addr}{a b e o:Expr}{f g:Ex}{pos:Pos}{r:Exs}{es:List Expr}{apos cpos:Pos}
def aP7(ho:PE X o (tP X.K B f))(ha:PA X (e::es) (tA X.K B r))(hbase:attributeBase o "index" X.env (eval o X.env)=eval o X.env:=by rfl)
  (hfew:((backTo cpos (starEach (e::es) X.env)).all (λx=>!x.1)&&(backToKw cpos (keywordEach [] X.env)).all (λx=>x.1.isSome)
   && decide ((e::es).length+([]:List Keyword).length+(if ([]:List Keyword).isEmpty then 0 else 1)<30))=true:=by rfl)
  (hline:(apos.endLine==cpos.line)=true:=by rfl) (hs:starEach (e::es) X.env=(false,eval e X.env)::starEach es X.env:=by rfl) (hplain:(backTo cpos (starEach es X.env)).any (·.1)=false:=by rfl) :
  PE X (.Call (.Attribute o "index" apos) (e::es) [] cpos) (tI X.K B (eMt aAi f r)):=by
 refine bFp (m:=aAi) PySem.F.slot_str_index PySem.F.type_str_index aUv (λx xs d h=>?_) (λA H x d xs v vs Q w rx rxs h k=>?_) ho ha hbase hfew hline hs hplain
 .cases x<;>first|exact⟨_,rfl⟩|exact nomatch h
 .unfold aAi at h;split at h
  .obtain⟨i,hi,h⟩:=R.ok_of h;cases h;obtain⟨u,rfl,ru⟩:=aZg rxs;exact⟨_,_,i,rx.str,by rw[eZ.mp ru],yP hi,k _ H (bC.refl _) (bN.mpr rfl)⟩
  .cases h
def aIv(hm:X.mg "max"=none)(hc:X.calm=true)(ha:PE X a (tP X.K B f))(hb:PE X b (tP X.K B g))(hg:Gl X "max":=by rfl)(hs:starEach [a,b] X.env=(false,eval a X.env)::starEach [b] X.env:=by rfl)
  (hs2:starEach [b] X.env=(false,eval b X.env)::starEach [] X.env:=by rfl) (hpl:(backTo pos (starEach [b] X.env)).any (·.1)=false:=by rfl):PE X (.Call (.Name "max" p0) [a,b] [] pos) (tI X.K B (e2 aDc f g)):=by
 refine cO (oJ (aQ0 hc) hg hm (by rfl) (cT ha (cT hb gC hs2) hs) (he:=hs) (hpl:=hpl)) ?_
 rintro σ H Q ⟨A,st,d,rs,hd,q⟩;obtain⟨x,hx,h2⟩:=R.ok_of hd;obtain⟨y,hy,h3⟩:=R.ok_of h2;refine⟨A,st,x,rs,hx,λv H1 s1 r1=>⟨A,st,y,rs.mono s1,hy,λu H2 s2 r2=>?_⟩⟩
 unfold aDc at h3;split at h3
 case h_2=>cases h3
 cases h3;exact⟨_,_,by rw[r1.int,r2.int],q _ H2 (s1.trans s2) (bN.mpr rfl)⟩
def bBl(hm:X.mg "min"=none)(hc:X.calm=true)(ha:PE X a (tP X.K B f))(hb:PE X b (tP X.K B g))(hg:Gl X "min":=by rfl)(hs:starEach [a,b] X.env=(false,eval a X.env)::starEach [b] X.env:=by rfl)
  (hs2:starEach [b] X.env=(false,eval b X.env)::starEach [] X.env:=by rfl) (hpl:(backTo pos (starEach [b] X.env)).any (·.1)=false:=by rfl):PE X (.Call (.Name "min" p0) [a,b] [] pos) (tI X.K B (e2 aJo f g)):=by
 refine cO (oJ (aQ1 hc) hg hm (by rfl) (cT ha (cT hb gC hs2) hs) (he:=hs) (hpl:=hpl)) ?_
 rintro σ H Q ⟨A,st,d,rs,hd,q⟩;obtain⟨x,hx,h2⟩:=R.ok_of hd;obtain⟨y,hy,h3⟩:=R.ok_of h2;refine⟨A,st,x,rs,hx,λv H1 s1 r1=>⟨A,st,y,rs.mono s1,hy,λu H2 s2 r2=>?_⟩⟩
 unfold aJo at h3;split at h3
 case h_2=>cases h3
 cases h3;exact⟨_,_,by rw[r1.int,r2.int],q _ H2 (s1.trans s2) (bN.mpr rfl)⟩
def aZh(ha:PE X a (tP X.K B f)):PE X (.UnaryOp .USub a pos) (tI X.K B (e1 bAk f)):=by
 refine cO (bCt bA8 ha) ?_
 rintro σ H Q ⟨A,st,d,rs,hd,q⟩;obtain⟨x,hx,h2⟩:=R.ok_of hd;refine⟨A,st,x,rs,hx,λv H1 s1 r1=>?_⟩
 cases x<;>first|(cases h2;done)|skip
 cases h2;exact⟨_,r1.int,q _ H1 s1 (bN.mpr rfl)⟩
def bE9(neg:Bool):R2:=λx y H Q=>(y=.non/\Q (.bl (if neg then !decide (x=.non) else decide (x=.non))) H)\/∃c d,x=.bl c/\y=.bl d/\Q (.bl (if neg then !(c==d) else (c==d))) H
def aN5:OpR X (compareOp .Is) (bE9 false):=by
 intro pins s σ H x y v u Q I rx ry h;rcases h with h|⟨c,d,rfl,rfl,q⟩
 .exact bA9 pins s σ H x y v u Q I rx ry h
 .cases rx;cases ry;exact is_bool ⟨.bl _,H,I,rfl,q⟩
def aN6{K:Frag}:yO K (bE9 false) dIs:=by
 intro A H x y d v u Q w rx ry e q;cases y<;>first|(cases x<;>(cases e;done))|skip
 .cases e;exact .inl ⟨ry.non,q _ H (bC.refl _) (cU.mpr (by rw[<-aXe rx];rfl))⟩
 .cases x<;>first|(cases e;done)|skip
  cases e;exact .inr ⟨_,_,rx.bl,ry.bl,q _ H (bC.refl _) (cU.mpr rfl)⟩
open Classical in
noncomputable def xG(K:Frag)(H:Hp)(x:D)(u:Value):Bool:=if ∃d z,Rep K H d z/\RelV z u/\plain d=true/\eqD d x=true then true else false
def aIw(I:Inv X pins σ H s){x:D}{z:V}{u:Value}(r:Rep X.K H d z)(rz:RelV z u)(pd:plain d=true):xG X.K H x u=eqD d x:=by
 unfold xG;split
 .rename_i h;obtain⟨d',z',r',rz',pd',e⟩:=h;have:=RelV.inj rz rz';subst this;rw[Rep.inj I pd pd' r r',e]
 .rename_i h;cases hb:eqD d x with
  |false=>rfl
  |true=>exact(h ⟨d,z,r,rz,pd,hb⟩).elim
theorem aFf{pins:List (Addr×Obj)}{σ:LSt}{H:Hp}{s:Shared}(I:Inv X pins σ H s){x:D}:∀{ds:List D}{zs:List V}{us:List Value},bD X.K H ds zs->Vals zs us->cZ ds=true->us.any (xG X.K H x)=inD x ds
 |[],zs,us,r,v,_=>by
  have e:=cH.mp r;subst e;cases v;rfl
 |d::ds,zs,us,r,v,p=>by
  obtain⟨z,r',e,h1,h2⟩:=bJ.mp r;subst e;simp only[gH,and_eq_true]at p;cases v with
  |cons v vs=>
   rw[bKh,aIw I h1 v p.1,aFf I h2 vs p.2];unfold inD;rw[bKh]
theorem aD0{pins:List (Addr×Obj)}{σ:LSt}{H:Hp}{s:Shared}(I:Inv X pins σ H s){A:Around}{x:D}{zx:V}{ux:Value}(rx:Rep X.K H x zx)(vx:RelV zx ux)(px:plain x=true):∀{ds:List D}{zs:List V}{us:List Value},bD X.K H ds zs->Vals zs us->cZ ds=true->A.units+fZ ds<cLine->∀u∈us,EqAt A s u ux (xG X.K H x u)
 |[],zs,us,r,v,_,_=>by
  have e:=cH.mp r;subst e;cases v;exact λu hu=>nomatch hu
 |d::ds,zs,us,r,v,p,hd=>by
  obtain⟨z,r',e,h1,h2⟩:=bJ.mp r;subst e;simp only[gH,and_eq_true]at p;rw[aCf]at hd;cases v with
  |cons v vs=>
   intro u hu;rcases bG0.mp hu with rfl|hu
   .rw[aIw I h1 v p.1];exact aKz I d x A z zx _ ux h1 rx v vx (by omega) p.1 px
   .exact aD0 I rx vx px h2 vs p.2 (by omega) u hu
def aXn(K:Frag)(neg:Bool):R2:=λv u H Q=>(∃a o,u=.ref a/\aCc H a v o/\Q (.bl (if neg then !o.isSome else o.isSome)) H)\/(∃x ds zs p,u=.ref p/\(SqL K H p zs\/SqT K H p zs)/\Rep K H x v/\bD K H ds zs/\fZ ds<=60/\plain x=true/\cZ ds=true/\Q (.bl (if neg then !inD x ds else inD x ds)) H)\/
 ∃i j:List Nat,v=.str ⟨i.toArray⟩/\u=.str ⟨j.toArray⟩/\Q (.bl (if neg then !(rK j i 0).isSome else (rK j i 0).isSome)) H
def some_of(x y:List Nat):(!(Builtin.Str.occurrences ⟨x.toArray⟩ ⟨y.toArray⟩ 0 (⟨x.toArray⟩:Str).length 1).isEmpty)=(rK x y 0).isSome:=by
 rw[aHb];cases rK x y 0<;>rfl
def aUw(hu:X.A.units+64<cLine):OpR X (compareOp .In) (aXn X.K false):=by
 intro pins s σ H v u a b Q I ra rb h;rcases h with ⟨p,o,rfl,g,q⟩|⟨x,ds,zs,p,rfl,hq,rx,rds,hd,px,pd,q⟩|⟨i,j,rfl,rfl,q⟩
 .cases rb;exact bFe (by omega) I g ra λs' I'=>⟨.bl _,H,I',rfl,q⟩
 .cases rb;have hin:X.A.in1.units+fZ ds<cLine:=by show X.A.units+1+fZ ds<cLine;omega
  rcases hq with hq|hq
  .obtain⟨its,r,pl,hz⟩:=I.list hq;refine SeqAt.in_listAt (xG X.K H x) pl.isList (λw hw=>aD0 I rx ra px rds r pd hin w (by simpa using hw)) ⟨.bl _,H,I,rfl,?_⟩
   rw[show its.toArray.any (xG X.K H x)=its.any (xG X.K H x) by simp,aFf I rds r pd]
   exact q
  .obtain⟨its,r,pl,hz⟩:=I.tuple hq;refine SeqAt.in_tupleAt (xG X.K H x) pl (λw hw=>aD0 I rx ra px rds r pd hin w (by simpa using hw)) ⟨.bl _,H,I,rfl,?_⟩
   rw[show its.toArray.any (xG X.K H x)=its.any (xG X.K H x) by simp,aFf I rds r pd]
   exact q
 .refine aPz pins s σ H _ _ a b Q I ra rb ⟨_,_,rfl,rfl,?_⟩;rw[some_of];exact q
def zU(hu:X.A.units+64<cLine):OpR X (compareOp .NotIn) (aXn X.K true):=by
 intro pins s σ H v u a b Q I ra rb h;rcases h with ⟨p,o,rfl,g,q⟩|⟨x,ds,zs,p,rfl,hq,rx,rds,hd,px,pd,q⟩|⟨i,j,rfl,rfl,q⟩
 .cases rb;exact aWd (by omega) I g ra λs' I'=>⟨.bl _,H,I',rfl,q⟩
 .cases rb;have hin:X.A.in1.units+fZ ds<cLine:=by show X.A.units+1+fZ ds<cLine;omega
  rcases hq with hq|hq
  .obtain⟨its,r,pl,hz⟩:=I.list hq;refine SeqAt.notIn_listAt (xG X.K H x) pl.isList (λw hw=>aD0 I rx ra px rds r pd hin w (by simpa using hw)) ⟨.bl _,H,I,rfl,?_⟩
   rw[show its.toArray.any (xG X.K H x)=its.any (xG X.K H x) by simp,aFf I rds r pd]
   exact q
  .obtain⟨its,r,pl,hz⟩:=I.tuple hq;refine SeqAt.notIn_tupleAt (xG X.K H x) pl (λw hw=>aD0 I rx ra px rds r pd hin w (by simpa using hw)) ⟨.bl _,H,I,rfl,?_⟩
   rw[show its.toArray.any (xG X.K H x)=its.any (xG X.K H x) by simp,aFf I rds r pd]
   exact q
 .refine aHq pins s σ H _ _ a b Q I ra rb ⟨_,_,rfl,rfl,?_⟩;rw[some_of];exact q
def aUx{K:Frag}:yO K (aXn K false) dIn:=by
 intro A H x y d v u Q w rx ry e q;unfold dIn at e;split at e
 .obtain⟨c,e⟩:=aN e;cases e;rename_i t ks ds;have rxr:Rep K H x v:=rx.rep;obtain⟨a,o,e1,g,g1,_⟩:=aIq ry rxr c;exact .inl ⟨a,o,e1,g,by rw[g1];exact q _ H (bC.refl _) (cU.mpr rfl)⟩
 .obtain⟨c,e⟩:=aN e;cases e;obtain⟨p,zs,h1,h2,h3⟩:=ry.lst;exact .inr (.inl ⟨_,_,zs,p,h1,.inl h2,rx.rep,h3.mono (aX _ _),c.1,c.2.1,c.2.2,q _ H (bC.refl _) (cU.mpr rfl)⟩)
 .obtain⟨c,e⟩:=aN e;cases e;obtain⟨p,zs,h1,h2,h3⟩:=ry.tup;exact .inr (.inl ⟨_,_,zs,p,h1,.inr h2,rx.rep,h3.mono (aX _ _),c.1,c.2.1,c.2.2,q _ H (bC.refl _) (cU.mpr rfl)⟩)
 .cases e;exact .inr (.inr ⟨_,_,rx.str,ry.str,q _ H (bC.refl _) (cU.mpr rfl)⟩)
 .cases e
def zV{K:Frag}:yO K (aXn K true) sZ:=by
 intro A H x y d v u Q w rx ry e q;unfold sZ at e;split at e
 .obtain⟨c,e⟩:=aN e;cases e;rename_i t ks ds;have rxr:Rep K H x v:=rx.rep;obtain⟨a,o,e1,g,g1,_⟩:=aIq ry rxr c;exact .inl ⟨a,o,e1,g,by rw[g1];exact q _ H (bC.refl _) (cU.mpr rfl)⟩
 .obtain⟨c,e⟩:=aN e;cases e;obtain⟨p,zs,h1,h2,h3⟩:=ry.lst;exact .inr (.inl ⟨_,_,zs,p,h1,.inl h2,rx.rep,h3.mono (aX _ _),c.1,c.2.1,c.2.2,q _ H (bC.refl _) (cU.mpr rfl)⟩)
 .obtain⟨c,e⟩:=aN e;cases e;obtain⟨p,zs,h1,h2,h3⟩:=ry.tup;exact .inr (.inl ⟨_,_,zs,p,h1,.inr h2,rx.rep,h3.mono (aX _ _),c.1,c.2.1,c.2.2,q _ H (bC.refl _) (cU.mpr rfl)⟩)
 .cases e;exact .inr (.inr ⟨_,_,rx.str,ry.str,q _ H (bC.refl _) (cU.mpr rfl)⟩)
 .cases e
end
end Pu
namespace Pu
open PySem PySem.Spec PyProof.Rows L2
section
variable{X:Cx}{B:List Addr}{a b e:Expr}{f g:Ex}{pos:Pos}
def aHc(i:Nat){x:Str} (he:PE X e (tI X.K B f)) (hN:X.N[i]?=some x:=by rfl) (hv:Vis X.env.scope x:=by first|exact Or.inl rfl|exact Or.inr (Or.inl rfl)|exact Or.inr (Or.inr rfl)) (hd:(x==("__debug__":Str))=false:=by decide)
  (hcd:(x==("__classdict__":Str))=false:=by decide) (hbase:attributeBase (.Name x p1) "append" X.env (eval (.Name x p1) X.env)=eval (.Name x p1) X.env:=by rfl)
  (hfew:((backTo cpos (starEach [e] X.env)).all (λx=>!x.1)&&(backToKw cpos (keywordEach [] X.env)).all (λx=>x.1.isSome)
   && decide (([e]:List Expr).length+([]:List Keyword).length+(if ([]:List Keyword).isEmpty then 0 else 1)<30))=true:=by rfl)
  (hline:(apos.endLine==cpos.line)=true:=by rfl) (hs:starEach [e] X.env=(false,eval e X.env)::starEach [] X.env:=by rfl)
  (hsw:swapsWith (.Call (.Attribute (.Name x p1) "append" apos) [e] [] cpos) none pos.line X.env=pure false:=by rfl) :
  PS X (.Expr (.Call (.Attribute (.Name x p1) "append" apos) [e] [] cpos) pos) (tS X.K B (aI3 i f)):=by
 refine jQ (aHo (aNo bJs bJw PySem.F.type_list_append aQ6 (aAh hN hv hd hcd) (cT he gC hs) hbase hfew hline hs rfl) hsw) ?_
 rintro Dn σ H ⟨A,st,r,rs,hr,p⟩;obtain⟨d,hd,h3⟩:=R.ok_of hr;split at h3
 .rename_i xs e1;obtain⟨c,h4⟩:=aN h3;cases h4;obtain⟨l,o,vs,e2,m,h1,ko,q,u⟩:=rs.lst i _ xs e1;have eo:o=.lst vs:=ko;subst eo;refine⟨.ref l,e2,.inl ⟨rfl,vs,SqL.of h1⟩,A,st,d,rs,hd,λv H' s rv=>?_⟩
  have ql:=q.length;refine⟨l,vs,v,rfl,rfl,s _ _ h1,by rw[ql];rw[qC]at c;exact bG9 c (by decide),?_⟩
  obtain⟨w1,w2⟩:=(rs.mono s).write e1 e2 (k1:=.l) (ds:=xs++[d]) (vs':=vs++[v]) rfl ((q.mono (bC.hide s)).append (.cons rv .nil));exact p A _ _ ((Le.of s).trans w2) w1
 .cases h3
def aXo(i:Nat) (hN:X.N.Nodup) (hi:X.N[i]?=some x:=by rfl) (hx:Loc X.env.scope x:=by first|exact Or.inl rfl|exact Or.inr rfl) (hs:swapsWith (.Dict [] [] dp) (some (.Name x pos')) pos.line X.env=pure false:=by rfl)
  (hf:X.fn x=true\/X.env.scope.names.lookup x=some .local:=by first|exact .inl rfl|exact .inr rfl|assumption):PS X (.Assign [.Name x pos'] (.Dict [] [] dp) pos) (tS X.K B (aNr i false)):=jQ (aEg hN hi hx aSe hs hf) (by
 rintro Dn σ H ⟨A,st,r,rs,hr,p⟩;cases hr;exact λa ha=>p (a::A) _ _ (aIr ha) (rs.setO (kk:=.d false []) i ha (.inl ⟨rfl,[],rfl,rfl,rfl⟩) .nil))
def aXp(i:Nat) (hN:X.N.Nodup) (hi:X.N[i]?=some x:=by rfl) (hx:Loc X.env.scope x:=by first|exact Or.inl rfl|exact Or.inr rfl) (hs:swapsWith (.Dict [] [] dp) (some (.Name x pos')) pos.line X.env=pure false:=by rfl)
  (hf:X.fn x=true\/X.env.scope.names.lookup x=some .local:=by first|exact .inl rfl|exact .inr rfl|assumption):PS X (.Assign [.Name x pos'] (.Dict [] [] dp) pos) (tS X.K B (aNr i true)):=jQ (aEg hN hi hx aSf hs hf) (by
 rintro Dn σ H ⟨A,st,r,rs,hr,p⟩;cases hr;exact λa ha=>p (a::A) _ _ (aIr ha) (rs.setO (kk:=.d true []) i ha (.inr ⟨rfl,[],rfl,rfl,rfl⟩) .nil))
def bEa:V->V->V->Hp->(Hp->Prop)->Prop:=λo i v H Q=>∃p H',o=.ref p/\aHy H p i v H'/\Q H'
def set_dict(hu:X.A.units+64<cLine):bCn X bEa:=by
 intro pins s σ H o i v ov iv u Q I ro ri rv h;obtain⟨p,H',rfl,g,q⟩:=h;cases ro;exact aQb (by omega) I g ri rv λs' I'=>⟨H',I',q⟩
def aFg(hu:X.A.units+64<cLine)(i:Nat) {j:Expr} (hj:PE X j (tI X.K B g)) (he:PE X e (tI X.K B f)) (hN:X.N[i]?=some x:=by rfl) (hv:Vis X.env.scope x:=by first|exact Or.inl rfl|exact Or.inr (Or.inl rfl)|exact Or.inr (Or.inr rfl)) (hd:(x==("__debug__":Str))=false:=by decide)
  (hcd:(x==("__classdict__":Str))=false:=by decide)
  (ha:∀v,assign (.Subscript (.Name x p1) j p2) X.env v=(do
   let ov <- holding [v] (eval (.Name x p1) X.env)
   let iv <- holding [v,ov] (eval j X.env)
   standAt p2
   holding [v,ov,iv] (setItem ov iv v)
   release [v,ov,iv] []):=by intro _;rfl)
  (hs:swapsWithSole [.Subscript (.Name x p1) j p2] e pos.line X.env=pure false:=by rfl) (hw:swappedStores [.Subscript (.Name x p1) j p2] e X.env=pure none:=by rfl)
  (h1:(assignEach [.Subscript (.Name x p1) j p2] X.env).map (·.2)=[assign (.Subscript (.Name x p1) j p2) X.env]:=by rfl) :
  PS X (.Assign [.Subscript (.Name x p1) j p2] e pos) (tS X.K B (sDPut i g f)):=by
 refine jQ (aRw he (aZw (aAh hN hv hd hcd) hj (set_dict hu) ha) hs hw h1) ?_
 rintro Dn σ H ⟨A,st,r,rs,hr,p⟩;obtain⟨d,hd,h3⟩:=R.ok_of hr;obtain⟨k,hk,h5⟩:=R.ok_of h3;split at h5
 .rename_i t ks ds e1;obtain⟨c,h6⟩:=aN h5;cases h6;obtain⟨l,o,vs,e2,m,h1,ko,q,u⟩:=rs.lst i _ _ e1;refine⟨A,st,d,rs,hd,λv H' s rv=>⟨.ref l,e2,A,st,k,rs.mono s,hk,λw H2 s2 rk=>?_⟩⟩
  have hl:H2 l=some o:=(s.trans s2) _ _ h1;have q2:=q.mono (bC.hide (s.trans s2));have rv2:=rv.mono (bC.hide s2);have rk2:Rep X.K H2 k w:=rk.mono (aX _ _);have hlen:ds.length<sizeLine:=by have:=c.2;rw[qC]at this;exact bG9 this (by decide)
  have ql:=q.length;rcases ko with ⟨rfl,kvs,rfl,rfl,rfl⟩|⟨rfl,kvs,rfl,rfl,rfl⟩
  .obtain⟨k',e3,e4⟩:=aAs rk2 c.1;subst e3 e4;obtain⟨z1,z2⟩:=aOz aIo k' v d rv2 kvs ds q2;refine⟨l,_,rfl,aHy.k hl (by rw[bG6]at ql;omega),?_⟩
   obtain⟨w1,w2⟩:=(rs.mono (s.trans s2)).write e1 e2 (k1:=.d false (rJ (kvs.map λp=>kW p.1) (kW k'))) (.inl ⟨rfl,putK kvs k' v,rfl,z1,rfl⟩) z2
   exact p A _ _ ((Le.of (s.trans s2)).trans w2) w1
  .obtain⟨k',b,e3,e4,e5⟩:=yR rk2 c.1;subst e3 e4;obtain⟨z1,z2⟩:=aOz (E:=λl=>D.tup (l.map kW)) aKq k' v d rv2 kvs ds q2
   refine⟨l,_,rfl,aHy.t hl e5 (by rw[bG6]at ql;omega),?_⟩
   obtain⟨w1,w2⟩:=(rs.mono (s.trans s2)).write e1 e2 (k1:=.d true (rJ (kvs.map λp=>D.tup (p.1.map kW)) (.tup (k'.map kW)))) (.inr ⟨rfl,putK kvs k' v,rfl,z1,rfl⟩) z2
   exact p A _ _ ((Le.of (s.trans s2)).trans w2) w1
 .cases h5
def aUy(i:Nat){x:Str} (he:PE X e (tF X.K B f)) (hN:X.N[i]?=some x:=by rfl) (hv:Vis X.env.scope x:=by first|exact Or.inl rfl|exact Or.inr (Or.inl rfl)|exact Or.inr (Or.inr rfl)) (hd:(x==("__debug__":Str))=false:=by decide)
  (hcd:(x==("__classdict__":Str))=false:=by decide) (hbase:attributeBase (.Name x p1) "extend" X.env (eval (.Name x p1) X.env)=eval (.Name x p1) X.env:=by rfl)
  (hfew:((backTo cpos (starEach [e] X.env)).all (λx=>!x.1)&&(backToKw cpos (keywordEach [] X.env)).all (λx=>x.1.isSome)
   && decide (([e]:List Expr).length+([]:List Keyword).length+(if ([]:List Keyword).isEmpty then 0 else 1)<30))=true:=by rfl)
  (hline:(apos.endLine==cpos.line)=true:=by rfl) (hs:starEach [e] X.env=(false,eval e X.env)::starEach [] X.env:=by rfl)
  (hsw:swapsWith (.Call (.Attribute (.Name x p1) "extend" apos) [e] [] cpos) none pos.line X.env=pure false:=by rfl) :
  PS X (.Expr (.Call (.Attribute (.Name x p1) "extend" apos) [e] [] cpos) pos) (tS X.K B (aM7 i f)):=by
 refine jQ (aHo (aNo bJs PySem.F.slot_list_extend PySem.F.type_list_extend aQ7 (aAh hN hv hd hcd) (cT he gC hs) hbase hfew hline hs rfl) hsw) ?_
 rintro Dn σ H ⟨A,st,r,rs,hr,p⟩;obtain⟨d,hd,h3⟩:=R.ok_of hr;cases d<;>first|(cases h3;done)|skip
 rename_i ys;have h3':(match st[i]? with|some (some (.o .l xs))=>aV (xs.length+ys.length<=big) (R.ok (Fl.nx (st.set i (some (.o .l (xs++ys))))))|_=>.bad)=.ok r:=h3
 split at h3'
 .rename_i xs e1;obtain⟨c,h4⟩:=aN h3';cases h4;obtain⟨l,o,vs,e2,m,h1,ko,q,u⟩:=rs.lst i _ xs e1;have eo:o=.lst vs:=ko;subst eo;refine⟨.ref l,e2,.inl ⟨rfl,vs,SqL.of h1⟩,A,st,ys,rs,hd,λn zs H' s hn rz=>?_⟩
  have ql:=q.length;have zl:=rz.length;have hl:H' l=some (.lst vs):=s _ _ h1;have ne:l≠n:=aZ hl hn;refine⟨l,n,vs,zs,rfl,rfl,by rw[bB ne];exact hl,bT,by rw[ql,zl];exact lim c,?_⟩
  have s2:=s.trans (cI (o:=HO.lst zs) hn);obtain⟨w1,w2⟩:=(rs.mono s2).write e1 e2 (k1:=.l) (ds:=xs++ys) (vs':=vs++zs) rfl ((q.mono (bC.hide s2)).append (rz.mono (bC.hide (cI hn))));exact p A _ _ ((Le.of s2).trans w2) w1
 .cases h3'
end
section
open PySem.SeqAt
open PySem.AutoSeq1 (wpAny_loadPart')
open PySem.MeetsSeq PySem.MeetsSeq2 PySem.MeetsSeq3
inductive LexV (A:Around) (s:Shared):List Value->List Value->Bool->Prop where
 |nn:LexV A s [] [] false
 |nc {w:Value} {ws:List Value}:LexV A s [] (w::ws) true
 |cn {v:Value} {vs:List Value}:LexV A s (v::vs) [] false
 |eq {v w:Value} {vs ws:List Value} {b:Bool}:EqAt A s v w true->LexV A s vs ws b->LexV A s (v::vs) (w::ws) b
 |lt {v w:Value} {vs ws:List Value} {b:Bool}:EqAt A s v w false->(∀(prog:Program)(wd:World)(E Q:Value->Shared->Prop),Q (.bool b) s->wpAny (model prog wd) A (richCompare .Lt v w) Q E s)->LexV A s (v::vs) (w::ws) b
def aQx(l b:Addr)(items items2:Array Value)(n n2:Nat)(dd dd2:Option Addr)(sl sl2:Array (Option Value))(t:Bool) :
  Meets (Builtin.«tuple.__lt__» ⟨[.ref l,.ref b],[]⟩)
   (λA R s=>s.heap.get? l=some {cls:=.type "tuple",dict:=dd,data:=.seq items n,slots:=sl}/\s.heap.get? b=some {cls:=.type "tuple",dict:=dd2,data:=.seq items2 n2,slots:=sl2}/\
    LexV A.in1 s items.toList items2.toList t/\R (.ok (.ret (.bool t))) s):=
 .of_wp λprog w A R s h=>by
  obtain⟨hp,g,d,tk,os⟩:=s;obtain⟨hl,hb,hx,h⟩:=h;have f2:=AutoSeq1.sub_tuple_tuple
  wp_walk using wpAny_loadPart' hl,wpAny_loadPart' hb,wpAny_forIn_list _ (λrest b s'=>b.1=none/\s'=⟨hp,g,d,tk,os⟩/\∃(vs ws:List Value),rest=vs.zip ws/\
   LexV A.in1 ⟨hp,g,d,tk,os⟩ vs ws t/\vs.length+items2.size=ws.length+items.size) _
  case turn=>
   rintro⟨y,x⟩ rest b s' ⟨hb',rfl,vs,ws,hz,hv,hlen⟩;cases hv with
   |nn=>cases hz
   |nc=>rw[List.zip_nil_left]at hz;cases hz
   |cn=>rw[List.zip_nil_right]at hz;cases hz
   |eq he hr=>
    rw[bHq]at hz;injection hz with hyx hrest
    injection hyx with hy hx
    subst hy hx;simp only[length_cons]at hlen;refine bFs (he prog w _ _ ?_)
    wp_walk
    exact⟨rfl,rfl,_,_,hrest,hr,by omega⟩
   |lt he hri=>
    rw[bHq]at hz;injection hz with hyx hrest
    injection hyx with hy hx
    subst hy hx;refine bFs (he prog w _ _ ?_);have hri':=hri prog w
    wp_walk using hri'
    exact⟨_,rfl,by simpa using h⟩
  case fin=>
   rintro⟨b1,b2⟩ s' ⟨hb',rfl,vs,ws,hz,hv,hlen⟩;simp only at hb';subst hb';have ht:t=decide (items.size<items2.size):=by
    cases hv with
    |nn=>
     simp only[length_nil]at hlen;exact(bG3 (by omega)).symm
    |nc=>
     simp only[length_nil,length_cons]at hlen;exact(bGe (by omega)).symm
    |cn=>
     simp only[length_nil,length_cons]at hlen;exact(bG3 (by omega)).symm
    |eq _ _=>rw[bHq]at hz;cases hz
    |lt _ _=>rw[bHq]at hz;cases hz
   rw[ht]at h
   wp_walk
   exact⟨_,rfl,by simpa [Builtin.Tuple.tupleCompareSizes] using h⟩
  case h=>
   exact⟨rfl,rfl,items.toList,items2.toList,rfl,hx,by simp;omega⟩
end
section
theorem aP8{pins:List (Addr×Obj)}{σ:LSt}{H:Hp}{s:Shared}(I:Inv X pins σ H s){A:Around}:∀(xs ys:List D){vs us:List V}{as bs:List Value}{t:Bool},bD X.K H xs vs->bD X.K H ys us->Vals vs as->Vals us bs->A.units+fZ xs<cLine->cZ xs=true->cZ ys=true->aDu xs ys=.ok t->LexV A s as bs t
 |[],[],_,_,_,_,_,ra,rb,va,vb,_,_,_,h=>by
  have e:=cH.mp ra;subst e;have e:=cH.mp rb;subst e;cases va;cases vb;cases h;exact .nn
 |[],_::_,_,_,_,_,_,ra,rb,va,vb,_,_,_,h=>by
  have e:=cH.mp ra;subst e;obtain⟨_,_,rfl,_⟩:=bJ.mp rb;cases va;cases vb;cases h;exact .nc
 |_::_,[],_,_,_,_,_,ra,rb,va,vb,_,_,_,h=>by
  have e:=cH.mp rb;subst e;obtain⟨_,_,rfl,_⟩:=bJ.mp ra;cases va;cases vb;cases h;exact .cn
 |x::xs,y::ys,_,_,_,_,t,ra,rb,va,vb,hu,px,py,h=>by
  obtain⟨v,r,rfl,q1,q2⟩:=bJ.mp ra;obtain⟨u,r',rfl,q3,q4⟩:=bJ.mp rb;rw[aCf]at hu;simp only[gH,and_eq_true]at px py;cases va with
  |cons va vas=>
   cases vb with
   |cons vb vbs=>
    have he:=aKz I x y A v u _ _ q1 q3 va vb (by omega) px.1 py.1
    unfold aDu at h
    by_cases hb:eqD x y=true
    .rw[bGa hb]at h;rw[hb]at he;exact .eq he (aP8 I xs ys q2 q4 vas vbs (by omega) px.2 py.2 h)
    .rw[bG7 hb]at h;rw[Bool.not_eq_true]at hb;rw[hb]at he;refine .lt he ?_
     cases x<;>cases y<;>first|(cases h;done)|skip
     .cases h;have e:=bN.mp q1;subst e;have e:=bN.mp q3;subst e;obtain⟨t1,rfl⟩:=va;obtain⟨t2,rfl⟩:=vb;exact λprog wd E Q hq=>(PyProof.Rows.lt_int hq:wpAny (model prog wd) A (compareOp .Lt _ _) Q E s)
     .cases h;have e:=eZ.mp q1;subst e;have e:=eZ.mp q3;subst e;obtain⟨t1,rfl⟩:=va;obtain⟨t2,rfl⟩:=vb;exact λprog wd E Q hq=>(PyProof.Rows.lt_str hq:wpAny (model prog wd) A (compareOp .Lt _ _) Q E s)
end
structure ClsAt(K:Frag)(c:String)(C:Addr):Prop where
 ns:nsIn K mainGlobals (Str.ofString c)=some (some (.ref C))
 cl:Cls K C
def vQ{a b:String}(h:Str.ofString a=Str.ofString b):a=b:=by
 have h1:(Str.ofString a).cps=(Str.ofString b).cps:=by rw[h]
 rw[Str.ofString_eq_toList,Str.ofString_eq_toList]at h1;have h2:a.toList.map Char.toNat=b.toList.map Char.toNat:=by
  have:=congrArg Array.toList h1;simpa using this
 have inj:∀(x y:List Char),x.map Char.toNat=y.map Char.toNat->x=y:=by
  intro x
  induction x with
  |nil=>intro y h;cases y with|nil=>rfl|cons _ _=>simp at h
  |cons a x ih=>
   intro y h;cases y with
   |nil=>simp at h
   |cons b y=>
    rw[bGf,bGf]at h;injection h with h3 h4
    rw[ih y h4];congr 1;exact Char.ext (UInt32.toNat_inj.mp h3)
 exact String.toList_inj.mp (inj _ _ h2)
section
variable{K:Frag}
theorem aFh{f:String}:∀{ns:List String}{ds:List D} {fs:List (Str×V)} {d:D},fs.map (·.1)=ns.map Str.ofString->bD K H ds (fs.map (·.2))->(ns.zip ds).lookup f=some d->∃v,fs.lookup (Str.ofString f)=some v/\Rep K H d v
 |[],ds,fs,d,_,_,h=>by simp at h
 |n::ns,[],fs,d,_,_,h=>by simp at h
 |n::ns,d0::ds,[],d,e,_,h=>by simp at e
 |n::ns,d0::ds,(g,w)::fs,d,e,r,h=>by
  rw[bGf,bGf]at e;injection e with e1 e2
  obtain⟨v,r',e3,h1,h2⟩:=bJ.mp r;rw[bGf]at e3;injection e3 with e4 e5
  subst e4 e5;have e1':g=Str.ofString n:=e1;subst e1';rw[bHq,bHj]at h;rw[bHj]
  by_cases hf:f=n
  .subst hf;simp only[beq_self_eq_true]at h ⊢;cases h;exact⟨_,rfl,h1⟩
  .have hb:(f==n)=false:=bGs.mpr hf;have hb2:(Str.ofString f==Str.ofString n)=false:=bGs.mpr λz=>hf (vQ z)
   rw[hb]at h;rw[hb2];exact aFh e2 h2 h
theorem lookup_none{f:String}:∀{ns:List String} {fs:List (Str×V)},fs.map (·.1)=ns.map Str.ofString->f∉ns->fs.lookup (Str.ofString f)=none
 |[],fs,e,_=>by cases fs with|nil=>rfl|cons _ _=>simp at e
 |n::ns,[],e,_=>rfl
 |n::ns,(g,w)::fs,e,h=>by
  rw[bGf,bGf]at e;injection e with e1 e2
  have e1':g=Str.ofString n:=e1;subst e1';rw[bHj];have hb2:(Str.ofString f==Str.ofString n)=false:=bGs.mpr λz=>h (by rw[vQ z];exact bFx)
  rw[hb2];exact lookup_none e2 λz=>h (bFw _ z)
theorem aL2{f:String}{v:V}:∀{ns:List String} {fs:List (Str×V)},fs.map (·.1)=ns.map Str.ofString->f∉ns->wZ (Str.ofString f) v fs=fs++[(Str.ofString f,v)]
 |[],fs,e,_=>by cases fs with|nil=>rfl|cons _ _=>simp at e
 |n::ns,[],e,_=>by simp at e
 |n::ns,(g,w)::fs,e,h=>by
  rw[bGf,bGf]at e;injection e with e1 e2
  have e1':g=Str.ofString n:=e1;subst e1';unfold wZ;rw[bG7 (λz=>h (by rw[vQ z];exact bFx)),aL2 e2 λz=>h (bFw _ z)]
  rfl
end
section
variable{X:Cx}{B:List Addr}{a b e o:Expr}{f g:Ex}{pos:Pos}
theorem kY.ins{K:Frag}{A:List Addr}{H:Hp}{c:String}{ns:List String}{ds:List D}{v:V}(h:kY K A H (.ins c ns ds) v):∃p C dx fs,v=.ref p/\H p=some (.ins C dx fs)/\nsIn K mainGlobals (Str.ofString c)=some (some (.ref C))/\fs.map (·.1)=ns.map Str.ofString/\bD K (hide A H) ds (fs.map (·.2)):=by
 rcases h with h|⟨p,kk,o,ds',vs,e,e2,h,ko,r⟩
 .obtain⟨p,C,dx,fs,vs,e,q1,q2,q3,q4,r⟩:=aIn.mp h;subst q4;exact⟨p,C,dx,fs,e,aX _ _ _ _ q1,q2,q3,r⟩
 .cases kk<;>cases e;obtain⟨_,C,dx,fs,rfl,q2,q3,rfl⟩:=ko;exact⟨p,C,dx,fs,e2,h,q2,q3,r⟩
def gZ{f':String} (hc:ClsAt X.K c C) (hn:eV X.K C (Str.ofString f')) (ho:PE X o (tP X.K B f)) (hb:attributeBase o (Str.ofString f') X.env (eval o X.env)=eval o X.env:=by rfl) :
  PE X (.Attribute o (Str.ofString f') pos) (tI X.K B (e1 (dW c f') f)):=by
 refine cO (bAa ho hb) ?_
 rintro σ H Q ⟨A,st,d,rs,hd,q⟩;obtain⟨x,hx,h2⟩:=R.ok_of hd;refine⟨A,st,x,rs,hx,λv H1 s1 r1=>?_⟩
 cases x<;>first|(cases h2;done)|skip
 obtain⟨e1,h3⟩:=aN h2;subst e1;obtain⟨p,C',dx,fs,e2,h4,h5,h6,h7⟩:=r1.ins;have:C'=C:=by have z:=h5.symm.trans hc.ns;injection z with z;injection z with z;injection z
 subst this;obtain⟨w,h8,h9⟩:=aFh h6 h7 (yP h3);exact⟨p,C',dx,fs,w,e2,h4,hc.cl,hn,h8,q w H1 s1 h9⟩
structure MethOk(P:Program)(w:World)(K:Frag)(mg:Str->Option Value)(base:Heap)(c m:String)(k np:Nat)(dv:List D)(p:List D->R D):Prop where
 ex:∃(C fa:Addr)(fd:FuncData)(ps:List Str)(dvs:List V)(ds:List Value),ClsAt K c C/\Meth K C (Str.ofString m) fa/\FnOk P w K mg base CX0 k fa fd ps (spI K np p)/\Binds K fd ps ds/\Vals dvs ds/\∀H,bD K H dv dvs
 len:∀ds d,p ds=.ok d->ds.length=np
def aUz{m:String}{k:Nat} {pl:Sem Bool} (h:MethOk X.prog X.w X.K X.mg X.base c m k np dv p) (hr:Room j X.A) (hk:k<=j) (ho:PE X o (tI X.K B f)) (ha:PA X (e::es) (tA X.K B r))
  (hst:starEach (e::es) X.env=(false,eval e X.env)::starEach es X.env:=by rfl) (hpl:(backTo pos (starEach es X.env)).any (·.1)=false:=by rfl)
  (ht:eval (.Call (.Attribute o (Str.ofString m) apos) (e::es) [] pos) X.env=(do
   let ov <- eval o X.env
   standAt apos.atName
   let (f,first) <- holding [ov] (getMethod ov (Str.ofString m) pl)
   callWith pos f first (backTo pos (starEach (e::es) X.env)) (backToKw pos (keywordEach [] X.env))):=by rfl) :
  PE X (.Call (.Attribute o (Str.ofString m) apos) (e::es) [] pos) (tI X.K B (aSi c m p dv f r)):=by
 obtain⟨C,fa,fd,ps,dvs,ds,hc,hm,F,bd,vd,rd⟩:=h.ex;refine cO (aW3 (pl:=pl) ho hc.cl hm F (hr.mono hk) bd vd aNp ha hst hpl ht) ?_
 rintro σ H Q ⟨A,st,d,rs,hd,q⟩;obtain⟨x,hx,h2⟩:=R.ok_of hd;obtain⟨xs,hxs,h3⟩:=R.ok_of h2;refine⟨A,st,x,rs,hx,λv H1 s1 r1=>?_⟩
 cases x<;>first|(cases h3;done)|skip
 obtain⟨⟨e1,hn⟩,h4⟩:=aN h3;subst e1;obtain⟨p',C',dx,fs,e2,h5,h6,h7,h8⟩:=kY.ins (.inl r1);have:C'=C:=by have z:=h6.symm.trans hc.ns;injection z with z;injection z with z;injection z
 subst this;refine⟨p',dx,fs,e2,h5,lookup_none h7 hn,A,st,xs,rs.mono s1,hxs,λvs H2 s2 r2=>?_⟩
 exact⟨A++B,_,d,rs.own.mono (s1.trans s2),.cons (r1.mono (bC.hide s2)) (r2.append (rd _)),h.len _ _ h4,h4,λw H' s' r'=>q w H' (s1.trans (s2.trans s')) r'⟩
def spM(K:Frag)(c:String)(np:Nat)(p:List D->R D):Sp:=λvs H Q _=>∃x ws A C dx ds d,vs=.ref x::ws/\H x=some (.ins C dx [])/\nsIn K mainGlobals (Str.ofString c)=some (some (.ref C))/\Own A H/\x∉A/\bD K (hide (x::A) H) ds ws/\ds.length=np/\p ds=.ok d/\
 ∀H',bC (hide [x] H) H'->Rep K (hide A H') d (.ref x)->Q .non H'
structure MakeOk(P:Program)(w:World)(K:Frag)(mg:Str->Option Value)(base:Heap)(c:String)(k np:Nat)(p:List D->R D):Prop where
 ex:∃(C fa:Addr)(fd:FuncData)(ps:List Str),ClsAt K c C/\Mk K C fa/\FnOk P w K mg base CX0 k fa fd ps (spM K c np p)/\Binds K fd ps []/\mg (Str.ofString c)=some (.ref C)
 len:∀ds d,p ds=.ok d->ds.length=np
def aN7{k:Nat} (h:MakeOk X.prog X.w X.K X.mg X.base c k np p) (hr:Room j X.A) (hk:k+1<=j) (ha:PA X (e::es) (tA X.K B r)) (hg:Gl X (Str.ofString c):=by rfl) (hdb:(Str.ofString c==("__debug__":Str))=false:=by decide)
  (he:starEach (e::es) X.env=(false,eval e X.env)::starEach es X.env:=by rfl) (hpl:(backTo pos (starEach es X.env)).any (·.1)=false:=by rfl):PE X (.Call (.Name (Str.ofString c) p0) (e::es) [] pos) (tI X.K B (aW p r)):=by
 obtain⟨C,fa,fd,ps,hc,M,F,bd,hm⟩:=h.ex;refine cO (aW4 M F (hr.mono hk) hg hm bd .nil aNp ha hdb he hpl) ?_
 rintro σ H Q ⟨A,st,d,rs,hd,q⟩;obtain⟨xs,hx,h2⟩:=R.ok_of hd;refine⟨A,st,xs,rs,hx,λvs H1 s1 r1 x dx hx0 hdx hne=>?_⟩
 have w1:=rs.own.mono s1;have hxA:x∉A++B:=w1.free hx0;have e0:∀b u,H1 b=some u->upd (upd H1 dx (.own x)) x (.ins C dx []) b=some u:=λb u z=>by
  rw[bB (aZ z hx0),bB (aZ z hdx)];exact z
 refine⟨x,vs++[],A++B,C,dx,xs,d,rfl,bT,hc.ns,λb hb=>?_,hxA,?_,h.len _ _ h2,h2,λH' sm rd=>⟨rfl,q _ H' (λb u z=>?_) rd⟩⟩
 .obtain⟨u,z,n⟩:=aZc (w1 b hb);rw[e0 b u z];exact n
 .rw[bJn];refine r1.mono λb u z=>?_
  have z1:=aX _ _ _ _ z;have hb:b∉A++B:=λy=>by rw[lZ y]at z;cases z
  rw[dC (λy=>(bG0.mp y).elim (aZ z1 hx0) hb)]
  exact e0 b u z1
 .have z1:=s1 _ _ z;exact sm b u (by rw[dC (by simpa using aZ z1 hx0)];exact e0 b u z1)
def aQy{K:Frag} {ws:List V} {x dx:Addr} (w:Own A H) (hxA:x∉A) (hx:H x=some (.ins C dx [])) (hns:nsIn K mainGlobals (Str.ofString c)=some (some (.ref C))) (r:bD K (hide (x::A) H) ds ws) :
  RS K A [x] H (some (Sl.o (.i x c []) [])::(ds.map (λd=>some (Sl.v d))++List.replicate (N.length-ds.length-1) none)) (L2.start N (.ref x::ws)):=by
 have hl:=r.length;have sh:L2.start N (.ref x::ws)=some (.ref x)::(ws.map some++List.replicate (N.length-ds.length-1) none):=by
  unfold L2.start;rw[bGf,bKk,bGn,hl];congr 2
 rw[sh];have nov:∀(i:Nat)(s:Sl),(ds.map (λd=>some (Sl.v d))++List.replicate (N.length-ds.length-1) none)[i]?=some (some s)->∃d,ds[i]?=some d/\s=.v d:=λi s e=>by
  by_cases hi:i<ds.length
  .rw[bH5 (by simpa using hi),List.getElem?_map,List.getElem?_eq_getElem hi]at e
   simp at e;exact⟨ds[i],bFv hi,e.symm⟩
  .rw[bIb (by simpa using hi),List.getElem?_replicate]at e
   split at e<;>simp at e
 refine⟨by simp[hl],λb hb=>?_,λb hb=>by rw[bFz.mp hb];exact hxA,λi d e=>?_,λi k xs e=>?_⟩
 .rcases bGm.mp hb with hb|hb
  .rw[bFz.mp hb,hx];rfl
  .exact w b hb
 .cases i with
  |zero=>simp at e
  |succ i=>
   rw[bI0]at e;obtain⟨d',e1,e2⟩:=nov i _ e;cases e2;obtain⟨v,hv,rv⟩:=r.get e1;refine⟨v,?_,rv⟩;have hi:i<ws.length:=(bFy.mp hv).1;rw[bI0,bH5 (by simpa using hi),List.getElem?_map,hv]
   rfl
 .cases i with
  |zero=>
   simp at e;obtain⟨rfl,rfl⟩:=e;refine⟨x,_,[],rfl,bFz.mpr rfl,hx,⟨rfl,C,dx,[],rfl,hns,rfl,rfl⟩,.nil,λj k' ys ej _=>?_⟩
   cases j with
   |zero=>rfl
   |succ j=>
    rw[bI0]at ej;obtain⟨_,_,e2⟩:=nov j _ ej;cases e2
  |succ i=>
   rw[bI0]at e;obtain⟨_,_,e2⟩:=nov i _ e;cases e2
def aP9{w:World}{K:Frag} {st:Stmt} {f:Addr} {k:Nat} (F:Fun K x qual st f fd) (S:FnScope N ps (aM st)) (c:String) (np n:Nat) (bd:Bd) (hnp:ps.length=np+1) (hn:N.length=n)
  (hb:∀(cdv:Value)(A:Around)(outer:List Env)(s:Shared)(H:Hp)(E:XK)(B:List Addr),Room k (A.deeper (envOfC qual (aM st) s.heap.objs.size f cdv))->
   PSs (aHs CX0 P w K mg base N qual (aM st) f cdv A outer s H E).nox (dM st) (tS K B bd)):FnOk P w K mg base CX0 (k+1) f fd ps (spM K c np (aG2 c np n bd)):=by
 refine F.ok S (λvs H Q E h=>?_) (λcdv A outer s H vs Q E hr h=>?_)
 .obtain⟨y,ws,A,C,dx,ds,d,rfl,_,_,_,_,r,hl,_⟩:=h;rw[bGn,r.length,hl,hnp]
 .obtain⟨y,ws,A',C,dx,ds,d,rfl,hy,hns,own,hyA,r,hl,hp,q⟩:=h;refine⟨tS K A' bd,hb cdv A outer s H E A' hr,?_⟩;obtain⟨_,h2⟩:=aN (aNt hp y);obtain⟨fl,hfl,h3⟩:=R.ok_of h2;have rs:=aQy (N:=N) (c:=c) own hyA hy hns r;rw[hl,hn]at rs;refine⟨[y],_,fl,rs,hfl,?_⟩;cases fl with
  |nx s1=>
   intro A1 σ1 H1 l rs1;have h3':(match (s1[0]?:Option (Option Sl)) with|some (some (.o (.i y' c' ns) xs))=>aV (y'=y) (R.ok (D.ins c' ns xs))|_=>.bad)=.ok d:=h3
   split at h3'
   .rename_i y' c' ns xs e1;obtain⟨rfl,h4⟩:=aN h3';cases h4;obtain⟨a,o,vs,e2,m,h5,ko,r5,_⟩:=rs1.lst 0 _ _ e1;have ea:a=y':=ko.1;subst ea;refine q H1 (bC.trans (show bC (hide [a] H) (hide A1 H1) from l) (aX _ _)) ?_
    have:=ko.rep (H:=hide A' H1) (ds:=xs) (by rw[dC (rs1.dis a m)];exact h5) (r5.mono (pZ λb hb=>bG8 _ hb))
    exact this
   .cases h3'
  |rt d'=>cases h3
  |bk s1=>cases h3
  |ct s1=>cases h3
def aV0(ds:List D)(d:D)(h:aG2 c np n bd ds=.ok d):ds.length=np:=(aN (aNt h 0)).1
def vR(i:Nat) {f':String} (hc:ClsAt X.K c C) (hn:eV X.K C (Str.ofString f')) (he:PE X value (tI X.K B f)) (hN:X.N[i]?=some x:=by rfl) (hv:Vis X.env.scope x:=by first|exact Or.inl rfl|exact Or.inr (Or.inl rfl)|exact Or.inr (Or.inr rfl)) (hd:(x==("__debug__":Str))=false:=by decide)
  (hcd:(x==("__classdict__":Str))=false:=by decide) (hs:swapsWith value (some (.Attribute (.Name x p1) (Str.ofString f') p2)) pos.line X.env=pure false:=by rfl) :
  PS X (.Assign [.Attribute (.Name x p1) (Str.ofString f') p2] value pos) (tS X.K B (wG i c f' f)):=by
 refine jQ (bAb (aAh hN hv hd hcd) he hs) ?_
 rintro Dn σ H ⟨A,st,r,rs,hr,p⟩;obtain⟨d,hd,h3⟩:=R.ok_of hr;split at h3
 .rename_i n c' ns xs e1;obtain⟨⟨ec,hf,hlen⟩,h4⟩:=aN h3;subst ec;cases h4;obtain⟨l,o,vs,e2,m,h1,ko,q,u⟩:=rs.lst i _ _ e1;obtain⟨el,C',dx,fs,rfl,k1,k2,rfl⟩:=ko;have:C'=C:=by have z:=k1.symm.trans hc.ns;injection z with z;injection z with z;injection z
  subst this;refine⟨A,st,d,rs,hd,λy H1 s1 r1=>⟨.ref l,e2,l,C',dx,fs,rfl,s1 _ _ h1,hc.cl,hn,?_,?_⟩⟩
  .have:=congrArg List.length k2;rw[bG6,bG6]at this;omega
  .rw[aL2 k2 hf];obtain⟨w1,w2⟩:=(rs.mono s1).write e1 e2 (k1:=.i n c' (ns++[f'])) (o':=.ins C' dx (fs++[(Str.ofString f',y)])) (ds:=xs++[d]) (vs':=fs.map (·.2)++[y]) ⟨el,C',dx,_,rfl,k1,by rw[bGw,bGw,k2];rfl,by rw[bGw];rfl⟩ ((q.mono (bC.hide s1)).append (.cons r1 .nil))
   exact p A _ _ ((Le.of s1).trans w2) w1
 .cases h3
def aEc:PS X sm (tS X.K B aEi):=λ_ _ _ _ _ _ ⟨_,_,_,_,h,_⟩=>nomatch h
end
section
variable {iter c:Expr} {t:Tg} {u:Ex}
def aQz{H3 H5:Hp}{s3 s5:Shared}{fp:List Addr}{p:Addr}{m5:Str->Option Value} {px:Pos} (hN:X.N.Nodup) (hi:X.N[i]?=some x) (hx:Loc X.env.scope x)
  (hf:X.fn x=true\/X.env.scope.names.lookup x=some .local) (hC:s3.heap.objs.size<=C) (I3:Inv X pins σ H3 s3) (hfp:∀b∈fp,xH X pins H3 b) (I5:Inv (cQ X scope C s3 H3 fp) [] τ H5 s5) (hn5:s5.heap.Ns C m5)
  (hQ:∀s',Inv X pins (σ.set i (some (.ref p))) H5 s'->Qf .none s'):compPost (model X.prog X.w) X.A X.xe (some (assign (.Name x px) X.env)) Qf (.ref p) C (.ok .next) s5:=by
 have I5':Inv X pins σ H5 {s5 with heap:=s5.heap}:=aBu I3 hfp hC I5 (.refl ..)
 have lt:∀b o,s3.heap.get? b=some o->C≠b:=λb o e z=>bH0 _ (bG9 (bG2 (z ▸ e)) hC)
 have hL:C≠X.env.locals:=λz=>bH0 _ (bG9 (z ▸ I3.lt) hC)
 have hc:∀y c,X.env.cells.lookup y=some c->c≠C:=λy c e=>by
  obtain⟨v,o,ho,_⟩:=I3.cell y c e;exact(lt c o ho).symm
 have hp:∀q∈X.pn++pins,q.1≠C:=λq hq=>(lt q.1 q.2 (I3.pin q hq).1).symm
 show wpAny _ X.A (assign (.Name x px) X.env (.ref p)) _ _ _;refine wpAny_assign_Name (aGg (v:=.ref p) I5' hN hi hx rfl (λs6 I6 ⟨a,hs,ha⟩=>?_) hf)
 have hCa:C≠a:=by
  rcases ha with z|z
  .rw[z];exact hL
  .exact(hc x a z).symm
 refine⟨m5,hn5.sameBut hs hCa,λh' hs'=>hQ _ ?_⟩
 exact I6.turned (t':=s6.toks) (λb o hb e=>(hs'.2 b hb).trans e) (show H5 C=none from I5.free) hL (.inr (bGy I3.sz hC)) hc hp
def aAu(i:Nat){x:Str}{px spos:Pos}(is:List Nat)(hsub:aDl is t)(S:CScope X scope is)(hi:L2.PI X tg iter (tIt X.K B it))(hg:∀(B:List Addr)(C:Addr)(s₀:Shared)(H₀:Hp)(fp:List Addr),PG (cQ X scope C s₀ H₀ fp) tg (tG X.K B t))
  (he:∀(B:List Addr)(C:Addr)(s₀:Shared)(H₀:Hp)(fp:List Addr),PE (cQ X scope C s₀ H₀ fp) elt (tI X.K B f)) (hc:X.calm=true) (hN:X.N.Nodup) (hi':X.N[i]?=some x:=by rfl) (hx:Loc X.env.scope x:=by first|exact Or.inl rfl|exact Or.inr rfl)
  (hsw:swapsWith (.ListComp elt [⟨tg,iter,[],0⟩] scope pos) (some (.Name x px)) spos.line X.env=pure true:=by rfl)
  (hf:X.fn x=true\/X.env.scope.names.lookup x=some .local:=by first|exact .inl rfl|exact .inr rfl|assumption) (hs:∀x,foldedSetIterable iter X.env x=pure x:=by intro _;rfl) :
  PS X (.Assign [.Name x px] (.ListComp elt [⟨tg,iter,[],0⟩] scope pos) spos) (tS X.K B (cN i (bI is t it bL f))):=by
 intro pins s σ H Dn I h;obtain⟨A,st,r,rs,hr,q⟩:=h;obtain⟨d,hd,h3⟩:=R.ok_of hr;cases h3;obtain⟨xs,hx',h2⟩:=R.ok_of hd;obtain⟨hl,h3⟩:=aN h2;obtain⟨ys,hy,h4⟩:=R.ok_of h3;cases h4;rw[exec_Assign_Name_used _ _ _ _ hsw];refine bFs (bJo (bFs ?_));show wpAny _ X.A (do let _ <- comprehension (.ListComp elt [⟨tg,iter,[],0⟩] scope pos) scope X.env _ (newList []) false (eval iter X.env) (some (assign (.Name x px) X.env))) _ _ s
 refine bFs (bI6 (Q:=λ_ s'=>SP X pins Dn .next s') ?_ (λ_ s' hq=>bFu (bFu hq)) λ_ _ e=>e)
 refine uN (use:=some (assign (.Name x px) X.env)) (Qf:=λ_ s'=>SP X pins Dn .next s') (Q:=λv H'=>Dn.nx (σ.set i (some v)) H') (tt:=aEa) (te:=tIx X.K f) (rest:=λenv it p=>eval elt env >>= λx=>call (.builtin "list.append") [p,x] >>= λ_=>again (.compLoop (.ListComp elt [⟨tg,iter,[],0⟩] scope pos) 0 it p env)) S hc hi (λC s₀ H₀ fp=>aUq λB=>hg B C s₀ H₀ fp) (λ_ _ _=>qZ)
  (λC s₀ H₀ fp it p s Q h=>bBk (Y:=cQ X scope C s₀ H₀ fp) h) (λC s₀ H₀ fp it p τ H s pins vs N Q I h q=>aUo (Y:=cQ X scope C s₀ H₀ fp) rfl (aUp λB=>he B C s₀ H₀ fp) τ H s pins vs N Q I h (λQ Q' m h=>yU Q Q' m h) q) hs I
  (aKv hsub (λτ H Q ⟨B,A,st,k,rs,hk,q⟩=>?_) rs hx' hl hy λp vs H1 H' s1 hp s2 hv r=>aN2 (Q:=λv H'=>Dn.nx (σ.set i (some v)) H') rs (λv H' sm rv=>q A _ H' (Le.of sm) ((rs.mono sm).set i rv)) s1 hp s2 hv r) λC p H5 s5 m5 s3 H3 fp τ hC I3 hfp I5 hn5 q5=>aQz hN hi' hx hf hC I3 hfp I5 hn5 λs' I'=>⟨_,_,I',q5⟩
 cases hk;exact q H (bC.refl _)
end
structure FunD(K:Frag)(x qual:Str)(st:Stmt)(dV:Value)(f:Addr)(fd:FuncData):Prop where
 ex:∃(oc:Value)(od:Option Addr)(kV doc pm:Value)(an:Option Addr)(cdv ct:Value) (osl:Array (Option Value)),
  fd=fnOf x qual (fK st) (dM st) (aM st) dV kV doc pm an cdv ct/\K.lookup f=some ⟨oc,od,.func fd,osl⟩/\codeIn K cdv qual=true
 kp:keepIn K (.ref f)=true
section
variable{w:World}{K:Frag} {st:Stmt} {f:Addr} {k:Nat}
def aBx{od an:Option Addr} {kV doc pm cdv ct:Value} (l:K.lookup f=some ⟨oc,od,.func (fnOf x qual (fK st) (dM st) (aM st) dV kV doc pm an cdv ct),osl⟩)
  (c:codeIn K cdv qual=true) (k:keepIn K (.ref f)=true):FunD K x qual st dV f (fnOf x qual (fK st) (dM st) (aM st) dV kV doc pm an cdv ct):=⟨⟨oc,od,kV,doc,pm,an,cdv,ct,osl,rfl,l,c⟩,k⟩
def FunD.binds0(F:FunD K x qual st .none f fd)
  (h:∀(kV doc pm:Value)(an:Option Addr)(cdv ct:Value)(us:List Value),us.length=ps.length->bindArgs (fnOf x qual (fK st) (dM st) (aM st) .none kV doc pm an cdv ct) ⟨us,[]⟩=pure (ps.zip us)):Binds K fd ps []:=by
 obtain⟨oc,od,kV,doc,pm,an,cdv,ct,osl,rfl,lk,hcd⟩:=F.ex;exact .all (h kV doc pm an cdv ct)
def FunD.binds{T:Addr}{o:Obj} {ds:List Value} (F:FunD K x qual st (.ref T) f fd) (hT:K.lookup T=some o) (hd:o.data=.seq items n) (hm:m+ds.length=ps.length)
  (h:∀(kV doc pm:Value)(an:Option Addr)(cdv ct:Value)(us:List Value),us.length=m->∃k:Option (Array Value)->Sem (List (Str×Value)),bindArgs (fnOf x qual (fK st) (dM st) (aM st) (.ref T) kV doc pm an cdv ct) ⟨us,[]⟩=seqItems? (.ref T) >>= k/\k (some items)=pure (ps.zip (us++ds))):Binds K fd ps ds:=by
 obtain⟨oc,od,kV,doc,pm,an,cdv,ct,osl,rfl,lk,hcd⟩:=F.ex;intro s us KX hl;obtain⟨k,h1,h2⟩:=h kV doc pm an cdv ct us (by rw[bGg]at hl;omega)
 exact .of_defaults rfl (KX _ _ hT) hd h1 h2
def FunD.okX{sp:Sp}(F:FunD K x qual st dV f fd)(S:FnScope N ps (aM st))(len:∀vs H Q E,sp vs H Q E->vs.length=ps.length)
  (hbody:∀(cdv:Value)(A:Around)(outer:List Env)(s:Shared)(H:Hp)(vs:List V)(Q:VK)(E:XK),Room k (A.deeper (envOfC qual (aM st) s.heap.objs.size f cdv))->sp vs H Q E->
   ∃t,PSs (aHs CX0 P w K mg base N qual (aM st) f cdv A outer s H E).nox (dM st) t/\t {nx:=λ_ H'=>Q .non H',rt:=Q} (L2.start N vs) H):FnOk P w K mg base CX0 (k+1) f fd ps sp:=by
 obtain⟨oc,od,kV,doc,pm,an,cdv,ct,osl,rfl,lk,hcd⟩:=F.ex;refine aYs lk hcd S len λA outer s H vs Q E hr hsp=>?_
 obtain⟨t,h,q⟩:=hbody cdv A outer s H vs Q E hr hsp;exact⟨t,h.nox,q⟩
def dN(F:FunD K x qual st dV f fd)(S:FnScope N ps (aM st))(np n:Nat)(bd:Bd)(hnp:ps.length=np)(hn:N.length=n)
  (hb:∀(cdv:Value)(A:Around)(outer:List Env)(s:Shared)(H:Hp)(E:XK)(B:List Addr),Room k (A.deeper (envOfC qual (aM st) s.heap.objs.size f cdv))->
   PSs (aHs CX0 P w K mg base N qual (aM st) f cdv A outer s H E).nox (dM st) (tS K B bd)):FnOk P w K mg base CX0 (k+1) f fd ps (spI K np (fL np n bd)):=by
 refine F.okX S (λvs H Q E h=>?_) (λcdv A outer s H vs Q E hr h=>?_)
 .obtain⟨A,ds,d,own,r,hl,_⟩:=h;rw[r.length,hl,hnp]
 .obtain⟨B,ds,d,own,r,hl,hp,q⟩:=h;refine⟨tS K B bd,hb cdv A outer s H E B hr,?_⟩;obtain⟨_,h2⟩:=aN hp;obtain⟨fl,hfl,h3⟩:=R.ok_of h2;have rs:=aUk (N:=N) own r;rw[hl,hn]at rs;refine⟨[],_,fl,rs,hfl,?_⟩;have fin:∀{A':List Addr}{H':Hp},Le [] H A' H'->bC H H':=λ{A' H'} l=>by
   unfold Le at l;rw[aKm]at l;exact l.trans (aX _ _)
  cases fl with
  |nx s1=>
   cases h3;exact λA' σ' H' l rs'=>q _ H' (fin l) (pR.mpr rfl)
  |rt d'=>
   cases h3;exact λA' v H' l rv=>q v H' (fin l) (rv.mono (pZ λa ha=>bG8 _ ha))
  |bk s1=>exact nomatch h3
  |ct s1=>exact nomatch h3
def MethOk.of{m:String} {ds:List Value} {dvs:List V} (hc:ClsAt K c C) (hm:Meth K C (Str.ofString m) f) (F:FnOk P w K mg base CX0 k f fd ps (spI K np (fL np n bd))) (b:Binds K fd ps ds) (v:Vals dvs ds) (r:∀H,bD K H dv dvs):MethOk P w K mg base c m k np dv (fL np n bd):=
 ⟨⟨C,f,fd,ps,dvs,ds,hc,hm,F,b,v,r⟩,yS⟩
end
end Pu
namespace Pu
open PySem PySem.Spec PyProof.Rows L2 PySem.SeqAt
section
variable {a b:Expr}
def aN8:lB X (.type "list") (λvs H Q=>∃l xs,vs=[.ref l]/\(SqL X.K H l xs\/SqT X.K H l xs)/\∀n,H n=none->Q (.ref n) (upd H n (.lst xs))):=by
 intro pins s σ H vs us Q I r h;obtain⟨l,xs,rfl,hl,q⟩:=h;obtain⟨u,rfl,ru⟩:=r.one;obtain rfl:u=Value.ref l:=ru;rcases hl with hl|hl
 .obtain⟨its,rv,⟨ob,n,e,hc,_,hd⟩,hz⟩:=I.list hl;refine call_list_seq l (T:="list") (.inl rfl) e hc hd (λh' c' k hn=>?_) (by rw[rv.length]at hz;simpa using hz)
  exact⟨.ref s.heap.objs.size,_,I.laid (o:=.lst xs) (t':=s.toks) k (bG4 _) ⟨hz,its,c',rv,hn⟩,rfl,q _ (I.hok.fresh (bG4 _))⟩
 .obtain⟨its,rv,⟨ob,e,hc,n,hd⟩,hz⟩:=I.tuple hl;refine call_list_seq l (T:="tuple") (.inr rfl) e hc hd (λh' c' k hn=>?_) (by rw[rv.length]at hz;simpa using hz)
  exact⟨.ref s.heap.objs.size,_,I.laid (o:=.lst xs) (t':=s.toks) k (bG4 _) ⟨hz,its,c',rv,hn⟩,rfl,q _ (I.hok.fresh (bG4 _))⟩
def aD1(hm:X.mg "list"=none)(ha:PE X a (tP X.K B f))(hg:Gl X "list":=by rfl)(hs:starEach [a] X.env=(false,eval a X.env)::starEach [] X.env:=by rfl):PE X (.Call (.Name "list" p0) [a] [] pos) (tI X.K B (e1 aA0 f)):=by
 refine cO (uA aN8 hg hm (by rfl) (cT ha gC hs) (he:=hs)) ?_
 rintro σ H Q ⟨A,st,d,rs,hd,q⟩;obtain⟨x,hx,h2⟩:=R.ok_of hd;refine⟨A,st,x,rs,hx,λv H1 s1 r1=>?_⟩
 cases x<;>first|(cases h2;done)|skip
 .cases h2;obtain⟨l,vs,e,h3,r3⟩:=r1.tup;exact⟨l,vs,by rw[e],.inr h3,λn hn=>q _ _ (s1.trans (cI hn)) (gK (rs.own.mono s1) hn r3)⟩
 .cases h2;obtain⟨l,vs,e,h3,r3⟩:=r1.lst;exact⟨l,vs,by rw[e],.inl h3,λn hn=>q _ _ (s1.trans (cI hn)) (gK (rs.own.mono s1) hn r3)⟩
theorem aPa:∀{l:List Bool}{us:List Value},Vals (l.map V.bl) us->us=l.map Value.bool
 |[],_,.nil=>rfl
 |b::l,_,.cons r t=>by
  rw[aPa t];cases r;rfl
def aR0(hc:X.calm=true):lB X (.builtin "all") (λvs H Q=>∃(l:Addr)(bs:List Bool),vs=[.ref l]/\SqL X.K H l (bs.map V.bl)/\Q (.bl (bs.all id)) H):=by
 intro pins s σ H vs us Q I r h;obtain⟨l,bs,rfl,hl,q⟩:=h;obtain⟨u,rfl,ru⟩:=r.one;obtain rfl:u=Value.ref l:=ru;obtain⟨its,rv,⟨ob,n,e,hcl,_,hd⟩,hz⟩:=I.list hl;have ei:=aPa rv;have isl:s.heap.IsList l its.toArray:=⟨ob,e,hcl,n,hd⟩;have hlt:l<s.heap.objs.size:=bG2 e;refine call_all_walk (bJe isl ⟨s.heap.objs.size,_,_,_,_,_,λi=>bs[i]?.getD false,rfl,bM6 (A:=X.A.in1) (I.ok.hd hc) _ l (bGb hlt) its.toArray,⟨⟨_,bG1 _ rfl,rfl,rfl⟩,isl.push _⟩,?_,λh' tk k=>?_⟩)
 .intro i v s' Q' E' hv hq;rw[ei]at hv;simp only[getElem?_toArray,List.getElem?_map,Option.map_eq_some_iff]at hv;obtain⟨b,hb,rfl⟩:=hv;have hq':Q' (bs[i]?.getD false) s':=hq;rw[hb]at hq';exact bFu hq'
 .refine⟨.bl (bs.all id),H,I.kept (λb u z=>k b u (λhb=>?_) (bFt _ z)),?_,q⟩
  .have:=bFz.mp hb;exact bH0 _ (this ▸ bG2 z)
  .show Value.bool _=Value.bool _;congr 1;rw[bKl,bLm,bLm];have hsz:its.toArray.size=bs.length:=by rw[ei];simp
   rw[hsz];constructor
   .intro h x hx;obtain⟨i,hi,rfl⟩:=bJf.mp hx;have:=h i (bGr.mpr hi);rw[bFv hi]at this;exact this
   .intro h i hi;have hi':=bGr.mp hi;rw[bFv hi'];exact h _ (bGq hi')
theorem aPb{K:Frag}{H:Hp}:∀{l:List Bool}{vs:List V},bD K H (l.map D.bl) vs->vs=l.map V.bl
 |[],vs,h=>cH.mp h
 |b::l,vs,h=>by
  obtain⟨v,r,rfl,h1,h2⟩:=bJ.mp h;rw[aPb h2,cU.mp h1];rfl
def aPc(hm:X.mg "all"=none)(hc:X.calm=true)(ha:PE X a (tP X.K B f))(hg:Gl X "all":=by rfl)(hs:starEach [a] X.env=(false,eval a X.env)::starEach [] X.env:=by rfl):PE X (.Call (.Name "all" p0) [a] [] pos) (tI X.K B (e1 aDv f)):=by
 refine cO (oJ (aR0 hc) hg hm (by rfl) (cT ha gC hs) (he:=hs)) ?_
 rintro σ H Q ⟨A,st,d,rs,hd,q⟩;obtain⟨x,hx,h2⟩:=R.ok_of hd;refine⟨A,st,x,rs,hx,λv H1 s1 r1=>?_⟩
 cases x<;>first|(cases h2;done)|skip
 obtain⟨bs,h3,h4⟩:=R.ok_of h2;cases h4;obtain⟨l,vs,e,h5,r5⟩:=r1.lst;rw[aSp h3]at r5;rw[aPb r5]at h5;exact⟨l,bs,by rw[e],h5,q _ H1 s1 (cU.mpr rfl)⟩
theorem aL3:∀{l:List Int}{us:List Value},Vals (l.map V.int) us->∃ps:List (Int×Tok),us=ps.map (λp=>Value.int p.1 p.2)/\ps.map (·.1)=l
 |[],_,.nil=>⟨[],rfl,rfl⟩
 |b::l,_,.cons r t=>by
  obtain⟨ps,e,e2⟩:=aL3 t;obtain⟨t,rfl⟩:=r;exact⟨(b,t)::ps,by rw[e];rfl,by rw[bGf,e2]⟩
def aL4{ps:List (Int×Tok)} (hi:i<ps.length):numAt ps.toArray i=(ps.map (·.1))[i]'(by simpa using hi):=by
 unfold numAt;rw[bJi,bFv hi];simp
def aR1(hc:X.calm=true):lB X (.builtin "max") (λvs H Q=>∃(l:Addr)(is:List Int),vs=[.ref l]/\SqL X.K H l (is.map V.int)/\0<is.length/\Q (.int (aI5 is)) H):=by
 intro pins s σ H vs us Q I r h;obtain⟨l,is,rfl,hl,hp,q⟩:=h;obtain⟨u,rfl,ru⟩:=r.one;obtain rfl:u=Value.ref l:=ru;obtain⟨its,rv,⟨ob,n,e,hcl,_,hd⟩,hz⟩:=I.list hl;obtain⟨ps,ei,e2⟩:=aL3 rv;have hlen:ps.length=is.length:=by rw[<-e2,bG6]
 have isl:s.heap.IsList l (intItems ps.toArray):=⟨ob,e,hcl,n,by rw[hd,ei];simp[intItems]⟩
 refine max_intList (I.ok.hd hc) isl (by simpa [hlen] using hp) λv h' tk hv k=>?_
 obtain⟨t,rfl⟩:=intItems_at hv;refine⟨.int (aI5 is),H,I.kept k,⟨t,?_⟩,q⟩;congr 1;have hs:ps.toArray.size=ps.length:=rfl;rw[hs];obtain⟨h1,h2⟩:=argBest_gt (numAt ps.toArray) (ps.length-1);have hb:argBest (λi j=>decide (numAt ps.toArray i>numAt ps.toArray j)) (ps.length-1)<ps.length:=by omega
 refine(aO1 ?_ λx hx=>?_).symm
 .rw[aL4 hb,<-e2];exact bGq _
 .rw[<-e2]at hx;obtain⟨i,hi,rfl⟩:=bJf.mp hx;have hi':i<ps.length:=by simpa using hi
  rw[<-aL4 hi'];exact h2 i (by omega)
theorem aL5{K:Frag}{H:Hp}:∀{l:List Int}{vs:List V},bD K H (l.map D.int) vs->vs=l.map V.int
 |[],vs,h=>cH.mp h
 |b::l,vs,h=>by
  obtain⟨v,r,rfl,h1,h2⟩:=bJ.mp h;rw[aL5 h2,bN.mp h1];rfl
def aZi(hm:X.mg "max"=none)(hc:X.calm=true)(ha:PE X a (tP X.K B f))(hg:Gl X "max":=by rfl)(hs:starEach [a] X.env=(false,eval a X.env)::starEach [] X.env:=by rfl):PE X (.Call (.Name "max" p0) [a] [] pos) (tI X.K B (e1 aNz f)):=by
 refine cO (oJ (aR1 hc) hg hm (by rfl) (cT ha gC hs) (he:=hs)) ?_
 rintro σ H Q ⟨A,st,d,rs,hd,q⟩;obtain⟨x,hx,h2⟩:=R.ok_of hd;refine⟨A,st,x,rs,hx,λv H1 s1 r1=>?_⟩
 cases x<;>first|(cases h2;done)|skip
 obtain⟨is,h3,h4⟩:=R.ok_of h2;obtain⟨c,h4⟩:=aN h4;cases h4;obtain⟨l,vs,e,h5,r5⟩:=r1.lst;rw[aEk h3]at r5;rw[aL5 r5]at h5;exact⟨l,is,by rw[e],h5,c,q _ H1 s1 (bN.mpr rfl)⟩
end
end Pu
namespace Pu
open PySem PySem.Spec PyProof.Rows L2
abbrev XW:=D->L2.St->Hp->Prop
end Pu
variable{W:Pu.XW}
namespace Pu
open PySem PySem.Spec PyProof.Rows L2
section
variable{w:World}{K:Frag} {f:Addr} {k:Nat}
def MakeOk.of(hc:ClsAt K c C)(hm:Mk K C f)(F:FnOk P w K mg base CX0 k f fd ps (spM K c np (aG2 c np n bd)))(b:Binds K fd ps [])(m:mg (Str.ofString c)=some (.ref C)):MakeOk P w K mg base c k np (aG2 c np n bd):=
 ⟨⟨C,f,fd,ps,hc,hm,F,b,m⟩,aV0⟩
end
section
variable{P:List α->Prop}
def aPd(h:P [])(us:List α)(hl:us.length=0):P us:=by rw[bHh.mp hl];exact h
def zW(h:∀a us,us.length=n->P (a::us))(us:List α)(hl:us.length=n+1):P us:=by
 cases us with
 |nil=>cases hl
 |cons a us=>exact h a us (Nat.succ.inj hl)
def aIx(h:∀a,P [a])(us:List α)(hl:us.length=1):P us:=zW (λa=>aPd (h a)) us hl
def aIy(h:∀a b,P [a,b])(us:List α)(hl:us.length=2):P us:=zW (λa=>aIx (P:=λus=>P (a::us)) (h a)) us hl
def aIz(h:∀a b c,P [a,b,c])(us:List α)(hl:us.length=3):P us:=zW (λa=>aIy (P:=λus=>P (a::us)) (h a)) us hl
def aJ0(h:∀a b c d,P [a,b,c,d])(us:List α)(hl:us.length=4):P us:=zW (λa=>aIz (P:=λus=>P (a::us)) (h a)) us hl
def aEd(h:∀a b c d e,P [a,b,c,d,e])(us:List α)(hl:us.length=5):P us:=zW (λa=>aJ0 (P:=λus=>P (a::us)) (h a)) us hl
def aXq(h:∀a b c d e f,P [a,b,c,d,e,f])(us:List α)(hl:us.length=6):P us:=zW (λa=>aEd (P:=λus=>P (a::us)) (h a)) us hl
end
def Inn(K:Frag)(G H:Hp):List (List D)->List Addr->Prop
 |[],ps=>ps=[]
 |xs::xss,ps=>∃p r vs,ps=p::r/\H p=some (.lst vs)/\bD K G xs vs/\Inn K G H xss r
def Ite(K:Frag)(a:Addr):It:=
 ⟨λi H=>∃xs x,SqL K H a xs/\xs[i]?=some x,λi H x H'=>∃T v,x=V.ref T/\H T=none/\H'=upd H T (.tup [.int (i:Int),v])/\∀xs,SqL K H a xs->xs[i]?=some v,λi H=>∃xs,SqL K H a xs/\xs.length<=i⟩
def aR2{w:World}{K:Frag} {x1} (a e it:Addr) (hne:e≠it):Turn P w K (.Tuple elts x1 tp) (Ite K a) [e,it] e (λi h=>(∃old,IsEnum h e it (i:Int) old)/\h.IsListIter it a i) where
 mem:=by simp
 obj:=λi h st b hb=>by
  obtain⟨⟨old,he⟩,hit⟩:=st;simp only[mem_cons,not_mem_nil,or_false]at hb;rcases hb with rfl|rfl
  .exact⟨_,he,λv z=>by cases z⟩
  .obtain⟨o,e1,c,d⟩:=hit;exact⟨o,e1,λv z=>by rw[d]at z;cases z⟩
 keep:=λi h h' st k=>by
  obtain⟨⟨old,he⟩,hit⟩:=st;exact⟨⟨old,k e (by simp) _ he⟩,hit.at λo x=>k it (by simp) o x⟩
 item:=by
  intro X hP hw hK hc i pins s σ H E I hf st hg;subst hP hw hK;obtain⟨⟨old,he⟩,hit⟩:=st;obtain⟨xs,x,hq,hx⟩:=hg;obtain⟨its,rv,p,hz⟩:=I.list hq;obtain⟨u,hu,ru⟩:=rv.get hx;have fe:=hf e (by simp)
  have fi:=hf it (by simp)
  have hT:H s.heap.objs.size=none:=I.hok.fresh (bG4 _);refine wpAny_pyNext_enum_item he hit p.isList (x:=u) (by simpa using hu) hne λh' ho hit' hTt hsz hk=>⟨_,rfl,wpAny_letOwnedTupleGo_enum (s:={s with heap:=h',toks:=s.toks+1}) ho λh2 he2 sb=>?_⟩
  have hkeep:∀b o,b≠e->b≠it->s.heap.get? b=some o->h2.get? b=some o:=λb o h1 h3 q=>(sb.2 b h1).trans (hk b o h1 h3 q)
  have elt:e≠s.heap.objs.size:=bGb (bG2 he);have htup:h2.get? s.heap.objs.size=some {cls:=.type "tuple",data:=.seq #[.int i s.toks,u]}:=(sb.2 _ elt.symm).trans hTt;have nT:∀b u',H b=some u'->b≠s.heap.objs.size:=λb u' q=>aZ q hT
  have nx:∀b u',H b=some u'->b≠e/\b≠it:=λb u' q=>⟨aZ q fe.1,aZ q fi.1⟩
  have mx:∀b:Addr,b∉[e,it]->b≠e/\b≠it:=λb hb=>⟨λz=>hb (by simp[z]),λz=>hb (by simp[z])⟩
  have inL:∀b o,s.heap.get? b=some o->b≠s.heap.objs.size:=λb o q=>bGb (bG2 q)
  have un:Un (frs X.stack) [e,it] H (upd H s.heap.objs.size (.tup [.int (i:Int),x])) s.heap h2:=by
   refine⟨λb o q n hb hx=>hkeep b o (mx b hx).1 (mx b hx).2 q,λb o q n hb hx=>⟨o.slots,hkeep b o (mx b hx).1 (mx b hx).2 q⟩,λb o q n hx=>by rw[bB (inL b o q)];exact n,λb o q hx=>⟨o,hkeep b o (mx b hx).1 (mx b hx).2 q⟩,λb ys q=>by rw[bB (nT b _ q)];exact q,λb o u' q=>by rw[bB (nT b _ q)];exact q,λb ps q=>⟨#[],by rw[bB (nT b _ q),append_empty];exact q⟩⟩
  have hok:HOk X.prog X.w (upd H s.heap.objs.size (.tup [.int (i:Int),x])) h2:=λb u' q=>by
   by_cases hb:b=s.heap.objs.size
   .subst hb;rw[bT]at q;cases q;exact⟨show 2<=sizeLine by decide,[.int i s.toks,u],.cons ⟨_,rfl⟩ (.cons ru .nil),_,htup,rfl,_,rfl⟩
   .rw[bB hb]at q;refine(I.hok b u' q).stay (λc v hc' q'=>?_) (λc q'=>by rw[bB (nT c _ q')];exact q') λc ys q'=>by rw[bB (nT c _ q')];exact q'
    have:∃u'',H c=some u'':=by
     rcases hc' with z|z
     .exact⟨u',by rw[z];exact q⟩
     .exact⟨_,z⟩
    obtain⟨u'',hu''⟩:=this;exact hkeep c v (nx c _ hu'').1 (nx c _ hu'').2 q'
  have I2:Inv X pins σ (upd H s.heap.objs.size (.tup [.int (i:Int),x])) {s with heap:=h2,toks:=s.toks+1}:=I.call (g':=s.gens) (t':=s.toks+1) (d':=s.drawn) (ch:=[e,it]) un hok I.bare λb hb=>by
   simp only[mem_cons,not_mem_nil,or_false]at hb;rcases hb with rfl|rfl
   .exact⟨fe.2.2.2.1,fe.2.1,fe.2.2.2.2.1,fe.2.2.2.2.2⟩
   .exact⟨fi.2.2.2.1,fi.2.1,fi.2.2.2.2.1,fi.2.2.2.2.2⟩
  refine⟨.ref s.heap.objs.size,_,I2,rfl,⟨_,x,rfl,hT,rfl,λys hy=>by rw[I.list_inj hy hq];exact hx⟩,⟨⟨_,by simpa using he2⟩,hit'.at λo y=>(sb.2 it hne.symm).trans y⟩,λb hb=>?_⟩
  simp only[mem_cons,not_mem_nil,or_false]at hb;rcases hb with rfl|rfl
  .rw[bB elt];exact fe.1
  .rw[bB (by obtain⟨o,q,_⟩:=hit;exact inL _ _ q)];exact fi.1
 done:=by
  intro X hP hw hK hc i pins s σ H E I hf st hg;subst hP hw hK;obtain⟨⟨old,he⟩,hit⟩:=st;obtain⟨xs,hq,hx⟩:=hg;obtain⟨its,rv,p,hz⟩:=I.list hq;obtain⟨f0,f1,f2,f3,f4,f5⟩:=hf it (by simp)
  have hl:=rv.length;exact wpAny_pyNext_enum_end (I.ok.hd hc) he hit p.isList (by simp;omega) λh' eb=>⟨rfl,I.turned (t':=s.toks) (λb o hb e=>eb b o hb e) f0 f1 f3 f4 f5⟩
 self:=λ_ _ _ _ _ st h=>by
  obtain⟨⟨old,he⟩,_⟩:=st;exact wpAny_pyIter_enum he h
theorem aHd:∀(n:Nat)(ds:List D),(rN n ds).length=ds.length
 |_,[]=>rfl
 |n,d::ds=>by rw[rN,bGn,bGn,aHd]
theorem aHe:∀(n:Nat)(ds:List D)(i:Nat),(rN n ds)[i]?=ds[i]?.map λd=>D.tup [.int ((n+i:Nat):Int),d]
 |_,[],_=>by simp[rN]
 |n,d::ds,0=>by simp[rN]
 |n,d::ds,i+1=>by
  rw[rN,bI0,bI0,aHe (n+1) ds i];congr 2;funext d;rw[show n+1+i=n+(i+1) by omega]
section
variable {a:Expr}
def bBm{K:Frag} (hq:SqL K (hide (A++B) H) l vs) (r:bD K (hide (A++B) H) ds vs):aMs K B A H (Ite K l) (rN 0 ds):=by
 intro A' H' le own i;have hq':SqL K H' l vs:=(aX _ _).seq ((Le.app le).seq hq);refine⟨λd hd=>?_,λhl=>⟨vs,hq',by rw[r.length];rw[aHd]at hl;exact hl⟩⟩
 rw[aHe,bMn]at hd;cases hz:ds[i]? with
 |none=>rw[hz]at hd;cases hd
 |some d0=>
  rw[hz]at hd;cases hd;obtain⟨v,hv,rv⟩:=r.get hz;refine⟨⟨vs,v,hq',hv⟩,λx H3 y=>?_⟩
  obtain⟨T,v',rfl,hT,rfl,h5⟩:=y;have hx:=h5 vs hq';rw[hv]at hx;cases hx;exact⟨cI hT,rW own hT (.cons (bN.mpr rfl) (.cons (rv.mono (Le.app le)) .nil))⟩
def aXr{x1}{p:Pos}(hm:X.mg "enumerate"=none)(ha:PE X a (tI X.K B f))(hg:Gl X "enumerate":=by rfl)(hs:starEach [a] X.env=[(false,eval a X.env)]:=by rfl):L2.PI X (.Tuple elts x1 tp) (.Call (.Name "enumerate" p) [a] [] pos) (tIt X.K B (bDn f)):=by
 intro pins s σ H Rq I ⟨A,st,ds,rs,hd,q⟩;obtain⟨x,hx,h2⟩:=R.ok_of hd;cases x<;>first|(cases h2;done)|skip
 rename_i xs;cases h2;refine Call_ (sY I hg hm boot_enumerate (bHa (thn ((cT ha gC hs) pos pins s σ H (λvs H1=>∃v,vs=[v]/\bC H H1/\Rep X.K (hide (A++B) H1) (.lst xs) v) I ⟨A,st,_,rs,hx,λv H1 s1 r1=>⟨v,rfl,s1,r1⟩⟩) λus s1 ⟨vs,H1,I1,r1,v,hv,sm,rv⟩=>?_) hs rfl))
 subst hv;obtain⟨l,ws,rfl,hq,rw'⟩:=fB.mp rv;obtain⟨u,rfl,ru⟩:=r1.one;have eu:u=Value.ref l:=ru;subst eu;obtain⟨its,rvv,p,hz⟩:=I1.list ((aX _ _).seq hq);refine call_enumerate_list p.isList λh' he hit hsz hk=>?_
 refine wpAny_pyIter_enum he ⟨s1.heap.objs.size+1,[s1.heap.objs.size+1,s1.heap.objs.size],_,Ite X.K l,H1,rfl,I1.kept (t':=s1.toks) hk,aR2 l (s1.heap.objs.size+1) s1.heap.objs.size (bJ6 (bIh _)),⟨⟨_,he⟩,hit⟩,λb hb=>?_,q _ H1 sm (bBm hq rw')⟩
 simp only[mem_cons,not_mem_nil,or_false]at hb;rcases hb with rfl|rfl
 .exact I1.fpOk (bLa _) (I1.hok.fresh (bLa _))
 .exact I1.fpOk (bG4 _) (I1.hok.fresh (bG4 _))
end
section
variable {a b:Expr}
theorem aL6:∀{ns:List Int}{us:List Value},Vals (ns.map V.int) us->IntsAre us ns
 |[],us,h=>by rw[h.zero];exact .nil
 |n::ns,us,h=>by
  cases h with
  |cons r t=>
   obtain⟨k,rfl⟩:=r;exact .cons n k (aL6 t)
theorem aHf{K:Frag}{H:Hp}:∀{l:List Int}{vs:List V},bD K H (l.map D.int) vs->vs=l.map V.int
 |[],vs,h=>cH.mp h
 |i::l,vs,h=>by
  obtain⟨v,r,rfl,h1,h2⟩:=bJ.mp h;rw[bN.mp h1,aHf h2];rfl
end
def noH:Hp:=λ_=>none
def aXs:bC noH H:=λ_ _ h=>nomatch h
def aV1{K:Frag} (h:atom d=true) (r:Rep K H d v):Rep K noH d v:=by
 cases d<;>first|(cases h;done)|skip
 .exact pR.mpr (pR.mp r)
 .exact cU.mpr (cU.mp r)
 .exact bN.mpr (bN.mp r)
 .exact eZ.mpr (eZ.mp r)
def tC(K:Frag)(B:List Addr)(f:Ex):TE:=λσ H Q=>∃A st d xs,RS K B A H st σ/\f st=.ok d/\bAr d=.ok (.lst xs)/\∀P ps H',bC H H'->(∀p∈P::ps,H p=none)->(P::ps).Nodup->H' P=some (.lst (ps.map V.ref))->Inn K noH H' (xs.map unL) ps->Q (.ref P) H'
section
variable {iter:Expr} {pl:Pos} {r:Str}
def aXt{a:Expr}(hm:X.mg "tuple"=none)(ha:PE X a (tI X.K B f))(hg:Gl X "tuple":=by rfl)(hs:starEach [a] X.env=(false,eval a X.env)::starEach [] X.env:=by rfl):PE X (.Call (.Name "tuple" p0) [a] [] pos) (tI X.K B (e1 dTup f)):=by
 refine cO (uA aFz hg hm (by rfl) (cT ha gC hs) (he:=hs)) ?_
 rintro σ H Q ⟨A,st,d,rs,hd,q⟩;obtain⟨x,hx,h2⟩:=R.ok_of hd;refine⟨A,st,x,rs,hx,λv H1 s1 r1=>?_⟩
 cases x<;>first|(cases h2;done)|skip
 cases h2;obtain⟨l,vs,rfl,h3,r3⟩:=fB.mp r1;exact⟨l,vs,rfl,.inl ⟨(aX _ _).seq h3,λn hn=>q _ _ (s1.trans (cI hn)) (rW (rs.own.mono s1) hn r3)⟩⟩
end
open Builtin
section
variable{prog:Program}{w:World}{A:Around}{E:Value->Shared->Prop}{s:Shared}
variable{z TI TO i1 i2 l:Addr}{fp:List Addr}{n k1 k2:Nat}{P:Nat->Value->Prop}{St:Nat->Heap->Prop}{ys:Array Value}{y a b:Value}
structure ZApart(z TI TO i1 i2 l:Addr)(fp:List Addr):Prop where
 TIz:TI≠z
 TOz:TO≠z
 i1z:i1≠z
 i2z:i2≠z
 TITO:TI≠TO
 TIi1:TI≠i1
 TIi2:TI≠i2
 TOi1:TO≠i1
 TOi2:TO≠i2
 i12:i1≠i2
 lz:l≠z
 lTO:l≠TO
 li1:l≠i1
 li2:l≠i2
 zf:z∉fp
 Tf:TO∉fp
 i2f:i2∉fp
def aFi{n l:Nat}(h:l<n):ZApart (n+4) (n+2) (n+3) n (n+1) l [n]:=by
 constructor
 .show n+2≠n+4;omega
 .show n+3≠n+4;omega
 .show n≠n+4;omega
 .show n+1≠n+4;omega
 .show n+2≠n+3;omega
 .show n+2≠n;omega
 .show n+2≠n+1;omega
 .show n+3≠n;omega
 .show n+3≠n+1;omega
 .show n≠n+1;omega
 .show l≠n+4;omega
 .show l≠n+3;omega
 .show l≠n;omega
 .show l≠n+1;omega
 .intro z;have:n+4=n:=bFz.mp z;omega
 .intro z;have:n+3=n:=bFz.mp z;omega
 .intro z;have:n+1=n:=bFz.mp z;omega
abbrev aDx(h:Heap)(z TI TO:Addr)(f0 f1:Value):Prop:=h.get? z=some {cls:=.type "zip",dict:=none,data:=.fields #[f0,f1,.bool false,.ref TI,.ref TO],slots := #[]}
def zX(hz:aDx s.heap z TI TO .none f1)(Q:Bool->Shared->Prop)(q:Q true s):wpAny (model prog w) A (Builtin.SmallTypes.ownedTupleIsFree (.ref z)) Q E s:=by
 unfold Builtin.SmallTypes.ownedTupleIsFree;exact bFs (bHv hz rfl (x:=.none) rfl (bFu q))
variable{f0 f1:Value}
def aFj(D1:Draws prog w A i1 fp n P St)(D:ZApart z TI TO i1 i2 l fp)
  (hz:aDx s.heap z TI TO f0 f1) (hfr:∀Q:Bool->Shared->Prop,Q true s->wpAny (model prog w) A (Builtin.SmallTypes.ownedTupleIsFree (.ref z)) Q E s) (hTI:IsPair s.heap TI (.ref i1) (.ref i2)) (hTO:IsPair s.heap TO a b)
  (h1:St k1 s.heap) (hk1:k1<n) (h2:s.heap.IsListIter i2 l k2) (hl:s.heap.IsList l ys) (hy:ys[k2]?=some y)
  (hQ:∀h' tk x,P k1 x->IsZip h' z TI TO (rawInt s.heap.objs.size)->IsPair h' TO x y->St (k1+1) h'->h'.IsListIter i2 l (k2+1)->IsPair h' s.heap.objs.size x y->h'.objs.size=s.heap.objs.size+1->
   (∀c o,c≠z->c≠TO->c≠i1->c≠i2->s.heap.get? c=some o->h'.get? c=some o)->Q (.ref s.heap.objs.size) {s with heap:=h',toks:=tk}) :
  wpAny (model prog w) A (Builtin.«zip.__next__» ⟨[.ref z],[]⟩) (λfin s'=>∃v,fin=.done (.ret v)/\Q v s') E s:=by
 show wpAny _ _ (field (.ref z) 2 >>= _) _ _ _;refine bFs (bHv hz rfl (x:=.bool false) rfl ?_);show wpAny _ _ (field (.ref z) 3 >>= _) _ _ _;refine bFs (bHv hz rfl (x:=.ref TI) rfl ?_);refine bFs (bHf hTI rfl ?_);show wpAny _ _ (Builtin.SmallTypes.ownedTupleIsFree (.ref z) >>= _) _ _ _;refine bFs (hfr _ ?_);simp only[if_true];refine bFs (bK1 ?_);refine bFs (bHv hz rfl (x:=.ref TO) rfl ?_);refine bFs (bI1 hz (by simp) λh₁ hz₁ hs₁=>?_)
 replace hz₁:aDx h₁ z TI TO .ellipsis f1:=hz₁
 refine bFs ?_
 simp only[List.zipIdx_cons,List.zipIdx_nil,forIn_cons,forIn_nil];refine bFs (bFs (bLj ?_));show wpAny _ _ (Builtin.SmallTypes.nextOf (.ref i1) >>= _) _ _ _;refine bFs (D1.item k1 {s with heap:=h₁} _ _ hk1 (D1.frame k1 s.heap h₁ h1 λb hb o e=>hs₁.extBut _ _ (λx=>D.zf (x ▸ hb)) e) λx h₂ tk hP h1₂ hs₂=>bFu ?_)
 have hs₂:Heap.SameBut i1 h₁ h₂:=hs₂;have hTO₂:IsPair h₂ TO a b:=hs₂.extBut _ _ D.TOi1 (hs₁.extBut _ _ D.TOz hTO);refine bFs (bHf hTO₂ rfl ?_);refine bFs (bKg hTO₂ λh₃ hTO₃ hs₃=>?_)
 replace hTO₃:IsPair h₃ TO x b:=hTO₃
 refine bFs (bJl (bFu ?_));refine bFs (bFs (bLj ?_));show wpAny _ _ (Builtin.SmallTypes.nextOf (.ref i2) >>= _) _ _ _;refine bFs (bJ3 (((h2.extBut hs₁.extBut D.i2z).extBut hs₂.extBut D.i12.symm).extBut hs₃.extBut D.TOi2.symm)
  (((hl.extBut hs₁.extBut D.lz).extBut hs₂.extBut D.li1).extBut hs₃.extBut D.lTO) hy λh₄ h2₄ hs₄=>bFu ?_)
 have hTO₄:IsPair h₄ TO x b:=hs₄.extBut _ _ D.TOi2 hTO₃;refine bFs (bHf hTO₄ rfl ?_);refine bFs (bKg hTO₄ λh₅ hTO₅ hs₅=>?_)
 replace hTO₅:IsPair h₅ TO x y:=hTO₅
 refine bFs (bJl (bFu (bFu ?_)));refine bFs (bHf hTO₅ rfl ?_);refine bFs (wpAny_newTuple ?_);have hs₃':Heap.SameBut TO h₂ h₃:=hs₃;have hs₄':Heap.SameBut i2 h₃ h₄:=hs₄;have hs₅':Heap.SameBut TO h₄ h₅:=hs₅;have hsz:h₅.objs.size=s.heap.objs.size:=by rw[hs₅'.1,hs₄'.1,hs₃'.1,hs₂.1,hs₁.1]
 have hz₅:aDx h₅ z TI TO .ellipsis f1:=hs₅'.extBut _ _ D.TOz.symm (hs₄'.extBut _ _ D.i2z.symm (hs₃'.extBut _ _ D.TOz.symm (hs₂.extBut _ _ D.i1z.symm hz₁)));have hk₅:∀c o,c≠z->c≠TO->c≠i1->c≠i2->s.heap.get? c=some o->h₅.get? c=some o:=λc o c1 c2 c3 c4 e=>
  hs₅'.extBut _ _ c2 (hs₄'.extBut _ _ c4 (hs₃'.extBut _ _ c2 (hs₂.extBut _ _ c3 (hs₁.extBut _ _ c1 e))))
 have h1₅:St (k1+1) h₅:=D1.frame _ h₂ h₅ h1₂ λb hb o e=>hs₅'.extBut _ _ (λx=>D.Tf (x ▸ hb)) (hs₄'.extBut _ _ (λx=>D.i2f (x ▸ hb)) (hs₃'.extBut _ _ (λx=>D.Tf (x ▸ hb)) e))
 have h2₅:h₅.IsListIter i2 l (k2+1):=h2₄.extBut hs₅'.extBut D.TOi2.symm;have hzlt:z<h₅.objs.size:=bG2 hz₅;show wpAny _ _ (Builtin.SmallTypes.ownedTupleHandOut (.ref z) (.ref h₅.objs.size) >>= _) _ _ _;refine bFs ?_
 unfold Builtin.SmallTypes.ownedTupleHandOut;have hz₆:aDx (h₅.push {cls:=.type "tuple",data:=.seq #[x,y]}) z TI TO .ellipsis f1:=bFt _ hz₅;refine bFs (bI1 hz₆ (by simp) λh₇ hz₇ hs₇=>?_)
 replace hz₇:aDx h₇ z TI TO (rawInt h₅.objs.size) f1:=hz₇
 refine bI1 hz₇ (by simp) λh₈ hz₈ hs₈=>?_
 replace hz₈:IsZip h₈ z TI TO (rawInt h₅.objs.size):=hz₈
 have up:∀c o,c≠z->h₅.get? c=some o->h₈.get? c=some o:=λc o c1 e=>hs₈.extBut _ _ c1 (hs₇.extBut _ _ c1 (bFt _ e))
 have hT₈:IsPair h₈ h₅.objs.size x y:=hs₈.extBut _ _ (bJ6 hzlt) (hs₇.extBut _ _ (bJ6 hzlt) (bG1 _ rfl));have hz8:h₈.objs.size=h₅.objs.size+1:=by rw[hs₈.1,hs₇.1,bGp]
 rw[hsz]at hz₈ hT₈ hz8;refine bFu ⟨_,rfl,?_⟩;show Q (.ref h₅.objs.size) _;rw[hsz];exact hQ h₈ _ x hP hz₈ (up _ _ D.TOz hTO₅) (D1.frame _ h₅ h₈ h1₅ λb hb o e=>up b o (λx=>D.zf (x ▸ hb)) e) (h2₅.at λo e=>up _ o D.i2z e) hT₈ hz8 λc o c1 c2 c3 c4 e=>up c o c1 (hk₅ c o c1 c2 c3 c4 e)
def aJ1(D1:Draws prog w A i1 fp n P St)(hh:A.handled=none)(D:ZApart z TI TO i1 i2 l fp)
  (hz:aDx s.heap z TI TO f0 f1) (hfr:∀Q:Bool->Shared->Prop,Q true s->wpAny (model prog w) A (Builtin.SmallTypes.ownedTupleIsFree (.ref z)) Q E s) (hTI:IsPair s.heap TI (.ref i1) (.ref i2)) (hTO:IsPair s.heap TO a b)
  (h1:St k1 s.heap) (h2:s.heap.IsListIter i2 l k2) (hl:s.heap.IsList l ys)
  (hend:(∀(s:Shared)(Q:Value->Shared->Prop)(E:Value->Shared->Prop),St k1 s.heap->(∀h' e,Heap.ExtBut i1 s.heap h'->(∃o,h'.get? e=some o/\o.cls=.type "StopIteration")->E (.ref e) {s with heap:=h'})->wpAny (model prog w) A (Builtin.SmallTypes.nextOf (.ref i1)) Q E s)\/(k1<n/\ys[k2]?=none)) {Q:Fin->Shared->Prop}
  (hE:∀h' e tk,(∀c o,c≠z->c≠TO->c≠i1->c≠i2->s.heap.get? c=some o->h'.get? c=some o)->(∃o,h'.get? e=some o/\o.cls=.type "StopIteration")->E (.ref e) {s with heap:=h',toks:=tk}) :
  wpAny (model prog w) A (Builtin.«zip.__next__» ⟨[.ref z],[]⟩) Q E s:=by
 show wpAny _ _ (field (.ref z) 2 >>= _) _ _ _;refine bFs (bHv hz rfl (x:=.bool false) rfl ?_);show wpAny _ _ (field (.ref z) 3 >>= _) _ _ _;refine bFs (bHv hz rfl (x:=.ref TI) rfl ?_);refine bFs (bHf hTI rfl ?_);show wpAny _ _ (Builtin.SmallTypes.ownedTupleIsFree (.ref z) >>= _) _ _ _;refine bFs (hfr _ ?_);simp only[if_true];refine bFs (bK1 ?_);refine bFs (bHv hz rfl (x:=.ref TO) rfl ?_);refine bFs (bI1 hz (by simp) λh₁ hz₁ hs₁=>?_)
 replace hz₁:aDx h₁ z TI TO .ellipsis f1:=hz₁
 refine bFs ?_
 simp only[List.zipIdx_cons,List.zipIdx_nil,forIn_cons,forIn_nil];refine bFs (bFs (bLj ?_));show wpAny _ _ (Builtin.SmallTypes.nextOf (.ref i1) >>= _) _ _ _;have fr1:St k1 h₁:=D1.frame k1 s.heap h₁ h1 λb hb o e=>hs₁.extBut _ _ (λx=>D.zf (x ▸ hb)) e
 rcases hend with hend|⟨hkn,hy⟩
 .refine bFs (hend {s with heap:=h₁} _ _ fr1 λh₂ e hs₂ he=>?_)
  have hs₂:Heap.ExtBut i1 h₁ h₂:=hs₂;obtain⟨oe,hoe,hce⟩:=he;have hz₂:aDx h₂ z TI TO .ellipsis f1:=hs₂ _ _ D.i1z.symm hz₁;have hez:e≠z:=λx=>by subst x;rw[hz₂]at hoe;cases hoe;simp at hce
  refine bI1 hz₂ (by simp) λh₃ _ hs₃=>hE h₃ e _ (λc o c1 _ c3 _ x=>hs₃.extBut _ _ c1 (hs₂ _ _ c3 (hs₁.extBut _ _ c1 x))) ⟨oe,hs₃.extBut _ _ hez hoe,hce⟩
 .refine bFs (D1.item k1 {s with heap:=h₁} _ _ hkn fr1 λx h₂ tk hP h1₂ hs₂=>bFu ?_)
  have hs₂:Heap.SameBut i1 h₁ h₂:=hs₂;have hTO₂:IsPair h₂ TO a b:=hs₂.extBut _ _ D.TOi1 (hs₁.extBut _ _ D.TOz hTO);refine bFs (bHf hTO₂ rfl ?_);refine bFs (bKg hTO₂ λh₃ hTO₃ hs₃=>?_)
  have hs₃':Heap.SameBut TO h₂ h₃:=hs₃;refine bFs (bJl (bFu ?_));refine bFs (bFs (bLj ?_));show wpAny _ _ (Builtin.SmallTypes.nextOf (.ref i2) >>= _) _ _ _;refine bFs (bJ8 hh (((h2.extBut hs₁.extBut D.i2z).extBut hs₂.extBut D.i12.symm).extBut hs₃'.extBut D.TOi2.symm)
   (((hl.extBut hs₁.extBut D.lz).extBut hs₂.extBut D.li1).extBut hs₃'.extBut D.lTO) hy λh₄ e hs₄ he=>?_)
  have hs₄:Heap.ExtBut i2 h₃ h₄:=hs₄;obtain⟨oe,hoe,hce⟩:=he;have hz₄:aDx h₄ z TI TO .ellipsis f1:=hs₄ _ _ D.i2z.symm (hs₃'.extBut _ _ D.TOz.symm (hs₂.extBut _ _ D.i1z.symm hz₁));have hez:e≠z:=λx=>by subst x;rw[hz₄]at hoe;cases hoe;simp at hce
  refine bI1 hz₄ (by simp) λh₅ _ hs₅=>hE h₅ e _ (λc o c1 c2 c3 c4 x=>hs₅.extBut _ _ c1 (hs₄ _ _ c4 (hs₃'.extBut _ _ c2 (hs₂.extBut _ _ c3 (hs₁.extBut _ _ c1 x))))) ⟨oe,hs₅.extBut _ _ hez hoe,hce⟩
end
section
variable{prog:Program}{w:World}{A:Around}{E:Value->Shared->Prop}{s:Shared}
abbrev zH1(h:Heap)(x:Str)(t:Tok):Heap:=h.push {cls:=.type (strIterType x),data:=.fields #[.str x t,.int 0 0]}
abbrev zH2(h:Heap)(x:Str)(t:Tok)(l:Addr):Heap:=(zH1 h x t).push {cls:=.type "list_iterator",data:=.fields #[.ref l,.int 0 0]}
abbrev zH3(h:Heap)(x:Str)(t:Tok)(l:Addr):Heap:=(zH2 h x t l).push {cls:=.type "tuple",data:=.seq #[.ref h.objs.size,.ref (zH1 h x t).objs.size]}
abbrev zH4(h:Heap)(x:Str)(t:Tok)(l:Addr):Heap:=(zH3 h x t l).push {cls:=.type "tuple",data:=.seq #[.none,.none]}
abbrev zH5(h:Heap)(x:Str)(t:Tok)(l:Addr):Heap:=(zH4 h x t l).push {cls:=.type "zip",data:=.fields #[.none,.bool false,.bool false,.ref (zH2 h x t l).objs.size,.ref (zH3 h x t l).objs.size]}
def aN9(x:Str)(t:Tok)(l:Addr)(ys:Array Value) :
  Meets (Builtin.«zip.__new__» ⟨[.type "zip",.str x t,.ref l],[]⟩) (λ_ R s=>s.heap.IsList l ys/\
   R (.ok (.ret (.ref (zH4 s.heap x t l).objs.size))) {s with heap:=zH5 s.heap x t l}):=
 .of_wp λprog w A R s h=>by
  obtain⟨hp,g,d,tk,os⟩:=s;obtain⟨hl,h⟩:=h;have hsub:=sub_zip;have hL:Heap.IsList (Shared.heap ⟨hp.push {cls:=.type (strIterType x),data:=.fields #[.str x t,.int 0 0]},g,d,tk,os⟩) l ys:=Heap.IsList.push hl _
  wp_walk using wpAny_pyIter_strU,wpAny_pyIter_list hL
  exact⟨_,rfl,h⟩
def aR3{t:Tok} (hl:s.heap.IsList l ys)
  (h:∀h',IsZip h' (s.heap.objs.size+4) (s.heap.objs.size+2) (s.heap.objs.size+3) .none->IsPair h' (s.heap.objs.size+2) (.ref s.heap.objs.size) (.ref (s.heap.objs.size+1))->
   IsPair h' (s.heap.objs.size+3) .none .none->h'.IsStrIter s.heap.objs.size (strIterType x) x t 0->h'.IsListIter (s.heap.objs.size+1) l 0->h'.objs.size=s.heap.objs.size+5->
   (∀c o,s.heap.get? c=some o->h'.get? c=some o)->Q (.ref (s.heap.objs.size+4)) {s with heap:=h'}) :
  wpAny (model prog w) A (call (.type "zip") [.str x t,.ref l]) Q E s:=by
 refine callType_new PySem.F.called_zip (by decide) (bLw _ _) (bM1 _ _) (λobj=>bKr obj _ _) bM2
  (aN9 x t l ys) ⟨hl,?_⟩
 have z1:(zH1 s.heap x t).objs.size=s.heap.objs.size+1:=bGp ..;have z2:(zH2 s.heap x t l).objs.size=s.heap.objs.size+2:=by rw[bGp,z1]
 have z3:(zH3 s.heap x t l).objs.size=s.heap.objs.size+3:=by rw[bGp,z2]
 have z4:(zH4 s.heap x t l).objs.size=s.heap.objs.size+4:=by rw[bGp,z3]
 have z5:(zH5 s.heap x t l).objs.size=s.heap.objs.size+5:=by rw[bGp,z4]
 have g5:(zH5 s.heap x t l).get? (zH4 s.heap x t l).objs.size=some _:=bG1 _ rfl;have g4:(zH5 s.heap x t l).get? (zH3 s.heap x t l).objs.size=some _:=bFt _ (bG1 _ rfl);have g3:(zH5 s.heap x t l).get? (zH2 s.heap x t l).objs.size=some _:=bFt _ (bFt _ (bG1 _ rfl));have g2:(zH5 s.heap x t l).get? (zH1 s.heap x t).objs.size=some _:=bFt _ (bFt _ (bFt _ (bG1 _ rfl)));have g1:(zH5 s.heap x t l).get? s.heap.objs.size=some _:=bFt _ (bFt _ (bFt _ (bFt _ (bG1 _ rfl))));show _/\_;rw[z2,z3,z4]at g5;rw[z1,z2]at g3;rw[z3]at g4;rw[z1]at g2;rw[z4];exact⟨⟨_,g5,rfl⟩,h _ g5 g3 g4 ⟨_,g1,rfl,rfl⟩ ⟨_,g2,rfl,rfl⟩ z5 λc o x=>
  bFt _ (bFt _ (bFt _ (bFt _ (bFt _ x))))⟩
def aHg(hh:A.handled=none)(it:Addr)(x:Str)(t:Tok){n:String}(hn:n="str_ascii_iterator"\/n="str_iterator") :
  Draws prog w A it [it] x.cps.size (λi v=>∃c u,x.cps[i]?=some c/\v=.str ⟨#[c]⟩ u) (λi h=>h.IsStrIter it n x t i):=by
 rcases hn with rfl|rfl
 .exact Draws.strAscii hh it x t
 .exact Draws.strWide hh it x t
def aXu(hh:A.handled=none){it:Addr} {t:Tok} {n:String} (hn:n="str_ascii_iterator"\/n="str_iterator") (st:s.heap.IsStrIter it n x t i) (hx:x.cps[i]?=none)
  (hE:∀h' e,Heap.ExtBut it s.heap h'->(∃o,h'.get? e=some o/\o.cls=.type "StopIteration")->E (.ref e) {s with heap:=h'}):wpAny (model prog w) A (Builtin.SmallTypes.nextOf (.ref it)) Q E s:=by
 rcases hn with rfl|rfl
 .exact wpAny_nextOf_ascii_end hh st hx hE
 .exact wpAny_nextOf_wide_end hh st hx hE
def aG8(x:Str):strIterType x="str_ascii_iterator"\/strIterType x="str_iterator":=by
 unfold strIterType;split<;>simp
end
def Itz(K:Frag)(z:List Nat)(a:Addr):It:=
 ⟨λi H=>i<z.length/\∃xs x,SqL K H a xs/\xs[i]?=some x,λi H x H'=>∃T c v,x=V.ref T/\H T=none/\z[i]?=some c/\H'=upd H T (.tup [.str ⟨#[c]⟩,v])/\∀xs,SqL K H a xs->xs[i]?=some v,λi H=>∃xs,SqL K H a xs/\(z.length<=i\/xs.length<=i)⟩
def aV2{w:World}{K:Frag} {x1} {zs:List Nat} {t:Tok} {n:String} (hn:n="str_ascii_iterator"\/n="str_iterator") (a z TI TO i1 i2:Addr) (D:∀l,l=a->ZApart z TI TO i1 i2 l [i1]) :
  Turn P w K (.Tuple elts x1 tp) (Itz K zs a) [z,TI,TO,i1,i2] z (λi h=>IsZip h z TI TO .none/\IsPair h TI (.ref i1) (.ref i2)/\(∃u v,IsPair h TO u v)/\h.IsStrIter i1 n ⟨zs.toArray⟩ t i/\h.IsListIter i2 a i) where
 mem:=by simp
 obj:=λi h st b hb=>by
  obtain⟨hz,hTI,⟨u,v,hTO⟩,⟨o1,q1,c1,d1⟩,⟨o2,q2,c2,d2⟩⟩:=st;simp only[mem_cons,not_mem_nil,or_false]at hb;rcases hb with rfl|rfl|rfl|rfl|rfl
  .exact⟨_,hz,λv z=>by cases z⟩
  .exact⟨_,hTI,λv z=>by cases z⟩
  .exact⟨_,hTO,λv z=>by cases z⟩
  .exact⟨o1,q1,λv z=>by rw[d1]at z;cases z⟩
  .exact⟨o2,q2,λv z=>by rw[d2]at z;cases z⟩
 keep:=λi h h' st k=>by
  obtain⟨hz,hTI,⟨u,v,hTO⟩,⟨o1,q1,r1⟩,h2⟩:=st;exact⟨k z (by simp) _ hz,k TI (by simp) _ hTI,⟨u,v,k TO (by simp) _ hTO⟩,⟨o1,k i1 (by simp) _ q1,r1⟩,h2.at λo x=>k i2 (by simp) o x⟩
 item:=by
  intro X hP hw hK hc i pins s σ H E I hf st hg;subst hP hw hK;obtain⟨hz,hTI,⟨u0,v0,hTO⟩,h1,h2⟩:=st;obtain⟨hi,xs,x,hq,hx⟩:=hg;obtain⟨its,rv,p,_⟩:=I.list hq;obtain⟨u,hu,ru⟩:=rv.get hx;have D:=D a rfl;have fo:∀b∈[z,TI,TO,i1,i2],H b=none:=λb hb=>(hf b hb).1
  have hT:H s.heap.objs.size=none:=I.hok.fresh (bG4 _);have hzt:s.TypeIs (.ref z) "zip":=⟨_,hz,rfl⟩;have hh:=I.ok.hd hc;unfold pyNext;refine bFs (bI5 (bH4 (name:=Str.ofString "__next__") hzt bHb
   (bH2 bHb hzt bJ4
    (aFj (aHg (A:=X.A.in1) hh i1 ⟨zs.toArray⟩ t hn) D hz (zX hz) hTI hTO h1 (by simpa using hi) h2 p.isList (y:=u) (by simpa using hu) λh' tk v hP a1 a2 a3 a4 a5 a6 hk=>wpAny_pure ?_) (PySem.F.args_zip_next_1 _))))
  obtain⟨c,uu,hcc,rfl⟩:=hP;refine⟨_,rfl,wpAny_letOwnedTupleGo_zip (s:={s with heap:=h',toks:=tk}) a1 λh9 hz9 sb=>?_⟩
  have hkeep:∀b o,b≠z->b≠TO->b≠i1->b≠i2->s.heap.get? b=some o->h9.get? b=some o:=λb o e1 e2 e3 e4 q=>(sb.2 b e1).trans (hk b o e1 e2 e3 e4 q)
  have zlt:z≠s.heap.objs.size:=bGb (bG2 hz);have htup:h9.get? s.heap.objs.size=some {cls:=.type "tuple",data:=.seq #[.str ⟨#[c]⟩ uu,u]}:=(sb.2 _ zlt.symm).trans a5;have nT:∀b u',H b=some u'->b≠s.heap.objs.size:=λb u' q=>aZ q hT
  have nx:∀b u',H b=some u'->b≠z/\b≠TO/\b≠i1/\b≠i2:=λb u' q=>⟨aZ q (fo z (by simp)),aZ q (fo TO (by simp)),aZ q (fo i1 (by simp)),aZ q (fo i2 (by simp))⟩
  have mx:∀b:Addr,b∉[z,TI,TO,i1,i2]->b≠z/\b≠TO/\b≠i1/\b≠i2:=λb hb=>⟨λq=>hb (by simp[q]),λq=>hb (by simp[q]),λq=>hb (by simp[q]),λq=>hb (by simp[q])⟩
  have inL:∀b o,s.heap.get? b=some o->b≠s.heap.objs.size:=λb o q=>bGb (bG2 q)
  have kp:∀b o,b∉[z,TI,TO,i1,i2]->s.heap.get? b=some o->h9.get? b=some o:=λb o hb q=>hkeep b o (mx b hb).1 (mx b hb).2.1 (mx b hb).2.2.1 (mx b hb).2.2.2 q
  have un:Un (frs X.stack) [z,TI,TO,i1,i2] H (upd H s.heap.objs.size (.tup [.str ⟨#[c]⟩,x])) s.heap h9:=by
   refine⟨λb o q n hb hx=>kp b o hx q,λb o q n hb hx=>⟨o.slots,kp b o hx q⟩,λb o q n hx=>by rw[bB (inL b o q)];exact n,λb o q hx=>⟨o,kp b o hx q⟩,λb ys q=>by rw[bB (nT b _ q)];exact q,λb o u' q=>by rw[bB (nT b _ q)];exact q,λb ps q=>⟨#[],by rw[bB (nT b _ q),append_empty];exact q⟩⟩
  have hok:HOk X.prog X.w (upd H s.heap.objs.size (.tup [.str ⟨#[c]⟩,x])) h9:=λb u' q=>by
   by_cases hb:b=s.heap.objs.size
   .subst hb;rw[bT]at q;cases q;exact⟨show 2<=sizeLine by decide,[.str ⟨#[c]⟩ uu,u],.cons ⟨_,rfl⟩ (.cons ru .nil),_,htup,rfl,_,rfl⟩
   .rw[bB hb]at q;refine(I.hok b u' q).stay (λc v hc' q'=>?_) (λc q'=>by rw[bB (nT c _ q')];exact q') λc ys q'=>by rw[bB (nT c _ q')];exact q'
    have:∃u'',H c=some u'':=by
     rcases hc' with z|z
     .exact⟨u',by rw[z];exact q⟩
     .exact⟨_,z⟩
    obtain⟨u'',hu''⟩:=this;obtain⟨e1,e2,e3,e4⟩:=nx c _ hu'';exact hkeep c v e1 e2 e3 e4 q'
  have I2:Inv X pins σ (upd H s.heap.objs.size (.tup [.str ⟨#[c]⟩,x])) {s with heap:=h9,toks:=tk}:=I.call (g':=s.gens) (t':=tk) (d':=s.drawn) (ch:=[z,TI,TO,i1,i2]) un hok I.bare λb hb=>by
   have fb:=hf b hb;exact⟨fb.2.2.2.1,fb.2.1,fb.2.2.2.2.1,fb.2.2.2.2.2⟩
  have up:∀b o,b≠z->h'.get? b=some o->h9.get? b=some o:=λb o e q=>(sb.2 b e).trans q
  refine⟨.ref s.heap.objs.size,_,I2,rfl,⟨_,c,x,rfl,hT,by simpa using hcc,rfl,λys hy=>by rw[I.list_inj hy hq];exact hx⟩,⟨hz9,up _ _ D.TIz (hk _ _ D.TIz D.TITO D.TIi1 D.TIi2 hTI),⟨_,_,up _ _ D.TOz a2⟩,?_,a4.at λo y=>up _ o D.i2z y⟩,λb hb=>?_⟩
  .obtain⟨o1,q1,r1⟩:=a3;exact⟨o1,up _ _ D.i1z q1,r1⟩
  .have hbs:∃o,s.heap.get? b=some o:=by
    simp only[mem_cons,not_mem_nil,or_false]at hb;obtain⟨o1,q1,_⟩:=h1;obtain⟨o2,q2,_⟩:=h2;rcases hb with rfl|rfl|rfl|rfl|rfl
    .exact⟨_,hz⟩
    .exact⟨_,hTI⟩
    .exact⟨_,hTO⟩
    .exact⟨_,q1⟩
    .exact⟨_,q2⟩
   obtain⟨o,q⟩:=hbs;rw[bB (inL b o q)];exact fo b hb
 done:=by
  intro X hP hw hK hc i pins s σ H E I hf st hg;subst hP hw hK;obtain⟨hz,hTI,⟨u0,v0,hTO⟩,h1,h2⟩:=st;obtain⟨xs,hq,hx⟩:=hg;obtain⟨its,rv,p,_⟩:=I.list hq;have D:=D a rfl;have hzt:s.TypeIs (.ref z) "zip":=⟨_,hz,rfl⟩;have hh:=I.ok.hd hc;have hl:=rv.length;unfold pyNext;refine bFs (bI5 (bH4 (name:=Str.ofString "__next__") hzt bHb
   (bH2 bHb hzt bJ4
    (aJ1 (aHg (A:=X.A.in1) hh i1 ⟨zs.toArray⟩ t hn) hh D hz (zX hz) hTI hTO h1 h2 p.isList (by
     by_cases hi:zs.length<=i
     .refine .inl λs' Q E st hE=>aXu (A:=X.A.in1) hh hn st (by simpa using hi) hE
     .exact .inr ⟨by simpa using hi,by simp;omega⟩) λh' e tk hk he=>?_) (bJt _))))
  obtain⟨o,ho,hce⟩:=he;refine bFs (bIz (T:="StopIteration") (b:=true) ⟨o,ho,hce⟩ bK5 ?_);refine bFu ⟨rfl,?_⟩;have fo:∀b∈[z,TI,TO,i1,i2],H b=none:=λb hb=>(hf b hb).1
  have mx:∀b:Addr,b∉[z,TI,TO,i1,i2]->b≠z/\b≠TO/\b≠i1/\b≠i2:=λb hb=>⟨λq=>hb (by simp[q]),λq=>hb (by simp[q]),λq=>hb (by simp[q]),λq=>hb (by simp[q])⟩
  have kp:∀b o,b∉[z,TI,TO,i1,i2]->s.heap.get? b=some o->h'.get? b=some o:=λb o hb q=>hk b o (mx b hb).1 (mx b hb).2.1 (mx b hb).2.2.1 (mx b hb).2.2.2 q
  have un:Un (frs X.stack) [z,TI,TO,i1,i2] H H s.heap h':=
   ⟨λb o q n hb hx=>kp b o hx q,λb o q n hb hx=>⟨o.slots,kp b o hx q⟩,λb o q n hx=>n,λb o q hx=>⟨o,kp b o hx q⟩,λb ys q=>q,λb o u' q=>q,λb ps q=>⟨#[],by rw[append_empty];exact q⟩⟩
  have hok:HOk X.prog X.w H h':=λb u' q=>by
   refine(I.hok b u' q).stay (λc v hc' q'=>?_) (λc q'=>q') λc ys q'=>q'
   have:∃u'',H c=some u'':=by
    rcases hc' with z|z
    .exact⟨u',by rw[z];exact q⟩
    .exact⟨_,z⟩
   obtain⟨u'',hu''⟩:=this;exact hk c v (aZ hu'' (fo z (by simp))) (aZ hu'' (fo TO (by simp))) (aZ hu'' (fo i1 (by simp))) (aZ hu'' (fo i2 (by simp))) q'
  exact I.call (g':=s.gens) (t':=tk) (d':=s.drawn) (ch:=[z,TI,TO,i1,i2]) un hok I.bare λb hb=>by
   have fb:=hf b hb;exact⟨fb.2.2.2.1,fb.2.1,fb.2.2.2.2.1,fb.2.2.2.2.2⟩
 self:=λ_ _ _ _ _ st h=>wpAny_pyIter_zip st.1 h
theorem aL7:∀(z:List Nat)(ds:List D),(uY z ds).length=min z.length ds.length
 |[],ds=>by simp[uY]
 |c::z,[]=>by simp[uY]
 |c::z,d::ds=>by rw[uY,bGn,bGn,bGn,aL7];omega
theorem aL8:∀(z:List Nat)(ds:List D)(i:Nat)(d:D),(uY z ds)[i]?=some d->∃c e,z[i]?=some c/\ds[i]?=some e/\d=.tup [.str [c],e]
 |[],ds,i,d,h=>by simp[uY]at h
 |c::z,[],i,d,h=>by simp[uY]at h
 |c::z,e::ds,0,d,h=>by
  rw[uY]at h;simp at h;exact⟨c,e,rfl,rfl,h.symm⟩
 |c::z,e::ds,i+1,d,h=>by
  rw[uY,bI0]at h;obtain⟨c',e',h1,h2,h3⟩:=aL8 z ds i d h;exact⟨c',e',by simpa using h1,by simpa using h2,h3⟩
section
variable {a b:Expr}
def bBn{K:Frag} (hq:SqL K (hide (A++B) H) l vs) (r:bD K (hide (A++B) H) ds vs):aMs K B A H (Itz K z l) (uY z ds):=by
 intro A' H' le own i;have hq':SqL K H' l vs:=(aX _ _).seq ((Le.app le).seq hq);refine⟨λd hd=>?_,λhl=>⟨vs,hq',?_⟩⟩
 .obtain⟨c,e,h1,h2,rfl⟩:=aL8 z ds i d hd;obtain⟨v,hv,rv⟩:=r.get h2;refine⟨⟨(bFy.mp h1).1,vs,v,hq',hv⟩,λx H3 y=>?_⟩
  obtain⟨T,c',v',rfl,hT,hc',rfl,h5⟩:=y;have hx:=h5 vs hq';rw[hv]at hx;cases hx;rw[h1]at hc';cases hc';exact⟨cI hT,rW own hT (.cons (eZ.mpr rfl) (.cons (rv.mono (Le.app le)) .nil))⟩
 .rw[aL7]at hl;rw[r.length];omega
def aV3{x1}{p:Pos}(hm:X.mg "zip"=none)(ha:PE X a (tI X.K B f))(hb:PE X b (tI X.K B g))(hg:Gl X "zip":=by rfl)(hs:starEach [a,b] X.env=(false,eval a X.env)::starEach [b] X.env:=by rfl)(hs2:starEach [b] X.env=[(false,eval b X.env)]:=by rfl):L2.PI X (.Tuple elts x1 tp) (.Call (.Name "zip" p) [a,b] [] pos) (tIt X.K B (aO2 f g)):=by
 intro pins s σ H Rq I ⟨A,st,ds,rs,hd,q⟩;obtain⟨x,hx,h2⟩:=R.ok_of hd;obtain⟨y,hy,h3⟩:=R.ok_of h2;split at h3
 rotate_left
 .cases h3
 rename_i zs ws;cases h3;refine Call_ (sY I hg hm boot_zip (bHa (thn ((cT ha (cT hb gC hs2) hs) pos pins s σ H (λvs H1=>∃v w,vs=[v,w]/\bC H H1/\Rep X.K (hide (A++B) H1) (.str zs) v/\Rep X.K (hide (A++B) H1) (.lst ws) w) I ⟨A,st,_,rs,hx,λv H1 s1 r1=>⟨A,st,_,rs.mono s1,hy,λw H2 s2 r2=>⟨v,w,rfl,s1.trans s2,r1.mono (bC.hide s2),r2⟩⟩⟩) λus s1 ⟨vs,H1,I1,r1,v,w,hv,sm,rv,rw'⟩=>?_) hs (by rw[hs2];rfl)))
 subst hv;obtain⟨u1,u2,rfl,ra,rb⟩:∃u1 u2,us=[u1,u2]/\L2.RelV v u1/\L2.RelV w u2:=by
  cases r1 with
  |cons ra rb=>
   cases rb with
   |cons rb rc=>
    cases rc;exact⟨_,_,rfl,ra,rb⟩
 obtain⟨l,ts,rfl,hq,rr⟩:=fB.mp rw';have ev:=eZ.mp rv;subst ev;obtain⟨t,rfl⟩:=(show ∃t,u1=Value.str ⟨zs.toArray⟩ t from ra)
 have eu:u2=Value.ref l:=rb;subst eu;obtain⟨its,rvv,pl,hz⟩:=I1.list ((aX _ _).seq hq);have hlt:l<s1.heap.objs.size:=by
  obtain⟨o,e,_⟩:=pl.isList;exact bG2 e
 refine aR3 pl.isList λh' hz' hTI hTO hit1 hit2 hsz hk=>?_
 refine wpAny_pyIter_zip hz' ⟨s1.heap.objs.size+4,[s1.heap.objs.size+4,s1.heap.objs.size+2,s1.heap.objs.size+3,s1.heap.objs.size,s1.heap.objs.size+1],_,Itz X.K zs l,H1,rfl,I1.kept (t':=s1.toks) hk,aV2 (t:=t) (aG8 ⟨zs.toArray⟩) l (s1.heap.objs.size+4) (s1.heap.objs.size+2) (s1.heap.objs.size+3) s1.heap.objs.size (s1.heap.objs.size+1) (λl' e=>?_),⟨hz',hTI,⟨_,_,hTO⟩,hit1,hit2⟩,λb hb=>?_,q _ H1 sm (bBn hq rr)⟩
 .subst e;exact aFi hlt
 .simp only[mem_cons,not_mem_nil,or_false]at hb;rcases hb with rfl|rfl|rfl|rfl|rfl<;>exact I1.fpOk (by simp) (I1.hok.fresh (by simp))
end
def bitAnd_nn{i j:Int}(h1:0<=i)(h2:0<=j):Builtin.bitAnd i j=((i.toNat&&&j.toNat:Nat):Int):=by
 unfold Builtin.bitAnd;rw[bGe h1,bGe h2]
def aV4{i j:Int}(h1:0<=i)(h2:0<=j):Builtin.bitOr i j=((i.toNat|||j.toNat:Nat):Int):=by
 unfold Builtin.bitOr Builtin.bitAnd;have a1:¬ 0<=Builtin.bitNot i:=by unfold Builtin.bitNot;omega
 have a2:¬ 0<=Builtin.bitNot j:=by unfold Builtin.bitNot;omega
 rw[bG3 a1,bG3 a2];have e1:Builtin.bitNot (Builtin.bitNot i)=i:=by unfold Builtin.bitNot;omega
 have e2:Builtin.bitNot (Builtin.bitNot j)=j:=by unfold Builtin.bitNot;omega
 show Builtin.bitNot (Builtin.bitNot _)=_;rw[e1,e2];unfold Builtin.bitNot;omega
section
variable {a b:Expr}
def aZj(ha:PE X a (tP X.K B f))(hb:PE X b (tP X.K B g)):PE X (.BinOp a .LShift b pos) (tI X.K B (e2 aJs f g)):=
 aG5 bA5 (aF7 (g:=λi j=>.int (i*2^j.toNat)) (λ_ _ _=>bN.mpr rfl) λx y d e=>by
  unfold aJs at e;split at e
  .obtain⟨c,e⟩:=aN e;cases e;exact⟨_,_,rfl,rfl,c,rfl⟩
  .cases e) ha hb
def bEb(ha:PE X a (tP X.K B f))(hb:PE X b (tP X.K B g)):PE X (.BinOp a .RShift b pos) (tI X.K B (e2 aQe f g)):=
 aG5 bA6 (aF7 (g:=λi j=>.int (i/2^j.toNat)) (λ_ _ _=>bN.mpr rfl) λx y d e=>by
  unfold aQe at e;split at e
  .obtain⟨c,e⟩:=aN e;cases e;exact⟨_,_,rfl,rfl,c,rfl⟩
  .cases e) ha hb
def aV5(ha:PE X a (tP X.K B f))(hb:PE X b (tP X.K B g)):PE X (.BinOp a .BitAnd b pos) (tI X.K B (e2 aJt f g)):=
 aG5 bA7 (vM (g:=λi j=>.int (Builtin.bitAnd i j)) (λ_ _ _=>bN.mpr rfl) λx y d e=>by
  unfold aJt at e;split at e
  .obtain⟨c,e⟩:=aN e;cases e;exact⟨_,_,rfl,rfl,by rw[bitAnd_nn c.1 c.2]⟩
  .cases e) ha hb
def aPe(ha:PE X a (tP X.K B f))(hb:PE X b (tP X.K B g)):PE X (.BinOp a .BitOr b pos) (tI X.K B (e2 dOr f g)):=
 aG5 bCv (vM (g:=λi j=>.int (Builtin.bitOr i j)) (λ_ _ _=>bN.mpr rfl) λx y d e=>by
  unfold dOr at e;split at e
  .obtain⟨c,e⟩:=aN e;cases e;exact⟨_,_,rfl,rfl,by rw[aV4 c.1 c.2]⟩
  .cases e) ha hb
theorem vals_ints:∀{l:List Int}{us:List Value},Vals (l.map V.int) us->∀(j:Nat)(h:j<us.length),∃i t,l[j]?=some i/\us[j]=.int i t
 |[],us,r,j,h=>by cases r;simp at h
 |i::l,us,r,j,h=>by
  cases r with
  |cons ra rb=>
   obtain⟨t,rfl⟩:=ra;cases j with
   |zero=>exact⟨i,t,rfl,rfl⟩
   |succ j=>
    obtain⟨i',t',h1,h2⟩:=vals_ints rb j (by simpa using h)
    exact⟨i',t',by simpa using h1,by simpa using h2⟩
def aXv:MtR X "int.bit_length" (λx vs H Q=>∃i:Int,x=.int i/\vs=[]/\Q (.int ((Builtin.Int.intBits i:Nat):Int)) H):=by
 intro pins s σ H x vs v us Q I rx rv h;obtain⟨i,rfl,rfl,q⟩:=h;obtain⟨t,rfl⟩:=(show ∃t,v=Value.int i t from rx)
 have hus:=rv.zero;subst hus;exact call_int_bit_length ⟨.int _,H,I.tok _,⟨_,rfl⟩,q⟩
def aXw(i:Int):Builtin.Int.intBits i=uB i:=by
 unfold Builtin.Int.intBits uB
 by_cases h:i=0
 .rw[bGa h,bGa (by rw[h];rfl)]
 .rw[bG7 h,bG7 (by simpa using h)]
def bBo(ho:PE X o (tP X.K B f))(hbase:attributeBase o "bit_length" X.env (eval o X.env)=eval o X.env:=by rfl)(hline:(apos.endLine==cpos.line)=true:=by rfl) :
  PE X (.Call (.Attribute o "bit_length" apos) [] [] cpos) (tI X.K B (e1 aE1 f)):=by
 refine cO (bAf PySem.F.plainAttrs_int PySem.F.slot_int_bit_length PySem.F.type_int_bit_length aXv ho hbase hline) ?_
 rintro σ H Q ⟨A,st,d,rs,hd,k⟩;obtain⟨x,hx,h2⟩:=R.ok_of hd;cases x<;>first|(cases h2;done)|skip
 cases h2;refine⟨A,st,_,rs,hx,λv H1 s1 r1=>⟨by rw[r1.int];rfl,_,r1.int,rfl,?_⟩⟩
 rw[aXw];exact k _ H1 s1 (bN.mpr rfl)
end
section
open PySem.SeqAt
open PySem.AutoSeq1 (wpAny_loadPart')
open PySem.MeetsSeq PySem.MeetsSeq2 PySem.MeetsSeq3
inductive LexW (A:Around) (s:Shared):List Value->List Value->Bool->Prop where
 |nn:LexW A s [] [] true
 |nc {w:Value} {ws:List Value}:LexW A s [] (w::ws) true
 |cn {v:Value} {vs:List Value}:LexW A s (v::vs) [] false
 |eq {v w:Value} {vs ws:List Value} {b:Bool}:EqAt A s v w true->LexW A s vs ws b->LexW A s (v::vs) (w::ws) b
 |lt {v w:Value} {vs ws:List Value} {b:Bool}:EqAt A s v w false->(∀(prog:Program)(wd:World)(E Q:Value->Shared->Prop),Q (.bool b) s->wpAny (model prog wd) A (richCompare .LtE v w) Q E s)->LexW A s (v::vs) (w::ws) b
end
end Pu
namespace Pu
section
open PySem PySem.Spec PyProof.Rows L2
variable {a b:Expr}
def zY{K:Frag}:yO K (rI0 λi j=>.bl (decide (i<j))) aB5:=vM (g:=λi j=>.bl (decide (i<j))) (λ_ _ _=>cU.mpr rfl) λx y d e=>by
 unfold aB5 at e;split at e
 .cases e;exact⟨_,_,rfl,rfl,rfl⟩
 .cases e
def aV6{i j:Int}(c:(-18446744073709551616<i/\i<18446744073709551616)\/(-18446744073709551616<j/\j<18446744073709551616)):aRy i j:=by
 unfold aRy;omega
def mF(ha:PE X a (tP X.K B f))(hb:PE X b (tP X.K B g)):PE X (.BinOp a .Mult b pos) (tI X.K B (e2 jU f g)):=by
 refine aG5 bA2 ?_ ha hb;intro A H x y d v u Q w rx ry e q;unfold jU at e;split at e
 .obtain⟨c,e⟩:=aN e;cases e;exact⟨_,_,rx.int,ry.int,aV6 c,q _ H (bC.refl _) (bN.mpr rfl)⟩
 .cases e
end
end Pu
namespace Pu
open PySem PySem.Spec PyProof.Rows L2
def bEc{K:Frag} {p:Addr} (s1:bC H H1) (hp:H1 p=none) (s2:bC H1 H') (hv:H' p=some (.lst vs)) (r:bD K (hide (A++p::B) H') ds vs):∃G,bC H G/\G p=none/\upd G p (.lst vs)=H'/\bD K (hide (A++B) G) ds vs:=by
 let G:Hp:=λb=>if b=p then none else H' b
 have gN:G p=none:=bGa rfl;refine⟨G,λb o z=>?_,gN,?_,r.mono λb o z=>?_⟩
 .have hb:b≠p:=aZ (s1 _ _ z) hp;show (if b=p then none else H' b)=_
  rw[bG7 hb];exact s2 _ _ (s1 _ _ z)
 .funext b
  by_cases hb:b=p
  .subst hb;rw[bT,hv]
  .rw[bB hb];exact bG7 hb
 .have hb:b∉A++p::B:=λw=>by rw[lZ w]at z;cases z
  have z1:=aX _ _ _ _ z;rw[dC λw=>hb (mem_mid.mpr (.inr w))]
  show (if b=p then none else H' b)=_
  rw[bG7 λw=>hb (mem_mid.mpr (.inl w))]
  exact z1
section
variable {iter:Expr} {t:Tg} {h:Ex} {rest:List Stmt}
def bBp(is:List Nat)(hsub:aDl is t)(S:CScope X scope is)(hi:L2.PI X tg iter (tIt X.K B it))(hg:∀(B:List Addr)(C:Addr)(s₀:Shared)(H₀:Hp)(fp:List Addr),PG (cQ X scope C s₀ H₀ fp) tg (tG X.K B t))
  (he:∀(B:List Addr)(C:Addr)(s₀:Shared)(H₀:Hp)(fp:List Addr),PE (cQ X scope C s₀ H₀ fp) elt (tI X.K B f)) (hc:X.calm=true) (hs:∀x,foldedSetIterable iter X.env x=pure x:=by intro _;rfl) :
  PE X (.ListComp elt [⟨tg,iter,[],0⟩] scope pos) (tF X.K B (bI is t it bL f)):=by
 intro pins s σ H Q I h;obtain⟨A,st,d,rs,hd,q⟩:=h;obtain⟨xs,hx,h2⟩:=R.ok_of hd;obtain⟨hl,h3⟩:=aN h2;obtain⟨ys,hy,h4⟩:=R.ok_of h3;cases h4;rw[bLi];refine uN (use:=none) (Qf:=EP X pins σ Q) (Q:=Q) (tt:=aEa) (te:=tIx X.K f) (rest:=λenv it p=>eval elt env >>= λx=>call (.builtin "list.append") [p,x] >>= λ_=>again (.compLoop (.ListComp elt [⟨tg,iter,[],0⟩] scope pos) 0 it p env)) S hc hi (λC s₀ H₀ fp=>aUq λB=>hg B C s₀ H₀ fp) (λ_ _ _=>qZ)
  (λC s₀ H₀ fp it p s Q h=>bBk (Y:=cQ X scope C s₀ H₀ fp) h) (λC s₀ H₀ fp it p τ H s pins vs N Q I h q=>aUo (Y:=cQ X scope C s₀ H₀ fp) rfl (aUp λB=>he B C s₀ H₀ fp) τ H s pins vs N Q I h (λQ Q' m h=>yU Q Q' m h) q) hs I
  (aKv hsub (λτ H Q ⟨B,A,st,k,rs,hk,q⟩=>?_) rs hx hl hy λp vs H1 H' s1 hp s2 hv r=>?_) λC p H5 s5 m5 s3 H3 fp τ hC I3 hfp I5 hn5 q5=>⟨m5,hn5,λh' hs'=>⟨.ref p,H5,aBu I3 hfp hC I5 hs',rfl,q5⟩⟩
 .obtain⟨G,g1,g2,g3,g4⟩:=bEc s1 hp s2 hv r;have:=q p vs G g1 g2 g4;rw[g3]at this;exact this
 .cases hk;exact q H (bC.refl _)
end
section
variable {σ:List (Option V)}
def aV7(I:Inv X pins σ H s)(k:∀b u,s.heap.get? b=some u->h'.get? b=some u)(sm:bC H H')(hn:∀b,b<s.heap.objs.size->H' b=H b)(new:∀a o,H a=none->H' a=some o->iG X.prog X.w H' h' a o):Inv X pins σ H' {s with heap:=h',toks:=t'}:=by
 refine I.un ⟨λb u q _ _ _=>k b u q,λb u q _ _ _=>⟨u.slots,k b u q⟩,λb u q n _=>by rw[hn b (bG2 q)];exact n,λb u q _=>⟨u,k b u q⟩,λb xs q=>sm _ _ q,λb u xs q=>sm _ _ q,λb ps q=>⟨#[],by rw[sm _ _ q];simp⟩⟩ λa o e=>?_
 cases hH:H a with
 |none=>exact new a o hH e
 |some u=>
  have z:=sm a u hH;rw[e]at z;cases z;exact(I.hok a _ hH).stay (λb v _ q=>k b v q) (λb q=>sm _ _ q) λb xs q=>sm _ _ q
end
section
variable {a:Expr} {rest:List Stmt}
def bBq(h:PE X e (tF X.K B f))(hl:∀st d,f st=.ok d->∃xs,d=.lst xs):PE X e (tI X.K B f):=cO h (by
 rintro σ H Q ⟨A,st,d,rs,hd,q⟩;obtain⟨xs,rfl⟩:=hl st d hd;exact⟨A,st,xs,rs,hd,λp vs H' s hp r=>q _ _ (s.trans (cI hp)) (gK (rs.own.mono s) hp r)⟩)
end
end Pu
namespace Pu
open PySem PySem.Spec PyProof.Rows L2
structure DA(K:Frag)(n:Str)(st:Stmt):Prop where
 ex:∃(f:Addr)(fd:FuncData),nsIn K mainGlobals n=some (some (.ref f))/\FunD K n n st .none f fd
section
variable{P:Program}{w:World}{K:Frag}{h base:Heap}{mg:Str->Option Value}{n:Str}{st:Stmt}{f:Addr}{ps:List Str}{k np m:Nat}{p:List D->R D}{bd:Bd}{g:Ex}
def eY{od an:Option Addr} {kV doc pm cdv ct:Value} (a:nsIn K mainGlobals n=some (some (.ref f))) (l:K.lookup f=some ⟨oc,od,.func (fnOf n n (fK st) (dM st) (aM st) .none kV doc pm an cdv ct),osl⟩)
  (c:codeIn K cdv n=true) (k:keepIn K (.ref f)=true):DA K n st:=⟨⟨f,_,a,aBx l c k⟩⟩
structure Ct(P:Program)(w:World)(K:Frag)(mg:Str->Option Value)(base h:Heap):Prop where
 X:K.In h
 G:h.Ns mainGlobals mg
def Bn(n:Str)(st:Stmt)(ps:List Str):Prop:=∀(kV doc pm:Value)(an:Option Addr)(cdv ct:Value)(us:List Value),us.length=ps.length->bindArgs (fnOf n n (fK st) (dM st) (aM st) .none kV doc pm an cdv ct) ⟨us,[]⟩=pure (ps.zip us)
structure BnA(n q:Str)(st:Stmt)(ps:List Str):Prop where
 ok:∀(kV doc pm:Value)(an:Option Addr)(cdv ct:Value)(us:List Value),us.length=ps.length->bindArgs (fnOf n q (fK st) (dM st) (aM st) .none kV doc pm an cdv ct) ⟨us,[]⟩=pure (ps.zip us):=by first|exact λ_ _ _ _ _ _=>aPd rfl|exact λ_ _ _ _ _ _=>aIx λ_=>rfl|exact λ_ _ _ _ _ _=>aIy λ_ _=>rfl|exact λ_ _ _ _ _ _=>aIz λ_ _ _=>rfl|exact λ_ _ _ _ _ _=>aJ0 λ_ _ _ _=>rfl|exact λ_ _ _ _ _ _=>aEd λ_ _ _ _ _=>rfl|exact λ_ _ _ _ _ _=>aXq λ_ _ _ _ _ _=>rfl
def DA.use(D:DA K n st)(C:Ct P w K mg base h)(b:Bn n st ps):∃(f:Addr)(fd:FuncData),FunD K n n st .none f fd/\mg n=some (.ref f)/\Binds K fd ps []:=by
 obtain⟨f,fd,a,F⟩:=D.ex;exact⟨f,fd,F,mg_of C.X C.G a,F.binds0 b⟩
theorem DA.ok(D:DA K n st)(C:Ct P w K mg base h)(r:∀{f:Addr}{fd:FuncData},FunD K n n st .none f fd->FnOk P w K mg base CX0 k f fd ps (spI K np (fL np m bd)))(b:BnA n n st ps:=by exact {}):DefOk P w K mg base n k np (fL np m bd):=by
 obtain⟨f,fd,F,a,z⟩:=D.use C b.ok;exact .of (r F) a F.kp z yS
structure MA(K:Frag)(C:Addr)(m:String)(n q:Str)(st:Stmt):Prop where
 ex:∃(f:Addr)(fd:FuncData),Meth K C (Str.ofString m) f/\FunD K n q st .none f fd
def bEd{m:String}{q:Str} {od an:Option Addr} {kV doc pm cdv ct:Value} (a:findIn K (.ref C) (Str.ofString m)=some (some (.ref f))) (e:isFn K (.ref f)=true) (l:K.lookup f=some ⟨oc,od,.func (fnOf n q (fK st) (dM st) (aM st) .none kV doc pm an cdv ct),osl⟩)
  (c:codeIn K cdv q=true) (k:keepIn K (.ref f)=true):MA K C m n q st:=⟨⟨f,_,⟨a,e,k⟩,aBx l c k⟩⟩
theorem MA.ok{C:Addr}{c m:String}{q:Str}{j:Nat}(D:MA K C m n q st)(_:Ct P w K mg base h)(hc:ClsAt K c C)(r:∀{f:Addr}{fd:FuncData},FunD K n q st .none f fd->FnOk P w K mg base CX0 k f fd ps (spI K np (fL np j bd)))(b:BnA n q st ps:=by exact {}):MethOk P w K mg base c m k np [] (fL np j bd):=by
 obtain⟨f,fd,M,F⟩:=D.ex;exact MethOk.of (dvs:=[]) hc M (r F) (F.binds0 b.ok) .nil λ_=>.nil
end
section
variable {a b:Expr}
def bEe{F:String}{A:Addr}(hn:nsIn X.K mainGlobals (Str.ofString F)=some (some (.ref A)))(hm:X.mg x=some (.ref A))(hg:Gl X x:=by rfl)(hd:(x==("__debug__":Str))=false:=by decide):PE X (.Name x pos) (tI X.K B (eC (.fn F))):=
 i_c (aDz (v:=.ref A) hg hm rfl hd) λ_=>aMr.mpr ⟨A,rfl,hn⟩
end
open Builtin
def aL9{l l1:Nat}(h:l<n)(h1:l1<n):ZApart (n+4) (n+2) (n+3) n (n+1) l [n,l1]:=by
 have z:=aFi h;have ne:∀m:Nat,n<m->m∉[n,l1]:=λm hm q=>by
  simp only[mem_cons,not_mem_nil,or_false]at q;rcases q with q|q<;>omega
 exact⟨z.TIz,z.TOz,z.i1z,z.i2z,z.TITO,z.TIi1,z.TIi2,z.TOi1,z.TOi2,z.i12,z.lz,z.lTO,z.li1,z.li2,ne _ (by omega),ne _ (by omega),ne _ (by omega)⟩
section
variable{prog:Program}{w:World}{A:Around}{E:Value->Shared->Prop}{s:Shared}
abbrev yH1(h:Heap)(l1:Addr):Heap:=h.push {cls:=.type "list_iterator",data:=.fields #[.ref l1,.int 0 0]}
abbrev yH2(h:Heap)(l1:Addr)(l:Addr):Heap:=(yH1 h l1).push {cls:=.type "list_iterator",data:=.fields #[.ref l,.int 0 0]}
abbrev yH3(h:Heap)(l1:Addr)(l:Addr):Heap:=(yH2 h l1 l).push {cls:=.type "tuple",data:=.seq #[.ref h.objs.size,.ref (yH1 h l1).objs.size]}
abbrev yH4(h:Heap)(l1:Addr)(l:Addr):Heap:=(yH3 h l1 l).push {cls:=.type "tuple",data:=.seq #[.none,.none]}
abbrev yH5(h:Heap)(l1:Addr)(l:Addr):Heap:=(yH4 h l1 l).push {cls:=.type "zip",data:=.fields #[.none,.bool false,.bool false,.ref (yH2 h l1 l).objs.size,.ref (yH3 h l1 l).objs.size]}
def aNa(l1 l:Addr)(ys1 ys:Array Value) :
  Meets (Builtin.«zip.__new__» ⟨[.type "zip",.ref l1,.ref l],[]⟩) (λ_ R s=>s.heap.IsList l1 ys1/\s.heap.IsList l ys/\
   R (.ok (.ret (.ref (yH4 s.heap l1 l).objs.size))) {s with heap:=yH5 s.heap l1 l}):=
 .of_wp λprog w A R s h=>by
  obtain⟨hp,g,d,tk,os⟩:=s;obtain⟨hl1,hl,h⟩:=h;have hsub:=sub_zip;have hL:Heap.IsList (Shared.heap ⟨hp.push {cls:=.type "list_iterator",data:=.fields #[.ref l1,.int 0 0]},g,d,tk,os⟩) l ys:=Heap.IsList.push hl _
  wp_walk using wpAny_pyIter_list hl1,wpAny_pyIter_list hL
  exact⟨_,rfl,h⟩
def aR4{l1:Addr}{ys1:Array Value} (hl1:s.heap.IsList l1 ys1) (hl:s.heap.IsList l ys)
  (h:∀h',IsZip h' (s.heap.objs.size+4) (s.heap.objs.size+2) (s.heap.objs.size+3) .none->IsPair h' (s.heap.objs.size+2) (.ref s.heap.objs.size) (.ref (s.heap.objs.size+1))->
   IsPair h' (s.heap.objs.size+3) .none .none->h'.IsListIter s.heap.objs.size l1 0->h'.IsListIter (s.heap.objs.size+1) l 0->h'.objs.size=s.heap.objs.size+5->
   (∀c o,s.heap.get? c=some o->h'.get? c=some o)->Q (.ref (s.heap.objs.size+4)) {s with heap:=h'}) :
  wpAny (model prog w) A (call (.type "zip") [.ref l1,.ref l]) Q E s:=by
 refine callType_new PySem.F.called_zip (by decide) (bLw _ _) (bM1 _ _) (λobj=>bKr obj _ _) bM2
  (aNa l1 l ys1 ys) ⟨hl1,hl,?_⟩
 have z1:(yH1 s.heap l1).objs.size=s.heap.objs.size+1:=bGp ..;have z2:(yH2 s.heap l1 l).objs.size=s.heap.objs.size+2:=by rw[bGp,z1]
 have z3:(yH3 s.heap l1 l).objs.size=s.heap.objs.size+3:=by rw[bGp,z2]
 have z4:(yH4 s.heap l1 l).objs.size=s.heap.objs.size+4:=by rw[bGp,z3]
 have z5:(yH5 s.heap l1 l).objs.size=s.heap.objs.size+5:=by rw[bGp,z4]
 have g5:(yH5 s.heap l1 l).get? (yH4 s.heap l1 l).objs.size=some _:=bG1 _ rfl;have g4:(yH5 s.heap l1 l).get? (yH3 s.heap l1 l).objs.size=some _:=bFt _ (bG1 _ rfl);have g3:(yH5 s.heap l1 l).get? (yH2 s.heap l1 l).objs.size=some _:=bFt _ (bFt _ (bG1 _ rfl));have g2:(yH5 s.heap l1 l).get? (yH1 s.heap l1).objs.size=some _:=bFt _ (bFt _ (bFt _ (bG1 _ rfl)));have g1:(yH5 s.heap l1 l).get? s.heap.objs.size=some _:=bFt _ (bFt _ (bFt _ (bFt _ (bG1 _ rfl))));show _/\_;rw[z2,z3,z4]at g5;rw[z1,z2]at g3;rw[z3]at g4;rw[z1]at g2;rw[z4];exact⟨⟨_,g5,rfl⟩,h _ g5 g3 g4 ⟨_,g1,rfl,rfl⟩ ⟨_,g2,rfl,rfl⟩ z5 λc o x=>
  bFt _ (bFt _ (bFt _ (bFt _ (bFt _ x))))⟩
def aV8(hh:A.handled=none){it:Addr} (st:s.heap.IsListIter it l i) (hl:s.heap.IsList l ys) (hx:ys[i]?=none)
  (hE:∀h' e,Heap.ExtBut it s.heap h'->(∃o,h'.get? e=some o/\o.cls=.type "StopIteration")->E (.ref e) {s with heap:=h'}):wpAny (model prog w) A (Builtin.SmallTypes.nextOf (.ref it)) Q E s:=bJ8 hh st hl hx hE
end
end Pu
namespace Pu
open PySem PyProof.Rows
def aBy(h:Heap)(d:Addr)(es:Array DictEntry)(ep:Nat):Prop:=∃o,h.get? d=some o/\o.ExactDict/\o.data=.dict es ep
def aBy.ty{d:Addr}{es:Array DictEntry} (x:aBy s.heap d es ep):s.TypeIs (.ref d) "dict":=let ⟨o,h,e,_⟩:=x;⟨o,h,e.1⟩
def aBy.at{d:Addr}{es:Array DictEntry} (x:aBy h d es ep) (k:∀o,h.get? d=some o->h'.get? d=some o):aBy h' d es ep:=let ⟨o,e,r⟩:=x;⟨o,k o e,r⟩
def aBy.lt{d:Addr}{es:Array DictEntry} (x:aBy h d es ep):d<h.objs.size:=let ⟨_,e,_⟩:=x;bG2 e
section
variable{w:World}{A:Around} {it d:Addr} {es:Array DictEntry}
def aV9(hd:(d==sysModules)=false)(x:aBy s.heap d es ep)(q:Q (.ref s.heap.objs.size) {s with heap:=s.heap.push {cls:=.type "dict_keyiterator",data:=.fields #[.ref d,.int 0 0,.int es.size 0,.int ep 0]} }):wpAny (model prog w) A (pyIter (.ref d)) Q E s:=by
 obtain⟨o,ho,hc,hdat⟩:=id x;refine bK3 x.ty F.slot_dict_iter (bH2 F.slot_dict_iter x.ty F.entry_dict_iter ?_ (F.args_dict_iter_1 _));unfold Builtin.«dict.__iter__» Builtin.Dict.dictSlotNone;refine bFs (bFs (wpAny_notOrdered_dict x.ty ?_));refine(bFu ?_:wpAny _ _ (pure (Value.ref d)) _ _ s);refine(?_:wpAny _ _ (Builtin.Dict.showsAll d >>= _) _ _ s);unfold Builtin.Dict.showsAll;rw[bG7 (by rw[hd];exact bGh)]
 refine bFs (bFu (bFs (bL7 ho hdat (bFs (bM3 ho hdat ?_)))));refine bFs (bHe (bFu ⟨_,rfl,"dict_keyiterator",_,⟨_,bG1 _ rfl,rfl⟩,bHo.lookup,?_⟩));simpa [rawInt] using q
def aVa{e:DictEntry}{Q:Option Value->Shared->Prop}(hit:s.heap.IsKeyIter it d i es.size ep)(x:aBy s.heap d es ep)(hx:es[i]?=some e)
  (q:∀h',h'.IsKeyIter it d (i+1) es.size ep->Heap.SameBut it s.heap h'->Q (some e.key) {s with heap:=h'}):wpAny (model prog w) A (pyNext (.ref it)) Q E s:=by
 obtain⟨o,ho,hc,hd⟩:=id hit;obtain⟨od,hod,_,hdd⟩:=id x;unfold pyNext;refine bFs (bI5 (bH4 (name:=Str.ofString "__next__") hit.typeIs bHo (bH2 bHo hit.typeIs bKc ?_ (bK7 _))));refine bFs (bFu (bFs (bFs ?_)))
 first|refine bFs (bI4 hit.typeIs (bFu ?_))|refine bFs (bIr hit.typeIs (bFu ?_))
 refine bFs (bJg ho hd ?_);simp only[show Builtin.Dict_items.ownsTuple "dict_keyiterator"=false by decide,false_eq_true,if_false]
 refine(?_:wpAny _ _ (if (Value.ref d==Value.none)=true then _ else _) _ _ s)
 rw[bG7 (show ¬ ((Value.ref d==Value.none)=true) from bGh)]
 refine bFs (bFu (bFs (bL7 hod hdd ?_)));rw[bG7 (by simp)]
 refine bFs (bFu (bFs (bM3 hod hdd ?_)));rw[bG7 (by simp)]
 refine bFu ?_
 obtain⟨hlt,he⟩:=bHi.mp hx;subst he;simp only[show ¬ ((i:Int)<0) by omega,if_false,toNat_natCast,Array.getElem?_eq_getElem hlt]
 refine bFs ?_
 first|refine bFs (bI4 hit.typeIs (bFu ?_))|refine bFs (bIr hit.typeIs (bFu ?_))
 refine bFs (wpAny_isOneOf_keyiter hit.typeIs ?_);refine(?_:wpAny _ _ (setField (.ref it) 1 (rawInt ((i:Int)+1)) >>= _) _ _ s);refine bFs (bIm ho hd (by simp) ?_)
 have hit':(s.heap.update it (Obj.mapFields (·.setIfInBounds 1 (rawInt ((i:Int)+1))))).IsKeyIter it d (i+1) es.size ep:=
  ⟨_,bGz _ ho (bIe (bIf hd _)),(Obj.cls_mapFields ..).trans hc,by rw[bIf hd];simp[rawInt]⟩
 refine bFs (bGo (bFs (wpAny_isOneOf_keyiter (s:={s with heap:=_}) hit'.typeIs ?_)))
 refine(?_:wpAny _ _ (pure es[i].key) _ _ _);exact bFu (bFu ⟨_,rfl,bFu (q _ hit' (bHw ..))⟩)
def aXx{Q:Option Value->Shared->Prop}(hh:A.handled=none)(hit:s.heap.IsKeyIter it d i es.size ep)(x:aBy s.heap d es ep)(hx:es.size<=i)
  (q:∀h',Heap.ExtBut it s.heap h'->Q none {s with heap:=h'}):wpAny (model prog w) A (pyNext (.ref it)) Q E s:=by
 obtain⟨o,ho,hc,hd⟩:=id hit;obtain⟨od,hod,_,hdd⟩:=id x;unfold pyNext;refine bFs (bI5 (bH4 (name:=Str.ofString "__next__") hit.typeIs bHo (bH2 bHo hit.typeIs bKc ?_ (bK7 _))));refine bFs (bFu (bFs (bFs ?_)))
 first|refine bFs (bI4 hit.typeIs (bFu ?_))|refine bFs (bIr hit.typeIs (bFu ?_))
 refine bFs (bJg ho hd ?_);simp only[show Builtin.Dict_items.ownsTuple "dict_keyiterator"=false by decide,false_eq_true,if_false]
 refine(?_:wpAny _ _ (if (Value.ref d==Value.none)=true then _ else _) _ _ s)
 rw[bG7 (show ¬ ((Value.ref d==Value.none)=true) from bGh)]
 refine bFs (bFu (bFs (bL7 hod hdd ?_)));rw[bG7 (by simp)]
 refine bFs (bFu (bFs (bM3 hod hdd ?_)));rw[bG7 (by simp)]
 refine bFu ?_
 simp only[show ¬ ((i:Int)<0) by omega,if_false,toNat_natCast,Array.getElem?_eq_none hx]
 refine bFs ?_
 first|refine bFs (bI4 hit.typeIs (bFu ?_))|refine bFs (bIr hit.typeIs (bFu ?_))
 refine(?_:wpAny _ _ (setField (.ref it) 0 .none >>= _) _ _ s);refine bFs (bIm ho hd (by simp) ?_)
 refine(bFs ?_:wpAny _ _ (newExc (.type "StopIteration") [] >>= _) _ _ _);simp only[newExc,newTuple];refine bFs (bHe ?_ (by size_fits))
 refine bFs (m:=firstArgMember _ _) (bMf (a:=Value.none) (by first|rfl|(simp only[firstArgMember];rfl)) ?_)
 refine bHe ?_ (by size_fits)
 simp only[raiseNew];refine bFs (wpAny_handled ?_);rw[show A.in1.handled=none from hh]
 refine bFs (bFu (wpAny_throw ?_));refine bFs (bIz (T:="StopIteration") (b:=true) ⟨_,bG1 _ rfl,rfl⟩ bK5 ?_);exact bFu (q _ (((bHw ..).extBut.push _).push _))
def aR5(hh:A.handled=none)(I:Addr)(hne:d≠I):Walks prog w A I [I,d] [I] es.size (λi v=>∃e,es[i]?=some e/\v=e.key) (λi h=>h.IsKeyIter I d i es.size ep/\aBy h d es ep) where
 sub:=λb hb=>by simp at hb;simp[hb]
 frame:=λ_ _ _ st hk=>⟨st.1.at λo e=>hk I (by simp) o e,st.2.at λo e=>hk d (by simp) o e⟩
 item:=λi s Q E hi st hQ=>aVa st.1 st.2 (bGi hi) λh' hit' hs'=>hQ _ h' s.toks ⟨_,bGi hi,rfl⟩ ⟨hit',st.2.at λo e=>hs'.extBut d o hne e⟩ λb o hb e=>hs'.extBut b o (λh=>hb (by simp[h])) e
 done:=λs Q E st hQ=>aXx hh st.1 st.2 (bG4 _) λh' he'=>hQ h' s.toks λb o hb e=>he' b o (λh=>hb (by simp[h])) e
 self:=λ_ _ _ _ st hQ=>wpAny_pyIter_keyiter st.1 hQ
def aPf(lo:(d==sysModules)=false):KdlSrc prog w "dict" d d es.size (λi v=>∃e,es[i]?=some e/\v=e.key) (λh=>aBy h d es ep) where
 type:=λ_ x=>x.ty
 there:=λ_ x=>⟨x.lt,x.lt⟩
 keep:=λ_ _ x hk=>x.at λo e=>hk d (.inl rfl) o e
 notList:=by decide
 notTuple:=by decide
 hint:=λ_ _ _ _ x hq=>PySem.W.kdl_hint_dict x.ty hq
 iter:=λ_ _ hh x=>⟨_,_,(λ_ _ hq=>aV9 lo x hq),aR5 hh _ (bGb x.lt),⟨⟨_,bG1 _ rfl,rfl,rfl⟩,x.at λ_ e=>bFt _ e⟩⟩
end
section
variable{w:World}{A:Around} {T:String} {r d:Addr} {P:Nat->Value->Prop} {OK:Heap->Prop}
def bBr{R:List Value->Shared->Prop}(K:KdlSrc prog w T r d n P OK)(hh:A.handled=none)(hok:OK s.heap)(hn:n<=sizeLine)
  (q:∀(h':Heap)(tk:Nat)(vs:List Value),ItemsOf P vs.toArray n->(∀b o,s.heap.get? b=some o->h'.get? b=some o)->R vs {s with heap:=h',toks:=tk}) :
  wpAny (model prog w) A (collect (.ref r)) R E s:=by
 unfold collect;refine bFs (wpAny_runValue (bHd entry_proto_collect' ?_));rw[bH3 bKn _];refine(?_:wpAny _ A.in1 (newList [] >>= λl=>again (.builtin "list.__iadd__" ⟨[l,.ref r],[]⟩)) _ _ s)
 refine bFs (bHe (bFu ⟨bHt bIw _,bHd entry_list_iadd' ?_⟩));rw[bH3 bIw _];have la:=K.there _ hok;have hS:(s.heap.push {cls:=.type "list",data:=.seq ([]:List Value).toArray}).get? s.heap.objs.size=some {cls:=.type "list",data:=.seq #[] 0}:=bG1 _ rfl;have key:=PySem.W.kdl_extend (A:=A) (s:={s with heap:=s.heap.push {cls:=.type "list",data:=.seq ([]:List Value).toArray} })
  (R:=λ(q:Result)(s':Shared)=>q=.ok (.ret (.ref s.heap.objs.size))/\∃(h':Heap)(tk:Nat)(vs:List Value)(c:Nat),s'={s with heap:=h',toks:=tk}/\ItemsOf P vs.toArray n/\(∀b o,s.heap.get? b=some o->h'.get? b=some o)/\h'.get? s.heap.objs.size=some {cls:=.type "list",dict:=none,data:=.seq vs.toArray c,slots := #[]})
  K hh (K.keep _ _ hok λb _ o e=>bFt _ e) s.heap.objs.size (bJ6 la.1) (bJ6 la.2) (.ref s.heap.objs.size) 0 hS
  (λh' tk acc c k o it=>⟨rfl,h',tk,acc.toList,c,rfl,by simpa using it,λb o' ho=>k b o' (Nat.ne_of_lt (Heap.lt_size ho)) (Heap.get?_push_of_some _ ho),by simpa using o⟩) hn
 have last:∀(h':Heap)(tk:Nat)(vs:List Value)(c:Nat),ItemsOf P vs.toArray n->(∀b o,s.heap.get? b=some o->h'.get? b=some o)->h'.get? s.heap.objs.size=some {cls:=.type "list",dict:=none,data:=.seq vs.toArray c,slots := #[]}->
   wpAny (model prog w) A (load s.heap.objs.size >>= λo=>match o.data with|.seq xs _=>pure xs.toList|_=>unsupported "internal:collect") R E {s with heap:=h',toks:=tk}:=λh' tk vs c nv k o=>by
  refine bFs (wpAny_load o ?_);exact bFu (q h' tk vs nv k)
 refine bI6 key (λfin s' y=>?_) λe s' y=>nomatch y.1
 cases fin with
 |done f=>
  obtain⟨e,h',tk,vs,c,rfl,nv,k,o⟩:=y;cases e;exact last h' tk vs c nv k o
 |again c₁=>
  refine⟨y.1,bIt y.2 λq s₂ z=>?_⟩
  obtain⟨rfl,h',tk,vs,c,rfl,nv,k,o⟩:=z;exact last h' tk vs c nv k o
end
end Pu
namespace Pu
open PySem PySem.Spec PyProof.Rows L2
def KAt(H:Hp):List (List Key×V)->List Addr->Prop:=Paired λkv p=>H p=some (.tup (kv.1.map kV))
def KAt.len{ps:List Addr}(h:KAt H kvs ps):kvs.length=ps.length:=Paired.length h
def aZk{w:World} (ok:HOk P w H h) (e:H a=some (.dT kvs)):kvs.length<=sizeLine/\(a==sysModules)=false/\∃es ep ps,aBy h a es ep/\KAt H kvs ps/\es.toList.map (·.key)=ps.map Value.ref:=by
 obtain⟨z,y,xs,r,o,es,ep,h1,h2,h3,h4,h5⟩:=(show iG P w H h a (.dT kvs) from ok a _ e)
 refine⟨z,y,es,ep,xs.map (·.2.1),⟨o,h1,h2,h3⟩,?_,?_⟩
 .have:∀{l:List (List Key×V)} {m:List (List Key×Addr×Value)},Paired (λ(p:List Key×V)(q:List Key×Addr×Value)=>p.1=q.1/\H q.2.1=some (.tup (p.1.map kV))/\RelV p.2 q.2.2) l m->KAt H l (m.map (·.2.1)):=λ{l m} q=>by
   induction q with
   |nil=>exact .nil
   |cons h0 _ ih=>exact .cons h0.2.1 ih
  exact this r
 .rw[h4,bH8,bH8];rfl
def aLa{es:Array DictEntry}{ps:List Addr}{vs:List Value}(h:es.toList.map (·.key)=ps.map Value.ref)(it:ItemsOf (λi v=>∃e,es[i]?=some e/\v=e.key) vs.toArray es.size):vs=ps.map Value.ref:=by
 obtain⟨h1,h2⟩:=it;rw[<-h];refine bL8 λi=>?_
 cases hv:vs[i]? with
 |none=>
  have:=List.getElem?_eq_none_iff.mp hv;rw[bGd]at h1;exact(bHn (by rw[bG6,bIx];omega)).symm
 |some v=>
  obtain⟨e,he,rfl⟩:=h2 i v (by simpa using hv)
  rw[bGu,bI9,he];rfl
theorem aD2:∀ps:List Addr,Vals (ps.map V.ref) (ps.map Value.ref)
 |[]=>.nil
 |_::ps=>.cons rfl (aD2 ps)
theorem KAt.reps{K:Frag}{A:List Addr}{H:Hp}(w:Own A H):∀{kvs:List (List Key×V)} {ps:List Addr},KAt H kvs ps->bD K (hide A H) (kvs.map λp=>D.tup (p.1.map kW)) (ps.map V.ref)
 |_,_,.nil=>.nil
 |kv::_,_,.cons h0 t=>by
  refine .cons (lY.mpr ⟨_,_,rfl,by rw[dC (w.tup h0)];exact h0,?_⟩) (KAt.reps w t)
  have:∀ks:List Key,bD K (hide A H) (ks.map kW) (ks.map kV):=λks=>by
   induction ks with
   |nil=>exact .nil
   |cons k ks ih=>
    refine .cons ?_ ih;cases k with
    |inl i=>exact bN.mpr rfl
    |inr x=>exact eZ.mpr (by simp[kV])
  exact this kv.1
section
variable {a:Expr}
def aFk(hc:X.calm=true):lB X (.type "list") (λvs H Q=>∃(r:Addr) (kvs:List (List Key×V)),vs=[.ref r]/\H r=some (.dT kvs)/\∀n ps,H n=none->KAt H kvs ps->Q (.ref n) (upd H n (.lst (ps.map V.ref)))):=by
 intro pins s σ H vs us Q I r h;obtain⟨l,kvs,rfl,hl,q⟩:=h;obtain⟨u,rfl,ru⟩:=r.one;obtain rfl:u=Value.ref l:=ru;obtain⟨hz,hs,es,ep,ps,hd,hk',he⟩:=aZk I.hok hl;have hlen:es.size=kvs.length:=by
  have:=congrArg List.length he;rw[bG6,bG6,bIx]at this;rw[this,hk'.len]
 refine PySem.W.kdl_call (aPf hs) (I.ok.hd hc) hd (by rw[hlen];exact hz) λh' tk acc c' hk hS hi=>?_
 have e2:acc.toList=ps.map Value.ref:=aLa he (by simpa using hi)
 refine⟨.ref s.heap.objs.size,_,I.laid (o:=.lst (ps.map V.ref)) (t':=tk) hk (bG4 _) ⟨by rw[bG6,<-hk'.len];exact hz,ps.map Value.ref,c',aD2 ps,by rw[<-e2];simpa using hS⟩,rfl,q _ _ (I.hok.fresh (Nat.le_refl _)) hk'⟩
def aXy(hm:X.mg "list"=none)(hc:X.calm=true)(ha:PE X a (tI X.K B f))(hg:Gl X "list":=by rfl)(hs:starEach [a] X.env=(false,eval a X.env)::starEach [] X.env:=by rfl):PE X (.Call (.Name "list" p0) [a] [] pos) (tI X.K B (e1 aAk f)):=by
 refine cO (uA (aFk hc) hg hm (by rfl) (cT ha gC hs) (he:=hs)) ?_
 rintro σ H Q ⟨A,st,d,rs,hd,q⟩;obtain⟨x,hx,h2⟩:=R.ok_of hd;refine⟨A,st,x,rs,hx,λv H1 s1 r1=>?_⟩
 unfold aAk at h2;split at h2
 .obtain⟨c,h3⟩:=aN h2;cases h3;obtain⟨p,vs,rfl,h4,r4⟩:=rT.mp r1;rcases h4 with ⟨h5,_⟩|⟨_,kvs,h5,rfl,rfl⟩
  .cases h5
  .have w:=rs.own.mono s1;exact⟨p,kvs,rfl,aX _ _ _ _ h5,λn ps hn hk=>q _ _ (s1.trans (cI hn)) (gK w hn (hk.reps w))⟩
 .cases h2
end
def IsP(h:Heap)(v:Value)(i j:Int):Prop:=∃a o t u n,v=.ref a/\h.get? a=some o/\o.cls=.type "tuple"/\o.data=.seq #[.int i t,.int j u] n
section
open PySem.W (kat_lt kat_cons kat_go kat_yes kat_no kat_nil kat_one KatTups kat_kind kat_run kat_snds)
variable{w:World}{A:Around}
def IsP.keep{v:Value}{i j:Int}(p:IsP h v i j)(k:∀a o,h.get? a=some o->o.cls=.type "tuple"->h'.get? a=some o):IsP h' v i j:=by
 obtain⟨a,o,t,u,n,e,ho,hc,hd⟩:=p;exact⟨a,o,t,u,n,e,k a o ho hc,hc,hd⟩
def aXz{x:Value}{p q:Int×Int}{C:Bool->Shared->Prop}(px:IsP s.heap x p.1 p.2)(py:IsP s.heap y q.1 q.2)(h:C (ltQ p q) s):wpAny (model prog w) A (keyLt' (tuples' true) x y) C E s:=by
 obtain⟨i,j⟩:=p;obtain⟨k,l⟩:=q;obtain⟨a,o,t,u,n,rfl,ho,_,hd⟩:=px;obtain⟨b,o',t',u',n',rfl,ho',_,hd'⟩:=py;refine kat_lt ho hd ho' hd' (kat_cons (SeqAt.EqAt.int_int i t k t' _ _ _ _ (kat_go (λe=>?_) λe=>?_)))
 .have h':C (decide (j<l)) s:=by unfold ltQ at h;rw[bGa e]at h;exact h
  refine kat_yes (kat_cons (SeqAt.EqAt.int_int j u l u' _ _ _ _ (kat_go (λe=>?_) λe=>?_)))
  .have e:j=l:=eq_of_beq e;subst e;exact kat_yes (kat_nil (by simpa using h'))
  .exact kat_no (kat_one _ _ (lt_int h'))
 .have h':C (decide (i<k)) s:=by unfold ltQ at h;rw[bG7 (by rw[e];exact bGh)]at h;exact h
  exact kat_no (oneLt_int h')
def bBs{c:Nat->Nat->Bool} {Q:α->Prop} {G:α->Shared->Prop} {cmp:Nat->Nat->(Bool->Shared->Prop)->Shared->Prop} (hc:∀i j,i<n->j<n->∀C:Bool->Shared->Prop,C (c i j) s->cmp i j C s) {t:PySem.W.KasT α} (h:gwK c n t Q) (g:G (aSs c t) s):t.kasWp cmp G s:=by
 induction t with
 |ret _=>exact g
 |ask i j k ih=>exact hc i j h.1 h.2.1 _ (ih _ h.2.2 g)
def bEf{vs:List Value} {P:PySem.Fin->Shared->Prop} {ps:List (Int×Int)} (ho:s.heap.get? a=some (seqObj "list" vs.toArray n)) (hv:Paired (λ(x:Int×Int) u=>IsP s.heap u x.1 x.2) ps vs) (h64:vs.length<64)
  (q:∀(c:Nat)(h':Heap),(∀b o,b≠a->s.heap.get? b=some o->h'.get? b=some o)->h'.get? a=some (seqObj "list" ((ixQ ps).map λi=>vs.getD i Value.none).toArray c)->P (.done (.ret .none)) {s with heap:=h'}) :
  wpAny (model prog w) A (Builtin.«list.sort» ⟨[.ref a],[]⟩) P E s:=by
 have hz:vs.length<=sizeLine:=by rw[bIi];omega
 have hl:ps.length=vs.length:=Paired.length hv;obtain⟨e1,ho1⟩:∃e1,(s.heap.update a (Obj.mapSeq λ_=>(#[]:Array Value))).get? a=some (seqObj "list" #[] e1):=⟨_,get?_update_seq ho λ_ => #[]⟩
 have k1:∀b o,b≠a->s.heap.get? b=some o->(((s.heap.update a (Obj.mapSeq λ_=>(#[]:Array Value))).push (seqObj "tuple" vs.toArray 0)).push (seqObj "list" #[] 0)).get? b=some o:=λb o hb e=>bFt _ (bFt _ (by rw[Heap.get?_update_ne _ _ _ _ hb];exact e))
 have ho3:(((s.heap.update a (Obj.mapSeq λ_=>(#[]:Array Value))).push (seqObj "tuple" vs.toArray 0)).push (seqObj "list" #[] 0)).get? a=some (seqObj "list" #[] e1):=bFt _ (bFt _ ho1)
 rw[list_sort_plain];refine bFs (listItems_at ho rfl ?_);refine bFs (listUpdate_at ho rfl ?_ (by rw[bGd];exact hz) (bHp _))
 refine bFs (seqEpoch_at ho1 rfl ?_);refine bFs (wpAny_newTuple ?_ (by show vs.length<=_;exact hz))
 refine bFs (wpAny_newList ?_ (bHp _));refine bGo ?_
 show wpAny (model prog w) A _ P E {s with heap:=((s.heap.update a (Obj.mapSeq λ_=>(#[]:Array Value))).push (seqObj "tuple" vs.toArray 0)).push (seqObj "list" #[] 0)}
 generalize ((s.heap.update a (Obj.mapSeq λ_=>(#[]:Array Value))).push (seqObj "tuple" vs.toArray 0)).push (seqObj "list" #[] 0)=h3 at k1 ho3
 have tup:∀b o,s.heap.get? b=some o->o.cls=.type "tuple"->h3.get? b=some o:=λb o e hc=>k1 b o (λz=>by
  rw[z,ho]at e;cases e;have hc:Value.type "list"=Value.type "tuple":=hc;injection hc with hc
  exact absurd hc (by decide)) e
 have s64:vs.toArray.size=vs.length:=bGd;have ol:((ixQ ps).map λi=>vs.getD i Value.none).length=vs.length:=by rw[bG6,(aB7 ps).length_eq,bIc,hl]
 have fin:P (.done (.ret .none)) {s with heap:=h3.update a (Obj.mapSeq λ_=>((ixQ ps).map λi=>vs.getD i Value.none).toArray)}:=by
  obtain⟨c2,hc2⟩:∃c2,(h3.update a (Obj.mapSeq λ_=>((ixQ ps).map λi=>vs.getD i Value.none).toArray)).get? a=some (seqObj "list" ((ixQ ps).map λi=>vs.getD i Value.none).toArray c2):=⟨_,get?_update_seq ho3 λ_=>_⟩
  exact q c2 _ (λb o hb e=>by rw[Heap.get?_update_ne _ _ _ _ hb];exact k1 b o hb e) hc2
 dsimp only
 by_cases h2:vs.toArray.size<2
 .rw[bGa h2];refine bFs (bFu ?_);rw[bGa h2,StateT.run_pure];refine bFs (bFu ?_);have eo:(arrOf (SortSt.mk' general' (vs.toArray.zip vs.toArray) #[] 7 none)).map (·.2)=((ixQ ps).map λi=>vs.getD i Value.none).toArray:=by
   apply Array.toList_inj.mp;show ((vs.toArray.zip vs.toArray).map (·.2)).toList=_;rw[Array.toList_map,ksk_zip,List.map_snd_zip (bG4 _),bJk];unfold ixQ;rw[bGa (by omega),hl,map_range]
  have hf:failedOf (SortSt.mk' general' (vs.toArray.zip vs.toArray) #[] 7 none)=none:=rfl;generalize SortSt.mk' general' (vs.toArray.zip vs.toArray) #[] 7 none=st at eo hf;dsimp only at hf eo ⊢;rw[eo];refine bFs (seqEpoch_at ho3 rfl ?_);refine bFs (listUpdate_at ho3 rfl ?_ (bHp _) (by rw[bGd,ol];exact Nat.le_succ_of_le hz))
  rw[hf];simp only[bne_self_eq_false,false_eq_true,if_false];exact bFu fin
 .rw[bG7 h2];have kt:∀{ps:List (Int×Int)} {us:List Value},Paired (λ(x:Int×Int) u=>IsP s.heap u x.1 x.2) ps us->∃fs:List Value,KatTups h3 us fs/\fs.length=us.length/\∀f∈fs,∃n t,f=.int n t:=λ{ps us} h=>by
   induction h with
   |nil=>exact⟨[],.nil,rfl,λ_ h=>nomatch h⟩
   |cons h0 _ ih=>
    obtain⟨fs,t1,t2,t3⟩:=ih;obtain⟨b,o,t,u,m,e,hb,hc,hd⟩:=h0;subst e;refine⟨.int _ t::fs,.cons (tup _ _ hb hc) hc hd rfl t1,by rw[bGn,bGn,t2],λf hf=>?_⟩
    rcases bG0.mp hf with rfl|hf
    .exact⟨_,t,rfl⟩
    .exact t3 f hf
  have at3:∀{ps:List (Int×Int)} {us:List Value},Paired (λ(x:Int×Int) u=>IsP s.heap u x.1 x.2) ps us->∀i,i<us.length->IsP h3 (us.getD i Value.none) (ps.getD i (0,0)).1 (ps.getD i (0,0)).2:=λ{ps us} h=>by
   induction h with
   |nil=>exact λi hi=>absurd hi (bK2 _)
   |cons h0 _ ih=>
    intro i hi;cases i with
    |zero=>exact h0.keep tup
    |succ i=>exact ih i (bId hi)
  obtain⟨fs,t1,t2,t3⟩:=kt hv;refine bFs (kat_kind (s:={s with heap:=h3}) (T:=.type "int") t1 (by omega) (λv hf=>?_) rfl ?_)
  .obtain⟨n,t,rfl⟩:=t3 v hf;exact .now
  rw[bG7 h2];refine bFs (bI6 (kat_run (E:=E) (s:={s with heap:=h3}) (ks:=vs) (vs:=vs) (Q:=λst' s'=>s'={s with heap:=h3}/\failedOf st'=none/\(arrOf st').map (·.2)=((ixQ ps).map λi=>vs.getD i Value.none).toArray) (G:=λp s'=>s'={s with heap:=h3}/\p=aSs (cmQ ps) (PySem.W.kas_sort vs.length)) rfl (by omega) h64 (λp st' s' _ ha hf ⟨g1,g2⟩=>⟨g1,hf,?_⟩) (bBs (c:=cmQ ps) (λi j hi hj C hC=>aXz (at3 hv i hi) (at3 hv j hj) hC) (aO4 (by omega)) ⟨rfl,rfl⟩)) ?_ λ_ _ z=>z)
  .rw[kat_snds rfl ha,g2];unfold ixQ;rw[bG7 (by omega),hl]
  .rintro⟨⟨⟩,st⟩ s' ⟨rfl,hf,eo⟩;dsimp only at hf eo ⊢;rw[eo];refine bFs (seqEpoch_at ho3 rfl ?_);refine bFs (listUpdate_at ho3 rfl ?_ (bHp _) (by rw[bGd,ol];exact Nat.le_succ_of_le hz))
   rw[hf];simp only[bne_self_eq_false,false_eq_true,if_false];exact bFu fin
def aNb{d:Addr}{es:Array DictEntry} {vs:List Value} {ps:List (Int×Int)} (lo:(d==sysModules)=false) (hh:A.handled=none) (x:aBy s.heap d es ep) (he:∀us:List Value,ItemsOf (λi v=>∃e,es[i]?=some e/\v=e.key) us.toArray es.size->us=vs) (hv:Paired (λ(x:Int×Int) u=>IsP s.heap u x.1 x.2) ps vs) (few:es.size<64)
  (q:∀(D:Addr)(h':Heap)(tk:Nat)(c:Nat),(∀b o,s.heap.get? b=some o->h'.get? b=some o)->(∀b o,s.heap.get? b=some o->b<D)->h'.get? D=some (seqObj "list" ((ixQ ps).map λi=>vs.getD i Value.none).toArray c)->Q (.ref D) {s with heap:=h',toks:=tk}) :
  wpAny (model prog w) A (call (.builtin "sorted") [.ref d]) Q E s:=by
 refine Calls.call_function_entry kind_sorted plain_sorted entry_sorted (args_sorted1 _) ?_
 unfold Builtin.«sorted»;refine bFs (m:=checkCount "sorted" 1 1 _) (bFu (bFs (bBr (A:=A.in1) (aPf lo) hh x (by rw[bIi];omega) λh' tk us nv kA=>?_)))
 have lv:us.length=es.size:=by have:=nv.1;rw[bGd]at this;exact this
 obtain rfl:=he us nv;refine bFs (wpAny_newList ?_ (by rw[bIi];omega))
 have o:(h'.push (seqObj "list" us.toArray 0)).get? h'.objs.size=some (seqObj "list" us.toArray 0):=bG1 _ rfl;have kB:∀b o,s.heap.get? b=some o->(h'.push (seqObj "list" us.toArray 0)).get? b=some o:=λb o e=>bFt _ (kA b o e)
 have hv':Paired (λ(x:Int×Int) u=>IsP (h'.push (seqObj "list" us.toArray 0)) u x.1 x.2) ps us:=Paired.imp' (λ_ _ p=>p.keep λa o e _=>kB a o e) hv
 refine bFs (bGo (bH2 slot_list_sort ⟨_,o,rfl⟩ entry_list_sort (bEf (s:={s with heap:=h'.push (seqObj "list" us.toArray 0),toks:=tk}) o hv' (by omega) λc h2 k hd=>⟨_,rfl,?_⟩) (args_list_sort _)))
 exact bFu ⟨_,rfl,q _ _ tk c (λb ob hb=>k b ob (bGb (bG2 (kA b ob hb))) (kB b ob hb)) (λb ob hb=>bG2 (kA b ob hb)) hd⟩
end
def aY0{w:World} {o:HO} (x:iG P w H h a o):∃u,h.get? a=some u:=by
 cases o with
 |lst xs=>obtain⟨_,_,_,_,e⟩:=x;exact⟨_,e⟩
 |tup xs=>obtain⟨_,_,_,o,e,_⟩:=x;exact⟨_,e⟩
 |dK kvs=>obtain⟨_,_,_,_,o,_,_,e,_⟩:=x;exact⟨_,e⟩
 |dT kvs=>obtain⟨_,_,_,_,o,_,_,e,_⟩:=x;exact⟨_,e⟩
 |set S n=>obtain⟨o,_,_,_,e,_⟩:=x;exact⟨_,e⟩
 |ins C dx fs=>obtain⟨_,_,_,e,_⟩:=x;exact⟨_,e⟩
 |own y=>obtain⟨_,e⟩:=x;exact⟨_,e⟩
 |xd fs=>obtain⟨_,⟨_,_,_,e,_⟩,_⟩:=x;exact⟨_,e⟩
 |rng lo hi=>obtain⟨_,_,_,e⟩:=x;exact⟨_,e⟩
 |frz ob u=>obtain⟨e,_⟩:=x;exact⟨_,e⟩
 |tbl ps=>exact⟨_,(show h.get? a=some _ from x)⟩
 |met f y=>exact⟨_,(show h.get? a=some _ from x)⟩
 |ext φ=>obtain⟨_,⟨_,e⟩,_⟩:=x;exact⟨_,e⟩
section
variable {a:Expr}
theorem aVb{H:Hp}:∀{kvs:List (List Key×V)} {ps:List Addr} {l:List (Int×Int)},KAt H kvs ps->(kvs.map λp=>D.tup (p.1.map kW))=l.map pD->Paired (λ(x:Int×Int) a=>H a=some (.tup [.int x.1,.int x.2])) l ps
 |_,_,[],.nil,_=>.nil
 |_,_,_::_,.nil,h=>nomatch h
 |_,_,[],.cons _ _,h=>nomatch h
 |kv::_,_,x::l,.cons h0 t,h=>by
  rw[bGf,bGf]at h;injection h with h1 h2
  refine .cons ?_ (aVb t h2);rw[h0];congr 2;unfold pD at h1;injection h1 with h1
  match hk:kv.1,h1 with
  |[],h1=>simp at h1
  |[_],h1=>simp at h1
  |k1::k2::[],h1=>
   simp only[map_cons,map_nil,List.cons.injEq,and_true]at h1;obtain⟨e1,e2⟩:=h1;rcases k1 with i1|x1
   .rcases k2 with i2|x2
    .have e1:D.int i1=D.int x.1:=e1;have e2:D.int i2=D.int x.2:=e2;injection e1 with e1
     injection e2 with e2
     rw[<-e1,<-e2];rfl
    .exact nomatch (show D.str _=D.int _ from e2)
   .exact nomatch (show D.str _=D.int _ from e1)
  |k1::k2::k3::r,h1=>simp at h1
theorem aPg(ps:List Addr):∀is:List Nat,Vals (is.map λi=>(ps.map V.ref).getD i .non) (is.map λi=>(ps.map Value.ref).getD i Value.none)
 |[]=>.nil
 |i::is=>by
  refine .cons ?_ (aPg ps is);dsimp only
  by_cases h:i<ps.length
  .rw[bG5,bG5,bGu,bGu,bFv h];rfl
  .rw[bG5,bG5,bGu,bGu,bHn (by omega)]
   rfl
theorem aPh{K:Frag}{H:Hp}{l:List (Int×Int)}{ps:List Addr}(h:∀i,i<l.length->∃a,ps[i]?=some a/\H a=some (.tup [.int (l.getD i (0,0)).1,.int (l.getD i (0,0)).2])):∀is:List Nat,(∀i∈is,i<l.length)->bD K H ((is.map λi=>l.getD i (0,0)).map pD) (is.map λi=>(ps.map V.ref).getD i .non)
 |[],_=>.nil
 |i::is,hi=>by
  obtain⟨a,e,ha⟩:=h i (hi i bFx);refine .cons (lY.mpr ⟨a,_,?_,ha,.cons (bN.mpr rfl) (.cons (bN.mpr rfl) .nil)⟩) (aPh h is λi hx=>hi i (bFw _ hx))
  dsimp only;rw[bG5,bGu,e];rfl
def aR6(hc:X.calm=true):lB X (.builtin "sorted") (λxs H Q=>∃(p:Addr) (kvs:List (List Key×V)) (l:List (Int×Int)),xs=[.ref p]/\H p=some (.dT kvs)/\(kvs.map λp=>D.tup (p.1.map kW))=l.map pD/\l.length<64/\∀n ps,H n=none->Paired (λ(x:Int×Int) a=>H a=some (.tup [.int x.1,.int x.2])) l ps->Q (.ref n) (upd H n (.lst ((ixQ l).map λi=>(ps.map V.ref).getD i .non)))):=by
 intro pins s σ H xs us Q I r h;obtain⟨p,kvs,l,rfl,hp,hk,hn,q⟩:=h;obtain⟨u,rfl,rx⟩:=vals1 r;cases rx;obtain⟨hz,hs,es,ep,ps,hd,hk',he⟩:=aZk I.hok hp;have pr:=aVb hk' hk;have hlen:es.size=l.length:=by
  have:=congrArg List.length he;rw[bG6,bG6,bIx]at this;rw[this,(Paired.length pr:l.length=ps.length)]
 have bth:∀{l:List (Int×Int)} {ps:List Addr},Paired (λ(x:Int×Int) a=>H a=some (.tup [.int x.1,.int x.2])) l ps->Paired (λ(x:Int×Int) u=>IsP s.heap u x.1 x.2) l (ps.map Value.ref):=λ{l ps} h=>by
  induction h with
  |nil=>exact .nil
  |cons h0 _ ih=>
   refine .cons ?_ ih;obtain⟨it2,r2,⟨o,ho,hc,n,hd⟩,_⟩:=I.tuple (SqT.of h0);cases r2 with
   |cons r0 r2=>cases r2 with
    |cons r1 r2=>
     cases r2;obtain⟨t,rfl⟩:=r0;obtain⟨t',rfl⟩:=r1;exact⟨_,o,t,t',n,rfl,ho,hc,hd⟩
 refine aNb hs (I.ok.hd hc) hd (λus it=>aLa he it) (bth pr) (by omega) λD h' tk c hk hD hd=>?_
 have hDn:H D=none:=by
  cases hH:H D with
  |none=>rfl
  |some o=>
   obtain⟨u,e⟩:=aY0 (I.hok D o hH);exact absurd (hD D u e) (bH0 _)
 have sm:bC H (upd H D (.lst ((ixQ l).map λi=>(ps.map V.ref).getD i .non))):=cI hDn
 refine⟨.ref D,_,I.step (g':=s.gens) (t':=tk) (ch:=[]) (λ_ z=>nomatch z) (λb o _ _ _ e _=>hk b o e) (λb o _ _ _ e _=>⟨o.slots,hk b o e⟩) (λb o _ e n=>by rw[bB (bGb (hD b o e))];exact n) (λb o _ e=>⟨o,hk b o e⟩) (λb xs e=>sm _ _ e) (λb o u e=>sm _ _ e) (λb ps e=>⟨#[],by rw[sm _ _ e];simp⟩) (λm ⟨o,es,ep,ho,r⟩=>⟨o,es,ep,hk _ o ho,r⟩) (λb o e=>?_) I.bare,rfl,q _ _ hDn pr⟩
 by_cases hb:b=D
 .subst hb;rw[bT]at e;cases e;exact⟨by rw[bG6,(aB7 l).length_eq,bIc,bIi];omega,_,c,aPg ps _,hd⟩
 .rw[bB hb]at e;exact(I.hok b _ e).stay (λb v _ q=>hk b v q) (λb q=>sm _ _ q) λb xs q=>sm _ _ q
def bBt(hm:X.mg "sorted"=none)(hc:X.calm=true)(ha:PE X a (tI X.K B f))(hg:Gl X "sorted":=by rfl)(hs:starEach [a] X.env=(false,eval a X.env)::starEach [] X.env:=by rfl):PE X (.Call (.Name "sorted" p0) [a] [] pos) (tF X.K B (e1 aGp f)):=by
 refine cO (oJ (aR6 hc) hg hm bL9 (cT ha gC hs) (he:=hs)) ?_
 rintro σ H Q ⟨A,st,d,rs,hd,q⟩;obtain⟨x,hx,h2⟩:=R.ok_of hd;refine⟨A,st,x,rs,hx,λv H1 s1 r1=>?_⟩
 unfold aGp at h2;split at h2
 .obtain⟨l,hl,h3⟩:=R.ok_of h2;obtain⟨c,h4⟩:=aN h3;cases h4;obtain⟨p,vs,rfl,h4,r4⟩:=rT.mp r1;rcases h4 with ⟨h5,_⟩|⟨_,kvs,h5,rfl,rfl⟩
  .cases h5
  .have w:=rs.own.mono s1;refine⟨p,kvs,l,rfl,aX _ _ _ _ h5,aSr hl,c,λn ps hn hp=>q n _ H1 s1 hn (aPh (λi hi=>?_) _ λi hi=>bGr.mp ((aB7 l).mem_iff.mp hi))⟩
   have:∀{l:List (Int×Int)} {ps:List Addr},Paired (λ(x:Int×Int) a=>H1 a=some (.tup [.int x.1,.int x.2])) l ps->∀i,i<l.length->∃a,ps[i]?=some a/\H1 a=some (.tup [.int (l.getD i (0,0)).1,.int (l.getD i (0,0)).2]):=λ{l ps} h=>by
    induction h with
    |nil=>exact λi hi=>absurd hi (bK2 _)
    |cons h0 _ ih=>
     intro i hi;cases i with
     |zero=>exact⟨_,rfl,h0⟩
     |succ i=>exact ih i (bId hi)
   obtain⟨b,e,hb⟩:=this hp i hi;exact⟨b,e,by rw[dC (w.tup hb)];exact hb⟩
 .cases h2
end
open Builtin
abbrev aR7(h:Heap)(z TI TO a:Addr)(f:Bool):Prop:=h.get? z=some {cls:=.type "zip",dict:=none,data:=.fields #[rawInt a,.bool f,.bool false,.ref TI,.ref TO],slots := #[]}
section
variable{w:World}{A:Around} {z TI TO i1 i2 l1 l2:Addr} {f:Bool} {k:Nat} {xs:Array Value} {x:Value}
def aPi{Q:Bool->Shared->Prop}(hz:aR7 s.heap z TI TO a f)(ha:s.heap.get? a=some oa)(q:∀h',aR7 h' z TI TO a true->Heap.SameBut z s.heap h'->Q false {s with heap:=h'}):wpAny (model prog w) A (Builtin.SmallTypes.ownedTupleIsFree (.ref z)) Q E s:=by
 unfold Builtin.SmallTypes.ownedTupleIsFree;refine bFs (bHv hz rfl (x:=rawInt a) rfl ?_);refine(?_:wpAny _ _ (loadIfAlive ((a:Int).toNat) >>= _) _ _ _);rw[bH9];refine bFs (PySem.W.kdx_alive ha ?_);simp only[Option.isNone_some,false_eq_true,if_false];refine bFs (bHv hz rfl (x:=.bool f) rfl ?_);cases f with
 |true=>
  rw[bG7 (by decide)]
  exact bFs (bFu (bFu (q s.heap hz (Heap.SameBut.refl _ _))))
 |false=>
  rw[bGa (by decide)]
  refine bFs (bI1 hz (by simp) λh₁ hz₁ hs₁=>bFu (q h₁ hz₁ hs₁))
def aY1(hz:aR7 s.heap z TI TO a f)(ha:s.heap.get? a=some oa)(hTI:IsPair s.heap TI (.ref i1) (.ref i2))(h1:s.heap.IsListIter i1 l1 k)(h2:s.heap.IsListIter i2 l2 k)(hl1:s.heap.IsList l1 xs)(hl2:s.heap.IsList l2 ys)(hx:xs[k]?=some x)(hy:ys[k]?=some y)(D:ZipApart z TI TO i1 i2 l1 l2)
  (q:∀h',aR7 h' z TI TO a true->h'.IsListIter i1 l1 (k+1)->h'.IsListIter i2 l2 (k+1)->IsPair h' s.heap.objs.size x y->h'.objs.size=s.heap.objs.size+1->(∀c o,c≠z->c≠i1->c≠i2->s.heap.get? c=some o->h'.get? c=some o)->Q (.ref s.heap.objs.size) {s with heap:=h'}) :
  wpAny (model prog w) A (Builtin.«zip.__next__» ⟨[.ref z],[]⟩) (λfin s'=>∃v,fin=.done (.ret v)/\Q v s') E s:=by
 show wpAny _ _ (field (.ref z) 2 >>= _) _ _ _;refine bFs (bHv hz rfl (x:=.bool false) rfl ?_);show wpAny _ _ (field (.ref z) 3 >>= _) _ _ _;refine bFs (bHv hz rfl (x:=.ref TI) rfl ?_);refine bFs (bHf hTI rfl ?_);show wpAny _ _ (Builtin.SmallTypes.ownedTupleIsFree (.ref z) >>= _) _ _ _;refine bFs (aPi hz ha λh₁ hz₁ hs₁=>?_)
 simp only[false_eq_true,if_false];rw[<-Array.forIn_toList];simp only[forIn_cons,forIn_nil];refine bFs (bFs (bFs (bGo ?_)));show wpAny _ _ (Builtin.SmallTypes.nextOf (.ref i1) >>= _) _ _ _;refine bFs (bJ3 (h1.extBut hs₁.extBut D.i1z) (hl1.extBut hs₁.extBut D.l1z) hx λh₂ h1₂ hs₂=>bFu (bFu ?_))
 refine bFs (bFs (bGo ?_));show wpAny _ _ (Builtin.SmallTypes.nextOf (.ref i2) >>= _) _ _ _;refine bFs (bJ3 ((h2.extBut hs₁.extBut D.i2z).extBut hs₂.extBut D.i12.symm) ((hl2.extBut hs₁.extBut D.l2z).extBut hs₂.extBut D.l2i1) hy λh₃ h2₃ hs₃=>bFu (bFu (bFu ?_)))
 have hs₁:Heap.SameBut z s.heap h₁:=hs₁;have hs₂:Heap.SameBut i1 h₁ h₂:=hs₂;have hs₃:Heap.SameBut i2 h₂ h₃:=hs₃;have hsz:h₃.objs.size=s.heap.objs.size:=by rw[hs₃.1,hs₂.1,hs₁.1]
 refine bFs (wpAny_newTuple ?_ (by show 2<=sizeLine;decide))
 refine bFu ⟨_,rfl,?_⟩;rw[hsz];exact q _ (bFt _ (hs₃.extBut _ _ D.i2z.symm (hs₂.extBut _ _ D.i1z.symm hz₁))) ((h1₂.extBut hs₃.extBut D.i12).at λo e=>bFt _ e) (h2₃.at λo e=>bFt _ e) (by rw[<-hsz];exact bG1 _ rfl) (by rw[bGp,hsz]) λc o c1 c2 c3 e=>bFt _ (hs₃.extBut _ _ c3 (hs₂.extBut _ _ c2 (hs₁.extBut _ _ c1 e)))
def bBu{Q:PySem.Fin->Shared->Prop}(hh:A.handled=none)(hz:aR7 s.heap z TI TO a f)(ha:s.heap.get? a=some oa)(hTI:IsPair s.heap TI (.ref i1) (.ref i2))(h1:s.heap.IsListIter i1 l1 k)(h2:s.heap.IsListIter i2 l2 k)(hl1:s.heap.IsList l1 xs)(hl2:s.heap.IsList l2 ys)(he:xs[k]?=none\/ys[k]?=none)(D:ZipApart z TI TO i1 i2 l1 l2)
  (q:∀h' e,(∀c o,c≠z->c≠i1->c≠i2->s.heap.get? c=some o->h'.get? c=some o)->(∃o,h'.get? e=some o/\o.cls=.type "StopIteration")->E (.ref e) {s with heap:=h'}) :
  wpAny (model prog w) A (Builtin.«zip.__next__» ⟨[.ref z],[]⟩) Q E s:=by
 show wpAny _ _ (field (.ref z) 2 >>= _) _ _ _;refine bFs (bHv hz rfl (x:=.bool false) rfl ?_);show wpAny _ _ (field (.ref z) 3 >>= _) _ _ _;refine bFs (bHv hz rfl (x:=.ref TI) rfl ?_);refine bFs (bHf hTI rfl ?_);show wpAny _ _ (Builtin.SmallTypes.ownedTupleIsFree (.ref z) >>= _) _ _ _;refine bFs (aPi hz ha λh₁ hz₁ hs₁=>?_)
 have hs₁:Heap.SameBut z s.heap h₁:=hs₁;simp only[false_eq_true,if_false];rw[<-Array.forIn_toList];simp only[forIn_cons,forIn_nil];refine bFs (bFs (bFs (bGo ?_)));show wpAny _ _ (Builtin.SmallTypes.nextOf (.ref i1) >>= _) _ _ _;cases hx:xs[k]? with
 |none=>exact bFs (bJ8 hh (h1.extBut hs₁.extBut D.i1z) (hl1.extBut hs₁.extBut D.l1z) hx λh₂ e hs₂ he=>q h₂ e (λc o c1 c2 _ x=>(show Heap.ExtBut i1 h₁ h₂ from hs₂) _ _ c2 (hs₁.extBut _ _ c1 x)) he)
 |some x=>
  refine bFs (bJ3 (h1.extBut hs₁.extBut D.i1z) (hl1.extBut hs₁.extBut D.l1z) hx λh₂ h1₂ hs₂=>bFu (bFu ?_))
  have hs₂:Heap.SameBut i1 h₁ h₂:=hs₂;refine bFs (bFs (bGo ?_));show wpAny _ _ (Builtin.SmallTypes.nextOf (.ref i2) >>= _) _ _ _;exact bFs (bJ8 hh ((h2.extBut hs₁.extBut D.i2z).extBut hs₂.extBut D.i12.symm) ((hl2.extBut hs₁.extBut D.l2z).extBut hs₂.extBut D.l2i1) (he.resolve_left (by rw[hx];exact nofun)) λh₃ e hs₃ he=>q h₃ e (λc o c1 c2 c3 x=>(show Heap.ExtBut i2 h₂ h₃ from hs₃) _ _ c3 (hs₂.extBut _ _ c2 (hs₁.extBut _ _ c1 x))) he)
end
open Builtin
def ZSt(h:Heap)(z TI TO:Addr):Prop:=IsZip h z TI TO .none\/∃a f,aR7 h z TI TO a f
def ZSt.ob{z TI TO:Addr}(x:ZSt h z TI TO):∃v0 v1,aDx h z TI TO v0 v1:=by
 rcases x with x|⟨a,f,x⟩
 .exact⟨_,_,x⟩
 .exact⟨_,_,x⟩
def ZSt.keep{z TI TO:Addr}(x:ZSt h z TI TO)(k:∀o,h.get? z=some o->h'.get? z=some o):ZSt h' z TI TO:=by
 rcases x with x|⟨a,f,x⟩
 .exact .inl (k _ x)
 .exact .inr ⟨a,f,k _ x⟩
section
variable{w:World}{A:Around} {z TI TO i1 i2 l1 l2:Addr} {k:Nat} {xs:Array Value} {x:Value}
def ZApart.two(D:ZApart z TI TO i1 i2 l2 [i1,l1])(ne:l1≠i1):ZipApart z TI TO i1 i2 l1 l2:=
 ⟨D.TIz,D.TOz,D.i1z,D.i2z,D.TITO,D.TIi1,D.TIi2,D.TOi1,D.TOi2,D.i12,λe=>D.zf (by simp[e]),λe=>D.Tf (by simp[e]),ne,λe=>D.i2f (by simp[e]),D.lz,D.lTO,D.li1,D.li2⟩
def aHh(hz:aDx s.heap z TI TO (rawInt a) f1)(ha:s.heap.get? a=none)(Q:Bool->Shared->Prop)(q:Q true s):wpAny (model prog w) A (Builtin.SmallTypes.ownedTupleIsFree (.ref z)) Q E s:=by
 unfold Builtin.SmallTypes.ownedTupleIsFree;refine bFs (bHv hz rfl (x:=rawInt a) rfl ?_);refine(?_:wpAny _ _ (loadIfAlive ((a:Int).toNat) >>= _) _ _ _);rw[bH9];have dead:∀{R:Option Obj->Shared->Prop},R none s->wpAny (model prog w) A (loadIfAlive a) R E s:=λ{R} h=>by
  have h':R (s.heap.get? a) s:=by rw[ha];exact h
  exact λ_ _ _=>h'
 refine bFs (dead ?_);exact bFu q
def aY2(hh:A.handled=none)(hz:ZSt s.heap z TI TO)(hTI:IsPair s.heap TI (.ref i1) (.ref i2))(hTO:∃u v,IsPair s.heap TO u v)(h1:s.heap.IsListIter i1 l1 k)(h2:s.heap.IsListIter i2 l2 k)(hl1:s.heap.IsList l1 xs)(hl2:s.heap.IsList l2 ys)(hx:xs[k]?=some x)(hy:ys[k]?=some y)(D:ZApart z TI TO i1 i2 l2 [i1,l1])(ne:l1≠i1)
  (q:∀h' tk,ZSt h' z TI TO->(∃u v,IsPair h' TO u v)->h'.IsListIter i1 l1 (k+1)->h'.IsListIter i2 l2 (k+1)->IsPair h' s.heap.objs.size x y->(∀c o,c≠z->c≠TO->c≠i1->c≠i2->s.heap.get? c=some o->h'.get? c=some o)->Q (.ref s.heap.objs.size) {s with heap:=h',toks:=tk}) :
  wpAny (model prog w) A (Builtin.«zip.__next__» ⟨[.ref z],[]⟩) (λfin s'=>∃v,fin=.done (.ret v)/\Q v s') E s:=by
 obtain⟨u0,v0,hTO⟩:=hTO;have fin:∀h' tk v,xs[k]?=some v->IsZip h' z TI TO (rawInt s.heap.objs.size)->IsPair h' TO v y->(h'.IsListIter i1 l1 (k+1)/\h'.IsList l1 xs)->h'.IsListIter i2 l2 (k+1)->IsPair h' s.heap.objs.size v y->h'.objs.size=s.heap.objs.size+1->(∀c o,c≠z->c≠TO->c≠i1->c≠i2->s.heap.get? c=some o->h'.get? c=some o)->Q (.ref s.heap.objs.size) {s with heap:=h',toks:=tk}:=λh' tk v e a1 a2 a3 a4 a5 _ a7=>by
  rw[hx]at e;cases e;exact q h' tk (.inr ⟨_,_,a1⟩) ⟨_,_,a2⟩ a3.1 a4 a5 a7
 have hk:k<xs.size:=(bHi.mp hx).1;rcases hz with hz|⟨a,f,hz⟩
 .exact aFj (Draws.list hh i1 l1 ne xs) D hz (zX hz) hTI hTO ⟨h1,hl1⟩ hk h2 hl2 hy fin
 .cases ha:s.heap.get? a with
  |none=>exact aFj (Draws.list hh i1 l1 ne xs) D hz (aHh hz ha) hTI hTO ⟨h1,hl1⟩ hk h2 hl2 hy fin
  |some oa=>exact aY1 hz ha hTI h1 h2 hl1 hl2 hx hy (D.two ne) λh' b1 b2 b3 b4 _ b6=>q h' s.toks (.inr ⟨_,_,b1⟩) ⟨_,_,b6 TO _ D.TOz D.TOi1 D.TOi2 hTO⟩ b2 b3 b4 λc o c1 _ c3 c4 e=>b6 c o c1 c3 c4 e
def bBv{Q:PySem.Fin->Shared->Prop}(hh:A.handled=none)(hz:ZSt s.heap z TI TO)(hTI:IsPair s.heap TI (.ref i1) (.ref i2))(hTO:∃u v,IsPair s.heap TO u v)(h1:s.heap.IsListIter i1 l1 k)(h2:s.heap.IsListIter i2 l2 k)(hl1:s.heap.IsList l1 xs)(hl2:s.heap.IsList l2 ys)(he:xs[k]?=none\/ys[k]?=none)(D:ZApart z TI TO i1 i2 l2 [i1,l1])(ne:l1≠i1)
  (q:∀h' e tk,(∀c o,c≠z->c≠TO->c≠i1->c≠i2->s.heap.get? c=some o->h'.get? c=some o)->(∃o,h'.get? e=some o/\o.cls=.type "StopIteration")->E (.ref e) {s with heap:=h',toks:=tk}) :
  wpAny (model prog w) A (Builtin.«zip.__next__» ⟨[.ref z],[]⟩) Q E s:=by
 obtain⟨u0,v0,hTO⟩:=hTO;have hend:(∀(s:Shared)(Q:Value->Shared->Prop)(E:Value->Shared->Prop),(s.heap.IsListIter i1 l1 k/\s.heap.IsList l1 xs)->(∀h' e,Heap.ExtBut i1 s.heap h'->(∃o,h'.get? e=some o/\o.cls=.type "StopIteration")->E (.ref e) {s with heap:=h'})->wpAny (model prog w) A (Builtin.SmallTypes.nextOf (.ref i1)) Q E s)\/(k<xs.size/\ys[k]?=none):=by
  cases hx:xs[k]? with
  |none=>exact .inl λs Q E st hE=>aV8 hh st.1 st.2 hx hE
  |some x=>exact .inr ⟨(bHi.mp hx).1,he.resolve_left (by rw[hx];exact nofun)⟩
 rcases hz with hz|⟨a,f,hz⟩
 .exact aJ1 (Draws.list hh i1 l1 ne xs) hh D hz (zX hz) hTI hTO ⟨h1,hl1⟩ h2 hl2 hend q
 .cases ha:s.heap.get? a with
  |none=>exact aJ1 (Draws.list hh i1 l1 ne xs) hh D hz (aHh hz ha) hTI hTO ⟨h1,hl1⟩ h2 hl2 hend q
  |some oa=>exact bBu hh hz ha hTI h1 h2 hl1 hl2 he (D.two ne) λh' e b1 b2=>q h' e s.toks (λc o c1 _ c3 c4 x=>b1 c o c1 c3 c4 x) b2
end
end Pu
namespace Pu
open PySem PySem.Calls PyProof.Rows PySem.Spec
open Builtin
section
variable{prog:Program}{w:World}{A:Around}{E:Value->Shared->Prop}{s:Shared}{z TI TO i1 i2 l1 l2 S:Addr}{xs ys:Array Value}
structure ZW(h:Heap)(z TI TO i1 i2 l1 l2 S:Addr)(xs ys:Array Value)(k:Nat):Prop where
 st:ZSt h z TI TO
 ti:IsPair h TI (.ref i1) (.ref i2)
 to:∃u v,IsPair h TO u v
 a:h.IsListIter i1 l1 k
 b:h.IsListIter i2 l2 k
 la:h.IsList l1 xs
 lb:h.IsList l2 ys
theorem ZW.keep{h h':Heap}{k:Nat}(x:ZW h z TI TO i1 i2 l1 l2 S xs ys k)(hS:S∉[z,TI,TO,i1,i2,l1,l2])(kp:∀b o,b≠S->h.get? b=some o->h'.get? b=some o):ZW h' z TI TO i1 i2 l1 l2 S xs ys k:=by
 simp only[mem_cons,not_mem_nil,or_false,not_or]at hS;obtain⟨s1,s2,s3,s4,s5,s6,s7⟩:=hS;obtain⟨u,v,t⟩:=x.to;exact⟨x.st.keep λo e=>kp z o (bHx s1) e,kp _ _ (bHx s2) x.ti,⟨u,v,kp _ _ (bHx s3) t⟩,x.a.at λo e=>kp _ o (bHx s4) e,x.b.at λo e=>kp _ o (bHx s5) e,x.la.at λo e=>kp _ o (bHx s6) e,x.lb.at λo e=>kp _ o (bHx s7) e⟩
def aY3{k:Nat}{x:Value}{Q:Option Value->Shared->Prop}(hh:A.handled=none)(W:ZW s.heap z TI TO i1 i2 l1 l2 S xs ys k)(D:ZApart z TI TO i1 i2 l2 [i1,l1])(ne:l1≠i1)(hx:xs[k]?=some x)(hy:ys[k]?=some y)
  (q:∀h' tk,ZW h' z TI TO i1 i2 l1 l2 S xs ys (k+1)->IsPair h' s.heap.objs.size x y->(∀c o,c≠z->c≠TO->c≠i1->c≠i2->s.heap.get? c=some o->h'.get? c=some o)->Q (some (.ref s.heap.objs.size)) {s with heap:=h',toks:=tk}):wpAny (model prog w) A (pyNext (.ref z)) Q E s:=by
 obtain⟨v0,v1,hzg⟩:=W.st.ob;have hzt:s.TypeIs (.ref z) "zip":=⟨_,hzg,rfl⟩;unfold pyNext;refine bFs (bI5 (bH4 (name:=Str.ofString "__next__") hzt bHb (bH2 bHb hzt bJ4
  (aY2 (A:=A.in1) hh W.st W.ti W.to W.a W.b W.la W.lb hx hy D ne λh' tk b1 b2 b3 b4 b5 hk=>bFu (q h' tk ⟨b1,hk _ _ D.TIz D.TITO D.TIi1 D.TIi2 W.ti,b2,b3,b4,?_,?_⟩ b5 hk)) (bJt _))))
 .have Z:=D.two ne;exact W.la.at λo e=>hk _ o Z.l1z Z.l1TO Z.l1i1 Z.l1i2 e
 .exact W.lb.at λo e=>hk _ o D.lz D.lTO D.li1 D.li2 e
def bBw{k:Nat}{Q:Option Value->Shared->Prop}(hh:A.handled=none)(W:ZW s.heap z TI TO i1 i2 l1 l2 S xs ys k)(D:ZApart z TI TO i1 i2 l2 [i1,l1])(ne:l1≠i1)(he:xs[k]?=none\/ys[k]?=none)
  (q:∀h' tk,(∀c o,c≠z->c≠TO->c≠i1->c≠i2->s.heap.get? c=some o->h'.get? c=some o)->Q none {s with heap:=h',toks:=tk}):wpAny (model prog w) A (pyNext (.ref z)) Q E s:=by
 obtain⟨v0,v1,hzg⟩:=W.st.ob;have hzt:s.TypeIs (.ref z) "zip":=⟨_,hzg,rfl⟩;unfold pyNext;refine bFs (bI5 (bH4 (name:=Str.ofString "__next__") hzt bHb (bH2 bHb hzt bJ4
  (bBv (A:=A.in1) hh W.st W.ti W.to W.a W.b W.la W.lb he D ne λh' e tk hk he=>?_) (bJt _))))
 obtain⟨o,ho,hce⟩:=he;refine bFs (bIz (T:="StopIteration") (b:=true) ⟨o,ho,hce⟩ bK5 ?_);exact bFu (q h' tk hk)
def aY4(h:Heap)(lo:Addr)(xs ys:Array Value)(as:List Addr):Prop:=as.Nodup/\∀(j:Nat)(a:Addr),as[j]?=some a->lo<a/\∃x y,xs[j]?=some x/\ys[j]?=some y/\IsPair h a x y
def aY5{R:Result->Shared->Prop}(hh:A.handled=none)(D:ZApart z TI TO i1 i2 l2 [i1,l1])(ne:l1≠i1)(hS:S∉[z,TI,TO,i1,i2,l1,l2])(hn:min xs.size ys.size<=sizeLine)(lo:Addr)(hlo:∀b∈[z,TO,i1,i2,S],b<=lo)(res:Value){h₁:Heap}
  (hR:∀h' tk acc c as,(∀b o,b∉[S,z,TO,i1,i2]->h₁.get? b=some o->h'.get? b=some o)->h'.get? S=some {cls:=.type "list",dict:=none,data:=.seq acc c,slots := #[]}->as.length=min xs.size ys.size->aY4 h' lo xs ys as->acc.toList=as.map Value.ref->R (.ok (.ret res)) {s with heap:=h',toks:=tk}) :
  ∀(k i:Nat)(h:Heap)(tk c:Nat)(acc:Array Value)(as:List Addr),min xs.size ys.size-i=k->i<=min xs.size ys.size->ZW h z TI TO i1 i2 l1 l2 S xs ys i->(∀b o,b∉[S,z,TO,i1,i2]->h₁.get? b=some o->h.get? b=some o)->
   h.get? S=some {cls:=.type "list",dict:=none,data:=.seq acc c,slots := #[]}->acc.toList=as.map Value.ref->as.length=i->aY4 h lo xs ys as->lo<h.objs.size->
   codeAny (model prog w) A (.builtin "list.extend.loop" ⟨[.ref S,.ref z,res],[]⟩) R {s with heap:=h,toks:=tk}:=by
 have far:∀{b:Addr},lo<b->b≠z/\b≠TO/\b≠i1/\b≠i2/\b≠S:=λ{b} hb=>by
  refine⟨?_,?_,?_,?_,?_⟩ <;> (rintro rfl;exact absurd (hlo _ (by simp)) (Nat.not_le_of_lt hb))
 have sS:S≠z/\S≠TO/\S≠i1/\S≠i2:=by
  simp only[mem_cons,not_mem_nil,or_false,not_or]at hS;exact⟨hS.1,hS.2.2.1,hS.2.2.2.1,hS.2.2.2.2.1⟩
 have off:∀{b:Addr},b∉[S,z,TO,i1,i2]->b≠S/\b≠z/\b≠TO/\b≠i1/\b≠i2:=λ{b} hb=>by
  simpa only[mem_cons,not_mem_nil,or_false,not_or] using hb
 intro k
 induction k with
 |zero=>
  intro i h tk c acc as hk hi W hkeep hSo hacc hal hG hsz;refine bHd bL1 ?_
  rw[bH3 bHm _];refine(?_:wpAny _ A.in1 (pyNext (.ref z) >>= _) _ _ _);refine bFs (bBw (s:={s with heap:=h,toks:=tk}) (A:=A.in1) hh W D ne (by
   by_cases hx:xs.size<=i
   .exact .inl (bJy hx)
   .exact .inr (bJy (by omega))) λh' tk' he=>?_)
  refine bFu (hR h' tk' acc c as (λb o hb e=>let ⟨_,b1,b2,b3,b4⟩:=off hb;he b o b1 b2 b3 b4 (hkeep b o hb e)) (he S _ sS.1 sS.2.1 sS.2.2.1 sS.2.2.2 hSo) (by omega) ⟨hG.1,λj a hj=>?_⟩ hacc)
  obtain⟨g1,x,y,g2,g3,g4⟩:=hG.2 j a hj;obtain⟨f1,f2,f3,f4,_⟩:=far g1;exact⟨g1,x,y,g2,g3,he a _ f1 f2 f3 f4 g4⟩
 |succ k ih=>
  intro i h tk c acc as hk hi W hkeep hSo hacc hal hG hsz;have hx:xs[i]?=some xs[i]:=bGi (by omega)
  have hy:ys[i]?=some ys[i]:=bGi (by omega)
  have hac:acc.size=i:=by rw[<-bIx,hacc,bG6,hal]
  refine bHd bL1 ?_
  rw[bH3 bHm _];refine(?_:wpAny _ A.in1 (pyNext (.ref z) >>= _) _ _ _);refine bFs (aY3 (s:={s with heap:=h,toks:=tk}) (A:=A.in1) (S:=S) hh W D ne hx hy λh' tk' W' ht hkp=>?_)
  dsimp only at ht hkp ⊢;have hS':=hkp S _ sS.1 sS.2.1 sS.2.2.1 sS.2.2.2 hSo;have up:∀b o,b≠S->h'.get? b=some o->(h'.update S (Obj.mapSeq (·.push (Value.ref h.objs.size)))).get? b=some o:=λb o hb e=>(bGv _ _ (bHx hb)).trans e
  have nS:h.objs.size≠S:=bJ6 (bG2 hSo);refine(?_:wpAny _ A.in1 (updateSeq S (·.push (Value.ref h.objs.size)) >>= _) _ _ _);refine bFs (bHy hS' rfl (bFu ⟨bHt bHm _,ih (i+1) _ tk' _ (acc.push (Value.ref h.objs.size)) (as++[h.objs.size]) (by omega) (by omega) (W'.keep hS up)
   (λb o hb e=>let ⟨b0,b1,b2,b3,b4⟩:=off hb;up b o b0 (hkp b o b1 b2 b3 b4 (hkeep b o hb e))) (bGz _ hS' rfl) (by rw[toList_push,hacc,bGw];rfl) (by rw[bGg,hal];rfl) ⟨?_,λj a hj=>?_⟩ ?_⟩) (by rw[hac];omega) (by show (acc.push (Value.ref h.objs.size)).size<=sizeLine+1;rw[Array.size_push,hac];omega))
  .refine bI8.mpr ⟨hG.1,by simp,λa ha b hb=>?_⟩
   rw[bFz.mp hb];obtain⟨j,hj⟩:=bH6.mp ha;obtain⟨_,_,_,_,_,g4⟩:=hG.2 j a hj;exact bGb (bG2 g4)
  .rcases bHg j as.length with h1|h1|h1
   .rw[bH5 h1]at hj;obtain⟨g1,x,y,g2,g3,g4⟩:=hG.2 j a hj;obtain⟨f1,f2,f3,f4,f5⟩:=far g1;exact⟨g1,x,y,g2,g3,up a _ f5 (hkp a _ f1 f2 f3 f4 g4)⟩
   .subst h1;have hb:h.objs.size=a:=by simpa using hj
    subst hb;exact⟨hsz,_,_,by rw[hal];exact hx,by rw[hal];exact hy,up _ _ nS ht⟩
   .have hnone:(as++[h.objs.size])[j]?=none:=bHn (by rw[bGg,bHc];omega)
    rw[hnone]at hj;cases hj
  .have e:(h'.update S (Obj.mapSeq (·.push (Value.ref h.objs.size)))).get? h.objs.size=_:=up _ _ nS ht;exact bJm hsz (bG2 e)
def aVc:typeLookup (.type "zip") "__len__"=pure none:=by rw[bJu,bIg];kernel_rfl
def aR8:typeLookup (.type "zip") "__length_hint__"=pure none:=by rw[bJu,bIg];kernel_rfl
def aVd{Q:Bool->Shared->Prop}(hT:s.TypeIs (.ref z) "zip")(q:Q true s):wpAny (model prog w) A (Builtin.List.listLengthHint (.ref z)) Q E s:=by
 unfold Builtin.List.listLengthHint;refine bFs (bJr hT aVc ?_)
 wp_delta
 refine bFs (bJr hT aR8 ?_);exact bFu q
def aY6{R:Result->Shared->Prop}(hh:A.handled=none)(W:ZW s.heap z TI TO i1 i2 l1 l2 S xs ys 0)(D:ZApart z TI TO i1 i2 l2 [i1,l1])(ne:l1≠i1)(hS:S∉[z,TI,TO,i1,i2,l1,l2])(hn:min xs.size ys.size<=sizeLine)(hlo:∀b∈[z,TO,i1,i2],b<S)(hSo:s.heap.get? S=some {cls:=.type "list",data:=.seq #[]})
  (hR:∀h' tk acc c as,(∀b o,b∉[S,z,TO,i1,i2]->s.heap.get? b=some o->h'.get? b=some o)->h'.get? S=some {cls:=.type "list",dict:=none,data:=.seq acc c,slots := #[]}->as.length=min xs.size ys.size->aY4 h' S xs ys as->acc.toList=as.map Value.ref->R (.ok (.ret .none)) {s with heap:=h',toks:=tk}) :
  wpAny (model prog w) A.in1 (Builtin.«list.__init__» ⟨[.ref S,.ref z],[]⟩)
   (λfin s'=>match fin with|.done f=>R (.ok f) s'|.again c'=>c'.quiet=true/\codeAny (model prog w) A c' R s') (λe s'=>R (.error e) s') s:=by
 refine(?_:wpAny _ _ (do let old <- Builtin.List.listItems (.ref S);Builtin.List.listUpdate (.ref S) (λ_ => #[]);letGo old.toList.reverse;Builtin.List.listExtendWith (.ref S) (.ref z) .none) _ _ s)
 refine bFs ?_
 unfold Builtin.List.listItems;refine bFs (bHf hSo rfl (bFu ?_));refine(?_:wpAny _ _ (updateSeq S (λ_ => #[]) >>= λ_=>letGo (#[]:Array Value).toList.reverse >>= λ_=>Builtin.List.listExtendWith (.ref S) (.ref z) .none) _ _ s)
 refine bFs (bHy hSo rfl (bFs (bJl ?_)));have hS₁:=bGz (Obj.mapSeq (λ_=>(#[]:Array Value))) hSo rfl
 have o1:∀b o,b≠S->s.heap.get? b=some o->(s.heap.update S (Obj.mapSeq (λ_=>(#[]:Array Value)))).get? b=some o:=λb o hb e=>(bGv _ _ (bHx hb)).trans e
 generalize s.heap.update S (Obj.mapSeq (λ_=>(#[]:Array Value)))=h₁ at hS₁ o1
 have W₁:=W.keep hS o1;obtain⟨v0,v1,hzg⟩:=W₁.st.ob;have hzt:Shared.TypeIs {s with heap:=h₁} (.ref z) "zip":=⟨_,hzg,rfl⟩
 have zS:S≠z:=λe=>hS (by simp[e])
 unfold Builtin.List.listExtendWith;refine bFs (wpAny_typeOf (T:="zip") hzt ?_);simp only[show Builtin.List.listSameRef (.ref S) (.ref z)=false by simp[Builtin.List.listSameRef,zS],show (Value.type "zip" == Value.type "list")=false by decide,show (Value.type "zip" == Value.type "tuple")=false by decide,Bool.or_false,false_eq_true,if_false]
 refine bFs (bK3 hzt bM4 (bH2 bM4 hzt PySem.F.entry_zip_iter ((bFu ⟨_,rfl,"zip",_,hzt,bHb.lookup,?_⟩:wpAny _ _ (ret (.ref z)) _ _ _)) (PySem.F.args_zip_iter_1 _)));refine bFs (bGo (aVd hzt ?_));rw[Bool.true_or,bGa rfl];refine bFs (bK1 (bFs ?_));refine(?_:wpAny _ _ (updateSeq S (·.push .none) >>= λ_=>updateSeq S (·.pop)) _ _ _)
 refine bFs (bHy hS₁ rfl ?_);have hS₂:=bGz (Obj.mapSeq (·.push Value.none)) hS₁ rfl;refine bHy (hz:=by seq_fits) hS₂ rfl ?_
 have hS₃:=bGz (Obj.mapSeq (·.pop)) hS₂ rfl;have o3:∀b o,b≠S->h₁.get? b=some o->((h₁.update S (Obj.mapSeq (·.push Value.none))).update S (Obj.mapSeq (·.pop))).get? b=some o:=λb o hb e=>(bGv _ _ (bHx hb)).trans ((bGv _ _ (bHx hb)).trans e)
 refine bFu ⟨bHt bHm _,aY5 (s:=s) (h₁:=s.heap) hh D ne hS hn S (λb hb=>?_) .none (λh' tk acc c as hk' hS' hl hG hacc=>hR h' tk acc c as hk' hS' hl hG hacc)
  (min xs.size ys.size) 0 _ _ _ #[] [] (bMk _) (bHp _) (W₁.keep hS o3) (λb o hb e=>?_) hS₃ rfl rfl ⟨bMd,λj a hj=>by simp at hj⟩ (bG2 hS₃)⟩
 .simp only[mem_cons,not_mem_nil,or_false]at hb;rcases hb with rfl|rfl|rfl|rfl|rfl
  .exact bJ5 (hlo _ (by simp))
  .exact bJ5 (hlo _ (by simp))
  .exact bJ5 (hlo _ (by simp))
  .exact bJ5 (hlo _ (by simp))
  .exact bG4 _
 .have hbS:b≠S:=λz=>hb (by simp[z])
  exact o3 b o hbS (o1 b o hbS e)
def aY7(hh:A.handled=none)(W:∀S,ZW s.heap z TI TO i1 i2 l1 l2 S xs ys 0)(D:ZApart z TI TO i1 i2 l2 [i1,l1])(ne:l1≠i1)(hn:min xs.size ys.size<=sizeLine)
  (q:∀h' tk acc c as,(∀b o,b∉[z,TO,i1,i2]->s.heap.get? b=some o->h'.get? b=some o)->h'.get? s.heap.objs.size=some {cls:=.type "list",dict:=none,data:=.seq acc c,slots := #[]}->as.length=min xs.size ys.size->aY4 h' s.heap.objs.size xs ys as->acc.toList=as.map Value.ref->Q (.ref s.heap.objs.size) {s with heap:=h',toks:=tk}) :
  wpAny (model prog w) A (call (.type "list") [.ref z]) Q E s:=by
 refine callType_codes (Q₁:=λobj s₁=>obj=.ref s.heap.objs.size/\s₁={s with heap:=s.heap.push {cls:=.type "list",data:=.seq #[]} }) PySem.F.called_list (PySem.F.typeCall_list_1 _) PySem.F.entry_list_init (code_list_new _ ⟨rfl,rfl⟩) λobj s₁ h₁=>?_
 obtain⟨rfl,rfl⟩:=h₁;have hSo:(s.heap.push {cls:=.type "list",data:=.seq #[]}).get? s.heap.objs.size=some {cls:=.type "list",data:=.seq #[]}:=bG1 _ rfl;have lt:∀b∈[z,TI,TO,i1,i2,l1,l2],b<s.heap.objs.size:=λb hb=>by
  have W:=W 0;obtain⟨_,_,w1⟩:=W.st.ob;obtain⟨_,_,w3⟩:=W.to;obtain⟨_,w4,_⟩:=W.a;obtain⟨_,w5,_⟩:=W.b;obtain⟨_,w6,_⟩:=W.la;obtain⟨_,w7,_⟩:=W.lb;simp only[mem_cons,not_mem_nil,or_false]at hb;rcases hb with rfl|rfl|rfl|rfl|rfl|rfl|rfl
  .exact bG2 w1
  .exact bG2 W.ti
  .exact bG2 w3
  .exact bG2 w4
  .exact bG2 w5
  .exact bG2 w6
  .exact bG2 w7
 have hS:s.heap.objs.size∉[z,TI,TO,i1,i2,l1,l2]:=λe=>absurd (lt _ e) (bH0 _)
 refine⟨⟨_,hSo,rfl⟩,PySem.F.args_list_init_2 _ _,aY6 (A:=A.in1) (S:=s.heap.objs.size) hh ((W _).keep hS λb o _ e=>bFt _ e) D ne hS hn (λb hb=>lt b ?_) hSo λh' tk acc c as hk hS' hl hG hacc=>⟨rfl,q h' tk acc c as (λb o hb e=>hk b o (λz=>?_) (bFt _ e)) hS' hl hG hacc⟩⟩
 .simp only[mem_cons,not_mem_nil,or_false]at hb ⊢;rcases hb with h|h|h|h<;>simp[h]
 .rcases bG0.mp z with z|z
  .exact absurd (bG2 e) (by rw[z];exact bH0 _)
  .exact hb z
end
end Pu
namespace Pu
open PySem PySem.Spec PyProof.Rows L2
open Builtin
theorem aFl{K:Frag}{H:Hp}:∀{zs ws:List D}{us vs:List V}(ps:List Addr),bD K H zs us->bD K H ws vs->ps.length=min us.length vs.length->(∀(j:Nat)(a:Addr),ps[j]?=some a->∃x y,us[j]?=some x/\vs[j]?=some y/\H a=some (.tup [x,y]))->bD K H (aG3 zs ws) (ps.map V.ref)
 |[],ws,us,vs,ps,r,_,hl,_=>by
  rw[cH.mp r,length_nil,Nat.zero_min]at hl;rw[bHh.mp hl,aG3];exact .nil
  exact λ_ _ _ _ z=>by cases z
 |z::zs,[],us,vs,ps,_,r,hl,_=>by
  rw[cH.mp r,length_nil,Nat.min_zero]at hl;rw[bHh.mp hl,aG3];exact .nil
  exact λ_ _ _ _ _ z=>by cases z
 |z::zs,w::ws,us,vs,ps,r1,r2,hl,h=>by
  obtain⟨u,us,rfl,a1,r1⟩:=bJ.mp r1;obtain⟨v,vs,rfl,a2,r2⟩:=bJ.mp r2;cases ps with
  |nil=>simp at hl
  |cons a ps=>
   obtain⟨x,y,e1,e2,e3⟩:=h 0 a rfl;cases e1;cases e2;refine .cons (lY.mpr ⟨a,_,rfl,e3,.cons a1 (.cons a2 .nil)⟩) (aFl ps r1 r2 (by simp at hl;omega) λj b hj=>?_)
   obtain⟨x,y,e1,e2,e3⟩:=h (j+1) b (by simpa using hj)
   exact⟨x,y,by simpa using e1,by simpa using e2,e3⟩
section
variable {a b:Expr}
def aPj(hml:X.mg "list"=none)(hm:X.mg "zip"=none)(hc:X.calm=true)(ha:PE X a (tI X.K B f))(hb:PE X b (tI X.K B g))(hgl:Gl X "list":=by rfl)(hg:Gl X "zip":=by rfl)(hs:starEach [a,b] X.env=(false,eval a X.env)::starEach [b] X.env:=by rfl)(hs2:starEach [b] X.env=[(false,eval b X.env)]:=by rfl)
  (hs0:starEach [.Call (.Name "zip" p1) [a,b] [] p2] X.env=(false,eval (.Call (.Name "zip" p1) [a,b] [] p2) X.env)::starEach [] X.env:=by rfl):PE X (.Call (.Name "list" p0) [.Call (.Name "zip" p1) [a,b] [] p2] [] pos) (tI X.K B (e2 aGq f g)):=by
 intro pins s σ H Rq I ⟨A,st,d,rs,hd,q⟩;obtain⟨x,hx,h2⟩:=R.ok_of hd;obtain⟨y,hy,h3⟩:=R.ok_of h2;unfold aGq at h3;split at h3
 rotate_left
 .cases h3
 rename_i zs ws;cases h3;refine bHz (sY I hgl hml (by rfl) (bHa ?_ hs0 rfl))
 rw[hs0];refine Calls.spliced_cons ?_
 refine bHz (sY I hg hm boot_zip (bHa (thn ((cT ha (cT hb gC hs2) hs) p2 pins s σ H (λvs H1=>∃v w,vs=[v,w]/\bC H H1/\Rep X.K (hide (A++B) H1) (.lst zs) v/\Rep X.K (hide (A++B) H1) (.lst ws) w) I ⟨A,st,_,rs,hx,λv H1 s1 r1=>⟨A,st,_,rs.mono s1,hy,λw H2 s2 r2=>⟨v,w,rfl,s1.trans s2,r1.mono (bC.hide s2),r2⟩⟩⟩) λus s1 ⟨vs,H1,I1,r1,v,w,hv,sm,rv,rw'⟩=>?_) hs (by rw[hs2];rfl)))
 subst hv;obtain⟨l,ts,rfl,hq,rr⟩:=fB.mp rw';obtain⟨l1,ts1,rfl,hq1,rr1⟩:=fB.mp rv;obtain rfl:us=[.ref l1,.ref l]:=by
  cases r1 with
  |cons ra rb=>cases rb with
   |cons rb rc=>cases rc;rw[show _=Value.ref l1 from ra,show _=Value.ref l from rb]
 obtain⟨its1,rvv1,pl1,hz1⟩:=I1.list ((aX _ _).seq hq1);have hlt1:l1<s1.heap.objs.size:=let ⟨o,e,_⟩:=pl1.isList;bG2 e;obtain⟨its,rvv,pl,hz⟩:=I1.list ((aX _ _).seq hq);have hlt:l<s1.heap.objs.size:=let ⟨o,e,_⟩:=pl.isList;bG2 e;refine aR4 pl1.isList pl.isList λh1 hz' hTI hTO hit1 hit2 hsz hk1=>?_
 refine Calls.spliced_nil ?_
 have e1:=rvv1.length;have e2':=rvv.length;refine aY7 (s:={s1 with heap:=h1}) (I1.ok.hd hc) (λS=>⟨.inl hz',hTI,⟨_,_,hTO⟩,hit1,hit2,pl1.isList.at λo e=>hk1 _ o e,pl.isList.at λo e=>hk1 _ o e⟩) (aL9 hlt hlt1) (bGb hlt1) (by simp;omega) λh' tk acc c as hk hS hl hG hacc=>?_
 have hl':as.length=min ts1.length ts.length:=by rw[hl];simp[e1,e2']
 have lo:∀a∈as,h1.objs.size<a:=λa ha=>let ⟨j,hj⟩:=bH6.mp ha;(hG.2 j a hj).1
 have nn:∀a∈as,H1 a=none:=λa ha=>I1.hok.fresh (by have:=lo a ha;omega)
 let G:Hp:=λb=>if b∈as then ((ts1.zip ts)[as.idxOf b]?).map (λp=>.tup [p.1,p.2]) else H1 b
 have sG:bC H1 G:=λb o e=>by
  show (if b∈as then _ else H1 b)=_
  rw[bG7 λz=>by rw[nn b z]at e;cases e]
  exact e
 have gN:G h1.objs.size=none:=by
  show (if _∈as then _ else H1 _)=_
  rw[bG7 λz=>bH0 _ (lo _ z)]
  exact I1.hok.fresh (by omega)
 have gA:∀(j:Nat)(a:Addr),as[j]?=some a->∃x y,ts1[j]?=some x/\ts[j]?=some y/\G a=some (.tup [x,y]):=λj a e=>by
  have hj:=(bFy.mp e).1;have g1:j<ts1.length:=by omega
  have g2:j<ts.length:=by omega
  refine⟨ts1[j],ts[j],bFv g1,bFv g2,?_⟩;show (if a∈as then _ else H1 a)=_
  rw[bGa (bGt e)];obtain⟨hj,ej⟩:=bFy.mp e;rw[<-ej,hG.1.idxOf_getElem j hj,bFv (by simp;omega)]
  simp
 have I2:Inv X pins σ (upd G h1.objs.size (.lst (as.map V.ref))) {s1 with heap:=h',toks:=tk}:=by
  refine aV7 (t':=tk) I1 (λb u e=>hk b u (λz=>?_) (hk1 b u e)) (sG.trans (cI gN)) (λb hb=>?_) (λa o ha e=>?_)
  .have:=bG2 e;simp only[mem_cons,not_mem_nil,or_false]at z;rcases z with rfl|rfl|rfl|rfl<;>first|exact absurd this (bH0 _)|exact absurd this (Nat.not_lt.mpr (bKb _ _))
  .have hb':b<h1.objs.size:=bG9 hb (by rw[hsz];exact bKb _ _)
   rw[bB (bGb hb')];show (if b∈as then _ else H1 b)=_
   rw[bG7 λz=>bH0 _ (bJm hb' (lo _ z))]
  .by_cases hb:a=h1.objs.size
   .subst hb;rw[bT]at e;cases e;refine⟨by rw[bG6,hl'];omega,acc.toList,c,by rw[hacc];exact aD2 as,by simpa using hS⟩
   .rw[bB hb]at e;have ha':a∈as:=by
     refine bIk λz=>?_
     have e':(if a∈as then ((ts1.zip ts)[as.idxOf a]?).map (λp=>HO.tup [p.1,p.2]) else H1 a)=some o:=e
     rw[bG7 z,ha]at e';cases e'
    obtain⟨j,hj⟩:=bH6.mp ha';obtain⟨x,y,e1,e2,e3⟩:=gA j a hj;obtain⟨_,x',y',f1,f2,f3⟩:=hG.2 j a hj;rw[e3]at e;cases e;obtain⟨x2,g1,g2⟩:=rvv1.get e1;obtain⟨y2,g3,g4⟩:=rvv.get e2;rw[bJi,g1]at f1;rw[bJi,g3]at f2;obtain rfl:=bHl f1;obtain rfl:=bHl f2;exact⟨show 2<=sizeLine by decide,[_,_],.cons g2 (.cons g4 .nil),_,f3,rfl,_,rfl⟩
 exact⟨.ref h1.objs.size,_,I2,rfl,q _ _ (sm.trans (sG.trans (cI gN))) (gK (rs.own.mono (sm.trans sG)) gN (aFl as (rr1.mono (bC.hide sG)) (rr.mono (bC.hide sG)) hl' λj a hj=>let ⟨x,y,e1,e2,e3⟩:=gA j a hj;⟨x,y,e1,e2,by rw[dC ((rs.own.mono sm).free (nn a (bGt hj)))];exact e3⟩))⟩
end
section
theorem aJ2{pins:List (Addr×Obj)}{σ:LSt}{H:Hp}{s:Shared}(I:Inv X pins σ H s){x:D}:∀{ds:List D}{zs:List V}{us:List Value},bD X.K H ds zs->Vals zs us->cZ ds=true->∀(m:Nat)(h:m<us.length)(h':m<ds.length),xG X.K H x us[m]=eqD ds[m] x
 |[],zs,us,r,v,_,m,h,h'=>absurd h' (bK2 _)
 |d::ds,zs,us,r,v,p,m,h,h'=>by
  obtain⟨z,r',e,h1,h2⟩:=bJ.mp r;subst e;simp only[gH,and_eq_true]at p;cases v with
  |cons v vs=>
   cases m with
   |zero=>exact aIw I h1 v p.1
   |succ m=>exact aJ2 I h2 vs p.2 m (bId h) (bId h')
def aNc(hu:X.A.units+64<cLine):MtR X "list.index" (λx vs H Q=>∃(p:Addr)(ds:List D)(zs:List V)(y:D)(z:V)(n:Nat),x=V.ref p/\vs=[z]/\SqL X.K H p zs/\bD X.K H ds zs/\Rep X.K H y z/\ds.findIdx? (λd=>eqD d y)=some n/\ds.length<=10000000/\fZ ds<=60/\plain y=true/\cZ ds=true/\Q (.int (n:Int)) H):=by
 intro pins s σ H x vs v us Q I rx rv h;obtain⟨p,ds,zs,y,z,n,rfl,rfl,hq,rd,ry,hn,hl,hd,py,pd,q⟩:=h;obtain⟨u,rfl,ru⟩:=rv.one;obtain rfl:v=Value.ref p:=rx;obtain⟨its,rr,⟨⟨cls,dd,data,sl⟩,n0,ho,hc,_,hd'⟩,hz⟩:=I.list hq;have hlen:=rr.length;have hlen2:=rd.length;obtain⟨h1,h2,h3⟩:=List.findIdx?_eq_some_iff_getElem.mp hn;dsimp only at hc hd';subst hc hd';have hnu:n<its.length:=by omega
 refine call_meets bLk ⟨_,ho,rfl⟩ PySem.F.entry_list_index (PySem.F.args_list_index_2 _ _) (PySem.SeqAt.list_indexAt p its.toArray n0 dd sl u (xG X.K H y) n (by simpa using hnu) (by omega) ?_ λm hm hmn=>?_) ⟨ho,λw hw=>?_,?_⟩
 .rw[bMa,aJ2 I rd rr pd n hnu h1];exact h2
 .have hm':m<its.length:=by simpa using hm
  rw[bMa,aJ2 I rd rr pd m hm' (by omega)]
  have:=h3 m hmn;simpa using this
 .exact aD0 I (A:=_) ry ru py rd rr pd (by show X.A.units+1+fZ ds<cLine;omega) w (by simpa using hw)
 .exact⟨.int (n:Int),H,I.tok _,⟨_,rfl⟩,q⟩
def aR9(hu:X.A.units+64<cLine)(ho:PE X o (tP X.K B f))(ha:PA X [e] (tA X.K B r))(hbase:attributeBase o "index" X.env (eval o X.env)=eval o X.env:=by rfl)
  (hfew:((backTo cpos (starEach [e] X.env)).all (λx=>!x.1)&&(backToKw cpos (keywordEach [] X.env)).all (λx=>x.1.isSome)
   && decide (([e]:List Expr).length+([]:List Keyword).length+(if ([]:List Keyword).isEmpty then 0 else 1)<30))=true:=by rfl)
  (hline:(apos.endLine==cpos.line)=true:=by rfl) (hs:starEach [e] X.env=(false,eval e X.env)::starEach [] X.env:=by rfl) :
  PE X (.Call (.Attribute o "index" apos) [e] [] cpos) (tI X.K B (eMt aSv f r)):=by
 refine cO (aNo bJs bLk PySem.F.type_list_index (aNc hu) ho ha hbase hfew hline hs rfl) ?_
 rintro σ H Q ⟨A,st,d,rs,hd,k⟩;obtain⟨x,hx,h2⟩:=R.ok_of hd;obtain⟨xs,hxs,h3⟩:=R.ok_of h2;unfold aSv at h3;split at h3
 .rename_i ys y;obtain⟨n,hn,h5⟩:=R.ok_of h3;obtain⟨⟨c1,c2,c3,c4⟩,h6⟩:=aN h5;cases h6;refine⟨A,st,_,rs,hx,λv H1 s1 r1=>?_⟩
  obtain⟨p,vs,e1,hq,rr⟩:=r1.lst;refine⟨by rw[e1];exact .inl ⟨rfl,_,hq⟩,A,st,_,rs.mono s1,hxs,λws H2 s2 r2=>?_⟩
  obtain⟨w,rfl,rw'⟩:=aZg r2;rw[qC]at c1;exact⟨p,ys,vs,y,w,n,e1,rfl,s2.seq hq,(rr.mono (aX _ _)).mono s2,rw'.mono (aX _ _),yP hn,c1,c2,c3,c4,k _ H2 (s1.trans s2) (bN.mpr rfl)⟩
 .cases h3
end
def bEg(tk tv:TE):TE:=λσ H Q=>∀p,H p=none->tk σ (upd H p (.dT [])) λx H1=>tv σ H1 λy H2=>H2 p=some (.dT [])/\∃b k,x=.ref b/\H2 b=some (.tup (k.map kV))/\Q (.ref p) (upd H2 p (.dT [(k,y)]))
section
variable {a b:Expr} {tk tv:TE}
def aY8(hu:X.A.units+64<cLine)(hk:PE X a tk)(hv:PE X b tv):PE X (.Dict [some a] [b] pos) (bEg tk tv):=by
 intro pins s σ H Q I q;have hn:=I.hok.fresh (bG4 s.heap.objs.size);have I1:=I.laid (a:=s.heap.objs.size) (o:=.dT []) (h':=s.heap.push {cls:=.type "dict",data:=.dict #[]}) (t':=s.toks) (λ_ _ q=>bFt _ q) (bG4 _) (aJn s.heap I.big)
 rw[arm_eval_Dict,zip_pairTrees [some a] [b] X.env pos rfl rfl,dictDisplay_pairs (pairTrees [some a] [b] X.env pos) (by simp[pairTrees]) (by simp[pairTrees])]
 refine bFs (bJo (bFs ?_));unfold subDict;refine bFs (wpAny_alloc ?_);refine bFs (bGo ?_);rw[bGa (show (pairTrees [some a] [b] X.env pos).length<=15 by simp[pairTrees])]
 refine bFs (thn ((aSh (pos:=pos) hk hv aWe) pins _ σ _ (λps H2=>match ps with
  |[(x,y)]=>H2 s.heap.objs.size=some (.dT [])/\∃b k,x=.ref b/\H2 b=some (.tup (k.map kV))/\Q (.ref s.heap.objs.size) (upd H2 s.heap.objs.size (.dT [(k,y)]))
  |_=>False) I1 (q _ hn)) λws s2 ⟨ps,H2,I2,rel,q3⟩=>?_)
 cases rel with
 |nil=>exact q3.elim
 |@cons x p _ _ h t=>
  cases t with
  |cons _ _=>exact q3.elim
  |nil=>
   obtain⟨u,v⟩:=p;obtain⟨x,y⟩:=x;obtain⟨e1,b',k,e2,e3,q3⟩:=q3;subst e2;cases (show u=Value.ref b' from h.1)
   obtain⟨z,hd,xs,rel,dd⟩:=aYw I2.hok e1;cases rel;refine bGo ?_
   rw[forIn_cons];refine bFs (bFs (bFs (wpAny_dictSet_heap (hsz:=bHp _) (show X.A.units<cLine by omega) (aCb I2.hok e3) dd λh' dd' hs=>bFu ?_)))
   refine(?_:wpAny _ _ (forIn ([]:List (Value×Value)) PUnit.unit _) _ _ _);rw[forIn_nil];refine bFu (bFu (bFu ?_));obtain⟨q,es,ep,hq,h2,h3,h4,_,h5⟩:=dd';refine bFu ⟨.ref s.heap.objs.size,upd H2 s.heap.objs.size (.dT [(k,y)]),aHz (ob:=.dT [(k,y)]) I2 (by rw[e1];exact True.intro) hs ⟨q,hq⟩ ⟨show 1<=sizeLine by decide,hd,_,(KT.put (H:=H2) .nil k e3 h.2).keeps λc ys ec=>?_,q,es,ep,hq,h2,h3,h4,h5⟩,rfl,q3⟩
   rw[bB (aYq ec e1 (λz=>nomatch z))]
   exact ec
def aLb(hu:X.A.units+64<cLine)(i:Nat) (hk:PE X a (tI X.K B g)) (hv:PE X b (tI X.K B f)) (hN:X.N.Nodup) (hi:X.N[i]?=some x:=by rfl) (hx:Loc X.env.scope x:=by first|exact Or.inl rfl|exact Or.inr rfl) (hs:swapsWith (.Dict [some a] [b] dp) (some (.Name x pos')) pos.line X.env=pure false:=by rfl)
  (hf:X.fn x=true\/X.env.scope.names.lookup x=some .local:=by first|exact .inl rfl|exact .inr rfl|assumption):PS X (.Assign [.Name x pos'] (.Dict [some a] [b] dp) pos) (tS X.K B (aI6 i g f)):=jQ (aEg hN hi hx (aY8 hu hk hv) hs hf) (by
 rintro Dn σ H ⟨A,st,r,rs,hr,p⟩;obtain⟨k,hk,h2⟩:=R.ok_of hr;obtain⟨d,hd,h3⟩:=R.ok_of h2;obtain⟨⟨c1,c2⟩,h4⟩:=aN h3;cases h4;intro a ha;refine⟨A,st,k,rs.mono (cI ha),hk,λu H1 s1 r1=>⟨A,st,d,(rs.mono (cI ha)).mono s1,hd,λv H2 s2 r2=>?_⟩⟩
 have e2:H2 a=some (.dT []):=s2 _ _ (s1 _ _ bT);obtain⟨kk,b',e3,e4,e5⟩:=yR (r1.mono (aX _ _)) c1;subst e3 e4;refine⟨e2,b',kk,rfl,s2 _ _ e5,?_⟩
 let G:Hp:=λb=>if b=a then none else H2 b
 have sG:bC H G:=λb o z=>by
  have hb:b≠a:=aZ z ha;show (if b=a then none else H2 b)=_
  rw[bG7 hb];exact s2 _ _ (s1 _ _ (by rw[bB hb];exact z))
 have gN:G a=none:=bGa rfl;have eG:upd H2 a (.dT [(kk,v)])=upd G a (.dT [(kk,v)]):=by
  funext b
  by_cases hb:b=a
  .subst hb;rw[bT,bT]
  .rw[bB hb,bB hb];exact(bG7 hb).symm
 rw[eG];exact p (a::A) _ _ ((Le.of sG).trans (aIr gN)) ((rs.mono sG).setO (kk:=.d true [.tup (kk.map kW)]) i gN (.inr ⟨rfl,[(kk,v)],rfl,rfl,rfl⟩) (.cons ((aV1 c2 r2).mono aXs) .nil)))
end
end Pu
namespace Pu
open PySem
structure TI(b:Bool)(t:SetTable):Prop where
 rise:t.place.toList.Pairwise (· < ·)
 dum:t.dummies = #[]
 led:t.led=b
theorem aFm(xs:Array Nat)(j:Nat)(hr:xs.toList.Pairwise (· < ·)):∀(fuel lo hi:Nat),hi-lo<=fuel->lo<=hi->hi<=xs.size->(∀(i:Nat)(a:Nat),i<lo->xs[i]?=some a->a<j)->(∀(i:Nat)(a:Nat),hi<=i->xs[i]?=some a->j<=a)->
  (∀(i:Nat)(a:Nat),i<SetTable.below.go xs j fuel lo hi->xs[i]?=some a->a<j)/\(∀(i:Nat)(a:Nat),SetTable.below.go xs j fuel lo hi<=i->xs[i]?=some a->j<=a)/\SetTable.below.go xs j fuel lo hi<=xs.size
 |0,lo,hi,hf,hl,hs,h1,h2=>by
  have e:lo=hi:=by omega
  subst e;exact⟨h1,h2,hs⟩
 |fuel+1,lo,hi,hf,hl,hs,h1,h2=>by
  unfold SetTable.below.go;have up:∀(i k:Nat)(a b:Nat),i<k->xs[i]?=some a->xs[k]?=some b->a<b:=λi k a b hik ha hb=>by
   rw[<-bI9]at ha hb;obtain⟨hi',ei⟩:=bFy.mp ha;obtain⟨hk',ek⟩:=bFy.mp hb;have:=bIl.mp hr i k hi' hk' hik;rw[ei,ek]at this;exact this
  by_cases hlt:lo<hi
  .rw[bGa hlt];have hm:(lo+hi)/2<xs.size:=by omega
   have hx:xs[(lo+hi)/2]?=some xs[(lo+hi)/2]:=bGi hm;have hg:xs.getD ((lo+hi)/2) j=xs[(lo+hi)/2]:=by rw[bJ9,hx];rfl
   dsimp only;rw[hg]
   by_cases hc:xs[(lo+hi)/2] < j
   .rw[bGa hc];refine aFm xs j hr fuel _ _ (by omega) (by omega) hs (λi a hi' ha=>?_) h2
    by_cases he:i=(lo+hi)/2
    .subst he;rw[hx]at ha;cases ha;exact hc
    .exact bJm (up i _ a _ (by omega) ha hx) hc
   .rw[bG7 hc];refine aFm xs j hr fuel _ _ (by omega) (by omega) (by omega) h1 λi a hi' ha=>?_
    by_cases he:i=(lo+hi)/2
    .subst he;rw[hx]at ha;cases ha;omega
    .have:=up _ i _ a (by omega) hx ha;omega
  .rw[bG7 hlt];have e:lo=hi:=by omega
   subst e;exact⟨h1,h2,hs⟩
def aFn(xs:Array Nat)(j:Nat)(hr:xs.toList.Pairwise (· < ·)):(∀(i:Nat)(a:Nat),i<SetTable.below xs j->xs[i]?=some a->a<j)/\(∀(i:Nat)(a:Nat),SetTable.below xs j<=i->xs[i]?=some a->j<=a)/\SetTable.below xs j<=xs.size:=
 aFm xs j hr xs.size 0 xs.size (by omega) (bHp _) (bG4 _) (λi a h=>absurd h (bK2 _)) λi a h ha=>by
  have:=(bHi.mp ha).1;omega
def aLc(xs:Array Nat)(j:Nat)(hr:xs.toList.Pairwise (· < ·))(hn:xs[SetTable.below xs j]?≠some j):(SetTable.insertAt xs (SetTable.below xs j) j).toList.Pairwise (· < ·):=by
 obtain⟨h1,h2,h3⟩:=aFn xs j hr;have e:(SetTable.insertAt xs (SetTable.below xs j) j).toList=xs.toList.take (SetTable.below xs j)++j::xs.toList.drop (SetTable.below xs j):=by
  unfold SetTable.insertAt;simp only[Array.toList_append,toList_push,Array.toList_extract];simp[List.extract_eq_drop_take,List.append_assoc];rw[bJ2 (by simp)]
 rw[e,List.pairwise_append];have ge:∀a∈xs.toList.drop (SetTable.below xs j),j<a:=λa ha=>by
  obtain⟨k,hk⟩:=bH6.mp ha;rw[List.getElem?_drop,bI9]at hk;have:=h2 _ a (bKb _ _) hk;rcases Nat.lt_or_eq_of_le this with h|h
  .exact h
  .subst h;exfalso;have hb:SetTable.below xs j<xs.size:=by have:=(bHi.mp hk).1;omega
   have hx:xs[SetTable.below xs j]?=some xs[SetTable.below xs j]:=bGi hb;have g1:=h2 _ _ (bG4 _) hx
   by_cases hz:k=0
   .subst hz;rw[bM0]at hk;exact hn hk
   .have hk':=(bHi.mp hk);have:=bIl.mp hr (SetTable.below xs j) (SetTable.below xs j+k) (by simpa using hb) (by simpa using hk'.1) (by omega)
    rw[bMb,bMb,hk'.2]at this;omega
 refine⟨hr.sublist (List.take_sublist _ _),List.pairwise_cons.mpr ⟨ge,hr.sublist (List.drop_sublist _ _)⟩,λa ha b hb=>?_⟩
 have la:a<j:=by
  obtain⟨k,hk⟩:=bH6.mp ha;rw[List.getElem?_take]at hk;split at hk
  .rename_i hlt;rw[bI9]at hk;exact h1 k a hlt hk
  .cases hk
 rcases bG0.mp hb with rfl|hb
 .exact la
 .exact bJm la (ge b hb)
def aPk(j:Nat):SetTable.has #[] j=false:=rfl
theorem aLd(t:SetTable)(hashAt:Nat->Int)(h:Int)(hd:t.dummies = #[]):∀(fuel:Nat)(p:SetTable.Probe)(j:Nat)(d:Option Nat),SetTable.probe.go t hashAt h fuel p=some (.empty j d)->t.slot j=.empty/\d=p.dummy
 |0,p,j,d,e=>by cases e
 |fuel+1,p,j,d,e=>by
  unfold SetTable.probe.go at e;cases hs:t.slot p.j with
  |empty=>rw[hs]at e;cases e;exact⟨hs,rfl⟩
  |dummy=>
   exfalso;unfold SetTable.slot at hs;dsimp only at hs;split at hs
   .cases hs
   .rw[hd,aPk]at hs;cases hs
  |live i=>
   rw[hs]at e;dsimp only at e;have adv:(t.advance p).dummy=p.dummy:=by
    unfold SetTable.advance;split<;>rfl
   split at e
   .cases e
   .obtain⟨a,b⟩:=aLd t hashAt h hd fuel _ j d e;exact⟨a,b.trans adv⟩
def aRa{t:SetTable}{h:Int} {w:Bool} (hd:t.dummies = #[]) (e:t.freeSlot h=some (j,w)):t.slot j=.empty:=by
 unfold SetTable.freeSlot at e;split at e
 .rename_i j' d hp;obtain⟨a,b⟩:=aLd t _ h hd _ _ _ _ hp;have:d=none:=b;subst this;cases e;exact a
 .cases e
def aRb{t:SetTable} (h:t.slot j=.empty):t.place[SetTable.below t.place j]?≠some j:=λe=>by
 unfold SetTable.slot at h;dsimp only at h;rw[bGa (by rw[e];exact beq_self_eq_true _)]at h
 cases h
theorem TI.put{b:Bool}{t:SetTable}{j:Nat}(x:TI b t)(h:t.slot j=.empty):TI b (t.put j).1:=by
 refine⟨aLc t.place j x.rise (aRb h),?_,x.led⟩;show (if SetTable.has t.dummies j then _ else t.dummies)=_
 rw[x.dum,aPk];rfl
def aNd(n:Nat):(Array.range n).toList.Pairwise (· < ·):=by
 rw[Array.toList_range];exact bIa
def TI.stand{t:SetTable}(x:TI b t)(n:Nat):TI b (t.standIn n):=⟨aNd n,rfl,x.led⟩
def TI.orStand{t:SetTable}(x:TI b t)(n:Nat):TI b (t.orStandIn n):=by
 unfold SetTable.orStandIn;split
 .exact x
 .exact x.stand n
def TI.lay{t:SetTable}(x:TI b t)(es:Array (Int×Value))(h:Int)(v:Value):TI b (layNew t es h v).2.1:=by
 unfold layNew;split
 .rename_i j w e;exact(x.put (aRa x.dum e)).orStand _
 .exact x.stand _
def TI.relay{t:SetTable}(x:TI b t)(es:Array (Int×Value))(n:Nat):TI b (relayAll t es n).2.1:=by
 unfold relayAll;split
 .rename_i t' order e;have y:TI b t':=by
   unfold SetTable.relaid SetTable.laid at e;obtain⟨owner,_,e2⟩:=Option.bind_eq_some_iff.mp e;cases e2;refine⟨?_,rfl,x.led⟩;show ((List.map (λx:Nat×Nat=>x.1) (List.filterMap (λj=>Option.map (λx=>(j,x)) (owner.getD j Option.none)) (List.range (SetTable.sizeAbove n-1+1)))).toArray).toList.Pairwise (· < ·)
   rw[bJk,List.map_filterMap];refine(bIa (n:=_)).filterMap _ λa a' haa c hc c' hc'=>?_
   have h1:c=a:=by
    cases ho:(owner.getD a none) with
    |none=>rw[ho]at hc;cases hc
    |some k=>rw[ho]at hc;cases hc;rfl
   have h2:c'=a':=by
    cases ho:(owner.getD a' none) with
    |none=>rw[ho]at hc';cases hc'
    |some k=>rw[ho]at hc';cases hc';rfl
   rw[h1,h2];exact haa
  dsimp only;split
  .exact y
  .exact x.stand _
 .exact x.stand _
theorem TI.fresh(b:Bool):TI b (.fresh 0 0 b):=⟨List.Pairwise.nil,rfl,rfl⟩
def aLe(t:SetTable)(es:Array (Int×Value))(h:Int)(v:Value):(layNew t es h v).1.toList.Perm (es.toList++[(h,v)]):=by
 have p:=layNew_perm t es h v;rw[toList_push]at p;exact p
def numOf:Value->Int
 |.int n _=>n
 |_=>0
def aRc(e:Int×Value):Prop:=∃(n:Int)(t:Tok),e=(hashInt n,.int n t)
structure SetIs(b:Bool)(a:Addr)(ns:List Int)(es:Array (Int×Value))(ep:Nat)(t:SetTable)(h:Heap):Prop where
 obj:h.get? a=some {cls:=.type "set",dict:=none,data:=.set es ep t,slots := #[]}
 fit:t.fits es.size=true
 ti:TI b t
 perm:(es.toList.map λe=>numOf e.2).Perm ns
 nums:∀e∈es.toList,aRc e
def SetIs.keep{es:Array (Int×Value)} {t:SetTable} (x:SetIs b a ns es ep t h) (k:∀o,h.get? a=some o->h'.get? a=some o):SetIs b a ns es ep t h':=
 ⟨k _ x.obj,x.fit,x.ti,x.perm,x.nums⟩
theorem SetIs.size{b:Bool}{a:Addr}{ns:List Int}{es:Array (Int×Value)}{ep:Nat}{t:SetTable}{h:Heap}(x:SetIs b a ns es ep t h):es.size=ns.length:=by
 have:=x.perm.length_eq;simpa using this
def SetIs.put{ns':List Int}{es es':Array (Int×Value)} {t t':SetTable} (x:SetIs b a ns es ep t h) (fit:t'.fits es'.size=true) (ti:TI b t') (perm:(es'.toList.map λe=>numOf e.2).Perm ns') (nums:∀e∈es'.toList,aRc e) :
  SetIs b a ns' es' (ep+1) t' (h.update a (Obj.putSet es' t')):=by
 refine⟨?_,fit,ti,perm,nums⟩;rw[bGz (Obj.putSet es' t') x.obj rfl];rfl
def aJ3(ns:List Int)(k:Int):List Int:=if ns.any (· == k) then ns else ns++[k]
def aY9(ns:List Int)(k:Int):(aJ3 ns k).length<=ns.length+1:=by
 unfold aJ3;split
 .exact bLa _
 .simp
section
variable{w:World}{A:Around}
def aYa{es:List (Int×Value)}(nums:∀e∈es,aRc e):ElemsOf (intKind prog w) es:=λe he=>by
 obtain⟨n,t,rfl⟩:=nums e he;exact⟨⟨n,bM7 prog w n t,rfl⟩,rfl⟩
def aYb{es:List (Int×Value)} (nums:∀e∈es,aRc e) (perm:(es.map λe=>numOf e.2).Perm ns) (k:Int):(es.findIdx? (λe=>(intKind prog w).is k e.2)).isSome=ns.any (· == k):=by
 rw[List.findIdx?_isSome,bKl,bI3,bI3];constructor
 .rintro⟨e,he,hp⟩;obtain⟨n,t,rfl⟩:=nums e he;have en:n=k:=(intKind prog w).inj _ n k (bM7 prog w n t) hp;exact⟨n,perm.mem_iff.mp (bGc.mpr ⟨_,he,rfl⟩),bJc.mpr en⟩
 .rintro⟨n,hn,hp⟩;obtain⟨e,he,hv⟩:=bGc.mp (perm.mem_iff.mpr hn);obtain⟨n',t,rfl⟩:=nums e he;have e1:n'=n:=hv;have e2:n=k:=bJc.mp hp;refine⟨_,he,?_⟩;rw[<-e2,<-e1];exact bM7 prog w n' t
def aJ4{Q:Unit->Shared->Prop}(c:Bool)(q:Q () s):wpAny (model prog w) A (match c with|true=>rule "set.scan.the-table-gave-way"|false=>pure ()) Q E s:=by
 cases c with
 |true=>exact bK1 q
 |false=>exact bFu q
def store_ok{ns':List Int}{es es':Array (Int×Value)}{ep:Nat}{t t':SetTable}{d:Bool}{R:Option Bool->Shared->Prop}{g:Bool->Sem Unit}
  (hg:∀(c:Bool)(s₁:Shared)(Q:Unit->Shared->Prop),Q () s₁->wpAny (model prog w) A (g c) Q E s₁) (x:SetIs b a ns es ep t s.heap)
  (few:es'.size<scanBound) (fit:t'.fits es'.size=true) (ti:TI b t') (perm:(es'.toList.map λe=>numOf e.2).Perm ns') (nums:∀e∈es'.toList,aRc e)
  (r:∀(h':Heap) (es:Array (Int×Value)) (ep:Nat) (t:SetTable),Heap.SameBut a s.heap h'->SetIs b a ns' es ep t h'->R (some true) {s with heap:=h'}) :
  wpAny (model prog w) A (storeSet a es' t' >>= λ_=>if (!d&&t'.tooFull)=true then g (relayAll t' es' (SetTable.grown es'.size)).2.2 >>= λ_=>storeSet a (relayAll t' es' (SetTable.grown es'.size)).1 (relayAll t' es' (SetTable.grown es'.size)).2.1 >>= λ_=>pure (some true) else pure (some true)) R E s:=by
 have y:=x.put fit ti perm nums;have o1:=bHw s.heap a (Obj.putSet es' t');refine bFs (wpAny_storeSet_of x.obj rfl ?_ (bK4 few))
 by_cases hc:(!d&&t'.tooFull)=true
 .rw[bGa hc];have p:=relayAll_perm t' es' (SetTable.grown es'.size);have sz:(relayAll t' es' (SetTable.grown es'.size)).1.size=es'.size:=by simpa using p.length_eq
  have z:=y.put (relayAll_fits t' es' (SetTable.grown es'.size)) (ti.relay es' _) ((p.map _).trans perm) λe he=>nums e (p.mem_iff.mp he)
  exact bFs (hg _ _ _ (bFs (wpAny_storeSet_of y.obj rfl (bFu (r _ _ _ _ (o1.trans (bHw _ a _)) z)) (bK4 (by rw[sz];exact few)))))
 .rw[bG7 hc];exact bFu (r _ _ _ _ o1 y)
def bBx{es:Array (Int×Value)}{ep:Nat}{t:SetTable}{k:Int}{tk:Tok}{Q:Bool->Shared->Prop}(x:SetIs b a ns es ep t s.heap)(few:ns.length+1<scanBound)
  (q:∀(c:Bool)(h':Heap) (es:Array (Int×Value)) (ep:Nat) (t:SetTable),Heap.SameBut a s.heap h'->SetIs b a (aJ3 ns k) es ep t h'->Q c {s with heap:=h'}) :
  wpAny (model prog w) A (setAddHashed a (.int k tk) (hashInt k)) Q E s:=by
 have el:ElemsOf (intKind prog w) es.toList:=aYa x.nums;have fz:es.size<scanBound:=by rw[x.size];omega
 have fk:=aYb (prog:=prog) (w:=w) x.nums x.perm k;have nadd:∀e∈(layNew t es (hashInt k) (.int k tk)).1.toList,aRc e:=λe he=>by
  rcases bGm.mp ((aLe t es _ _).mem_iff.mp he) with he|he
  .exact x.nums e he
  .exact⟨k,tk,bFz.mp he⟩
 have padd:((layNew t es (hashInt k) (.int k tk)).1.toList.map λe=>numOf e.2).Perm (ns++[k]):=by
  have:=(aLe t es (hashInt k) (.int k tk)).map λe=>numOf e.2
  rw[bGw]at this;exact this.trans (x.perm.append_right _)
 have sadd:(layNew t es (hashInt k) (.int k tk)).1.size<scanBound:=by
  have:=padd.length_eq;simp at this;omega
 unfold setAddHashed setAddHashedIn;refine bGo (bFs (bIs x.obj rfl x.fit ?_));dsimp only;rw[bGa (byScan_of rfl fz el)];unfold setAddByScan;refine bFs (bFs (bK1 (bFs (wpAny_setScan_of (knd:=intKind prog w) (bM7 prog w k tk) x.obj rfl x.fit el ?_))));cases hr:es.toList.findIdx? (λe=>(intKind prog w).is k e.2) with
 |some j=>
  rw[hr]at fk;have:aJ3 ns k=ns:=bGa fk.symm;rw[this]at q;exact bFu (bFu (q false s.heap es ep t (Heap.SameBut.refl a s.heap) x))
 |none=>
  rw[hr]at fk;have:aJ3 ns k=ns++[k]:=by unfold aJ3;rw[<-fk];rfl
  rw[this]at q;have tl:=x.ti.lay es (hashInt k) (.int k tk);have fl:=layNew_fits t es (hashInt k) (.int k tk);generalize layNew t es (hashInt k) (.int k tk)=L at padd nadd sadd tl fl ⊢;obtain⟨es1,t1,d,gv⟩:=L;dsimp only at padd nadd sadd tl fl ⊢;refine bFs (aJ4 _ ?_)
  by_cases hp:t1.plain=true
  .rw[bGa hp];refine bFs ?_
   rw[hashByValue_scannable 8 rfl];exact bFu (store_ok (λc s₁ Q' h'=>aJ4 c h') x sadd fl tl padd nadd λh' es ep t sb y=>bFu (q true h' es ep t sb y))
  .rw[bG7 hp];exact bFs (bFu (store_ok (λc s₁ Q' h'=>aJ4 c h') x sadd fl tl padd nadd λh' es ep t sb y=>bFu (q true h' es ep t sb y)))
end
end Pu
namespace Pu
open PySem PyProof.Rows
section
variable{prog:Program}{w:World}{A:Around}{E:Value->Shared->Prop}{s:Shared}
def aJ5(val:Nat->Int):Nat->List Int
 |0=>[]
 |i+1=>aJ3 (aJ5 val i) (val i)
theorem aPl(val:Nat->Int):∀i,(aJ5 val i).length<=i
 |0=>bG4 _
 |i+1=>bGy (aY9 _ _) (Nat.succ_le_succ (aPl val i))
def iB(b:Bool)(a:Addr)(ns:List Int)(h:Heap):Prop:=∃es ep t,SetIs b a ns es ep t h
theorem iB.keep{b:Bool}{a:Addr}{ns:List Int}{h h':Heap}(x:iB b a ns h)(k:∀o,h.get? a=some o->h'.get? a=some o):iB b a ns h':=
 let ⟨es,ep,t,y⟩:=x
 ⟨es,ep,t,y.keep k⟩
def bBy{k:Int}{t:Tok}{Q:Bool->Shared->Prop}(x:iB b a ns s.heap)(few:ns.length+1<scanBound)
  (q:∀(c:Bool)(h':Heap),Heap.SameBut a s.heap h'->iB b a (aJ3 ns k) h'->Q c {s with heap:=h',toks:=s.toks+1}) :
  wpAny (model prog w) A (setAdd a (.int k t)) Q E s:=by
 obtain⟨es,ep,tb,y⟩:=x;unfold setAdd;refine bGo (bFs ((intKind prog w).pyHash (k:=k) (bM7 prog w k t) ?_));exact bBx (s:={s with toks:=s.toks+1}) y few λc h' es' ep' t' sb z=>q c h' sb ⟨es',ep',t',z⟩
variable{I:Addr}{fp wr:List Addr}{G:Array GenState->Array GenState->Prop}{n:Nat}{P:Nat->Value->Prop}{St:Nat->Shared->Prop}
def aYc(W:WalksS prog w A.in1 I fp wr G n P St){R:Result->Shared->Prop}(a:Addr)(b:Bool)(out:a∉fp)(val:Nat->Int)(isN:∀i v,P i v->∃t,v=.int (val i) t)(few:n+1<scanBound) :
  ∀(m i:Nat)(s:Shared),i+m=n->St i s->iB b a (aJ5 val i) s.heap->
   (∀s',Moved (a::wr) G s s'->iB b a (aJ5 val n) s'.heap->R (.ok (.ret .none)) s')->
   codeAny (model prog w) A (.builtin "set.update.loop" ⟨[.ref a,.ref I],[]⟩) R s:=by
 have nw:a∉wr:=λh=>out (W.sub _ h)
 have up:∀c∈wr,c∈a::wr:=λc hc=>bFw _ hc
 intro m
 induction m with
 |zero=>
  intro i s e st x r;rw[bM0]at e;subst e;refine bHd F.entry_set_update_loop ?_
  rw[bH3 bJv _];show wpAny _ A.in1 (pyNext (.ref I) >>= _) _ _ s;exact bFs (W.done s _ _ st λs' mv=>bFu (r s' (mv.mono up) (x.keep λo ho=>mv.heap a o nw ho)))
 |succ m ih=>
  intro i s e st x r;refine bHd F.entry_set_update_loop ?_
  rw[bH3 bJv _];show wpAny _ A.in1 (pyNext (.ref I) >>= _) _ _ s;refine bFs (W.item i s _ _ (by omega) st λv s' pv st' mv=>?_)
  obtain⟨t,rfl⟩:=isN i v pv;have fw:(aJ5 val i).length+1<scanBound:=by have:=aPl val i;omega
  refine bFs (bGo (bBy (x.keep λo ho=>mv.heap a o nw ho) fw λc h' sb y=>bFu ⟨bHt bJv _,?_⟩))
  have other:∀c,c≠a->h'.get? c=s'.heap.get? c:=λc hc=>sb.2 c hc
  refine ih (i+1) _ (by omega) (W.frame _ s' _ _ st' (bLa _) λc hc o ho=>?_) y λs2 mv2 z=>?_
  .rw[other c λh=>out (h ▸ hc)]
   exact ho
  .refine r s2 (Moved.trans W.gtrans ((mv.mono up).then_heap (bLa _) λc o hc ho=>?_) mv2) z
   rw[other c λh=>hc (h ▸ bFx)]
   exact ho
end
section
variable{prog:Program}{w:World}{A:Around}{E:Value->Shared->Prop}{s:Shared}
def uP(w:World):Bool:=w.params.followText "set-order"
def rA(w:World):Obj:={cls:=.type "set",dict:=none,data:=.set #[] 0 (.fresh 0 0 (!uP w)),slots := #[]}
def aYd(a:Value) (q:Q (.ref s.heap.objs.size) {s with heap:=s.heap.push (rA w)}) :
  codeAny (model prog w) A (.call (.builtin "set.__new__") ⟨[.type "set",a],[]⟩) (wants Q E) s:=by
 refine codeAny_of_tree (?_:wpAny _ A.in1 (checkBuiltinCall "set.__new__" ⟨[.type "set",a],[]⟩ >>= λ_=>again (.builtin "set.__new__" ⟨[.type "set",a],[]⟩)) _ _ s)
 refine bFs (bMf (F.newCall_set_1 a) (bFu ⟨bHt F.plain_set_new _,bHd F.entry_set_new ?_⟩));rw[bH3 F.plain_set_new _];unfold Builtin.«set.__new__» Builtin.Frozenset.newClass;have sub:=sub_set_self;obtain⟨hp,g,d,tk,os⟩:=s;dsimp only
 wp_walk
 refine bJ0 (bFu ?_);dsimp only;simp only[newObj];exact bFs (wpAny_alloc (bFu (bFu q)))
def aRd(w:World) (o:h.get? a=some (rA w)):iB (!uP w) a [] h:=
 ⟨#[],0,_,o,rfl,TI.fresh _,List.Perm.nil,λe he=>nomatch he⟩
def aYe{R:Result->Shared->Prop}(hh:A.handled=none)(o:s.heap.get? a=some (rA w))(ne:l≠a)(hl:s.heap.IsList l items)(isN:IntsAre items.toList ns)(few:items.size+1<scanBound)
  (r:∀(h':Heap)(tk:Nat),iB (!uP w) a (aJ5 (λi=>ns.getD i 0) items.size) h'->(∀b o,b≠a->s.heap.get? b=some o->h'.get? b=some o)->R (.ok (.ret .none)) {s with heap:=h',toks:=tk}) :
  wpAny (model prog w) A.in1 (Builtin.«set.__init__» ⟨[.ref a,.ref l],[]⟩) (λfin s'=>match fin with|.done f=>R (.ok f) s'|.again c'=>c'.quiet=true/\codeAny (model prog w) A c' R s') (λe s'=>R (.error e) s') s:=by
 have hT:s.TypeIs (.ref a) "set":=⟨_,o,rfl⟩;obtain⟨ol,hol,hcl,nl,hdl⟩:=id hl;obtain⟨cl,di,da,sl⟩:=ol;dsimp only at hcl hdl;subst hcl;subst hdl;have o':s.heap.get? a=some {cls:=.type "set",dict:=none,data:=.set #[] 0 (.fresh 0 0 (!uP w)),slots := #[]}:=o;have h1:=F.sub_list_set;have h2:=F.sub_list_frozenset;have h3:(Value.type "list" == Value.type "dict")=false:=by decide
 unfold Builtin.«set.__init__» noKeywords Builtin.Frozenset.updateFrom;generalize hp:pyIter=it
 wp_walk
 subst hp;refine bJe hl (bFs (wpAny_runValue ?_));have ia:a≠s.heap.objs.size:=bGb (bG2 o);have il:l≠s.heap.objs.size:=bGb (bG2 hol);have out:a∉[s.heap.objs.size,l]:=by
  intro h;rcases bG0.mp h with h|h
  .exact ia h
  .exact ne (bFz.mp h).symm
 refine aYc ((bM6 (by simp[hh]) _ l il items).toS) a (!uP w) out (λi=>ns.getD i 0) (λi v hv=>IntsAre.int_at isN i v (by rw[bI9];exact hv)) few items.size 0 _ (bMn _)
  ⟨⟨_,bG1 _ rfl,rfl,rfl⟩,hl.push _⟩ (aRd w (bFt _ o)) λs' mv x=>?_
 rw[Moved.eq_with mv];refine bFu (bFu (r s'.heap s'.toks x λb o hb ho=>mv.heap b o (λhm=>?_) (bFt _ ho)))
 rcases bG0.mp hm with h|h
 .exact hb h
 .exact absurd (bFz.mp h) (bGb (bG2 ho))
def aYf(hh:A.handled=none)(hl:s.heap.IsList l items)(isN:IntsAre items.toList ns)(few:items.size+1<scanBound)
  (q:∀(h':Heap)(tk:Nat),iB (!uP w) s.heap.objs.size (aJ5 (λi=>ns.getD i 0) items.size) h'->(∀b o,s.heap.get? b=some o->h'.get? b=some o)->Q (.ref s.heap.objs.size) {s with heap:=h',toks:=tk}) :
  wpAny (model prog w) A (call (.type "set") [.ref l]) Q E s:=by
 obtain⟨c,tl,hmro⟩:=bJa.mro;have g1:=bJa.made;have g2:=bJa.sub;have g3:=bJa.notType;have g4:=bJa.canCreate;have g5:=F.typeCall_set_1 (.ref l);refine wpAny_call (codeAny_of_tree (?_:wpAny _ _ (callAny (.type "set") _) _ _ _));refine bFu ⟨Code.quiet_builtin _ (by decide+kernel),bHd F.entry_type_call ?_⟩
 rw[Around.under_plain (weight_type_call_type "set" [.ref l] []) rfl]
 repeat (any_goals (first|assumption|wp_step))
 refine bIt (aYd (.ref l) (E:=E) (Q:=λv s₁=>v=.ref s.heap.objs.size/\s₁={s with heap:=s.heap.push (rA w)}) ⟨rfl,rfl⟩) λres s₁ hres=>?_
 match res,hres with
 |.error e,he=>exact he
 |.ok (.ret v),⟨hv,hs⟩=>
  subst hv;subst hs;have ob:(s.heap.push (rA w)).get? s.heap.objs.size=some (rA w):=bG1 _ rfl;have hT:Shared.TypeIs {s with heap:=s.heap.push (rA w)} (.ref s.heap.objs.size) "set":=⟨_,ob,rfl⟩
  have g6:=bJa.init.lookup;have g7:=bJa.init.bind (.ref s.heap.objs.size)
  repeat (any_goals (first|assumption|wp_step))
  have ne:l≠s.heap.objs.size:=let ⟨_,h,_⟩:=hl;bGb (bG2 h);refine bIt (codeAny_call_builtin (R:=wants (λr s₂=>r=.none/\Q (.ref s.heap.objs.size) s₂) E) bJa.init.plain F.entry_set_init (check_set_init_1 hT
   (aYe (by simp[hh]) ob ne (hl.push _) isN few λh' tk x k=>⟨rfl,q h' tk x λb o ho=>k b o (bGb (bG2 ho)) (bFt _ ho)⟩))) λr₂ s₂ hr₂=>?_
  match r₂,hr₂ with
  |.error e,he=>exact he
  |.ok (.ret _),⟨h0,hq⟩=>
   subst h0
   repeat (any_goals (first|assumption|wp_step))
end
theorem aAv{α:Type}:∀(xs:List α)(i:Nat)(x:α),xs[i]?=some x->(x::xs.eraseIdx i).Perm xs
 |[],_,_,h=>nomatch h
 |y::xs,0,x,h=>by cases h;exact bL2 _
 |y::xs,i+1,x,h=>by
  have:=aAv xs i x (by simpa using h)
  exact(List.Perm.swap y x _).trans (this.cons y)
theorem aHi{α:Type}(next:Nat->Nat):∀(n k:Nat)(left:List α)(out:Array α),left.length=n->(pickOrder.go next n k left out).toList.Perm (out.toList++left)
 |0,k,left,out,h=>by
  cases left with
  |nil=>rw[bJn];exact bL2 _
  |cons _ _=>cases h
 |n+1,k,left,out,h=>by
  unfold pickOrder.go;have hl:next k%left.length<left.length:=mod_lt _ (by omega)
  have e:left[next k%left.length]?=some left[next k%left.length]:=bFv hl
  rw[e];dsimp only;refine(aHi next n (k+1) _ _ (by rw[bKs hl];omega)).trans ?_
  rw[toList_push,bIq];exact(aAv left _ _ e).append_left _
def aFo(next:Nat->Nat)(xs:Array α):(pickOrder next xs).toList.Perm xs.toList:=aHi next xs.size 0 xs.toList #[] (bIx)
section
variable{w:World}{A:Around}
def aRe{s:Shared}{src:Source} {Q:Nat->Shared->Prop} (hn:n≠0) (q:∀i d,i<n->Q i {s with drawn:=d}):wpAny (model prog w) A (choose src n) Q E s:=
 λ_ _ _=>⟨hn,q _ _ (mod_lt _ (Nat.pos_of_ne_zero hn))⟩
def aYg{α:Type}(n:Nat):∀(xs:List α)(s:Shared)(Q:List α->Shared->Prop),xs.length=n->(∀ys d,ys.Perm xs->Q ys {s with drawn:=d})->wpAny (model prog w) A (drawOrder n xs) Q E s:=by
 induction n with
 |zero=>
  intro xs s Q h q;have e:xs=[]:=bHh.mp h;subst e;exact bFu (q [] s.drawn (bL2 _))
 |succ n ih=>
  intro xs s Q h q;have ne:xs≠[]:=λe=>by rw[e]at h;cases h
  obtain⟨x,l,rfl⟩:=List.exists_cons_of_ne_nil ne;refine(?_:wpAny (model prog w) A (choose .order (x::l).length >>= λi=>match (x::l)[i]? with|some y=>drawOrder n ((x::l).eraseIdx i) >>= λr=>pure (y::r)|none=>unsupported "internal:drawOrder") Q E s)
  refine bFs (aRe (by simp) λi d hi=>?_)
  have e:(x::l)[i]?=some (x::l)[i]:=bFv hi;rw[e];refine bFs (ih _ _ _ (by rw[bKs hi];omega) λys d' hy=>bFu (q _ d' ?_))
  exact(hy.cons _).trans (aAv _ _ _ e)
end
def nZ:Slot "set_iterator" "__next__" "set_iterator.__next__":=
 .of (owner:="set_iterator") (n:="__next__") (by rw[bJu,bIg];kernel_rfl) (by decide+kernel) (by decide+kernel) (by decide+kernel) (.inl (by decide+kernel)) (by rw[isSubtype_type];kernel_rfl)
def aBz:entryFor table "set_iterator.__next__"=some Builtin.«set_iterator.__next__» := entryFor_of_tree (by kernel_rfl)
def aLf:Manifest.owners.lookup (String.ofList ['r', 'o', 't', 'a', 'r', 'e', 't', 'i', '_', 't', 'e', 's'].reverse)=some Manifest.sig_set_iterator:=by kernel_rfl
def aEe(a:Value):argsOk "set_iterator.__next__" ⟨[a],[]⟩:=by
 unfold argsOk;rw[signature?_of (id:="set_iterator.__next__") (n:=['_', '_', 't', 'x', 'e', 'n', '_', '_']) (o:=['r', 'o', 't', 'a', 'r', 'e', 't', 'i', '_', 't', 'e', 's']) (by kernel_rfl) aLf]
 kernel_rfl
def aLg:Slot "set_iterator" "__iter__" "set_iterator.__iter__":=
 .of (owner:="set_iterator") (n:="__iter__") (by rw[bJu,bIg];kernel_rfl) (by decide+kernel) (by decide+kernel) (by decide+kernel) (.inl (by decide+kernel)) (by rw[isSubtype_type];kernel_rfl)
def aRf:entryFor table "set_iterator.__iter__"=some Builtin.«dict_keyiterator.__iter__» := entryFor_alias (id':="dict_keyiterator.__iter__") (by kernel_rfl) rfl (by decide+kernel) (by kernel_rfl)
def aVe(a:Value):argsOk "set_iterator.__iter__" ⟨[a],[]⟩:=by
 unfold argsOk;rw[signature?_of (id:="set_iterator.__iter__") (n:=['_', '_', 'r', 'e', 't', 'i', '_', '_']) (o:=['r', 'o', 't', 'a', 'r', 'e', 't', 'i', '_', 't', 'e', 's']) (by kernel_rfl) aLf]
 kernel_rfl
def aNe:entryFor table "set.__iter__"=some Builtin.«frozenset.__iter__» := entryFor_alias (id':="frozenset.__iter__") (by kernel_rfl) rfl (by decide+kernel) (by kernel_rfl)
def aYh:typeLookup (.type "set") "__len__"=pure (some (.builtin "set.__len__")):=by rw[bJu,bIg];kernel_rfl
def aFp(first:Value)(i:Nat)(a:Addr)(n ep:Nat):Obj:={cls:=.type "set_iterator",dict:=none,data:=.fields #[first,.int i 0,.ref a,.int n 0,.int ep 0],slots := #[]}
section
variable{prog:Program}{w:World}{A:Around}{E:Value->Shared->Prop}{s:Shared}
def aYi{es:Array (Int×Value)} {t:SetTable} {c c':Nat} {v:Value} {Q:Option Value->Shared->Prop}
  (hI:s.heap.get? I=some (aFp (.int c 0) i a es.size ep)) (x:SetIs b a ns es ep t s.heap)
  (nx:∀(A:Around)(E:Value->Shared->Prop) (Q:Option (Value×Nat)->Shared->Prop),Q (some (v,c')) s->wpAny (model prog w) A (setNext a c i ep) Q E s)
  (q:∀h',h'.get? I=some (aFp (.int c' 0) (i+1) a es.size ep)->Heap.SameBut I s.heap h'->Q (some v) {s with heap:=h'}) :
  wpAny (model prog w) A (pyNext (.ref I)) Q E s:=by
 have hT:s.TypeIs (.ref I) "set_iterator":=⟨_,hI,rfl⟩;unfold pyNext;refine bFs (bI5 (bH4 (name:=Str.ofString "__next__") hT nZ (bH2 nZ hT aBz ?_ (aEe _))));unfold Builtin.«set_iterator.__next__»;refine bFs (bFu ?_);refine bFs (bJg hI rfl ?_);dsimp only;refine bFs (bIy x.obj rfl x.fit ?_);rw[bG7 (by simp)]
 refine bFs (nx _ _ _ ?_);dsimp only;refine bFs (bIm hI rfl (by simp) ?_)
 have h1:(s.heap.update I (Obj.mapFields (·.setIfInBounds 0 (rawInt c')))).get? I=some (aFp (.int c' 0) i a es.size ep):=by
  rw[bGz _ hI (bIe (bIf rfl _))];rfl
 refine bFs (bIm h1 rfl (by simp) ?_)
 refine bFu ⟨v,rfl,bFu (q _ ?_ ((bHw ..).trans (bHw ..)))⟩;rw[bGz _ h1 (bIe (bIf rfl _))];rfl
def aPm{R:Value->Shared->Prop}{Q:Fin->Shared->Prop}(hh:A.handled=none)(r:∀(h':Heap)(e:Addr),(∀b o,s.heap.get? b=some o->h'.get? b=some o)->(∃o,h'.get? e=some o/\o.cls=.type "StopIteration")->R (.ref e) {s with heap:=h'}) :
  wpAny (model prog w) A (newExc (.type "StopIteration") [] >>= λe=>raiseNew e) Q R s:=by
 refine bFs ?_
 simp only[newExc,newTuple];refine bFs (bHe ?_ (by size_fits))
 refine bFs (m:=firstArgMember _ _) (bMf (a:=Value.none) (by first|rfl|(simp only[firstArgMember];rfl)) (bHe ?_ (by size_fits)))
 simp only[raiseNew];refine bFs (wpAny_handled ?_);rw[hh];exact bFs (bFu (wpAny_throw (r _ _ (λb o ho=>bFt _ (bFt _ ho)) ⟨_,bG1 _ rfl,rfl⟩)))
def bBz{b:Bool} {es:Array (Int×Value)} {t:SetTable} {c:Nat} {Q:Option Value->Shared->Prop} (hh:A.handled=none)
  (hI:s.heap.get? I=some (aFp (.int c 0) i a es.size ep)) (x:SetIs b a ns es ep t s.heap)
  (nx:∀(A:Around)(E:Value->Shared->Prop) (Q:Option (Value×Nat)->Shared->Prop),Q none s->wpAny (model prog w) A (setNext a c i ep) Q E s)
  (q:∀h',(∀b o,b≠I->s.heap.get? b=some o->h'.get? b=some o)->Q none {s with heap:=h'}) :
  wpAny (model prog w) A (pyNext (.ref I)) Q E s:=by
 have hT:s.TypeIs (.ref I) "set_iterator":=⟨_,hI,rfl⟩;unfold pyNext;refine bFs (bI5 (bH4 (name:=Str.ofString "__next__") hT nZ (bH2 nZ hT aBz ?_ (aEe _))));unfold Builtin.«set_iterator.__next__»;refine bFs (bFu ?_);refine bFs (bJg hI rfl ?_);dsimp only;refine bFs (bIy x.obj rfl x.fit ?_);rw[bG7 (by simp)]
 refine bFs (nx _ _ _ ?_);dsimp only;refine bFs (bIm hI rfl (by simp) ?_)
 refine aPm hh λh' e k o=>?_
 obtain⟨o,ho,hc⟩:=o;refine bFs (bIz (T:="StopIteration") (b:=true) ⟨o,ho,hc⟩ bK5 (bFu (q _ λb o' hb ho'=>k b o' ?_)))
 rw[bGv _ _ (bHx hb)];exact ho'
def aRg{es:Array (Int×Value)} {t:SetTable} (x:SetIs b a ns es ep t s.heap) (hb:uP w=true) (c i:Nat) {Q:Option (Value×Nat)->Shared->Prop}
  (q:Q (((pickOrder (w.params.setOrder a ep) es)[i]?).map λe=>(e.2,c)) s):wpAny (model prog w) A (setNext a c i ep) Q E s:=by
 have hb':w.params.followText "set-order"=true:=hb;unfold setNext;refine bFs (bIs x.obj rfl x.fit ?_);dsimp only;unfold setsByText;refine bFs (bFs (bJ0 (bFu ?_)));refine bHs (λ_=>?_) λh=>absurd hb' h
 rw[bG7 (by simp)]
 refine bFs ?_
 unfold setWalk;refine bFs (bIs x.obj rfl x.fit ?_);dsimp only;unfold setsByText;refine bFs (bFs (bJ0 (bFu ?_)));refine bHs (λ_=>?_) λh=>absurd hb' h
 exact bFs (bJ0 (bFu (bFu q)))
def vU(t:SetTable):Nat->Nat
 |0=>0
 |i+1=>t.place.getD i 0+1
def below_at{t:SetTable}(ti:TI b t)(i:Nat)(hi:i<=t.place.size):SetTable.below t.place (vU t i)=i:=by
 obtain⟨h1,h2,h3⟩:=aFn t.place (vU t i) ti.rise;generalize hm:SetTable.below t.place (vU t i)=m at h1 h2 h3;rcases bHg m i with h|h|h
 .exfalso;have lt:i-1<t.place.size:=by omega
  have e:t.place[i-1]?=some t.place[i-1]:=bGi lt;have:=h2 (i-1) _ (by omega) e
  have se:vU t i=t.place[i-1]+1:=by
   cases i with
   |zero=>omega
   |succ k=>
    show t.place.getD k 0+1=_;rw[bJ9,bGi (by omega)]
    rfl
  omega
 .exact h
 .exfalso;have lt:i<t.place.size:=by omega
  have e:t.place[i]?=some t.place[i]:=bGi lt;have g:=h1 i _ h e;cases i with
  |zero=>exact absurd g (bK2 _)
  |succ k=>
   have gk:t.place[k]?=some t.place[k]:=bGi (by omega)
   have se:vU t (k+1)=t.place[k]+1:=by
    show t.place.getD k 0+1=_;rw[bJ9,gk];rfl
   have r:=bIl.mp ti.rise k (k+1) (by simp;omega) (by simp;omega) (by omega)
   simp at r;omega
def aVf{es:Array (Int×Value)} {t:SetTable} (x:SetIs true a ns es ep t s.heap) (hb:uP w=false) (hd:(!t.plain&&decide (es.size>1))=false) (i:Nat) (hi:i<=es.size) {Q:Option (Value×Nat)->Shared->Prop}
  (q:Q ((es[i]?).map λe=>(e.2,vU t (i+1))) s):wpAny (model prog w) A (setNext a (vU t i) i ep) Q E s:=by
 have hb':w.params.followText "set-order"=false:=hb;have sz:t.place.size=es.size:=by
  have:=x.fit;simp only[SetTable.fits,and_eq_true,beq_iff_eq]at this;exact this.1
 unfold setNext;refine bFs (bIs x.obj rfl x.fit ?_);dsimp only;unfold setsByText;refine bFs (bFs (bJ0 (bFu ?_)));refine bHs (λh=>absurd (hb'.symm.trans h) bGh) λ_=>?_
 refine bHs (λh=>absurd (hd.symm.trans h) bGh) λ_=>?_
 refine bFs (m:=(if (!t.led && !es.isEmpty)=true then unsupported "set:maker-not-led" else pure ())) ?_
 rw[bG7 (by rw[x.ti.led];exact bGh)]
 refine bFu ?_
 rw[below_at x.ti i (by rw[sz];exact hi)]
 by_cases hlt:i<es.size
 .rw[bGi hlt]at q;rw[bGi hlt,bGi (by rw[sz];exact hlt)]
  refine bFu ?_
  have:vU t (i+1)=t.place[i]+1:=by
   show t.place.getD i 0+1=_;rw[bJ9,bGi (by rw[sz];exact hlt)]
   rfl
  rw[this]at q;exact q
 .have hn:es[i]?=none:=bJy (by omega)
  rw[hn]at q ⊢;exact bFu q
def aYj{T:Addr} {es:Array (Int×Value)} {t:SetTable} {ys:List Nat} {e:Int×Value} {y:Nat} {Q:Option Value->Shared->Prop}
  (hI:s.heap.get? I=some (aFp (.ref T) i a es.size ep)) (x:SetIs b a ns es ep t s.heap) (hy:s.heap.get? T=some {cls:=.type "tuple",data:=.seq (ys.map λ(n:Nat)=>rawInt n).toArray})
  (hi:ys[i]?=some y) (he:es[y]?=some e)
  (q:∀h',h'.get? I=some (aFp (.ref T) (i+1) a es.size ep)->Heap.SameBut I s.heap h'->Q (some e.2) {s with heap:=h'}) :
  wpAny (model prog w) A (pyNext (.ref I)) Q E s:=by
 have hT:s.TypeIs (.ref I) "set_iterator":=⟨_,hI,rfl⟩;unfold pyNext;refine bFs (bI5 (bH4 (name:=Str.ofString "__next__") hT nZ (bH2 nZ hT aBz ?_ (aEe _))));unfold Builtin.«set_iterator.__next__»;refine bFs (bFu ?_);refine bFs (bJg hI rfl ?_);dsimp only;refine bFs (bIy x.obj rfl x.fit ?_);rw[bG7 (by simp)]
 refine bFs (bHf hy rfl ?_);dsimp only;have ei:((ys.map λ(n:Nat)=>rawInt n).toArray)[(i:Int).toNat]?=some (.int y 0):=by
  rw[bH9,bJi,bGu,hi];rfl
 rw[ei];dsimp only;unfold setNextDrawn;refine bFs (bFs (bIs x.obj rfl x.fit ?_));dsimp only;rw[bG7 (by simp),bH9,he]
 refine bFu ?_
 refine bFs (bIm hI rfl (by simp) ?_)
 refine bFu ⟨e.2,rfl,bFu (q _ ?_ (bHw ..))⟩;rw[bGz _ hI (bIe (bIf rfl _))];rfl
def bC0{T:Addr}{b:Bool} {es:Array (Int×Value)} {t:SetTable} {ys:List Nat} {Q:Option Value->Shared->Prop} (hh:A.handled=none)
  (hI:s.heap.get? I=some (aFp (.ref T) i a es.size ep)) (x:SetIs b a ns es ep t s.heap) (hy:s.heap.get? T=some {cls:=.type "tuple",data:=.seq (ys.map λ(n:Nat)=>rawInt n).toArray})
  (hi:ys[i]?=none)
  (q:∀h',(∀b o,b≠I->s.heap.get? b=some o->h'.get? b=some o)->Q none {s with heap:=h'}) :
  wpAny (model prog w) A (pyNext (.ref I)) Q E s:=by
 have hT:s.TypeIs (.ref I) "set_iterator":=⟨_,hI,rfl⟩;unfold pyNext;refine bFs (bI5 (bH4 (name:=Str.ofString "__next__") hT nZ (bH2 nZ hT aBz ?_ (aEe _))));unfold Builtin.«set_iterator.__next__»;refine bFs (bFu ?_);refine bFs (bJg hI rfl ?_);dsimp only;refine bFs (bIy x.obj rfl x.fit ?_);rw[bG7 (by simp)]
 refine bFs (bHf hy rfl ?_);dsimp only;have ei:((ys.map λ(n:Nat)=>rawInt n).toArray)[(i:Int).toNat]?=none:=by
  rw[bH9,bJi,bGu,hi];rfl
 rw[ei];dsimp only;refine bFs (bIm hI rfl (by simp) ?_)
 have h1:(s.heap.update I (Obj.mapFields (·.setIfInBounds 0 (rawInt 0)))).get? I=some (aFp (.int 0 0) i a es.size ep):=by
  rw[bGz _ hI (bIe (bIf rfl _))];rfl
 refine bFs (bIm h1 rfl (by simp) ?_)
 refine aPm hh λh' e k o=>?_
 obtain⟨o,ho,hc⟩:=o;refine bFs (bIz (T:="StopIteration") (b:=true) ⟨o,ho,hc⟩ bK5 (bFu (q _ λb o' hb ho'=>k b o' ?_)))
 rw[bGv _ _ (bHx hb),bGv _ _ (bHx hb)];exact ho'
end
section
variable{prog:Program}{w:World}{A:Around}{E:Value->Shared->Prop}{s:Shared}
def aPn{o:Obj} (hI:s.heap.get? I=some o) (hc:o.cls=.type "set_iterator") (q:Q (.ref I) s):wpAny (model prog w) A (pyIter (.ref I)) Q E s:=by
 have hT:s.TypeIs (.ref I) "set_iterator":=⟨o,hI,hc⟩;refine bK3 hT aLg (bH2 aLg hT aRf (?_:wpAny _ _ (ret (.ref I)) _ _ s) (aVe _));exact bFu ⟨_,rfl,"set_iterator",_,hT,nZ.lookup,q⟩
def aLh(hh:A.handled=none) (ne:a≠I) {es:Array (Int×Value)} {t:SetTable} (c:Nat->Nat) (vs:List Value)
  (nx:∀(s:Shared)(i:Nat),i<=vs.length->SetIs b a ns es ep t s.heap->∀(A:Around)(E:Value->Shared->Prop) (Q:Option (Value×Nat)->Shared->Prop),Q ((vs[i]?).map λv=>(v,c (i+1))) s->wpAny (model prog w) A (setNext a (c i) i ep) Q E s) :
  Walks prog w A I [I,a] [I] vs.length (λi v=>vs[i]?=some v) (λi h=>h.get? I=some (aFp (.int (c i) 0) i a es.size ep)/\SetIs b a ns es ep t h) where
 sub:=λb hb=>by rw[bFz.mp hb];exact bFx
 frame:=λ_ _ _ st k=>⟨k I bFx _ st.1,st.2.keep λo ho=>k a (bFw _ bFx) o ho⟩
 item:=λi s Q E hi st q=>by
  have e:vs[i]?=some vs[i]:=bFv hi;refine aYi (v:=vs[i]) (c':=c (i+1)) st.1 st.2 (λA E Q' h=>nx s i (bJ5 hi) st.2 A E Q' (by rw[e];exact h)) λh' hI sb=>?_
  have k:∀b o,b≠I->s.heap.get? b=some o->h'.get? b=some o:=λb o hb ho=>by rw[sb.2 b hb];exact ho
  exact q _ h' s.toks e ⟨hI,st.2.keep λo ho=>k a o ne ho⟩ λb o hb ho=>k b o (λh=>hb (bFz.mpr h)) ho
 done:=λs Q E st q=>
  bBz hh st.1 st.2 (λA E Q' h=>nx s _ (bG4 _) st.2 A E Q' (by rw[bHn (bG4 _)];exact h)) λh' k=>q h' s.toks λb o hb ho=>k b o (λh=>hb (bFz.mpr h)) ho
 self:=λ_ _ _ _ st q=>aPn st.1 rfl q
def aYk(hh:A.handled=none){T:Addr}(ne:a≠I)(nT:T≠I) {es:Array (Int×Value)} {t:SetTable} (ys:List Nat) (lt:∀y∈ys,y<es.size) :
  Walks prog w A I [I,a,T] [I] (ys.map λy=>(es.getD y (0,.none)).2).length (λi v=>(ys.map λy=>(es.getD y (0,.none)).2)[i]?=some v)
   (λi h=>h.get? I=some (aFp (.ref T) i a es.size ep)/\SetIs b a ns es ep t h/\h.get? T=some {cls:=.type "tuple",data:=.seq (ys.map λ(n:Nat)=>rawInt n).toArray}) where
 sub:=λb hb=>by rw[bFz.mp hb];exact bFx
 frame:=λ_ _ _ st k=>⟨k I bFx _ st.1,st.2.1.keep λo ho=>k a (bFw _ bFx) o ho,k T (bFw _ (bFw _ bFx)) _ st.2.2⟩
 item:=λi s Q E hi st q=>by
  rw[bG6]at hi;have e:ys[i]?=some ys[i]:=bFv hi;have l:=lt _ (bGq hi);have eg:es[ys[i]]?=some es[ys[i]]:=bGi l;refine aYj (e:=es[ys[i]]) st.1 st.2.1 st.2.2 e eg λh' hI sb=>?_
  have k:∀b o,b≠I->s.heap.get? b=some o->h'.get? b=some o:=λb o hb ho=>by rw[sb.2 b hb];exact ho
  refine q _ h' s.toks ?_ ⟨hI,st.2.1.keep λo ho=>k a o ne ho,k T _ nT st.2.2⟩ λb o hb ho=>k b o (λh=>hb (bFz.mpr h)) ho
  rw[bGu,e];simp[getD_eq_getD_getElem?,eg]
 done:=λs Q E st q=>by
  rw[bG6]at st;exact bC0 hh st.1 st.2.1 st.2.2 (bHn (bG4 _)) λh' k=>q h' s.toks λb o hb ho=>k b o (λh=>hb (bFz.mpr h)) ho
 self:=λ_ _ _ _ st q=>aPn st.1 rfl q
def Nums(vs:List Value)(ns:List Int):Prop:=(vs.map numOf).Perm ns/\∀v∈vs,∃n t,v=.int n t
def SetIs.nums_of{es:Array (Int×Value)} {t:SetTable} (x:SetIs b a ns es ep t h) {l:List (Int×Value)} (p:l.Perm es.toList):Nums (l.map (·.2)) ns:=by
 refine⟨?_,λv hv=>?_⟩
 .rw[bH8];exact(p.map λe=>numOf e.2).trans x.perm
 .obtain⟨e,he,rfl⟩:=bGc.mp hv;obtain⟨n,tk,rfl⟩:=x.nums e (p.mem_iff.mp he);exact⟨n,tk,rfl⟩
def aYl(hh:A.handled=none) (x:iB (!uP w) a ns s.heap) (few:ns.length<scanBound)
  (q:∀(I:Addr)(h':Heap)(d:_)(vs:List Value)(fp:List Addr)(St:Nat->Heap->Prop),Nums vs ns->(∀b o,s.heap.get? b=some o->h'.get? b=some o)->s.heap.objs.size<=I->(∀f∈fp,f=a\/s.heap.objs.size<=f)->
   Walks prog w A I fp [I] vs.length (λi v=>vs[i]?=some v) St->St 0 h'->Q (.ref I) {s with heap:=h',drawn:=d}) :
  wpAny (model prog w) A (pyIter (.ref a)) Q E s:=by
 obtain⟨es,ep,t,x⟩:=x;have hT:s.TypeIs (.ref a) "set":=⟨_,x.obj,rfl⟩;have la:a<s.heap.objs.size:=bG2 x.obj;refine bK3 hT F.slot_set_iter (bH2 F.slot_set_iter hT aNe ?_ (F.args_set_iter_1 _));unfold Builtin.«frozenset.__iter__» Builtin.Frozenset.slot0;refine bFs (bFs (bFu (?_:wpAny _ _ (pure a) _ _ s)));refine bFu ?_
 unfold Builtin.Frozenset.sizeOf;refine bFs (bFs (bIy x.obj rfl x.fit (bFu ?_)));unfold setDrawn;refine bFs (bFs (bIs x.obj rfl x.fit ?_));dsimp only;unfold setsByText;refine bFs (bFs (bJ0 (bFu (bFu ?_))));have fin:∀(s':Shared)(first:Value),SetIs (!uP w) a ns es ep t s'.heap->Q (.ref s'.heap.objs.size) {s' with heap:=s'.heap.push (aFp first 0 a es.size ep)}->wpAny (model prog w) A.in1 (setEpoch a >>= λe=>newFields "set_iterator" [first,rawInt 0,.ref a,rawInt es.size,rawInt e] >>= λr=>ret r)
   (λfin s'=>∃r,fin=.done (.ret r)/\∃T' r',s'.TypeIs r T'/\typeLookup (.type T') "__next__"=pure (some r')/\Q r s') E s':=λs' first y q'=>by
  refine bFs (wpAny_setEpoch_of y.obj rfl y.fit ?_);unfold newFields;refine bFs (bHe (bFu ⟨_,rfl,"set_iterator",_,⟨_,bG1 _ rfl,rfl⟩,nZ.lookup,?_⟩));exact q'
 by_cases hd:(!uP w&&(!t.plain&&decide (es.size>1)))=true
 .refine bHs (λ_=>?_) λh=>absurd hd h
  refine bFs (aYg es.size (List.range es.size) s _ bIc λys d py=>?_)
  have lt:∀y∈ys,y<es.size:=λy hy=>bGr.mp (py.mem_iff.mp hy)
  have sz:ys.length<=sizeLine:=bK4 (by rw[py.length_eq,bIc,x.size];exact few)
  simp only[newTuple];refine bFs (bHe ?_ (by show (List.map _ ys).toArray.size<=sizeLine;rw[bGd,bG6];exact sz))
  refine fin _ _ (x.keep λo ho=>bFt _ ho) ?_
  refine q _ _ d (ys.map λy=>(es.getD y (0,.none)).2) _ _ ?_ (λb o ho=>bFt _ (bFt _ ho)) ?_ (λf hf=>?_)
   (aYk hh (T:=s.heap.objs.size) ?_ ?_ ys lt) ⟨bG1 _ rfl,x.keep λo ho=>bFt _ (bFt _ ho),bFt _ (bG1 _ rfl)⟩
  .have e:(ys.map λy=>(es.getD y (0,.none)).2)=(ys.map λy=>es.getD y (0,.none)).map (·.2):=by rw[bH8];rfl
   rw[e];refine x.nums_of ((py.map _).trans (List.Perm.of_eq ?_));refine bL8 λi=>?_
   by_cases hi:i<es.size
   .simp[List.getElem?_map,List.getElem?_range hi,getD_eq_getD_getElem?,hi]
   .simp[hi]
  .rw[bGp];exact bLa _
  .rcases bG0.mp hf with h|h
   .exact .inr (by rw[h,bGp];exact bLa _)
   .rcases bG0.mp h with h|h
    .exact .inl h
    .exact .inr (bKu (bFz.mp h).symm)
  .rw[bGp];exact bGb (Nat.lt_succ_of_lt la)
  .rw[bGp];exact bGb (bIh _)
 .refine bHs (λh=>absurd h hd) λ_=>bFs (bFu ?_)
  refine fin s (.int 0 0) x ?_
  by_cases hb:uP w=true
  .refine q s.heap.objs.size _ s.drawn ((pickOrder (w.params.setOrder a ep) es).toList.map (·.2)) _ _ (x.nums_of (aFo _ es)) (λb o ho=>bFt _ ho) (bG4 _) (λf hf=>?_)
    (aLh hh (bGb la) (λ_=>0) _ λs i hi y A E Q' h=>aRg y hb 0 i ?_) ⟨bG1 _ rfl,x.keep λo ho=>bFt _ ho⟩
   .rcases bG0.mp hf with h|h
    .exact .inr (bKu h.symm)
    .exact .inl (bFz.mp h)
   .rw[bGu,Option.map_map,bI9]at h;exact h
  .have hb0:uP w=false:=by revert hb;cases uP w<;>intro h<;>first|rfl|exact absurd rfl h
   have hd0:(!t.plain&&decide (es.size>1))=false:=by
    rw[hb0]at hd;revert hd;cases (!t.plain&&decide (es.size>1)) <;> intro h<;>first|rfl|exact absurd rfl h
   have x':SetIs true a ns es ep t s.heap:=by rw[hb0]at x;exact x
   refine q s.heap.objs.size _ s.drawn (es.toList.map (·.2)) _ _ (x.nums_of (bL2 _)) (λb o ho=>bFt _ ho) (bG4 _) (λf hf=>?_)
    (aLh hh (b:=true) (t:=t) (ns:=ns) (bGb la) (vU t) _ λs i hi y A E Q' h=>aVf y hb0 hd0 i (by simpa using hi) ?_) ⟨Heap.get?_push_size _ rfl,x'.keep λo ho=>Heap.get?_push_of_some _ ho⟩
   .rcases bG0.mp hf with h|h
    .exact .inr (bKu h.symm)
    .exact .inl (bFz.mp h)
   .rw[bGu,Option.map_map,bI9]at h;exact h
end
section
variable{w:World}{A:Around}
def aVg{r:Addr}{Q:Bool->Shared->Prop}(hT:s.TypeIs (.ref r) "set")(q:Q false s):wpAny (model prog w) A (Builtin.List.listLengthHint (.ref r)) Q E s:=by
 unfold Builtin.List.listLengthHint;refine bFs (bJr hT aYh ?_);generalize hid:("set.__len__":String)=id0
 wp_delta
 rw[show splitId id0=some ("set","__len__") from by subst hid;decide+kernel]
 subst hid;refine bFs (bIz (T:="set") (b:=true) hT sub_set_self ?_);refine bHs (λh=>absurd h (by decide)) λ_=>bHs (λ_=>?_) λh=>absurd (by decide+kernel) h
 exact bFs (wpAny_typeOf hT (bFu q))
def iB.typeIs(x:iB b a ns s.heap):s.TypeIs (.ref a) "set":=let ⟨_,_,_,y⟩:=x;⟨_,y.obj,rfl⟩
def Nums.len{vs:List Value} (h:Nums vs ns):vs.length=ns.length:=by
 have:=h.1.length_eq;simpa using this
def bC1{S:Addr} {res:Value} {R:Result->Shared->Prop} (hh:A.handled=none) (x:iB (!uP w) a ns s.heap) (few:ns.length<scanBound) (hS:s.heap.get? S=some {cls:=.type "list",data:=.seq #[] 0}) (ne:S≠a)
  (r:∀(h':Heap)(d:_)(tk:Nat)(vs:List Value)(c:Nat),Nums vs ns->(∀b o,b≠S->s.heap.get? b=some o->h'.get? b=some o)->h'.get? S=some {cls:=.type "list",dict:=none,data:=.seq vs.toArray c,slots := #[]}->R (.ok (.ret res)) {s with heap:=h',drawn:=d,toks:=tk}) :
  wpAny (model prog w) A.in1 (Builtin.List.listExtendWith (.ref S) (.ref a) res) (λfin s'=>match fin with|.done f=>R (.ok f) s'|.again c'=>c'.quiet=true/\codeAny (model prog w) A c' R s') (λe s'=>R (.error e) s') s:=by
 unfold Builtin.List.listExtendWith;refine bFs (wpAny_typeOf (T:="set") x.typeIs ?_);rw[bG7 (by simp[Builtin.List.listSameRef,ne])]
 refine bFs (aYl (A:=A.in1) hh x few λI h' d vs fp St nv k lI lf W st=>?_)
 refine bFs (bGo (aVg (iB.typeIs (s:={s with heap:=h',drawn:=d}) (x.keep λo ho=>k a o ho)) ?_))
 have lS:S<s.heap.objs.size:=bG2 hS;have nS:S∉fp:=λh=>by
  rcases lf S h with e|e
  .exact ne e
  .exact absurd lS (Nat.not_lt.mpr e)
 have go:∀(h1:Heap)(c₁:Nat),St 0 h1->(∀b o,b≠S->s.heap.get? b=some o->h1.get? b=some o)->h1.get? S=some {cls:=.type "list",data:=.seq #[] c₁}->
   codeAny (model prog w) A (.builtin "list.extend.loop" ⟨[.ref S,.ref I,res],[]⟩) R {s with heap:=h1,drawn:=d}:=λh1 c₁ st1 k1 hS1=>by
  refine codeAny_extend_loopS W.toS (bK4 (by rw[nv.len];exact few)) S nS res vs.length 0 _ #[] c₁ rfl (bHp _) st1 hS1 (ItemsOf.nil _) λs' acc c' mv hS' it=>?_
  have ev:acc=vs.toArray:=by
   apply ext';refine bL8 λi=>?_
   rw[bI9,bJk];cases ha:acc[i]? with
   |some v=>exact(it.2 i v ha).symm
   |none=>exact(bHn (by rw[<-it.1];exact Array.getElem?_eq_none_iff.mp ha)).symm
  subst ev;rw[Moved.eq_with mv];refine r s'.heap d s'.toks vs c' nv (λb o hb ho=>mv.heap b o (λhm=>?_) (k1 b o hb ho)) hS'
  rcases bG0.mp hm with h|h
  .exact hb h
  .exact absurd (bG2 ho) (by rw[bFz.mp h];exact Nat.not_lt.mpr lI)
 refine bHs (λ_=>?_) λ_=>bFu ⟨bHt bHm _,go h' 0 st (λb o _ ho=>k b o ho) (k S _ hS)⟩
 refine bFs (bK1 (bFs (?_:wpAny _ _ (updateSeq S (·.push .none) >>= λ_=>updateSeq S (·.pop)) _ _ _)))
 have o1:=k S _ hS;have o2:=bGz (Obj.mapSeq (·.push Value.none)) o1 rfl;have o3:=bGz (Obj.mapSeq (·.pop)) o2 rfl;have oth:∀b o,b≠S->h'.get? b=some o->((h'.update S (Obj.mapSeq (·.push Value.none))).update S (Obj.mapSeq (·.pop))).get? b=some o:=λb o hb ho=>by
  rw[bGv _ _ (bHx hb),bGv _ _ (bHx hb)];exact ho
 refine bFs (bHy o1 rfl (bHy (hz:=by seq_fits) o2 rfl ?_))
 exact bFu ⟨bHt bHm _,go _ _ (W.frame 0 _ _ st λb hb o ho=>oth b o (λe=>nS (e ▸ hb)) ho) (λb o hb ho=>oth b o hb (k b o ho)) o3⟩
def aYm{R:List Value->Shared->Prop}(hh:A.handled=none)(x:iB (!uP w) a ns s.heap)(few:ns.length<scanBound)
  (r:∀(h':Heap)(d:_)(tk:Nat)(vs:List Value),Nums vs ns->(∀b o,s.heap.get? b=some o->h'.get? b=some o)->R vs {s with heap:=h',drawn:=d,toks:=tk}) :
  wpAny (model prog w) A (collect (.ref a)) R E s:=by
 unfold collect;refine bFs (wpAny_runValue (bHd entry_proto_collect' ?_));rw[bH3 bKn _];refine(?_:wpAny _ A.in1 (newList [] >>= λl=>again (.builtin "list.__iadd__" ⟨[l,.ref a],[]⟩)) _ _ s)
 refine bFs (bHe (bFu ⟨bHt bIw _,bHd entry_list_iadd' ?_⟩));rw[bH3 bIw _];have la:a<s.heap.objs.size:=let ⟨_,_,_,y⟩:=x;bG2 y.obj;have hS:(s.heap.push {cls:=.type "list",data:=.seq ([]:List Value).toArray}).get? s.heap.objs.size=some {cls:=.type "list",data:=.seq #[] 0}:=bG1 _ rfl;have key:=bC1 (A:=A) (s:={s with heap:=s.heap.push {cls:=.type "list",data:=.seq ([]:List Value).toArray} }) (res:=.ref s.heap.objs.size) (prog:=prog)
  (R:=λ(q:Result)(s':Shared)=>q=.ok (.ret (.ref s.heap.objs.size))/\∃(h':Heap)(d:_)(tk:Nat)(vs:List Value)(c:Nat),s'={s with heap:=h',drawn:=d,toks:=tk}/\Nums vs ns/\(∀b o,s.heap.get? b=some o->h'.get? b=some o)/\h'.get? s.heap.objs.size=some {cls:=.type "list",dict:=none,data:=.seq vs.toArray c,slots := #[]})
  hh (x.keep λo ho=>bFt _ ho) few hS (bJ6 la)
  λh' d tk vs c nv k o=>⟨rfl,h',d,tk,vs,c,rfl,nv,λb o' ho=>k b o' (bGb (bG2 ho)) (bFt _ ho),o⟩
 have last:∀(h':Heap)(d:_)(tk:Nat)(vs:List Value)(c:Nat),Nums vs ns->(∀b o,s.heap.get? b=some o->h'.get? b=some o)->h'.get? s.heap.objs.size=some {cls:=.type "list",dict:=none,data:=.seq vs.toArray c,slots := #[]}->
   wpAny (model prog w) A (load s.heap.objs.size >>= λo=>match o.data with|.seq xs _=>pure xs.toList|_=>unsupported "internal:collect") R E {s with heap:=h',drawn:=d,toks:=tk}:=λh' d tk vs c nv k o=>by
  refine bFs (wpAny_load o ?_);exact bFu (r h' d tk vs nv k)
 refine bI6 key (λfin s' y=>?_) λe s' y=>nomatch y.1
 cases fin with
 |done f=>
  obtain⟨e,h',d,tk,vs,c,rfl,nv,k,o⟩:=y;cases e;exact last h' d tk vs c nv k o
 |again c₁=>
  refine⟨y.1,bIt y.2 λq s₂ z=>?_⟩
  obtain⟨rfl,h',d,tk,vs,c,rfl,nv,k,o⟩:=z;exact last h' d tk vs c nv k o
theorem aLi:∀{vs:List Value},(∀v∈vs,∃n t,v=Value.int n t)->IntsAre vs (vs.map Pu.numOf)
 |[],_=>IntsAre.nil
 |v::vs,h=>by
  obtain⟨n,t,rfl⟩:=h v bFx;exact IntsAre.cons _ _ (aLi λv hv=>h v (bFw _ hv))
def aRh(hh:A.handled=none)(x:iB (!uP w) a ns s.heap)(few:ns.length<64)
  (q:∀(D:Addr)(h':Heap)(d:_)(tk:Nat)(out:Array Value)(ns':List Int)(c:Nat),IntsAre out.toList ns'->ns'.Perm ns->ns'.Pairwise (· <= ·)->(∀b o,s.heap.get? b=some o->h'.get? b=some o)->(∀b o,s.heap.get? b=some o->b<D)->h'.get? D=some (seqObj "list" out c)->Q (.ref D) {s with heap:=h',drawn:=d,toks:=tk}) :
  wpAny (model prog w) A (call (.builtin "sorted") [.ref a]) Q E s:=by
 refine Calls.call_function_entry kind_sorted plain_sorted entry_sorted (args_sorted1 _) ?_
 unfold Builtin.«sorted»;have fb:ns.length<scanBound:=by unfold scanBound;omega
 refine bFs (m:=checkCount "sorted" 1 1 _) (bFu (bFs (aYm (A:=A.in1) hh x fb λh' d tk vs nv k=>?_)))
 have l64:vs.length<64:=by rw[nv.len];exact few
 refine bFs (wpAny_newList ?_ (by rw[bIi];omega))
 have o:(h'.push (seqObj "list" vs.toArray 0)).get? h'.objs.size=some (seqObj "list" vs.toArray 0):=bG1 _ rfl;refine bFs (bGo (bH2 slot_list_sort ⟨_,o,rfl⟩ entry_list_sort (list_sort_tree o (aLi nv.2) l64 λout ns' e1 e2 e3=>⟨_,rfl,?_⟩) (args_list_sort _)))
 obtain⟨c,oc⟩:=sortedHeap_at (out:=out) o;refine bFu ⟨_,rfl,q _ _ d tk out ns' c e1 (e2.trans nv.1) e3 (λb ob hb=>?_) (λb ob hb=>bG2 (k b ob hb)) oc⟩
 have l:=bG2 (k b ob hb);rw[sortedHeap_old (bGb l) (by rw[bGp];exact Nat.lt_succ_of_lt l)]
 exact bFt _ (k b ob hb)
end
end Pu
namespace Pu
open PySem PySem.Spec PyProof.Rows L2
theorem aHj(ns:List Int):∀k,k<=ns.length->aJ5 (λi=>ns.getD i 0) k=pF (ns.take k)
 |0,_=>rfl
 |k+1,h=>by
  have e:ns.take (k+1)=ns.take k++[ns.getD k 0]:=by
   rw[List.take_add_one,bG5,bFv (show k<ns.length by omega)]
   rfl
  rw[e];show aJ3 (aJ5 _ k) _=_;rw[aHj ns k (by omega)]
  unfold pF;rw[List.foldl_append];rfl
def bC2{l m:List Int}(h:m.Perm l)(hw:m.Pairwise (· <= ·)):m=aAj l:=List.Perm.eq_of_pairwise (le:=(· <= ·)) (λa b _ _ h1 h2=>Int.le_antisymm h1 h2) hw (aSq l) (h.trans (uC l).symm)
theorem aLj:∀{us:List Value}{ns:List Int},IntsAre us ns->Vals (ns.map V.int) us
 |_,_,.nil=>.nil
 |_,_,.cons n t h=>.cons ⟨t,rfl⟩ (aLj h)
def aVh{w:World} {o:HO} (x:iG P w H h a o):∃u,h.get? a=some u:=by
 cases o with
 |lst xs=>obtain⟨_,_,_,_,e⟩:=x;exact⟨_,e⟩
 |tup xs=>obtain⟨_,_,_,o,e,_⟩:=x;exact⟨_,e⟩
 |dK kvs=>obtain⟨_,_,_,_,o,_,_,e,_⟩:=x;exact⟨_,e⟩
 |dT kvs=>obtain⟨_,_,_,_,o,_,_,e,_⟩:=x;exact⟨_,e⟩
 |set S n=>obtain⟨o,_,_,_,e,_⟩:=x;exact⟨_,e⟩
 |ins C dx fs=>obtain⟨_,_,_,e,_⟩:=x;exact⟨_,e⟩
 |own y=>obtain⟨_,e⟩:=x;exact⟨_,e⟩
 |xd fs=>obtain⟨_,⟨_,_,_,e,_⟩,_⟩:=x;exact⟨_,e⟩
 |rng lo hi=>obtain⟨_,_,_,e⟩:=x;exact⟨_,e⟩
 |frz ob u=>obtain⟨e,_⟩:=x;exact⟨_,e⟩
 |tbl ps=>exact⟨_,(show h.get? a=some _ from x)⟩
 |met f y=>exact⟨_,(show h.get? a=some _ from x)⟩
 |ext φ=>obtain⟨_,⟨_,e⟩,_⟩:=x;exact⟨_,e⟩
section
variable {a:Expr}
def aRi(hc:X.calm=true):lB X (.type "set") (λxs H Q=>∃p ns,xs=[.ref p]/\SqL X.K H p (ns.map V.int)/\ns.length<=4000/\∀l,H l=none->Q (.ref l) (upd H l (.ext (iB (!uP X.w) l (pF ns))))):=by
 intro pins s σ H xs us Q I r h;obtain⟨p,ns,rfl,hq,hl,q⟩:=h;obtain⟨u,rfl,rx⟩:=vals1 r;cases rx;obtain⟨its,r',pl,hz⟩:=I.list hq;have hlen:=r'.length;rw[bG6]at hlen;refine aYf (ns:=ns) (I.ok.hd hc) pl.isList (by simpa using aL6 r') (by rw[List.size_toArray,<-hlen];show ns.length+1<4096;omega) λh' tk hS hk=>?_
 rw[show its.toArray.size=ns.length by rw[bGd,hlen],aHj ns _ (bG4 _),bLn]at hS
 obtain⟨es,ep,t,hIs⟩:=id hS;exact⟨.ref s.heap.objs.size,_,I.laid (t':=tk) (o:=.ext (iB (!uP X.w) s.heap.objs.size (pF ns))) hk (bG4 _) ⟨hS,⟨_,hIs.obj⟩,λh1 h2 x k=>x.keep k⟩,rfl,q _ (I.hok.fresh (bG4 _))⟩
def aRj(hc:X.calm=true):lB X (.builtin "sorted") (λxs H Q=>∃p ns,xs=[.ref p]/\H p=some (.ext (iB (!uP X.w) p ns))/\ns.length<64/\∀l,H l=none->Q (.ref l) (upd H l (.lst ((aAj ns).map V.int)))):=by
 intro pins s σ H xs us Q I r h;obtain⟨p,ns,rfl,hq,hn,q⟩:=h;obtain⟨u,rfl,rx⟩:=vals1 r;cases rx;obtain⟨hS,_,_⟩:=I.hok _ _ hq;refine aRh (I.ok.hd hc) hS hn λD h' d tk out ns' c ho hp hw hk hD hd=>?_
 obtain rfl:=bC2 hp hw;have hDn:H D=none:=by
  cases hH:H D with
  |none=>rfl
  |some o=>
   obtain⟨u,e⟩:=aVh (I.hok D o hH);exact absurd (hD D u e) (bH0 _)
 have sm:bC H (upd H D (.lst ((aAj ns).map V.int))):=cI hDn;have hl:(aAj ns).length=ns.length:=(uC ns).length_eq;refine⟨.ref D,upd H D (.lst ((aAj ns).map V.int)),I.step (g':=s.gens) (d':=d) (t':=tk) (ch:=[]) (λ_ z=>nomatch z) (λb o _ _ _ e _=>hk b o e) (λb o _ _ _ e _=>⟨o.slots,hk b o e⟩) (λb o _ e n=>by rw[bB (bGb (hD b o e))];exact n) (λb o _ e=>⟨o,hk b o e⟩) (λb xs e=>sm _ _ e) (λb o u e=>sm _ _ e) (λb ps e=>⟨#[],by rw[sm _ _ e];simp⟩) (λm ⟨o,es,ep,ho,r⟩=>⟨o,es,ep,hk _ o ho,r⟩) (λb o e=>?_) I.bare,rfl,q _ hDn⟩
 by_cases hb:b=D
 .subst hb;rw[bT]at e;cases e;exact⟨by rw[bG6,hl,bIi];omega,out.toList,c,aLj ho,by simpa using hd⟩
 .rw[bB hb]at e;exact(I.hok b _ e).stay (λb v _ q=>hk b v q) (λb q=>sm _ _ q) λb xs q=>sm _ _ q
theorem aLk{K:Frag}{H:Hp}:∀(l:List Int),bD K H (l.map D.int) (l.map V.int)
 |[]=>.nil
 |_::l=>.cons (bN.mpr rfl) (aLk l)
def aLl(hm:X.mg "sorted"=none)(hm2:X.mg "set"=none)(hc:X.calm=true)(ha:PE X a (tP X.K B f))(hg:Gl X "sorted":=by rfl)(hg2:Gl X "set":=by rfl)(hs:starEach [.Call (.Name "set" p1) [a] [] p2] X.env=(false,eval (.Call (.Name "set" p1) [a] [] p2) X.env)::starEach [] X.env:=by rfl)
  (hs2:starEach [a] X.env=(false,eval a X.env)::starEach [] X.env:=by rfl):PE X (.Call (.Name "sorted" p0) [.Call (.Name "set" p1) [a] [] p2] [] pos) (tI X.K B (e1 aB6 f)):=by
 refine cO (oJ (aRj hc) hg hm bL9 (cT (uA (aRi hc) hg2 hm2 PyProof.Rows.boot_set (cT ha gC hs2) (he:=hs2)) gC hs) (he:=hs)) ?_
 rintro σ H Q ⟨A,st,d,rs,hd,q⟩;obtain⟨x,hx,h2⟩:=R.ok_of hd;cases x<;>first|(cases h2;done)|skip
 rename_i xs;obtain⟨l,hl,h3⟩:=R.ok_of h2;obtain⟨c,h4⟩:=aN h3;cases h4;refine⟨A,st,_,rs,hx,λv H1 s1 r1=>?_⟩
 obtain⟨p,vs,e,h6,r6⟩:=r1.lst;rw[aEk hl]at r6;rw[aHf r6]at h6;exact⟨p,l,by rw[e],h6,c.1,λn hn=>⟨n,_,rfl,bT,c.2,λm hm'=>q _ _ (s1.trans ((cI hn).trans (cI hm'))) (gK (rs.own.mono (s1.trans (cI hn))) hm' (aLk _))⟩⟩
end
section
variable {iter c:Expr} {t:Tg} {u:Ex}
def aLm(is:List Nat)(hsub:aDl is t)(S:CScope X scope is)(hi:L2.PI X tg iter (tIt X.K B it))(hg:∀(B:List Addr)(C:Addr)(s₀:Shared)(H₀:Hp)(fp:List Addr),PG (cQ X scope C s₀ H₀ fp) tg (tG X.K B t))
  (ht:∀(B:List Addr)(C:Addr)(s₀:Shared)(H₀:Hp)(fp:List Addr),PT (cQ X scope C s₀ H₀ fp) c (tT X.K B u))
  (he:∀(B:List Addr)(C:Addr)(s₀:Shared)(H₀:Hp)(fp:List Addr),PE (cQ X scope C s₀ H₀ fp) elt (tI X.K B f)) (hc:X.calm=true) (hs:∀x,foldedSetIterable iter X.env x=pure x:=by intro _;rfl) :
  PE X (.ListComp elt [⟨tg,iter,[c],0⟩] scope pos) (tF X.K B (bI is t it u f)):=by
 intro pins s σ H Q I h;obtain⟨A,st,d,rs,hd,q⟩:=h;obtain⟨xs,hx,h2⟩:=R.ok_of hd;obtain⟨hl,h3⟩:=aN h2;obtain⟨ys,hy,h4⟩:=R.ok_of h3;cases h4;rw[bLi];refine uN (use:=none) (Qf:=EP X pins σ Q) (Q:=Q) (tt:=tTx X.K u) (te:=tIx X.K f) (rest:=λenv it p=>isTrue c env (eval c env) >>= λok=>if ok=true then (eval elt env >>= λx=>call (.builtin "list.append") [p,x] >>= λ_=>again (.compLoop (.ListComp elt [⟨tg,iter,[c],0⟩] scope pos) 0 it p env)) else again (.compLoop (.ListComp elt [⟨tg,iter,[c],0⟩] scope pos) 0 it p env)) S hc hi (λC s₀ H₀ fp=>aUq λB=>hg B C s₀ H₀ fp) (λ_ _ _=>qZ)
  (λC s₀ H₀ fp it p s Q h=>bE3 (Y:=cQ X scope C s₀ H₀ fp) h) (λC s₀ H₀ fp it p τ H s pins vs N Q I h q=>aZf (Y:=cQ X scope C s₀ H₀ fp) rfl (aUp λB=>he B C s₀ H₀ fp) (bE6 λB=>ht B C s₀ H₀ fp) τ H s pins vs N Q I h (λ_ Q Q' m h=>yU Q Q' m h) q) hs I
  (aKv hsub (λτ H Q h=>h) rs hx hl hy λp vs H1 H' s1 hp s2 hv r=>?_) λC p H5 s5 m5 s3 H3 fp τ hC I3 hfp I5 hn5 q5=>⟨m5,hn5,λh' hs'=>⟨.ref p,H5,aBu I3 hfp hC I5 hs',rfl,q5⟩⟩
 obtain⟨G,g1,g2,g3,g4⟩:=bEc s1 hp s2 hv r;have:=q p vs G g1 g2 g4;rw[g3]at this;exact this
end
def aRk(a v d:Value):argsOk "min" ⟨[a],[(Str.ofString "key",v),(Str.ofString "default",d)]⟩:=by unfold argsOk;kernel_rfl
section
variable {σ:L2.St}
def aPo{k:Nat} {u:Value} {Q:VK} (F:FnOk X.prog X.w X.K X.mg X.base CX0 k fa fd ps (spI X.K np p)) (hr:Room (k+1) X.A) (hb:Binds X.K fd ps []) (I:Inv X pins σ H s) (r:RelV v u) (h:spI X.K np p [v] H Q E0) :
  wpAny (model X.prog X.w) X.A.in1 (call (.ref fa) [u]) (EP X pins σ Q) (λ_ _=>False) s:=by
 have r2:Vals [v] [u]:=.cons r .nil;have hl:[u].length=ps.length:=by rw[<-r2.length];exact F.len _ _ _ _ h
 have hb':=hb s [u] I.kIn (by simpa using hl)
 rw[bJn]at hb';refine wpAny_call (bIt (F.run X.A.in1 X.stack s H ⟨[u],[]⟩ [u] [v] Q E0 hr.in1 I.env0.in1 hb' r2 h) λr s' hq=>?_)
 cases r with
 |error e=>exact hq.elim
 |ok fl=>
  cases fl with
  |ret u=>exact I.after hq
  |next=>exact False.elim hq
  |brk=>exact False.elim hq
  |cont=>exact False.elim hq
def bC3{b:Addr}{us:List V}{ys:List D}{t:Bool} (hu:X.A.units+64<cLine) (I:Inv X pins σ H s) (ha:SqT X.K H a vs) (hb:SqT X.K H b us) (ra:bD X.K H xs vs) (rb:bD X.K H ys us) (hd:fZ xs<=60) (px:cZ xs=true) (py:cZ ys=true) (hl:aDu xs ys=.ok t) (q:Q (.bool t) s):wpAny (model X.prog X.w) X.A.in1 (richCompare .Lt (.ref a) (.ref b)) Q E s:=by
 obtain⟨its,r1,p1,_⟩:=I.tuple ha;obtain⟨its2,r2,p2,_⟩:=I.tuple hb;have hx:=aP8 I (A:=X.A.in1.in1) xs ys ra rb r1 r2 (by show X.A.units+1+1+fZ xs<cLine;omega) px py hl
 obtain⟨⟨cls,dd,data,sl⟩,ho,hc,n,hd⟩:=id p1;obtain⟨⟨cls2,dd2,data2,sl2⟩,ho2,hc2,n2,hd2⟩:=id p2;simp only at hc hd hc2 hd2;subst hc hd hc2 hd2;refine richCompare_meets_room (op:=.Lt) ⟨_,ho,rfl⟩ ⟨_,ho2,rfl⟩ PySem.F.slot_tuple_lt PySem.F.entry_tuple_lt (PySem.F.args_tuple_lt_2 _ _) (aQx a b its.toArray its2.toArray n n2 dd dd2 sl sl2 t) ⟨ho,ho2,?_,?_⟩ (by show X.A.units+1<cLine;omega)
 .exact hx
 .exact⟨(λx=>nomatch x),q⟩
def aVi {k : Nat}    {g : List D -> R D} (F : FnOk X.prog X.w X.K X.mg X.base CX0 k fa fd ps (spI X.K 1 g)) (hr : Room (k + 1) X.A) (hb : Binds X.K fd ps []) (hc : X.calm = true) (hu : X.A.units + 64 < cLine)
     {it S:Addr} {dv:Value} {r:D} {Q:VK} (hl:SqL X.K H l zs) (hz:bD X.K (hide (S::Z) H) ds zs) (hZ:Own Z H) (hli:l≠it) (hS:H S=none)
  (hQ:∀v H',bC H H'->Rep X.K (hide Z H') r v->Q v H'):∀(n j:Nat)(s':Shared)(H':Hp)(b kb:D)(vb vk:V),j+n=ds.length->Inv X pins σ H' s'->xH X pins H' it->s'.heap.IsListIter it l j->bC H H'->H' S=some (.lst [vb,vk])->
   Rep X.K (hide (S::Z) H') b vb->Rep X.K (hide (S::Z) H') kb vk->aB8 g b kb (ds.drop j)=.ok r->
   codeAny (model X.prog X.w) X.A (.builtin "min.loop" ⟨[.ref it,.ref fa,.ref S],[(Str.ofString "default",dv)]⟩) (λr s'=>match r with|.ok (.ret v)=>EP X pins σ Q v s'|.ok _=>False|.error e=>X.xe e s') s':=by
 have nm:(toString "min" ++ toString ".loop":String)="min.loop":=by decide
 have hln:=hz.length;intro n
 induction n with
 |zero=>
  intro j s' H' b kb vb vk hj I fp hit sm hs rb rk hbest;obtain⟨its,rv,pl,_⟩:=I.list (sm.seq hl);have W:=bM6 (prog:=X.prog) (w:=X.w) (A:=X.A.in1) (I.ok.hd hc) it l hli its.toArray;have hsz:its.toArray.size=j:=by rw[bGd,<-rv.length];omega
  obtain⟨_,its2,n2,r2,l2,o2⟩:=I.lstM hs;obtain⟨ub,w1,rfl,r3,r4⟩:=r2.two;refine bHd bJz ?_
  rw[bH3 bHk _];show wpAny _ X.A.in1 (seqItems? (.ref S) >>= _) _ _ s';refine bFs (bHf o2 rfl ?_);show wpAny _ X.A.in1 (tryCatch (pyNext (.ref it)) _ >>= _) _ _ s';refine bFs (bJ1 (W.done s' _ _ ⟨by rw[hsz];exact hit,pl.isList⟩ λh' tk kk=>?_))
  obtain⟨f1,f2,f3,f4,f5,f6⟩:=fp;have hSi:S≠it:=λz=>by rw[z,f1]at hs;cases hs
  have I1:=I.turned (t':=tk) (h':=h') (λb o hb e=>kk b o (by simpa using hb) e) f1 f2 f4 f5 f6
  have o3:=kk S _ (by simpa using hSi) o2
  show wpAny _ X.A.in1 (updateSeq S (λ_ => #[]) >>= _) _ _ _
  refine bFs ?_
  refine bHy o3 rfl (bFs (bJl (bFu ?_)));have I2:=I1.lset (t':=tk) (f:=λ_ => #[]) (its':=[]) (ys:=[]) hs o3 rfl .nil (bHp _)
  have e:b=r:=by
   rw[bJx (by omega)]at hbest
   cases hbest;rfl
  subst e;refine⟨vb,_,I2,r3,hQ vb _ (λb o e=>?_) ?_⟩
  .rw[bB (aZ e hS)];exact sm _ _ e
  .refine rb.mono λb o e=>?_
   unfold hide at e ⊢
   by_cases hbz:b∈S::Z
   .rw[bGa hbz]at e;cases e
   .rw[bG7 hbz]at e;rw[bG7 λz=>hbz (bFw _ z),bB λz=>hbz (by rw[z];exact bFx)]
    exact e
 |succ n ih=>
  intro j s' H' b kb vb vk hj I fp hit sm hs rb rk hbest;have hlt:j<ds.length:=by omega
  have hltz:j<zs.length:=by omega
  obtain⟨its,rv,pl,_⟩:=I.list (sm.seq hl);have W:=bM6 (prog:=X.prog) (w:=X.w) (A:=X.A.in1) (I.ok.hd hc) it l hli its.toArray;have hsz:its.toArray.size=zs.length:=by rw[bGd,<-rv.length]
  obtain⟨_,its2,n2,r2,l2,o2⟩:=I.lstM hs;obtain⟨ub,uk,rfl,r3,r4⟩:=r2.two;refine bHd bJz ?_
  rw[bH3 bHk _];show wpAny _ X.A.in1 (seqItems? (.ref S) >>= _) _ _ s';refine bFs (bHf o2 rfl ?_);show wpAny _ X.A.in1 (tryCatch (pyNext (.ref it)) _ >>= _) _ _ s';refine bFs (bJ1 (W.item j s' _ _ (by rw[hsz];exact hltz) ⟨hit,pl.isList⟩ λv h' tk hP hst' kk=>?_))
  obtain⟨f1,f2,f3,f4,f5,f6⟩:=id fp;have I1:=I.turned (t':=tk) (h':=h') (λb o hb e=>kk b o (by simpa using hb) e) f1 f2 f4 f5 f6
  obtain⟨oI,hoI,hoc,hod⟩:=id hst'.1;have rvj:RelV zs[j] v:=by
   obtain⟨u,hu,q⟩:=rv.get (i:=j) (x:=zs[j]) (bFv hltz);have:its[j]?=some v:=by simpa using hP
   rw[hu]at this;cases this;exact q
  have I2:Inv X (pins++[(it,oI)]) σ H' {s' with heap:=h',toks:=tk}:=I1.pins_of λq hq=>by
   rcases bGm.mp hq with hq|hq
   .exact I1.pin q (bG8 _ hq)
   .rw[bFz.mp hq];exact⟨hoI,f1,f2,f3,λv z=>by rw[hod]at z;cases z⟩
  have own:Own (S::Z) H':=λa ha=>by
   rcases bG0.mp ha with rfl|ha
   .rw[hs];rfl
   .exact hZ.mono sm a ha
  rw[bIn hlt]at hbest;obtain⟨kd,hk,h2⟩:=R.ok_of hbest;have rd:Rep X.K (hide (S::Z) H') ds[j] zs[j]:=by
   obtain⟨z,e,q⟩:=hz.get (bFv hlt);rw[bFv hltz]at e;cases e;exact q.mono (bC.hide sm)
  show wpAny _ X.A.in1 (tryCatch (holding [v] (call (.ref fa) [v])) _ >>= _) _ _ _;refine bFs (bJ1 (bGo (bI6 (aPo F hr hb I2 rvj ⟨S::Z,[ds[j]],kd,own,.cons rd .nil,rfl,hk,λv H2 s2 r2=>(⟨s2,r2⟩:bC H' H2/\Rep X.K (hide (S::Z) H2) kd v)⟩) (λu s2 he=>?_) λ_ _ z=>z.elim)))
  obtain⟨vk2,H2,I3,rv2,sm2,rk2⟩:=he;split at h2
  rotate_left
  .cases h2
  rename_i x y;obtain⟨⟨c1,c2,c3⟩,h3⟩:=aN h2;obtain⟨t,ht,h4⟩:=R.ok_of h3;obtain⟨a1,va,rfl,q1,q2⟩:=lY.mp rk2;obtain⟨a2,va2,rfl,q3,q4⟩:=lY.mp (rk.mono (bC.hide sm2));obtain rfl:u=Value.ref a1:=rv2;obtain rfl:uk=Value.ref a2:=r4;have pn:=I3.pin (it,oI) (bG8 _ (bG8 _ (bFz.mpr rfl)));have hit2:s2.heap.IsListIter it l (j+1):=⟨oI,pn.1,hoc,hod⟩;show wpAny _ X.A.in1 (tryCatch (holding [v,.ref a1] (richCompare .Lt (.ref a1) (.ref a2) >>= _)) _ >>= _) _ _ _;refine bFs (bJ1 (bGo (bFs (bC3 hu I3 (SqT.of (aX _ _ _ _ q1)) (SqT.of (aX _ _ _ _ q3)) (q2.mono (aX _ _)) (q4.mono (aX _ _)) c1 c2 c3 ht ?_))));refine bFs (bGo (bI7 ?_));refine bFs (bJl (bFu ?_));have fp2:xH X pins H2 it:=⟨pn.2.1,f2,f3,f4,f5,f6⟩;have sm3:bC H H2:=sm.trans sm2;have hs2:=sm2 _ _ hs;cases t with
  |true=>
   rw[bGa rfl]at h4;simp only[if_true];obtain⟨_,its3,n3,r5,l3,o3⟩:=I3.lstM hs2;refine bFs ?_
   refine bHy o3 rfl (bFs (bJl ?_));rw[nm];have I4:=I3.unpinned.lset (t':=s2.toks) (f:=λ_ => #[v,.ref a1]) (its':=[v,.ref a1]) (ys:=[zs[j],.ref a1]) hs2 o3 rfl (.cons rvj (.cons rfl .nil)) (by rw[bIi];show 2<=_;omega)
   have hd:hide (S::Z) (upd H2 S (.lst [zs[j],.ref a1]))=hide (S::Z) H2:=uM bFx;refine bFu ⟨bHt bHk _,ih (j+1) _ _ ds[j] (.tup x) zs[j] (.ref a1) (by omega) I4 ?_ ?_ (λb o e=>?_) bT (by rw[hd];exact rd.mono (bC.hide sm2)) (by rw[hd];exact rk2) h4⟩
   .refine⟨?_,f2,f3,f4,f5,f6⟩;rw[bB λz=>by rw[z,hs2]at pn;cases pn.2.1]
    exact pn.2.1
   .refine⟨oI,?_,hoc,hod⟩;rw[bGv _ _ λz=>by rw[<-z,hs2]at pn;cases pn.2.1]
    exact pn.1
   .rw[bB (aZ e hS)];exact sm3 _ _ e
  |false=>
   rw[bG7 bGh]at h4;simp only[false_eq_true,if_false];refine bFs (bJl ?_);rw[nm];exact bFu ⟨bHt bHk _,ih (j+1) _ _ b (.tup y) vb (.ref a2) (by omega) I3.unpinned fp2 hit2 sm3 hs2 (rb.mono (bC.hide sm2)) (rk.mono (bC.hide sm2)) h4⟩
end
section
variable{X:Cx}{B:List Addr}{e:Expr}{f:Ex}{pos p kp kp2 kpos kpos2:Pos}
def aRl {k : Nat}    {g : List D -> R D} (F : FnOk X.prog X.w X.K X.mg X.base CX0 k fa fd ps (spI X.K 1 g)) (hr : Room (k + 1) X.A) (hb : Binds X.K fd ps []) (hc : X.calm = true) (hu : X.A.units + 64 < cLine)
     {σ:L2.St} (I:Inv X pins σ H s) {r:D} {Q:VK} (hl:SqL X.K H l zs) (hz:bD X.K (hide Z H) ds zs) (hZ:Own Z H) (hm:aJw g (.lst ds)=.ok r)
  (hQ:∀v H',bC H H'->Rep X.K (hide Z H') r v->Q v H'):wpAny (model X.prog X.w) X.A (call (.builtin "min") [.ref l] [(Str.ofString "key",.ref fa),(Str.ofString "default",.none)]) (EP X pins σ Q) X.xe s:=by
 have nm:(toString "min" ++ toString ".loop":String)="min.loop":=by decide
 obtain⟨its,rv,pl,_⟩:=I.list hl;refine kmk_tree PySem.F.kind_min PySem.F.plain_min PySem.F.entry_min (aRk _ _ _) ?_
 show wpAny _ X.A.in1 (Builtin.Builtins.bindParams "min" ["key","default"] 0 ⟨[],[(Str.ofString "key",Value.ref fa),(Str.ofString "default",Value.none)]⟩ >>= _) _ _ s;refine bFs (bMf (show Builtin.Builtins.bindParams "min" ["key","default"] 0 ⟨[],[(Str.ofString "key",Value.ref fa),(Str.ofString "default",Value.none)]⟩=pure [some (Value.ref fa),some Value.none] from rfl) ?_)
 refine bFs (bFu ?_);refine bFs (bJe pl.isList ?_);refine bFs (bHe ?_);rw[nm];refine bFu ⟨bHt bHk _,?_⟩;have hli:l≠s.heap.objs.size:=by obtain⟨_,q,_⟩:=pl.isList;exact bGb (bG2 q)
 have I1:Inv X pins σ H {s with heap:=s.heap.push {cls:=.type "list_iterator",data:=.fields #[.ref l,.int 0 0]} }:=I.kept (t':=s.toks) λ_ _ q=>bFt _ q
 have hit1:(s.heap.push {cls:=.type "list_iterator",data:=.fields #[.ref l,.int 0 0]}).IsListIter s.heap.objs.size l 0:=⟨_,bG1 _ rfl,rfl,rfl⟩;have fp:xH X pins H s.heap.objs.size:=I.fpOk (bG4 _) I.fresh;have lts:s.heap.objs.size<(s.heap.push {cls:=.type "list_iterator",data:=.fields #[.ref l,.int 0 0]}).objs.size:=by rw[bGp];exact bIh _
 generalize s.heap.objs.size=it at *;generalize s.heap.push {cls:=.type "list_iterator",data:=.fields #[.ref l,.int 0 0]}=h1 at *;have I2:=I1.lnew (t':=s.toks) (its:=[]) (ys:=[]) .nil (bHp _);have hS:H h1.objs.size=none:=I1.fresh;have hit2:(h1.push {cls:=.type "list",data:=.seq ([]:List Value).toArray}).IsListIter it l 0:=let ⟨o,a,b,c⟩:=hit1;⟨o,bFt _ a,b,c⟩;have oS:(h1.push {cls:=.type "list",data:=.seq ([]:List Value).toArray}).get? h1.objs.size=some {cls:=.type "list",data:=.seq #[] 0}:=bG1 _ rfl;have nit:it≠h1.objs.size:=bGb lts;dsimp only at I2 oS hit2 hS ⊢;generalize h1.objs.size=S at *;generalize h1.push {cls:=.type "list",data:=.seq ([]:List Value).toArray}=h2 at *;have sm:bC H (upd H S (.lst [])):=cI hS;have hz':bD X.K (hide (S::Z) H) ds zs:=hz.mono λb o e=>by
  unfold hide at e ⊢
  by_cases hbz:b∈Z
  .rw[bGa hbz]at e;cases e
  .rw[bG7 hbz]at e;rw[bG7 λz=>(bG0.mp z).elim (λz=>by rw[z,hS]at e;cases e) hbz]
   exact e
 obtain⟨f1,f2,f3,f4,f5,f6⟩:=id fp;have f1':(upd H S (.lst [])) it=none:=by rw[bB nit];exact f1
 obtain⟨its,rv,pl,_⟩:=I2.list (sm.seq hl);have W:=bM6 (prog:=X.prog) (w:=X.w) (A:=X.A.in1) (I2.ok.hd hc) it l hli its.toArray;have hsz:its.toArray.size=zs.length:=by rw[bGd,<-rv.length]
 have hln:=hz.length;refine bHd bJz ?_
 rw[bH3 bHk _];show wpAny _ X.A.in1 (seqItems? (.ref S) >>= _) _ _ _;refine bFs (bHf oS rfl ?_);show wpAny _ X.A.in1 (tryCatch (pyNext (.ref it)) _ >>= _) _ _ _;cases ds with
 |nil=>
  have hz0:its.toArray.size=0:=by rw[hsz,hln];rfl
  refine bFs (bJ1 (W.done _ _ _ ⟨by rw[hz0];exact hit2,pl.isList⟩ λh' tk kk=>?_))
  have I3:=I2.turned (t':=tk) (h':=h') (λb o hb e=>kk b o (by simpa using hb) e) f1' f2 f4 f5 f6
  show wpAny _ X.A.in1 (rule _ >>= _) _ _ _;refine bFs (bK1 (bFu ?_));cases hm;exact⟨.non,_,I3,rfl,hQ _ _ sm (pR.mpr rfl)⟩
 |cons d ds=>
  have hlz:0<zs.length:=by rw[hln];exact Nat.succ_pos _
  refine bFs (bJ1 (W.item 0 _ _ _ (by rw[hsz];exact hlz) ⟨hit2,pl.isList⟩ λv h' tk hP hst' kk=>?_))
  have I3:=I2.turned (t':=tk) (h':=h') (λb o hb e=>kk b o (by simpa using hb) e) f1' f2 f4 f5 f6
  obtain⟨oI,hoI,hoc,hod⟩:=id hst'.1;have rvj:RelV zs[0] v:=by
   obtain⟨u,hu,q⟩:=rv.get (i:=0) (x:=zs[0]) (bFv hlz);have:its[0]?=some v:=by simpa using hP
   rw[hu]at this;cases this;exact q
  have I4:Inv X (pins++[(it,oI)]) σ _ _:=I3.pins_of λq hq=>by
   rcases bGm.mp hq with hq|hq
   .exact I3.pin q (bG8 _ hq)
   .rw[bFz.mp hq];exact⟨hoI,f1',f2,f3,λv z=>by rw[hod]at z;cases z⟩
  have own:Own (S::Z) (upd H S (.lst [])):=λa ha=>by
   rcases bG0.mp ha with rfl|ha
   .rw[bT];rfl
   .exact hZ.mono sm a ha
  obtain⟨kd,hk,h2⟩:=R.ok_of hm;have rd:Rep X.K (hide (S::Z) (upd H S (.lst []))) d zs[0]:=by
   obtain⟨z,e,q⟩:=hz'.get (i:=0) (d:=d) rfl;rw[bFv hlz]at e;cases e;exact q.mono (bC.hide sm)
  show wpAny _ X.A.in1 (tryCatch (holding [v] (call (.ref fa) [v])) _ >>= _) _ _ _;refine bFs (bJ1 (bGo (bI6 (aPo F hr hb I4 rvj ⟨S::Z,[d],kd,own,.cons rd .nil,rfl,hk,λv H2 s2 r2=>(⟨s2,r2⟩:bC (upd H S (.lst [])) H2/\Rep X.K (hide (S::Z) H2) kd v)⟩) (λu s2 he=>?_) λ_ _ z=>z.elim)))
  obtain⟨vk2,H2,I5,rv2,sm2,rk2⟩:=he;have hs2:H2 S=some (.lst []):=sm2 _ _ bT;have pn:=I5.pin (it,oI) (bG8 _ (bG8 _ (bFz.mpr rfl)));obtain⟨_,its3,n3,r5,l3,o3⟩:=I5.lstM hs2;show wpAny _ X.A.in1 (updateSeq S (λ_ => #[v,u]) >>= _) _ _ _
  refine bFs ?_
  refine bHy o3 rfl ?_
  rw[nm];have I6:=I5.unpinned.lset (t':=s2.toks) (f:=λ_ => #[v,u]) (its':=[v,u]) (ys:=[zs[0],vk2]) hs2 o3 rfl (.cons rvj (.cons rv2 .nil)) (by rw[bIi];show 2<=_;omega)
  have hd:hide (S::Z) (upd H2 S (.lst [zs[0],vk2]))=hide (S::Z) H2:=uM bFx;refine bFu ⟨bHt bHk _,aVi F hr hb hc hu hl hz' hZ hli hS hQ ds.length 1 _ _ d kd zs[0] vk2 (by rw[bGn];omega) I6 ?_ ?_ (λb o e=>?_) bT (by rw[hd];exact rd.mono (bC.hide sm2)) (by rw[hd];exact rk2) h2⟩
  .refine⟨?_,f2,f3,f4,f5,f6⟩;rw[bB nit];exact pn.2.1
  .refine⟨oI,?_,hoc,hod⟩;rw[bGv _ _ (bHx nit)];exact pn.1
  .rw[bB (aZ e hS)];exact sm2 _ _ (sm _ _ e)
def bC4{k jc:Nat}{g:List D->R D}(h:DefOk X.prog X.w X.K X.mg X.base x k 1 g)(hr:Room j X.A)(hk:k+1<=j)(hc:X.calm=true)(hu:X.A.units+64<cLine)(hm:X.mg "min"=none)(ha:PE X e (tI X.K B f))(hgx:Gl X x:=by rfl)(hdx:(x==("__debug__":Str))=false:=by decide)(hg:Gl X "min":=by rfl)
  (hs:starEach [e] X.env=(false,eval e X.env)::starEach [] X.env:=by rfl)
  (he:backTo pos (starEach [e] X.env)=(false,eval e X.env)::backTo pos (starEach [] X.env):=by rfl) (hplain:(backTo pos (starEach [e] X.env)).any (·.1)=false:=by rfl)
  (hall:(backToKw pos (keywordEach [⟨some "key",.Name x kp,kpos⟩,⟨some "default",.Constant .none jc kp2,kpos2⟩] X.env)).all (·.1.isSome)=true:=by rfl) (hkw:(backToKw pos (keywordEach [⟨some "key",.Name x kp,kpos⟩,⟨some "default",.Constant .none jc kp2,kpos2⟩] X.env)).any (·.1.isNone)=false:=by rfl)
  (hks:(backToKw pos (keywordEach [⟨some "key",.Name x kp,kpos⟩,⟨some "default",.Constant .none jc kp2,kpos2⟩] X.env)).filterMap (·.1)=[("key":Str),("default":Str)]:=by rfl) :
  PE X (.Call (.Name "min" p) [e] [⟨some "key",.Name x kp,kpos⟩,⟨some "default",.Constant .none jc kp2,kpos2⟩] pos) (tI X.K B (e1 (aJw g) f)):=by
 obtain⟨fa,fd,ps,F,m,kpn,bn⟩:=h.ex;intro pins s σ H Q I h;obtain⟨A,st,d,rs,hd,q⟩:=h;obtain⟨y,hy,h2⟩:=R.ok_of hd;obtain⟨ds,rfl⟩:∃ds,y=.lst ds:=by
  unfold aJw at h2;split at h2
  .exact⟨_,rfl⟩
  .exact⟨_,rfl⟩
  .cases h2
 refine bHz (sY I hg hm (by rfl) ?_ (by decide) (by decide))
 refine callWith_kw (thn (cT ha gC hs pos pins s σ H (λvs H1=>∃l zs,vs=[V.ref l]/\bC H H1/\SqL X.K H1 l zs/\bD X.K (hide (A++B) H1) ds zs) I ?_) λus s1 ⟨vs,H1,I1,r1,l,zs,e1,sm,q1,q2⟩=>?_) he hplain hall hkw
 .refine⟨A,st,_,rs,hy,λv H1 s1 r1=>?_⟩
  obtain⟨l,zs,rfl,hq,hr1⟩:=fB.mp r1;exact⟨l,zs,rfl,s1,(aX _ _).seq hq,hr1⟩
 .subst e1;obtain⟨u,rfl,ru⟩:=r1.one;obtain rfl:u=Value.ref l:=ru;refine kws_cons (thn (aDz (X:=X) (v:=.ref fa) (pos:=kp) hgx m rfl hdx pins s1 σ H1 (λb H2=>b=.ref fa/\H2=H1) I1 ⟨rfl,rfl⟩) λv s2 ⟨b,H2,I2,r2,e2,e3⟩=>?_)
  subst e2 e3;obtain rfl:v=Value.ref fa:=r2;refine kws_cons (thn (aRs (X:=X) pins s2 σ _ (λb H2=>b=.non/\H2=_) I2 ⟨rfl,rfl⟩) λv s3 ⟨b,H3,I3,r3,e4,e5⟩=>kws_nil ?_)
  subst e4 e5;obtain rfl:v=Value.none:=r3;rw[hks];exact aRl F (hr.mono hk) bn hc hu I3 q1 q2 (rs.own.mono sm) h2 λv H' s4 r4=>q v H' (sm.trans s4) r4
def aPp(K:Frag)(T:Addr)(bs:List Bool):Prop:=∃(o:Obj)(its:Array Value)(n:Nat),K.lookup T=some o/\o.cls=.type "tuple"/\o.data=.seq its n/\its.size<=sizeLine/\Vals (bs.map V.bl) its.toList
theorem aLn{K:Frag}{H:Hp}:∀(bs:List Bool),bD K H (bs.map D.bl) (bs.map V.bl)
 |[]=>.nil
 |_::bs=>.cons (cU.mpr rfl) (aLn bs)
def aYn{K:Frag} {T:Addr} {bs:List Bool} (hn:nsIn K mainGlobals (Str.ofString nF)=some (some (.ref T))) (gt:aPp K T bs):yO K (λx y H Q=>rIx K x y H Q\/bBb x y H Q) (aWp nF bs):=by
 intro A H x y d v u Q w rx ry e q;unfold aWp at e;split at e
 .rename_i g;obtain⟨rfl,e2⟩:=aN e;have ⟨i,hi⟩:∃i,y=.int i:=by
   cases y with
   |int i=>exact⟨i,rfl⟩
   |_=>cases e2
  subst hi;have h:=yP (show ofO (Pu.atI (bs.map D.bl) i)=.ok d from e2)
  have rx':Rep K (hide A H) (.fn g) v:=by
   rcases rx with h|⟨_,kk,_,_,_,e1,_⟩
   .exact h
   .cases kk<;>cases e1
  obtain⟨a,rfl,ha⟩:=aMr.mp rx';rw[hn]at ha;cases ha;obtain⟨z,h2,r2⟩:=(aLn (K:=K) (H:=hide A H) bs).atI h;exact .inl (.inr (.inl ⟨T,_,i,z,rfl,ry.int,.inr gt,h2,q _ H (bC.refl _) r2⟩))
 .exact aP1 A H x y d v u Q w rx ry e q
def bEh{a b:Expr} {T:Addr} {bs:List Bool} (hn:nsIn X.K mainGlobals (Str.ofString nF)=some (some (.ref T))) (gt:aPp X.K T bs) (hu:X.A.units+64<cLine) (ha:PE X a (tP X.K B f)) (hb:PE X b (tP X.K B g)) (hs:aHu b:=by intro _ _;rfl):PE X (.Subscript a b pos) (tI X.K B (e2 (aWp nF bs) f g)):=
 cO (aYt (aS8.or (aP0 hu)) ha hb hs) λ_ _ _ h=>aF6 (aYn hn gt) h
def aVj(st:PSt)(d:D)(h:e1 aGp f st=.ok d):∃xs,d=.lst xs:=by
 obtain⟨x,_,h2⟩:=R.ok_of h;unfold aGp at h2;split at h2
 .obtain⟨l,_,h3⟩:=R.ok_of h2;obtain⟨_,h4⟩:=aN h3;cases h4;exact⟨_,rfl⟩
 .cases h2
def aYo{a:Expr} (hm:X.mg "list"=none) (hc:X.calm=true) (ha:PE X a (tP X.K B f)) (hg:Gl X "list":=by rfl) (hs:starEach [a] X.env=(false,eval a X.env)::starEach [] X.env:=by rfl):PE X (.Call (.Name "list" p0) [a] [] pos) (tF X.K B (e1 aAk f)):=by
 refine cO (uA (aFk hc) hg hm (by rfl) (cT ha gC hs) (he:=hs)) ?_
 rintro σ H Q ⟨A,st,d,rs,hd,q⟩;obtain⟨x,hx,h2⟩:=R.ok_of hd;refine⟨A,st,x,rs,hx,λv H1 s1 r1=>?_⟩
 unfold aAk at h2;split at h2
 .obtain⟨c,h3⟩:=aN h2;cases h3;have w:=rs.own.mono s1;rcases r1 with h|⟨p,kk,o,ds',vs,e,e2,h,ko,r⟩
  .obtain⟨p,vs,rfl,h4,r4⟩:=rT.mp h;rcases h4 with ⟨h5,_⟩|⟨_,kvs,h5,rfl,rfl⟩
   .cases h5
   .exact⟨p,kvs,rfl,aX _ _ _ _ h5,λn ps hn hk=>q n _ H1 s1 hn (hk.reps w)⟩
  .cases kk<;>cases e;rcases ko with ⟨q0,_⟩|⟨_,kvs,rfl,rfl,rfl⟩
   .cases q0
   .exact⟨p,kvs,by rw[e2],h,λn ps hn hk=>q n _ H1 s1 hn (hk.reps w)⟩
 .cases h2
end
structure DefOkD(P:Program)(w:World)(K:Frag)(mg:Str->Option Value)(base:Heap)(x:Str)(k np:Nat)(dv:List D)(p:List D->R D):Prop where
 ex:∃(fa:Addr)(fd:FuncData)(ps:List Str)(ds:List Value)(dvs:List V),FnOk P w K mg base CX0 k fa fd ps (spI K np p)/\mg x=some (.ref fa)/\keepIn K (.ref fa)=true/\Binds K fd ps ds/\Vals dvs ds/\∀H,bD K H dv dvs
 len:∀ds d,p ds=.ok d->ds.length=np
section
def aVk{k:Nat} (h:DefOkD X.prog X.w X.K X.mg X.base x k np dv p) (hr:Room j X.A) (hk:k<=j) (ha:PA X (e::es) (tA X.K B r)) (hg:Gl X x:=by rfl) (hdb:(x==("__debug__":Str))=false:=by decide)
  (he:starEach (e::es) X.env=(false,eval e X.env)::starEach es X.env:=by rfl) (hpl:(backTo pos (starEach es X.env)).any (·.1)=false:=by rfl):PE X (.Call (.Name x p0) (e::es) [] pos) (tI X.K B (aMa p dv r)):=by
 obtain⟨fa,fd,ps,ds,dvs,F,m,kp,bd,v,rd⟩:=h.ex;refine cO (aNn F (hr.mono hk) hg m kp bd v aNp ha hdb he hpl) ?_
 rintro σ H Q ⟨A,st,d,rs,hd,q⟩;obtain⟨xs,hx,h2⟩:=R.ok_of hd;refine⟨A,st,xs,rs,hx,λvs H1 s1 r1=>?_⟩
 exact⟨A++B,xs++dv,d,rs.own.mono s1,r1.append (rd _),h.len _ _ h2,h2,λw H' s' r'=>q w H' (s1.trans s') r'⟩
end
end Pu
set_option maxHeartbeats 4000000
namespace Pu
open PySem PySem.Spec PyProof.Rows L2
def top(i:Nat):Stmt:=PySem.Challenge.pw_looprank_k52_wanted_words.main.body.getD i (.Pass ⟨0,0,0,0⟩)
def inCls(s:Stmt)(j:Nat):Stmt:=match s with
 |.ClassDef _ _ _ b _ _ _ _ _ _ _=>b.getD j (.Pass ⟨0,0,0,0⟩)
 |_=>.Pass ⟨0,0,0,0⟩
abbrev yV:Stmt:=top 43
abbrev aAw:Stmt:=top 44
abbrev tV:Stmt:=top 45
abbrev aAx:Stmt:=top 46
abbrev tW:Stmt:=top 47
abbrev aAy:Stmt:=top 48
abbrev aAz:Stmt:=top 23
abbrev aB0:Stmt:=top 24
abbrev aFq:Stmt:=top 25
abbrev yW:Stmt:=top 34
abbrev rB:Stmt:=top 35
abbrev aD3:Stmt:=top 22
abbrev vV:Stmt:=top 26
abbrev vW:Stmt:=top 27
abbrev tX:Stmt:=top 28
abbrev tY:Stmt:=top 36
abbrev nC:Stmt:=top 37
abbrev rC:Stmt:=top 38
abbrev tZ:Stmt:=top 39
abbrev nD:Stmt:=top 8
abbrev pC:Stmt:=top 31
abbrev rD:Stmt:=top 32
abbrev yX:Stmt:=top 20
abbrev aB1:Stmt:=top 12
abbrev aB2:Stmt:=top 13
abbrev jG:Stmt:=inCls (top 18) 1
abbrev fQ:Stmt:=inCls (top 33) 0
abbrev iT:Stmt:=top 40
abbrev vX:Stmt:=top 51
abbrev vY:Stmt:=top 49
abbrev nG:Stmt:=top 50
abbrev vZ:Stmt:=top 52
abbrev yZ:Stmt:=top 53
abbrev wA:Stmt:=top 54
abbrev iC:Stmt:=top 41
abbrev nH:Stmt:=top 14
abbrev aFr:Stmt:=top 15
abbrev zA:Stmt:=top 16
abbrev zB:Stmt:=top 17
abbrev eO:Stmt:=inCls (top 18) 0
abbrev aC0:Stmt:=top 55
theorem aC1:FnScope ["_law_script","_law_k"] ["_law_script","_law_k"] (aM yV):=⟨rfl,rfl,rfl,by decide+kernel,rfl,by decide+kernel,by decide+kernel⟩
theorem aDm:FnScope ["_law_cell_here","_law_k","_law_many","_law_number"] ["_law_cell_here","_law_k","_law_many"] (aM aAw):=⟨rfl,rfl,rfl,by decide+kernel,rfl,by decide+kernel,by decide+kernel⟩
theorem zE:FnScope ["_law_cell_here","_law_many","_law_count","_law_row","_law_k"] ["_law_cell_here","_law_many","_law_count"] (aM tV):=⟨rfl,rfl,rfl,by decide+kernel,rfl,by decide+kernel,by decide+kernel⟩
theorem aDn:FnScope ["_law_script","_law_start","_law_most","_law_count","_law_first_here","_law_many","_law_steps","_law_ranks","_law_k","_law_j","_law_rank"] ["_law_script","_law_start","_law_most","_law_count"] (aM aAx):=⟨rfl,rfl,rfl,by decide+kernel,rfl,by decide+kernel,by decide+kernel⟩
theorem zF:FnScope ["_law_cell_here","_law_steps","_law_ranks","_law_many","_law_way","_law_at","_law_twice","_law_k","_law_turned","_law_rank","_law_goal"] ["_law_cell_here","_law_steps","_law_ranks"] (aM tW):=⟨rfl,rfl,rfl,by decide+kernel,rfl,by decide+kernel,by decide+kernel⟩
theorem aDo:FnScope ["_law_script","_law_cell_here","_law_count","_law_most","_law_one_here","_law_other"] ["_law_script"] (aM aAy):=⟨rfl,rfl,rfl,by decide+kernel,rfl,by decide+kernel,by decide+kernel⟩
theorem aDp:FnScope ["bits","room"] ["bits","room"] (aM aAz):=⟨rfl,rfl,rfl,by decide+kernel,rfl,by decide+kernel,by decide+kernel⟩
theorem aDq:FnScope ["bits","room"] ["bits"] (aM aB0):=⟨rfl,rfl,rfl,by decide+kernel,rfl,by decide+kernel,by decide+kernel⟩
theorem aHk:FnScope ["sets","bits","rooms"] ["sets"] (aM aFq):=⟨rfl,rfl,rfl,by decide+kernel,rfl,by decide+kernel,by decide+kernel⟩
theorem aC2:FnScope ["wanted","p","q"] ["wanted","p","q"] (aM yW):=⟨rfl,rfl,rfl,by decide+kernel,rfl,by decide+kernel,by decide+kernel⟩
theorem wV:FnScope ["sides","wanted","found","p","q"] ["sides","wanted"] (aM rB):=⟨rfl,rfl,rfl,by decide+kernel,rfl,by decide+kernel,by decide+kernel⟩
theorem aFs:FnScope ["rooms","bits","room"] ["rooms"] (aM aD3):=⟨rfl,rfl,rfl,by decide+kernel,rfl,by decide+kernel,by decide+kernel⟩
theorem aAb:FnScope ["steps","allowed","rooms","seen","room","middle"] ["steps","allowed"] (aM vV):=⟨rfl,rfl,rfl,by decide+kernel,rfl,by decide+kernel,by decide+kernel⟩
theorem aAc:FnScope ["steps","part","rooms"] ["steps","part"] (aM vW):=⟨rfl,rfl,rfl,by decide+kernel,rfl,by decide+kernel,by decide+kernel⟩
theorem zG:FnScope ["steps","allowed","seen","parts","room","part","other"] ["steps","allowed"] (aM tX):=⟨rfl,rfl,rfl,by decide+kernel,rfl,by decide+kernel,by decide+kernel⟩
theorem zH:FnScope ["sides","p","q","ranks","place","pair"] ["sides","p","q"] (aM tY):=⟨rfl,rfl,rfl,by decide+kernel,rfl,by decide+kernel,by decide+kernel⟩
theorem rY:FnScope ["sides","part","places","place"] ["sides","part"] (aM nC):=⟨rfl,rfl,rfl,by decide+kernel,rfl,by decide+kernel,by decide+kernel⟩
theorem wW:FnScope ["sides","wanted","found","p","q","parts","part"] ["sides","wanted"] (aM rC):=⟨rfl,rfl,rfl,by decide+kernel,rfl,by decide+kernel,by decide+kernel⟩
theorem zJ:FnScope ["sides","wanted","start","words","met","turn","here","letter","goal","there"] ["sides","wanted","start"] (aM tZ):=⟨rfl,rfl,rfl,by decide+kernel,rfl,by decide+kernel,by decide+kernel⟩
theorem rZ:FnScope ["word"] ["word"] (aM nD):=⟨rfl,rfl,rfl,by decide+kernel,rfl,by decide+kernel,by decide+kernel⟩
theorem uQ:FnScope ["one","other"] ["one","other"] (aM pC):=⟨rfl,rfl,rfl,by decide+kernel,rfl,by decide+kernel,by decide+kernel⟩
theorem wX:FnScope ["one","other","steps","left","right"] ["one","other"] (aM rD):=⟨rfl,rfl,rfl,by decide+kernel,rfl,by decide+kernel,by decide+kernel⟩
theorem aC3:FnScope ["steps","start","allowed","ways","met","place","here","letter","room"] ["steps","start","allowed"] (aM yX):=⟨rfl,rfl,rfl,by decide+kernel,rfl,by decide+kernel,by decide+kernel⟩
theorem aDr:FnScope ["thing"] ["thing"] (aM aB1):=⟨rfl,rfl,rfl,by decide+kernel,rfl,by decide+kernel,by decide+kernel⟩
theorem aDs:FnScope ["thing","limit"] ["thing","limit"] (aM aB2):=⟨rfl,rfl,rfl,by decide+kernel,rfl,by decide+kernel,by decide+kernel⟩
theorem mQ:FnScope ["self","thing"] ["self","thing"] (aM jG):=⟨rfl,rfl,rfl,by decide+kernel,rfl,by decide+kernel,by decide+kernel⟩
theorem sE:FnScope ["self","one","other","left","right","steps","fronts","pair","goal"] ["self","one","other","left","right"] (aM fQ):=⟨rfl,rfl,rfl,by decide+kernel,rfl,by decide+kernel,by decide+kernel⟩
theorem zK:FnScope ["one","other","wanted","left","right","sides","places","words","place"] ["one","other","wanted","left","right"] (aM iT):=⟨rfl,rfl,rfl,by decide+kernel,rfl,by decide+kernel,by decide+kernel⟩
theorem aAd:FnScope ["_law_size","_law_count","_law_texts_here","_law_k","_law_more","_law_text","_law_j"] ["_law_size","_law_count"] (aM vX):=⟨rfl,rfl,rfl,by decide+kernel,rfl,by decide+kernel,by decide+kernel⟩
theorem aAe:FnScope ["_law_one_here","_law_other","_law_turn","_law_here","_law_there","_law_high","_law_low","_law_letter"] ["_law_one_here","_law_other","_law_turn","_law_here","_law_there"] (aM vY):=⟨rfl,rfl,rfl,by decide+kernel,rfl,by decide+kernel,by decide+kernel⟩
theorem sH:FnScope ["_law_one_here","_law_other","_law_wanted","_law_word","_law_left","_law_right_here","_law_front","_law_turn","_law_here","_law_there","_law_outcome","_law_goal","_law_aim"] ["_law_one_here","_law_other","_law_wanted","_law_word","_law_left","_law_right_here"] (aM nG):=⟨rfl,rfl,rfl,by decide+kernel,rfl,by decide+kernel,by decide+kernel⟩
theorem aAf:FnScope ["_law_one_here","_law_other","_law_wanted","_law_left","_law_right_here","_law_most","_law_count","_law_rows","_law_total","_law_size","_law_front","_law_turn"] ["_law_one_here","_law_other","_law_wanted","_law_left","_law_right_here","_law_most"] (aM vZ):=⟨rfl,rfl,rfl,by decide+kernel,rfl,by decide+kernel,by decide+kernel⟩
theorem aC4:FnScope ["_law_word","_law_count","_law_text","_law_sign"] ["_law_word","_law_count"] (aM yZ):=⟨rfl,rfl,rfl,by decide+kernel,rfl,by decide+kernel,by decide+kernel⟩
theorem aAg:FnScope ["_law_one_here","_law_other","_law_wanted","_law_left","_law_right_here","_law_word","_law_count","_law_most","_law_first_here"] ["_law_one_here","_law_other","_law_wanted","_law_left","_law_right_here","_law_word"] (aM wA):=⟨rfl,rfl,rfl,by decide+kernel,rfl,by decide+kernel,by decide+kernel⟩
theorem wY:FnScope ["one","other","left","right"] ["one","other","left","right"] (aM iC):=⟨rfl,rfl,rfl,by decide+kernel,rfl,by decide+kernel,by decide+kernel⟩
theorem sI:FnScope ["thing","most"] ["thing","most"] (aM nH):=⟨rfl,rfl,rfl,by decide+kernel,rfl,by decide+kernel,by decide+kernel⟩
theorem aHl:FnScope ["thing","letters","rooms","room"] ["thing","letters","rooms"] (aM aFr):=⟨rfl,rfl,rfl,by decide+kernel,rfl,by decide+kernel,by decide+kernel⟩
theorem aC5:FnScope ["thing","row"] ["thing"] (aM zA):=⟨rfl,rfl,rfl,by decide+kernel,rfl,by decide+kernel,by decide+kernel⟩
theorem aC6:FnScope ["thing","rooms","rank"] ["thing","rooms"] (aM zB):=⟨rfl,rfl,rfl,by decide+kernel,rfl,by decide+kernel,by decide+kernel⟩
theorem pH:FnScope ["self","steps","ranks","row"] ["self","steps","ranks"] (aM eO):=⟨rfl,rfl,rfl,by decide+kernel,rfl,by decide+kernel,by decide+kernel⟩
theorem aVl:FnScope ["_law_script","_law_first_here","_law_second","_law_found","_law_k","_law_word","_law_one_here","_law_other","_law_left","_law_right_here","_law_cell_here","_law_wanted","_law_step","_law_j"] ["_law_script"] (aM aC0):=⟨rfl,rfl,rfl,by decide+kernel,rfl,by decide+kernel,by decide+kernel⟩
section
variable{P:Program}{w:World}{K:Frag}{mg:Str->Option Value}{base:Heap}{fa:Addr}{fd:FuncData}{dV:Value}
variable(bU:mg "len"=none)
include bU in
theorem aLo(F:FunD K "_law_cell" "_law_cell" yV dV fa fd):FnOk P w K mg base CX0 1 fa fd ["_law_script","_law_k"] (spI K 2 dG):=by
 refine dN (k:=0) F aC1 2 2 aDe rfl rfl λcdv A outer s H E B hr=>?_
 have nd:=aC1.nd;refine aG ?_ ?_
 .exact lH (dZ aGh zY (toP (aB 1)) (toP (gQ bU (toP (aB 0)))) (cF _)) (aY (cA (bZ hr.units (toP (aB 0)) (toP (aB 1))))) gB
 refine aG ?_ ?_
 .exact lH (dZ (jR hr.units) jT (toP (gQ bU (toP (aB 0)))) (toP aL) (cF _)) (aY (cA (dJ (toP (mF (toP aL) (toP (aB 1)))) (toP aL)))) gB
 exact aY (cA (dJ (toP (bZ hr.units (toP (aB 0)) (toP (qX (toP (mF (toP (aB 1)) (toP aL))) (toP (gQ bU (toP (aB 0)))))))) (toP (mF (toP aL) (toP (aB 1))))))
theorem aNf(F:FunD K "_law_mix" "_law_mix" aAw dV fa fd):FnOk P w K mg base CX0 1 fa fd ["_law_cell_here","_law_k","_law_many"] (spI K 3 bF):=by
 refine dN (k:=0) F aDm 3 4 aEn rfl rfl λcdv A outer s H E B hr=>?_
 have nd:=aDm.nd;refine aG ?_ ?_
 .exact cB 3 (qX (toP (mF (toP (dJ (toP (dJ (toP (qX (toP (aB 0)) (toP aL))) (toP (mF (toP aL) (toP (aB 1)))))) (toP aL))) (toP aL))) (toP aL)) nd
 refine aG ?_ ?_
 .exact cB 3 (qX (toP (mF (toP (qX (toP (mF (toP (aB 3)) (toP (aB 3)))) (toP aL))) (toP aL))) (toP aL)) nd
 exact aY (cA (qX (toP (qX (toP (mF (toP (aB 3)) (toP (aB 3)))) (toP aL))) (toP (aB 2))))
variable(bV:mg "range"=none)
include bV in
theorem aG9(F:FunD K "_law_digits" "_law_digits" tV dV fa fd):FnOk P w K mg base CX0 1 fa fd ["_law_cell_here","_law_many","_law_count"] (spI K 3 nJ):=by
 refine dN (k:=0) F zE 3 5 aA1 rfl rfl λcdv A outer s H E B hr=>?_
 have nd:=zE.nd;refine aG ?_ ?_
 .exact vN 3 (aDk aQ) nd
 refine aG ?_ ?_
 .exact iY (oO bV (toP (aB 2))) (bK 4 nd) (aG (by exact aHc 3 (qX (toP (aB 0)) (toP (aB 1)))) (by exact aY (cB 0 (bB8 (toP (aB 0)) (toP (aB 1))) nd))) bGk rfl
 exact aY (aG6 [3] (cA (aB 3)))
variable(cV:DefOk P w K mg base "_law_cell" 1 2 dG)
variable(bR:DefOk P w K mg base "_law_mix" 1 3 bF)
variable(oA:DefOk P w K mg base "_law_digits" 1 3 nJ)
include bV cV bR oA in
theorem aNg(F:FunD K "_law_one" "_law_one" aAx dV fa fd):FnOk P w K mg base CX0 2 fa fd ["_law_script","_law_start","_law_most","_law_count"] (spI K 4 qG):=by
 refine dN (k:=1) F aDn 4 11 aAl rfl rfl λcdv A outer s H E B hr=>?_
 have nd:=aDn.nd;refine aG ?_ ?_
 .exact cB 4 (aO cV hr (by decide) (aD (aB 0) (aD (aB 1) aQ))) nd
 refine aG ?_ ?_
 .exact cB 5 (dJ (toP aL) (toP (aO bR hr (by decide) (aD (aB 4) (aD aL (aD (aB 2) aQ)))))) nd
 refine aG ?_ ?_
 .exact aAu 6 [8] eX (.of rfl) (oO bV (toP (aB 5))) (λ_ _ _ _ _=>bK 8 nd) (λ_ _ _ _ _=>gF [9] eX (.of rfl) (oO bV (toP (aB 3))) (λ_ _ _ _ _=>bK 9 nd) (λ_ _ _ _ _=>aO bR hr (by decide) (aD (aO cV hr (by decide) (aD (aB 0) (aD (dJ (toP (dJ (toP (aB 1)) (toP aL))) (toP (aB 8))) aQ))) (aD (aB 9) (aD (aB 5) aQ)))) rfl) rfl nd
 refine aG ?_ ?_
 .exact lH (dZ (jR hr.units) jT (toP (aO bR hr (by decide) (aD (aB 4) (aD aL (aD aL aQ))))) (toP aL) (cF _)) (aY (aAu 6 [8] eX (.of rfl) (oO bV (toP (aB 5))) (λ_ _ _ _ _=>bK 8 nd) (λ_ _ _ _ _=>aO oA hr (by decide) (aD (aO cV hr (by decide) (aD (aB 0) (aD (dJ (toP (dJ (toP (aB 1)) (toP aL))) (toP (aB 8))) aQ))) (aD (aB 5) (aD (aB 3) aQ)))) rfl nd)) gB
 refine aG ?_ ?_
 .exact aAu 7 [8] eX (.of rfl) (oO bV (toP (aB 5))) (λ_ _ _ _ _=>bK 8 nd) (λ_ _ _ _ _=>aO bR hr (by decide) (aD (aO cV hr (by decide) (aD (aB 0) (aD (dJ (toP (dJ (toP (aB 1)) (toP aL))) (toP (aB 8))) aQ))) (aD aL (aD (dJ (toP aL) (toP (aO bR hr (by decide) (aD (aB 4) (aD aL (aD aL aQ)))))) aQ)))) rfl nd
 refine aG ?_ ?_
 .exact lH (dZ (jR hr.units) jT (toP (aO bR hr (by decide) (aD (aB 4) (aD aL (aD aL aQ))))) (toP aL) (cF _)) (aY (aAu 7 [10] eX (.of rfl) (iM (aB 7)) (λ_ _ _ _ _=>bK 10 nd) (λ_ _ _ _ _=>dJ (toP (aB 10)) (toP (mF (toP (qX (toP (aO cV hr (by decide) (aD (aB 0) (aD (aB 1) aQ)))) (toP (bDy (toP aL) (toP aL))))) (toP aL)))) rfl nd)) gB
 exact aY (cA (wU (aD (aB 6) (aD (aB 7) aQ))))
include bU bV bR in
theorem aGa(F:FunD K "_law_beside" "_law_beside" tW dV fa fd):FnOk P w K mg base CX0 2 fa fd ["_law_cell_here","_law_steps","_law_ranks"] (spI K 3 iR):=by
 refine dN (k:=1) F zF 3 11 aA2 rfl rfl λcdv A outer s H E B hr=>?_
 have nd:=zF.nd;refine aG ?_ ?_
 .exact cB 3 (gQ bU (toP (aB 1))) nd
 refine aG ?_ ?_
 .exact cB 4 (aO bR hr (by decide) (aD (aB 0) (aD aL (aD aL aQ)))) nd
 refine aG ?_ ?_
 .exact lH (dZ (jR hr.units) jT (toP (aB 4)) (toP aL) (cF _)) (aY (cA (wU (aD (aB 1) (aD (gF [9] eX (.of rfl) (iM (aB 2)) (λ_ _ _ _ _=>bK 9 nd) (λ_ _ _ _ _=>dJ (toP (aB 9)) (toP aL)) rfl) aQ))))) gB
 refine aG ?_ ?_
 .exact lH (dZ (jR hr.units) jT (toP (aB 4)) (toP aL) (cF _)) (aG (by exact cB 5 (aO bR hr (by decide) (aD (aB 0) (aD aL (aD (aB 3) aQ)))) nd) (by exact aY (cA (wU (aD (aB 1) (aD (dJ (toP (dJ (toP (bBj (toP (aB 2)) aMz (aN0 (toP (aB 5))))) (toP (wU (aD (dJ (toP (bZ hr.units (toP (aB 2)) (toP (aB 5)))) (toP aL)) aQ))))) (toP (bBj (toP (aB 2)) (aN0 (toP (dJ (toP (aB 5)) (toP aL)))) aMz))) aQ)))))) gB
 refine aG ?_ ?_
 .exact lH (PW.pt (aKo (dZ (jR hr.units) jT (toP (aB 4)) (toP aL) (cF _)) (aF8 (dZ aGh zY (toP (aB 3)) (toP aL) (cF _))))) (aG (by exact vN 6 (aDk aQ) nd) (by exact aG (by exact iY (oO bV (toP (mF (toP aL) (toP (aB 3))))) (bK 7 nd) (aY (aHc 6 (gF [10] eX (.of rfl) (iM (bZ hr.units (toP (aB 1)) (toP (qX (toP (aB 7)) (toP (aB 3)))))) (λ_ _ _ _ _=>bK 10 nd) (λ_ _ _ _ _=>dJ (toP (aB 10)) (toP (mF (toP (aB 3)) (toP (aO bR hr (by decide) (aD (aB 0) (aD (dJ (toP (dJ (toP aL) (toP (mF (toP aL) (toP (aB 7)))))) (toP (aB 10))) (aD aL aQ)))))))) rfl))) bGk rfl) (by exact aY (aG6 [6] (cA (wU (aD (aB 6) (aD (dJ (toP (aB 2)) (toP (gF [9] eX (.of rfl) (iM (aB 2)) (λ_ _ _ _ _=>bK 9 nd) (λ_ _ _ _ _=>dJ (toP (aB 9)) (toP aL)) rfl))) aQ)))))))) gB
 refine aG ?_ ?_
 .exact lH (dZ (jR hr.units) jT (toP (aB 4)) (toP aL) (cF _)) (aG (by exact aAu 8 [7] eX (.of rfl) (oO bV (toP (aB 3))) (λ_ _ _ _ _=>bK 7 nd) (λ_ _ _ _ _=>gF [10] eX (.of rfl) (iM (bZ hr.units (toP (aB 1)) (toP (aUe (toP (aB 7)) (toP aL))))) (λ_ _ _ _ _=>bK 10 nd) (λ_ _ _ _ _=>qX (toP (dJ (toP (aB 10)) (toP aL))) (toP (aB 3))) rfl) rfl nd) (by exact aY (cA (wU (aD (aB 8) (aD (gF [7] eX (.of rfl) (oO bV (toP (aB 3))) (λ_ _ _ _ _=>bK 7 nd) (λ_ _ _ _ _=>bZ hr.units (toP (aB 2)) (toP (aUe (toP (aB 7)) (toP aL)))) rfl) aQ)))))) gB
 exact aY (cA (wU (aD (aB 1) (aD (gF [9] eX (.of rfl) (iM (aB 2)) (λ_ _ _ _ _=>bK 9 nd) (λ_ _ _ _ _=>dJ (toP (aB 9)) (toP aL)) rfl) aQ))))
variable(rE:DefOk P w K mg base "_law_one" 2 4 qG)
variable(oE:DefOk P w K mg base "_law_beside" 2 3 iR)
include bU cV bR rE oE in
theorem aNh(F:FunD K "_law_two" "_law_two" aAy dV fa fd):FnOk P w K mg base CX0 3 fa fd ["_law_script"] (spI K 1 vB):=by
 refine dN (k:=2) F aDo 1 6 aAm rfl rfl λcdv A outer s H E B hr=>?_
 have nd:=aDo.nd;refine aG ?_ ?_
 .exact cB 1 (aO cV hr (by decide) (aD (aB 0) (aD aL aQ))) nd
 refine aG ?_ ?_
 .exact cB 2 (dJ (toP aL) (toP (aO bR hr (by decide) (aD (aB 1) (aD aL (aD aL aQ)))))) nd
 refine aG ?_ ?_
 .exact cB 3 aL nd
 refine aG ?_ ?_
 .exact lH (dZ (jR hr.units) jT (toP (aO bR hr (by decide) (aD (aB 1) (aD aL (aD aL aQ))))) (toP aL) (cF _)) (aY (cB 3 aL nd)) gB
 refine aG ?_ ?_
 .exact cB 4 (aO rE hr (by decide) (aD (aB 0) (aD aL (aD (aB 3) (aD (aB 2) aQ))))) nd
 refine aG ?_ ?_
 .exact cB 5 (aO rE hr (by decide) (aD (aB 0) (aD aL (aD (aB 3) (aD (aB 2) aQ))))) nd
 refine aG ?_ ?_
 .exact lH (dZ aS0 aMw (toP (aO bR hr (by decide) (aD (aB 1) (aD aL (aD aL aQ))))) (toP aL) (cF _)) (aY (cB 5 (aO oE hr (by decide) (aD (aO cV hr (by decide) (aD (aB 0) (aD aL aQ))) (aD (bZ hr.units (toP (aB 4)) (toP aL)) (aD (bZ hr.units (toP (aB 4)) (toP aL)) aQ)))) nd)) gB
 exact aY (cA (wU (aD (aB 4) (aD (aB 5) (aD (aO bR hr (by decide) (aD (aB 1) (aD aL (aD (gQ bU (toP (bZ hr.units (toP (aB 4)) (toP aL)))) aQ)))) (aD (aO bR hr (by decide) (aD (aB 1) (aD aL (aD (gQ bU (toP (bZ hr.units (toP (aB 5)) (toP aL)))) aQ)))) aQ))))))
theorem aNi(F:FunD K "has_room" "has_room" aAz dV fa fd):FnOk P w K mg base CX0 1 fa fd ["bits","room"] (spI K 2 mU):=by
 refine dN (k:=0) F aDp 2 2 aAn rfl rfl λcdv A outer s H E B hr=>?_
 have nd:=aDp.nd;exact aY (cA (iV (jR hr.units) jT (toP (aV5 (toP (bEb (toP (aB 0)) (toP (aB 1)))) (toP aL))) (toP aL) (cF _)))
variable(gP:DefOk P w K mg base "has_room" 1 2 mU)
include bV gP in
theorem aNj(F:FunD K "rooms_of" "rooms_of" aB0 dV fa fd):FnOk P w K mg base CX0 2 fa fd ["bits"] (spI K 1 gM):=by
 refine dN (k:=1) F aDq 1 2 aAo rfl rfl λcdv A outer s H E B hr=>?_
 have nd:=aDq.nd;exact aY (cA (aBv [1] eX (.of rfl) (oO bV (toP (bBo (toP (aB 0))))) (λ_ _ _ _ _=>bK 1 nd) (λ_ _ _ _ _=>iK (aO gP hr (by decide) (aD (aB 0) (aD (aB 1) aQ)))) (λ_ _ _ _ _=>aB 1) rfl))
theorem aVm(F:FunD K "joined" "joined" aFq dV fa fd):FnOk P w K mg base CX0 1 fa fd ["sets"] (spI K 1 aBa):=by
 refine dN (k:=0) F aHk 1 3 aJx rfl rfl λcdv A outer s H E B hr=>?_
 have nd:=aHk.nd;refine aG ?_ ?_
 .exact cB 1 aL nd
 refine aG ?_ ?_
 .exact iY (iM (aB 0)) (bK 2 nd) (aY (cB 1 (aPe (toP (aB 1)) (toP (aB 2))) nd)) bGk rfl
 exact aY (cA (aB 1))
variable{V_JUST_ONE:Addr}(fv_JUST_ONE:nsIn K mainGlobals (Str.ofString "JUST_ONE")=some (some (.ref V_JUST_ONE)))
variable(lG:mg (Str.ofString "JUST_ONE")=some (.ref V_JUST_ONE))
variable(sJ:aPp K V_JUST_ONE [false,true,true,false])
include fv_JUST_ONE lG sJ in
theorem aLp(F:FunD K "is_wanted" "is_wanted" yW dV fa fd):FnOk P w K mg base CX0 1 fa fd ["wanted","p","q"] (spI K 3 lC):=by
 refine dN (k:=0) F aC2 3 3 aDf rfl rfl λcdv A outer s H E B hr=>?_
 have nd:=aC2.nd;exact aY (cA (bEh fv_JUST_ONE sJ hr.units (toP (aB 0)) (toP (dJ (toP (mF (toP (qX (toP (aB 1)) (toP aL))) (toP aL))) (toP (qX (toP (aB 2)) (toP aL)))))))
variable(jH:DefOk P w K mg base "is_wanted" 1 3 lC)
variable{A_Sides:Addr}(c_Sides:ClsAt K "Sides" A_Sides)
variable(bQ:eV K A_Sides (Str.ofString "lefts"))
variable(bM:eV K A_Sides (Str.ofString "rights"))
variable(oR:mg "sorted"=none)
variable(aLq:mg "set"=none)
include jH c_Sides bQ bM oR aLq in
theorem aFt(F:FunD K "wanted_ranks" "wanted_ranks" rB dV fa fd):FnOk P w K mg base CX0 2 fa fd ["sides","wanted"] (spI K 2 lL):=by
 refine dN (k:=1) F wV 2 5 xP rfl rfl λcdv A outer s H E B hr=>?_
 have nd:=wV.nd;refine aG ?_ ?_
 .exact vN 2 (aDk aQ) nd
 refine aG ?_ ?_
 .exact iY (iM (aLl oR aLq rfl (toP (gZ c_Sides bQ (toP (aB 0)))))) (bK 3 nd) (aY (aUy 2 (aLm [4] eX (.of rfl) (iM (aLl oR aLq rfl (toP (gZ c_Sides bM (toP (aB 0)))))) (λ_ _ _ _ _=>bK 4 nd) (λ_ _ _ _ _=>iK (aO jH hr (by decide) (aD (aB 1) (aD (aB 3) (aD (aB 4) aQ))))) (λ_ _ _ _ _=>qY (aD (aB 3) (aD (aB 4) aQ))) rfl))) bGk rfl
 exact aY (aG6 [2] (cA (aB 2)))
theorem aRm(F:FunD K "bits_of" "bits_of" aD3 dV fa fd):FnOk P w K mg base CX0 1 fa fd ["rooms"] (spI K 1 lE):=by
 refine dN (k:=0) F aFs 1 3 aCi rfl rfl λcdv A outer s H E B hr=>?_
 have nd:=aFs.nd;refine aG ?_ ?_
 .exact cB 1 aL nd
 refine aG ?_ ?_
 .exact iY (iM (aB 0)) (bK 2 nd) (aY (cB 1 (aPe (toP (aB 1)) (toP (aZj (toP aL) (toP (aB 2))))) nd)) bGk rfl
 exact aY (cA (aB 1))
variable(cW:DefOk P w K mg base "rooms_of" 2 1 gM)
variable(iU:DefOk P w K mg base "bits_of" 1 1 lE)
include gP cW iU in
theorem aJ6(F:FunD K "seen_among" "seen_among" vV dV fa fd):FnOk P w K mg base CX0 3 fa fd ["steps","allowed"] (spI K 2 pN):=by
 refine dN (k:=2) F aAb 2 6 aBb rfl rfl λcdv A outer s H E B hr=>?_
 have nd:=aAb.nd;refine aG ?_ ?_
 .exact cB 2 (aO cW hr (by decide) (aD (aB 1) aQ)) nd
 refine aG ?_ ?_
 .exact aXo 3 nd
 refine aG ?_ ?_
 .exact iY (iM (aB 2)) (bK 4 nd) (aY (aFg hr.units 3 (aB 4) (aV5 (toP (aPe (toP (aO iU hr (by decide) (aD (bZ hr.units (toP (aB 0)) (toP (aB 4))) aQ))) (toP (aZj (toP aL) (toP (aB 4)))))) (toP (aB 1))))) bGk rfl
 refine aG ?_ ?_
 .exact iY (iM (aB 2)) (bK 5 nd) (aY (iY (iM (aB 2)) (bK 4 nd) (aY (lH (iK (aO gP hr (by decide) (aD (bZ hr.units (iJ 3) (toP (aB 4))) (aD (aB 5) aQ)))) (aY (aFg hr.units 3 (aB 4) (aPe (toP (bZ hr.units (iJ 3) (toP (aB 4)))) (toP (bZ hr.units (iJ 3) (toP (aB 5))))))) gB)) bGk rfl)) bGk rfl
 exact aY (aG6 [3] (cA (aB 3)))
include bU cW in
theorem aJ7(F:FunD K "goes_round" "goes_round" vW dV fa fd):FnOk P w K mg base CX0 3 fa fd ["steps","part"] (spI K 2 pO):=by
 refine dN (k:=2) F aAc 2 3 aBc rfl rfl λcdv A outer s H E B hr=>?_
 have nd:=aAc.nd;refine aG ?_ ?_
 .exact cB 2 (aO cW hr (by decide) (aD (aB 1) aQ)) nd
 exact aY (cA (bE0 (iV aS0 aMw (toP (gQ bU (toP (aB 2)))) (toP aL) (cF _)) (aZd (iV (aUw hr.units) aUx (toP (bZ hr.units (toP (aB 2)) (toP aL))) (toP (bZ hr.units (toP (aB 0)) (toP (bZ hr.units (toP (aB 2)) (toP aL))))) rfl))))
variable(pU:DefOk P w K mg base "seen_among" 3 2 pN)
variable(pW:DefOk P w K mg base "goes_round" 3 2 pO)
include gP cW iU pU pW in
theorem aGb(F:FunD K "parts_among" "parts_among" tX dV fa fd):FnOk P w K mg base CX0 4 fa fd ["steps","allowed"] (spI K 2 nM):=by
 refine dN (k:=3) F zG 2 7 aA3 rfl rfl λcdv A outer s H E B hr=>?_
 have nd:=zG.nd;refine aG ?_ ?_
 .exact cB 2 (aO pU hr (by decide) (aD (aB 0) (aD (aB 1) aQ))) nd
 refine aG ?_ ?_
 .exact vN 3 (aDk aQ) nd
 refine aG ?_ ?_
 .exact iY (iM (aO cW hr (by decide) (aD (aB 1) aQ))) (bK 4 nd) (aG (by exact cB 5 (aO iU hr (by decide) (aD (aBv [6] eX (.of rfl) (iM (aO cW hr (by decide) (aD (bZ hr.units (toP (aB 2)) (toP (aB 4))) aQ))) (λ_ _ _ _ _=>bK 6 nd) (λ_ _ _ _ _=>iK (aO gP hr (by decide) (aD (bZ hr.units (toP (aB 2)) (toP (aB 6))) (aD (aB 4) aQ)))) (λ_ _ _ _ _=>aB 6) rfl) aQ)) nd) (by exact aY (lH (PW.pt (aKo (dZ (zU hr.units) zV (toP (aB 5)) (iJ 3) rfl) (aF8 (iK (aO pW hr (by decide) (aD (aB 0) (aD (aB 5) aQ))))))) (aY (aHc 3 (aB 5))) gB))) bGk rfl
 exact aY (aG6 [3] (cA (aB 3)))
variable(dO:mg "list"=none)
variable(uR:mg "zip"=none)
variable(sO:mg "enumerate"=none)
include c_Sides bQ bM iU dO uR sO in
theorem aGc(F:FunD K "kept_places" "kept_places" tY dV fa fd):FnOk P w K mg base CX0 2 fa fd ["sides","p","q"] (spI K 3 nO):=by
 refine dN (k:=1) F zH 3 6 aA4 rfl rfl λcdv A outer s H E B hr=>?_
 have nd:=zH.nd;refine aG ?_ ?_
 .exact cB 3 (aPj dO uR rfl (gZ c_Sides bQ (toP (aB 0))) (gZ c_Sides bM (toP (aB 0)))) nd
 exact aY (cA (aO iU hr (by decide) (aD (aBv [4,5] bE4 (.of rfl) (aXr sO (aB 3)) (λ_ _ _ _ _=>aBt rfl (eE 4 (eE 5 vO nd) nd)) (λ_ _ _ _ _=>PW.pt (aKo (dZ aRz aMv (toP (bZ hr.units (toP (aB 5)) (toP aL))) (toP (aB 1)) (cF _)) (aF8 (dZ aRz aMv (toP (bZ hr.units (toP (aB 5)) (toP aL))) (toP (aB 2)) (cF _))))) (λ_ _ _ _ _=>aB 4) rfl) aQ)))
variable(uT:mg "max"=none)
include c_Sides bQ bM cW uT in
theorem aD4(F:FunD K "greatest_ranks" "greatest_ranks" nC dV fa fd):FnOk P w K mg base CX0 3 fa fd ["sides","part"] (spI K 2 jK):=by
 refine dN (k:=2) F rY 2 4 uE rfl rfl λcdv A outer s H E B hr=>?_
 have nd:=rY.nd;refine aG ?_ ?_
 .exact cB 2 (aO cW hr (by decide) (aD (aB 1) aQ)) nd
 exact aY (cA (qY (aD (aZi uT rfl (toP (gF [3] eX (.of rfl) (iM (aB 2)) (λ_ _ _ _ _=>bK 3 nd) (λ_ _ _ _ _=>bZ hr.units (toP (gZ c_Sides bQ (toP (aB 0)))) (toP (aB 3))) rfl))) (aD (aZi uT rfl (toP (gF [3] eX (.of rfl) (iM (aB 2)) (λ_ _ _ _ _=>bK 3 nd) (λ_ _ _ _ _=>bZ hr.units (toP (gZ c_Sides bM (toP (aB 0)))) (toP (aB 3))) rfl))) aQ))))
variable(mG:DefOk P w K mg base "wanted_ranks" 2 2 lL)
variable(oF:DefOk P w K mg base "parts_among" 4 2 nM)
variable(oG:DefOk P w K mg base "kept_places" 2 3 nO)
variable(jM:DefOk P w K mg base "greatest_ranks" 3 2 jK)
variable(dD:eV K A_Sides (Str.ofString "steps"))
include c_Sides mG oF oG jM dD in
theorem aFu(F:FunD K "wanted_parts" "wanted_parts" rC dV fa fd):FnOk P w K mg base CX0 5 fa fd ["sides","wanted"] (spI K 2 lN):=by
 refine dN (k:=4) F wW 2 7 xT rfl rfl λcdv A outer s H E B hr=>?_
 have nd:=wW.nd;refine aG ?_ ?_
 .exact vN 2 (aDk aQ) nd
 refine aG ?_ ?_
 .exact iY (iM (aO mG hr (by decide) (aD (aB 0) (aD (aB 1) aQ)))) (aBt rfl (eE 3 (eE 4 vO nd) nd)) (aG (by exact cB 5 (aO oF hr (by decide) (aD (gZ c_Sides dD (toP (aB 0))) (aD (aO oG hr (by decide) (aD (aB 0) (aD (aB 3) (aD (aB 4) aQ)))) aQ))) nd) (by exact aY (aUy 2 (aLm [6] eX (.of rfl) (iM (aB 5)) (λ_ _ _ _ _=>bK 6 nd) (λ_ _ _ _ _=>dZ (jR hr.units) jT (toP (aO jM hr (by decide) (aD (aB 0) (aD (aB 6) aQ)))) (toP (qY (aD (aB 3) (aD (aB 4) aQ)))) (cF _)) (λ_ _ _ _ _=>aB 6) rfl)))) bGk rfl
 exact aY (aG6 [2] (cA (aB 2)))
variable{t_LETTERS:Tok}(g_LETTERS:mg "LETTERS"=some (.str "abc" t_LETTERS))
include bU jH c_Sides bQ bM dO uR uT dD g_LETTERS in
theorem aGd(F:FunD K "first_round" "first_round" tZ dV fa fd):FnOk P w K mg base CX0 2 fa fd ["sides","wanted","start"] (spI K 3 nP):=by
 refine dN (k:=1) F zJ 3 10 aA5 rfl rfl λcdv A outer s H E B hr=>?_
 have nd:=zJ.nd;refine aG ?_ ?_
 .exact aLb hr.units 3 (qY (aD (aB 2) (aD (aZh (toP aL)) (aD (aZh (toP aL)) aQ)))) (aDj []) nd
 refine aG ?_ ?_
 .exact vN 4 (aYo dO rfl (iJ 3)) nd
 refine aG ?_ ?_
 .exact cB 5 aL nd
 refine aG ?_ ?_
 .exact aP4 100000 (dZ aGh zY (toP (aB 5)) (toP (gQ bU (iJ 4))) (cF _)) (aG (by exact cB 6 (bZ hr.units (iJ 4) (toP (aB 5))) nd) (by exact aG (by exact iY (aV3 uR (aUc [97,98,99] g_LETTERS) (bZ hr.units (toP (gZ c_Sides dD (toP (aB 0)))) (toP (bZ hr.units (toP (aB 6)) (toP aL))))) (aBt rfl (eE 7 (eE 8 vO nd) nd)) (aG (by exact cB 9 (qY (aD (aB 8) (aD (aIv uT rfl (toP (bZ hr.units (toP (aB 6)) (toP aL))) (toP (bZ hr.units (toP (gZ c_Sides bQ (toP (aB 0)))) (toP (aB 8))))) (aD (aIv uT rfl (toP (bZ hr.units (toP (aB 6)) (toP aL))) (toP (bZ hr.units (toP (gZ c_Sides bM (toP (aB 0)))) (toP (aB 8))))) aQ)))) nd) (by exact aG (by exact lH (PW.pt (aKo (dZ (jR hr.units) jT (toP (aB 8)) (toP (aB 2)) (cF _)) (aF8 (iK (aO jH hr (by decide) (aD (aB 1) (aD (bZ hr.units (toP (aB 9)) (toP aL)) (aD (bZ hr.units (toP (aB 9)) (toP aL)) aQ)))))))) (aY (cA (dJ (toP (bZ hr.units (iJ 3) (toP (aB 6)))) (toP (aB 7))))) gB) (by exact aY (lH (dZ (zU hr.units) zV (toP (aB 9)) (iJ 3) rfl) (aG (by exact aFg hr.units 3 (aB 9) (dJ (toP (bZ hr.units (iJ 3) (toP (aB 6)))) (toP (aB 7)))) (by exact aY (aHc 4 (aB 9)))) gB)))) bGk rfl) (by exact aY (cB 5 (dJ (toP (aB 5)) (toP aL)) nd)))) bGk
 exact aY (cA aKn)
include bU in
theorem aD5(F:FunD K "place_in_order" "place_in_order" nD dV fa fd):FnOk P w K mg base CX0 1 fa fd ["word"] (spI K 1 bY):=by
 refine dN (k:=0) F rZ 1 1 uG rfl rfl λcdv A outer s H E B hr=>?_
 have nd:=rZ.nd;exact aY (cA (qY (aD (dJ (toP (gQ bU (toP (bZ hr.units (toP (aB 0)) (toP aL))))) (toP (gQ bU (toP (bZ hr.units (toP (aB 0)) (toP aL)))))) (aD (gQ bU (toP (bZ hr.units (toP (aB 0)) (toP aL)))) (aD (bZ hr.units (toP (aB 0)) (toP aL)) (aD (bZ hr.units (toP (aB 0)) (toP aL)) aQ))))))
variable{A_Machine:Addr}(c_Machine:ClsAt K "Machine" A_Machine)
variable(cX:eV K A_Machine (Str.ofString "letters"))
include c_Machine cX in
theorem aDy(F:FunD K "check_letters" "check_letters" pC dV fa fd):FnOk P w K mg base CX0 1 fa fd ["one","other"] (spI K 2 iQ):=by
 refine dN (k:=0) F uQ 2 2 oZ rfl rfl λcdv A outer s H E B hr=>?_
 have nd:=uQ.nd;exact aY (lH (dZ (aCy hr.units) aCz (toP (gZ c_Machine cX (toP (aB 0)))) (toP (gZ c_Machine cX (toP (aB 1)))) (cF _)) (aY aEc) gB)
variable(cM:eV K A_Machine (Str.ofString "many"))
variable(cC:eV K A_Machine (Str.ofString "steps"))
include bV dO uR c_Machine cM cC in
theorem aFv(F:FunD K "paired_steps" "paired_steps" rD dV fa fd):FnOk P w K mg base CX0 1 fa fd ["one","other"] (spI K 2 lO):=by
 refine dN (k:=0) F wX 2 5 qJ rfl rfl λcdv A outer s H E B hr=>?_
 have nd:=wX.nd;refine aG ?_ ?_
 .exact aXp 2 nd
 refine aG ?_ ?_
 .exact iY (oO bV (toP (gZ c_Machine cM (toP (aB 0))))) (bK 3 nd) (aY (iY (oO bV (toP (gZ c_Machine cM (toP (aB 1))))) (bK 4 nd) (aY (aFg hr.units 2 (qY (aD (aB 3) (aD (aB 4) aQ))) (aPj dO uR rfl (bZ hr.units (toP (gZ c_Machine cC (toP (aB 0)))) (toP (aB 3))) (bZ hr.units (toP (gZ c_Machine cC (toP (aB 1)))) (toP (aB 4)))))) bGk rfl)) bGk rfl
 exact aY (aG6 [2] (cA (aB 2)))
include bU uR g_LETTERS in
theorem aLr(F:FunD K "ways_from" "ways_from" yX dV fa fd):FnOk P w K mg base CX0 1 fa fd ["steps","start","allowed"] (spI K 3 rO):=by
 refine dN (k:=0) F aC3 3 9 xU rfl rfl λcdv A outer s H E B hr=>?_
 have nd:=aC3.nd;refine aG ?_ ?_
 .exact aLb hr.units 3 (aB 1) (aDj []) nd
 refine aG ?_ ?_
 .exact vN 4 (aDk (aD (aB 1) aQ)) nd
 refine aG ?_ ?_
 .exact cB 5 aL nd
 refine aG ?_ ?_
 .exact aP4 100000 (dZ aGh zY (toP (aB 5)) (toP (gQ bU (iJ 4))) (cF _)) (aG (by exact cB 6 (bZ hr.units (iJ 4) (toP (aB 5))) nd) (by exact aG (by exact iY (aV3 uR (aUc [97,98,99] g_LETTERS) (bZ hr.units (toP (aB 0)) (toP (aB 6)))) (aBt rfl (eE 7 (eE 8 vO nd) nd)) (aY (lH (PW.pt (aKo (dZ (aUw hr.units) aUx (toP (aB 8)) (toP (aB 2)) rfl) (aF8 (dZ (zU hr.units) zV (toP (aB 8)) (iJ 3) rfl)))) (aG (by exact aFg hr.units 3 (aB 8) (dJ (toP (bZ hr.units (iJ 3) (toP (aB 6)))) (toP (aB 7)))) (by exact aY (aHc 4 (aB 8)))) gB)) bGk rfl) (by exact aY (cB 5 (dJ (toP (aB 5)) (toP aL)) nd)))) bGk
 exact aY (aG6 [3] (cA (aB 3)))
variable(cJ:mg "isinstance"=none)
variable(aPq:mg "int"=none)
variable(aJ8:mg "bool"=none)
include cJ aPq aJ8 in
theorem aNk(F:FunD K "is_whole" "is_whole" aB1 dV fa fd):FnOk P w K mg base CX0 1 fa fd ["thing"] (spI K 1 jA):=by
 refine dN (k:=0) F aDr 1 1 vG rfl rfl λcdv A outer s H E B hr=>?_
 have nd:=aDr.nd;exact aY (cA (aAa (uO ty_int cJ aPq (toP (aB 0))) (yQ (bE1 (uO ty_bool cJ aJ8 (toP (aB 0)))))))
variable(kZ:DefOk P w K mg base "is_whole" 1 1 jA)
include kZ in
theorem aNl(F:FunD K "is_below" "is_below" aB2 dV fa fd):FnOk P w K mg base CX0 2 fa fd ["thing","limit"] (spI K 2 jB):=by
 refine dN (k:=1) F aDs 2 2 vH rfl rfl λcdv A outer s H E B hr=>?_
 have nd:=aDs.nd;exact aY (cA (aAa (aO kZ hr (by decide) (aD (aB 0) aQ)) (aAa (iV aS1 aMx (toP (aB 0)) (toP aL) (cF _)) (yQ (iV aGh zY (toP (aB 0)) (toP (aB 1)) (cF _))))))
variable(lA:DefOk P w K mg base "is_below" 2 2 jB)
include c_Machine cM lA in
theorem zL(F:FunD K "check_room" "Machine.check_room" jG dV fa fd):FnOk P w K mg base CX0 3 fa fd ["self","thing"] (spI K 2 cG):=by
 refine dN (k:=2) F mQ 2 2 jC rfl rfl λcdv A outer s H E B hr=>?_
 have nd:=mQ.nd;exact aY (lH (wR (iK (aO lA hr (by decide) (aD (aB 1) (aD (gZ c_Machine cM (toP (aB 0))) aQ))))) (aY aEc) gB)
variable(kE:DefOk P w K mg base "check_letters" 1 2 iQ)
variable(mH:DefOk P w K mg base "paired_steps" 1 2 lO)
variable(sU:DefOk P w K mg base "ways_from" 1 3 rO)
variable(dR:MethOk P w K mg base "Machine" "check_room" 3 2 [] cG)
variable(dU:eV K A_Sides (Str.ofString "pairs"))
variable(fJ:eV K A_Sides (Str.ofString "fronts"))
variable(cD:eV K A_Machine (Str.ofString "ranks"))
include c_Sides bQ bM oR dO dD c_Machine kE mH sU dR dU fJ cD in
theorem aD6(F:Fun K "__init__" "Sides.__init__" fQ fa fd):FnOk P w K mg base CX0 4 fa fd ["self","one","other","left","right"] (spM K "Sides" 4 jL):=by
 refine aP9 (k:=3) F sE "Sides" 4 9 gW rfl rfl λcdv A outer s H E B hr=>?_
 have nd:=sE.nd;refine aG ?_ ?_
 .exact aUh (aO kE hr (by decide) (aD (aB 1) (aD (aB 2) aQ)))
 refine aG ?_ ?_
 .exact aUh (aUz (pl:=_) dR hr (by decide) (aB 1) (aD (aB 3) aQ))
 refine aG ?_ ?_
 .exact aUh (aUz (pl:=_) dR hr (by decide) (aB 2) (aD (aB 4) aQ))
 refine aG ?_ ?_
 .exact cB 5 (aO mH hr (by decide) (aD (aB 1) (aD (aB 2) aQ))) nd
 refine aG ?_ ?_
 .exact cB 6 (aO sU hr (by decide) (aD (aB 5) (aD (qY (aD (aB 3) (aD (aB 4) aQ))) (aD (aXy dO rfl (aB 5)) aQ)))) nd
 refine aG ?_ ?_
 .exact vR 0 c_Sides dU (bBq (bBt oR rfl (aB 6)) aVj)
 refine aG ?_ ?_
 .exact vR 0 c_Sides fJ (gF [7] eX (.of rfl) (iM (gZ c_Sides dU (iJ 0))) (λ_ _ _ _ _=>bK 7 nd) (λ_ _ _ _ _=>bZ hr.units (toP (aB 6)) (toP (aB 7))) rfl)
 refine aG ?_ ?_
 .exact vR 0 c_Sides dD (gF [7] eX (.of rfl) (iM (gZ c_Sides dU (iJ 0))) (λ_ _ _ _ _=>bK 7 nd) (λ_ _ _ _ _=>gF [8] eX (.of rfl) (iM (bZ hr.units (toP (aB 5)) (toP (aB 7)))) (λ_ _ _ _ _=>bK 8 nd) (λ_ _ _ _ _=>aR9 hr.units (toP (gZ c_Sides dU (iJ 0))) (aD (aB 8) aQ)) rfl) rfl)
 refine aG ?_ ?_
 .exact vR 0 c_Sides bQ (gF [7] eX (.of rfl) (iM (gZ c_Sides dU (iJ 0))) (λ_ _ _ _ _=>bK 7 nd) (λ_ _ _ _ _=>bZ hr.units (toP (gZ c_Machine cD (toP (aB 1)))) (toP (bZ hr.units (toP (aB 7)) (toP aL)))) rfl)
 exact aY (vR 0 c_Sides bM (gF [7] eX (.of rfl) (iM (gZ c_Sides dU (iJ 0))) (λ_ _ _ _ _=>bK 7 nd) (λ_ _ _ _ _=>bZ hr.units (toP (gZ c_Machine cD (toP (aB 2)))) (toP (bZ hr.units (toP (aB 7)) (toP aL)))) rfl))
variable(aC7:DefOk P w K mg base "joined" 1 1 aBa)
variable(mJ:DefOk P w K mg base "wanted_parts" 5 2 lN)
variable(oH:DefOk P w K mg base "first_round" 2 3 nP)
variable(jN:DefOk P w K mg base "place_in_order" 1 1 bY)
variable(aEf:MakeOk P w K mg base "Sides" 4 4 jL)
variable(aFw:mg "min"=none)
include c_Sides cW fJ aC7 mJ oH jN aEf aFw in
theorem aGe(F:FunD K "wanted_word" "wanted_word" iT dV fa fd):FnOk P w K mg base CX0 6 fa fd ["one","other","wanted","left","right"] (spI K 5 fO):=by
 refine dN (k:=5) F zK 5 9 aA7 rfl rfl λcdv A outer s H E B hr=>?_
 have nd:=zK.nd;refine aG ?_ ?_
 .exact cB 5 (aN7 aEf hr (by decide) (aD (aB 0) (aD (aB 1) (aD (aB 3) (aD (aB 4) aQ))))) nd
 refine aG ?_ ?_
 .exact cB 6 (aO cW hr (by decide) (aD (aO aC7 hr (by decide) (aD (aO mJ hr (by decide) (aD (aB 5) (aD (aB 2) aQ))) aQ)) aQ)) nd
 refine aG ?_ ?_
 .exact aAu 7 [8] eX (.of rfl) (iM (aB 6)) (λ_ _ _ _ _=>bK 8 nd) (λ_ _ _ _ _=>qY (aD (bZ hr.units (toP (gZ c_Sides fJ (toP (aB 5)))) (toP (aB 8))) (aD (aO oH hr (by decide) (aD (aB 5) (aD (aB 2) (aD (aB 8) aQ)))) aQ))) rfl nd
 exact aY (cA (bC4 jN hr (by decide) rfl hr.units aFw (aB 7)))
include bV in
theorem aJ9(F:FunD K "_law_texts" "_law_texts" vX dV fa fd):FnOk P w K mg base CX0 1 fa fd ["_law_size","_law_count"] (spI K 2 pP):=by
 refine dN (k:=0) F aAd 2 7 aBd rfl rfl λcdv A outer s H E B hr=>?_
 have nd:=aAd.nd;refine aG ?_ ?_
 .exact cB 2 (wU (aD (aDj []) aQ)) nd
 refine aG ?_ ?_
 .exact iY (oO bV (toP (aB 0))) (bK 3 nd) (aG (by exact vN 4 (aDk aQ) nd) (by exact aG (by exact iY (iM (aB 2)) (bK 5 nd) (aY (aUy 4 (bBp [6] eX (.of rfl) (oO bV (toP (aB 1))) (λ_ _ _ _ _=>bK 6 nd) (λ_ _ _ _ _=>dJ (toP (aB 5)) (toP (bZ hr.units (toP (aDj [97,98,99])) (toP (aB 6))))) rfl))) bGk rfl) (by exact aY (aG6 [4] (cB 2 (aB 4) nd))))) bGk rfl
 exact aY (cA (aB 2))
include uT in
theorem aJa(F:FunD K "_law_round" "_law_round" vY dV fa fd):FnOk P w K mg base CX0 1 fa fd ["_law_one_here","_law_other","_law_turn","_law_here","_law_there"] (spI K 5 lQ):=by
 refine dN (k:=0) F aAe 5 8 aBe rfl rfl λcdv A outer s H E B hr=>?_
 have nd:=aAe.nd;refine aG ?_ ?_
 .exact cB 5 aL nd
 refine aG ?_ ?_
 .exact cB 6 aL nd
 refine aG ?_ ?_
 .exact iY (iM (aB 2)) (bK 7 nd) (aG (by exact cB 5 (aIv uT rfl (toP (aB 5)) (toP (bZ hr.units (toP (bZ hr.units (toP (aB 0)) (toP aL))) (toP (aB 3))))) nd) (by exact aG (by exact cB 6 (aIv uT rfl (toP (aB 6)) (toP (bZ hr.units (toP (bZ hr.units (toP (aB 1)) (toP aL))) (toP (aB 4))))) nd) (by exact aG (by exact cB 3 (bZ hr.units (toP (bZ hr.units (toP (bZ hr.units (toP (aB 0)) (toP aL))) (toP (aB 3)))) (toP (aP7 (toP (aDj [97,98,99])) (aD (aB 7) aQ)))) nd) (by exact aY (cB 4 (bZ hr.units (toP (bZ hr.units (toP (bZ hr.units (toP (aB 1)) (toP aL))) (toP (aB 4)))) (toP (aP7 (toP (aDj [97,98,99])) (aD (aB 7) aQ)))) nd))))) bGk rfl
 exact aY (cA (wU (aD (aB 3) (aD (aB 4) (aD (dJ (toP (mF (toP aL) (toP (qX (toP (aB 5)) (toP aL))))) (toP (qX (toP (aB 6)) (toP aL)))) aQ)))))
variable(mK:DefOk P w K mg base "_law_round" 1 5 lQ)
include mK in
theorem aD7(F:FunD K "_law_is_wanted" "_law_is_wanted" nG dV fa fd):FnOk P w K mg base CX0 2 fa fd ["_law_one_here","_law_other","_law_wanted","_law_word","_law_left","_law_right_here"] (spI K 6 dH):=by
 refine dN (k:=1) F sH 6 13 uI rfl rfl λcdv A outer s H E B hr=>?_
 have nd:=sH.nd;refine aG ?_ ?_
 .exact aP3 (aB 3) (aBt rfl (eE 6 (eE 7 vO nd) nd))
 refine aG ?_ ?_
 .exact aP3 (aO mK hr (by decide) (aD (aB 0) (aD (aB 1) (aD (aB 6) (aD (aB 4) (aD (aB 5) aQ)))))) (aBt rfl (eE 8 (eE 9 (eE 10 vO nd) nd) nd))
 refine aG ?_ ?_
 .exact aP3 (aO mK hr (by decide) (aD (aB 0) (aD (aB 1) (aD (aB 7) (aD (aB 8) (aD (aB 9) aQ)))))) (aBt rfl (eE 11 (eE 12 (eE 10 vO nd) nd) nd))
 exact aY (cA (aAa (iV (jR hr.units) jT (toP (qY (aD (aB 11) (aD (aB 12) aQ)))) (toP (qY (aD (aB 8) (aD (aB 9) aQ)))) (cF _)) (yQ (bZ hr.units (toP (aB 2)) (toP (aB 10))))))
variable(pX:DefOk P w K mg base "_law_texts" 1 2 pP)
variable(eQ:DefOk P w K mg base "_law_is_wanted" 2 6 dH)
include bU bV pX eQ in
theorem aJb(F:FunD K "_law_first" "_law_first" vZ dV fa fd):FnOk P w K mg base CX0 3 fa fd ["_law_one_here","_law_other","_law_wanted","_law_left","_law_right_here","_law_most"] (spI K 6 fM):=by
 refine dN (k:=2) F aAf 6 12 aBf rfl rfl λcdv A outer s H E B hr=>?_
 have nd:=aAf.nd;refine aG ?_ ?_
 .exact cB 6 (gQ bU (toP (bZ hr.units (toP (bZ hr.units (toP (aB 0)) (toP aL))) (toP aL)))) nd
 refine aG ?_ ?_
 .exact aAu 7 [9] eX (.of rfl) (oO bV (toP (dJ (toP (aB 5)) (toP aL)))) (λ_ _ _ _ _=>bK 9 nd) (λ_ _ _ _ _=>aO pX hr (by decide) (aD (aB 9) (aD (aB 6) aQ))) rfl nd
 refine aG ?_ ?_
 .exact iY (bE2 bV (toP aL) (toP (dJ (toP (aB 5)) (toP aL)))) (bK 8 nd) (aY (iY (oO bV (toP (aB 8))) (bK 9 nd) (aY (iY (iM (bZ hr.units (toP (aB 7)) (toP (aB 9)))) (bK 10 nd) (aY (iY (iM (bZ hr.units (toP (aB 7)) (toP (aUe (toP (aB 8)) (toP (aB 9)))))) (bK 11 nd) (aY (lH (iK (aO eQ hr (by decide) (aD (aB 0) (aD (aB 1) (aD (aB 2) (aD (qY (aD (aB 10) (aD (aB 11) aQ))) (aD (aB 3) (aD (aB 4) aQ)))))))) (aY (cA (qY (aD (aB 10) (aD (aB 11) aQ))))) gB)) bGk rfl)) bGk rfl)) bGk rfl)) bGk rfl
 exact aY (cA aKn)
variable(wC:mg "tuple"=none)
variable(aPr:mg "str"=none)
include bU cJ wC aPr in
theorem aLs(F:FunD K "_law_form" "_law_form" yZ dV fa fd):FnOk P w K mg base CX0 1 fa fd ["_law_word","_law_count"] (spI K 2 lF):=by
 refine dN (k:=0) F aC4 2 4 aDg rfl rfl λcdv A outer s H E B hr=>?_
 have nd:=aC4.nd;refine aG ?_ ?_
 .exact lH (PW.pt (aXf (wR (iK (uO ty_tuple cJ wC (toP (aB 0))))) (aOy (dZ (aCy hr.units) aCz (toP (gQ bU (toP (aB 0)))) (toP aL) (cF _))))) (aY (cA aCv)) gB
 refine aG ?_ ?_
 .exact iY (iM (aB 0)) (bK 2 nd) (aY (lH (PW.pt (aXf (wR (iK (uO ty_str cJ aPr (toP (aB 2))))) (aOy (dZ (aCy hr.units) aCz (toP (aBv [3] eX (.of rfl) (iM (aB 2)) (λ_ _ _ _ _=>bK 3 nd) (λ_ _ _ _ _=>dZ (zU hr.units) zV (toP (aB 3)) (toP (bBj (toP (aDj [97,98,99])) aMz (aN0 (toP (aB 1))))) rfl) (λ_ _ _ _ _=>aB 3) rfl)) (toP (wU aQ)) (cF _))))) (aY (cA aCv)) gB)) bGk rfl
 exact aY (cA (iV (aCy hr.units) aCz (toP (bZ hr.units (toP (aB 0)) (toP aL))) (toP (aDj [])) (cF _)))
variable(mL:DefOk P w K mg base "_law_first" 3 6 fM)
variable(sV:DefOk P w K mg base "_law_form" 1 2 lF)
include bU aFw eQ mL sV in
theorem aJc(F:FunD K "_law_right" "_law_right" wA dV fa fd):FnOk P w K mg base CX0 4 fa fd ["_law_one_here","_law_other","_law_wanted","_law_left","_law_right_here","_law_word"] (spI K 6 lW):=by
 refine dN (k:=3) F aAg 6 9 vI rfl rfl λcdv A outer s H E B hr=>?_
 have nd:=aAg.nd;refine aG ?_ ?_
 .exact cB 6 (gQ bU (toP (bZ hr.units (toP (bZ hr.units (toP (aB 0)) (toP aL))) (toP aL)))) nd
 refine aG ?_ ?_
 .exact cB 7 (bZ hr.units (toP (wU (aD aL (aD aL (aD aL (aD aL aQ)))))) (toP (aB 6))) nd
 refine aG ?_ ?_
 .exact lH (dZ aN5 aN6 (toP (aB 5)) (toP aKn) (cF _)) (aY (cA (iV aN5 aN6 (toP (aO mL hr (by decide) (aD (aB 0) (aD (aB 1) (aD (aB 2) (aD (aB 3) (aD (aB 4) (aD (aB 7) aQ)))))))) (toP aKn) (cF _)))) gB
 refine aG ?_ ?_
 .exact lH (PW.pt (aXf (wR (iK (aO sV hr (by decide) (aD (aB 5) (aD (aB 6) aQ))))) (aOy (wR (iK (aO eQ hr (by decide) (aD (aB 0) (aD (aB 1) (aD (aB 2) (aD (aB 5) (aD (aB 3) (aD (aB 4) aQ)))))))))))) (aY (cA aCv)) gB
 refine aG ?_ ?_
 .exact cB 8 (aO mL hr (by decide) (aD (aB 0) (aD (aB 1) (aD (aB 2) (aD (aB 3) (aD (aB 4) (aD (bBl aFw rfl (toP (aB 7)) (toP (dJ (toP (gQ bU (toP (bZ hr.units (toP (aB 5)) (toP aL))))) (toP (gQ bU (toP (bZ hr.units (toP (aB 5)) (toP aL)))))))) aQ))))))) nd
 exact aY (cA (bE0 (aAa (iV aN5 aN6 (toP (aB 8)) (toP aKn) (cF _)) (yQ (iV aS0 aMw (toP (dJ (toP (gQ bU (toP (bZ hr.units (toP (aB 5)) (toP aL))))) (toP (gQ bU (toP (bZ hr.units (toP (aB 5)) (toP aL))))))) (toP (aB 7)) (cF _)))) (aZd (iV (jR hr.units) jT (toP (aB 8)) (toP (aB 5)) (cF _)))))
variable(fP:DefOk P w K mg base "wanted_word" 6 5 fO)
include fv_JUST_ONE lG fP in
theorem aFx(F:FunD K "parting_word" "parting_word" iC dV fa fd):FnOk P w K mg base CX0 7 fa fd ["one","other","left","right"] (spI K 4 fU):=by
 refine dN (k:=6) F wY 4 4 yD rfl rfl λcdv A outer s H E B hr=>?_
 have nd:=wY.nd;exact aY (cA (aO fP hr (by decide) (aD (aB 0) (aD (aB 1) (aD (bEe fv_JUST_ONE lG) (aD (aB 2) (aD (aB 3) aQ)))))))
include bU dO cJ in
theorem aD8(F:FunD K "is_filled_list" "is_filled_list" nH dV fa fd):FnOk P w K mg base CX0 1 fa fd ["thing","most"] (spI K 2 eN):=by
 refine dN (k:=0) F sI 2 2 mZ rfl rfl λcdv A outer s H E B hr=>?_
 have nd:=sI.nd;exact aY (cA (aAa (uO ty_list cJ dO (toP (aB 0))) (aAa (iV aS1 aMx (toP (gQ bU (toP (aB 0)))) (toP aL) (cF _)) (yQ (iV aRz aMv (toP (gQ bU (toP (aB 0)))) (toP (aB 1)) (cF _))))))
variable(zM:mg "all"=none)
include bU lA zM in
theorem aVn(F:FunD K "is_row" "is_row" aFr dV fa fd):FnOk P w K mg base CX0 3 fa fd ["thing","letters","rooms"] (spI K 3 aBg):=by
 refine dN (k:=2) F aHl 3 4 aEp rfl rfl λcdv A outer s H E B hr=>?_
 have nd:=aHl.nd;exact aY (cA (aAa (iV (jR hr.units) jT (toP (gQ bU (toP (aB 0)))) (toP (aB 1)) (cF _)) (yQ (aPc zM rfl (toP (gF [3] eX (.of rfl) (iM (aB 0)) (λ_ _ _ _ _=>bK 3 nd) (λ_ _ _ _ _=>aO lA hr (by decide) (aD (aB 3) (aD (aB 2) aQ))) rfl))))))
variable(iD:DefOk P w K mg base "is_filled_list" 1 2 eN)
variable(aC8:DefOk P w K mg base "is_row" 3 3 aBg)
variable{t_MOST_ROOMS:Tok}(g_MOST_ROOMS:mg "MOST_ROOMS"=some (.int 8 t_MOST_ROOMS))
variable{t_MOST_LETTERS:Tok}(g_MOST_LETTERS:mg "MOST_LETTERS"=some (.int 3 t_MOST_LETTERS))
include bU zM iD aC8 g_MOST_ROOMS g_MOST_LETTERS in
theorem aLt(F:FunD K "are_steps" "are_steps" zA dV fa fd):FnOk P w K mg base CX0 4 fa fd ["thing"] (spI K 1 rP):=by
 refine dN (k:=3) F aC5 1 2 yE rfl rfl λcdv A outer s H E B hr=>?_
 have nd:=aC5.nd;refine aG ?_ ?_
 .exact lH (wR (iK (aO iD hr (by decide) (aD (aB 0) (aD (aUd g_MOST_ROOMS) aQ))))) (aY (cA aCv)) gB
 refine aG ?_ ?_
 .exact lH (wR (iK (aPc zM rfl (toP (gF [1] eX (.of rfl) (iM (aB 0)) (λ_ _ _ _ _=>bK 1 nd) (λ_ _ _ _ _=>aO iD hr (by decide) (aD (aB 1) (aD (aUd g_MOST_LETTERS) aQ))) rfl))))) (aY (cA aCv)) gB
 exact aY (cA (aPc zM rfl (toP (gF [1] eX (.of rfl) (iM (aB 0)) (λ_ _ _ _ _=>bK 1 nd) (λ_ _ _ _ _=>aO aC8 hr (by decide) (aD (aB 1) (aD (gQ bU (toP (bZ hr.units (toP (aB 0)) (toP aL)))) (aD (gQ bU (toP (aB 0))) aQ)))) rfl))))
include bU dO cJ kZ zM in
theorem aLu(F:FunD K "are_ranks" "are_ranks" zB dV fa fd):FnOk P w K mg base CX0 2 fa fd ["thing","rooms"] (spI K 2 rQ):=by
 refine dN (k:=1) F aC6 2 3 yF rfl rfl λcdv A outer s H E B hr=>?_
 have nd:=aC6.nd;refine aG ?_ ?_
 .exact lH (PW.pt (aXf (wR (iK (uO ty_list cJ dO (toP (aB 0))))) (aOy (dZ (aCy hr.units) aCz (toP (gQ bU (toP (aB 0)))) (toP (aB 1)) (cF _))))) (aY (cA aCv)) gB
 exact aY (cA (aPc zM rfl (toP (gF [2] eX (.of rfl) (iM (aB 0)) (λ_ _ _ _ _=>bK 2 nd) (λ_ _ _ _ _=>aAa (aO kZ hr (by decide) (aD (aB 2) aQ)) (yQ (iV aS1 aMx (toP (aB 2)) (toP aL) (cF _)))) rfl))))
variable(sW:DefOk P w K mg base "are_steps" 4 1 rP)
variable(sX:DefOk P w K mg base "are_ranks" 2 2 rQ)
include bU dO c_Machine cX cM cC cD sW sX in
theorem aB3(F:Fun K "__init__" "Machine.__init__" eO fa fd):FnOk P w K mg base CX0 5 fa fd ["self","steps","ranks"] (spM K "Machine" 2 fW):=by
 refine aP9 (k:=4) F pH "Machine" 2 4 fV rfl rfl λcdv A outer s H E B hr=>?_
 have nd:=pH.nd;refine aG ?_ ?_
 .exact lH (wR (iK (aO sW hr (by decide) (aD (aB 1) aQ)))) (aY aEc) gB
 refine aG ?_ ?_
 .exact lH (wR (iK (aO sX hr (by decide) (aD (aB 2) (aD (gQ bU (toP (aB 1))) aQ))))) (aY aEc) gB
 refine aG ?_ ?_
 .exact vR 0 c_Machine cC (gF [3] eX (.of rfl) (iM (aB 1)) (λ_ _ _ _ _=>bK 3 nd) (λ_ _ _ _ _=>aD1 dO (toP (aB 3))) rfl)
 refine aG ?_ ?_
 .exact vR 0 c_Machine cD (aD1 dO (toP (aB 2)))
 refine aG ?_ ?_
 .exact vR 0 c_Machine cM (gQ bU (toP (aB 1)))
 exact aY (vR 0 c_Machine cX (gQ bU (toP (bZ hr.units (toP (aB 1)) (toP aL)))))
variable(wD:DefOk P w K mg base "_law_two" 3 1 vB)
variable(mO:DefOk P w K mg base "_law_right" 4 6 lW)
variable(rF:DefOk P w K mg base "parting_word" 7 4 fU)
variable(kI:DefOkD P w K mg base "parting_word" 7 4 [.int 0,.int 0] fU)
variable(uU:MakeOk P w K mg base "Machine" 5 2 fW)
include bV cV bR dO c_Machine cC cD wC fP wD mO rF kI uU in
theorem bEi(F:FunD K "law" "law" aC0 dV fa fd):FnOk P w K mg base CX0 8 fa fd ["_law_script"] (spI K 1 aGr):=by
 refine dN (k:=7) F aVl 1 14 aSw rfl rfl λcdv A outer s H E B hr=>?_
 have nd:=aVl.nd;refine aG ?_ ?_
 .exact aP3 (aO wD hr (by decide) (aD (aB 0) aQ)) (aBt rfl (eE 6 (eE 7 (eE 8 (eE 9 vO nd) nd) nd) nd))
 refine aG ?_ ?_
 .exact cB 1 (aN7 uU hr (by decide) (aD (gF [12] eX (.of rfl) (iM (bZ hr.units (toP (aB 6)) (toP aL))) (λ_ _ _ _ _=>bK 12 nd) (λ_ _ _ _ _=>aD1 dO (toP (aB 12))) rfl) (aD (aD1 dO (toP (bZ hr.units (toP (aB 6)) (toP aL)))) aQ))) nd
 refine aG ?_ ?_
 .exact cB 2 (aN7 uU hr (by decide) (aD (gF [12] eX (.of rfl) (iM (bZ hr.units (toP (aB 7)) (toP aL))) (λ_ _ _ _ _=>bK 12 nd) (λ_ _ _ _ _=>aD1 dO (toP (aB 12))) rfl) (aD (aD1 dO (toP (bZ hr.units (toP (aB 7)) (toP aL)))) aQ))) nd
 refine aG ?_ ?_
 .exact vN 3 (aDk aQ) nd
 refine aG ?_ ?_
 .exact iY (oO bV (toP aL)) (bK 4 nd) (aG (by exact cB 10 (aO cV hr (by decide) (aD (aB 0) (aD (dJ (toP aL) (toP (aB 4))) aQ))) nd) (by exact aG (by exact cB 11 (aXt wC (gF [13] eX (.of rfl) (oO bV (toP aL)) (λ_ _ _ _ _=>bK 13 nd) (λ_ _ _ _ _=>iV aGh zY (toP (aO bR hr (by decide) (aD (aB 10) (aD (aB 13) (aD aL aQ))))) (toP aL) (cF _)) rfl)) nd) (by exact aG (by exact cB 5 (aO fP hr (by decide) (aD (aB 1) (aD (aB 2) (aD (aB 11) (aD (aB 8) (aD (aB 9) aQ)))))) nd) (by exact aG (by exact lH (wR (iK (aO mO hr (by decide) (aD (aB 6) (aD (aB 7) (aD (aB 11) (aD (aB 8) (aD (aB 9) (aD (aB 5) aQ))))))))) (aY (cA aCv)) gB) (by exact aY (aHc 3 (qY (aD (aB 11) (aD (aB 5) aQ))))))))) bGk rfl
 refine aG ?_ ?_
 .exact cB 5 (aVk kI hr (by decide) (aD (aB 1) (aD (aB 2) aQ))) nd
 refine aG ?_ ?_
 .exact lH (wR (iK (aO mO hr (by decide) (aD (aB 6) (aD (aB 7) (aD (qY (aD aCv (aD aCv (aD aCv (aD aCv aQ))))) (aD aL (aD aL (aD (aB 5) aQ))))))))) (aY (cA aCv)) gB
 refine aG ?_ ?_
 .exact aG6 [3] (iY (iM (aB 3)) (aBt rfl (eE 11 (eE 5 vO nd) nd)) (aY (lH (dZ (aCy hr.units) aCz (toP (aO fP hr (by decide) (aD (aB 1) (aD (aB 2) (aD (aB 11) (aD (aB 8) (aD (aB 9) aQ))))))) (toP (aB 5)) (cF _)) (aY (cA aCv)) gB)) bGk rfl)
 exact aY (cA (aAa (iV (jR hr.units) jT (toP (gZ c_Machine cC (toP (aB 1)))) (toP (bZ hr.units (toP (aB 6)) (toP aL))) (cF _)) (yQ (iV (jR hr.units) jT (toP (gZ c_Machine cD (toP (aB 2)))) (toP (bZ hr.units (toP (aB 7)) (toP aL))) (cF _)))))
end
theorem all_mk {l : OpenLaw} {w : World} {K : Frag}    (X : K.In h) (G : h.Ns mainGlobals mg) (hfa : mg "law" = some (.ref fa))
       {f27:Addr} {od27 an27:Option Addr} {sl27:Array (Option Value)} {oc27 kV27 dc27 pm27 cd27 ct27:Value} {f28:Addr} {od28 an28:Option Addr} {sl28:Array (Option Value)} {oc28 kV28 dc28 pm28 cd28 ct28:Value} {T28:Addr} {toc28:Value} {tod28:Option Addr} {tsl28:Array (Option Value)} {tn28:Nat} {tk28_0:Tok} {tk28_1:Tok} {f35:Addr} {od35 an35:Option Addr} {sl35:Array (Option Value)} {oc35 kV35 dc35 pm35 cd35 ct35:Value} {T35:Addr} {toc35:Value} {tod35:Option Addr} {tsl35:Array (Option Value)} {tn35:Nat} {tk35_0:Tok} {tk35_1:Tok} {f40:Addr} {od40 an40:Option Addr} {sl40:Array (Option Value)} {oc40 kV40 dc40 pm40 cd40 ct40:Value} {f41:Addr} {od41 an41:Option Addr} {sl41:Array (Option Value)} {oc41 kV41 dc41 pm41 cd41 ct41:Value} {Bod_JUST_ONE:Option Addr} {Bsl_JUST_ONE:Array (Option Value)} {Bn_JUST_ONE:Nat}
  (c_Machine:ClsAt K "Machine" A_Machine)
  (x5_Machine:makesIn K A_Machine=true)
  (x6_Machine:keepIn K (.ref A_Machine)=true)
  (c_Sides:ClsAt K "Sides" A_Sides)
  (x5_Sides:makesIn K A_Sides=true)
  (x6_Sides:keepIn K (.ref A_Sides)=true)
  (w_Machine_letters:findIn K (.ref A_Machine) (Str.ofString "letters")=some none)
  (w_Machine_many:findIn K (.ref A_Machine) (Str.ofString "many")=some none)
  (w_Machine_ranks:findIn K (.ref A_Machine) (Str.ofString "ranks")=some none)
  (w_Machine_steps:findIn K (.ref A_Machine) (Str.ofString "steps")=some none)
  (w_Sides_fronts:findIn K (.ref A_Sides) (Str.ofString "fronts")=some none)
  (w_Sides_lefts:findIn K (.ref A_Sides) (Str.ofString "lefts")=some none)
  (w_Sides_pairs:findIn K (.ref A_Sides) (Str.ofString "pairs")=some none)
  (w_Sides_rights:findIn K (.ref A_Sides) (Str.ofString "rights")=some none)
  (w_Sides_steps:findIn K (.ref A_Sides) (Str.ofString "steps")=some none)
  (fv_JUST_ONE:nsIn K mainGlobals "JUST_ONE"=some (some (.ref V_JUST_ONE)))
  (D1:DA K "_law_cell" yV)
  (D2:DA K "_law_mix" aAw)
  (D3:DA K "_law_digits" tV)
  (D4:DA K "_law_one" aAx)
  (D5:DA K "_law_beside" tW)
  (D6:DA K "_law_two" aAy)
  (D7:DA K "has_room" aAz)
  (D8:DA K "rooms_of" aB0)
  (D9:DA K "joined" aFq)
  (D10:DA K "is_wanted" yW)
  (D11:DA K "wanted_ranks" rB)
  (D12:DA K "bits_of" aD3)
  (D13:DA K "seen_among" vV)
  (D14:DA K "goes_round" vW)
  (D15:DA K "parts_among" tX)
  (D16:DA K "kept_places" tY)
  (D17:DA K "greatest_ranks" nC)
  (D18:DA K "wanted_parts" rC)
  (D19:DA K "first_round" tZ)
  (D20:DA K "place_in_order" nD)
  (D21:DA K "check_letters" pC)
  (D22:DA K "paired_steps" rD)
  (D23:DA K "ways_from" yX)
  (D24:DA K "is_whole" aB1)
  (D25:DA K "is_below" aB2)
  (M26:MA K A_Machine "check_room" "check_room" "Machine.check_room" jG)
  (a27:findIn K (.ref A_Sides) (Str.ofString "__init__")=some (some (.ref f27)))
  (e27:isFn K (.ref f27)=true)
  (l27:K.lookup f27=some ⟨oc27,od27,.func (fnOf "__init__" "Sides.__init__" (fK fQ) (dM fQ) (aM fQ) .none kV27 dc27 pm27 an27 cd27 ct27),sl27⟩)
  (c27:codeIn K cd27 "Sides.__init__"=true)
  (k27:keepIn K (.ref f27)=true)
  (a28:nsIn K mainGlobals "wanted_word"=some (some (.ref f28)))
  (l28:K.lookup f28=some ⟨oc28,od28,.func (fnOf "wanted_word" "wanted_word" (fK iT) (dM iT) (aM iT) (.ref T28) kV28 dc28 pm28 an28 cd28 ct28),sl28⟩)
  (t28:K.lookup T28=some ⟨toc28,tod28,.seq #[.int 0 tk28_0,.int 0 tk28_1] tn28,tsl28⟩)
  (c28:codeIn K cd28 "wanted_word"=true)
  (k28:keepIn K (.ref f28)=true)
  (D29:DA K "_law_texts" vX)
  (D30:DA K "_law_round" vY)
  (D31:DA K "_law_is_wanted" nG)
  (D32:DA K "_law_first" vZ)
  (D33:DA K "_law_form" yZ)
  (D34:DA K "_law_right" wA)
  (a35:nsIn K mainGlobals "parting_word"=some (some (.ref f35)))
  (l35:K.lookup f35=some ⟨oc35,od35,.func (fnOf "parting_word" "parting_word" (fK iC) (dM iC) (aM iC) (.ref T35) kV35 dc35 pm35 an35 cd35 ct35),sl35⟩)
  (t35:K.lookup T35=some ⟨toc35,tod35,.seq #[.int 0 tk35_0,.int 0 tk35_1] tn35,tsl35⟩)
  (c35:codeIn K cd35 "parting_word"=true)
  (k35:keepIn K (.ref f35)=true)
  (D36:DA K "is_filled_list" nH)
  (D37:DA K "is_row" aFr)
  (D38:DA K "are_steps" zA)
  (D39:DA K "are_ranks" zB)
  (a40:findIn K (.ref A_Machine) (Str.ofString "__init__")=some (some (.ref f40)))
  (e40:isFn K (.ref f40)=true)
  (l40:K.lookup f40=some ⟨oc40,od40,.func (fnOf "__init__" "Machine.__init__" (fK eO) (dM eO) (aM eO) .none kV40 dc40 pm40 an40 cd40 ct40),sl40⟩)
  (c40:codeIn K cd40 "Machine.__init__"=true)
  (k40:keepIn K (.ref f40)=true)
  (a41:nsIn K mainGlobals "law"=some (some (.ref f41)))
  (l41:K.lookup f41=some ⟨oc41,od41,.func (fnOf "law" "law" (fK aC0) (dM aC0) (aM aC0) .none kV41 dc41 pm41 an41 cd41 ct41),sl41⟩)
  (c41:codeIn K cd41 "law"=true)
  (k41:keepIn K (.ref f41)=true)
  (v_LETTERS:nsIn K mainGlobals "LETTERS"=some (some (.str "abc" t_LETTERS)))
  (v_MOST_LETTERS:nsIn K mainGlobals "MOST_LETTERS"=some (some (.int 3 t_MOST_LETTERS)))
  (v_MOST_ROOMS:nsIn K mainGlobals "MOST_ROOMS"=some (some (.int 8 t_MOST_ROOMS)))
  (ub_JUST_ONE:K.lookup V_JUST_ONE=some ⟨.type "tuple",Bod_JUST_ONE,.seq #[.bool false,.bool true,.bool true,.bool false] Bn_JUST_ONE,Bsl_JUST_ONE⟩)
  (z_all:nsIn K mainGlobals "all"=some none)
  (z_bool:nsIn K mainGlobals "bool"=some none)
  (z_enumerate:nsIn K mainGlobals "enumerate"=some none)
  (z_int:nsIn K mainGlobals "int"=some none)
  (z_isinstance:nsIn K mainGlobals "isinstance"=some none)
  (z_len:nsIn K mainGlobals "len"=some none)
  (z_list:nsIn K mainGlobals "list"=some none)
  (z_max:nsIn K mainGlobals "max"=some none)
  (z_min:nsIn K mainGlobals "min"=some none)
  (z_range:nsIn K mainGlobals "range"=some none)
  (z_set:nsIn K mainGlobals "set"=some none)
  (z_sorted:nsIn K mainGlobals "sorted"=some none)
  (z_str:nsIn K mainGlobals "str"=some none)
  (z_tuple:nsIn K mainGlobals "tuple"=some none)
  (z_zip:nsIn K mainGlobals "zip"=some none) :
  ∃fd:FuncData,(∀(s:Shared)(v:Value),BindsTo s fd ⟨[v],[]⟩ [("_law_script",v)])/\∀base:Heap,K.In base->base.Ns mainGlobals mg->FnOk l.prog w K mg base CX0 8 fa fd ["_law_script"] (spI K 1 aGr):=by
 have e:=hfa.symm.trans (mg_of X G a41);cases e;have cX:eV K A_Machine (Str.ofString "letters"):=w_Machine_letters;have cM:eV K A_Machine (Str.ofString "many"):=w_Machine_many;have cD:eV K A_Machine (Str.ofString "ranks"):=w_Machine_ranks;have cC:eV K A_Machine (Str.ofString "steps"):=w_Machine_steps;have fJ:eV K A_Sides (Str.ofString "fronts"):=w_Sides_fronts;have bQ:eV K A_Sides (Str.ofString "lefts"):=w_Sides_lefts;have dU:eV K A_Sides (Str.ofString "pairs"):=w_Sides_pairs;have bM:eV K A_Sides (Str.ofString "rights"):=w_Sides_rights;have dD:eV K A_Sides (Str.ofString "steps"):=w_Sides_steps;have F27:=aSc (st:=fQ) l27 c27 k27;have b27:=F27.binds (ps:=["self","one","other","left","right"]) λ_ _ _ _ _ _=>aEd (λ_ _ _ _ _=>rfl)
 have F28:=aBx (st:=iT) l28 c28 k28;have b28_0:Binds K _ ["one","other","wanted","left","right"] []:=F28.binds (m:=5) t28 rfl rfl λ_ _ _ _ _ _=>aEd (λ_ _ _ _ _=>⟨_,rfl,rfl⟩)
 have F35:=aBx (st:=iC) l35 c35 k35;have b35_0:Binds K _ ["one","other","left","right"] []:=F35.binds (m:=4) t35 rfl rfl λ_ _ _ _ _ _=>aJ0 (λ_ _ _ _=>⟨_,rfl,rfl⟩)
 have b35_2:Binds K _ ["one","other","left","right"] [.int 0 tk35_0,.int 0 tk35_1]:=F35.binds (m:=2) t35 rfl rfl λ_ _ _ _ _ _=>aIy (λ_ _=>⟨_,rfl,rfl⟩)
 have F40:=aSc (st:=eO) l40 c40 k40;have b40:=F40.binds (ps:=["self","steps","ranks"]) λ_ _ _ _ _ _=>aIz (λ_ _ _=>rfl)
 have F41:=aBx (st:=aC0) l41 c41 k41;have b41:=F41.binds0 (ps:=["_law_script"]) λ_ _ _ _ _ _=>aIx (λ_=>rfl)
 have zM:=bI2 X G z_all;have aJ8:=bI2 X G z_bool;have sO:=bI2 X G z_enumerate;have aPq:=bI2 X G z_int;have cJ:=bI2 X G z_isinstance;have bU:=bI2 X G z_len;have dO:=bI2 X G z_list;have uT:=bI2 X G z_max;have aFw:=bI2 X G z_min;have bV:=bI2 X G z_range;have aLq:=bI2 X G z_set;have oR:=bI2 X G z_sorted;have aPr:=bI2 X G z_str;have wC:=bI2 X G z_tuple;have uR:=bI2 X G z_zip;have g_LETTERS:=mg_of X G v_LETTERS;have g_MOST_LETTERS:=mg_of X G v_MOST_LETTERS;have g_MOST_ROOMS:=mg_of X G v_MOST_ROOMS;have sJ:aPp K V_JUST_ONE [false,true,true,false]:=⟨_,_,_,ub_JUST_ONE,rfl,rfl,(show 4<=sizeLine by decide),.cons rfl (.cons rfl (.cons rfl (.cons rfl (.nil))))⟩
 have lG:=mg_of X G fv_JUST_ONE;refine⟨fnOf "law" "law" (fK aC0) (dM aC0) (aM aC0) .none kV41 dc41 pm41 an41 cd41 ct41,λs v=>.of_eq rfl,λbase _ _=>?_⟩
 have C:Ct l.prog w K mg base h:=⟨X,G⟩;have cV:=D1.ok C (aLo bU);have bR:=D2.ok C aNf;have oA:=D3.ok C (aG9 bV);have rE:=D4.ok C (aNg bV cV bR oA);have oE:=D5.ok C (aGa bU bV bR);have wD:=D6.ok C (aNh bU cV bR rE oE);have gP:=D7.ok C aNi;have cW:=D8.ok C (aNj bV gP);have aC7:=D9.ok C aVm;have jH:=D10.ok C (aLp fv_JUST_ONE lG sJ);have mG:=D11.ok C (aFt jH c_Sides bQ bM oR aLq);have iU:=D12.ok C aRm;have pU:=D13.ok C (aJ6 gP cW iU);have pW:=D14.ok C (aJ7 bU cW);have oF:=D15.ok C (aGb gP cW iU pU pW);have oG:=D16.ok C (aGc c_Sides bQ bM iU dO uR sO);have jM:=D17.ok C (aD4 c_Sides bQ bM cW uT);have mJ:=D18.ok C (aFu c_Sides mG oF oG jM dD);have oH:=D19.ok C (aGd bU jH c_Sides bQ bM dO uR uT dD g_LETTERS);have jN:=D20.ok C (aD5 bU);have kE:=D21.ok C (aDy c_Machine cX);have mH:=D22.ok C (aFv bV dO uR c_Machine cM cC);have sU:=D23.ok C (aLr bU uR g_LETTERS);have kZ:=D24.ok C (aNk cJ aPq aJ8);have lA:=D25.ok C (aNl kZ);have dR:=M26.ok C c_Machine (zL c_Machine cM lA);have f_Sides___init__:=aD6 (P:=l.prog) (w:=w) (mg:=mg) (base:=base) c_Sides bQ bM oR dO dD c_Machine kE mH sU dR dU fJ cD F27;have aEf:=MakeOk.of c_Sides ⟨x5_Sides,a27,e27,x6_Sides⟩ f_Sides___init__ b27 (mg_of X G c_Sides.ns);have f_wanted_word:=aGe (P:=l.prog) (w:=w) (mg:=mg) (base:=base) c_Sides cW fJ aC7 mJ oH jN aEf aFw F28;have fP:=DefOk.of f_wanted_word (mg_of X G a28) F28.kp b28_0 yS;have pX:=D29.ok C (aJ9 bV);have mK:=D30.ok C (aJa uT);have eQ:=D31.ok C (aD7 mK);have mL:=D32.ok C (aJb bU bV pX eQ);have sV:=D33.ok C (aLs bU cJ wC aPr);have mO:=D34.ok C (aJc bU aFw eQ mL sV);have f_parting_word:=aFx (P:=l.prog) (w:=w) (mg:=mg) (base:=base) fv_JUST_ONE lG fP F35;have rF:=DefOk.of f_parting_word (mg_of X G a35) F35.kp b35_0 yS;have kI:DefOkD l.prog w K mg base "parting_word" 7 4 [.int 0,.int 0] fU:=⟨⟨_,_,_,_,[.int (0),.int (0)],f_parting_word,mg_of X G a35,F35.kp,b35_2,(.cons ⟨_,rfl⟩ (.cons ⟨_,rfl⟩ (.nil))),λ_=>.cons (bN.mpr rfl) (.cons (bN.mpr rfl) (.nil))⟩,yS⟩
 have iD:=D36.ok C (aD8 bU dO cJ);have aC8:=D37.ok C (aVn bU lA zM);have sW:=D38.ok C (aLt bU zM iD aC8 g_MOST_ROOMS g_MOST_LETTERS);have sX:=D39.ok C (aLu bU dO cJ kZ zM);have f_Machine___init__:=aB3 (P:=l.prog) (w:=w) (mg:=mg) (base:=base) bU dO c_Machine cX cM cC cD sW sX F40;have uU:=MakeOk.of c_Machine ⟨x5_Machine,a40,e40,x6_Machine⟩ f_Machine___init__ b40 (mg_of X G c_Machine.ns);have f_law:=bEi (P:=l.prog) (w:=w) (mg:=mg) (base:=base) bV cV bR dO c_Machine cC cD wC fP wD mO rF kI uU F41;exact f_law
theorem aYp{q:Program} {K:Params->Frag} {as:List Addr} {t:Nat} {r:PySem.W.RowW} {d:DefRec} {kwd:List (Str×Expr)} {run:Value->List Value->Sem Value} (e:∀P,as=(K P).map (·.1)) (h:WalkO q loose XP (InK K) r d kwd run):PySem.W.WalkX q loose XP (PySem.W.X.obsZ as) (PySem.W.X.valZ K n t) r d kwd run:=
 λw s₀ s₁ mg mb G y a o pm cd doc dV kV h1 h2 h3 h4 h5 h6 args vals as' L h7 h8 h9 h10 h11=>h w s₀ s₁ mg mb G (PySem.W.InK.keeps w _ _ (PySem.W.X.z_facts e y).2.1 L.keeps) a o pm cd doc dV kV h1 h2 h3 h4 h5 h6 args vals as' h7 h8 h9 h10 h11
theorem walk{l:OpenLaw}{q:Program} {YP:World->Heap->Prop} {d:DefRec} {K:Params->Frag} (hn:l.most=some 63) (hdf:d.params.defaults=[])
  (hY:∀(w:World)(h:Heap),YP w h->(K w.params).In h)
  (hlaw:∀ns:List Int,ns.length<=63->aGr [.lst (ns.map D.int)]=.ok (.bl true))
  (F:∀(w:World)(mg:Str->Option Value)(fa:Addr)(h:Heap),(K w.params).In h->h.Ns mainGlobals mg->mg d.name=some (.ref fa)->
   ∃fd:FuncData,(∀(s:Shared)(u:Value),BindsTo s fd ⟨[u],[]⟩ [("_law_script",u)])/\∀base:Heap,(K w.params).In base->base.Ns mainGlobals mg->FnOk l.prog w (K w.params) mg base CX0 8 fa fd ["_law_script"] (spI (K w.params) 1 aGr)) :
  WalkO q loose XP YP l.row.toRowW d [] (λf vs=>PySem.call f vs):=
 L2.walk_of (n:=63) (k:=8) (x:="_law_script") (CX:=λ_=>CX0) (sp:=λw=>spI (K w.params) 1 aGr) hn (by decide) hdf ⟨rfl,by decide,by decide⟩ hY F (λ_ _ a ns hl _ hS=>bBh hS (hlaw ns hl)) λ_ _ _ _ _ z=>z
end Pu
namespace PySem.W.Fast
def tw12205507540738844588:=0
def tw10910931292520113609:=0
def tw18423655860505853368:=0
def tw6780146870732542945:=0
def tw14730527927857104646:=0
def tw10311086811905901406:=0
def tw9332583141161936534:=0
def tw15037005987044289616:=0
def tw6001242602310159467:=0
def tw6281419358061590767:=0
def tw5031816783739632930:=0
def tw3922242940592361314:=0
def tw8605842486249849777:=0
def tw16912006273921934896:=0
def tw6000780342552422500:=0
def tw469608290545002054:=0
def tw17640118695495364935:=0
def tw12457375943687689164:=0
def tw8484871209822573729:=0
def tw10394356235279735310:=0
def tw5197276976541783380:=0
def tw4292756830706440048:=0
def tw8415980863590728920:=0
def tw13105550730715741826:=0
def tw12590074378162173946:=0
def tw12060142661385293071:=0
def tw1379975848458606742:=0
def tw7239145076467192535:=0
def tw1719196434595473430:=0
def tw2338397067854616268:=0
def tw5901483407504484336:=0
def tw16374772270460786052:=0
def tw17414802286265379624:=0
def tw16655483126173396086:=0
def tw15227092034348900750:=0
def tw12911620255617667925:=0
def tw14141885126684044799:=0
def tw1985534561099206116:=0
def tw17438020116627527966:=0
def tw9139191786598622335:=0
def tw18189735317478066374:=0
def tw7719861078766042682:=0
def tw12110304296526762764:=0
def tw3687807306090112991:=0
def tw578389440127900433:=0
def tw9548259647972904397:=0
def tw14558228378029019096:=0
def tw6465747509836805050:=0
def tw16190281613055430601:=0
def tw14674774038730123185:=0
def tw9840994691705478738:=0
def tw18061158866927810325:=0
def tw3792220222980748176:=0
def tw3616352901985608130:=0
def tw1630734187045018444:=0
def tw18357119094706684424:=0
def tw16743642784234216222:=0
def tw5996635041556415002:=0
def tw16968625468378769922:=0
def tw2923778148998234711:=0
def tw6582535549670673627:=0
def tw7001424301955438874:=0
def tw3435986293379034747:=0
def tw11210427383223331458:=0
def tw9408810525974840878:=0
def tw16192004362332434890:=0
def tw4194332227414230492:=0
def tw8656820563917307645:=0
def tw8357599713126520277:=0
def tw4111523232462152808:=0
def tw10354016885614792391:=0
def tw6639877993245615416:=0
def tw3243533930506584579:=0
def tw13091912976854882367:=0
def tw8113155849113567741:=0
def tw6368553384826950890:=0
def tw18152312312995461968:=0
def tw10121674472522009293:=0
def tw12228952342250351901:=0
def tw13279522099619183491:=0
def tw6179347630863377454:=0
def tw12374041843770562557:=0
def tw3601791524357458562:=0
def tw7949909139826061824:=0
def tw2332352972779411498:=0
def tw17258450093401232817:=0
def tw8906465768588720171:=0
def tw6556979098900959288:=0
def tw10318685516255404150:=0
def tw9286356787976394646:=0
def tw8980528321054449096:=0
def tw3864326226677220021:=0
def tw14793879217735663908:=0
def tw9666971225244963300:=0
def tw8501976909322891762:=0
def tw1269696002475877579:=0
def tw376472788520235952:=0
def tw364827068874634687:=0
def tw1950110771488187602:=0
def tw1078189358135709293:=0
def tw8643541395762187325:=0
def tw13427691524567553799:=0
def tw33769622565041196:=0
def tw11227808549240845320:=0
def tw5891384340238020210:=0
def tw2130143310371297839:=0
def tw5434041925094819098:=0
def tw7720759083480573526:=0
def tw9575431717232816433:=0
def tw4559401996651985277:=0
def tw12172997713497320638:=0
def tw4686672064911207541:=0
def tw14750000993949226993:=0
def tw4709186220036876617:=0
def tw6641948104921379671:=0
def tw6865588940612436770:=0
def tw4814996001995868585:=0
def tw10281597725013664626:=0
def tw14479328650612135199:=0
def tw14320590924175765618:=0
def tw10720340629027616216:=0
def tw1766903720578991922:=0
def tw385322353886003165:=0
def tw17911990164949876798:=0
def tw10057084079291645500:=0
def tw15885591307936647744:=0
def tw15948666833523726493:=0
def tw363440146867565326:=0
def tw16714207150335939552:=0
def tw11372437238416071522:=0
def tw18089171594709743333:=0
def tw7658224319049635194:=0
def tw17869110958091145282:=0
def tw17631037942514088058:=0
def tw17048611534548400916:=0
def tw9585691306022214124:=0
def tw17083381682559508666:=0
def tw9603076372586637078:=0
end PySem.W.Fast
open PySem PySem.W PyProof.Rows
set_option maxRecDepth 100000 in
set_option maxHeartbeats 0 in
theorem PySem.Challenge.cw_looprank_k52_wanted_words_holds : PySem.Challenge.rw_looprank_k52_wanted_words.Holds := by
 w_on;o_law;z_head;(case hw=>w_witness2)
 k_fill
 refine Pu.aYp (λP=>by kernel_rfl) (Pu.walk (l:=PySem.Challenge.rw_looprank_k52_wanted_words) rfl rfl (λw h Y=>Y) Pu.law_true ?F)
 case F=>
  intro w mg fa h KX G hmg;refine' Pu.all_mk KX G hmg ⟨?x_Machine,?x1_Machine,?x2_Machine,?x3_Machine,?x4_Machine⟩ ?x5_Machine ?x6_Machine ⟨?x_Sides,?x1_Sides,?x2_Sides,?x3_Sides,?x4_Sides⟩ ?x5_Sides ?x6_Sides ?w_Machine_letters ?w_Machine_many ?w_Machine_ranks ?w_Machine_steps ?w_Sides_fronts ?w_Sides_lefts ?w_Sides_pairs ?w_Sides_rights ?w_Sides_steps ?fv_JUST_ONE (Pu.eY ?a1 ?l1 ?c1 ?k1) (Pu.eY ?a2 ?l2 ?c2 ?k2) (Pu.eY ?a3 ?l3 ?c3 ?k3) (Pu.eY ?a4 ?l4 ?c4 ?k4) (Pu.eY ?a5 ?l5 ?c5 ?k5) (Pu.eY ?a6 ?l6 ?c6 ?k6) (Pu.eY ?a7 ?l7 ?c7 ?k7) (Pu.eY ?a8 ?l8 ?c8 ?k8) (Pu.eY ?a9 ?l9 ?c9 ?k9) (Pu.eY ?a10 ?l10 ?c10 ?k10) (Pu.eY ?a11 ?l11 ?c11 ?k11) (Pu.eY ?a12 ?l12 ?c12 ?k12) (Pu.eY ?a13 ?l13 ?c13 ?k13) (Pu.eY ?a14 ?l14 ?c14 ?k14) (Pu.eY ?a15 ?l15 ?c15 ?k15) (Pu.eY ?a16 ?l16 ?c16 ?k16) (Pu.eY ?a17 ?l17 ?c17 ?k17) (Pu.eY ?a18 ?l18 ?c18 ?k18) (Pu.eY ?a19 ?l19 ?c19 ?k19) (Pu.eY ?a20 ?l20 ?c20 ?k20) (Pu.eY ?a21 ?l21 ?c21 ?k21) (Pu.eY ?a22 ?l22 ?c22 ?k22) (Pu.eY ?a23 ?l23 ?c23 ?k23) (Pu.eY ?a24 ?l24 ?c24 ?k24) (Pu.eY ?a25 ?l25 ?c25 ?k25) (Pu.bEd ?a26 ?e26 ?l26 ?c26 ?k26) ?a27 ?e27 ?l27 ?c27 ?k27 ?a28 ?l28 ?t28 ?c28 ?k28 (Pu.eY ?a29 ?l29 ?c29 ?k29) (Pu.eY ?a30 ?l30 ?c30 ?k30) (Pu.eY ?a31 ?l31 ?c31 ?k31) (Pu.eY ?a32 ?l32 ?c32 ?k32) (Pu.eY ?a33 ?l33 ?c33 ?k33) (Pu.eY ?a34 ?l34 ?c34 ?k34) ?a35 ?l35 ?t35 ?c35 ?k35 (Pu.eY ?a36 ?l36 ?c36 ?k36) (Pu.eY ?a37 ?l37 ?c37 ?k37) (Pu.eY ?a38 ?l38 ?c38 ?k38) (Pu.eY ?a39 ?l39 ?c39 ?k39) ?a40 ?e40 ?l40 ?c40 ?k40 ?a41 ?l41 ?c41 ?k41 ?v_LETTERS ?v_MOST_LETTERS ?v_MOST_ROOMS ?ub_JUST_ONE ?z_all ?z_bool ?z_enumerate ?z_int ?z_isinstance ?z_len ?z_list ?z_max ?z_min ?z_range ?z_set ?z_sorted ?z_str ?z_tuple ?z_zip
  (case x_Machine|x1_Machine|x2_Machine|x3_Machine|x4_Machine|x5_Machine|x6_Machine|x_Sides|x1_Sides|x2_Sides|x3_Sides|x4_Sides|x5_Sides|x6_Sides|w_Machine_letters|w_Machine_many|w_Machine_ranks|w_Machine_steps|w_Sides_fronts|w_Sides_lefts|w_Sides_pairs|w_Sides_rights|w_Sides_steps|fv_JUST_ONE=>k_is)
  (case a1|l1|c1|k1|a2|l2|c2|k2|a3|l3|c3|k3|a4|l4|c4|k4|a5|l5|c5|k5|a6|l6|c6|k6=>k_is)
  (case a7|l7|c7|k7|a8|l8|c8|k8|a9|l9|c9|k9|a10|l10|c10|k10|a11|l11|c11|k11|a12|l12|c12|k12=>k_is)
  (case a13|l13|c13|k13|a14|l14|c14|k14|a15|l15|c15|k15|a16|l16|c16|k16|a17|l17|c17|k17|a18|l18|c18|k18=>k_is)
  (case a19|l19|c19|k19|a20|l20|c20|k20|a21|l21|c21|k21|a22|l22|c22|k22|a23|l23|c23|k23|a24|l24|c24|k24=>k_is)
  (case a25|l25|c25|k25|a26|e26|l26|c26|k26|a27|e27|l27|c27|k27|a28|l28|t28|c28|k28|a29|l29|c29|k29|a30=>k_is)
  (case l30|c30|k30|a31|l31|c31|k31|a32|l32|c32|k32|a33|l33|c33|k33|a34|l34|c34|k34|a35|l35|t35|c35|k35=>k_is)
  (case a36|l36|c36|k36|a37|l37|c37|k37|a38|l38|c38|k38|a39|l39|c39|k39|a40|e40|l40|c40|k40|a41|l41|c41=>k_is)
  (case k41|v_LETTERS|v_MOST_LETTERS|v_MOST_ROOMS|ub_JUST_ONE|z_all|z_bool|z_enumerate|z_int|z_isinstance|z_len|z_list|z_max|z_min|z_range|z_set|z_sorted|z_str|z_tuple|z_zip=>k_is)
