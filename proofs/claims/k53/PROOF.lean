import PyProof.Rows.All
import Wide.All
import OpenK.AllK
import Wide.FinOn
import Lean
import PyProof.EqAt
import PyProof.EqKinds
import PyProof.TupleCall
import PyProof.P3Eq
import PyProof.NeKinds
import PyProof.NsDelKeeps
import PyProof.RulesAs
import PyProof.ExcAttrAll.ValueError
import KE.KSortKey
import KE.KSortTup
import KE.KDictLaws
import KE.KDictLetter
import KE.KItemsList
import KE.KMinKey
import PyProof.DictUpdate
import KE.KPairComp
import PyProof.DictValues
import PySem.Challenge.RW_looprank_k53_whole_word_or_paper
set_option compiler.extract_closed false
set_option bootstrap.genMatcherCode false
noncomputable section
set_option Elab.async false
set_option linter.all false
set_option maxRecDepth 100000
def qa:=@PySem.wpAny_bind
def bc:=@PySem.Heap.get?_push_of_some
def Ga:=@PySem.wpAny_pure
def Kb:=@List.mem_cons_of_mem
def Zc:=@List.getElem?_eq_getElem
def yd:=@Classical.byContradiction
def Cb:=@List.mem_cons_self
def Mc:=@List.mem_singleton
def Mb:=@List.mem_cons
def gf:=@List.getElem?_eq_some_iff
def Ib:=@Nat.le_refl
def Vb:=@PySem.Heap.lt_size
def Gb:=@List.length_map
def we:=@PySem.Heap.get?_push_size
def Vd:=@List.getElem?_set
def Ed:=@decide_eq_false
def Ea:=@if_neg
def Lg:=@List.mem_append_right
def Qa:=@if_pos
def zd:=@Nat.ne_of_lt
def ug:=@Nat.lt_of_lt_of_le
def cg:=@List.size_toArray
def kh:=@List.getD_eq_getElem?_getD
def ze:=@List.mem_map
def Mg:=@decide_eq_true_eq
def Bf:=@decide_eq_true
def Cj:=@Array.getElem?_eq_getElem
def Ef:=@List.length_append
def Ff:=@PySem.wpAny_holding
def Qh:=@Bool.false_ne_true
def nj:=@List.mem_of_getElem?
def Rh:=@List.getElem_mem
def Dj:=@List.mem_append_left
def dg:=@List.length_cons
def Fi:=@List.getElem?_map
def Fh:=@List.map_append
def Ll:=@PySem.wpAny_callSpecial?_slot
def gi:=@PySem.wpAny_call_entry
def vg:=@List.map_map
def Bk:=@PySem.F.slot_zip_next
def Ml:=@PySem.Heap.get?_update_other
def ji:=@List.mem_append
def Nl:=@PySem.Heap.get?_update_self
def Gi:=@Option.some.inj
def Gh:=@Nat.lt_irrefl
def zo:=@List.getElem?_append_left
def Yg:=@Nat.le_trans
def Hi:=@PySem.Heap.size_push
def Ol:=@PySem.mem_of_lookup
def ki:=@List.nodup_cons
def Ue:=@List.map_cons
def Vi:=@List.mem_range
def Rm:=@List.mem_iff_getElem?
def Ck:=@of_decide_eq_true
def zg:=@List.length_set
def Vq:=@PyProof.Rows.callWith_type1
def Qj:=@List.mem_filter
def Rj:=@PySem.codeAny_builtin
def qt:=@List.idxOf_lt_length_of_mem
def tm:=@PySem.wpAny_newObj_type
def Sj:=@PySem.wpAny_seqItems
def um:=@List.length_singleton
def vt:=@Array.getElem?_eq_some_iff
def Wq:=@List.length_eq_zero_iff
def bf:=@Ne.symm
def Xq:=@List.getElem?_eq_none
def Wi:=@PySem.wpAny_field
def oi:=@PySem.wpAny_mono
def Gf:=@Nat.zero_le
def Ao:=@Nat.lt_trichotomy
def Bo:=@List.nodup_append
def Co:=@List.append_assoc
def Dk:=@PySem.wpAny_attempt
def Yq:=@List.mem_iff_getElem
def Zq:=@List.drop_eq_getElem_cons
def qw:=@List.pairwise_iff_getElem
def Ej:=@List.lookup_cons
def Wy:=@PySem.F.slot_dict_keyiterator_next
def ar:=@PySem.wpAny_Call_Name_kw
def Eo:=@PySem.wpAny_ite_split
def vm:=@PySem.plainId_quiet
def xt:=@List.getElem?_set_ne
def tw:=@PySem.F.entry_zip_next
def yt:=@beq_eq_false_iff_ne
def br:=@PySem.wpAny_truthy_bool
def zt:=@List.map_congr_left
def Bt:=@PySem.Heap.SameBut.update
def Dt:=@Array.length_toList
def Ep:=@PySem.wpAny_updateSeq
def Et:=@PySem.wpAny_setField_rec
def RF:=@PySem.wpAny_typeNameOfWhole_keyiter
def Sm:=@Nat.le_of_eq
def Um:=@PySem.codeAny_mono
def Ft:=@PySem.wpAny_pyIter_list
def Ek:=@PySem.W.mg_none_of
def Ql:=@List.append_nil
def ir:=@Array.getElem?_toList
def Xy:=@PySem.F.plain_min_loop
def SF:=@List.getElem?_append_right
def Ht:=@List.getElem_map
def Jt:=@List.length_filter_le
def Kt:=@List.getElem?_toArray
def Mt:=@PySem.wpAny_isInstance
def Fo:=@Nat.le_of_lt
def Fp:=@List.zip_cons_cons
def Yy:=@PySem.Obj.isFreed_of_fields
def uw:=@PySem.Obj.data_mapFields
def Vm:=@PySem.sizeLine_eq
def jr:=@PySem.wpAny_setField
def TF:=@PySem.F.plain_extend_loop
def Nt:=@PySem.wpAny_passesOwn
def VF:=@PySem.wpAny_typeNameOf_keyiter
def vw:=@PySem.wpAny_setState_of
def XF:=@Nat.add_sub_cancel_left
def Ho:=@Bool.and_eq_true
def YF:=@PySem.wpAny_getItem_str_slice
def ZF:=@PySem.F.plainAttrs_list
def Zy:=@PySem.Heap.get?_update_ne
def kG:=@PySem.F.args_zip_next_1
def AG:=@PySem.F.slot_list_index
def az:=@PySem.wpAny_setEntries_of
def ww:=@List.all_eq_true
def xw:=@PySem.wpAny_askSetting
def Ot:=@PySem.wpAny_tryCatch
def CG:=@List.take_of_length_le
def DG:=@List.range_succ_eq_map
def EG:=@PySem.wpAny_nextOf_list_item
def FG:=@PySem.F.entry_min_loop
def kr:=@Nat.ne_of_gt
def yw:=@PySem.wpAny_specialOf
def GG:=@List.cons_lt_cons_iff
def HG:=@PySem.wpAny_nextOf_list_end
def IG:=@PySem.F.slot_zip_iter
def JG:=@Array.getD_eq_getD_getElem?
def Pt:=@Nat.lt_succ_self
def Qt:=@PySem.wpAny_standAt
def Io:=@beq_iff_eq
def bz:=@Int.toNat_natCast
def cz:=@List.drop_of_length_le
def dz:=@PySem.wpAny_pyIter_slot
def KG:=@Nat.eq_of_testBit_eq
def zw:=@PySem.isSubtype_stop
def Aw:=@PySem.wpAny_fieldsOf
def jz:=@List.any_eq_true
def LG:=@List.filterMap_cons
def MG:=@List.filter_eq_self
def nr:=@Nat.not_lt_zero
def qr:=@PySem.wpAny_letGo
def ZO:=@Option.isSome_iff_exists
def Rt:=@Nat.lt_trans
def Tt:=@List.any_map
def Ut:=@List.length_range
def bP:=@PyProof.Rows.boot_sorted
def dP:=@PySem.F.slot_dict_values
def NG:=@PySem.W.callWith_K
def OG:=@PySem.tupleKind_room_in1
def eP:=@List.filter_cons_of_pos
def iP:=@List.filter_cons_of_neg
def mz:=@Bool.eq_iff_iff
def QG:=@Int.emod_lt_of_pos
def j8:=@List.findIdx?_eq_some_iff_getElem
def kP:=@PySem.F.plainAttrs_dict
def Bw:=@List.length_take
def lP:=@PySem.F.slot_list_append
def oP:=@List.find?_cons_of_pos
def sP:=@Nat.lt_of_succ_lt_succ
def BP:=@Array.getElem?_eq_none
def RG:=@List.any_eq_false
def Vt:=@List.cons_append
def sr:=@Bool.or_eq_true
def SG:=@Bool.eq_false_iff
def ur:=@PySem.wpAny_rule
def UG:=@PySem.fits_of_scanBound
def oz:=@Bool.and_false
def m8:=@PySem.F.args_dict_keyiterator_next_1
def VG:=@Nat.zero_testBit
def WG:=@Nat.le_add_right
def o8:=@PySem.F.entry_dict_keyiterator_next
def CP:=@PySem.codeAny_call_builtin
def DP:=@PySem.wpAny_updateSeq_pair
def Wt:=@List.any_cons
def p8:=@PySem.F.slot_dict_setdefault
def Xt:=@PySem.wpAny_call
def Cw:=@Sum.inl.inj
def XG:=@PySem.wpAny_execs_nil
def FP:=@PySem.W.plainGet_of
def YG:=@PySem.PassesOwn.never
def ZG:=@PySem.post_val_or_str
def kH:=@List.getElem_toArray
def q8:=@PySem.Calls.Name_function_global
def r8:=@Int.fdiv_eq_ediv_of_nonneg
def s8:=@Array.perm_iff_toList_perm
def t8:=@List.length_eraseIdx_of_lt
def GP:=@Int.natCast_nonneg
def HP:=@List.getElem?_cons_succ
def pz:=@PySem.F.called_set
def AH:=@PySem.W.looks_findIn
def Jo:=@Nat.le_succ
def v8:=@PySem.F.slot_dict_getitem
def BH:=@List.lt_irrefl
def w8:=@Nat.lt_pow_two_of_testBit
def A8:=@List.exists_mem_of_ne_nil
def B8:=@PySem.F.args_list_index_2
def C8:=@PySem.F.entry_extend_loop
def CH:=@List.Perm.refl
def IP:=@Option.isSome_map
def Dw:=@List.foldl_cons
def JP:=@List.pairwise_map
def KP:=@List.take_add_one
def LP:=@Nat.le_of_succ_le
def E8:=@List.filterMap_cons_some
def F8:=@PySem.F.entry_list_index
def G8:=@PySem.SeqAt.list_indexAt
def Sh:=@PySem.W.mg_of
def MP:=@PySem.wpAny_dictEntries
def NP:=@List.ext_getElem?
def H8:=@PySem.F.type_dict_values
def I8:=@PySem.F.args_list_append_2
def DH:=@List.getElem_idxOf
def qz:=@Int.emod_nonneg
def J8:=@decide_eq_false_iff_not
def K8:=@PySem.F.attr_ValueError
def EH:=@PySem.wpAny_onRaise
def L8:=@PySem.F.type_list_index
def M8:=@PySem.F.plain_list_iadd
def N8:=@PySem.F.args_zip_iter_1
def OP:=@List.ext_getElem
def QP:=@List.take_length
def RP:=@List.drop_length
def UP:=@PySem.wpAny_pyIter_zip
def O8:=@List.getElem?_set_self
def P8:=@PySem.W.cellsFrom_some
def Q8:=@Nat.testBit_lt_two_pow
def R8:=@List.append_eq_nil_iff
def S8:=@List.find?_cons_of_neg
def T8:=@PySem.F.entry_zip_iter
def U8:=@List.pairwise_lt_range
def VP:=@List.of_mem_zip
def ZP:=@List.length_nil
def V8:=@Classical.choose_spec
def FH:=@Array.append_empty
def dQ:=@PySem.wpAny_dictEpoch
def GH:=@PySem.wpAny_typeOf
def uz:=@PySem.call_meets
def vz:=@List.nodup_nil
def wz:=@PySem.Walks.list
def yz:=@PySem.Draws.list
def Az:=@PySem.intKind_is
def W8:=@Array.mem_toList_iff
def X8:=@Nat.pow_le_pow_right
def Y8:=@List.range_eq_range'
def Z8:=@Array.getElem_toList
def oQ:=@Nat.testBit_or
def xr:=@PySem.W.kia_one
def HH:=@PySem.wpAny_of_eq
def sQ:=@List.lt_trans
def AQ:=@Bool.false_or
def Bz:=@Option.getD_some
def Ew:=@Prod.ext
def BQ:=@Nat.succ_pos
def CQ:=@Nat.le_total
def DQ:=@Nat.zero_add
def Fw:=@Iff.rfl
section
open PySem PySem.Spec PyProof.Rows
abbrev ac:=List Nat
abbrev am:=Value->Shared->Prop
abbrev be:=List Addr
abbrev bv:=List (List Nat)
abbrev cr:=List Value
abbrev db:=List (Addr×Obj)
abbrev f8:=List (Nat×Nat)
abbrev jp:=Str->Option Value
abbrev lv:=List (Int×Int)
abbrev lw:=List Int
abbrev pc:=Array (Option Value)
abbrev re:=Option Addr
abbrev sw:=Array (Int×Value)
abbrev sB:=List ((Nat×Nat)×List Nat)
abbrev ut:=Shared->Prop
abbrev u8:=List Bool
abbrev v4:=Unit->Shared->Prop
abbrev v6:=Option Value->Shared->Prop
abbrev wf:=List String
abbrev wn:=Nat×Nat
abbrev wv:=Bool->Shared->Prop
abbrev wP:=List Str
abbrev wS:=Nat->Nat
abbrev xL:=Array Value
abbrev x0:=Option (Value×Nat)->Shared->Prop
abbrev At:=List (Str×Addr)
abbrev AT:=List Env
abbrev Ch:=Nat->Heap->Prop
abbrev Da:=Nat×Nat->Nat
abbrev Db:=Nat×Nat->List Nat
abbrev Do:=Int×Int
abbrev Ev:=Option Int
abbrev Fa:=List (Str×Value)
abbrev Gc:=List Value->Shared->Prop
abbrev GM:=Nat->Nat->Bool
abbrev GT:=Array Nat
abbrev M2:=Nat->Nat->Prop
abbrev No:=Nat->Prop
abbrev On:=Nat->Bool
abbrev Os:=World->Heap->Prop
abbrev Pi:=Nat×Nat->List Nat->List (Nat×Nat)
abbrev Ps:=Int×Int->Nat->Nat
end
open PySem.Str(ofString)
namespace L2
open PySem PySem.Spec PyProof.Rows
abbrev Key:=Sum Int Str
noncomputable def Hv:Key->Value->Bool
 |.inl k,v=>Value.isInt k v
 |.inr x,v=>Value.isStrOf x v
noncomputable def bLv(w:World):Key->Int
 |.inl k=>hashInt k
 |.inr x=>hashStr w x
abbrev _root_.FM:=List Key
abbrev _root_.Ix:=List (Key×Value)
abbrev _root_.KM:=List (List Key×Addr×Value)
def gG:∀{k:Key}{v:Value},Hv k v=true->(∃i t,k=Sum.inl i/\v=Value.int i t)\/(∃x t,k=Sum.inr x/\v=Value.str x t)
 |.inl i,v,h=>by
  obtain⟨t,e⟩:=Value.isInt_shape h;exact .inl ⟨i,t,rfl,e⟩
 |.inr x,v,h=>by
  obtain⟨t,e⟩:=Value.isStrOf_shape h;exact .inr ⟨x,t,rfl,e⟩
def Č(i:Int)(t:Tok):Hv (.inl i) (.int i t)=true:=by simp[Hv,Value.isInt]
def č(x:Str)(t:Tok):Hv (.inr x) (.str x t)=true:=by simp[Hv,Value.isStrOf]
def F4(a b:Int):decide ((Sum.inl a:Key)=Sum.inl b)=(a==b):=by
 by_cases e:a=b
 .subst e;simp
 rw[Ed<|λq=>e<|Cw q]
 exact(yt.mpr e).symm
def G4(a b:Str):decide ((Sum.inr a:Key)=Sum.inr b)=decide (a=b):=by
 by_cases e:a=b
 .simp
 rw[Ed<|λq=>e<|Sum.inr.inj q,Ed e]
def J4(a:Int)(b:Str):decide ((Sum.inl a:Key)=Sum.inr b)=false:=Ed (λq=>nomatch q)
def K4(a:Str)(b:Int):decide ((Sum.inr a:Key)=Sum.inl b)=false:=Ed (λq=>nomatch q)
def gW(prog:Program)(w:World):PySem.KeyKind prog w Key where
 is:=Hv
 hash:=bLv w
 inj:=λv a b g d=>by
  rcases gG g with ⟨i,t,rfl,rfl⟩|⟨x,t,rfl,rfl⟩
  .rcases gG d with ⟨j,u,rfl,e⟩|⟨y,u,rfl,e⟩
   .injection e with e1 _;rw[e1]
   .exact nomatch e
  .rcases gG d with ⟨j,u,rfl,e⟩|⟨y,u,rfl,e⟩
   .exact nomatch e
   .injection e with e1 _;rw[e1]
 byValue:=λk v h=>by
  rcases gG h with ⟨i,t,rfl,rfl⟩|⟨x,t,rfl,rfl⟩ <;> rfl
 pyHash:=λc h=>by
  rcases gG c with ⟨i,t,rfl,rfl⟩|⟨x,t,rfl,rfl⟩
  .exact wpAny_pyHash_int h
  .exact wpAny_pyHash_str h
 eqBool:=λf c h=>by
  rcases gG f with ⟨i,t,rfl,rfl⟩|⟨x,t,rfl,rfl⟩
  .rcases gG c with ⟨j,u,rfl,rfl⟩|⟨y,u,rfl,rfl⟩
   .rw[F4]at h;exact wpAny_eqBool_int h
   .rw[J4]at h;exact SeqAt.EqAt.int_str i t y u _ _ _ _ h
  .rcases gG c with ⟨j,u,rfl,rfl⟩|⟨y,u,rfl,rfl⟩
   .rw[K4]at h;exact SeqAt.EqAt.str_int x t j u _ _ _ _ h
   .rw[G4]at h;exact wpAny_eqBool_str h
 «strs» := λk x t v h=>by
  rcases gG h with ⟨i,u,rfl,e⟩|⟨y,u,rfl,e⟩
  .exact nomatch e
  .injection e with e1 _
   subst e1;cases v<;>rfl
def À(prog:Program)(w:World)(i:Int)(t:Tok):(gW prog w).is (.inl i) (.int i t)=true:=Č i t
def Á(prog:Program)(w:World)(x:Str)(t:Tok):(gW prog w).is (.inr x) (.str x t)=true:=č x t
inductive V where
 |Hb|bl (b:Bool)|int (i:Int)|str (x:Str)|JH (b:Array UInt8)|Mw (b:UInt64)|ref (a:Addr)|ty (n:String)
 deriving DecidableEq
abbrev _root_.pi:=List (List Key×V)
abbrev _root_.ss:=List V
abbrev _root_.sK:=List (Key×V)
abbrev _root_.AC:=List (Str×V)
def RelV:V->Value->Prop
 |.Hb,u=>u=Value.none
 |.bl b,u=>u=Value.bool b
 |.int i,u=>∃t,u=Value.int i t
 |.str x,u=>∃t,u=Value.str x t
 |.JH b,u=>∃t,u=Value.bytes b t
 |.Mw b,u=>∃t,u=Value.float b t
 |.ref a,u=>u=Value.ref a
 |.ty n,u=>u=Value.type n
abbrev Ca:List V->List Value->Prop:=Paired RelV
theorem Ca.length(r:Ca xs us):xs.length=us.length:=Paired.length r
theorem Ca.get:∀{xs:ss}{a:cr}{i:Nat}{x:V},Ca xs a->xs[i]?=some x->∃u,a[i]?=some u/\RelV x u
 |_,_,_,_,.nil,e=>by simp at e
 |_,_,0,_,.cons r _,e=>by simp at e;subst e;exact⟨_,rfl,r⟩
 |_,_,i+1,x,.cons _ t,e=>by
  obtain⟨u,c,b⟩:=Ca.get t (by simpa using e)
  exact⟨u,by simpa using c,b⟩
theorem Ca.set(r:RelV x u):∀{xs:ss}{a:cr}(i:Nat),Ca xs a->Ca (xs.set i x) (a.set i u)
 |_,_,_,.nil=>.nil
 |_,_,0,.cons _ t=>.cons r t
 |_,_,i+1,.cons q t=>.cons q<|Ca.set r i t
theorem Ca.append:∀{xs ys:ss}{a ws:cr},Ca xs a->Ca ys ws->Ca (xs++ys) (a++ws)
 |_,_,_,_,.nil,s=>s
 |_,_,_,_,.cons r t,s=>.cons r<|Ca.append t s
theorem Ca.take:∀{xs:ss}{a:cr}(n:Nat),Ca xs a->Ca (xs.take n) (a.take n)
 |_,_,0,_=>.nil
 |_,_,_+1,.nil=>.nil
 |_,_,n+1,.cons r t=>.cons r<|Ca.take n t
theorem Ca.drop:∀{xs:ss}{a:cr}(n:Nat),Ca xs a->Ca (xs.drop n) (a.drop n)
 |_,_,0,r=>r
 |_,_,_+1,.nil=>.nil
 |_,_,n+1,.cons _ t=>Ca.drop n t
def wU:Option V->Option Value->Prop
 |some v,some u=>RelV v u
 |none,none=>True
 |_,_=>False
def KV{a:Type}:List (a×V)->List (a×Value)->Prop:=Paired λ(p:a×V)(q:a×Value)=>p.1=q.1/\RelV p.2 q.2
noncomputable def kV:Key->V
 |.inl i=>.int i
 |.inr x=>.str x
inductive HO where
 |lst (xs:ss)
 |tup (xs:ss)
 |dK (ia:sK)|dT (ia:pi)
 |set (S:Int->Bool) (n:Nat)
 |ins (C dx:Addr) (fs:AC)
 |own (x:Addr)
 |xd (fs:AC)
 |met (f x:Addr)
 |Uo (lo hi:Int)
 |fg (o:Obj) (u:HO)
 |lm (ps:xL)
 |ext (φ:Heap->Prop)
abbrev Hp:=Addr->Option HO
abbrev _root_.xz:=Hp->Prop
abbrev _root_.GE:=Hp->List V->Prop
abbrev _root_.KB:=Bool->Hp->Prop
abbrev _root_.Op:=List V->Hp->Prop
def Ra(H:Hp)(a:Addr)(o:HO):Hp:=λb=>if b=a then some o else H b
def bB:Ra H a o a=some o:=by unfold Ra;rw[Qa rfl]
def aK{a b:Addr}(h:b≠a):Ra H a o b=H b:=by unfold Ra;rw[Ea h]
def F6{H:Hp}(h:H a=some o)(c:H b=some u)(d:o≠u):a≠b:=by
 intro e;subst e;rw[h]at c;exact d<|Gi c
def aN{H:Hp}(h:H a=some o)(c:H b=none):a≠b:=by
 intro e;subst e;rw[h]at c;cases c
section
variable(P:Program)(w:World)
def jF(H:Hp)(h:Heap)(a:Addr):HO->Prop
 |.lst c=>c.length<=sizeLine/\∃(b:cr)(n:Nat),Ca c b/\h.get? a=some {cls:=.type "list",data:=.seq b.toArray n}
 |.tup c=>c.length<=sizeLine/\∃b:cr,Ca c b/\IsTup h a b.toArray
 |.dK e=>e.length<=sizeLine/\(a==sysModules)=false/\∃j,KV e j/\h.DictOf (gW P w) a j
 |.dT e=>e.length<=sizeLine/\(a==sysModules)=false/\∃c:KM,
   Paired (λ(p:List Key×V)(q:List Key×Addr×Value)=>p.1=q.1/\H q.2.1=some (.tup<|p.1.map kV)/\RelV p.2 q.2.2) e c/\
   ∃o m y,h.get? a=some o/\o.ExactDict/\o.data=.dict m y/\m.toList=c.map (entryOfKey<|tupleKind<|gW P w)/\(c.map (·.1)).Nodup
 |.set S n=>h.SetOf (intKind P w) a S n
 |.ins C g fs=>H g=some (.own a)/\fs.length<=1000/\g≠a/\h.get? a=some (PySem.W.instObj C g)/\
   ∃d,h.Ns1 g d/\(∀f,wU (fs.lookup f)<|d f)/\PySem.Within d (fs.map (·.1))
 |.own _=>∃o,h.get? a=some o
 |.xd fs=>∃d,h.Ns1 a d/\∀f,wU (fs.lookup f)<|d f
 |.Uo lo s=>∃t u v,h.get? a=some {cls:=.type "range",data:=.fields #[.int lo t,.int s u,.int 1 v]}
 |.fg o u=>h.get? a=some o/\jF H h a u
 |.lm r=>h.get? a=some {cls:=.none,data:=.fields r}
 |.met f x=>h.get? a=some (PySem.W.methodObj (.ref f)<|.ref x)
 |.ext i=>i h/\(∃o,h.get? a=some o)/\∀l k:Heap,i l->(∀o,l.get? a=some o->k.get? a=some o)->i k
def de(H:Hp)(h:Heap):Prop:=∀a o,H a=some o->jF P w H h a o
end
section
variable{P:Program}{w:World}{H H':Hp}{h h':Heap}{a:Addr}{o:HO}
theorem jF.lt(x:jF P w H h a o):a<h.objs.size:=by
 cases o with
 |lst b=>obtain⟨_,_,_,_,e⟩:=x;exact Vb e
 |tup b=>obtain⟨_,_,_,p⟩:=x;exact p.lt
 |dK c=>obtain⟨_,_,_,_,o,_,_,e,_⟩:=x;exact Vb e
 |dT c=>obtain⟨_,_,_,_,o,_,_,e,_⟩:=x;exact Vb e
 |set S n=>obtain⟨o,_,_,_,e,_⟩:=x;exact Vb e
 |ins C j fs=>obtain⟨_,_,_,e,_⟩:=x;exact Vb e
 |own y=>obtain⟨_,e⟩:=x;exact Vb e
 |xd fs=>obtain⟨_,⟨_,_,_,e,_⟩,_⟩:=x;exact Vb e
 |Uo lo i=>obtain⟨_,_,_,e⟩:=x;exact Vb e
 |fg ob u=>obtain⟨e,_⟩:=x;exact Vb e
 |lm g=>exact Vb<|x
 |met f y=>exact Vb<|x
 |ext d=>obtain⟨_,⟨_,e⟩,_⟩:=x;exact Vb e
theorem Paired.dq{d c:Type}{F G:d->c->Prop}:∀{g:List d}{e:List c},Paired F g e->(∀a b,F a b->G a b)->Paired G g e
 |_,_,.nil,_=>.nil
 |_,_,.cons r t,f=>.cons (f _ _ r)<|Paired.dq t f
def Paired.imp'{d c:Type}{F G:d->c->Prop}(f:∀a b,F a b->G a b){g:List d}{e:List c}(r:Paired F g e):Paired G g e:=Paired.dq r f
def jF.Pe(x:jF P w H h a o)(k:∀b u,(b=a\/H b=some (.own a))->h.get? b=some u->h'.get? b=some u)
  (F:∀b,H b=some (.own a)->H' b=some (.own a)) (E:∀b xs,H b=some (.tup xs)->H' b=some (.tup xs)):jF P w H' h' a o:=by
 induction o with
 |lst xs=>obtain⟨z,j,n,r,e⟩:=x;exact⟨z,j,n,r,k _ _ (.inl rfl) e⟩
 |tup xs=>obtain⟨z,j,r,ob,e,c⟩:=x;exact⟨z,j,r,ob,k _ _ (.inl rfl) e,c⟩
 |dK D=>obtain⟨z,y,s,r,ob,g,i,e,c⟩:=x;exact⟨z,y,s,r,ob,g,i,k _ _ (.inl rfl) e,c⟩
 |dT D=>
  obtain⟨z,y,xs,r,ob,g,i,e,c⟩:=x;exact⟨z,y,xs,Paired.dq r λp q z=>⟨z.1,E _ _ z.2.1,z.2.2⟩,ob,g,i,k _ _ (.inl rfl) e,c⟩
 |set S n=>obtain⟨ob,g,i,t,e,c⟩:=x;exact⟨ob,g,i,t,k _ _ (.inl rfl) e,c⟩
 |ins C K fs=>
  obtain⟨d,z,A,e,m,⟨l,g,i,e2,c⟩,r⟩:=x;exact⟨F _ d,z,A,k _ _ (.inl rfl) e,m,⟨l,g,i,k _ _ (.inr d) e2,c⟩,r⟩
 |own y=>obtain⟨ob,e⟩:=x;exact⟨ob,k _ _ (.inl rfl) e⟩
 |xd fs=>obtain⟨m,⟨l,g,i,e,c⟩,r⟩:=x;exact⟨m,⟨l,g,i,k _ _ (.inl rfl) e,c⟩,r⟩
 |Uo lo J=>obtain⟨t,u,v,e⟩:=x;exact⟨t,u,v,k _ _ (.inl rfl) e⟩
 |fg ob u B=>obtain⟨e,q⟩:=x;exact⟨k _ _ (.inl rfl) e,B q⟩
 |lm I=>
  exact k a _ (.inl rfl) x
 |met f y=>
  exact k a _ (.inl rfl) x
 |ext G=>obtain⟨p,⟨o,e⟩,st⟩:=x;exact⟨st _ _ p λo q=>k _ _ (.inl rfl) q,⟨o,k _ _ (.inl rfl) e⟩,st⟩
theorem de.lt(x:de P w H h)(e:H a=some o):a<h.objs.size:=(x a o e).lt
def de.fresh(x:de P w H h)(e:h.objs.size<=a):H a=none:=by
 cases q:H a with
 |none=>rfl
 |some u=>exact absurd (ug (x.lt q) e)<|Gh _
def de.kept(x:de P w H h)(k:∀b u,h.get? b=some u->h'.get? b=some u):de P w H h':=λa o e=>
 (x a o e).Pe (λb u _ q=>k b u q) (λ_ q=>q) λ_ _ q=>q
def de.laid(x:de P w H h)(k:∀b u,h.get? b=some u->h'.get? b=some u)(g:h.objs.size<=a)(new:jF P w (Ra H a o) h' a o):de P w (Ra H a o) h':=λb u e=>by
 have d:=x.fresh g
 by_cases f:b=a
 .subst f;rw[bB]at e;cases e;exact new
 rw[aK f]at e;exact(x b u e).Pe (λc v _ q=>k c v q) (λc q=>by rwa [aK<|aN q d]) λc i q=>by rwa [aK<|aN q d]
end
def Rd(H:Hp)(a:Addr)(u:HO):Prop:=H a=some u\/∃o,H a=some (.fg o u)
def Rd.ok{w:World}(r:Rd H a u)(x:de P w H h):jF P w H h a u:=by
 rcases r with r|⟨o,r⟩
 .exact x a u r
 obtain⟨_,q⟩:=x a _ r;exact q
def Bj:Option HO->Prop
 |some (.lst _)=>True
 |some (.dK _)=>True
 |some (.dT _)=>True
 |some (.set _ _)=>True
 |some (.ins _ _ _)=>True
 |some (.ext _)=>True
 |_=>False
section
variable{P:Program}{w:World}{H:Hp}{h h':Heap}{x e:Addr}{o':HO}
def de.write(ok:de P w H h)(j:Bj (H x))(he:e=x\/H e=some (.own x))(k:∀b u,b≠e->h.get? b=some u->h'.get? b=some u)(l:∃u,h'.get? e=some u)
  (new:jF P w (Ra H x o') h' x o'):de P w (Ra H x o') h':=λb u q=>by
 have d:∀c y,H c=some (.own y)->c≠x:=λc y r z=>by subst z;rwa [r]at j
 by_cases f:b=x
 .subst f;rw[bB]at q;cases q;exact new
 rw[aK f]at q
 by_cases a:b=e
 .have i:H b=some (.own x):=by
   rcases he with z|z
   .exact absurd (a.trans z) f
   rwa [a]
  rw[q]at i;cases i;obtain⟨v,m⟩:=l;exact⟨v,by rwa [a]⟩
 refine(ok b u q).Pe (λc v hc r=>k c v ?_ r) (λc r=>by rwa [aK<|d c b r]) λc g r=>by rwa [aK<|(λc g r z=>by subst z;rwa [r]at j) c g r]
 rcases hc with rfl|hc
 .exact a
 rintro rfl;rcases he with z|z
 .exact d c b hc z
 rw[hc]at z;cases z;exact f rfl
end
structure Un(fs ex:be)(H H':Hp)(h h':Heap):Prop where
 keep:∀b o,h.get? b=some o->H b=none->b∉fs->b∉ex->h'.get? b=some o
 slot:∀b o,h.get? b=some o->H b=none->b∈fs->b∉ex->∃sl,h'.get? b=some {o with slots:=sl}
 free:∀b o,h.get? b=some o->H b=none->b∉ex->H' b=none
 there:∀b o,h.get? b=some o->b∉ex->∃o',h'.get? b=some o'
 Zf:∀b xs,H b=some (.tup xs)->H' b=some (.tup xs)
 Df:∀b o u,H b=some (.fg o u)->H' b=some (.fg o u)
 Yf:∀b ps,H b=some (.lm ps)->∃more,H' b=some (.lm<|ps++more)
section
variable{fs fs' ex ex':be}{H H1 H2:Hp}{h h1 h2 h':Heap}{a x e:Addr}{o:HO}
def Un.any(u:Un fs ex H H1 h h1){b:Addr}{ob:Obj}(q:h.get? b=some ob)(n:H b=none)(a:b∉ex):∃d,h1.get? b=some {ob with slots:=d}:=by
 by_cases c:b∈fs
 .exact u.slot b ob q n c a
 exact⟨ob.slots,u.keep b ob q n c a⟩
def Un.kept(k:∀b u,h.get? b=some u->h'.get? b=some u):Un fs ex H H h h':=
 ⟨λb ob q _ _ _=>k b ob q,λb ob q _ _ _=>⟨ob.slots,k b ob q⟩,λ_ _ _ n _=>n,λb ob q _=>⟨ob,k b ob q⟩,λ_ _ q=>q,λ_ _ _ q=>q,λ_ a q=>⟨#[],by rw[q];simp⟩⟩
def Un.refl:Un fs ex H H h h:=Un.kept λ_ _ q=>q
def Un.laid(k:∀b u,h.get? b=some u->h'.get? b=some u)(e:h.objs.size<=a)(c:H a=none):Un fs ex H (Ra H a o) h h' where
 keep:=λb u q _ _ _=>k b u q
 slot:=λb u q _ _ _=>⟨u.slots,k b u q⟩
 free:=λb u q n _=>by rwa [aK<|zd<|ug (Vb q) e]
 there:=λb u q _=>⟨u,k b u q⟩
 Zf:=λb d q=>by rwa [aK<|aN q c]
 Df:=λb u d q=>by rwa [aK<|aN q c]
 Yf:=λb f q=>⟨#[],by rw[aK<|aN q c,q];simp⟩
def Un.write(c:Bj (H x))(he:e=x\/H e=some (.own x))(k:∀b u,b≠e->h.get? b=some u->h'.get? b=some u)(l:∃u,h'.get? e=some u):Un fs ex H (Ra H x o) h h':=by
 have f:∀b,H b=none->b≠x:=λb n z=>by subst z;rwa [n]at c
 have g:∀b,H b=none->b≠e:=λb n z=>by
  subst z;rcases he with r|r
  .exact f b n r
  rw[n]at r;cases r
 have d:∀b u,H b=some u->¬ Bj (some u)->b≠x:=λb u q j z=>by subst z;rw[q]at c;exact j c
 refine⟨λb u q n _ _=>k b u (g b n) q,λb u q n _ _=>⟨u.slots,k b u (g b n) q⟩,λb u q n _=>by rwa [aK<|f b n],λb u q _=>?_,
  λb i q=>by rwa [aK<|d b _ q λz=>z],λb u i q=>by rwa [aK<|d b _ q λz=>z],λb m q=>⟨#[],by rw[aK<|d b _ q λz=>z,q];simp⟩⟩
 by_cases a:b=e
 .subst a;exact l
 exact⟨u,k b u a q⟩
end
noncomputable def trk(h:Heap)(H:Hp):be:=(List.range h.objs.size).filter λa=>(H a).isSome
def Zv(h:Heap)(H:Hp):Heap:=PySem.W.hideAll h<|trk h H
def Ď(h:Heap)(H:Hp):(Zv h H).objs.size=h.objs.size:=PySem.W.hideAll_size _ _
def Ř{h:Heap}{H:Hp}(e:h.get? b=some o)(n:H b=none):(Zv h H).get? b=some o:=
 PySem.W.hideAll_get _ e λa=>by
  have q:=(Qj.mp a).2;rw[n]at q;simp at q
def bBo(e:(Zv h H).get? b=some o):h.get? b=some o/\H b=none:=by
 have a:=PySem.W.of_hideAll _ e;refine⟨a,?_⟩;cases q:H b with
 |none=>rfl
 |some x=>
  have z:(Zv h H).get? b=none:=PySem.W.hideAll_none _<|Qj.mpr ⟨Vi.mpr<|Vb a,by simp[q]⟩
  rw[z]at e;cases e
noncomputable def bBp(g h:Heap)(L:Addr):db:=(List.range h.objs.size).filterMap λa=>if a=L\/(g.get? a).isSome=true then none else (h.get? a).map λo=>(a,o)
noncomputable def rest(g h:Heap)(L d:Addr):db:=(bBp g h L).filter λp=>decide (p.1≠d)
structure Mod(K:PySem.W.Frag)(mg:jp)(base:Heap):Prop where
 tf:K.In base
 glob:base.Ns mainGlobals mg
 blt:∃mb,base.Ns builtinsNs mb/\∀x:Str,x≠"__name__"->mb x=bootBuiltins x
 nolimit:base.NoLimit
structure Cx where
 prog:Program
 w:World
 K:PySem.W.Frag
 mg:jp
 base:Heap
 A:Around
 N:wP
 Ba:Shared
 Oa:Hp
 env:Env
 outer:AT
 stack:AT
 ex:be
 fn:Str->Bool
 calm:Bool
 pn:db
 xe:am
noncomputable def Of(l:AT):be:=l.filterMap (·.frame)
abbrev Cx.fs(X:Cx):be:=Of X.outer
def Eh(a:Scope)(x:Str):Prop:=a.names.lookup x=some .local\/a.names.lookup x=some .cell\/a.names.lookup x=some .free
def Loc(a:Scope)(x:Str):Prop:=a.names.lookup x=some .local\/a.names.lookup x=some .cell
def Look(env:Env)(h:Heap)(m:jp)(x:Str)(u:Value):Prop:=
 (env.kindOf x=some .local/\m x=some u)\/((env.kindOf x=some .cell\/env.kindOf x=some .free)/\∃c,env.cells.lookup x=some c/\h.IsCell c (some u))
structure Cx.Ok(X:Cx):Prop where
 mod:Mod X.K X.mg X.base
 kind:X.env.scope.kind=.function
 glob:X.env.globals=mainGlobals
 blt:X.env.builtins=builtinsNs
 above:X.Ba.heap.objs.size<=X.env.locals
 inj:∀x y c,X.env.cells.lookup x=some c->X.env.cells.lookup y=some c->x=y
 has:∀x,(X.env.kindOf x=some .cell\/X.env.kindOf x=some .free)->∃c,X.env.cells.lookup x=some c
 Yt:∀x c,X.fn x=true->X.env.cells.lookup x=some c->X.Ba.heap.objs.size<=c
 hd:X.calm=true->X.A.handled=none
 frames:X.A.frames=some X.stack
 qx:X.stack=X.outer\/(X.stack=X.env::X.outer/\X.env.frame=some X.env.locals)
 Lw:∀b∈X.ex,b≠X.env.locals/\∀x c,X.env.cells.lookup x=some c->c≠b
 bs:∀b o,X.base.get? b=some o->X.Ba.heap.get? b=some o/\X.Oa b=none
 ym:X.base.objs.size<=X.Ba.heap.objs.size
 Zj:∀b o,X.base.get? b=some o->b∉X.ex
 Vj:∀b∈X.ex,b∉X.fs
 Pf:X.Ba.heap.FunFrames X.base X.outer
 Mo:∀b∈X.fs,X.Oa b=none
structure ya(X:Cx)(aa:db)(σ:List (Option V))(H:Hp)(s:Shared):Prop where
 ok:X.Ok
 os:s.os=X.Ba.os
 bare:AllBare s.gens
 base:Un X.fs X.ex X.Oa H X.Ba.heap s.heap
 loc:∃m,s.heap.Ns X.env.locals m/\∀(i:Nat)(x:Str)(v:V),X.N[i]?=some x->σ[i]?=some (some v)->Eh X.env.scope x->∃u,RelV v u/\Look X.env s.heap m x u
 cell:∀x c,X.env.cells.lookup x=some c->∃v,s.heap.IsCell c v
 free:H X.env.locals=none
 Qc:∀x c,X.env.cells.lookup x=some c->H c=none
 pin:∀p∈X.pn++aa,s.heap.get? p.1=some p.2/\H p.1=none/\p.1≠X.env.locals/\p.1∉X.fs/\∀v,p.2.data≠.cell v
 Ia:de X.prog X.w H s.heap
 len:σ.length=X.N.length
section
variable{X:Cx}{aa:db}{σ:List (Option V)}{H H':Hp}{s:Shared}{h':Heap}
def Cx.Ok.BS(ok:X.Ok){b:Addr}{o:Obj}(e:X.base.get? b=some o):b∉X.fs:=λa=>by
 have:=(ok.Pf.mem a).1;rw[e]at this;cases this
theorem ya.bs(I:ya X aa σ H s):∀b o,X.base.get? b=some o->s.heap.get? b=some o/\H b=none:=λb o e=>
 ⟨I.base.keep b o (I.ok.bs b o e).1 (I.ok.bs b o e).2 (I.ok.BS e)<|I.ok.Zj b o e,I.base.free b o (I.ok.bs b o e).1 (I.ok.bs b o e).2<|I.ok.Zj b o e⟩
def ya.bk(I:ya X aa σ H s):∀b o,X.base.get? b=some o->s.heap.get? b=some o:=λb o e=>(I.bs b o e).1
theorem ya.mod(I:ya X aa σ H s):Mod X.K X.mg X.base:=I.ok.mod
def ya.Pg(I:ya X aa σ H s):X.K.In s.heap:=I.ok.mod.tf.keeps I.bk
theorem ya.lt(I:ya X aa σ H s):X.env.locals<s.heap.objs.size:=let ⟨_,a,_⟩:=I.loc;a.lt
def ya.sz(I:ya X aa σ H s):X.Ba.heap.objs.size<=s.heap.objs.size:=Yg I.ok.above<|Fo I.lt
def ya.CS(I:ya X aa σ H s){a:Addr}(h:s.heap.objs.size<=a):a∉X.fs:=λc=>by
 obtain⟨_,o,b,_⟩:=I.ok.Pf.mem c;exact absurd (ug (Vb b)<|Yg I.sz h)<|Gh _
def ya.Jp(I:ya X aa σ H s):∀x c,X.env.cells.lookup x=some c->c≠X.env.locals:=λx c e z=>by
 obtain⟨v,o,a,b⟩:=I.cell x c e;obtain⟨m,⟨g,h,i,f,d,_⟩,_⟩:=I.loc;rw[z,f]at a;cases a;rw[d]at b;cases b
theorem ya.Pf(I:ya X aa σ H s):s.heap.FunFrames X.base X.outer:=by
 have all:∀(l:AT),(∀b∈Of l,b∈X.fs)->X.Ba.heap.FunFrames X.base l->s.heap.FunFrames X.base l:=by
  intro l
  induction l with
  |nil=>intro _ _;trivial
  |cons p r g=>
   intro f k;obtain⟨m,⟨L,o,a,j,i,n⟩,h⟩:=k;have d:=f L (by unfold Of;rw[LG,a];exact Cb)
   obtain⟨q,e⟩:=I.base.slot L o i (I.ok.Mo L d) d λz=>I.ok.Vj L z d
   exact⟨m,⟨L,_,a,j,e,n⟩,g (λb c=>f b<|by unfold Of;rw[LG,a];exact Kb _ c) h⟩
 exact all X.outer (λ_ c=>c) I.ok.Pf
theorem ya.stack(I:ya X aa σ H s):s.heap.FunFrames X.base X.stack:=by
 rcases I.ok.qx with e|⟨e,b⟩
 .rw[e];exact I.Pf
 rw[e];obtain⟨m,a,_⟩:=I.loc;exact .cons (by rw[I.ok.kind];decide) b a (Heap.get?_none_of_le<|Yg I.ok.ym I.ok.above) I.Pf
def ya.nk(I:ya X aa σ H s):∀b∈Of X.stack,b∈X.env.locals::X.fs:=λb a=>by
 rcases I.ok.qx with e|⟨e,c⟩
 .rw[e]at a;exact Kb _ a
 rw[e]at a;unfold Of at a
 rwa [LG,c]at a
def ya.dh(I:ya X aa σ H s):∀b∈Of X.stack,H b=none:=λb a=>by
 rcases Mb.mp (I.nk b a) with e|a
 .rw[e];exact I.free
 obtain⟨_,o,c,_⟩:=I.ok.Pf.mem a;exact I.base.free b o c (I.ok.Mo b a) λz=>I.ok.Vj b z a
def ya.step{t':Nat}{d':Drawn}{ch:be}(I:ya X aa σ H s)
  (w:∀b∈ch,(b∈X.ex\/X.Ba.heap.objs.size<=b)/\b≠X.env.locals/\(∀x c,X.env.cells.lookup x=some c->c≠b)/\∀p∈X.pn++aa,p.1≠b)
  (keep:∀b o,b≠X.env.locals->b∉X.fs->b∉ch->s.heap.get? b=some o->H b=none->h'.get? b=some o)
  (slot:∀b o,b≠X.env.locals->b∈X.fs->b∉ch->s.heap.get? b=some o->H b=none->∃B,h'.get? b=some {o with slots:=B}) (free:∀b o,b∉ch->s.heap.get? b=some o->H b=none->H' b=none)
  (there:∀b o,b∉ch->s.heap.get? b=some o->∃o',h'.get? b=some o')
  (P:∀b xs,H b=some (.tup xs)->H' b=some (.tup xs)) (S:∀b o u,H b=some (.fg o u)->H' b=some (.fg o u)) (Q:∀b ps,H b=some (.lm ps)->∃j,H' b=some (.lm<|ps++j))
  (J:∀m,s.heap.Ns X.env.locals m->h'.Ns X.env.locals m) (R:de X.prog X.w H' h') (O:AllBare g') :
  ya X aa σ H' {s with heap:=h',gens:=g',drawn:=d',toks:=t'}:=by
 have G:∀b o,X.Ba.heap.get? b=some o->b≠X.env.locals:=λb o e=>zd<|ug (Vb e) I.ok.above
 have y:∀b o,X.Ba.heap.get? b=some o->b∉X.ex->b∉ch:=λb o e a g=>by
  rcases (w b g).1 with z|z
  .exact a z
  exact absurd (ug (Vb e) z)<|Gh _
 have f:∀x c,X.env.cells.lookup x=some c->∀v,s.heap.IsCell c v->h'.IsCell c v:=λx c e v ⟨o,h,C⟩=>by
  have t:=λz=>(w c z).2.2.1 x c e rfl
  by_cases F:c∈X.fs
  .obtain⟨B,q⟩:=slot c o (I.Jp x c e) F t h<|I.Qc x c e;exact⟨_,q,C⟩
  exact⟨o,keep c o (I.Jp x c e) F t h<|I.Qc x c e,C⟩
 refine⟨I.ok,I.os,O,⟨λb o e n g a=>?_,λb o e n g a=>?_,λb o e n a=>?_,λb o e a=>?_,λb xs e=>P b xs<|I.base.Zf b xs e,λb o xs e=>S b o xs<|I.base.Df b o xs e,λb ps e=>?_⟩,?_,λx c e=>?_,?_,λx c e=>?_,λp hp=>?_,R,I.len⟩
 .exact keep b o (G b o e) g (y b o e a) (I.base.keep b o e n g a) (I.base.free b o e n a)
 .obtain⟨B,e1⟩:=I.base.slot b o e n g a;obtain⟨A,e2⟩:=slot b _ (G b o e) g (y b o e a) e1<|I.base.free b o e n a;exact⟨A,e2⟩
 .obtain⟨o',e1⟩:=I.base.there b o e a;exact free b o' (y b o e a) e1<|I.base.free b o e n a
 .obtain⟨o',e1⟩:=I.base.there b o e a;exact there b o' (y b o e a) e1
 .obtain⟨L,e1⟩:=I.base.Yf b ps e;obtain⟨K,e2⟩:=Q b _ e1;exact⟨L++K,by rw[e2,Array.append_assoc]⟩
 .obtain⟨m,M,N⟩:=I.loc;refine⟨m,J m M,λi x v e1 e2 e3=>?_⟩
  obtain⟨u,r,l⟩:=N i x v e1 e2 e3;refine⟨u,r,?_⟩;rcases l with l|⟨k,c,e,z⟩
  .exact .inl l
  exact .inr ⟨k,c,e,f x c e _ z⟩
 .obtain⟨v,z⟩:=I.cell x c e;exact⟨v,f x c e v z⟩
 .obtain⟨m,⟨o,_,_,h,_⟩,_⟩:=I.loc;exact free _ o (λz=>(w _ z).2.1 rfl) h I.free
 .obtain⟨v,o,h,C⟩:=I.cell x c e;exact free c o (λz=>(w c z).2.2.1 x c e rfl) h<|I.Qc x c e
 obtain⟨e,n,E,D,d⟩:=I.pin p hp;have t:=λz=>(w p.1 z).2.2.2 p hp rfl
 exact⟨keep p.1 p.2 E D t e n,free p.1 p.2 t e n,E,D,d⟩
def ya.un{t':Nat}(I:ya X aa σ H s)(u:Un X.fs [] H H' s.heap h')(k:de X.prog X.w H' h'):ya X aa σ H' {s with heap:=h',toks:=t'}:=by
 obtain⟨m,⟨o,t,v,c,r⟩,_⟩:=id I.loc;obtain⟨l,i⟩:=u.any c I.free (by simp)
 exact I.step (ch:=[]) (λ_ z=>nomatch z) (λb o _ a _ e n=>u.keep b o e n a<|by simp) (λb o _ a _ e n=>u.slot b o e n a<|by simp) (λb o _ e n=>u.free b o e n<|by simp) (λb o _ e=>u.there b o e<|by simp) u.Zf u.Df u.Yf (λq h=>by
  obtain⟨p,g,j,d,f⟩:=h;rw[c]at d;cases d;exact⟨_,g,j,i,f⟩) k I.bare
def ya.call{t':Nat}{d':Drawn}(I:ya X aa σ H s)(u:Un (Of X.stack) ch H H' s.heap h')(v:de X.prog X.w H' h')(l:AllBare g')
  (g:∀b∈ch,(b∈X.ex\/X.Ba.heap.objs.size<=b)/\b≠X.env.locals/\(∀x c,X.env.cells.lookup x=some c->c≠b)/\∀p∈X.pn++aa,p.1≠b) :
  ya X aa σ H' {s with heap:=h',gens:=g',drawn:=d',toks:=t'}:=by
 obtain⟨m,⟨o,B,C,f,r⟩,_⟩:=id I.loc;obtain⟨w,d⟩:=u.any f I.free λz=>(g _ z).2.1 rfl
 exact I.step g (λb o d q a e n=>u.keep b o e n (λz=>(Mb.mp<|I.nk b z).elim d q) a) (λb o _ _ a e n=>u.any e n a) (λb o a e n=>u.free b o e n a) (λb o a e=>u.there b o e a) u.Zf u.Df u.Yf (λA k=>by
  obtain⟨y,j,t,h,i⟩:=k;rw[f]at h;cases h;exact⟨_,j,t,d,i⟩) v l
def ya.turned{t':Nat}{it:Addr}(I:ya X aa σ H s)(k:∀b o,b≠it->s.heap.get? b=some o->h'.get? b=some o)(g:H it=none)(a:it≠X.env.locals)
  (j:it∈X.ex\/X.Ba.heap.objs.size<=it) (i:∀x c,X.env.cells.lookup x=some c->c≠it) (h:∀p∈X.pn++aa,p.1≠it):ya X aa σ H {s with heap:=h',toks:=t'}:=by
 have d:∀b u,H b=some u->b≠it:=λb u e z=>by rw[z,g]at e;cases e
 refine I.step (ch:=[it]) (λb hb=>?_) (λb o _ _ hc e _=>k b o (λz=>hc<|by simp[z]) e) (λb o _ _ hc e _=>⟨o.slots,k b o (λz=>hc<|by simp[z]) e⟩) (λ_ _ _ _ n=>n)
  (λb o hc e=>⟨o,k b o (λz=>hc<|by simp[z]) e⟩) (λ_ _ e=>e) (λ_ _ _ e=>e) (λb w e=>⟨#[],by rw[e];simp⟩) (λm hm=>?_) (λb u e=>?_) I.bare
 .have e:=by simpa using hb
  subst e;exact⟨j,a,i,h⟩
 .obtain⟨o,l,t,f,r⟩:=hm;exact⟨o,l,t,k _ o (bf a) f,r⟩
 refine(I.Ia b u e).Pe (λc v hc q=>k c v ?_ q) (λ_ q=>q) λ_ _ q=>q
 rcases hc with z|z
 .rw[z];exact d b u e
 exact d c _ z
def ya.tok(I:ya X aa σ H s)(t:Nat):ya X aa σ H {s with toks:=t}:=I.un Un.refl I.Ia
theorem ya.kept{t':Nat}(I:ya X aa σ H s)(k:∀b u,s.heap.get? b=some u->h'.get? b=some u):ya X aa σ H {s with heap:=h',toks:=t'}:=I.un (Un.kept k)<|I.Ia.kept k
theorem ya.laid{a:Addr}{t':Nat}(I:ya X aa σ H s)(k:∀b u,s.heap.get? b=some u->h'.get? b=some u)(c:s.heap.objs.size<=a)(new:jF X.prog X.w (Ra H a o) h' a o) :
  ya X aa σ (Ra H a o) {s with heap:=h',toks:=t'}:=I.un (Un.laid k c<|I.Ia.fresh c)<|I.Ia.laid k c new
theorem ya.write{e:Addr}{t':Nat}(I:ya X aa σ H s)(a:Bj (H x))(he:e=x\/H e=some (.own x))(k:∀b u,b≠e->s.heap.get? b=some u->h'.get? b=some u)(c:∃u,h'.get? e=some u)
  (new:jF X.prog X.w (Ra H x o) h' x o):ya X aa σ (Ra H x o) {s with heap:=h',toks:=t'}:=I.un (Un.write a he k c)<|I.Ia.write a he k c new
def ya.Qi{a:db}(I:ya X aa σ H s)(h:∀p∈a,s.heap.get? p.1=some p.2/\H p.1=none/\p.1≠X.env.locals/\p.1∉X.fs/\∀v,p.2.data≠.cell v):ya X a σ H s:=
 ⟨I.ok,I.os,I.bare,I.base,I.loc,I.cell,I.free,I.Qc,λp b=>(ji.mp b).elim (λz=>I.pin p<|Dj _ z)<|h p,I.Ia,I.len⟩
def TJ{N:wP}(c:N.Nodup){i j:Nat}{x:Str}(a:N[i]?=some x)(b:N[j]?=some x):i=j:=by
 obtain⟨e,e1⟩:=gf.mp a;obtain⟨d,e2⟩:=gf.mp b;exact(List.getElem_inj c).mp (e1.trans e2.symm)
def DW{E:am}{i:Nat}{Q:v4}(I:ya X aa σ H s)(hN:X.N.Nodup)(B:X.N[i]?=some x)(l:Loc X.env.scope x)(r:RelV v u)
  (h:∀L,ya X aa (σ.set i<|some v) H L->(∃a,Heap.SameBut a s.heap L.heap/\(a=X.env.locals\/X.env.cells.lookup x=some a))->Q () L) (hf:X.fn x=true\/X.env.scope.names.lookup x=some .local:=by first|exact .inl rfl|exact .inr rfl|assumption):wpAny M A (storeName X.env x u) Q E s:=by
 obtain⟨m,T,Z⟩:=id I.loc;have W:i<σ.length:=by rw[I.len];exact(gf.mp B).1
 have Jp:=I.Jp;have g:∀{a:Addr}{h':Heap},(∃o,s.heap.get? a=some o/\H a=none)->Heap.SameBut a s.heap h'->de X.prog X.w H h':=λ{a h'} ha f b ob e=>by
  obtain⟨_,_,V⟩:=ha;refine(I.Ia b ob e).Pe (λc D hc q=>(f.2 c ?_).trans q) (λ_ q=>q) λ_ _ q=>q
  rintro rfl;rcases hc with rfl|hc
  .rw[V]at e;cases e
  rw[V]at hc;cases hc
 rcases l with t|t
 .refine wpAny_storeName_local t T (λh' QR f=>?_) (by rw[I.ok.kind];rfl)
  obtain⟨oL,_,_,S,_⟩:=id T;refine h _ ⟨I.ok,I.os,I.bare,⟨λb o e n hb l=>?_,λb o e n hb l=>?_,I.base.free,λb o e l=>?_,I.base.Zf,I.base.Df,I.base.Yf⟩,⟨_,QR,λj y v' e1 e2 e3=>?_⟩,λy c e=>?_,I.free,I.Qc,λp hp=>?_,g ⟨oL,S,I.free⟩ f,by simpa using I.len⟩ ⟨_,f,.inl rfl⟩
  .exact(f.2 b<|zd<|ug (Vb e) I.ok.above).trans (I.base.keep b o e n hb l)
  .obtain⟨K,e1⟩:=I.base.slot b o e n hb l;exact⟨K,(f.2 b<|zd<|ug (Vb e) I.ok.above).trans e1⟩
  .obtain⟨O,e1⟩:=I.base.there b o e l;exact⟨O,(f.2 b<|zd<|ug (Vb e) I.ok.above).trans e1⟩
  .by_cases w:j=i
   .subst w;rw[B]at e1;cases e1;rw[O8 W]at e2;cases e2;exact⟨u,r,.inl ⟨t,by simp⟩⟩
   rw[xt<|bf w]at e2;obtain⟨J,N,q⟩:=Z j y v' e1 e2 e3;refine⟨J,N,?_⟩;rcases q with ⟨k,e⟩|⟨k,c,e,z⟩
   .refine .inl ⟨k,?_⟩;have:y≠x:=λe=>w (TJ hN e1<|e ▸ B)
    simp[this,e]
   exact .inr ⟨k,c,e,z.sameBut f<|Jp y c e⟩
  .obtain⟨D,z⟩:=I.cell y c e;exact⟨D,z.sameBut f<|Jp y c e⟩
  obtain⟨e,n,F,P,d⟩:=I.pin p hp;exact⟨(f.2 p.1 F).trans e,n,F,P,d⟩
 have R:X.fn x=true:=by
  rcases hf with z|z
  .exact z
  rw[z]at t;cases t
 obtain⟨c,hc⟩:=I.ok.has x<|.inl t;obtain⟨D,z⟩:=I.cell x c hc;refine wpAny_storeName_cell I.ok.kind t hc z<|λh' Kh f=>?_
 obtain⟨oc,U,Y⟩:=id z;refine h {s with heap:=h'} ⟨I.ok,I.os,I.bare,⟨λb o e n hb l=>?_,λb o e n hb l=>?_,I.base.free,λb o e l=>?_,I.base.Zf,I.base.Df,I.base.Yf⟩,⟨m,T.sameBut f<|bf<|Jp x c hc,λj y v' e1 e2 e3=>?_⟩,λy G e=>?_,I.free,I.Qc,λp hp=>?_,g ⟨oc,U,I.Qc x c hc⟩ f,by simpa using I.len⟩ ⟨c,f,.inr hc⟩
 .exact(f.2 b<|zd<|ug (Vb e)<|I.ok.Yt x c R hc).trans (I.base.keep b o e n hb l)
 .obtain⟨K,e1⟩:=I.base.slot b o e n hb l;exact⟨K,(f.2 b<|zd<|ug (Vb e)<|I.ok.Yt x c R hc).trans e1⟩
 .obtain⟨O,e1⟩:=I.base.there b o e l;exact⟨O,(f.2 b<|zd<|ug (Vb e)<|I.ok.Yt x c R hc).trans e1⟩
 .by_cases w:j=i
  .subst w;rw[B]at e1;cases e1;rw[O8 W]at e2;cases e2;exact⟨u,r,.inr ⟨.inl t,c,hc,Kh⟩⟩
  rw[xt<|bf w]at e2;obtain⟨J,N,q⟩:=Z j y v' e1 e2 e3;refine⟨J,N,?_⟩;rcases q with q|⟨k,G,e,z'⟩
  .exact .inl q
  refine .inr ⟨k,G,e,z'.sameBut f ?_⟩;rintro rfl;exact w<|TJ hN e1<|I.ok.inj _ _ _ e hc ▸ B
 .by_cases C:G=c
  .subst C;exact⟨_,Kh⟩
  obtain⟨w2,z2⟩:=I.cell y G e;exact⟨w2,z2.sameBut f C⟩
 obtain⟨e,n,F,P,d⟩:=I.pin p hp;refine⟨(f.2 p.1 ?_).trans e,n,F,P,d⟩;intro q;rw[q,U]at e;exact d D (by rwa [<-(Gi e)])
def De{E:am}{i:Nat}{Q:v4}(I:ya X aa σ H s)(e:X.N.Nodup)(c:X.N[i]?=some x)(b:Loc X.env.scope x)(r:RelV v u)
  (h:∀a,ya X aa (σ.set i<|some v) H a->Q () a) (d:X.fn x=true\/X.env.scope.names.lookup x=some .local:=by first|exact .inl rfl|exact .inr rfl|assumption):wpAny M A (storeName X.env x u) Q E s:=
 DW I e c b r (λa f _=>h a f) d
def ya.Ym{a:Shared}(I:ya X aa σ H s)(d:a.os=s.os)(u:Un (Of X.stack) ch H H' s.heap a.heap)(g:de X.prog X.w H' a.heap)(e:AllBare a.gens)
  (f:∀b∈ch,(b∈X.ex\/X.Ba.heap.objs.size<=b)/\b≠X.env.locals/\(∀x c,X.env.cells.lookup x=some c->c≠b)/\∀p∈X.pn++aa,p.1≠b):ya X aa σ H' a:=by
 obtain⟨h',j,k,h,i⟩:=a;subst d;exact I.call u g e f
end
abbrev XK:=Value->Option Addr->Hp->Prop
abbrev St:=List<|Option V
abbrev VK:=V->xz
abbrev _root_.tz:=V->Option Int->Option Int->Hp->VK->Prop
abbrev _root_.wE:=V->List V->Hp->VK->Prop
abbrev _root_.IN:=List V->Hp->VK->Prop
abbrev _root_.IR:=V->Hp->VK->Prop
abbrev TE:=St->Hp->VK->Prop
abbrev TT:=St->Hp->(Bool->Hp->Prop)->Prop
abbrev TA:=St->Hp->(List V->Hp->Prop)->Prop
structure Ends where
 nx:St->xz
 rt:VK
 bk:St->xz:=λ_ _=>False
 ct:St->xz:=λ_ _=>False
abbrev TS:=Ends->St->xz
def EP(X:Cx)(aa:db)(b:St)(Q:VK)(u:Value)(c:Shared):Prop:=∃v a,ya X aa b a c/\RelV v u/\Q v a
def TP(X:Cx)(aa:db)(c:St)(Q:KB)(b:Bool)(d:Shared):Prop:=∃a,ya X aa c a d/\Q b a
def AP(X:Cx)(aa:db)(c:St)(Q:Op)(d:cr)(e:Shared):Prop:=∃a b,ya X aa c b e/\Ca a d/\Q a b
def SP(X:Cx)(aa:db)(D:Ends)(f:Flow)(c:Shared):Prop:=
 match f with
 |.next=>∃b a,ya X aa b a c/\D.nx b a
 |.brk=>∃b a,ya X aa b a c/\D.bk b a
 |.cont=>∃b a,ya X aa b a c/\D.ct b a
 |.ret u=>∃v b a,ya X aa b a c/\RelV v u/\D.rt v a
def PE(X:Cx)(e:Expr)(t:TE):Prop:=
 ∀(b:db) (s:Shared) (a:St) (H:Hp) (Q:VK),ya X b a H s->t a H Q->wpAny (model X.prog X.w) X.A (eval e X.env) (EP X b a Q) X.xe s
def PT(X:Cx)(e:Expr)(t:TT):Prop:=
 ∀(b:db) (s:Shared) (a:St) (H:Hp) (Q:KB),ya X b a H s->t a H Q->wpAny (model X.prog X.w) X.A (isTrue e X.env<|eval e X.env) (TP X b a Q) X.xe s
def PW(X:Cx)(e:Expr)(t:TT):Prop:=
 ∀(whole:Sem Value) (b:db) (s:Shared) (a:St) (H:Hp) (Q:KB),ya X b a H s->t a H Q->wpAny (model X.prog X.w) X.A (isTrue e X.env whole) (TP X b a Q) X.xe s
def PW.pt{X:Cx}{t:TT}(h:PW X e t):PT X e t:=h _
def PA(X:Cx)(d:List Expr)(t:TA):Prop:=
 ∀(b:Pos) (c:db) (s:Shared) (a:St) (H:Hp) (Q:Op),ya X c a H s->t a H Q->wpAny (model X.prog X.w) X.A (spliced<|backTo b<|starEach d X.env) (AP X c a Q) X.xe s
def PS(X:Cx)(st:Stmt)(t:TS):Prop:=
 ∀(b:db) (s:Shared) (a:St) (H:Hp) (D:Ends),ya X b a H s->t D a H->wpAny (model X.prog X.w) X.A (exec st X.env) (SP X b D) X.xe s
def Te(X:Cx)(st:List Stmt)(t:TS):Prop:=
 ∀(b:db) (s:Shared) (a:St) (H:Hp) (D:Ends),ya X b a H s->t D a H->wpAny (model X.prog X.w) X.A (execs st X.env) (SP X b D) X.xe s
def Lb{b:Type}{t:Sem b}{Q c:b->ut}{E:am}(h:wpAny M A t Q E s)(d:∀a s,Q a s->c a s):wpAny M A t c E s:=oi h d λ_ _ x=>x
section
variable{X:Cx}
def lJ(i:Nat):TE:=λa H Q=>∃v,a[i]?=some (some v)/\Q v H
def tC(v:V):TE:=λ_ H Q=>Q v H
def kE{i:Nat}(q:X.N[i]?=some x)(k:Eh X.env.scope x)(d:(x==("__debug__":Str))=false:=by decide)(w:(x==("__classdict__":Str))=false:=by decide):PE X (.Name x pos) (lJ i):=by
 intro t s j H Q I h;obtain⟨v,e,h⟩:=h;obtain⟨m,n,p⟩:=I.loc;obtain⟨u,r,l⟩:=p i x v q e k;have b:EP X t j Q u s:=⟨v,H,I,r,h⟩;rcases l with ⟨a,o⟩|⟨a,c,f,g⟩
 .exact wpAny_Name (wpAny_loadName_local I.ok.kind a n o b) d
 rcases a with a|a
 .exact wpAny_Name (wpAny_loadName_cell I.ok.kind a f g b) d
 exact wpAny_Name (wpAny_loadName_free I.ok.kind a f g b w) d
def Gs{i j pos}:PE X (.Constant (.int i) j pos) (tC<|.int i):=λ_ _ _ H _ I h=>wpAny_Constant_int ⟨.int i,H,I.tok _,⟨_,rfl⟩,h⟩
def ly{b j pos}:PE X (.Constant (.bool b) j pos) (tC<|.bl b):=λ_ _ _ H _ I h=>Constant_bool ⟨.bl b,H,I,rfl,h⟩
def L4{j pos}:PE X (.Constant .none j pos) (tC .Hb):=λ_ _ _ H _ I h=>Constant_none ⟨.Hb,H,I,rfl,h⟩
def bG2{x j pos}:PE X (.Constant (.str x) j pos) (tC<|.str x):=λ_ _ _ H _ I h=>Calls.Constant_str ⟨.str x,H,I.tok _,⟨_,rfl⟩,h⟩
def Gl(X:Cx)(x:Str):Prop:=X.env.kindOf x=some .globalImplicit
abbrev Ce(x:Str):Prop:=(x==("__debug__":Str))=false
abbrev Yi(x:Str):Prop:=(x==("__classdict__":Str))=false
theorem Zi{a:Scope}(h:(match a.names.lookup x with|some .local|some .cell|some .free=>true|_=>false)=true):Eh a x:=by
 unfold Eh;split at h<;>simp_all
theorem Pn{a:Scope}(h:(match a.names.lookup x with|some .local|some .cell=>true|_=>false)=true):Loc a x:=by
 unfold Loc;split at h<;>simp_all
abbrev kl(X:Cx)(x:Str):Prop:=X.fn x=true\/X.env.scope.names.lookup x=some .local
abbrev vf(e:Expr)(a:List Expr)(E:Env):Prop:=starEach (e::a) E=(false,eval e E)::starEach a E
abbrev Aj(p:Pos)(a:List Expr)(E:Env):Prop:=(backTo p<|starEach a E).any (·.1)=false
abbrev As(p:Pos)(a:List Expr)(E:Env):Prop:=((backTo p<|starEach a E).all (λx=>!x.1)&&(backToKw p<|keywordEach [] E).all (λx=>x.1.isSome)
 && decide (a.length+([]:List Keyword).length+(if ([]:List Keyword).isEmpty then 0 else 1)<30))=true
abbrev Kj(o:Expr)(m:Str)(E:Env):Prop:=attributeBase o m E (eval o E)=eval o E
abbrev jm(a c:Pos):Prop:=(a.endLine==c.line)=true
abbrev ml(e:Expr)(t:Option Expr)(l:Nat)(E:Env):Prop:=swapsWith e t l E=pure false
def zA{E:am}{Q:am}(I:ya X aa σ H s)(b:Gl X x)(a:X.mg x=some u)(h:Q u s)
  (c:Ce x:=by decide):wpAny (model X.prog X.w) X.A (eval (.Name x pos) X.env) Q E s:=
 q8 I.ok.kind b (Calls.loadGlobal_global (by rw[I.ok.glob];exact I.mod.glob.keeps I.bk) a h) c
def qO{E:am}{Q:am}(I:ya X aa σ H s)(d:Gl X x)(c:X.mg x=none)(a:bootBuiltins x=some u)(h:Q u s)
  (b:x≠"__name__":=by decide) (e:Ce x:=by decide):wpAny (model X.prog X.w) X.A (eval (.Name x pos) X.env) Q E s:=by
 obtain⟨i,g,f⟩:=I.mod.blt;exact q8 I.ok.kind d (Calls.loadGlobal_builtin (by rw[I.ok.glob];exact I.mod.glob.keeps I.bk) c (by rw[I.ok.blt];exact g.keeps I.bk) ((f x b).trans a) h) e
def Fx(b:Gl X x)(a:X.mg x=some u)(r:RelV v u)(c:Ce x:=by decide):PE X (.Name x pos) (tC v):=
 λ_ _ _ H _ I h=>zA I b a ⟨v,H,I,r,h⟩ c
def bBq(d:Gl X x)(c:X.mg x=none)(a:bootBuiltins x=some u)(r:RelV v u)(b:x≠"__name__":=by decide)(e:Ce x:=by decide):PE X (.Name x pos) (tC v):=
 λ_ _ _ H _ I h=>qO I d c a ⟨v,H,I,r,h⟩ b e
variable{a b:Expr}{ta tb:TE}{pos:Pos}
def PC(X:Cx)(op:CmpOp)(a b:Expr)(t:TE):Prop:=
 ∀(d:db) (s:Shared) (c:St) (H:Hp) (Q:VK),ya X d c H s->t c H Q->
  wpAny (model X.prog X.w) X.A (eval a X.env) (λv e=>wpAny (model X.prog X.w) X.A (eval b X.env) (λu f=>wpAny (model X.prog X.w) X.A (compareOp op v u) (EP X d c Q) X.xe f) X.xe e) X.xe s
def VC(b:Expr){op:CmpOp}(h:op≠.In)(a:op≠.NotIn):behindInMarks op b=false:=by
 have e1:(op==CmpOp.In)=false:=by cases op<;>first|rfl|exact absurd rfl h
 have e2:(op==CmpOp.NotIn)=false:=by cases op<;>first|rfl|exact absurd rfl a
 cases b<;>simp[behindInMarks,e1,e2]
def tB(t:TE):TT:=λa H Q=>t a H λx b=>∃c,x=.bl c/\Q c b
def bG3{t:TE}(h:PC X op a b t)(e:behindInMarks op b=false:=by first|exact VC _ (by decide) (by decide)|rfl):PT X (.Compare a [op] [b] pos) (tB t):=by
 intro j s f H Q I g;refine wpAny_isTrue_Compare1 (Lb (h j s f H _ I g) λv m e=>Lb e λu l i=>Lb i λc k ⟨x,H1,I1,r1,q1⟩=>?_) e
 obtain⟨d,rfl,q⟩:=q1;cases r1;exact br ⟨H1,I1,q⟩
def XD{t:TE}(h:PE X e t)(he:∀whole,isTrue e X.env whole=(do let v <- whole;standAt e.pos;holding [v] (truthy v)):=by intro _;rfl):PT X e (tB t):=by
 intro c s a H Q I b;refine isTrue_plain (Lb (h c s a H _ I b) λv f ⟨x,H1,I1,r1,q1⟩=>?_)<|he _
 obtain⟨d,rfl,q⟩:=q1;cases r1;exact br ⟨H1,I1,q⟩
variable{tA DI:TT}{rest:List Expr}
def CF(t u:TT):TT:=λa H Q=>t a H λc b=>if c=true then u a b Q else Q false b
def l_(t u:TT):TT:=λa H Q=>t a H λc b=>if c=true then Q true b else u a b Q
def bLw(t:TT):TT:=λa H Q=>t a H λc b=>Q (!c) b
def PK(d:PT X a tA):PW X (.BoolOp .And [a] pos) tA:=by
 intro g f s b H Q I h;refine isTrue_and<|Lb (d f s b H Q I h) λc i e=>?_
 cases c with
 |true=>exact isTrue_and_nil e
 |false=>exact e
def M4(d:PT X a tA):PW X (.BoolOp .Or [a] pos) tA:=by
 intro g f s b H Q I h;refine isTrue_or<|Lb (d f s b H Q I h) λc i e=>?_
 cases c with
 |false=>exact isTrue_or_nil e
 |true=>exact e
def YD(m:PT X a tA)(l:PW X (.BoolOp .And (b::rest) pos) DI):PW X (.BoolOp .And (a::b::rest) pos) (CF tA DI):=by
 intro j f s d H Q I h;refine isTrue_and<|Lb (m f s d H _ I h) λc k ⟨i,g,e⟩=>?_
 cases c with
 |true=>exact l j f k d i Q g e
 |false=>exact⟨i,g,e⟩
def G6(m:PT X a tA)(l:PW X (.BoolOp .Or (b::rest) pos) DI):PW X (.BoolOp .Or (a::b::rest) pos) (l_ tA DI):=by
 intro j f s d H Q I h;refine isTrue_or<|Lb (m f s d H _ I h) λc k ⟨i,g,e⟩=>?_
 cases c with
 |true=>exact⟨i,g,e⟩
 |false=>exact l j f k d i Q g e
def bG4(c:PT X a tA):PT X (.UnaryOp .Not a pos) (bLw tA):=by
 intro d s b H Q I h;exact isTrue_not<|c d s b H _ I h
def bJ9(d tb:TE):TE:=λa H Q=>d a H λx b=>∃c,x=.bl c/\if c=true then tb a b Q else Q (.bl false) b
def Hl(d tb:TE):TE:=λa H Q=>d a H λx b=>∃c,x=.bl c/\if c=true then Q (.bl true) b else tb a b Q
def bJa(b:TE):TE:=λa H Q=>b a H λx d=>∃c,x=.bl c/\Q (.bl<|!c) d
def UL{op}{t:TE}(h:PE X a t):PE X (.BoolOp op [a] pos) t:=λd s b H Q I c=>BoolOp_one<|h d s b H Q I c
def bG5(m:PE X a ta)(l:PE X (.BoolOp .And (b::rest) pos) tb):PE X (.BoolOp .And (a::b::rest) pos) (bJ9 ta tb):=by
 intro f s e H Q I h;refine BoolOp_and<|Lb (m f s e H _ I h) λv j ⟨x,i,g,k,d⟩=>?_
 obtain⟨c,rfl,d⟩:=d;cases k;refine br ?_
 cases c with
 |true=>exact l f j e i Q g d
 |false=>exact⟨.bl false,i,g,rfl,d⟩
def J6(m:PE X a ta)(l:PE X (.BoolOp .Or (b::rest) pos) tb):PE X (.BoolOp .Or (a::b::rest) pos) (Hl ta tb):=by
 intro f s e H Q I h;refine BoolOp_or<|Lb (m f s e H _ I h) λv j ⟨x,i,g,k,d⟩=>?_
 obtain⟨c,rfl,d⟩:=d;cases k;refine br ?_
 cases c with
 |false=>exact l f j e i Q g d
 |true=>exact⟨.bl true,i,g,rfl,d⟩
def bG6(f:PE X a ta):PE X (.UnaryOp .Not a pos) (bJa ta):=by
 intro g s d H Q I h;refine UnaryOp_<|Lb (f g s d H _ I h) λv k ⟨x,j,i,e,b⟩=>?_
 obtain⟨c,rfl,b⟩:=b;cases e;exact not_of<|br ⟨.bl<|!c,j,i,rfl,b⟩
def tIf(t:TT)(d tb:TE):TE:=λa H Q=>t a H λc b=>if c=true then d a b Q else tb a b Q
def ř(l:PT X c tA)(n:PE X a ta)(m:PE X b tb):PE X (.IfExp c a b pos) (tIf tA ta tb):=by
 intro f s e H Q I h;refine wpAny_IfExp<|Lb (l f s e H _ I h) λd g ⟨k,j,i⟩=>?_
 cases d with
 |true=>exact n f g e k Q j i
 |false=>exact m f g e k Q j i
end
def Pc(K:PySem.W.Frag)(H:Hp)(a:Addr)(xs:ss):Prop:=
 Rd H a (.lst xs)\/
  ∃(o:Obj)(b:xL)(n:Nat),K.lookup a=some o/\o.cls=.type "list"/\o.dict=none/\o.data=.seq b n/\b.size<=sizeLine/\Ca xs b.toList
def ig(K:PySem.W.Frag)(H:Hp)(a:Addr)(xs:ss):Prop:=
 Rd H a (.tup xs)\/
  ∃(o:Obj)(b:xL)(n:Nat),K.lookup a=some o/\o.cls=.type "tuple"/\o.data=.seq b n/\b.size<=sizeLine/\Ca xs b.toList
noncomputable def bLx:Value->Option V
 |.none=>some .Hb
 |.bool b=>some<|.bl b
 |.int i _=>some<|.int i
 |.str x _=>some<|.str x
 |.bytes b _=>some<|.JH b
 |.float b _=>some<|.Mw b
 |.ref a=>some<|.ref a
 |.type n=>some<|.ty n
 |_=>none
def RelV.abs(r:RelV x u):bLx u=some x:=by
 cases x with
 |Hb=>cases r;rfl
 |bl _=>cases r;rfl
 |int _=>obtain⟨t,rfl⟩:=r;rfl
 |str _=>obtain⟨t,rfl⟩:=r;rfl
 |JH _=>obtain⟨t,rfl⟩:=r;rfl
 |Mw _=>obtain⟨t,rfl⟩:=r;rfl
 |ref _=>cases r;rfl
 |ty _=>cases r;rfl
def RelV.inj{x y:V}{u:Value}(r:RelV x u)(q:RelV y u):x=y:=Gi<|r.abs.symm.trans q.abs
theorem Ca.inj:∀{xs ys:ss}{a:cr},Ca xs a->Ca ys a->xs=ys
 |_,_,_,.nil,.nil=>rfl
 |_,_,_,.cons r t,.cons c b=>by rw[r.inj c,Ca.inj t b]
section
variable{X:Cx}{aa:db}{σ:St}{H:Hp}{s:Shared}{a:Addr}{xs ys:ss}
def Pc.of{K:PySem.W.Frag}(h:H a=some (.lst xs)):Pc K H a xs:=.inl<|.inl h
def ig.of{K:PySem.W.Frag}(h:H a=some (.tup xs)):ig K H a xs:=.inl<|.inl h
theorem ya.list(I:ya X aa σ H s)(h:Pc X.K H a xs):∃b:cr,Ca xs b/\PlainL s.heap a b.toArray/\xs.length<=sizeLine:=by
 rcases h with h|⟨o,b,n,d,g,f,c,i,r⟩
 .obtain⟨z,b,n,r,e⟩:=h.ok I.Ia;exact⟨b,r,⟨_,n,e,rfl,rfl,rfl⟩,z⟩
 refine⟨b.toList,r,⟨o,n,I.Pg a o d,g,f,by simpa using c⟩,?_⟩
 have e:=r.length;simp at e;lia
def ya.tuple(I:ya X aa σ H s)(h:ig X.K H a xs):∃b:cr,Ca xs b/\IsTup s.heap a b.toArray/\xs.length<=sizeLine:=by
 rcases h with h|⟨o,b,n,d,f,c,g,r⟩
 .obtain⟨z,b,r,p⟩:=h.ok I.Ia;exact⟨b,r,p,z⟩
 refine⟨b.toList,r,⟨o,I.Pg a o d,f,n,by simpa using c⟩,?_⟩
 have e:=r.length;simp at e;omega
def ya.Ld(I:ya X aa σ H s)(h:Pc X.K H a xs)(i:Pc X.K H a ys):xs=ys:=by
 obtain⟨g,r,⟨o,n,e,_,_,d⟩,_⟩:=I.list h;obtain⟨m,f,⟨k,l,b,_,_,c⟩,_⟩:=I.list i;rw[e]at b;cases b;rw[d]at c;injection c with j _
 have:=by simpa using congrArg Array.toList j
 subst this;exact r.inj f
def ya.xi(I:ya X aa σ H s)(h:ig X.K H a xs)(i:ig X.K H a ys):xs=ys:=by
 obtain⟨g,r,⟨o,e,_,n,d⟩,_⟩:=I.tuple h;obtain⟨m,f,⟨k,b,_,l,c⟩,_⟩:=I.tuple i;rw[e]at b;cases b;rw[d]at c;injection c with j _
 have:=by simpa using congrArg Array.toList j
 subst this;exact r.inj f
end
abbrev Cx.ai(X:Cx)(E:am):Cx:={X with xe:=E}
abbrev Cx.si(X:Cx):Cx:=X.ai λ_ _=>False
theorem Cx.Ok.ai{X:Cx}(ok:X.Ok)(E:am):(X.ai E).Ok:=
 ⟨ok.mod,ok.kind,ok.glob,ok.blt,ok.above,ok.inj,ok.has,ok.Yt,ok.hd,ok.frames,ok.qx,ok.Lw,ok.bs,ok.ym,ok.Zj,ok.Vj,ok.Pf,ok.Mo⟩
def Cx.Ok.xf{X:Cx}{E:am}(ok:(X.ai E).Ok):X.Ok:=
 ⟨ok.mod,ok.kind,ok.glob,ok.blt,ok.above,ok.inj,ok.has,ok.Yt,ok.hd,ok.frames,ok.qx,ok.Lw,ok.bs,ok.ym,ok.Zj,ok.Vj,ok.Pf,ok.Mo⟩
section
variable{X:Cx}{aa:db}{σ:St}{H:Hp}{s:Shared}{E:am}
theorem ya.ai(I:ya X aa σ H s)(E:am):ya (X.ai E) aa σ H s:=⟨I.ok.ai E,I.os,I.bare,I.base,I.loc,I.cell,I.free,I.Qc,I.pin,I.Ia,I.len⟩
theorem ya.xf(I:ya (X.ai E) aa σ H s):ya X aa σ H s:=⟨I.ok.xf,I.os,I.bare,I.base,I.loc,I.cell,I.free,I.Qc,I.pin,I.Ia,I.len⟩
theorem SP.xf{D:Ends}(h:SP (X.ai E) aa D f s'):SP X aa D f s':=by
 cases f with
 |next=>obtain⟨a,b,I,q⟩:=h;exact⟨a,b,I.xf,q⟩
 |brk=>obtain⟨a,b,I,q⟩:=h;exact⟨a,b,I.xf,q⟩
 |cont=>obtain⟨a,b,I,q⟩:=h;exact⟨a,b,I.xf,q⟩
 |ret u=>obtain⟨v,a,b,I,r,q⟩:=h;exact⟨v,a,b,I.xf,r,q⟩
theorem Te.si{st:List Stmt}{t:TS}(h:Te X.si st t):Te X st t:=λaa s σ H D I a=>
 oi (h aa s σ H D (I.ai _) a) (λ_ _ q=>q.xf) λ_ _ z=>False.elim z
end
section
variable{X:Cx}{st:Stmt}{rest:List Stmt}{t u:TS}{e:Expr}{te:TE}{pos:Pos}
def K6:TS:=λD a H=>D.nx a H
def zN(t u:TS):TS:=λD a H=>t {D with nx:=u D} a H
def QK:Te X [] K6:=λ_ _ a H _ I h=>XG ⟨a,H,I,h⟩
def kI(e:PS X st t)(d:Te X rest u):Te X (st::rest) (zN t u):=by
 intro a s b H D I h;refine wpAny_execs_cons<|Lb (e a s b H {D with nx:=u D} I h) λf c q=>?_
 cases f with
 |next=>
  obtain⟨g,j,i,q⟩:=q;exact d a c g j D i q
 |ret v=>exact q
 |brk=>exact q
 |cont=>exact q
def zB(b:PS X st t):Te X [st] t:=by
 intro c s a H D I h;refine wpAny_execs_cons<|Lb (b c s a H D I h) λf d q=>?_
 cases f with
 |next=>exact XG q
 |ret v=>exact q
 |brk=>exact q
 |cont=>exact q
def ya.quiet(I:ya X aa σ H s):interactive X.env=false:=by simp[interactive,I.ok.kind]
def bJb(te:TE):TS:=λD a H=>te a H λ_ b=>D.nx a b
def AD(he:PE X e te)(c:ml e none pos.line X.env:=by rfl):PS X (.Expr e pos) (bJb te):=by
 intro d s a H D I h;exact wpAny_Expr_any (Lb (he d s a H _ I h) λv i ⟨x,g,f,j,b⟩=>⟨a,g,f,b⟩) I.quiet c
def yy(te:TE):TS:=λD a H=>te a H D.rt
def VL(he:PE X e te):PS X (.Return (some e) pos) (yy te):=by
 intro d s a H D I h;exact wpAny_Return_some<|Lb (he d s a H _ I h) λv i ⟨x,g,f,b,c⟩=>⟨x,a,g,f,b,c⟩
def C7(c:TT)(t u:TS):TS:=λD a H=>c a H λb d=>if b=true then t D a d else u D a d
def ZM(l:PT X c tc)(n:Te X a t)(m:Te X b u):PS X (.If c a b pos) (C7 tc t u):=by
 intro f s e H D I h;refine wpAny_If<|Lb (l f s e H _ I h) λd g ⟨k,j,i⟩=>?_
 cases d with
 |true=>exact n f g e k D j i
 |false=>exact m f g e k D j i
end
abbrev TG:=V->St->Hp->(St->xz)->Prop
abbrev io:=List V->St->Hp->(St->xz)->Prop
def PG(X:Cx)(a:Expr)(t:TG):Prop:=
 ∀(c:db) (s:Shared) (b:St) (H:Hp) (v:V) (u:Value) (Q:St->xz),ya X c b H s->RelV v u->t v b H Q->
  wpAny (model X.prog X.w) X.A (assign a X.env u) (λ_ f=>∃d e,ya X c d e f/\Q d e) X.xe s
def Km(X:Cx)(g:List Expr)(t:io):Prop:=
 ∀(d:db) (s:Shared) (a:St) (H:Hp) (b:ss) (c:cr) (Q:St->xz),ya X d a H s->Ca b c->t b a H Q->
  wpAny (model X.prog X.w) X.A (assignInOrder ((assignEach g X.env).map (·.2)) c) (λ_ h=>∃e f,ya X d e f h/\Q e f) X.xe s
abbrev DO:=V->V->V->Hp->(Hp->Prop)->Prop
def EO(X:Cx)(t:DO):Prop:=
 ∀(d:db) (s:Shared) (a:St) (H:Hp) (o i v:V) (b c u:Value) (Q:xz),ya X d a H s->RelV o b->RelV i c->RelV v u->t o i v H Q->
  wpAny (model X.prog X.w) X.A (setItem b c u) (λ_ f=>∃e,ya X d a e f/\Q e) X.xe s
section
variable{X:Cx}{pos:Pos}
def jX(i:Nat):TG:=λv a H Q=>Q (a.set i<|some v) H
def B0{i:Nat}(d:X.N.Nodup)(b:X.N[i]?=some x)(a:Loc X.env.scope x)(c:kl X x:=by first|exact .inl rfl|exact .inr rfl|assumption):PG X (.Name x pos) (jX i):=by
 intro j s f H v u Q I r h;exact wpAny_assign_Name<|De I d b a r (λg e=>⟨_,H,e,h⟩) c
def bLy:io:=λb a H Q=>b=[]/\Q a H
def bJd(t:TG)(u:io):io:=λb a H Q=>∃v r,b=v::r/\t v a H λc d=>u r c d Q
def bBs:Km X [] bLy:=by
 intro d s a H b c Q I r h;obtain⟨e,h⟩:=h;exact assignInOrder_nil ⟨a,H,I,h⟩
def Ś{e:Expr}{t:TG}(j:PG X e t)(i:Km X es u)
  (g:(assignEach (e::es) X.env).map (·.2)=assign e X.env::(assignEach es X.env).map (·.2):=by rfl):Km X (e::es) (bJd t u):=by
 intro a s b H n p Q I r h;obtain⟨v,o,e1,h⟩:=h;subst e1;cases r with
 |cons r d=>
  rw[g];exact assignInOrder_cons<|Lb (j a s b H _ _ _ I r h) λ_ c ⟨k,m,l,f⟩=>i a c k m _ _ Q l d f
def bLz(K:PySem.W.Frag)(n:Nat)(t:io):TG:=λv c H Q=>∃a b,v=.ref a/\ig K H a b/\b.length=n/\t b c H Q
def bG9{k:Nat}{t:io}{n:Nat}(w:X.calm=true)(h:Km X es t)
  (p:(assignEach es X.env).length=n:=by rfl) (y:(assignEach es X.env).findIdx? (·.1)=none:=by rfl):PG X (.Tuple es k pos) (bLz X.K n t):=by
 intro x s f H v u Q I r c;obtain⟨a,g,e1,m,q,c⟩:=c;subst e1;cases r;obtain⟨i,d,l,z⟩:=I.tuple m;exact assign_Tuple_tuple (I.ok.hd w) l (by simp[p,<-q,d.length]) y λA j=>h x _ f H g _ Q (I.kept λb o e=>j b o (zd<|Vb e) e) (by simpa using d) c
def E7(b c:TE)(t:DO):TG:=λv a H Q=>b a H λo f=>c a f λi e=>t o i v e λd=>Q a d
def N4{t:DO}(p:PE X o to)(q:PE X i ti)(n:EO X t)
  (w:∀v,assign (.Subscript o i pos) X.env v=(do
   let a <- holding [v] (eval o X.env)
   let b <- holding [v,a] (eval i X.env)
   standAt pos
   holding [v,a,b] (setItem a b v)
   release [v,a,b] []):=by intro _;rfl):PG X (.Subscript o i pos) (E7 to ti t):=by
 intro d s c H v u Q I r h;rw[w];refine qa<|Ff<|Lb (p d s c H _ I h) λa f ⟨x,E,B,j,m⟩=>?_
 refine qa<|Ff<|Lb (q d f c E _ B m) λb e ⟨y,D,A,g,l⟩=>?_
 exact qa<|Qt<|qa<|Ff<|Lb (n d e c D x y v a b u _ A j g r l) λ_ F ⟨C,z,k⟩=>wpAny_release ⟨c,C,z,k⟩
def nC(te:TE)(g:TG):TS:=λD a H=>te a H λx b=>g x a b D.nx
def WL(he:PE X e te)(f:PG X tg g)(d:swapsWithSole [tg] e pos.line X.env=pure false:=by rfl)(c:swappedStores [tg] e X.env=pure none:=by rfl)
  (i:(assignEach [tg] X.env).map (·.2)=[assign tg X.env]:=by rfl):PS X (.Assign [tg] e pos) (nC te g):=by
 intro b s a H D I h;refine wpAny_Assign_stores (Lb (he b s a H _ I h) λv s1 ⟨x,H1,I1,r1,q1⟩=>?_) d c
 rw[i];exact Lb (f b s1 a H1 x v _ I1 r1 q1) λ_ j q=>q
def jv{i:Nat}(k:X.N.Nodup)(g:X.N[i]?=some x)(d:Loc X.env.scope x)(he:PE X e te)(f:ml e (some<|.Name x pos') pos.line X.env:=by rfl)(j:kl X x:=by first|exact .inl rfl|exact .inr rfl|assumption) :
  PS X (.Assign [.Name x pos'] e pos) (nC te<|jX i):=by
 intro l s a H D I h;exact wpAny_Assign_Name (Lb (he l s a H _ I h) λv q ⟨y,o,n,b,c⟩=>De n k g d b (λp m=>⟨_,o,m,c⟩) j) f
def bGa(c:TT)(tb:TS):TS:=λD a H=>∃W:Nat->St->xz,(∃m,W m a H)/\∀m a H,W m a H->
 c a H λb f=>if b=true then ∃N:St->xz,(∀e g,N e g->∃d,d < m/\W d e g)/\tb {D with nx:=N,ct:=N,bk:=D.nx} a f else D.nx a f
def ś(q:PassesOwn (model X.prog X.w) X.A X.env X.xe)(J:PT X c tc)(K:Te X body tb):PS X (.While c body [] pos) (bGa tc tb):=by
 intro o s z H D I h;obtain⟨W,⟨G,B⟩,turn⟩:=h;refine wpAny_While<|codeAny_whileLoop (λn F=>∃t y,ya X o t y F/\W n t y) ?_ G ⟨z,H,I,B⟩
 rintro n E ⟨i,x,L,A⟩;refine Nt q<|Lb (J o E i x _ L<|turn n i x A) λb C ⟨w,u,g⟩=>?_
 cases b with
 |true=>
  obtain⟨N,r,g⟩:=g;refine Nt q<|Lb (K o C i w _ u g) λf M e=>?_
  cases f with
  |next=>
   obtain⟨d,a,p,k⟩:=e;obtain⟨l,m,j⟩:=r d a k;exact⟨l,m,d,a,p,j⟩
  |cont=>
   obtain⟨d,a,p,k⟩:=e;obtain⟨l,m,j⟩:=r d a k;exact⟨l,m,d,a,p,j⟩
  |brk=>exact e
  |ret v=>exact e
 |false=>
  exact XG ⟨i,w,u,g⟩
end
structure It where
 go:Nat->Hp->Prop
 wx:Nat->Hp->V->Hp->Prop
 stop:Nat->Hp->Prop
def Oj(X:Cx)(aa:db)(H:Hp)(b:Addr):Prop:=
 H b=none/\b≠X.env.locals/\b∉X.fs/\(b∈X.ex\/X.Ba.heap.objs.size<=b)/\(∀x c,X.env.cells.lookup x=some c->c≠b)/\∀p∈X.pn++aa,p.1≠b
def ya.ph{X:Cx}{d:Hp}{b:Addr}(I:ya X aa σ H s)(a:s.heap.objs.size<=b)(f:d b=none):Oj X aa d b:=by
 refine⟨f,kr<|ug I.lt a,I.CS a,.inr<|Yg I.sz a,λx c e z=>?_,λp hp z=>?_⟩
 .obtain⟨v,q⟩:=I.cell x c e;exact absurd (ug q.lt<|by rwa [z])<|Gh _
 exact absurd (ug (Vb (I.pin p hp).1)<|by rwa [z])<|Gh _
structure Turn(P:Program)(w:World)(K:PySem.W.Frag)(tg:Expr)(J:It)(fp:be)(it:Addr)(tn:Ch):Prop where
 mem:it∈fp
 obj:∀i h,tn i h->∀b∈fp,∃o,h.get? b=some o/\∀v,o.data≠.cell v
 keep:∀i h h',tn i h->(∀b∈fp,∀o,h.get? b=some o->h'.get? b=some o)->tn i h'
 item:∀(X:Cx),X.prog=P->X.w=w->X.K=K->X.calm=true->∀(i:Nat) (aa:db) (s:Shared) (σ:St) (H:Hp) (E:am),ya X aa σ H s->(∀b∈fp,Oj X aa H b)->tn i s.heap->J.go i H->
  wpAny (model P w) X.A (pyNext<|.ref it) (λr s1=>∃u,r=some u/\
   wpAny (model P w) X.A (letOwnedTupleGo tg (.ref it) u) (λ_ s2=>∃x H',ya X aa σ H' s2/\RelV x u/\J.wx i H x H'/\tn (i+1) s2.heap/\∀b∈fp,H' b=none) E s1) E s
 done:∀(X:Cx),X.prog=P->X.w=w->X.K=K->X.calm=true->∀(i:Nat) (aa:db) (s:Shared) (σ:St) (H:Hp) (E:am),ya X aa σ H s->(∀b∈fp,Oj X aa H b)->tn i s.heap->J.stop i H->
  wpAny (model P w) X.A (pyNext<|.ref it) (λr s1=>r=none/\ya X aa σ H s1) E s
 self:∀(A:Around)(i:Nat)(s:Shared)(Q:am)(E:am),tn i s.heap->Q (.ref it) s->wpAny (model P w) A (pyIter<|.ref it) Q E s
abbrev TI:=St->Hp->(It->xz)->Prop
def RU(X:Cx)(aa:db)(f:St)(tg:Expr)(R:It->xz)(g:Value)(s2:Shared):Prop:=
 ∃(d:Addr)(e:be)(c:Ch)(J:It)(a:Hp),g=.ref d/\ya X aa f a s2/\Turn X.prog X.w X.K tg J e d c/\c 0 s2.heap/\(∀b∈e,Oj X aa a b)/\R J a
def PI(X:Cx)(tg a:Expr)(d:TI):Prop:=
 ∀(c:db) (s:Shared) (b:St) (H:Hp) (R:It->xz),ya X c b H s->d b H R->
  wpAny (model X.prog X.w) X.A (eval a X.env) (λv e=>wpAny (model X.prog X.w) X.A (pyIter v) (RU X c b tg R) X.xe e) X.xe s
def Iv{E:am}{s:Shared}{Q:v4}(b:s.heap.get? it=some o)(e:o.cls=.type n)(d:o.data=.fields vs)
  (c:["enumerate","zip","dict_itemiterator","dict_reverseitemiterator","odict_iterator","itertools.zip_longest","itertools.pairwise"].contains n=false) (a:Q () s):wpAny M A (letOwnedTupleGo tg (.ref it) u) Q E s:=by
 cases tg<;>first
  |exact Ga a
  |(cases u<;>first
    |exact Ga a
    | (refine qa (wpAny_load b ?_)
       rw[e,d];show wpAny M A (if (["enumerate","zip","dict_itemiterator","dict_reverseitemiterator","odict_iterator","itertools.zip_longest","itertools.pairwise"].contains n&&vs[0]?==some _)=true then _ else _) Q E s
       rw[Ea (by intro h;rw[c]at h;cases h)]
       exact Ga a))
def RI(K:PySem.W.Frag)(a:Addr):It:=
 ⟨λi H=>∃b x,Pc K H a b/\b[i]?=some x,λi H x c=>c=H/\∀b,Pc K H a b->b[i]?=some x,λi H=>∃b,Pc K H a b/\b.length<=i⟩
def SI(K:PySem.W.Frag)(a:Addr):It:=
 ⟨λi H=>∃b x,ig K H a b/\b[i]?=some x,λi H x c=>c=H/\∀b,ig K H a b->b[i]?=some x,λi H=>∃b,ig K H a b/\b.length<=i⟩
def QC(lo:Int)(n:Nat):It:=⟨λi _=>i<n,λi H x a=>a=H/\x=.int (lo+i),λi _=>n<=i⟩
theorem ď{w:World}{K:PySem.W.Frag}(a it:Addr):Turn P w K tg (RI K a) [it] it (λi h=>h.IsListIter it a i) where
 mem:=by simp
 obj:=λi h st b f=>by
  have e:=by simpa using f
  subst e;obtain⟨o,e,c,d⟩:=st;exact⟨o,e,λv z=>by rw[d]at z;cases z⟩
 keep:=λi h L st k=>st.at λo e=>k it (by simp) o e
 item:=by
  intro X t q y J i W s M H E I l st r;subst t q y;obtain⟨N,x,j,G⟩:=r;obtain⟨n,m,p,R⟩:=I.list j;obtain⟨u,T,Q⟩:=m.get G;obtain⟨F,D,U,C,B,A⟩:=l it (by simp)
  refine wpAny_pyNext_list_item st p.isList (by simpa using T) λL g O=>?_
  obtain⟨o,e,c,d⟩:=id g;exact⟨u,rfl,Iv e c d rfl ⟨x,H,(I.turned (λb o f e=>(O.2 b f).trans e) F D C B A),Q,⟨rfl,λY S=>by rwa [I.Ld S j]⟩,g,λb f=>(l b f).1⟩⟩
 done:=by
  intro X t q y J i W s M H E I l st r;subst t q y;obtain⟨N,j,G⟩:=r;obtain⟨n,m,p,R⟩:=I.list j;obtain⟨F,D,U,C,B,A⟩:=l it (by simp)
  have Z:=m.length;exact wpAny_pyNext_list_end (I.ok.hd J) st p.isList (by simp;lia) λL V=>⟨rfl,I.turned (λb o f e=>V b o f e) F D C B A⟩
 self:=λ_ _ _ _ _ st h=>wpAny_pyIter_listiter st h
def ß{w:World}{K:PySem.W.Frag}(a it:Addr):Turn P w K tg (SI K a) [it] it (λi h=>h.IsTupleIter it a i) where
 mem:=by simp
 obj:=λi h st b f=>by
  have e:=by simpa using f
  subst e;obtain⟨o,e,c,d⟩:=st;exact⟨o,e,λv z=>by rw[d]at z;cases z⟩
 keep:=λi h L st k=>st.at λo e=>k it (by simp) o e
 item:=by
  intro X t q y J i W s M H E I l st r;subst t q y;obtain⟨N,x,j,G⟩:=r;obtain⟨n,m,p,R⟩:=I.tuple j;obtain⟨u,T,Q⟩:=m.get G;obtain⟨F,D,U,C,B,A⟩:=l it (by simp)
  refine wpAny_pyNext_tuple_item st (p) (by simpa using T) λL g O=>?_
  obtain⟨o,e,c,d⟩:=id g;exact⟨u,rfl,Iv e c d rfl ⟨x,H,(I.turned (λb o f e=>(O.2 b f).trans e) F D C B A),Q,⟨rfl,λY S=>by rwa [I.xi S j]⟩,g,λb f=>(l b f).1⟩⟩
 done:=by
  intro X t q y J i W s M H E I l st r;subst t q y;obtain⟨N,j,G⟩:=r;obtain⟨n,m,p,R⟩:=I.tuple j;obtain⟨F,D,U,C,B,A⟩:=l it (by simp)
  have Z:=m.length;exact wpAny_pyNext_tuple_end (I.ok.hd J) st (p) (by simp;omega) λL V=>⟨rfl,I.turned (λb o f e=>V b o f e) F D C B A⟩
 self:=λ_ _ _ _ _ st h=>wpAny_pyIter_tupleiter st h
theorem à{w:World}{K:PySem.W.Frag}(it:Addr)(lo:Int)(n:Nat):Turn P w K tg (QC lo n) [it] it (λi h=>IsRangeIter h it (lo+(i:Nat)*1) ((n:Int)-(i:Nat)) 1) where
 mem:=by simp
 obj:=λi h st b a=>by
  have e:=by simpa using a
  subst e;exact⟨_,st,λv z=>by
   cases z⟩
 keep:=λi h y st k=>k it (by simp) _ st
 item:=by
  intro X u r x g i G s A H E I d st f;subst u r x;obtain⟨q,p,D,m,l,j⟩:=d it (by simp)
  refine(Walks.range (prog:=X.prog) (w:=X.w) (I.ok.hd g) it lo 1 n).item i s _ _ f st λv y J C c B=>?_
  obtain⟨t,rfl⟩:=C;refine⟨_,rfl,Iv c rfl rfl rfl ⟨.int _,H,(I.turned (λb o a e=>B b o (by simpa using a) e) q p m l j),⟨t,?_⟩,⟨rfl,rfl⟩,c,λb a=>(d b a).1⟩⟩
  rw[Int.mul_one]
 done:=by
  intro X u r x g i G s A H E I d st f;obtain⟨q,p,D,m,l,j⟩:=d it (by simp)
  exact wpAny_pyNext_range_end (I.ok.hd g) st (by have:n<=i:=f;lia) λy F=>⟨rfl,I.turned (λb o a e=>F b o a e) q p m l j⟩
 self:=λ_ _ _ _ _ st h=>wpAny_pyIter_rangeiter st h
section
variable{X:Cx}{tg:Expr}
theorem Ŝ{R:It->xz}{E:am}{lo a:Int}{t:Tok}{d:Nat}(I:ya X aa σ H s)(i : -(2^62)<=lo)(h:lo<2^62)(g : -(2^62)<=a)(f:a<2^62)
  (q:R (QC lo (a-lo).toNat) H):wpAny (model X.prog X.w) X.A (pyIter<|.ref s.heap.objs.size) (RU X aa σ tg R) E {s with heap:=s.heap.push {cls:=.type "range",data:=.fields #[.int lo t,.int a u,.int 1 v]},toks:=d}:=by
 refine wpAny_pyIter_range (IsRange.new ..) (small_one i h g f) ?_
 have c:ya X aa σ H {s with heap:=s.heap.push {cls:=.type "range",data:=.fields #[.int lo t,.int a u,.int 1 v]},toks:=d}:=I.kept λb o e=>bc _ e
 refine⟨(s.heap.push {cls:=.type "range",data:=.fields #[.int lo t,.int a u,.int 1 v]}).objs.size,[(s.heap.push {cls:=.type "range",data:=.fields #[.int lo t,.int a u,.int 1 v]}).objs.size],_,_,H,rfl,
  c.kept λb o e=>bc _ e,à _ lo (a-lo).toNat,?_,λb hb=>?_,q⟩
 .have e1:lo+((0:Nat))*1=lo:=by simp
  have e2:(((a-lo).toNat):Int)-((0:Nat))=Builtin.Range.rangeSize lo a 1:=by rw[rangeSize_one];split<;>lia
  rw[e1,e2];exact we _ rfl
 have e:b=(s.heap.push {cls:=.type "range",data:=.fields #[.int lo t,.int a u,.int 1 v]}).objs.size:=by simpa using hb
 subst e;exact c.ph (Ib _)<|c.Ia.fresh<|Ib _
def bJf(c:TA):TI:=λa H R=>c a H λb d=>∃j:Int,b=[.int j]/\-(2^62)<=j/\j<2^62/\R (QC 0 j.toNat) d
theorem Đ{a:Expr}(k:Gl X "range")(i:X.mg "range"=none)(l:PA X [a] ta)(g:starEach [a] X.env=[(false,eval a X.env)]:=by rfl):PI X tg (.Call (.Name "range" p) [a] [] pos) (bJf ta):=by
 intro m s c H R I h;refine Call_<|qO I k i boot_range<|Vq (Lb (l pos m s c H _ I h) λo u ⟨n,v,I1,r1,b⟩=>?_) g rfl
 obtain⟨j,e,b,f,q⟩:=b;subst e;cases r1 with
 |cons r d=>
  cases d;obtain⟨t,rfl⟩:=r;exact call_range_1<|Ŝ I1 (by lia) (by lia) b f<|by simpa using q
def Zs(e:TI)(g:TG)(tb:TS):TS:=λD a H=>e a H λJ h=>∃W:Nat->Nat->St->xz,(∃m,W 0 m a h)/\∀i m a H,W i m a H->
 (J.stop i H/\D.nx a H)\/(J.go i H/\∃N:St->xz,(∀d b,N d b->∃c,c < m/\W (i+1) c d b)/\∀x b,J.wx i H x b->g x a b λj f=>tb {D with nx:=N,ct:=N,bk:=D.nx} j f)
def YL(a:be)(h:Heap):db:=a.filterMap λb=>(h.get? b).map λo=>(b,o)
def vA{a:be}{h:Heap}{b:Addr}(c:b∈a)(e:h.get? b=some o):(b,o)∈YL a h:=List.mem_filterMap.mpr ⟨b,c,by rw[e];rfl⟩
def đ{p:Addr×Obj}(a:p∈YL fp h):p.1∈fp/\h.get? p.1=some p.2:=by
 obtain⟨b,c,e⟩:=List.mem_filterMap.mp a;cases q:h.get? b with
 |none=>rw[q]at e;cases e
 |some o=>
  rw[q]at e;have d:=Gi e;subst d;exact⟨c,q⟩
def ya.pinned{a:be}(I:ya X aa σ H s)(i:∀b∈a,Oj X aa H b)(h:∀b∈a,∃o,s.heap.get? b=some o/\∀v,o.data≠.cell v):ya X (aa++YL a s.heap) σ H s:=
 I.Qi λp g=>(ji.mp g).elim (λz=>I.pin p<|Lg _ z) λz=>by
  obtain⟨c,e⟩:=đ z;obtain⟨l,k,j,_⟩:=i p.1 c;obtain⟨o,f,d⟩:=h p.1 c;rw[e]at f;cases f;exact⟨e,l,k,j,d⟩
def ya.Nd{aa pl:db}(I:ya X (aa++pl) σ H s):ya X aa σ H s:=I.Qi λp a=>I.pin p<|Lg _<|Dj _ a
def ZL(z:PassesOwn (model X.prog X.w) X.A X.env X.xe)(R:X.calm=true)(hi:PI X tg iter wi)(hg:PG X tg g)(a:Te X body tb)
  (hs:∀x,foldedSetIterable iter X.env x=pure x:=by intro _;rfl):PS X (.For tg iter body [] pos) (Zs wi g tb):=by
 intro t s M H D I h;refine wpAny_For (Lb (hi t s M H _ I h) λv s1 h1=>Lb h1 λjS s2 h2=>?_) hs
 obtain⟨it,C,O,J,H2,e,I2,T,Wg,S,W,⟨m0,w0⟩,turn⟩:=h2;subst e;have K:∀{l:Hp},(∀b∈C,l b=none)->∀b∈C,Oj X t l b:=λhn b a=>⟨hn b a,(S b a).2⟩
 refine codeAny_forLoop_any (λn Q=>∃i A l,ya X t A l Q/\O i Q.heap/\(∀b∈C,l b=none)/\W i n A l) ?_ m0 ⟨0,M,H2,I2,Wg,λb a=>(S b a).1,w0⟩
 rintro n P ⟨i,B,E,Y,U,V,w3⟩;rcases turn i n B E w3 with ⟨w,qn⟩|⟨go,N,hN,step⟩
 .refine Nt z (Lb (T.done X rfl rfl rfl R i t P B E X.xe Y (K V) U w) λr s4 ⟨hr,I4⟩=>?_)
  subst hr;exact XG ⟨B,E,I4,qn⟩
 refine Nt z<|Lb (T.item X rfl rfl rfl R i t P B E X.xe Y (K V) U go) λr s4 ⟨u,hr,h4⟩=>?_
 subst hr;refine Nt z<|Lb h4 λ_ s5 ⟨x,Z,I5,r5,y5,q,L⟩=>?_
 refine Nt z<|Lb (hg _ s5 B Z x u _ (I5.pinned (K L)<|T.obj _ _ q) r5<|step x Z y5) λ_ s6 ⟨F,H6,I6,q6⟩=>Nt z<|Lb (a _ s6 F H6 _ I6 q6) λf G p=>?_
 have again:∀{c:St}{k:Hp},ya X _ c k G->N c k->∃m,m<n/\∃i A l,ya X t A l G/\O i G.heap/\(∀b∈C,l b=none)/\W i m A l:=λ{c k} j y=>by
  obtain⟨m',hm,w7⟩:=hN c k y;refine⟨m',hm,i+1,c,k,j.Nd,T.keep _ _ _ q λb a o e=>(j.pin (b,o)<|Lg _<|Lg _<|vA a e).1,λb a=>?_,w7⟩
  obtain⟨o,e,d⟩:=T.obj _ _ q b a;exact(j.pin (b,o)<|Lg _<|Lg _<|vA a e).2.1
 cases f with
 |next=>obtain⟨c,k,j,y⟩:=p;exact again j y
 |cont=>obtain⟨c,k,j,y⟩:=p;exact again j y
 |brk=>obtain⟨c,k,j,p⟩:=p;exact⟨c,k,j.Nd,p⟩
 |ret v=>obtain⟨x7,c,k,j,r7,p⟩:=p;exact⟨x7,c,k,j.Nd,r7,p⟩
end
abbrev R2:=V->IR
def He(X:Cx)(f:Value->Value->Sem Value)(r:R2):Prop:=
 ∀(b:db) (s:Shared) (a:St) (H:Hp) (x y:V) (v u:Value) (Q:VK),ya X b a H s->RelV x v->RelV y u->r x y H Q->
  wpAny (model X.prog X.w) X.A (f v u) (EP X b a Q) X.xe s
def WI(X:Cx)(f:Value->Sem Value)(r:IR):Prop:=
 ∀(b:db) (s:Shared) (a:St) (H:Hp) (x:V) (v:Value) (Q:VK),ya X b a H s->RelV x v->r x H Q->
  wpAny (model X.prog X.w) X.A (f v) (EP X b a Q) X.xe s
def jY(X:Cx)(f:Value)(r:IN):Prop:=
 ∀(d:db) (s:Shared) (a:St) (H:Hp) (b:ss) (c:cr) (Q:VK),ya X d a H s->Ca b c->r b H Q->
  wpAny (model X.prog X.w) X.A (call f c) (EP X d a Q) X.xe s
def wk(r:R2)(b tb:TE):TE:=λa H Q=>b a H λx d=>tb a d λy c=>r x y c Q
def tUn(r:IR)(b:TE):TE:=λa H Q=>b a H λx c=>r x c Q
def rI(C:Int->Int->Prop)(g:Int->Int->V):R2:=λx y H Q=>∃i j,x=.int i/\y=.int j/\C i j/\Q (g i j) H
def Zh(g:Int->Int->V):R2:=λx y H Q=>∃i j,x=.int i/\y=.int j/\Q (g i j) H
def rU(g:Int->V):IR:=λx H Q=>∃i,x=.int i/\Q (g i) H
section
variable{X:Cx}{a b c:Expr}{ta tb tc:TE}{pos:Pos}
def FO(p:PE X a ta)(o:PE X b tb){aa:db}{s:Shared}{c:St}{H:Hp}{R:V->V->Hp->Prop}(I:ya X aa c H s)
  (h:ta c H λx e=>tb c e λy d=>R x y d) {Q:am} {f:Value->Value->Sem Value}
  (n:∀v u s2 x y d,ya X aa c d s2->RelV x v->RelV y u->R x y d->wpAny (model X.prog X.w) X.A (f v u) Q X.xe s2) :
  wpAny (model X.prog X.w) X.A (eval a X.env) (λv m=>wpAny (model X.prog X.w) X.A (eval b X.env) (λu t=>wpAny (model X.prog X.w) X.A (f v u) Q X.xe t) X.xe m) X.xe s:=by
 exact Lb (p aa s c H _ I h) λv g ⟨x,e,r,j,l⟩=>Lb (o aa g c e _ r l) λu s2 ⟨y,d,q,i,k⟩=>n v u s2 x y d q j i k
def L6(g:He X (binaryOp op) r)(j:PE X a ta)(i:PE X b tb):PE X (.BinOp a op b pos) (wk r ta tb):=by
 intro k s c H Q I h;exact wpAny_BinOp<|FO j i I h λv u d x y m l f e q=>g k d c m x y v u Q l f e q
def bJg{r:IR}(g:WI X (unaryOp op) r)(i:PE X a ta):PE X (.UnaryOp op a pos) (tUn r ta):=by
 intro c s b H Q I h;exact UnaryOp_<|Lb (i c s b H _ I h) λv d ⟨x,k,j,e,f⟩=>g c d b k x v Q j e f
def cx{f:Value->Value->Sem Value}{C:Int->Int->Prop}{g:Int->Int->Int}
  (rule:∀(i j:Int)(t u:Tok)(s:Shared)(Q:am)(E:am),C i j->Q (.int (g i j) s.toks) {s with toks:=s.toks+1}->wpAny (model X.prog X.w) X.A (f (.int i t)<|.int j u) Q E s) :
  He X f (rI C λi j=>.int<|g i j):=by
 intro k s e H x y v u Q I c b h;obtain⟨i,j,rfl,rfl,d,q⟩:=h;obtain⟨t,rfl⟩:=c;obtain⟨a,rfl⟩:=b;exact rule i j t a s _ _ d ⟨.int<|g i j,H,I.tok _,⟨_,rfl⟩,q⟩
def DF{f:Value->Value->Sem Value}{g:Int->Int->Int}
  (rule:∀(i j:Int)(t u:Tok)(s:Shared)(Q:am)(E:am),Q (.int (g i j) s.toks) {s with toks:=s.toks+1}->wpAny (model X.prog X.w) X.A (f (.int i t)<|.int j u) Q E s) :
  He X f (Zh λi j=>.int<|g i j):=by
 intro e s d H x y v u Q I c b h;obtain⟨i,j,rfl,rfl,q⟩:=h;obtain⟨t,rfl⟩:=c;obtain⟨a,rfl⟩:=b;exact rule i j t a s _ _ ⟨.int<|g i j,H,I.tok _,⟨_,rfl⟩,q⟩
def EF{f:Value->Value->Sem Value}{g:Int->Int->Bool}
  (rule:∀(i j:Int)(t u:Tok)(s:Shared)(Q:am)(E:am),Q (.bool<|g i j) s->wpAny (model X.prog X.w) X.A (f (.int i t)<|.int j u) Q E s) :
  He X f (Zh λi j=>.bl<|g i j):=by
 intro e s d H x y v u Q I c b h;obtain⟨i,j,rfl,rfl,q⟩:=h;obtain⟨t,rfl⟩:=c;obtain⟨a,rfl⟩:=b;exact rule i j t a s _ _ ⟨.bl<|g i j,H,I,rfl,q⟩
def bM0(i j:Int):Prop:=0<j/\j<1073741824
def F7(i j:Int):Prop:=0<=j/\j<=1000000/\i.natAbs<2^64
def zy(i j:Int):Prop:=(-(2^64)<i/\i<2^64)\/(-(2^64)<j/\j<2^64)
def zy.ok(h:zy i j):IntMulOk i j:=by
 rcases h with ⟨b,a⟩|⟨b,a⟩
 .exact .of_left (intBits_le_64 b a)
 exact .of_right<|intBits_le_64 b a
def á(k:Nat):(0:Int)<=2^k:=by
 exact GP _
def O4:He X (binaryOp .Add) (Zh λi j=>.int<|i+j):=DF λ_ _ _ _ _ _ _ q=>add_int q
def bGc:He X (binaryOp .Sub) (Zh λi j=>.int<|i-j):=DF λ_ _ _ _ _ _ _ q=>sub_int q
def bGd:He X (binaryOp .Mult) (rI zy λi j=>.int<|i*j):=cx λ_ _ _ _ _ _ _ a q=>mul_int q a.ok
theorem bBv:He X (binaryOp .FloorDiv) (rI bM0 λi j=>.int<|i/j):=cx λi j _ _ _ _ _ a q=>by
 have c:=a.1;have b:=a.2;exact floordiv_int (by lia) (by rwa [r8 i (by lia)])<|.inl<|PyProof.noPylong_small<|by lia
theorem bGe:He X (binaryOp .Mod) (rI (λ_ j=>0<j) λi j=>.int<|i%j):=cx λi j _ _ _ _ _ a q=>by
 exact mod_int' (by lia) (by rwa [Int.fmod_eq_emod_of_nonneg i (by lia)])
def bGf:He X (binaryOp .Pow) (rI F7 λi j=>.int<|i^j.toNat):=cx λ_ _ _ _ _ _ _ a q=>pow_int_small a.1 a.2.1 a.2.2 q
def bGg:He X (binaryOp .LShift) (rI F7 λi j=>.int<|i*2^j.toNat):=cx λ_ _ _ _ _ _ _ a q=>lshift_int_small a.1 a.2.1 a.2.2 q
def bGh:He X (binaryOp .RShift) (rI (λ_ j=>0<=j) λi j=>.int<|i/2^j.toNat):=cx λi j _ _ _ _ _ a q=>
 rshift_int a (by rwa [r8 i<|á _])
def bGi:He X (binaryOp .BitAnd) (Zh λi j=>.int<|Builtin.bitAnd i j):=DF λ_ _ _ _ _ _ _ q=>and_int q
def bJi:He X (binaryOp .BitOr) (Zh λi j=>.int<|Builtin.bitOr i j):=DF λ_ _ _ _ _ _ _ q=>or_int q
def unI{f:Value->Sem Value}{g:Int->Int}
  (rule:∀(i:Int)(t:Tok)(s:Shared)(Q:am)(E:am),Q (.int (g i) s.toks) {s with toks:=s.toks+1}->wpAny (model X.prog X.w) X.A (f<|.int i t) Q E s) :
  WI X f (rU λi=>.int<|g i):=by
 intro c s b H x v Q I a h;obtain⟨i,rfl,q⟩:=h;obtain⟨t,rfl⟩:=a;exact rule i t s _ _ ⟨.int<|g i,H,I.tok _,⟨_,rfl⟩,q⟩
def bGj:WI X (unaryOp .USub) (rU λi=>.int<|-i):=unI λ_ _ _ _ _ q=>neg_int q
def ZD{Q:VK}{k a:Bool}(I:ya X aa σ H s)(q:Q (.bl k) H)(e:k=a):EP X aa σ Q (.bool a) s:=by
 subst e;exact⟨.bl k,H,I,rfl,q⟩
def Ts:He X (compareOp .Lt) (Zh λi j=>.bl<|decide (i<j)):=EF λ_ _ _ _ _ _ _ q=>lt_int q
def ny:He X (compareOp .LtE) (Zh λi j=>.bl<|decide (i<=j)):=EF λ_ _ _ _ _ _ _ q=>le_int q
def Jv:He X (compareOp .Gt) (Zh λi j=>.bl<|decide (j<i)):=EF λ_ _ _ _ _ _ _ q=>gt_int q
def fN:He X (compareOp .GtE) (Zh λi j=>.bl<|decide (j<=i)):=EF λ_ _ _ _ _ _ _ q=>ge_int q
def Ē:He X (compareOp .In) (λx y H Q=>∃i j,x=.str i/\y=.str j/\Q (.bl<|!(Builtin.Str.occurrences j i 0 j.length 1).isEmpty) H):=by
 intro e s c H x y v u Q I b a h;obtain⟨i,j,rfl,rfl,q⟩:=h;obtain⟨t,rfl⟩:=b;obtain⟨d,rfl⟩:=a;exact in_str<|ZD I q rfl
def bGk:He X (compareOp .Is) (λx y H Q=>y=.Hb/\Q (.bl<|decide (x=.Hb)) H):=by
 intro d s c H x y v u Q I b a h;obtain⟨rfl,q⟩:=h;cases a;refine is_none_gen<|ZD I q ?_;cases x<;>first
  |(rfl)
  |(obtain⟨t,rfl⟩:=b;rfl)
def bBw:He X (compareOp .IsNot) (λx y H Q=>y=.Hb/\Q (.bl<|!decide (x=.Hb)) H):=by
 intro d s c H x y v u Q I a b h;obtain⟨rfl,q⟩:=h;cases b;refine isnot_none_gen<|ZD I q ?_;cases x<;>first
  |(cases a;rfl)
  |(obtain⟨t,rfl⟩:=a;rfl)
def ϥ:He X (compareOp .NotIn) (λx y H Q=>∃i j,x=.str i/\y=.str j/\Q (.bl<|!(!(Builtin.Str.occurrences j i 0 j.length 1).isEmpty)) H):=by
 intro e s c H x y v u Q I b a h;obtain⟨i,j,rfl,rfl,q⟩:=h;obtain⟨t,rfl⟩:=b;obtain⟨d,rfl⟩:=a;exact notIn_str<|ZD I q rfl
def He.or{f:Value->Value->Sem Value}(h:He X f r)(e:He X f r'):He X f (λx y H Q=>r x y H Q\/r' x y H Q):=by
 intro d s a H x y v u Q I c b q;rcases q with q|q
 .exact h d s a H x y v u Q I c b q
 exact e d s a H x y v u Q I c b q
def Rx(b:Expr){op:CmpOp}(h:op≠.In:=by decide)(a:op≠.NotIn:=by decide):behindInMarks op b=false:=by
 have e1:(op==CmpOp.In)=false:=by cases op<;>first|rfl|exact absurd rfl h
 have e2:(op==CmpOp.NotIn)=false:=by cases op<;>first|rfl|exact absurd rfl a
 cases b<;>simp[behindInMarks,e1,e2]
def C0(g:He X (compareOp op) r)(k:PE X a ta)(j:PE X b tb)(i:behindInMarks op b=false):PE X (.Compare a [op] [b] pos) (wk r ta tb):=by
 intro l s c H Q I h;exact wpAny_Compare1 (FO k j I h λv u d x y n m f e q=>g l d c n x y v u Q m f e q) i
def iN(t:TE):TT:=λa H Q=>t a H λx b=>∃k,x=.bl k/\Q k b
def RK(o:He X (compareOp op) r)(t:PE X a ta)(q:PE X b tb)(p:behindInMarks op b=false):PT X (.Compare a [op] [b] pos) (iN<|wk r ta tb):=by
 intro f s d H Q I h;refine wpAny_isTrue_Compare1 (Lb (t f s d H _ I h) λv i ⟨x,C,A,l,n⟩=>Lb (q f i d C _ A n) λu g ⟨y,B,w,j,m⟩=>
  Lb (o f g d B x y v u _ w l j m) λc D ⟨z,H3,I3,r3,k,e,q3⟩=>?_) p
 subst e;cases r3;exact br ⟨H3,I3,q3⟩
def qv:(sizeLine:Nat)<2^63:=by decide
def â:He X (binaryOp .Add) (λx y H Q=>∃i j,x=.str i/\y=.str j/\i.length+j.length<=sizeLine/\Q (.str<|i++j) H):=by
 intro g s e H x y v u Q I c b h;obtain⟨i,j,rfl,rfl,d,q⟩:=h;obtain⟨t,rfl⟩:=c;obtain⟨a,rfl⟩:=b;exact add_str (λa f=>⟨.str _,H,I.tok _,⟨_,rfl⟩,q⟩) d
def vals1{x:V}(r:Ca [x] us):∃u,us=[u]/\RelV x u:=by
 cases r with
 |cons b a=>cases a;exact⟨_,rfl,b⟩
def vals2{x y:V}(r:Ca [x,y] us):∃u a,us=[u,a]/\RelV x u/\RelV y a:=by
 cases r with
 |cons e d=>
  cases d with
  |cons c b=>cases b;exact⟨_,_,rfl,e,c⟩
def ē(b:X.calm=true):jY X (.builtin "max") (λxs H Q=>∃i j,xs=[.int i,.int j]/\Q (.int<|if j>i then j else i) H):=by
 intro m s c H xs e Q I r h;obtain⟨i,j,rfl,q⟩:=h;obtain⟨u,d,rfl,⟨t,rfl⟩,⟨g,rfl⟩⟩:=vals2 r;refine max_two_ints (I.ok.hd b) λl f k=>⟨_,H,I.kept k,?_,q⟩
 by_cases a:j>i
 .rw[Qa a,Qa a];exact⟨_,rfl⟩
 rw[Ea a,Ea a];exact⟨_,rfl⟩
end
structure Nj(h:Heap)(x dx C:Addr)(mA:jp):Prop where
 obj:h.get? x=some (PySem.W.instObj C dx)
 ns:h.Ns1 dx mA
 ne:dx≠x
def Ĕ{h:Heap}{c:jp}(n:h.Ns1 dx c):∃b,h.get? dx=some b/\∀name,PySem.W.lookIn name b=some (c name):=by
 obtain⟨o,k,m,f,j,i,_,g⟩:=n;refine⟨o,f,λname=>?_⟩
 have e:=g name;unfold nsFind findBy at e;rw[<-Array.find?_toList]at e;unfold PySem.W.lookIn;rw[j];dsimp only;split
 .rename_i y q;rw[q]at e;exact congrArg some e
 rename_i q;rw[q]at e;have a:k.toList.any (·.refKey)=false:=by
  rw[RG];intro y d;obtain⟨z,t,l⟩:=i y<|W8.mp d;simp[DictEntry.refKey,l]
 rw[Ea (by rw[a];exact Qh)]
 exact congrArg some e
def Nj.look{b:jp}(I:Nj h x dx C b):∃a,PySem.W.InstAt h x (PySem.W.instObj C dx) C (some a)/\∀name,PySem.W.lookIn name a=some (b name):=
 let ⟨a,c,d⟩:=Ĕ I.ns
 ⟨a,⟨I.obj,rfl,rfl,c⟩,d⟩
section
variable{prog:Program}{w:World}{A:Around}{E:am}{s:Shared}{K:PySem.W.Frag}{x dx C f:Addr}{mA:jp}{name:Str}{v:Value}
def get_map{Q:am}(X:K.In s.heap)(I:Nj s.heap x dx C mA)(d:PySem.W.plainGet K C name=true)(c:PySem.W.hasDictIn K C=true)
  (e:PySem.W.findIn K (.ref C) name=some none) (a:mA name=some v) (f:PySem.W.handedIn v=true) (h:Q v {s with toks:=s.toks+1}) :
  wpAny (model prog w) A (getAttr (.ref x) name expr) Q E s:=by
 obtain⟨g,J,b⟩:=I.look;exact PySem.W.get_value X J (FP d).1 (PySem.W.findObj_own c e rfl<|by rw[b,a]) f h
def ŝ{Q:Value×List Value->Shared->Prop}(X:K.In s.heap)(I:Nj s.heap x dx C mA)(a:PySem.W.plainGet K C name=true)
  (g:PySem.W.findIn K (.ref C) name=some (some<|.ref f)) (d:PySem.W.isFn K (.ref f)=true) (c:mA name=none) (h:Q (.ref f,[.ref x]) s) :
  wpAny (model prog w) A (getMethod (.ref x) name pl) Q E s:=by
 obtain⟨b,J,e⟩:=I.look;exact PySem.W.method_fn X J (FP a).1 (FP a).2 g (Io.mp d) (by show (PySem.W.lookIn name b).map _=some false;rw[e,c];rfl) h
theorem bBx{Q:v4}(X:K.In s.heap)(I:Nj s.heap x dx C mA)
  (l:PySem.W.findIn K (.ref C) "__setattr__"=some (some<|.builtin "object.__setattr__")) (m:PySem.W.plainOver K C=true) (k:PySem.W.takerIn K C name=some none) (n:PySem.W.hasDictIn K C=true)
  (j:PySem.Within mA ns) (r:ns.length<=sizeLine)
  (h:∀a,Nj a x dx C (λy=>if y=name then some v else mA y)->Heap.SameBut dx s.heap a->Q () {s with heap:=a,toks:=s.toks+2}) :
  wpAny (model prog w) A (setAttr (.ref x) name v) Q E s:=by
 obtain⟨t,J,z⟩:=I.look;refine PySem.W.set_plain X J l<|PySem.W.osa_open X J m k λb=>?_
 obtain⟨B,o,i⟩:=PySem.W.any_some n;refine qa<|Ga<|qa<|qa<|wpAny_loadPart I.obj<|qa<|PySem.W.Looks.here (PySem.W.looks_clsIn X o) ?_;rw[i];refine Ga<|qa<|Ga<|qa<|wpAny_nsSet1 I.ns λa g f=>?_
 obtain⟨u,p,q,c,d,e⟩:=g.count<|PySem.Within.cons name v j;exact qa<|wpAny_lookBehind c (by rw[d];exact pastItsLine_dict<|Yg e<|by rw[dg];lia)<|Ga<|h _ ⟨(f.2 _<|bf I.ne).trans I.obj,g,I.ne⟩ f
def Ş{R:Result->ut}{vs:cr}{a:Fa}(X:K.In s.heap)(b:PySem.W.makesIn K C=true)
  (c:PySem.W.findIn K (.ref C) "__init__"=some (some<|.ref f)) (d:PySem.W.typeIn K (.ref f)=some (.type "function"))
  (h:codeAny (model prog w) (A.under<|.builtin "type.__call__" ⟨.ref C::vs,a⟩) (.call (.ref f) ⟨.ref (s.heap.objs.size+1)::vs,a⟩) (PySem.W.InitBack (s.heap.objs.size+1) R)
   {s with heap:=(s.heap.push PySem.W.emptyDict).push (PySem.W.instObj C s.heap.objs.size)}) :
  codeAny (model prog w) A (.call (.ref C) ⟨vs,a⟩) R s:=by
 exact PySem.W.make_core (PySem.W.makes_of X b) (AH X c) (λself=>PySem.W.bind_fn X self d) (.inl rfl) h
end
noncomputable def wZ(f:Str)(v:V):List (Str×V)->List (Str×V)
 |[]=>[(f,v)]
 |(g,x)::r=>if g=f then (g,v)::r else (g,x)::wZ f v r
theorem nV(f g:Str)(v:V):∀fs:AC,(wZ f v fs).lookup g=if g=f then some v else fs.lookup g
 |[]=>by
  show List.lookup g [(f,v)]=_
  by_cases h:g=f
  .simp[List.lookup,(beq_iff_eq.mpr h),if_pos h]
  simp only[List.lookup,(beq_eq_false_iff_ne.mpr h),if_neg h]
 |(k,x)::r=>by
  rw[show wZ f v _=(if k=f then (k,v)::r else (k,x)::wZ f v r) from rfl]
  by_cases a:k=f
  .rw[Qa a]
   by_cases h:g=k
   .simp[List.lookup,(beq_iff_eq.mpr h),if_pos<|h.trans a]
   simp[List.lookup,(beq_eq_false_iff_ne.mpr h),if_neg (λe:g=f=>h<|e.trans a.symm)]
  rw[Ea a]
  by_cases h:g=k
  .simp only[List.lookup,(beq_iff_eq.mpr h),if_neg (λe:g=f=>a<|h.symm.trans e)]
  simp[List.lookup,(beq_eq_false_iff_ne.mpr h)];exact nV f g v r
theorem JJ(f:Str)(v:V):∀fs:AC,f∈(wZ f v fs).map (·.1)/\∀g,g∈fs.map (·.1)->g∈(wZ f v fs).map (·.1)
 |[]=>⟨by simp[wZ],λg h=>by simp at h⟩
 |(k,x)::r=>by
  obtain⟨c,b⟩:=JJ f v r;rw[show wZ f v _=(if k=f then (k,v)::r else (k,x)::wZ f v r) from rfl]
  by_cases a:k=f
  .subst a;exact⟨by simp,λg h=>by simpa using h⟩
  rw[Ea a];refine⟨?_,λg h=>?_⟩
  .exact Kb _ c
  rcases Mb.mp h with e|e
  .exact Mb.mpr (.inl e)
  exact Kb _<|b g e
theorem pV(f:Str)(v:V):∀fs:AC,(wZ f v fs).length<=fs.length+1
 |[]=>by simp[wZ]
 |(k,x)::r=>by
  have b:=pV f v r;rw[show wZ f v _=(if k=f then (k,v)::r else (k,x)::wZ f v r) from rfl]
  by_cases a:k=f
  .rw[Qa a,dg,dg];lia
  rw[Ea a,dg,dg];lia
def wU.some_of(r:wU (some v) o):∃u,o=some u/\RelV v u:=by
 cases o with
 |none=>exact(r).elim
 |some u=>exact⟨u,rfl,r⟩
def wU.none_of(r:wU none o):o=none:=by
 cases o with
 |none=>rfl
 |some u=>exact(r).elim
def ĕ(r:RelV v u):PySem.W.handedIn u=true:=by
 cases v with
 |Hb=>cases (r);rfl
 |bl b=>cases (r);rfl
 |int i=>obtain⟨t,e⟩:=(r);cases e;rfl
 |str x=>obtain⟨t,e⟩:=(r);cases e;rfl
 |JH b=>obtain⟨t,e⟩:=(r);cases e;rfl
 |Mw b=>obtain⟨t,e⟩:=(r);cases e;rfl
 |ref a=>cases (r);rfl
 |ty n=>cases (r);rfl
section
variable{P:Program}{w:World}{H H':Hp}{h h':Heap}{a C dx:Addr}{fs fs':AC}
def SK(g:de P w H h)(e:H a=some (.ins C dx fs)):∃b,Nj h a dx C b/\(∀f,wU (fs.lookup f)<|b f)/\PySem.Within b (fs.map (·.1))/\fs.length<=1000/\H dx=some (.own a):=by
 obtain⟨d,z,c,ob,b,n,r,q⟩:=((g a _ e));exact⟨b,⟨ob,n,c⟩,r,q,z,d⟩
end
structure Zn(K:PySem.W.Frag)(C:Addr):Prop where
 pg:PySem.W.plainGet K C Str.empty=true
 hd:PySem.W.hasDictIn K C=true
 po:PySem.W.plainOver K C=true
 sa:PySem.W.findIn K (.ref C) "__setattr__"=some (some<|.builtin "object.__setattr__")
def Zn.get{K:PySem.W.Frag}(c:Zn K C)(f:Str):PySem.W.plainGet K C f=true:=c.pg
def eZ(K:PySem.W.Frag)(C:Addr)(f:Str):Prop:=PySem.W.findIn K (.ref C) f=some none
def eZ.WB{K:PySem.W.Frag}(n:eZ K C f):PySem.W.takerIn K C f=some none:=by
 unfold PySem.W.takerIn;rw[n];rfl
structure Meth(K:PySem.W.Frag)(C:Addr)(m:Str)(f:Addr):Prop where
 at_:PySem.W.findIn K (.ref C) m=some (some<|.ref f)
 fn:PySem.W.isFn K (.ref f)=true
 kp:PySem.W.keepIn K (.ref f)=true
section
variable{X:Cx}{aa:db}{σ:St}{H:Hp}{s:Shared}{a C dx:Addr}{fs:AC}{f:Str}{v:V}{A:Around}{E:am}
def ã{Q:am}(I:ya X aa σ H s)(e:H a=some (.ins C dx fs))(c:Zn X.K C)(n:eZ X.K C f)(l:fs.lookup f=some v)
  (h:∀u d,ya X aa σ H d->RelV v u->Q u d):wpAny (model X.prog X.w) A (getAttr (.ref a) f b) Q E s:=by
 obtain⟨j,O,r,_,_,_⟩:=SK I.Ia e;obtain⟨u,i,g⟩:=wU.some_of (by rw[<-l];exact r f)
 exact get_map I.Pg O (c.get f) c.hd n i (ĕ g)<|h u _ (I.tok _) g
def ä{Q:Value×List Value->Shared->Prop}(I:ya X aa σ H s)(e:H a=some (.ins C dx fs))(c:Zn X.K C)(k:Meth X.K C m g)(l:fs.lookup m=none)
  (h:Q (.ref g,[.ref a]) s):wpAny (model X.prog X.w) A (getMethod (.ref a) m pl) Q E s:=by
 obtain⟨b,O,r,_,_,_⟩:=SK I.Ia e;exact ŝ I.Pg O (c.get m) k.at_ k.fn (wU.none_of<|by rw[<-l];exact r m) h
theorem å{Q:v4}(I:ya X aa σ H s)(e:H a=some (.ins C dx fs))(c:Zn X.K C)(n:eZ X.K C f)(w:fs.length<1000)(v:RelV y u)
  (h:∀j,ya X aa σ (Ra H a<|.ins C dx<|wZ f y fs) j->Q () j):wpAny (model X.prog X.w) A (setAttr (.ref a) f u) Q E s:=by
 obtain⟨l,O,r,i,_,m⟩:=SK I.Ia e;refine bBx I.Pg O c.sa c.po n.WB c.hd i (by rw[Gb,Vm];lia) λx d k=>h _<|I.write (by rw[e];exact True.intro) (.inr m) (λb q p z=>(k.2 b p).trans z) (let ⟨o,_,_,t,_⟩:=d.ns;⟨o,t⟩)<|⟨by rwa [aK O.ne],?_,O.ne,d.obj,_,d.ns,λg=>?_,λg hg=>?_⟩
 .have:=pV f y fs;lia
 .rw[nV]
  by_cases q:g=f
  .rwa [Qa q,Qa q]
  rw[Ea q,Ea q];exact r g
 by_cases q:g=f
 .rw[q];exact(JJ f y fs).1
 refine(JJ f y fs).2 g (i g λz=>hg ?_)
 show (if g=f then some u else l g)=none
 rwa [Ea q]
def ya.made(I:ya X aa σ H s):ya X aa σ (Ra (Ra H s.heap.objs.size<|.own<|s.heap.objs.size+1) (s.heap.objs.size+1)<|.ins C s.heap.objs.size [])
  {s with heap:=(s.heap.push PySem.W.emptyDict).push (PySem.W.instObj C s.heap.objs.size)}:=by
 have e1:(s.heap.push PySem.W.emptyDict).get? s.heap.objs.size=some PySem.W.emptyDict:=we s.heap rfl;refine(I.laid (o:=.own _) (t':=s.toks) (λb u q=>bc _ q) (Ib _) ⟨_,e1⟩).laid (λb u q=>bc _ q) (Sm<|Hi _ _) ?_
 have a:s.heap.objs.size≠s.heap.objs.size+1:=zd<|Pt _;refine⟨by rw[aK a,bB],Gf _,a,(by
  have:=we (s.heap.push PySem.W.emptyDict) (o:=PySem.W.instObj C s.heap.objs.size) rfl
  rwa [Hi]at this),λ_=>none,(Heap.Ns1.of_empty<|⟨PySem.W.emptyDict, #[],_,e1,rfl,(λe d=>absurd d<|by simp),λ_=>rfl⟩).at λo q=>bc _ q,λ_=>True.intro,λy c=>absurd rfl c⟩
def bBy{w:World}{f:Str}{s:Shared}{Q:am}(b:Kj e f env)
  (h:wpAny (model prog w) A (eval e env) (λo a=>wpAny (model prog w) A (getAttr o f true) Q E a) E s):wpAny (model prog w) A (eval (.Attribute e f pos) env) Q E s:=
 Attribute_any_ h (by rw[arm_eval_Attribute,b])
end
def bM1(K:PySem.W.Frag)(d:TE)(f:Str):TE:=λc H Q=>d c H λx b=>∃a C e fs v,x=.ref a/\b a=some (.ins C e fs)/\Zn K C/\eZ K C f/\fs.lookup f=some v/\Q v b
def bM2(K:PySem.W.Frag)(g e:TE)(f:Str):TS:=λD b H=>e b H λy h=>g b h λx d=>∃a C c fs,x=.ref a/\d a=some (.ins C c fs)/\Zn K C/\eZ K C f/\fs.length<1000/\
 D.nx b (Ra d a<|.ins C c<|wZ f y fs)
section
variable{X:Cx}{o e value:Expr}{f:Str}{pos pos' AU:Pos}{ta tv:TE}
def bGl(he:PE X e ta)(i:Kj e f X.env):PE X (.Attribute e f pos) (bM1 X.K ta f):=by
 intro m s b H Q I h;refine bBy i<|Lb (he m s b H _ I h) λu y ⟨x,r,p,d,a,C,z,fs,v,j,k,c,n,l,q⟩=>?_
 subst j;obtain rfl:u=Value.ref a:=d;exact ã p k c n l λt w o g=>⟨v,r,o,g,q⟩
def bGm(j:PE X o ta)(g:PE X value tv)(i:ml value (some<|.Attribute o f pos') pos.line X.env):PS X (.Assign [.Attribute o f pos'] value pos) (bM2 X.K ta tv f):=by
 intro d s b H D I h;refine plainObj_wpAny_Assign_Attribute (Lb (g d s b H _ I h) λu e ⟨y,p,m,ry,q⟩=>Lb (j d e b p _ m q) λov t ⟨x,w,I2,rx,a,C,v,fs,ex,ea,c,n,l,q2⟩=>?_) i
 subst ex;obtain rfl:ov=Value.ref a:=rx;exact å I2 ea c n l ry λr k=>⟨b,_,k,q2⟩
end
section
variable{X:Cx}{aa:db}{σ:St}{H:Hp}{s:Shared}{A:Around}{E:am}{Q:am}{c:Value}{b:Bool}
inductive fh (K:PySem.W.Frag) (H:Hp):V->Value->Prop where
 |Hb:fh K H .Hb (.type "NoneType")
 |bl (x:Bool):fh K H (.bl x) (.type "bool")
 |int (i:Int):fh K H (.int i) (.type "int")
 |str (x:Str):fh K H (.str x) (.type "str")
 |Mw (x:UInt64):fh K H (.Mw x) (.type "float")
 |lst {a:Addr} {xs:ss} (e:H a=some (.lst xs)):fh K H (.ref a) (.type "list")
 |fg {a:Addr} {o:Obj} {xs:ss} (e:H a=some (.fg o<|.lst xs)):fh K H (.ref a) (.type "list")
 |tup {a:Addr} {xs:ss} (e:H a=some (.tup xs)):fh K H (.ref a) (.type "tuple")
 |dK {a:Addr} {ia:sK} (e:H a=some (.dK ia)):fh K H (.ref a) (.type "dict")
 |dT {a:Addr} {ia:pi} (e:H a=some (.dT ia)):fh K H (.ref a) (.type "dict")
 |ins {a C dx:Addr} {fs:AC} (e:H a=some (.ins C dx fs)) (cl:Zn K C) (ha:PySem.W.findIn K (.ref C) "__class__"=some (some<|.builtin "object.__class__"))
   (hn:PySem.W.specialIn K (.builtin "object.__class__") "__get__"=some (some<|.builtin "getset_descriptor.__get__")) (htk:PySem.W.takesIn K (.builtin "object.__class__")=some true)
   (hm:PySem.W.mroIn K C (.type "object")=some true):fh K H (.ref a) (.ref C)
end
structure Bb(k:Nat)(A:Around):Prop where
 hd:A.handled=none
 dp:A.depth+3*k+5<recursionLimit
 un:A.units+16*k+200<cLine
theorem Bb.mono{j k:Nat}(r:Bb k A)(h:j<=k):Bb j A:=⟨r.hd,by have:=r.dp;lia,by have:=r.un;lia⟩
theorem Bb.deeper{k:Nat}(r:Bb (k+1) A)(env:Env):Bb k (A.deeper env):=
 ⟨r.hd,by have:=r.dp;show A.depth+1+3*k+5<_;lia,by have:=r.un;show A.units+3+16*k+200<_;lia⟩
theorem Bb.in1{k:Nat}(r:Bb (k+1) A):Bb k A.in1:=
 ⟨r.hd,by have:=r.dp;lia,by have:=r.un;lia⟩
def æ{A:Around}{C:Addr}{a:cr}{b:Fa}:(A.under<|.builtin "type.__call__" ⟨.ref C::a,b⟩).depth=A.depth+1:=by
 first|rfl|simp
def ç{A:Around}{C:Addr}{a:cr}{b:Fa}:(A.under<|.builtin "type.__call__" ⟨.ref C::a,b⟩).units=A.units+1:=by
 first|rfl|simp
theorem Bb.make{k:Nat}{A:Around}(r:Bb (k+1) A)(C:Addr)(a:cr)(b:Fa):Bb k (A.under<|.builtin "type.__call__" ⟨.ref C::a,b⟩):=
 ⟨r.hd,by have:=r.dp;rw[æ];lia,by have:=r.un;rw[ç];lia⟩
theorem Bb.depth{k:Nat}(r:Bb k A):A.depth<recursionLimit:=by have:=r.dp;lia
theorem Bb.units{k:Nat}(r:Bb k A):A.units+64<cLine:=by have:=r.un;lia
def Iq:TA:=λ_ H Q=>Q [] H
def uG(d:TE)(c:TA):TA:=λa H Q=>d a H λx f=>c a f λb e=>Q (x::b) e
section
variable{X:Cx}{e:Expr}{es:List Expr}{te:TE}{t:TA}{pos:Pos}
def dW:PA X [] Iq:=λ_ _ _ _ H Q I h=>Calls.spliced_nil ⟨[],H,I,.nil,h⟩
def bW(m:PE X e te)(l:PA X es t)(k:vf e es X.env:=by rfl):PA X (e::es) (uG te t):=by
 intro pos b s a H Q I h;rw[k];refine Calls.spliced_cons<|Lb (m b s a H _ I h) λu d ⟨x,q,o,g,j⟩=>?_
 exact Lb (l pos b d a q _ o j) λr v ⟨c,p,n,f,i⟩=>⟨x::c,p,n,.cons g f,i⟩
def bM3(t:TA):TE:=λc H Q=>t c H λa b=>a.length<=sizeLine/\∀p,b p=none->Q (.ref p) (Ra b p<|.tup a)
def aw(t:TA):TE:=λc H Q=>t c H λa b=>a.length<=sizeLine/\∀p,b p=none->Q (.ref p) (Ra b p<|.lst a)
def bGn{x1}(h:PA X es t):PE X (.Tuple es x1 pos) (bM3 t):=by
 intro j s d H Q I i;exact wpAny_Tuple_spliced<|Lb (h pos j s d H _ I i) λg a ⟨f,k,c,r,z,q⟩=>⟨by rwa [<-r.length],(⟨.ref a.heap.objs.size,Ra k a.heap.objs.size<|.tup f,c.laid (λb u e=>bc _ e) (Ib _)<|⟨z,g,r,⟨_,we _ rfl,rfl,_,rfl⟩⟩,rfl,q _<|c.Ia.fresh<|Ib _⟩)⟩
def aE(h:PA X es t):PE X (.List es pos) (aw t):=by
 intro j s d H Q I i;exact wpAny_List_spliced<|Lb (h pos j s d H _ I i) λg a ⟨f,k,c,r,z,q⟩=>⟨by rwa [<-r.length],(⟨.ref a.heap.objs.size,Ra k a.heap.objs.size<|.lst f,c.laid (λb u e=>bc _ e) (Ib _)<|⟨z,g,0,r,we _ rfl⟩,rfl,q _<|c.Ia.fresh<|Ib _⟩)⟩
end
abbrev Sp:=List V->Hp->VK->XK->Prop
abbrev vq:=List Env->Hp->Shared->XK->am
structure Bi(P:Program)(w:World)(K:PySem.W.Frag)(mg:jp)(base:Heap)(A:Around)(outer:AT)(s:Shared)(H:Hp):Prop where
 frames:A.frames=some outer
 mod:Mod K mg base
 bs:∀b o,base.get? b=some o->s.heap.get? b=some o/\H b=none
 ym:base.objs.size<=s.heap.objs.size
 Pf:s.heap.FunFrames base outer
 Mo:∀b∈Of outer,H b=none
 Ia:de P w H s.heap
 bare:AllBare s.gens
def CE(a:AT)(P:Program)(w:World)(H:Hp)(s:Shared)(Q:VK)(u:Value)(b:Shared):Prop:=
 ∃v c,b.os=s.os/\AllBare b.gens/\Un (Of a) [] H c s.heap b.heap/\de P w c b.heap/\RelV v u/\Q v c
def CR(CX:vq)(a:AT)(P:Program)(w:World)(H:Hp)(s:Shared)(Q:VK)(E:XK)(r:Result)(b:Shared):Prop:=
 match r with
 |.ok (.ret u)=>CE a P w H s Q u b
 |.ok _=>False
 |.error e=>CX a H s E e b
structure Ja(P:Program)(w:World)(K:PySem.W.Frag)(mg:jp)(base:Heap)(CX:vq)(k:Nat)(f:Addr)(fd:FuncData)(ps:wP)(sp:Sp):Prop where
 len:∀vs H Q E,sp vs H Q E->vs.length=ps.length
 run:∀(A:Around)(outer:AT)(s:Shared)(H:Hp)(args:Args)(us:cr)(vs:ss)(Q:VK)(E:XK),Bb k A->Bi P w K mg base A outer s H->BindsTo s fd args (ps.zip us)->Ca vs us->sp vs H Q E->
  codeAny (model P w) A (.call (.ref f) args) (CR CX outer P w H s Q E) s
def Ja.imp{w:World}{K:PySem.W.Frag}{mg:jp}{k:Nat}{c:Sp}(F:Ja P w K mg base CX k f fd ps sp)
  (h:∀vs H Q E,c vs H Q E->sp vs H Q E):Ja P w K mg base CX k f fd ps c:=
 ⟨λvs H Q E q=>F.len vs H Q E<|h _ _ _ _ q,λA a s H b d vs Q E i j l e g=>F.run A a s H b d vs Q E i j l e<|h _ _ _ _ g⟩
def Bi.make{w:World}{K:PySem.W.Frag}{mg:jp}{A:Around}(e:Bi P w K mg base A outer s H)(C:Addr)(a:cr)(b:Fa) :
  Bi P w K mg base (A.under<|.builtin "type.__call__" ⟨.ref C::a,b⟩) outer s H:=⟨by first|exact e.frames|(simpa [Around.under,Code.envs,Code.isFrame,pushEnvs] using e.frames),e.mod,e.bs,e.ym,e.Pf,e.Mo,e.Ia,e.bare⟩
theorem Bi.in1{w:World}{K:PySem.W.Frag}{mg:jp}(e:Bi P w K mg base A outer s H) :
  Bi P w K mg base A.in1 outer s H:=⟨e.frames,e.mod,e.bs,e.ym,e.Pf,e.Mo,e.Ia,e.bare⟩
section
variable{X:Cx}{aa:db}{σ:St}{H:Hp}{s s':Shared}
def ya.Lp(I:ya X aa σ H s):Bi X.prog X.w X.K X.mg X.base X.A X.stack s H:=
 ⟨I.ok.frames,I.ok.mod,I.bs,Yg I.ok.ym I.sz,I.stack,I.dh,I.Ia,I.bare⟩
def ya.after(I:ya X aa σ H s)(h:CE X.stack X.prog X.w H s Q u s'):EP X aa σ Q u s':=by
 obtain⟨v,f,os,a,un,e,r,q⟩:=h;obtain⟨i,g,d,t,c⟩:=s';obtain rfl:c=s.os:=os;exact⟨v,f,I.call un e a<|λb z=>absurd z<|by simp,r,q⟩
end
def bJj(sp:Sp)(c:ss)(E:XK)(t:TA):TE:=λa H Q=>t a H λb d=>sp (b++c) d Q E
def bJk(C:Addr)(m:Str)(sp:Sp)(g:ss)(E:XK)(e:TE)(t:TA):TE:=λb H Q=>e b H λx c=>∃a f fs,x=.ref a/\c a=some (.ins C f fs)/\fs.lookup m=none/\
 t b c λd h=>sp (x::(d++g)) h Q E
def bJl(C:Addr)(sp:Sp)(e:ss)(E:XK)(t:TA):TE:=λc H Q=>t c H λd b=>∀x a,b x=none->b a=none->a≠x->
 sp (.ref x::(d++e)) (Ra (Ra b a<|.own x) x<|.ins C a []) (λv f=>v=.Hb/\Q (.ref x) f) E
def Binds(K:PySem.W.Frag)(b:FuncData)(ps:wP)(ds:cr):Prop:=
 ∀(s:Shared)(a:cr),K.In s.heap->(a++ds).length=ps.length->BindsTo s b ⟨a,[]⟩ (ps.zip<|a++ds)
def Binds.all{K:PySem.W.Frag}{ps:wP}(h:∀a:cr,a.length=ps.length->bindArgs fd ⟨a,[]⟩=pure (ps.zip a)):Binds K fd ps []:=λs a _ b=>by
 rw[Ql]at b ⊢;exact .of_eq<|h a b
def sv(CX:vq)(X:Cx)(E:XK):Prop:=∀(c:db) (b:St) (H:Hp) (s:Shared) (e:Value) (a:Shared),ya X c b H s->CX X.stack H s E e a->X.xe e a
section
variable{X:Cx}{CX:vq}{k:Nat}{f C:Addr}{fd:FuncData}{ps:wP}{sp:Sp}{Mf:ss}{ds:cr}{E:XK}{x m:Str}{p pos Ob:Pos}{e o:Expr}{es:List Expr}{ta:TE}{t:TA}
def P4(F:Ja X.prog X.w X.K X.mg X.base CX k f fd ps sp)(g:Bb k X.A)(j:Binds X.K fd ps ds)(i:Ca Mf ds)(d:sv CX X E)
  (I:ya X aa σ H s) (r:Ca vs us) (h:sp (vs++Mf) H Q E):wpAny (model X.prog X.w) X.A (call (.ref f) us) (EP X aa σ Q) X.xe s:=by
 have b:=r.append i;refine Xt<|Um (F.run X.A X.stack s H _ _ _ Q E g I.Lp (j s us I.Pg<|by rw[<-b.length];exact F.len _ _ _ _ h) b h) λr c a=>?_
 cases r with
 |error e=>exact d aa σ H s e c I a
 |ok l=>
  cases l with
  |ret u=>exact I.after a
  |next=>exact False.elim a
  |brk=>exact False.elim a
  |cont=>exact False.elim a
def D0(F:Ja X.prog X.w X.K X.mg X.base CX k f fd ps sp)(d:Bb k X.A)(j:Gl X x)(g:X.mg x=some (.ref f))(i:PySem.W.keepIn X.K (.ref f)=true)(m:Binds X.K fd ps ds)(l:Ca Mf ds)(c:sv CX X E)
  (n:PA X (e::es) t) (u:Ce x:=by decide) (he:vf e es X.env:=by rfl) (Vf:Aj pos es X.env:=by rfl) :
  PE X (.Call (.Name x p) (e::es) [] pos) (bJj sp Mf E t):=by
 intro o s b H Q I h;exact ar<|zA I j g (NG I.ok.mod.tf i (Lb (n pos o s b H _ I h) λw y ⟨v,z,a,r,q⟩=>⟨a.Pg,(P4 F d m l c a r q)⟩) he Vf) u
def bBz(he:PE X o ta)(c:Zn X.K C)(g:Meth X.K C m f)(F:Ja X.prog X.w X.K X.mg X.base CX k f fd ps sp)(y:Bb k X.A)(A:Binds X.K fd ps ds)(z:Ca Mf ds)(v:sv CX X E)(B:PA X (e::es) t)
  (D:vf e es X.env:=by rfl) (Vf:Aj pos es X.env:=by rfl)
  (w:eval (.Call (.Attribute o m Ob) (e::es) [] pos) X.env=(do
   let d <- eval o X.env
   standAt Ob.atName
   let (f,first) <- holding [d] (getMethod d m pl)
   callWith pos f first (backTo pos<|starEach (e::es) X.env) (backToKw pos<|keywordEach [] X.env)):=by rfl) :
  PE X (.Call (.Attribute o m Ob) (e::es) [] pos) (bJk C m sp Mf E ta t):=by
 intro i s b H Q I h;refine PySem.W.methodCall_KW (Lb (he i s b H _ I h) λu s1 ⟨x,H1,I1,rx,a,K,fs,ex,ea,l,q⟩=>?_) w
 subst ex;obtain rfl:u=Value.ref a:=rx;exact ä I1 ea c g l<|NG I.ok.mod.tf g.kp (Lb (B pos i s1 b H1 _ I1 q) λG J ⟨n,L,j,r,p⟩=>⟨j.Pg,(P4 (vs:=.ref a::n) F y A z v j (.cons rfl r) p)⟩) D Vf
structure Mk(K:PySem.W.Frag)(C f:Addr):Prop where
 makes:PySem.W.makesIn K C=true
 init:PySem.W.findIn K (.ref C) "__init__"=some (some<|.ref f)
 fn:PySem.W.isFn K (.ref f)=true
 kp:PySem.W.keepIn K (.ref C)=true
def ş{Q:VK}(M:Mk X.K C f)(F:Ja X.prog X.w X.K X.mg X.base CX k f fd ps sp)(n:Bb (k+1) X.A)(p:Binds X.K fd ps ds)(o:Ca Mf ds)
  (m:sv CX X E) (I:ya X aa σ H s) (r:Ca vs us)
  (h:∀x b,H x=none->H b=none->b≠x->sp (.ref x::(vs++Mf)) (Ra (Ra H b<|.own x) x<|.ins C b []) (λv y=>v=.Hb/\Q (.ref x) y) E) :
  wpAny (model X.prog X.w) X.A (call (.ref C) us) (EP X aa σ Q) X.xe s:=by
 have g:=h _ s.heap.objs.size (I.Ia.fresh<|Jo _) (I.Ia.fresh<|Ib _)<|zd<|Pt _;have c:=ya.made (C:=C) I;have d:Ca (V.ref (s.heap.objs.size+1)::(vs++Mf)) _:=.cons rfl<|r.append o;refine Xt<|Ş I.Pg M.makes M.init (Io.mp M.fn)<|Um (F.run _ X.stack _ _ _ _ _ _ E (n.make C us [])
  (c.Lp.make C us []) (p _ _ c.Pg (by
  have e:=d.length;rw[F.len _ _ _ _ g]at e;exact e.symm)) d g) λr i a=>?_
 cases r with
 |error e=>exact m aa σ _ _ e i c a
 |ok q=>
  cases q with
  |ret u=>
   obtain⟨v,z,w,j,t,l⟩:=c.after a;subst t;exact⟨j,⟨V.ref _,z,w,rfl,l⟩⟩
  |next=>exact False.elim a
  |brk=>exact False.elim a
  |cont=>exact False.elim a
def bC0(M:Mk X.K C f)(F:Ja X.prog X.w X.K X.mg X.base CX k f fd ps sp)(d:Bb (k+1) X.A)(i:Gl X x)(g:X.mg x=some (.ref C))(l:Binds X.K fd ps ds)(j:Ca Mf ds)(c:sv CX X E)
  (m:PA X (e::es) t) (o:Ce x:=by decide) (he:vf e es X.env:=by rfl) (Vf:Aj pos es X.env:=by rfl) :
  PE X (.Call (.Name x p) (e::es) [] pos) (bJl C sp Mf E t):=by
 intro n s b H Q I h;exact ar<|zA I i g (NG I.ok.mod.tf M.kp (Lb (m pos n s b H _ I h) λv w ⟨u,y,a,r,q⟩=>⟨a.Pg,(ş M F d l j c a r q)⟩) he Vf) o
end
structure Wc(N P:wP)(sc:Scope):Prop where
 kind:sc.kind=.function
 co:sc.isCoroutine=false
 gen:sc.isGenerator=false
 nd:N.Nodup
 pre:N.take P.length=P
 To:∀x∈P,sc.names.lookup x=some .local\/sc.names.lookup x=some .cell
 Lu:∀y∈sc.names,y.2≠.free
theorem FW{kindOf:Str->Option NameKind}{x:Str}:∀{binds:Fa} {m:jp},(∀v,(x,v)∉binds)->bindL kindOf binds m x=m x
 |[],_,_=>rfl
 |(n,v)::r,m,h=>by
  unfold bindL;rw[FW λw a=>h w<|Kb _ a]
  split
  .have:x≠n:=by rintro rfl;exact h v Cb
   simp[this]
  rfl
theorem GW{kindOf:Str->Option NameKind}{x:Str}:∀{binds:Fa} {m:jp},(∀v,(x,v)∉binds)->bindC kindOf binds m x=m x
 |[],_,_=>rfl
 |(n,v)::r,m,h=>by
  unfold bindC;rw[GW λw a=>h w<|Kb _ a]
  split
  .rfl
  have:x≠n:=by rintro rfl;exact h v Cb
  simp[this]
theorem HW{kindOf:Str->Option NameKind}:∀{P:wP}{vs:cr}{i:Nat}{m:jp},P.Nodup->P[i]?=some x->vs[i]?=some v->kindOf x=some .local->
  bindL kindOf (P.zip vs) m x=some v
 |[],_,_,_,_,h,_,_=>by simp at h
 |_::_,[],_,_,_,_,h,_=>by simp at h
 |p::P,w::vs,0,m,c,b,a,d=>by
  simp at b a;subst b;subst a;show bindL kindOf ((p,w)::P.zip vs) m p=_;unfold bindL;rw[FW λv e=>(ki.mp c).1 (VP e).1,Qa d]
  simp
 |p::P,w::vs,i+1,m,c,b,a,d=>by
  unfold bindL;exact HW (ki.mp c).2 (by simpa using b) (by simpa using a) d
theorem IW{kindOf:Str->Option NameKind}:∀{P:wP}{vs:cr}{i:Nat}{m:jp},P.Nodup->P[i]?=some x->vs[i]?=some v->kindOf x≠some .local->
  bindC kindOf (P.zip vs) m x=some v
 |[],_,_,_,_,h,_,_=>by simp at h
 |_::_,[],_,_,_,_,h,_=>by simp at h
 |p::P,w::vs,0,m,c,b,a,d=>by
  simp at b a;subst b;subst a;show bindC kindOf ((p,w)::P.zip vs) m p=_;unfold bindC;rw[GW λv e=>(ki.mp c).1 (VP e).1,Ea d]
  simp
 |p::P,w::vs,i+1,m,c,b,a,d=>by
  unfold bindC;exact IW (ki.mp c).2 (by simpa using b) (by simpa using a) d
noncomputable def start(N:wP)(vs:ss):St:=vs.map some++List.replicate (N.length-vs.length) none
noncomputable def qm(CX:vq)(P:Program)(w:World)(K:PySem.W.Frag)(mg:jp)(base:Heap)(N:wP)(b:Str)(a:Scope)(f:Addr)(c:Value)(A:Around)(outer:AT)(s:Shared)(H:Hp)(E:XK):Cx where
 prog:=P
 w:=w
 K:=K
 mg:=mg
 base:=base
 A:=A.deeper<|envOfC b a s.heap.objs.size f c
 N:=N
 Ba:=s
 Oa:=H
 env:=envOfC b a s.heap.objs.size f c
 outer:=outer
 stack:=envOfC b a s.heap.objs.size f c::outer
 ex:=[]
 calm:=true
 fn:=λ_=>true
 pn:=[]
 xe:=λe g=>wpAny (model P w) (A.deeper<|envOfC b a s.heap.objs.size f c) (leaving (envOfC b a s.heap.objs.size f c) e) (λ_ d=>CX outer H s E e d) (λh d=>CX outer H s E h d) g
def VX{a:Scope}(h:a.names.lookup x=some .cell):∃c,(cellsFrom n a.names []).lookup x=some c:=by
 exact ZO.mp<|P8 a.names n []<|.inl h
theorem Ė{w:World}{K:PySem.W.Frag}{mg:jp}{A:Around}{vs:ss}
  (S:Wc N ps scope) (C:A.handled=none) (d:Bi P w K mg base A outer s H) (F:vs.length=ps.length) (r:Ca vs us)
  (x:InCallC s s.heap.objs.size (bindL (envOfC qual scope s.heap.objs.size f cd).kindOf (ps.zip us) λ_=>none) (cellsFrom (s.heap.objs.size+1) scope.names []) (bindC (envOfC qual scope s.heap.objs.size f cd).kindOf (ps.zip us) λ_=>none) s1) :
  ya (qm CX P w K mg base N qual scope f cd A outer s H E) [] (start N vs) H s1:=by
 have I:ps.length<=N.length:=by have:=congrArg List.length S.pre;rw[Bw]at this;lia
 obtain⟨m,D,rfl,o⟩:=x.done;have g:∀b:Addr,b∉(qm CX P w K mg base N qual scope f cd A outer s H E).ex:=λb z=>absurd (show b∈([]) from z) (by simp)
 refine⟨⟨d.mod,S.kind,rfl,rfl,Ib _,λy z c m h2=>?_,λy hy=>?_,λy c _ h=>?_,λ_=>C,Around.frames_deeper d.frames,.inr ⟨rfl,rfl⟩,λb z=>absurd z<|g b,d.bs,d.ym,λb _ _=>g b,λb z=>absurd z<|g b,d.Pf,d.Mo⟩,
  rfl,d.bare,Un.kept o,⟨_,x.toInCall.ns,λi y v m h2 G=>?_⟩,λy c h=>⟨_,x.cell y c h⟩,d.Ia.fresh<|Ib _,λy c h=>?_,λp j=>absurd (show p∈([]) from j) (by simp),d.Ia.kept o,?_⟩
 .exact name_of_addr x.apart (Ol m) (Ol h2)
 .rcases hy with hy|hy
  .exact VX hy
  exact absurd rfl<|S.Lu _<|Ol hy
 .exact Fo (x.above y c<|Ol h)
 .have l:i<vs.length:=by
   unfold start at h2
   by_cases l:i<vs.length
   .exact l
   rw[SF (by simpa using l),List.getElem?_replicate]at h2
   split at h2<;>cases h2
  obtain⟨u,n,B⟩:=r.get (by
   unfold start at h2;rw[zo (by simpa using l),List.getElem?_map]at h2
   cases e:vs[i]? with
   |none=>rw[e]at h2;cases h2
   |some a=>rw[e]at h2;cases h2;rfl)
  have j:ps[i]?=some y:=by
   rwa [<-S.pre,List.getElem?_take_of_lt (by lia)]
  have t:ps.Nodup:=by rw[<-S.pre];exact S.nd.sublist<|List.take_sublist _ _
  refine⟨u,B,?_⟩;rcases S.To y (nj j) with k|k
  .exact .inl ⟨k,HW t j n k⟩
  obtain⟨c,e⟩:=VX k;refine .inr ⟨.inl k,c,e,?_⟩;have q:=x.cell y c e
  rwa [IW t j n (by show scope.names.lookup y≠_;rw[k];decide)]at q
 .exact d.Ia.fresh (Fo<|x.above y c<|Ol h)
 unfold start;show _=N.length;rw[Ef,Gb,List.length_replicate];lia
def kN{w:World}{K:PySem.W.Frag}{mg:jp}{k:Nat}{kV z:Value}{y:re}
  {L:pc} {sp:Sp} (lk:K.lookup f=some ⟨z,y,.func<|PySem.W.fnOf name qual params body scope dV kV doc pm an qc ct,L⟩) (I:PySem.W.codeIn K qc qual=true) (S:Wc N ps scope)
  (len:∀vs H Q E,sp vs H Q E->vs.length=ps.length)
  (p:∀(A:Around)(outer:AT)(s:Shared)(H:Hp)(vs:ss)(Q:VK)(E:XK),Bb k (A.deeper<|envOfC qual scope s.heap.objs.size f qc)->sp vs H Q E->
   ∃t,Te (qm CX P w K mg base N qual scope f qc A outer s H E) body t/\t {nx:=λ_ a=>Q .Hb a,rt:=Q} (start N vs) H) :
  Ja P w K mg base CX (k+1) f (PySem.W.fnOf name qual params body scope dV kV doc pm an qc ct) ps sp:=by
 refine⟨len,λA outer s H j M vs Q E hr e0 hb r hsp=>?_⟩
 have l:=e0.mod.tf.keeps λb o e=>(e0.bs b o e).1
 refine codeAny_call_function hr.depth (l _ _ lk) rfl S.co S.gen rfl (PySem.W.codeRec_of l I)<|hb _ _ _ _<|wpAny_newFunctionEnv_cells S.kind (λ⟨n,v⟩ B=>by
  rcases S.To n (VP B).1 with q|q
  .exact .inl q
  exact .inr ⟨q,P8 _ _ _<|.inl q⟩) λG F m x=>?_
 subst F;refine⟨(e0.mod.nolimit.keeps λb o e=>(e0.bs b o e).1).keeps x.toInCall.keep,codeAny_func ?_⟩
 obtain⟨t,C,D⟩:=p A outer s H vs Q E (hr.deeper _) hsp;refine oi (C [] m _ H _ (Ė S hr.hd e0 (len _ _ _ _ hsp) r x) D) (λfl h c=>?_) λe h c=>c
 have d:∀{g:St}{a:Hp}{v:V}{u:Value},ya (qm CX P w K mg base N qual scope f qc A outer s H E) [] g a h->RelV v u->Q v a->CE outer P w H s Q u h:=
  λ{g a v u} J i q=>⟨v,a,J.os,J.bare,J.base,J.Ia,i,q⟩
 cases fl with
 |ret u=>
  obtain⟨v,g,a,J,i,q⟩:=c;exact d J i q
 |next=>
  obtain⟨g,a,J,q⟩:=c;exact d (v:=V.Hb) J rfl q
 |brk=>
  obtain⟨_,_,_,q⟩:=c;exact False.elim q
 |cont=>
  obtain⟨_,_,_,q⟩:=c;exact False.elim q
section
variable{X:Cx}{x:Str}{p pos:Pos}{e:Expr}{es:List Expr}{t:TA}{id T:String}{r:IN}
def i_(r:IN)(t:TA):TE:=λa H Q=>t a H λb c=>r b c Q
def lZ(n:jY X (.builtin id) r)(m:Gl X x)(l:X.mg x=none)(j:bootBuiltins x=some (.builtin id))(o:PA X (e::es) t)(k:x≠"__name__":=by decide)(v:Ce x:=by decide)
  (he:vf e es X.env:=by rfl) (Vf:Aj pos es X.env:=by rfl):PE X (.Call (.Name x p) (e::es) [] pos) (i_ r t):=by
 intro b s a H Q I h;exact ar<|qO I m l j (PyProof.Rows.callWith_builtin1 (Lb (o pos b s a H _ I h) λd f ⟨c,u,q,g,i⟩=>n b f a u c d Q q g i) he Vf) k v
def qK(n:jY X (.type T) r)(m:Gl X x)(l:X.mg x=none)(j:bootBuiltins x=some (.type T))(o:PA X (e::es) t)(k:x≠"__name__":=by decide)(v:Ce x:=by decide)
  (he:vf e es X.env:=by rfl) (Vf:Aj pos es X.env:=by rfl):PE X (.Call (.Name x p) (e::es) [] pos) (i_ r t):=by
 intro b s a H Q I h;exact ar<|qO I m l j (Vq (Lb (o pos b s a H _ I h) λd f ⟨c,u,q,g,i⟩=>n b f a u c d Q q g i) he Vf) k v
end
end L2
namespace HT
open PySem PyProof.Rows
section
open PySem.SeqAt
open PySem.AutoSeq1 (wpAny_loadPart')
open PySem.MeetsSeq PySem.MeetsSeq2 PySem.MeetsSeq3
end
section
variable{prog:Program}{w:World}{A:Around}{E:am}{s:Shared}
noncomputable def We(n d:Nat):Option Int->Nat
 |none=>d
 |some v=>if v<0 then (v+(n:Int)).toNat else min v.toNat n
def Dh(n d:Nat):We n d none=d:=rfl
def Si(n d k:Nat):We n d (some (k:Int))=min k n:=by
 show (if (k:Int)<0 then ((k:Int)+(n:Int)).toNat else min (k:Int).toNat n)=min k n
 rw[Ea (by omega),bz]
end
end HT
namespace L2
open PySem PySem.Spec PyProof.Rows
abbrev TO:=St->Hp->(Option Int->Hp->Prop)->Prop
def PO(X:Cx)(e:Option Expr)(t:TO):Prop:=
 ∀(b:db) (s:Shared) (a:St) (H:Hp) (Q:Option Int->Hp->Prop),ya X b a H s->t a H Q->
  wpAny (model X.prog X.w) X.A (evalPart e X.env) (λu d=>∃o c,ya X b a c d/\IsPart u o/\Q o c) X.xe s
def bC1:TO:=λ_ H Q=>Q none H
def bJm(t:TE):TO:=λa H Q=>t a H λx b=>∃i,x=.int i/\Q (some i) b
section
variable{X:Cx}{e:Expr}{te:TE}{lo hi:Option Expr}{tl th:TO}{pos p2:Pos}
def F0:PO X none bC1:=by
 intro b s a H Q I h;exact Ga ⟨none,H,I,.none,h⟩
def G0(h:PE X e te):PO X (some e) (bJm te):=by
 intro f s a H Q I d;refine Lb (h f s a H _ I d) λu k ⟨x,j,g,b,c⟩=>?_
 obtain⟨i,rfl,q⟩:=c;obtain⟨t,rfl⟩:=b;exact⟨some i,j,g,.int i t,q⟩
def zq(X:Cx)(r:tz):Prop:=
 ∀(e:db) (s:Shared) (a:St) (H:Hp) (x:V) (v c b:Value) (lo hi:Ev) (d:Addr) (Q:VK),ya X e a H s->RelV x v->s.heap.IsSliceOf d c b .none->IsPart c lo->IsPart b hi->r x lo hi H Q->
  ∃T id,typeLookup (.type T) "__getitem__"=pure (some<|.builtin id)/\s.TypeIs v T/\wpAny (model X.prog X.w) X.A (getItem v<|.ref d) (EP X e a Q) X.xe s
def zq.or{r g:tz}(h:zq X r)(m:zq X g):zq X (λx lo a H Q=>r x lo a H Q\/g x lo a H Q):=by
 intro l s b H x v d c lo a e Q I f k j i q;rcases q with q|q
 .exact h l s b H x v d c lo a e Q I f k j i q
 exact m l s b H x v d c lo a e Q I f k j i q
def tSl(r:tz)(te:TE)(b c:TO):TE:=λa H Q=>te a H λx f=>b a f λl e=>c a e λu d=>r x l u d Q
def WX{r:tz}(z:zq X r)(he:PE X e te)(A:PO X lo tl)(w:PO X hi th):PE X (.Subscript e (.Slice lo hi none p2) pos) (tSl r te tl th):=by
 intro c s a H Q I h;refine Subscript_<|Lb (he c s a H _ I h) λv j ⟨x,K,F,k,o⟩=>?_
 refine wpAny_Slice<|Lb (A c j a K _ F o) λg i ⟨l,J,E,t,n⟩=>Lb (w c i a J _ E n) λf d ⟨u,G,D,p,m⟩=>Ga ?_
 obtain⟨T,id,C,y,B⟩:=z c {d with heap:=d.heap.push {cls:=.type "slice",data:=.fields #[g,f,.none]} } a G x v g f l u d.heap.objs.size Q (D.kept λb ob q=>bc _ q) k (Heap.IsSliceOf.new ..) t p m
 exact tail_any y C B (by with_unfolding_all rfl)
def bw(xs:ss)(lo a:Ev):ss:=(xs.drop<|HT.We xs.length 0 lo).take<|HT.We xs.length xs.length a-HT.We xs.length 0 lo
theorem Â(xs:ss)(lo a:Ev):(bw xs lo a).length<=xs.length:=by
 unfold bw;rw[Bw,List.length_drop];lia
def EB(K:PySem.W.Frag):tz:=λx lo hi H Q=>∃a b,x=.ref a/\ig K H a b/\
 ¬ (HT.We b.length 0 lo=0/\HT.We b.length b.length hi=b.length)/\∀p,H p=none->Q (.ref p) (Ra H p<|.tup<|bw b lo hi)
end
noncomputable def Yj(n:Nat)(i:Int):Option Nat:=if 0<=i then (if i<n then some i.toNat else none) else if -(n:Int)<=i then some (i+n).toNat else none
def Ee{a:Type}(xs:List a)(i:Int):Option a:=(Yj xs.length i).bind λj=>xs[j]?
theorem I0{n:Nat}(h:Yj n i=some j):seqIndex? i n=some j/\j<n/\-(n:Int)<=i/\i<n:=by
 unfold Yj at h
 by_cases b:0<=i
 .rw[Qa b]at h
  by_cases a:i<n
  .rw[Qa a]at h;exact⟨by rw[seqIndex_of b a,(Gi h)],by lia,by lia,a⟩
  rw[Ea a]at h;cases h
 rw[Ea b]at h
 by_cases a : -n<=i
 .rw[Qa a]at h;exact⟨by rw[seqIndex_neg (by lia) a,(Gi h)],by lia,a,by lia⟩
 rw[Ea a]at h;cases h
def TK{a:Type}{xs:List a}{v:a}(h:Ee xs i=some v):∃j,seqIndex? i xs.length=some j/\xs[j]?=some v/\j<xs.length/\-(xs.length:Int)<=i/\i<xs.length:=by
 unfold Ee at h;cases e:Yj xs.length i with
 |none=>rw[e]at h;cases h
 |some j=>
  rw[e]at h;obtain⟨f,d,c,b⟩:=I0 e;exact⟨j,f,h,d,c,b⟩
theorem fc{a:Type}{xs:List a}{j:Nat}{v:a}(h:xs[j]?=some v):Ee xs (j:Int)=some v:=by
 have b:=(gf.mp h).1;have e:Yj xs.length j=some j:=by
  unfold Yj;rw[Qa (by lia),Qa (by lia)];simp
 unfold Ee;rwa [e]
def UK(b:Expr):Prop:=∀o i,subscripted b false o i=operate [o,i] (getItem o i)
def bo(X:Cx)(r:R2):Prop:=
 ∀(b a:Expr) (d:db) (s:Shared) (c:St) (H:Hp) (x y:V) (v u:Value) (Q:VK),ya X d c H s->RelV x v->RelV y u->r x y H Q->
  subscripted a false v u=operate [v,u] (getItem v u)->wpAny (model X.prog X.w) X.A (subscriptTail b a v u) (EP X d c Q) X.xe s
def Yo(X:Cx)(id:String)(r:wE):Prop:=
 ∀(d:db) (s:Shared) (a:St) (H:Hp) (x:V) (b:ss) (v:Value) (c:cr) (Q:VK),ya X d a H s->RelV x v->Ca b c->r x b H Q->
  wpAny (model X.prog X.w) X.A (call (.builtin id)<|v::c) (EP X d a Q) X.xe s
section
variable{X:Cx}{a b:Expr}{ta tb:TE}{pos:Pos}
def bo.or(h:bo X r)(i:bo X r'):bo X (λx y H Q=>r x y H Q\/r' x y H Q):=by
 intro a b g s c H x y v u Q I e d q f;rcases q with q|q
 .exact h a b g s c H x y v u Q I e d q f
 exact i a b g s c H x y v u Q I e d q f
def nN(i:bo X r)(k:PE X a ta)(j:PE X b tb)(g:UK b):PE X (.Subscript a b pos) (wk r ta tb):=by
 intro l s c H Q I h;exact Subscript_<|FO k j I h λv u d x y n m f e q=>i a b l d c n x y v u Q m f e q<|g _ _
def G7(K:PySem.W.Frag):R2:=λx y H Q=>∃p a i v,x=.ref p/\y=.int i/\Pc K H p a/\Ee a i=some v/\Q v H
def J7(K:PySem.W.Frag):R2:=λx y H Q=>∃p a i v,x=.ref p/\y=.int i/\ig K H p a/\Ee a i=some v/\Q v H
def K7:R2:=λx y H Q=>∃z i c,x=.str z/\y=.int i/\z.length<=sizeLine/\Ee z.cps.toList i=some c/\Q (.str ⟨#[c]⟩) H
theorem bC2:bo X (G7 X.K):=by
 intro c d J s n H x y v u Q I A o h k;obtain⟨p,L,i,z,rfl,rfl,B,D,q⟩:=h;cases A;obtain⟨t,rfl⟩:=o;obtain⟨f,r,e,M⟩:=I.list B;obtain⟨j,b,G,O,F,E⟩:=TK D;obtain⟨w,m,K⟩:=r.get G;have C:=r.length;have N:=qv;have a:EP X J n Q w s:=⟨z,H,I,K,q⟩
 by_cases l:0<=i
 .have g:=by
   rw[seqIndex_of l E]at b;exact Gi b
  exact item_listR e.isList l (by lia) (by rw[g];simpa using m) a k
 have g:(i+f.toArray.size).toNat=j:=by
  rw[seqIndex_neg (by lia) F]at b
  rw[cg,<-C];exact Gi b
 exact subscriptTail_builtinR e.isList.typeIs slot_list_getitem.lookup
  (wpAny_getItem_list_neg e.isList (by lia) (by rw[cg] <;> lia) (by lia) (by rw[g];simpa using m) ⟨rfl,a⟩) k
theorem bGo:bo X (J7 X.K):=by
 intro a b K s A H x y v u Q I e d h g;obtain⟨p,B,i,z,rfl,rfl,k,l,q⟩:=h;cases e;obtain⟨t,rfl⟩:=d;obtain⟨f,r,c,C⟩:=I.tuple k;obtain⟨j,J,m,G,F,E⟩:=TK l;obtain⟨w,n,o⟩:=r.get m;have D:=qv;exact subscriptTail_builtinR c.typeIs slot_tuple_getitem.lookup
  (getItem_tuple c (by lia) (by lia) (by rwa [cg,<-(r.length)]) (by simpa using n) ⟨rfl,(⟨z,H,I,o,q⟩)⟩) g
theorem bGp:bo X K7:=by
 intro a b C s p H x y v u Q I f e h g;obtain⟨z,i,c,rfl,rfl,w,l,q⟩:=h;obtain⟨t,rfl⟩:=f;obtain⟨r,rfl⟩:=e;obtain⟨j,d,o,B,n,m⟩:=TK l;have k:z.cps.toList.length=z.length:=by simp[Str.length]
 rw[k]at d n m;have A:=qv;exact tail_any (typeIs_str s z t) slot_str_getitem.lookup (getItem_str (by
  rw[(Ed<|by lia),(Ed<|by lia),Bool.or_false]) (by rw[d];simpa using o) ⟨.str _,H,I.tok _,⟨_,rfl⟩,q⟩) g
def DB(K:PySem.W.Frag):R2:=λx y H Q=>G7 K x y H Q\/J7 K x y H Q\/K7 x y H Q
def eM:bo X (DB X.K):=bC2.or<|bGo.or bGp
def è(a:cr)(n j:Nat)(u:Value):Obj.mapSeq (·.setIfInBounds j u) {cls:=.type "list",data:=.seq a.toArray n}={cls:=.type "list",data:=.seq (a.set j u).toArray n}:=by
 simp[Obj.mapSeq]
theorem ya.lst(I:ya X aa σ H s)(h:H p=some (.lst xs)) :
  ∃(a:cr)(n:Nat),Ca xs a/\s.heap.get? p=some {cls:=.type "list",data:=.seq a.toArray n}/\xs.length<=sizeLine:=by
 obtain⟨z,a,n,r,e⟩:=I.Ia p _ h;exact⟨a,n,r,e,z⟩
def ya.Ju{a c:cr}{f:Obj->Obj}(I:ya X aa σ H s)(h:H p=some (.lst xs))
  (i:s.heap.get? p=some {cls:=.type "list",data:=.seq a.toArray n}) (d:f {cls:=.type "list",data:=.seq a.toArray n}={cls:=.type "list",data:=.seq c.toArray n'}) (r:Ca ys c) (g:ys.length<=sizeLine) (t:Nat) :
  ya X aa σ (Ra H p<|.lst ys) {s with heap:=s.heap.update p f,toks:=t}:=by
 have e:(s.heap.update p f).get? p=some {cls:=.type "list",data:=.seq c.toArray n'}:=by
  rw[Nl f i (by rw[d] <;> rfl),d]
 exact I.write (by rw[h];trivial) (.inl rfl) (λb u j q=>(Ml _ _<|bf j).trans q) ⟨_,e⟩<|⟨g,c,n',r,e⟩
def M6:V->V->V->Hp->(Hp->Prop)->Prop:=λo i v H Q=>∃p a k j,o=.ref p/\i=.int k/\H p=some (.lst a)/\Yj a.length k=some j/\Q (Ra H p<|.lst<|a.set j v)
theorem set_list:EO X M6:=by
 intro K s B H o i v D E u Q I w x m h;obtain⟨p,C,k,j,rfl,rfl,f,y,q⟩:=h;cases w;obtain⟨t,rfl⟩:=x;obtain⟨a,n,r,c,F⟩:=I.lst f;obtain⟨b,J,A,z⟩:=I0 y;have d:=r.length;have G:=qv;have l:=
  I.Ju f c (è a n j u) (r.set m j) (by rwa [zg]) s.toks
 by_cases g:0<=k
 .have e:=by
   rw[seqIndex_of g z]at b;exact Gi b
  exact PySem.W.ki_setAt c g (by lia) (by rwa [cg,<-d]) (by rw[e];exact⟨_,l,q⟩)
 have e:(k+a.toArray.size).toNat=j:=by
  rw[seqIndex_neg (by lia) A]at b
  rw[cg,<-d];exact Gi b
 exact PySem.W.ki_setBack c (by lia) (by rwa [cg,<-d]) (by lia) (by rw[e];exact⟨_,l,q⟩)
theorem Ϧ(lo a:Ev)(n:Nat):(sliceBounds lo a none n).1=((HT.We n 0 lo:Nat):Int)/\(sliceBounds lo a none n).2.1=((HT.We n n a:Nat):Int)/\(sliceBounds lo a none n).2.2=1:=by
 refine⟨?_,?_,rfl⟩
 .cases lo with
  |none=>simp[sliceBounds,HT.We]
  |some i=>
   simp only[sliceBounds,HT.We,Option.getD_none]
   by_cases h:i<0
   .simp only[h,if_true] <;> lia
   simp only[h,if_false] <;> lia
 cases a with
 |none=>simp[sliceBounds,HT.We]
 |some i=>
  simp only[sliceBounds,HT.We,Option.getD_none]
  by_cases h:i<0
  .simp only[h,if_true] <;> lia
  simp only[h,if_false] <;> lia
def ώ(a:cr)(lo b:Ev):slicePick a.toArray lo b none=((a.drop<|HT.We a.length 0 lo).take<|HT.We a.length a.length b-HT.We a.length 0 lo).toArray:=by
 obtain⟨e,d,c⟩:=Ϧ lo b a.toArray.size;unfold slicePick;rw[e,d,c];simp only[sliceRange_one,pick_run] <;> rfl
def bM4(K:PySem.W.Frag):tz:=λx lo c H Q=>∃a b,x=.ref a/\Pc K H a b/\∀p,H p=none->Q (.ref p) (Ra H p<|.lst<|bw b lo c)
theorem bC3:zq X (bM4 X.K):=by
 intro w s o H x v t p lo n u Q I f m i g h;obtain⟨a,e,rfl,l,q⟩:=h;cases f;obtain⟨j,r,c,k⟩:=I.list l;have d:=r.length;refine⟨"list",_,slot_list_getitem.lookup,c.isList.typeIs,(wpAny_getItem_list_slice c.isList m i g .none (by simp) ?_<|by rw[cg] <;> lia)⟩
 rw[ώ,<-d];refine⟨.ref s.heap.objs.size,_,I.laid (λb ob q=>bc _ q) (Ib _) ?_,rfl,q _<|I.Ia.fresh<|Ib _⟩
 exact⟨Yg (Â e lo n) k,_,0,(r.drop _).take _,we _ rfl⟩
theorem ϧ:jY X (.builtin "len") (λxs H Q=>∃p ys,xs=[.ref p]/\(Pc X.K H p ys\/ig X.K H p ys)/\Q (.int ys.length) H):=by
 intro l s i H xs j Q I r h;obtain⟨p,ys,rfl,a,q⟩:=h;obtain⟨u,rfl,f⟩:=vals1 r;cases f;have k:=qv;rcases a with a|a
 .obtain⟨e,c,d,g⟩:=I.list a;have b:=c.length;exact Calls.call_len_list d.isList (by simp only[List.size_toArray] <;> lia) ⟨.int ys.length,H,I.tok _,⟨s.toks+1,by rw[cg,b]⟩,q⟩
 obtain⟨e,c,d,g⟩:=I.tuple a;have b:=c.length;exact len_tuple d (by simp only[List.size_toArray] <;> lia) ⟨.int ys.length,H,I.tok _,⟨s.toks+1,by rw[cg,b]⟩,q⟩
theorem Ϩ:jY X (.builtin "len") (λxs H Q=>∃z,xs=[.str z]/\z.length<=sizeLine/\Q (.int z.length) H):=by
 intro e s a H xs b Q I r h;obtain⟨z,rfl,c,q⟩:=h;obtain⟨u,rfl,t,rfl⟩:=vals1 r;have d:=qv;exact len_str (by lia) ⟨.int z.length,H,I.tok _,⟨_,rfl⟩,q⟩
def jY.or{r d:IN}(h:jY X f r)(g:jY X f d):jY X f (λxs H Q=>r xs H Q\/d xs H Q):=by
 intro e s a H xs b Q I c q;rcases q with q|q
 .exact h e s a H xs b Q I c q
 exact g e s a H xs b Q I c q
def CU(K:PySem.W.Frag)(T:String)(x:V)(H:Hp):Prop:=match x with
 |.str _=>T="str"
 |.int _=>T="int"
 |.ref p=>(T="list"/\∃b,Pc K H p b)\/(T="tuple"/\∃o,K.lookup p=some o/\o.cls=.type "tuple"/\o.dict=none)\/
   (T="dict"/\((∃a,H p=some (.dK a))\/∃a,H p=some (.dT a)))\/(T="set"/\∃S n,H p=some (.set S n))
 |_=>False
def Q4(I:ya X aa σ H s)(r:RelV x v)(ty:CU X.K T x H) :
  s.TypeIs v T/\∀a,v=.ref a->∃ob,s.heap.get? a=some ob/\ob.dict=none:=by
 cases x with
 |str z=>
  obtain⟨t,rfl⟩:=r;cases (ty);exact⟨typeIs_str s z t,λ_ e=>nomatch e⟩
 |int i=>
  obtain⟨t,rfl⟩:=r;cases (ty);exact⟨typeIs_int s i t,λ_ e=>nomatch e⟩
 |ref p=>
  cases r;rcases ty with ⟨rfl,m,k⟩|⟨rfl,o,b,l,f⟩|⟨rfl,b⟩|⟨rfl,S,n,b⟩
  .obtain⟨h,_,g,_⟩:=I.list k;refine⟨g.isList.typeIs,λa e=>?_⟩
   cases e;obtain⟨o,n,e,c,f,_⟩:=g;exact⟨o,e,f⟩
  .refine⟨⟨o,I.Pg p o b,l⟩,λa e=>?_⟩
   cases e;exact⟨o,I.Pg _ o b,f⟩
  .have z:∃o,s.heap.get? p=some o/\o.ExactDict:=by
    rcases b with ⟨j,b⟩|⟨j,b⟩
    .obtain⟨_,_,_,_,o,_,_,e,d,_⟩:=I.Ia p _ b;exact⟨o,e,d⟩
    obtain⟨_,_,_,_,o,_,_,e,d,_⟩:=I.Ia p _ b;exact⟨o,e,d⟩
   obtain⟨o,e,d⟩:=z;refine⟨⟨o,e,d.1⟩,λa e2=>?_⟩
   cases e2;exact⟨o,e,d.2.1⟩
  obtain⟨o,_,_,_,e,d,_⟩:=I.Ia p _ b;refine⟨⟨o,e,d.1⟩,λa e2=>?_⟩
  cases e2;exact⟨o,e,d.2.1⟩
 |_=>exact False.elim ty
def bM5(K:PySem.W.Frag)(T:String)(r:wE)(c:TE):TE:=λb H Q=>c b H λx a=>CU K T x a/\r x [] a Q
def UT(K:PySem.W.Frag)(T:String)(r:wE)(d:TE)(t:TA):TE:=λa H Q=>d a H λx b=>CU K T x b/\t a b λc e=>r x c e Q
variable{o e:Expr}{es:List Expr}{to:TE}{t:TA}{name:Str}{Ob xb:Pos}{T id:String}{r:wE}
def kM(i:PlainAttrs T)(slot:Slot T name id)(p:typeOf (.builtin id)=pure (.type "method_descriptor"))(k:Yo X id r)(j:PE X o to)
  (n:Kj o name X.env:=by rfl) (e:jm Ob xb:=by rfl):PE X (.Call (.Attribute o name Ob) [] [] xb) (bM5 X.K T r to):=by
 intro c s a H Q I h;refine wpAny_Call_method0_late n e<|Lb (j c s a H _ I h) λv f ⟨x,q,d,b,ty,g⟩=>?_
 obtain⟨m,l⟩:=Q4 d b ty;exact⟨T,id,i,slot,p,m,l,Calls.callWith_builtin rfl<|PySem.evalArgs_none<|k c f a q x [] v [] Q d b .nil g⟩
def Kv(q:PlainAttrs T)(slot:Slot T name id)(E:typeOf (.builtin id)=pure (.type "method_descriptor"))(y:Yo X id r)(w:PE X o to)(z:PA X (e::es) t)
  (C:Kj o name X.env:=by rfl)
  (K:As xb (e::es) X.env:=by rfl)
  (j:jm Ob xb:=by rfl) (u:vf e es X.env:=by rfl) (D:Aj xb es X.env:=by rfl) :
  PE X (.Call (.Attribute o name Ob) (e::es) [] xb) (UT X.K T r to t):=by
 intro b s a H Q I h;refine wpAny_Call_method_late C K j rfl<|Lb (w b s a H _ I h) λv l ⟨x,J,f,c,ty,p⟩=>?_
 obtain⟨B,A⟩:=Q4 f c ty;refine⟨T,id,q,slot,E,B,A,?_⟩;have d:=z xb b l a J _ f p;rw[u]at d ⊢;exact Calls.callWith_builtin (by show (false||(backTo xb _).any (·.1))=false;rw[D] <;> rfl)<|Calls.evalArgs_plain<|Lb d λi k ⟨g,G,F,m,n⟩=>y b k a G x g v i Q F c m n
end
def QU(X:Cx)(id:String)(r:wE):Prop:=
 ∀(d:db) (s:Shared) (a:St) (H:Hp) (x:V) (b:ss) (v:Value) (c:cr) (Q:VK),ya X d a H s->RelV x v->Ca b c->r x b H Q->
  wpAny (model X.prog X.w) X.A (call (.builtin id)<|v::c) (EP X d a Q) X.xe s
def Ca.one:∀{x:V}{a:cr},Ca [x] a->∃u,a=[u]/\RelV x u
 |_,_,.cons r .nil=>⟨_,rfl,r⟩
def Ca.two:∀{x y:V}{a:cr},Ca [x,y] a->∃u v,a=[u,v]/\RelV x u/\RelV y v
 |_,_,_,.cons r (.cons q .nil)=>⟨_,_,rfl,r,q⟩
def Ca.zero:∀{a:cr},Ca [] a->a=[]
 |_,.nil=>rfl
section
variable{X:Cx}{aa:db}{σ:St}{H:Hp}{s:Shared}{l b:Addr}{xs ys zs:ss}
def ya.Yl{a b:cr}{f:Array Value->Array Value}{t':Nat}(I:ya X aa σ H s)(j:H l=some (.lst xs))
  (e:s.heap.get? l=some {cls:=.type "list",data:=.seq a.toArray n}) (h:f a.toArray=b.toArray) (d:Ca ys b) (c:ys.length<=sizeLine) :
  ya X aa σ (Ra H l<|.lst ys) {s with heap:=s.heap.update l<|Obj.mapSeq f,toks:=t'}:=by
 have q:=PySem.IsL.update e f;rw[h]at q;exact I.write (by rw[j];exact trivial) (.inl rfl) (λk u i g=>(Ml s.heap _<|bf i).trans g) ⟨_,q⟩<|⟨c,b,_,d,q⟩
def ya.Iu{t':Nat}(I:ya X aa σ H s)(b:Ca ys its)(a:ys.length<=sizeLine) :
  ya X aa σ (Ra H s.heap.objs.size<|.lst ys) {s with heap:=s.heap.push {cls:=.type "list",data:=.seq its.toArray},toks:=t'}:=
 I.laid (λ_ _ q=>bc _ q) (Ib _) ⟨a,its,0,b,we _ rfl⟩
theorem ya.fresh(I:ya X aa σ H s):H s.heap.objs.size=none:=I.Ia.fresh<|Ib _
def ya.yj(I:ya X aa σ H s)(b:H l=some (.lst xs)):xs.length<=sizeLine/\∃(a:cr)(n:Nat),Ca xs a/\xs.length=a.length/\s.heap.get? l=some {cls:=.type "list",data:=.seq a.toArray n}:=by
 obtain⟨z,a,n,r,e⟩:=I.Ia l _ b;exact⟨z,a,n,r,r.length,e⟩
theorem Š{n:Nat}(h:n<=sizeLine):Builtin.List.listTooLong n=false:=by
 exact Ed (by lia)
end
section
variable{X:Cx}
def bC4:wE:=λx b H Q=>∃l a y,x=.ref l/\b=[y]/\H l=some (.lst a)/\a.length<sizeLine/\Q .Hb (Ra H l<|.lst<|a++[y])
theorem ė:QU X "list.append" bC4:=by
 intro p s g H x j v k Q I c d h;obtain⟨l,i,y,rfl,rfl,b,m,q⟩:=h;cases c;obtain⟨u,rfl,f⟩:=d.one;obtain⟨z,a,n,r,o,e⟩:=I.yj b;refine uz lP ⟨_,e,rfl⟩ F.entry_list_append (I8 _ _) (PySem.list_append l a.toArray n u<|by rw[cg];lia) ⟨e,(⟨.Hb,_,I.Yl b e (by simp) (r.append<|.cons f .nil) ?_,rfl,q⟩)⟩
 rw[Ef,um];lia
def bC5:wE:=λx d H Q=>∃l b c a,x=.ref l/\d=[.ref b]/\H l=some (.lst c)/\H b=some (.lst a)/\c.length+a.length<=sizeLine/\Q .Hb (Ra H l<|.lst<|c++a)
theorem Ę:QU X "list.extend" bC5:=by
 intro G s p H x A v C Q I g i h;obtain⟨l,b,y,t,rfl,rfl,c,o,D,q⟩:=h;cases g;obtain⟨u,rfl,j⟩:=i.one;cases j;obtain⟨z,a,n,r,E,e⟩:=I.yj c;obtain⟨w,d,m,k,B,e2⟩:=I.yj o;have f:a.toArray.size+d.toArray.size<=sizeLine:=by rw[cg,cg];lia
 refine uz F.slot_list_extend ⟨_,e,rfl⟩ F.entry_list_extend (F.args_list_extend_2 _ _)
  (AutoSeq1.list_extend_list_list_0 l a.toArray n b d.toArray m (by
  rw[Š f,oz];exact Qh) (by lia)<|by lia) ⟨e,e2,(⟨.Hb,_,I.Yl c e (by simp) (r.append k) ?_,rfl,q⟩)⟩
 rw[Ef];lia
end
end L2
namespace Att
open PySem PySem.W PySem.Calls PyProof.Rows
def ν:∀(c:lw)(vs:cr),WellAll P h vs (c.map WData.int)->IntsAre vs c:=by
 intro c
 induction c with
 |nil=>
  intro vs w;cases w;exact .nil
 |cons n c d=>
  intro vs w;cases w with
  |cons a b=>
   cases a;exact .cons _ _<|d _ b
theorem ę{l:OpenLaw}(m:l.most=some n){P:Params}{h:Heap}{b:List WData}{c:cr}
  (g:l.row.toRowW.claim.pre b=true) (u:WellAll P h c b) :
  ∃a vs e,c=[Value.ref a]/\b=[WData.list<|e.map WData.int]/\h.get? a=some {cls:=.type "list",data:=.seq vs.toArray}/\IntsAre vs e/\e.length<=n:=by
 obtain⟨d,r,rfl,t,s⟩:=hasAllW_cons<|(pre_splitW g).1;obtain rfl:=hasAllW_nil s;obtain⟨w,rfl,p⟩:=hasW_list t;obtain⟨e,rfl⟩:=items_int p;cases u with
 |cons j i=>
  cases i;cases j with
  |list k v=>exact⟨_,_,e,rfl,rfl,k,ν e _ v,(by
  have f:=condW_of (by
   have o:=(holds_andW<|(pre_splitW g).2).1
   rwa [m]at o) (w_not<|w_lt w_lit<|w_len_list<|w_arg rfl)
  rw[Gb]at f;refine Nat.le_of_not_lt λq=>?_
  first
   |(exact absurd f rfl)
   |(lia))⟩
def Ě(l:OpenLaw)(a:List WData):l.row.toRowW.claim.post a (.bool true) a=true:=
 postW_of
  ((by first|rfl|decide|simp))
  ((w_eq_bool (w_res rfl) w_lit)) rfl
def lj{l:OpenLaw}{z:(jp)->Heap->Prop}{y:Os}{d:DefRec}
  (F:l.most=some n) (O:d.params.defaults=[])
  (call:∀(w:World)(s b:Shared)(mg m:jp)(g:Addr)(o:Obj)(k j e:Value)(a:Addr)(vs:cr)(i:lw),
   Ground q loose [] z w s mg m b.heap->y w b.heap->
   b.heap.get? g=some o->o.data=.func (docDef d.name d.params d.body d.scope k j e)->b.heap.CodeRec j d.name->mg d.name=some (.ref g)->
   b.heap.get? a=some {cls:=.type "list",data:=.seq vs.toArray}->IntsAre vs i->i.length<=n->b.gens = #[]->
   codeAny (model l.prog w) callerA (.call (.ref g) ⟨[.ref a],[]⟩) (λr h=>r=.ok (.ret<|.bool true)/\OldK b.heap h.heap/\h.os=b.os/\AllBare h.gens) b) :
  WalkO q loose z y l.row.toRowW d [] (λf vs=>PySem.call f vs):=by
 intro w s b mg m G Y g o k j e N kV E J Q v p I x t T R u C P S;obtain rfl:N=.none:=Dflts.none v O;obtain rfl:kV=.none:=Dflts.noKw v;obtain⟨a,vs,i,rfl,rfl,B,c,A⟩:=ę F R P;refine enter_call<|Um (call w s b mg m g o k j e a vs i G Y E (fd_plain J) Q p B c A I) λr h D=>?_
 obtain⟨rfl,M,L,K⟩:=D;exact⟨.inl ⟨.bool true,.bool true,[],rfl,λ_=>rfl,.bool true,Ě l _,λ_=>⟨List.Pairwise.nil,λ_ H=>(nomatch H)⟩⟩,M,L,K⟩
end Att
namespace L2
open PySem PySem.Spec PyProof.Rows
theorem Vc:∀{vs:cr}{a:lw},IntsAre vs a->Ca (a.map V.int) vs
 |_,_,.nil=>.nil
 |_,_,.cons n t h=>.cons ⟨t,rfl⟩<|Vc h
def Es(H:Hp):Prop:=∀b,H b=none\/∃o a,H b=some (.fg o<|.lst a)
def š{w:World}{K:PySem.W.Frag}{mg B:jp}{k:Nat}{x:Str}{c:Shared}{vs:cr}
  (Q:K.In c.heap) (O:c.heap.Ns mainGlobals mg) (f:c.heap.Ns builtinsNs B) (E:∀x:Str,x≠"__name__"->B x=bootBuiltins x) (NR:c.heap.NoLimit) (Y:c.gens = #[])
  (p:c.heap.get? a=some {cls:=.type "list",data:=.seq vs.toArray}) (L:IntsAre vs ns) (hl:ns.length<=sizeLine) (X:Bb k callerA)
  (F:∀base:Heap,K.In base->base.Ns mainGlobals mg->Ja P w K mg base CX k fa fd [x] sp) (Wz:∀(s:Shared)(u:Value),BindsTo s fd ⟨[u],[]⟩ [(x,u)])
  (C:∀H:Hp,Es H->Pc K H a (ns.map V.int)->sp [.ref a] H (λv _=>v=.bl true) λ_ _ _=>False)
  (T:∀H e g,CX [] H c (λ_ _ _=>False) e g->False) :
  codeAny (model P w) callerA (.call (.ref fa) ⟨[.ref a],[]⟩) (λr g=>r=.ok (.ret<|.bool true)/\OldK c.heap g.heap/\g.os=c.os/\AllBare g.gens) c:=by
 have I:=Vc L;have j:∀H:Hp,Es H->Pc K H a (ns.map V.int)->de P w H c.heap->(∀b,H b≠none->b=a)->(H a≠none->K.lookup a=none)->
   codeAny (model P w) callerA (.call (.ref fa) ⟨[.ref a],[]⟩) (λr g=>r=.ok (.ret<|.bool true)/\OldK c.heap g.heap/\g.os=c.os/\AllBare g.gens) c:=by
  intro H M Z R N hK;have S:∀{b:Addr}{o:Obj},c.heap.get? b=some o->H b=none->(Zv c.heap H).get? b=some o:=λe n=>Ř e n
  have A:∀{b:Addr}{o:Obj}{t:Array DictEntry}{y:Nat},c.heap.get? b=some o->o.data=.dict t y->H b=none:=λ{b o t y} e d=>by
   cases q:H b with
   |none=>rfl
   |some u=>
    have G:=N b (by rw[q];simp)
    subst G;rw[p]at e;cases e;cases d
  have i:∀{b:Addr}{m:jp},c.heap.Ns b m->(Zv c.heap H).Ns b m:=λ{b m} ⟨o,t,y,e,d,r⟩=>⟨o,t,y,S e<|A e d,d,r⟩
  have J:=λb o e=>S (Q b o e) (by
   cases q:H b with
   |none=>rfl
   |some u=>
    have G:=N b (by rw[q];simp)
    subst G;rw[hK (by rw[q];simp)]at e;cases e)
  refine Um ((F _ J<|i O).run callerA [] c H _ [.ref a] [.ref a] _ _ X (⟨rfl,(⟨J,i O,⟨B,i f,E⟩,let ⟨W,h1,h2⟩:=NR;⟨W,i h1,h2⟩⟩),λb o e=>bBo e,Sm<|Ď _ _,trivial,λb f=>absurd (show b∈([]) from f) (by simp),R,.of_eq Y⟩) (Wz c<|.ref a) (.cons rfl .nil)<|C H M Z) λr g h=>?_
  cases r with
  |error e=>exact(T H e g h).elim
  |ok fl=>
   cases fl with
   |next=>exact False.elim h
   |brk=>exact False.elim h
   |cont=>exact False.elim h
   |ret u=>
    obtain⟨v,H',os,l,un,XR,U,q⟩:=h;subst q;obtain rfl:u=Value.bool true:=U;refine⟨rfl,OldK.of_keep λb o e=>?_,os,l⟩
    cases q:H b with
    |none=>exact un.keep b o e q (by intro z;exact absurd (show b∈([]) from z)<|by simp) (by simp)
    |some u=>
     rcases M b with z|⟨ob,xs,z⟩
     .rw[q]at z;cases z
     obtain⟨e1,_⟩:=R b _ z;obtain⟨e2,_⟩:=XR b _<|un.Df b ob _ z;rw[e]at e1;cases e1;exact e2
 cases D:K.lookup a with
 |some o=>
  have e:=Q a o D;rw[p]at e;cases e;refine j _ (λ_=>.inl rfl) (.inr ⟨_,vs.toArray,_,D,rfl,rfl,rfl,by rwa [cg,(L.length)],by simpa using I⟩) (λb u z=>by cases z) (λb z=>absurd rfl z) λz=>absurd rfl z
 |none=>
  refine j (λb=>if b=a then some _ else none) (λb=>?_) (.inl<|.inr ⟨{cls:=.type "list",data:=.seq vs.toArray},Qa rfl⟩) (λb u z=>?_) (λb z=>?_) λ_=>D
  .by_cases f:b=a
   .exact .inr ⟨_,_,Qa f⟩
   exact .inl<|Ea f
  .by_cases f:b=a
   .cases ((Qa f).symm.trans z);subst f;exact⟨p,by rwa [Gb],vs,_,I,p⟩
   cases ((Ea f).symm.trans z)
  by_cases f:b=a
  .exact f
  exact absurd (Ea f) z
def tq{l:PySem.W.OpenLaw}{k:Nat}{Q:(jp)->Heap->Prop}{t:Os}{d:DefRec}{K:Params->PySem.W.Frag}{CX:World->vq}{sp:World->Sp}{x:Str}
  (D:l.most=some n) (R:n<=sizeLine) (P:d.params.defaults=[]) (C:Bb k callerA)
  (J:∀(w:World)(h:Heap),t w h->(K w.params).In h)
  (F:∀(w:World)(mg:jp)(g:Addr)(h:Heap),(K w.params).In h->h.Ns mainGlobals mg->mg d.name=some (.ref g)->
   ∃p:FuncData,(∀(s:Shared)(u:Value),BindsTo s p ⟨[u],[]⟩ [(x,u)])/\
    ∀base:Heap,(K w.params).In base->base.Ns mainGlobals mg->Ja l.prog w (K w.params) mg base (CX w) k g p [x] (sp w))
  (j:∀(w:World)(H:Hp)(a:Addr)(c:lw),c.length<=n->Es H->Pc (K w.params) H a (c.map V.int)->sp w [.ref a] H (λv _=>v=.bl true) λ_ _ _=>False)
  (A:∀(w:World)(H:Hp)(s:Shared)(e:Value)(i:Shared),CX w [] H s (λ_ _ _=>False) e i->False) :
  PySem.W.WalkO q loose Q t l.row.toRowW d [] (λf vs=>PySem.call f vs):=by
 refine Att.lj D P λw Ba B mg T g o S X O a vs c G Y U W Z m z b r E=>?_
 have y:=J w _ Y;obtain⟨p,I,N⟩:=F w mg g _ y G.T.g m;exact š y G.T.g G.T.b G.T.builtins G.T.nolimit E z b (Yg r R) C N I (λH M L=>j w H a c r M L) λH e i=>A w H B e i
def dY(s:Stmt):Arguments:=match s with
 |.FunctionDef _ a _ _ _ _ _ _ _ _=>a
 |_=>{posonlyargs:=[],args:=[],vararg:=none,kwonlyargs:=[],kw_defaults:=[],kwarg:=none,defaults:=[]}
def cX(s:Stmt):List Stmt:=match s with
 |.FunctionDef _ _ b _ _ _ _ _ _ _=>b
 |_=>[]
def bD(s:Stmt):Scope:=match s with
 |.FunctionDef _ _ _ _ _ _ a _ _ _=>a
 |_=>{kind:=.function,names:=[],isGenerator:=false,isCoroutine:=false}
abbrev gc:vq:=λ_ _ _ _ _ _=>False
abbrev E0:XK:=λ_ _ _=>False
def RE{X:Cx}:sv gc X E0:=λ_ _ _ _ _ _ _ h=>h.elim
structure wq(K:PySem.W.Frag)(x qual:Str)(st:Stmt)(f:Addr)(fd:FuncData):Prop where
 ex:∃(oc:Value)(od:re)(kV doc pm:Value)(an:re)(qc ct:Value) (Oi:pc),
  fd=PySem.W.fnOf x qual (dY st) (cX st) (bD st) .none kV doc pm an qc ct/\K.lookup f=some ⟨oc,od,.func fd,Oi⟩/\PySem.W.codeIn K qc qual=true
 kp:PySem.W.keepIn K (.ref f)=true
section
variable{P:Program}{w:World}{K:PySem.W.Frag}{mg:jp}{base:Heap}
def wq.ok{st:Stmt}{k:Nat}{sp:Sp}(F:wq K x qual st f fd)(S:Wc N ps (bD st))(len:∀vs H Q E,sp vs H Q E->vs.length=ps.length)
  (d:∀(b:Value)(A:Around)(a:AT)(s:Shared)(H:Hp)(vs:ss)(Q:VK)(E:XK),Bb k (A.deeper<|envOfC qual (bD st) s.heap.objs.size f b)->sp vs H Q E->
   ∃t,Te (qm gc P w K mg base N qual (bD st) f b A a s H E).si (cX st) t/\t {nx:=λ_ j=>Q .Hb j,rt:=Q} (start N vs) H):Ja P w K mg base gc (k+1) f fd ps sp:=by
 obtain⟨n,m,kV,g,l,p,b,o,r,rfl,lk,i⟩:=F.ex;refine kN lk i S len λA a s H vs Q E e c=>?_
 obtain⟨t,h,q⟩:=d b A a s H vs Q E e c;exact⟨t,h.si,q⟩
def wq.binds{st:Stmt}{ps:wP}(F:wq K x qual st f fd)
  (h:∀(kV a d:Value)(g:re)(c e:Value)(b:cr),b.length=ps.length->bindArgs (PySem.W.fnOf x qual (dY st) (cX st) (bD st) .none kV a d g c e) ⟨b,[]⟩=pure (ps.zip b)):Binds K fd ps []:=by
 obtain⟨j,i,kV,a,d,g,c,e,l,rfl,lk,k⟩:=F.ex;exact .all<|h kV a d g c e
def R4{st:Stmt}{b:Value}{a:re}{d:pc}{kV:Value}(l:K.lookup f=some ⟨b,a,.func<|PySem.W.fnOf x qual (dY st) (cX st) (bD st) .none kV doc pm an qc ct,d⟩)
  (c:PySem.W.codeIn K qc qual=true) (k:PySem.W.keepIn K (.ref f)=true):wq K x qual st f (PySem.W.fnOf x qual (dY st) (cX st) (bD st) .none kV doc pm an qc ct):=⟨⟨b,a,kV,doc,pm,an,qc,ct,d,rfl,l,c⟩,k⟩
end
section
variable{X:Cx}
def pv(i:Nat){x:Str}{a:Pos}(d:X.N[i]?=some x:=by rfl)(b:Eh X.env.scope x:=by exact Zi rfl)(c:Ce x:=by decide)
  (e:Yi x:=by decide):PE X (.Name x a) (lJ i):=kE d b c e
end
def aX(H a:Hp):Prop:=∀b o,H b=some o->a b=some o
def aX.refl(H:Hp):aX H H:=λ_ _ h=>h
def aX.trans(a:aX H H1)(b:aX H1 H2):aX H H2:=λc o h=>b c o<|a c o h
def aX.free(e:aX H H'){l:Addr}(h:H' l=Option.none):H l=Option.none:=by
 cases q:H l with
 |none=>rfl
 |some o=>
  rw[e l o q]at h;cases h
def aX.seq{K:PySem.W.Frag}(e:aX H H')(h:Pc K H a xs):Pc K H' a xs:=by
 rcases h with (h|⟨o,h⟩)|h
 .exact .inl (.inl<|e _ _ h)
 .exact .inl (.inr ⟨o,e _ _ h⟩)
 exact .inr h
section
variable{κ:Type}[DecidableEq κ]
noncomputable def lY(b:List (κ×V))(k:κ):Option V:=(b.find? λa=>decide (a.1=k)).map (·.2)
noncomputable def Oe(b:List (κ×V))(k:κ)(v:V):List (κ×V):=
 if (b.any λa=>decide (a.1=k))=true then b.map (λa=>if a.1=k then (a.1,v) else a) else b++[(k,v)]
def N6(b:List (κ×V))(k:κ):List (κ×V):=b.filter λa=>decide (a.1≠k)
def mC{p:κ×V}{r:List (κ×V)}{k:κ}(e:p.1=k):lY (p::r) k=some p.2:=by simp[lY,e]
def kJ{p:κ×V}{r:List (κ×V)}{k:κ}(e:¬ p.1=k):lY (p::r) k=lY r k:=by simp[lY,e]
theorem UJ(k:κ):∀a:List (κ×V),(a.any λb=>decide (b.1=k))=(lY a k).isSome
 |[]=>rfl
 |p::r=>by
  rw[Wt]
  by_cases e:p.1=k
  .simp[mC e,decide_eq_true e]
  rw[kJ e,Ed e];exact UJ k r
theorem xF(a:List (κ×V))(k:κ)(v:V):(Oe a k v).length<=a.length+1:=by
 unfold Oe;split
 .rw[Gb];lia
 rw[Ef,dg,ZP];lia
def wU.Be(r:wU o u):o.isSome=u.isSome:=by
 cases o with
 |none=>cases u with
  |none=>rfl
  |some _=>exact(r).elim
 |some _=>cases u with
  |none=>exact(r).elim
  |some _=>rfl
theorem wU.getD(r:wU o u)(a:RelV d d'):RelV (o.getD d) (u.getD d'):=by
 cases o with
 |none=>cases u with
  |none=>exact a
  |some _=>exact(r).elim
 |some _=>cases u with
  |none=>exact(r).elim
  |some _=>exact r
def KV.val(r:KV ia vs)(k:κ):wU (lY ia k) (valueAt vs k):=by
 induction r with
 |nil=>exact True.intro
 |@cons p q f a h t g=>
  obtain⟨c,i⟩:=h
  by_cases e:p.1=k
  .have b:valueAt (q::a) k=some q.2:=by simp[valueAt,List.find?_cons,(c.symm.trans e)]
   rwa [mC e,b]
  have d:¬ q.1=k:=λz=>e<|c.trans z
  have b:valueAt (q::a) k=valueAt a k:=by simp[valueAt,d]
  rwa [kJ e,b]
theorem KV.any(r:KV ia vs)(k:κ):(ia.any λa=>decide (a.1=k))=vs.any λa=>decide (a.1=k):=by
 induction r with
 |nil=>rfl
 |cons h t b=>rw[Wt,Wt,b,h.1]
def KV.Mu(r:KV ia vs)(k:κ){y:V}{u:Value}(c:RelV y u) :
  KV (ia.map λa=>if a.1=k then (a.1,y) else a) (vs.map λa=>if a.1=k then (a.1,u) else a):=by
 induction r with
 |nil=>exact .nil
 |@cons p q i g h t d=>
  rw[Ue,Ue];refine .cons ?_ d;obtain⟨b,f⟩:=h
  by_cases e:p.1=k
  .rw[Qa e,Qa<|b.symm.trans e];exact⟨b,c⟩
  rw[Ea e,Ea<|λz=>e<|b.trans z];exact⟨b,f⟩
def KV.put(r:KV ia vs)(k:κ){y:V}{u:Value}(a:RelV y u):KV (Oe ia k y) (stored vs k u):=by
 unfold Oe stored;rw[r.any k]
 by_cases e:(vs.any λb=>decide (b.1=k))=true
 .rw[Qa e,Qa e];exact r.Mu k a
 rw[Ea e,Ea e];exact Paired.snoc r ⟨rfl,a⟩
def KV.drop(r:KV ia vs)(k:κ):KV (N6 ia k) (without vs k):=by
 unfold KV at r ⊢;unfold N6 without
 induction r with
 |nil=>exact .nil
 |@cons p q j i h t d=>
  obtain⟨c,f⟩:=h;rw[List.filter_cons,List.filter_cons]
  by_cases e:p.1=k
  .have a:¬ decide (p.1≠k)=true:=by simp[e]
   have b:¬ decide (q.1≠k)=true:=by simp[c.symm.trans e]
   rw[Ea a,Ea b];exact d
  .have g:¬ q.1=k:=λz=>e (c.trans z)
   have a:decide (p.1≠k)=true:=by simp[e]
   have b:decide (q.1≠k)=true:=by simp[g]
   rw[Qa a,Qa b];exact .cons ⟨c,f⟩ d
theorem KV.length(r:KV ia vs):ia.length=vs.length:=Paired.length r
end
def Lv{w:World}{k:Key}(r:RelV (kV k) u):(gW P w).is k u=true:=by
 cases k with
 |inl i=>obtain⟨t,e⟩:=(r);subst e;exact À P w i t
 |inr x=>obtain⟨t,e⟩:=(r);subst e;exact Á P w x t
theorem JW{w:World}:∀{a:FM}{b:cr},Ca (a.map kV) b->ItemsAre (gW P w) a b
 |[],_,r=>by cases r;exact .nil
 |k::a,_,r=>by
  cases r with
  |cons h t=>exact .cons (Lv h)<|JW t
abbrev KT(H:Hp):List (List Key×V)->List (List Key×Addr×Value)->Prop:=Paired λp q=>p.1=q.1/\H q.2.1=some (.tup<|p.1.map kV)/\RelV p.2 q.2.2
def KT.val(r:KT H ia xs)(k:FM):wU (lY ia k) ((atKey xs k).map (·.2)):=by
 induction r with
 |nil=>exact True.intro
 |@cons p q f a h t g=>
  obtain⟨c,_,i⟩:=h
  by_cases e:p.1=k
  .have b:atKey (q::a) k=some q.2:=by simp[atKey,List.find?_cons,(c.symm.trans e)]
   rwa [mC e,b]
  have d:¬ q.1=k:=λz=>e<|c.trans z
  have b:atKey (q::a) k=atKey a k:=by simp[atKey,d]
  rwa [kJ e,b]
def KT.Mu(r:KT H ia xs)(k:FM){y:V}{u:Value}(d:RelV y u) :
  KT H (ia.map λb=>if b.1=k then (b.1,y) else b) (xs.map<|putAt k u):=by
 induction r with
 |nil=>exact .nil
 |@cons p q j i h t f=>
  rw[Ue];refine .cons ?_ f;obtain⟨a,c,g⟩:=h;unfold putAt
  by_cases e:p.1=k
  .rw[Qa e,Qa<|a.symm.trans e];exact⟨a,c,d⟩
  rw[Ea e,Ea<|λz=>e<|a.trans z];exact⟨a,c,g⟩
def KT.put(r:KT H ia xs)(k:FM){b:Addr}{y:V}{u:Value}(d:H b=some (.tup<|k.map kV))(a:RelV y u) :
  KT H (Oe ia k y) (storedH xs k b u):=by
 have e:(ia.any λc=>decide (c.1=k))=(atKey xs k).isSome:=by
  rw[UJ,(r.val k).Be,IP]
 unfold Oe storedH;rw[e]
 by_cases q:(atKey xs k).isSome=true
 .rw[Qa q,Qa q];exact r.Mu k a
 rw[Ea q,Ea q];exact Paired.snoc r ⟨rfl,d,a⟩
def KT.keeps{a:Hp}(r:KT H ia xs)(c:∀b ys,H b=some (.tup ys)->a b=some (.tup ys)):KT a ia xs:=
 Paired.dq r λ_ _ z=>⟨z.1,c _ _ z.2.1,z.2.2⟩
section
variable{P:Program}{w:World}{H:Hp}{h:Heap}{a:Addr}
def O6(ok:de P w H h)(e:Rd H a u):jF P w H h a u:=e.ok ok
def Mv(ok:de P w H h)(e:Rd H a (.dK ia)):ia.length<=sizeLine/\(a==sysModules)=false/\∃vs,KV ia vs/\h.DictOf (gW P w) a vs:=
 (O6 ok e)
def oy(ok:de P w H h)(e:H a=some (.dK ia)):ia.length<=sizeLine/\(a==sysModules)=false/\∃vs,KV ia vs/\h.DictOf (gW P w) a vs:=Mv ok<|.inl e
def uv{c:FM}(ok:de P w H h)(e:H a=some (.tup<|c.map kV)):(tupleKind<|gW P w).is h c a:=by
 obtain⟨_,b,r,o,g,f,n,d⟩:=((ok a _ e));exact⟨o,b.toArray,n,g,f,d,by simpa using JW r⟩
def qy(ok:de P w H h)(e:Rd H a (.dT ia)):ia.length<=sizeLine/\(a==sysModules)=false/\
  ∃xs,KT H ia xs/\h.DictOfH (tupleKind<|gW P w) a xs:=by
 obtain⟨z,y,xs,r,o,n,s,k,j,i,g,f⟩:=((O6 ok e));refine⟨z,y,xs,r,o,n,s,k,j,i,g,λx b=>?_,f⟩
 have all:∀{l:List _}{m:List _},KT H l m->∀x∈m,(tupleKind<|gW P w).is h x.1 x.2.1:=by
  intro l m q
  induction q with
  |nil=>intro x b;exact nomatch b
  |@cons p q v u c t d=>
   intro x b;rcases Mb.mp b with e|b
   .subst e;exact uv ok (by rw[<-c.1];exact c.2.1)
   exact d x b
 exact all r x b
def P6(ok:de P w H h)(e:H a=some (.dT ia)):ia.length<=sizeLine/\(a==sysModules)=false/\
  ∃xs,KT H ia xs/\h.DictOfH (tupleKind<|gW P w) a xs:=qy ok<|.inl e
end
def zO(H:Hp)(a:Addr)(y:V)(r:Option V):Prop:=
 (∃c k,Rd H a (.dK c)/\y=kV k/\r=lY c k)\/∃c k b,Rd H a (.dT c)/\y=.ref b/\H b=some (.tup<|k.map kV)/\r=lY c k
def qp(H:Hp)(a:Addr)(y v:V)(d:Hp):Prop:=
 (∃c k,H a=some (.dK c)/\y=kV k/\c.length<sizeLine/\d=Ra H a (.dK<|Oe c k v))\/
 ∃c k b,H a=some (.dT c)/\y=.ref b/\H b=some (.tup<|k.map kV)/\c.length<sizeLine/\d=Ra H a (.dT<|Oe c k v)
theorem zO.k{H:Hp}{k:Key}(e:H a=some (.dK ia)):zO H a (kV k) (lY ia k):=.inl ⟨ia,k,.inl e,rfl,rfl⟩
def zO.t{H:Hp}{k:FM}(e:H a=some (.dT ia))(c:H b=some (.tup<|k.map kV)):zO H a (.ref b) (lY ia k):=.inr ⟨ia,k,b,.inl e,rfl,c,rfl⟩
theorem qp.k{H:Hp}{k:Key}(e:H a=some (.dK ia))(b:ia.length<sizeLine):qp H a (kV k) v (Ra H a<|.dK<|Oe ia k v):=.inl ⟨ia,k,e,rfl,b,rfl⟩
def qp.t{H:Hp}{k:FM}(e:H a=some (.dT ia))(d:H b=some (.tup<|k.map kV))(c:ia.length<sizeLine) :
  qp H a (.ref b) v (Ra H a<|.dT<|Oe ia k v):=.inr ⟨ia,k,b,e,rfl,d,c,rfl⟩
section
variable{X:Cx}{aa:db}{σ:St}{H:Hp}{s:Shared}{a:Addr}{y v:V}{u r:Value}{o:Option V}{A:Around}{E:am}
def ya.big(I:ya X aa σ H s):sysModules<s.heap.objs.size:=by
 exact Rt (by decide)<|(I.mod.glob.keeps I.bk).lt
def KW{Q:am}(t:A.units+1<cLine)(I:ya X aa σ H s)(g:zO H a y (some v))(q:RelV y u)(h:∀d o,ya X aa σ H o->RelV v d->Q d o) :
  wpAny (model X.prog X.w) A (getItem (.ref a) u) Q E s:=by
 rcases g with ⟨r,k,e,j,l⟩|⟨r,k,b,e,j,B,l⟩
 .subst j;obtain⟨z,x,D,c,m⟩:=Mv I.Ia e;obtain⟨d,f,n⟩:=wU.some_of (by rw[l];exact c.val k)
  exact wpAny_getItem_of (Lv q) m.mapOf f<|h d _ (I.tok _) n
 subst j;cases (q);obtain⟨z,x,C,c,m⟩:=qy I.Ia e;obtain⟨d,f,n⟩:=wU.some_of (by rw[l];exact c.val k)
 obtain⟨p,w,i⟩:=Option.map_eq_some_iff.mp f;refine wpAny_getItem_heap (OG t) (uv I.Ia B) m w ?_
 rw[i];exact h d _ (I.tok _) n
def L7{Q:am}(p:A.units+1<cLine)(I:ya X aa σ H s)(g:zO H a y o)(m:RelV y u)(h:∀j,ya X aa σ H j->Q (.bool o.isSome) j) :
  wpAny (model X.prog X.w) A (compareOp .In u<|.ref a) Q E s:=by
 rcases g with ⟨n,k,e,f,l⟩|⟨n,k,b,e,f,r,l⟩
 .subst f;obtain⟨z,d,v,c,i⟩:=Mv I.Ia e;refine wpAny_in_of (Lv m) d i.mapOf ?_
  rw[<-(c.val k).Be,<-l];exact h _<|I.tok _
 subst f;cases (m);obtain⟨z,d,t,c,i⟩:=qy I.Ia e;refine wpAny_in_heap (OG p) (uv I.Ia r) d i ?_
 have q:=(c.val k).Be;rw[IP]at q;rw[<-q,<-l];exact h _<|I.tok _
def bC6{Q:am}(p:A.units+1<cLine)(I:ya X aa σ H s)(g:zO H a y o)(m:RelV y u)(h:∀j,ya X aa σ H j->Q (.bool<|!o.isSome) j) :
  wpAny (model X.prog X.w) A (compareOp .NotIn u<|.ref a) Q E s:=by
 rcases g with ⟨n,k,e,f,l⟩|⟨n,k,b,e,f,r,l⟩
 .subst f;obtain⟨z,d,v,c,i⟩:=Mv I.Ia e;refine wpAny_notIn_of (Lv m) d i.mapOf ?_
  rw[<-(c.val k).Be,<-l];exact h _<|I.tok _
 subst f;cases (m);obtain⟨z,d,t,c,i⟩:=qy I.Ia e;refine wpAny_notIn_heap (OG p) (uv I.Ia r) d i ?_
 have q:=(c.val k).Be;rw[IP]at q;rw[<-q,<-l];exact h _<|I.tok _
def BD{t':Nat}{ob:HO}(I:ya X aa σ H s)(c:Bj (H a))(d:Heap.SameBut a s.heap h')(he:∃q,h'.get? a=some q)(new:jF X.prog X.w (Ra H a ob) h' a ob) :
  ya X aa σ (Ra H a ob) {s with heap:=h',toks:=t'}:=
 I.write c (.inl rfl) (λb q e z=>(d.2 b e).trans z) he new
def S4{w:World}{d:Heap}{c:sK}(z:c.length<=sizeLine)(e:(a==sysModules)=false)(b:KV c vs)(dd:d.DictOf (gW P w) a vs) :
  jF P w H' d a (.dK c):=⟨z,e,vs,b,dd⟩
theorem ě{Q:v4}(J:A.units+1<cLine)(I:ya X aa σ H s)(g:qp H a y v H')(x:RelV y u)(B:RelV v r)(h:∀w,ya X aa σ H' w->Q () w) :
  wpAny (model X.prog X.w) A (setItem (.ref a) u r) Q E s:=by
 rcases g with ⟨j,k,e,o,l,p⟩|⟨j,k,b,e,o,C,l,p⟩
 .subst o p;obtain⟨z,n,F,d,t⟩:=oy I.Ia e;have G:F.length<=sizeLine:=by rwa [<-d.length]
  exact wpAny_setItem_pairs (Lv x) t λO i m=>h _<|BD I (by rw[e];exact True.intro) m (let ⟨q,_,_,f,_⟩:=i;⟨q,f⟩)<|S4 (by have:=xF j k v;lia) n (d.put k B) i
 subst o p;cases (x);obtain⟨z,n,D,d,t⟩:=P6 I.Ia e;have G:D.length<=sizeLine:=by rwa [<-Paired.length d]
 refine wpAny_setItem_heap (OG J) (uv I.Ia C) t λO i m=>h _ ?_
 obtain⟨q,P,R,f,N,M,L,_,K⟩:=i;refine BD I (by rw[e];exact True.intro) m ⟨q,f⟩ ⟨(by have:=xF j k v;lia),n,_,(d.put k C B).keeps λc S ec=>?_,q,P,R,f,N,M,L,K⟩
 rwa [aK<|F6 ec e<|λz=>nomatch z]
end
section
variable{X:Cx}{aa:db}{σ:St}{H:Hp}{s:Shared}{a:Addr}{ia:sK}{k:Key}{u:Value}{A:Around}{E:am}
theorem bJr{Q:am}(I:ya X aa σ H s)(e:Rd H a (.dK ia))(h:∀t c,ya X aa σ H c->Q (.int ia.length t) c):wpAny (model X.prog X.w) A (call (.builtin "len") [.ref a]) Q E s:=by
 obtain⟨z,d,g,b,f⟩:=Mv I.Ia e;refine call_len_dict d f (by rw[<-b.length];rw[Vm]at z;lia) ?_
 rw[<-b.length];exact h _ _<|I.tok _
end
def M7(i:Expr):Prop:=∀a b,subscripted i false a b=operate [a,b] (getItem a b)
def bC7{w:World}{E:am}{id:String}{Q:am}
  (f:typeLookup (.type T) "__getitem__"=pure (some<|.builtin id)) (e:M7 slice)
  (h:wpAny (model prog w) A (eval value env) (λo c=>wpAny (model prog w) A (eval slice env) (λi Gg=>Gg.TypeIs o T/\wpAny (model prog w) A (getItem o i) Q E Gg) E c) E s) :
  wpAny (model prog w) A (eval (.Subscript value slice pos) env) Q E s:=by
 refine Subscript_<|oi h (λo c j=>oi j (λi Gg b=>?_) λ_ _ x=>x) λ_ _ x=>x
 obtain⟨g,b⟩:=b;refine qa<|qa<|yw g f ?_;have a:wpAny (model prog w) A (subscripted slice false o i) (λr d=>wpAny (model prog w) A (letTemporaryGo value o r >>= λ_=>pure r) Q E d) E Gg:=by
  rw[e o i];exact wpAny_operating<|oi b (λr d k=>qa<|wpAny_letTemporaryGo<|Ga k) λ_ _ x=>x
 first
  |exact Ga<|qa a
  |exact qa _
  |exact qa a
def qV{X:Cx}(I:ya X aa σ H s)(g:zO H a y o):s.TypeIs (.ref a) "dict":=by
 rcases g with ⟨d,k,e,_,_⟩|⟨d,k,b,e,_,_,_⟩
 .obtain⟨_,_,h,_,c⟩:=Mv I.Ia e;exact c.typeIs
 obtain⟨_,_,f,_,c⟩:=qy I.Ia e;exact c.typeIs
def Us(d ty:TE):TE:=λb H Q=>d b H λx e=>ty b e λy c=>∃a v,x=.ref a/\zO c a y (some v)/\Q v c
def GO(ty d:TE):TE:=λb H Q=>ty b H λy e=>d b e λx c=>∃a o,x=.ref a/\zO c a y o/\Q (.bl o.isSome) c
noncomputable def Yc(e ty d:TE):TS:=λD b H=>d b H λv h=>e b h λx g=>ty b g λy f=>∃a c,x=.ref a/\qp f a y v c/\D.nx b c
section
variable{X:Cx}{o i e value:Expr}{pos pos' AU:Pos}{td ty tv:TE}
def bC8(m:X.A.units+1<cLine)(p:PE X o td)(q:PE X i ty)(n:M7 i):PE X (.Subscript o i pos) (Us td ty):=by
 intro c s b H Q I h;refine bC7 v8.lookup n<|Lb (p c s b H _ I h) λu e ⟨x,B,z,j,l⟩=>Lb (q c e b B _ z l) λF E ⟨y,A,d,f,a,v,r,g,k⟩=>?_
 subst r;obtain rfl:u=Value.ref a:=j;exact⟨qV d g,KW m d g f λC D w t=>⟨v,A,w,t,k⟩⟩
def bGr(m:X.A.units+1<cLine)(p:PE X i ty)(n:PE X o td):PC X .In i o (GO ty td):=by
 intro c s b H Q I h;refine Lb (p c s b H _ I h) λC d ⟨y,z,v,e,k⟩=>Lb (n c d b z _ v k) λu B ⟨x,w,t,f,a,l,q,g,j⟩=>?_
 subst q;obtain rfl:u=Value.ref a:=f;exact L7 m t g e λA r=>⟨.bl l.isSome,w,r,rfl,j⟩
end
def Ţ{w:World}(h:Heap)(a:sysModules<h.objs.size):jF P w H (h.push {cls:=.type "dict",data:=.dict #[]}) h.objs.size (.dK []):=
 ⟨Gf _,yt.mpr<|bf<|zd a,[],.nil,Heap.DictOf.new h⟩
def XX{w:World}(h:Heap)(a:sysModules<h.objs.size):jF P w H (h.push {cls:=.type "dict",data:=.dict #[]}) h.objs.size (.dT []):=
 ⟨Gf _,yt.mpr<|bf<|zd a,[],.nil,_, #[],0,we _ rfl,⟨rfl,rfl,rfl⟩,rfl,rfl,vz⟩
def mM:TE:=λ_ H Q=>∀p,H p=none->Q (.ref p) (Ra H p<|.dK [])
def bGs:TE:=λ_ H Q=>∀p,H p=none->Q (.ref p) (Ra H p<|.dT [])
section
variable{X:Cx}{pos:Pos}
def YX:PE X (.Dict [] [] pos) mM:=λb s a H Q I h=>
 wpAny_Dict_empty ⟨.ref s.heap.objs.size,_,I.laid (λ_ _ q=>bc _ q) (Ib _)<|Ţ s.heap I.big,rfl,h _<|I.Ia.fresh<|Ib _⟩
def ţ:PE X (.Dict [] [] pos) bGs:=λb s a H Q I h=>
 wpAny_Dict_empty ⟨.ref s.heap.objs.size,_,I.laid (λ_ _ q=>bc _ q) (Ib _)<|XX s.heap I.big,rfl,h _<|I.Ia.fresh<|Ib _⟩
end
def T4:List (TE×TE)->St->Hp->(List (V×V)->Hp->Prop)->Prop
 |[],_,H,Q=>Q [] H
 |(c,b)::r,a,H,Q=>c a H λx g=>b a g λy f=>T4 r a f λd e=>Q ((x,y)::d) e
abbrev VV:List (V×V)->List (Value×Value)->Prop:=Paired λp q=>RelV p.1 q.1/\RelV p.2 q.2
def VI(X:Cx)(d:Pos)(b:List (Option Expr))(a:List Expr)(j:List (TE×TE)):Prop:=
 ∀(f:db) (s:Shared) (c:St) (H:Hp) (Q:List (V×V)->Hp->Prop),ya X f c H s->T4 j c H Q->
  wpAny (model X.prog X.w) X.A (evalPairs<|pairTrees b a X.env d) (λh i=>∃e g,ya X f c g i/\VV e h/\Q e g) X.xe s
def bC9{X:Cx}:VI X pos [] [] []:=λb s a H Q I h=>pairTrees_nil_walk ⟨[],H,I,.nil,h⟩
def Ť{X:Cx}{k v:Expr}(p:PE X k tk)(n:PE X v tv)(o:VI X pos ks vs BU) :
  VI X pos (some k::ks) (v::vs) ((tk,tv)::BU):=λc s a H Q I h=>
 pairTrees_cons_walk (Lb (p c s a H _ I h) λu e ⟨x,A,t,g,l⟩=>Lb (n c e a A _ t l) λC d ⟨y,z,r,f,j⟩=>
  Lb (o c d a z _ r j) λB D ⟨m,w,q,b,i⟩=>⟨(x,y)::m,w,q,.cons ⟨g,f⟩ b,i⟩)
structure M1(X:Cx)(o:Expr)(m:Str)(Ob:Pos)(e:Expr)(xb:Pos):Prop where
 base:Kj o m X.env
 pj:As xb [e] X.env
 line:jm Ob xb
 o_:backTo xb (starEach [e] X.env)=[(false,eval e X.env)]
end L2
set_option maxHeartbeats 1000000
open PySem.W (Frag findIn mroIn clsIn specialIn takesIn nsIn notCls keepIn kitOne kia_one fnOf codeIn Looks looks_mroIn looks_findIn excIn mg_of isFn KdlSrc kdl_call OpenLaw makesIn mg_none_of WalkO InK)
open List (foldl_cons mem_cons_self mem_cons_of_mem map_cons cons_append length_append length_singleton zip_cons_cons find?_cons nodup_cons getElem?_cons_succ getD_eq_getElem?_getD append_nil length_map length_filter_le Nodup map_nil drop_of_length_le drop_eq_getElem_cons lookup_cons length_range nodup_nil length_cons getElem_idxOf mem_cons drop_zero nil_append length_take any_cons all_cons length_set forIn_cons getElem?_toArray not_mem_nil forIn_nil getElem_toArray)
open Nat (zero_le lt_succ_self mod_lt le_succ not_lt_zero)
open Array (ext' append_empty getElem?_toList toList_push getD_eq_getD_getElem?)
open Int (emod_nonneg)
open Option (getD_some map_some)
open Bool (or_eq_true and_eq_true)
variable{α β:Type}{c n np i m q j ch x1 t' ep:Nat}{b:Bool}{l a C fa D' l1 I pp Ec lc qb Ta Ua gb:PySem.Addr}{tg e elt value:PySem.Expr}{x qual name nx:PySem.Str}{y dV oc f1:PySem.Value}{E Q Qf:PySem.Value->PySem.Shared->Prop}{ys items:Array PySem.Value}{S T U:bv}{rk u ks rk' la lb:ac}{v v2:L2.V}{al:On}{s s':PySem.Shared}{vs Mf zs:List L2.V}{B A fp Z:List PySem.Addr}{acc:sB}{ns:lw}{sq dn:f8}{ws:u8}{fr:Db}{z:Do}{N ps loose:List PySem.Str}{H H' H1 H0 G:L2.Hp}{o:L2.HO}{Dn:L2.Ends}{X Y:L2.Cx}{es Uh:List PySem.Expr}{pos p0 pos' p2 p1 Ob xb dp px tp:PySem.Pos}{op:PySem.CmpOp}{gv:Int->Int->L2.V}{fd:PySem.FuncData}{sm:PySem.Stmt}{h h' base h0:PySem.Heap}{M:PySem.Model}{env:PySem.Env}{body:List PySem.Stmt}{P prog:PySem.Program}{mg:PySem.Str->Option PySem.Value}{scope:PySem.Scope}{aa:List (PySem.Addr×PySem.Obj)}{te:L2.TE}{tt:L2.TT}{Oi:Array (Option PySem.Value)}{sp:L2.Sp}{outer fl:List PySem.Env}{tl us wm:List PySem.Value}{newId nF:String}{h₀:PySem.ExceptHandler}{hs:List PySem.ExceptHandler}{yes:wf}{src:L2.Hp->List L2.V->Prop}{ia:List (L2.Key×L2.V)}{oa:PySem.Obj}{Wb:List (List L2.Key×L2.V)}{Hg Se Md:PySem.Tok}{XP:(PySem.Str->Option PySem.Value)->PySem.Heap->Prop}
namespace Pu
inductive D where
 |Hb|bl (b:Bool)|int (i:Int)|str (s:ac)|tup (xs:List D)|lst (xs:List D)
 |Cf (t:Bool) (ks vs:List D)
 |ins (c:String) (ns:wf) (xs:List D)
 |Ag (c:String) (ns:wf) (xs:List D)
 |fn (f:String)
abbrev _root_.dL:=List D
abbrev _root_.Fk:=D->Bool
inductive R (α:Type) where
 |ok (a:α)|exc (x:D)|bad
abbrev _root_.im:=List D->R D
abbrev _root_.Go:=D->R D
@[inline] noncomputable def R.bind{c b:Type}(r:R c)(f:c->R b):R b:=match r with
 |.ok a=>f a
 |.exc x=>.exc x
 |.bad=>.bad
def R.ua{r:R α}{f:α->R β}{b:β}(h:r.bind f=.ok b):∃a,r=.ok a/\f a=.ok b:=by
 cases r with
 |ok a=>exact⟨a,rfl,h⟩
 |exc x=>exact nomatch h
 |bad=>exact nomatch h
noncomputable section
open Classical in
def aP{a:Type}(c:Prop)(r:R a):R a:=if c then r else .bad
def aF{c:Prop}(h:c):aP c r=r:=Qa h
def aM{c:Prop}{a:α}(h:aP c r=.ok a):c/\r=.ok a:=by
 unfold aP at h;split at h
 .exact⟨by assumption,h⟩
 exact nomatch h
inductive OK where
 |l|d (t:Bool) (ks:dL)|i (n:Nat) (c:String) (ns:wf)
noncomputable def js:OK->List D->D
 |.l,a=>.lst a
 |.d t ks,a=>.Cf t ks a
 |.i _ c ns,a=>.ins c ns a
inductive Sl where
 |v (d:D)|o (k:OK) (xs:dL)
abbrev _root_.li:=Option Sl
abbrev za:=List<|Option Sl
abbrev Ex:=za->R D
inductive Fl where
 |nx (st:za)|rt (d:D)|bk (st:za)|ct (st:za)
abbrev Bd:=za->R Fl
@[irreducible] def big:Nat:=10000000
def mF:big=10000000:=by unfold big;rfl
def gJ(h:n<=10000000):n<=big:=by rwa [mF]
def Sx(h:n<10000000):n<big:=by rwa [mF]
def J0{n:Int}(h:n<=10000000):n<=(big:Int):=by rwa [mF]
def bCa{n:Int}(h : -10000000<=n) : -(big:Int)<=n:=by rwa [mF]
noncomputable def We(n d:Nat):Option Int->Nat
 |none=>d
 |some v=>if v<0 then (v+(n:Int)).toNat else min v.toNat n
noncomputable def Yj(n:Nat)(i:Int):Option Nat:=if 0<=i then (if i<n then some i.toNat else none) else if -(n:Int)<=i then some (i+n).toNat else none
def Ee{a:Type}(xs:List a)(i:Int):Option a:=(Yj xs.length i).bind λj=>xs[j]?
noncomputable def cut{a:Type}(xs:List a)(lo b:Ev):List a:=(xs.drop<|We xs.length 0 lo).take<|We xs.length xs.length b-We xs.length 0 lo
def Fg{b:Type}:Option b->R b
 |some a=>.ok a
 |none=>.bad
abbrev ag:=D->Go
def dH:ag
 |.int i,.int j=>.ok<|.int<|i+j
 |.str x,.str y=>aP (x.length+y.length<=big)<|.ok<|.str<|x++y
 |.lst x,.lst y=>aP (x.length+y.length<=big)<|.ok<|.lst<|x++y
 |_,_=>.bad
noncomputable def Ay:ag
 |.int i,.int j=>.ok<|.int<|i-j
 |_,_=>.bad
def Aq:ag
 |.int i,.int j=>aP (0<j/\j<1073741824)<|.ok<|.int<|i/j
 |_,_=>.bad
def kO:ag
 |.int i,.int j=>aP (0<j)<|.ok<|.int<|i%j
 |_,_=>.bad
def JO:ag
 |.int i,.int j=>aP (0<=j/\j<=1000000/\i.natAbs<18446744073709551616)<|.ok<|.int<|i^j.toNat
 |_,_=>.bad
noncomputable def KO:Go
 |.int i=>.ok<|.int<|-i
 |_=>.bad
noncomputable def LO:Fk
 |.int _=>true
 |.str _=>true
 |_=>false
noncomputable def Rb(t:Bool)(d:D):Bool:=match d with
 |.int _=>!t
 |.str _=>!t
 |.tup a=>t&&a.all LO
 |_=>false
mutual
noncomputable def lg:D->D->Bool
 |.int i,.int j=>i==j
 |.str x,.str y=>x==y
 |.tup x,.tup y=>oo x y
 |_,_=>false
noncomputable def oo:List D->List D->Bool
 |[],[]=>true
 |a::x,b::y=>lg a b&&oo x y
 |_,_=>false
end
noncomputable def mG(a vs:dL)(k:D):Option D:=((a.zip vs).find? λp=>lg p.1 k).map (·.2)
def jQ(a:dL)(k:D):Bool:=a.any λx=>lg x k
def qP(a:dL)(k:D):dL:=if jQ a k=true then a else a++[k]
noncomputable def qQ(a vs:dL)(k v:D):dL:=if jQ a k=true then (a.zip vs).map (λp=>if lg p.1 k=true then v else p.2) else vs++[v]
def La:ag
 |.Cf t ks vs,k=>aP (Rb t k=true)<|Fg<|mG ks vs k
 |.lst x,.int i=>Fg<|Ee x i
 |.tup x,.int i=>Fg<|Ee x i
 |.str x,.int i=>aP (x.length<=big)<|Fg<|(Ee x i).map λc=>.str [c]
 |_,_=>.bad
mutual
noncomputable def jd:D->D->Bool
 |.Hb,.Hb=>true
 |.bl a,.bl b=>a==b
 |.bl a,.int j=>(if a then (1:Int) else 0)==j
 |.int i,.bl b=>i==(if b then (1:Int) else 0)
 |.int i,.int j=>i==j
 |.str x,.str y=>x==y
 |.tup x,.tup y=>pF x y
 |.lst x,.lst y=>pF x y
 |_,_=>false
noncomputable def pF:List D->List D->Bool
 |[],[]=>true
 |a::x,b::y=>jd a b&&pF x y
 |_,_=>false
end
mutual
noncomputable def Fe:D->Nat
 |.tup x=>gU x+1
 |.lst x=>gU x+1
 |.Hb=>0
 |.bl _=>0
 |.int _=>0
 |.str _=>0
 |.Cf _ _ _=>0
 |.ins _ _ _=>0
 |.Ag _ _ _=>0
 |.fn _=>0
noncomputable def gU:List D->Nat
 |[]=>0
 |a::x=>max (Fe a)<|gU x
end
mutual
def plain:Fk
 |.tup x=>bZ x
 |.lst x=>bZ x
 |.Hb=>true
 |.bl _=>true
 |.int _=>true
 |.str _=>true
 |.Cf _ _ _=>false
 |.ins _ _ _=>false
 |.Ag _ _ _=>false
 |.fn _=>false
def bZ:List D->Bool
 |[]=>true
 |a::x=>plain a&&bZ x
end
def Od:ag:=λa b=>aP (Fe a<=64/\plain a=true/\plain b=true)<|.ok<|.bl<|jd a b
def Th:ag:=λa b=>aP (Fe a<=64/\plain a=true/\plain b=true)<|.ok<|.bl<|!jd a b
def rm:List D->List D->R Bool
 |[],[]=>.ok false
 |[],_::_=>.ok true
 |_::_,[]=>.ok false
 |a::x,b::y=>if jd a b=true then rm x y else match a,b with
  |.int i,.int j=>.ok<|decide (i<j)
  |.str s,.str t=>.ok<|decide (s<t)
  |_,_=>.bad
noncomputable def Ko:ag
 |.int i,.int j=>.ok<|.bl<|decide (i<=j)
 |_,_=>.bad
noncomputable def Am:ag
 |.int i,.int j=>.ok<|.bl<|decide (j<i)
 |_,_=>.bad
noncomputable def Jw:ag
 |.int i,.int j=>.ok<|.bl<|decide (j<=i)
 |_,_=>.bad
def fZ:Go
 |.Cf false a _=>.ok<|.int a.length
 |.lst x=>.ok<|.int x.length
 |.tup x=>.ok<|.int x.length
 |.str x=>aP (x.length<=big)<|.ok<|.int x.length
 |_=>.bad
def Jq:Fk
 |.ins _ _ _=>false
 |.Ag _ _ _=>false
 |.fn _=>false
 |_=>true
def Yp:Fk
 |.Hb=>true
 |_=>false
def cw:Fk
 |.bl _=>true
 |_=>false
noncomputable def isIn:Fk
 |.bl _=>true
 |.int _=>true
 |_=>false
def N7:Fk
 |.tup _=>true
 |_=>false
def O7:Fk
 |.Cf _ _ _=>true
 |_=>false
def vp:Fk
 |.lst _=>true
 |_=>false
noncomputable def xG(x y:ac)(lo:Nat):Option Nat:=(List.range' lo<|x.length+1-lo).find? λi=>decide (i+y.length<=x.length)&&((x.drop i).take y.length==y)
abbrev Bx:=D->im
noncomputable def Tx:Bx
 |.str x,[.str y]=>(Fg<|xG x y 0).bind λi=>.ok<|.int i
 |_,_=>.bad
def Nv:D->D->R D
 |.int i,.int j=>.ok<|.int<|if j>i then j else i
 |_,_=>.bad
def inD(x:D)(ys:dL):Bool:=ys.any λy=>jd y x
noncomputable def yr:D->D->R D
 |k,.Cf t b _=>aP (Rb t k=true)<|.ok<|.bl<|jQ b k
 |x,.lst a=>aP (gU a<=60/\plain x=true/\bZ a=true)<|.ok<|.bl<|inD x a
 |x,.tup a=>aP (gU a<=60/\plain x=true/\bZ a=true)<|.ok<|.bl<|inD x a
 |.str x,.str y=>.ok<|.bl (xG y x 0).isSome
 |_,_=>.bad
def pG:D->D->R D
 |k,.Cf t b _=>aP (Rb t k=true)<|.ok<|.bl<|!jQ b k
 |x,.lst a=>aP (gU a<=60/\plain x=true/\bZ a=true)<|.ok<|.bl<|!inD x a
 |x,.tup a=>aP (gU a<=60/\plain x=true/\bZ a=true)<|.ok<|.bl<|!inD x a
 |.str x,.str y=>.ok<|.bl<|!(xG y x 0).isSome
 |_,_=>.bad
noncomputable def kn:D->D->R D
 |x,.Hb=>.ok<|.bl<|Yp x
 |.bl a,.bl b=>.ok<|.bl<|a==b
 |_,_=>.bad
noncomputable def sM:D->D->R D
 |x,.Hb=>.ok<|.bl<|!Yp x
 |.bl a,.bl b=>.ok<|.bl<|!(a==b)
 |_,_=>.bad
noncomputable def aA(i:Nat):Ex:=λst=>match st[i]? with
 |some (some<|.v d)=>.ok d
 |_=>.bad
noncomputable def cW(i:Nat):Ex:=λst=>match st[i]? with
 |some (some<|.v d)=>.ok d
 |some (some<|.o k a)=>.ok<|js k a
 |_=>.bad
def eC(d:D):Ex:=λ_=>.ok d
def e2(op:ag)(f g:Ex):Ex:=λst=>(f st).bind λx=>(g st).bind λy=>op x y
def e1(op:Go)(f:Ex):Ex:=λst=>(f st).bind op
def eB(p:Fk)(f:Ex):Ex:=λst=>(f st).bind λx=>aP (Jq x=true)<|.ok<|.bl<|p x
def Ij{a:Type}(d:D)(f:Bool->R a):R a:=match d with
 |.bl b=>f b
 |_=>.bad
def tD{f:Bool->R α}{a:α}(h:Ij d f=.ok a):∃b,d=.bl b/\f b=.ok a:=by
 cases d<;>first|exact⟨_,rfl,h⟩|exact nomatch h
def qR(f g:Ex):Ex:=λst=>(f st).bind λx=>Ij x λb=>if b=true then g st else .ok (.bl false)
def Jk(f g:Ex):Ex:=λst=>(f st).bind λx=>Ij x λb=>if b=true then .ok (.bl true) else g st
def vB(f:Ex):Ex:=λst=>(f st).bind λx=>Ij x λb=>.ok<|.bl<|!b
def Oz(c f g:Ex):Ex:=λst=>(c st).bind λx=>Ij x λb=>if b=true then f st else g st
abbrev Ci:=za->R (List D)
def aR:Ci:=λ_=>.ok []
noncomputable def aC(f:Ex)(r:Ci):Ci:=λst=>(f st).bind λx=>(r st).bind λa=>.ok<|x::a
def nA(r:Ci):Ex:=λst=>(r st).bind λa=>aP (a.length<=big)<|.ok<|.tup a
def gK(r:Ci):Ex:=λst=>(r st).bind λa=>aP (a.length<=big)<|.ok<|.lst a
def aV(p:im)(r:Ci):Ex:=λst=>(r st).bind p
noncomputable def Lo(m:Bx)(f:Ex)(r:Ci):Ex:=λst=>(f st).bind λx=>(r st).bind λa=>m x a
def Hu(d:D){a:Type}(f:Int->R a):R a:=match d with
 |.int i=>f i
 |_=>.bad
def bE{f:Int->R α}{a:α}(h:Hu d f=.ok a):∃i,d=.int i/\f i=.ok a:=by
 cases d<;>first|exact⟨_,rfl,h⟩|exact nomatch h
abbrev xx:=za->R (Option Int)
def xH:xx:=λ_=>.ok none
noncomputable def xJ(f:Ex):xx:=λst=>(f st).bind λx=>Hu x λi=>.ok<|some i
def dSl(x:D)(lo b:Ev):R D:=match x with
 |.lst a=>.ok<|.lst<|cut a lo b
 |.str a=>aP (a.length<=big)<|.ok<|.str<|cut a lo b
 |_=>.bad
def mn(f:Ex)(lo a:xx):Ex:=λst=>(f st).bind λx=>(lo st).bind λl=>(a st).bind λh=>dSl x l h
abbrev ij:=za->R (List D)
noncomputable def cc(f:Ex):ij:=λst=>(f st).bind λx=>match x with
 |.lst a=>.ok a
 |.tup a=>.ok a
 |.str a=>aP (a.length<=big)<|.ok<|a.map λc=>.str [c]
 |_=>.bad
noncomputable def lK(lo:Int)(n:Nat):dL:=(List.range n).map λ(k:Nat)=>.int<|lo+(k:Int)
def nD(f:Ex):ij:=λst=>(f st).bind λx=>Hu x λj=>aP (-(big:Int)<=j/\j<=(big:Int))<|.ok<|lK 0 j.toNat
abbrev Tg:=D->za->R za
def jb(i:Nat):Tg:=λd st=>.ok<|st.set i<|some<|.v d
noncomputable def vv:ac->dL->za->R za
 |[],[],st=>.ok st
 |i::is,d::a,st=>vv is a<|st.set i<|some<|.v d
 |_,_,_=>.bad
def Jf(is:ac):Tg:=λd st=>match d with
 |.tup a=>vv is a st
 |.lst a=>vv is a st
 |_=>.bad
noncomputable def kW(tg:Tg)(c f:Ex)(st:za):List D->R (List D)
 |[]=>.ok []
 |d::e=>(tg d st).bind λa=>(c a).bind λx=>Ij x λb=>if b=true then (f a).bind λy=>(kW tg c f st e).bind λg=>.ok (y::g) else kW tg c f st e
def Uj(is:ac)(st:za):za:=is.foldl (λs i=>s.set i none) st
def bH(is:ac)(tg:Tg)(it:ij)(c f:Ex):Ex:=λst=>(it st).bind λa=>aP (a.length<=big)<|(kW tg c f (Uj is st) a).bind λb=>.ok<|.lst b
def bK:Ex:=λ_=>.ok<|.bl true
def By(r:R Fl)(f:za->R Fl):R Fl:=r.bind λx=>match x with
 |.nx st=>f st
 |.rt d=>.ok<|.rt d
 |.bk st=>.ok<|.bk st
 |.ct st=>.ok<|.ct st
def cJ:Bd:=λst=>.ok<|.nx st
def aY(a b:Bd):Bd:=λst=>By (a st) b
noncomputable def cO(i:Nat)(f:Ex):Bd:=λst=>(f st).bind λd=>.ok<|.nx<|st.set i<|some<|.v d
noncomputable def qT(i:Nat)(f:Ex):Bd:=λst=>(f st).bind λd=>match d with
 |.lst a=>.ok<|.nx<|st.set i<|some<|.o .l a
 |_=>.bad
noncomputable def bt(tg:Tg)(f:Ex):Bd:=λst=>(f st).bind λd=>(tg d st).bind λa=>.ok<|.nx a
noncomputable def Lm(i:Nat)(f:Ex):Bd:=λst=>(f st).bind λd=>match st[i]? with
 |some (some<|.o .l a)=>aP (a.length<big)<|.ok<|.nx<|st.set i<|some<|.o .l<|a++[d]
 |_=>.bad
def dw(i:Nat)(f:Ex):Bd:=λst=>(f st).bind λd=>match d with
 |.lst a=>(match st[i]? with
  |some (some<|.o .l b)=>aP (b.length+a.length<=big)<|.ok<|.nx<|st.set i<|some<|.o .l<|b++a
  |_=>.bad)
 |_=>.bad
def Ov(i:Nat)(t:Bool):Bd:=λst=>.ok<|.nx<|st.set i<|some<|.o (.d t []) []
noncomputable def Yc(i:Nat)(g f:Ex):Bd:=λst=>(f st).bind λd=>(g st).bind λk=>match st[i]? with
 |some (some<|.o (.d t b) a)=>aP (Rb t k=true/\a.length<big)<|.ok<|.nx<|st.set i<|some<|.o (.d t<|qP b k)<|qQ b a k d
 |_=>.bad
noncomputable def wC(i:Nat)(c f:String)(e:Ex):Bd:=λst=>(e st).bind λd=>match st[i]? with
 |some (some<|.o (.i n b a) g)=>aP (b=c/\f∉a/\a.length<900)<|.ok<|.nx<|st.set i<|some<|.o (.i n b<|a++[f])<|g++[d]
 |_=>.bad
def eY(c f:String):Go
 |.ins d b a=>aP (d=c)<|Fg<|(b.zip a).lookup f
 |_=>.bad
def sN(c m:String)(p:im)(d:dL)(f:Ex)(r:Ci):Ex:=λst=>(f st).bind λx=>(r st).bind λa=>match x with
 |.ins e b _=>aP (e=c/\m∉b)<|p<|x::(a++d)
 |_=>.bad
def Ux:Bd:=λ_=>.bad
noncomputable def Ar(st:za)(i:Nat):za:=match st[i]? with
 |some (some<|.o k a)=>st.set i<|some<|.v<|js k a
 |_=>st
def ik(is:ac)(b:Bd):Bd:=λst=>b<|is.foldl Ar st
noncomputable def cL(f:Ex):Bd:=λst=>(f st).bind λd=>.ok<|.rt d
noncomputable def Kq(f:Ex):Bd:=λst=>(f st).bind λ_=>.ok<|.nx st
noncomputable def Oc(c:Ex)(a b:Bd):Bd:=λst=>(c st).bind λx=>Ij x λq=>if q=true then a st else b st
noncomputable def Tb(tg:Tg)(a:Bd):dL->za->R Fl
 |[],st=>.ok<|.nx st
 |d::c,st=>(tg d st).bind λe=>(a e).bind λx=>match x with
  |.nx b=>Tb tg a c b
  |.ct b=>Tb tg a c b
  |.bk b=>.ok<|.nx b
  |.rt v=>.ok<|.rt v
def nG(tg:Tg)(it:ij)(a:Bd):Bd:=λst=>(it st).bind λb=>Tb tg a b st
noncomputable def iK(c:Ex)(a:Bd):Nat->za->R Fl
 |0,_=>.bad
 |n+1,st=>(c st).bind λx=>Ij x λq=>if q=true then (a st).bind λx=>(match x with
  |.nx b=>iK c a n b
  |.ct b=>iK c a n b
  |.bk b=>.ok<|.nx b
  |.rt v=>.ok<|.rt v) else .ok (.nx st)
def xv(n:Nat)(c:Ex)(a:Bd):Bd:=λst=>iK c a n st
noncomputable def dI(a n:Nat)(b:Bd)(ds:dL):R D:=
 aP (ds.length=a) ((b<|ds.map (λd=>some<|.v d)++List.replicate (n-a) none).bind λx=>match x with
  |.nx _=>.ok .Hb
  |.rt d=>.ok d
  |_=>.bad)
def Vs(c:String)(a n:Nat)(b:Bd)(x:Nat)(ds:dL):R D:=
 aP (ds.length=a) ((b<|some (.o (.i x c []) [])::(ds.map (λd=>some<|.v d)++List.replicate (n-a-1) none)).bind λ(g:Fl)=>match g with
  |.nx st=>(match (st[0]?:Option (Option Sl)) with
   |some (some<|.o (.i y h f) e)=>aP (y=x)<|.ok<|.ins h f e
   |_=>.bad)
  |_=>.bad)
open Classical in
def qo(c:String)(a n:Nat)(b:Bd)(ds:dL):R D:=if h:∃d,∀x,Vs c a n b x ds=.ok d then .ok (choose h) else .bad
def K0{c:String} {b:Bd} (h:∀x,Vs c np n b x ds=.ok d):qo c np n b ds=.ok d:=by
 unfold qo;rw[dif_pos _];have:=V8 (p:=λd=>∀x,Vs c np n b x ds=.ok d) ⟨d,h⟩ 0
 rw[h 0]at this;exact this.symm
def L0{c:String} {b:Bd} (h:qo c np n b ds=.ok d) (x:Nat):Vs c np n b x ds=.ok d:=by
 unfold qo at h;split at h
 .rename_i e
  rwa [(V8 e x)]
 cases h
end
end Pu
variable{d pr nums key:Pu.D}{ds xs dv tv:List Pu.D}{f g:Pu.Ex}{st' s1:Pu.za}{r:Pu.Ci}{p:List Pu.D->Pu.R Pu.D}{it:Pu.ij}{L bd Gp:Pu.Bd}{x5 x8 Kf:Option Pu.Sl}{hl:List (List String×List String×(String->Pu.Bd))}
namespace Pu
@[simp] theorem bg2:2<=big:=gJ (by decide)
@[simp] theorem aZ(a:α)(f:α->R β):(R.ok a).bind f=f a:=rfl
@[simp] theorem cE(b:Bool)(f:Bool->R α):Ij (.bl b) f=f b:=rfl
@[simp] theorem bLh(i:Int)(f:Int->R α):Hu (.int i) f=f i:=rfl
@[simp] theorem bLi(st:za)(f:za->R Fl):By (.ok<|.nx st) f=f st:=rfl
@[simp] theorem bLj(d:D)(f:za->R Fl):By (.ok<|.rt d) f=.ok (.rt d):=rfl
@[simp] theorem pR(i:Nat)(st:za):aA i st=(match st[i]? with|some (some<|.v d)=>R.ok d|_=>.bad):=rfl
@[simp] theorem bJv(d:D)(st:za):eC d st=.ok d:=rfl
@[simp] theorem tN(op:ag)(f g:Ex)(st:za):e2 op f g st=(f st).bind λx=>(g st).bind λy=>op x y:=rfl
@[simp] theorem Qv(op:Go)(f:Ex)(st:za):e1 op f st=(f st).bind op:=rfl
@[simp] theorem bMl(p:Fk)(f:Ex)(st:za):eB p f st=(f st).bind λx=>aP (Jq x=true) (.ok<|.bl<|p x):=rfl
@[simp] theorem N0(f g:Ex)(st:za):qR f g st=(f st).bind λx=>Ij x λb=>if b=true then g st else .ok (.bl false):=rfl
@[simp] theorem bGw(f g:Ex)(st:za):Jk f g st=(f st).bind λx=>Ij x λb=>if b=true then .ok (.bl true) else g st:=rfl
@[simp] theorem bCb(f:Ex)(st:za):vB f st=(f st).bind λx=>Ij x λb=>.ok (.bl<|!b):=rfl
@[simp] theorem U4(c f g:Ex)(st:za):Oz c f g st=(c st).bind λx=>Ij x λb=>if b=true then f st else g st:=rfl
@[simp] theorem bLk(st:za):aR st=.ok []:=rfl
@[simp] theorem ť(f:Ex)(r:Ci)(st:za):aC f r st=(f st).bind λx=>(r st).bind λxs=>.ok (x::xs):=rfl
@[simp] theorem bCc(r:Ci)(st:za):nA r st=(r st).bind λxs=>aP (xs.length<=big) (.ok<|.tup xs):=rfl
@[simp] theorem bCd(r:Ci)(st:za):gK r st=(r st).bind λxs=>aP (xs.length<=big) (.ok<|.lst xs):=rfl
@[simp] theorem bJw(p:im)(r:Ci)(st:za):aV p r st=(r st).bind p:=rfl
@[simp] theorem bCe(f:Ex)(st:za):nD f st=(f st).bind λx=>Hu x λj=>aP (-(big:Int)<=j/\j<=(big:Int)) (.ok<|lK 0 j.toNat):=rfl
@[simp] theorem bJx(tg:Tg)(b:Bd)(st:za):Tb tg b [] st=.ok (.nx st):=rfl
def LW(tg:Tg)(b:Bd)(d:D)(ds:dL)(st:za):Tb tg b (d::ds) st=(tg d st).bind λs1=>(b s1).bind λx=>match x with
  |.nx a=>Tb tg b ds a
  |.ct a=>Tb tg b ds a
  |.bk a=>.ok<|.nx a
  |.rt v=>.ok (.rt v):=rfl
def xK(c:Ex)(b:Bd)(n:Nat)(st:za):iK c b (n+1) st=(c st).bind λx=>Ij x λq=>if q=true then (b st).bind λx=>(match x with
  |.nx s2=>iK c b n s2
  |.ct s2=>iK c b n s2
  |.bk s2=>.ok<|.nx s2
  |.rt v=>.ok<|.rt v) else .ok (.nx st):=rfl
@[simp] theorem bGx(f:Ex)(st:za):cc f st=(f st).bind λx=>match x with|.lst xs=>.ok xs|.tup xs=>.ok xs|.str xs=>aP (xs.length<=big) (.ok<|xs.map λc=>.str [c])|_=>.bad:=rfl
@[simp] theorem KJ(n:Nat)(c:Ex)(b:Bd)(st:za):xv n c b st=iK c b n st:=rfl
@[simp] theorem bCf(i:Nat)(f:Ex)(st:za):Lm i f st=(f st).bind λd=>match st[i]? with|some (some<|.o .l xs)=>aP (xs.length<big) (.ok<|.nx<|st.set i<|some<|.o .l<|xs++[d])|_=>.bad:=rfl
@[simp] theorem Ŧ(i:Nat)(f:Ex)(st:za):qT i f st=(f st).bind λd=>match d with|.lst xs=>.ok (.nx<|st.set i<|some<|.o .l xs)|_=>.bad:=rfl
@[simp] theorem bCg(i:Nat)(f:Ex)(st:za):dw i f st=(f st).bind λd=>match d with|.lst a=>(match st[i]? with|some (some<|.o .l xs)=>aP (xs.length+a.length<=big) (.ok<|.nx<|st.set i<|some<|.o .l<|xs++a)|_=>.bad)|_=>.bad:=rfl
@[simp] theorem ZX(i:Nat)(c f:String)(e:Ex)(st:za):wC i c f e st=(e st).bind λd=>match st[i]? with|some (some<|.o (.i n b a) xs)=>aP (b=c/\f∉a/\a.length<900) (.ok<|.nx<|st.set i<|some<|.o (.i n b<|a++[f])<|xs++[d])|_=>.bad:=rfl
@[simp] theorem mH(c f b:String)(a:wf)(xs:dL):eY c f (.ins b a xs)=aP (b=c) (Fg<|(a.zip xs).lookup f):=rfl
@[simp] theorem bGy(is:ac)(b:Bd)(st:za):ik is b st=b (is.foldl Ar st):=rfl
@[simp] theorem bM6(st:za)(i:Nat):Ar st i=(match st[i]? with|some (some<|.o k xs)=>st.set i (some<|.v<|js k xs)|_=>st):=rfl
@[simp] theorem é(x:D)(ys:dL):pG x (.lst ys)=aP (gU ys<=60/\plain x=true/\bZ ys=true) (.ok<|.bl<|!inD x ys):=by cases x<;>rfl
@[simp] theorem bLl(i j:Int):Jw (.int i) (.int j)=.ok (.bl<|decide (j<=i)):=rfl
@[simp] theorem bJy(b:Int):Jq (.int b)=true:=rfl
@[simp] theorem bJz(b:dL):Jq (.lst b)=true:=rfl
@[simp] theorem bM7(i:Nat)(d:D)(st:za):jb i d st=.ok (st.set i<|some<|.v d):=rfl
@[simp] theorem bLm(st:za):Uj [] st=st:=rfl
@[simp] theorem bK0(i:Nat)(is:ac)(st:za):Uj (i::is) st=Uj is (st.set i none):=rfl
def lL(tg:Tg)(c f:Ex)(st:za)(d:D)(ds:dL):kW tg c f st (d::ds)=(tg d st).bind λs1=>(c s1).bind λx=>Ij x λb=>if b=true then (f s1).bind λy=>(kW tg c f st ds).bind λys=>.ok (y::ys) else kW tg c f st ds:=rfl
@[simp] theorem yY(is:ac)(tg:Tg)(it:ij)(c f:Ex)(st:za):bH is tg it c f st=(it st).bind λxs=>aP (xs.length<=big) ((kW tg c f (Uj is st) xs).bind λys=>.ok<|.lst ys):=rfl
@[simp] theorem bK1(st:za):cJ st=.ok (.nx st):=rfl
@[simp] theorem bCh(a b:Bd)(st:za):aY a b st=By (a st) b:=rfl
@[simp] theorem bCi(i:Nat)(f:Ex)(st:za):cO i f st=(f st).bind λd=>.ok (.nx<|st.set i<|some<|.v d):=rfl
@[simp] theorem bLn(tg:Tg)(f:Ex)(st:za):bt tg f st=(f st).bind λd=>(tg d st).bind λs1=>.ok (.nx s1):=rfl
@[simp] theorem CD(f:Ex)(st:za):cL f st=(f st).bind λd=>.ok (.rt d):=rfl
@[simp] theorem bGz(c:Ex)(a b:Bd)(st:za):Oc c a b st=(c st).bind λx=>Ij x λq=>if q=true then a st else b st:=rfl
@[simp] theorem bCj(tg:Tg)(it:ij)(a:Bd)(st:za):nG tg it a st=(it st).bind λxs=>Tb tg a xs st:=rfl
@[simp] theorem bK2(i j:Int):dH (.int i) (.int j)=.ok (.int<|i+j):=rfl
@[simp] theorem bLo(i j:Int):Ko (.int i) (.int j)=.ok (.bl<|decide (i<=j)):=rfl
@[simp] theorem bM8(x y:D):Od x y=aP (Fe x<=64/\plain x=true/\plain y=true) (.ok<|.bl<|jd x y):=rfl
@[simp] theorem V4(x y:D):Th x y=aP (Fe x<=64/\plain x=true/\plain y=true) (.ok<|.bl<|!jd x y):=rfl
@[simp] theorem bLp(i:Int):Fe (.int i)=0:=rfl
@[simp] theorem bLq(x:dL):Fe (.tup x)=gU x+1:=by conv=>lhs;unfold Fe
@[simp] theorem bLr(x:dL):Fe (.lst x)=gU x+1:=by conv=>lhs;unfold Fe
@[simp] theorem bIz:plain .Hb=true:=by unfold plain;rfl
@[simp] theorem bK3(b:Bool):plain (.bl b)=true:=rfl
@[simp] theorem bJ0(i:Int):plain (.int i)=true:=rfl
@[simp] theorem bJ1(s:ac):plain (.str s)=true:=rfl
@[simp] theorem bJ2(x:dL):plain (.tup x)=bZ x:=by conv=>lhs;unfold plain
@[simp] theorem bJ3(x:dL):plain (.lst x)=bZ x:=by conv=>lhs;unfold plain
@[simp] theorem bJ4(t:Bool)(k v:dL):plain (.Cf t k v)=false:=rfl
@[simp] theorem bJ5(c:String)(n:wf)(v:dL):plain (.ins c n v)=false:=rfl
@[simp] theorem bJ6(c:String)(n:wf)(v:dL):plain (.Ag c n v)=false:=rfl
@[simp] theorem bK4(f:String):plain (.fn f)=false:=rfl
@[simp] theorem bH0:bZ []=true:=by unfold bZ;rfl
@[simp] theorem oW(a:D)(x:dL):bZ (a::x)=(plain a&&bZ x):=by conv=>lhs;unfold bZ
@[simp] theorem bK5:gU []=0:=by unfold gU;rfl
@[simp] theorem lU(a:D)(x:dL):gU (a::x)=max (Fe a) (gU x):=by conv=>lhs;unfold gU
@[simp] theorem bLs(i j:Int):jd (.int i) (.int j)=(i==j):=by unfold jd;rfl
@[simp] theorem bLt(i j:ac):jd (.str i) (.str j)=(i==j):=rfl
@[simp] theorem bJ7(a:Bool)(b:Bool):jd (.bl a) (.bl b)=(a==b):=by unfold jd;rfl
@[simp] theorem bFe(x:dL)(y:dL):jd (.tup x) (.tup y)=pF x y:=by conv=>lhs;unfold jd
@[simp] theorem rV(x:dL)(y:dL):jd (.lst x) (.lst y)=pF x y:=by conv=>lhs;unfold jd
@[simp] theorem bCk:pF [] []=true:=by unfold pF;rfl
@[simp] theorem Γ(a b:D)(x y:dL):pF (a::x) (b::y)=(jd a b&&pF x y):=by conv=>lhs;unfold pF
@[simp] theorem bK6(x:dL):fZ (.lst x)=.ok (.int x.length):=rfl
@[simp] theorem bLu(x:dL)(i:Int):La (.lst x) (.int i)=Fg (Ee x i):=rfl
@[simp] theorem bMm(xs:dL):js .l xs=.lst xs:=rfl
@[simp] theorem bMn(t:Bool)(a xs:dL):js (.d t a) xs=.Cf t a xs:=rfl
@[simp] theorem bK7(a:α):Fg (some a)=.ok a:=rfl
@[simp] theorem gR{c:Prop}{r:R α}(h:c):aP c r=r:=aF h
@[simp] theorem bCl{b:Bd} (h:ds.length=np):dI np n b ds=(b<|ds.map (λd=>some<|.v d)++List.replicate (n-np) none).bind λx=>match x with
  |.nx _=>.ok .Hb
  |.rt d=>.ok d
  |_=>.bad:=aF h
def W4{xs:List α}{i:Int}(a:0<=i)(h:i<xs.length):Ee xs i=some (xs[i.toNat]'(by omega)):=by
 unfold Ee Yj;rw[Qa a,Qa h];exact Zc _
theorem fc{xs:List α}{i:Nat}(h:i<xs.length):Ee xs (i:Int)=some xs[i]:=by
 rw[W4 (by lia) (by lia)]
 simp
def zQ:Go
 |.lst x=>.ok<|.lst x
 |.tup x=>.ok<|.lst x
 |_=>.bad
noncomputable def Gw:List D->R (List Bool)
 |[]=>.ok []
 |.bl b::r=>(Gw r).bind λx=>.ok<|b::x
 |_::_=>.bad
noncomputable def wD:List D->R (List Int)
 |[]=>.ok []
 |.int i::r=>(wD r).bind λx=>.ok<|i::x
 |_::_=>.bad
noncomputable def Lq:Go
 |.lst x=>(Gw x).bind λl=>.ok<|.bl<|l.all id
 |_=>.bad
noncomputable def so:List Int->Int
 |[]=>0
 |i::r=>r.foldl (λa b=>if b>a then b else a) i
noncomputable def sy:Go
 |.lst x=>(wD x).bind λl=>aP (0<l.length)<|.ok<|.int<|so l
 |_=>.bad
theorem X4:∀{x:dL}{l:u8},Gw x=.ok l->x=l.map D.bl
 |[],l,h=>by cases h;rfl
 |d::x,l,h=>by
  cases d<;>first|(cases h)|skip
  obtain⟨c,b,a⟩:=R.ua h;cases a;rw[X4 b];rfl
theorem WC:∀{x:dL}{l:lw},wD x=.ok l->x=l.map D.int
 |[],l,h=>by cases h;rfl
 |d::x,l,h=>by
  cases d<;>first|(cases h)|skip
  obtain⟨c,b,a⟩:=R.ua h;cases a;rw[WC b];rfl
theorem O0:∀(l:u8),Gw (l.map D.bl)=.ok l
 |[]=>rfl
 |b::l=>by show (Gw _).bind _=_;rw[O0 l];rfl
theorem qL:∀(l:lw),wD (l.map D.int)=.ok l
 |[]=>rfl
 |b::l=>by show (wD _).bind _=_;rw[qL l];rfl
theorem LJ:∀(r:lw)(a:Int),a<=r.foldl (λa b=>if b>a then b else a) a/\(∀x∈r,x<=r.foldl (λa b=>if b>a then b else a) a)/\(r.foldl (λa b=>if b>a then b else a) a=a\/r.foldl (λa b=>if b>a then b else a) a∈r)
 |[],a=>⟨Int.le_refl _,λ_ h=>(by cases h),.inl rfl⟩
 |b::r,a=>by
  obtain⟨d,e,c⟩:=LJ r _;rw[Dw];refine⟨Int.le_trans (by split<;>lia) d,λx hx=>?_,?_⟩
  .rcases Mb.mp hx with rfl|hx
   .exact Int.le_trans (by split<;>lia) d
   exact e x hx
  rcases c with c|c
  .rw[c];split
   .exact .inr Cb
   exact .inl rfl
  exact .inr<|Kb _ c
theorem R0{l:lw}{m:Int}(c:m∈l)(b:∀x∈l,x<=m):so l=m:=by
 cases l with
 |nil=>cases c
 |cons i r=>
  obtain⟨h,d,a⟩:=LJ r i;have g:so (i::r)<=m:=by
   rcases a with a|a
   .exact b _ (by show r.foldl _ i∈_;rw[a];exact Cb)
   exact b _<|Kb _ a
  have f:m<=so (i::r):=by
   rcases Mb.mp c with e|e
   .rwa [e]
   exact d _ e
  lia
def R.si{a:Type}(r:R a):R a:=match r with
 |.exc _=>.bad
 |r=>r
def R.ak{r:R α}{a:α}(h:r.si=.ok a):r=.ok a:=by
 cases r with
 |ok b=>exact h
 |exc x=>cases h
 |bad=>cases h
def PB(b:Bd):Bd:=λst=>(b st).si
def MH(f:Ex):Ex:=λst=>(f st).si
def CI(p:im):im:=λds=>R.si<|p ds
noncomputable def dE(c:String)(r:Ci):Bd:=λst=>(r st).si.bind λxs=>aP (xs.length<=100)<|.exc<|.Ag c [] []
def FF:List (List String×List String×(String->Bd))->String->za->R Fl
 |[],_,_=>.bad
 |(a,no,b)::d,c,st=>if c∈a then (b c st).si else if c∈no then FF d c st else .bad
def Y4(i:Nat):Fl->Fl
 |.nx st=>.nx<|st.set i none
 |.bk st=>.bk<|st.set i none
 |.ct st=>.ct<|st.set i none
 |.rt d=>.rt d
def kR(i:Nat)(b:Bd):String->Bd:=λc st=>(b<|st.set i<|some<|.v<|.Ag c [] []).bind λa=>.ok<|Y4 i a
def GF(a no:wf):Go
 |.Ag c _ _=>if c∈a then .ok (.bl true) else if c∈no then .ok (.bl false) else .bad
 |_=>.bad
def Cy(b:Bd)(a:List (List String×List String×(String->Bd))):Bd:=λst=>match b st with
 |.exc (.Ag c [] [])=>FF a c st
 |.exc _=>.bad
 |r=>r
def fE(p:im)(r:Ci):Ex:=λst=>(r st).si.bind p
inductive Z_ where
 |nx (u_:List (List D)) (st:za)|rt (d:D)
abbrev NB:=List dL->za->R Z_
noncomputable def bY(l:lw):lw:=l.foldl (λa x=>if a.any (· == x) then a else a++[x]) []
def uH:Nat->List D->List D
 |_,[]=>[]
 |n,d::ds=>.tup [.int (n:Int),d] :: uH (n+1) ds
def P7(f:Ex):ij:=λst=>(f st).bind λx=>match x with
 |.lst xs=>.ok<|uH 0 xs
 |_=>.bad
noncomputable def atom:Fk
 |.Hb=>true
 |.bl _=>true
 |.int _=>true
 |.str _=>true
 |_=>false
def bK9:Fk
 |.lst xs=>xs.all atom
 |_=>false
noncomputable section
def bH1:Go
 |.lst xs=>aP (xs.length<=big/\xs.all bK9=true)<|.ok<|.lst xs
 |_=>.bad
def unL:D->List D
 |.lst xs=>xs
 |_=>[]
open Classical in
def bMo(c:String)(a n:Nat)(b:Bd)(ds:dL):R D:=if h:∃r,∀x,Vs c a n b x ds=r then choose h else .bad
end
noncomputable def Mq:List Nat->List D->List D
 |c::z,d::ds=>.tup [.str [c],d] :: Mq z ds
 |_,_=>[]
noncomputable def SE(f g:Ex):ij:=λst=>(f st).bind λx=>(g st).bind λy=>match x,y with
 |.str z,.lst ds=>.ok<|Mq z ds
 |_,_=>.bad
noncomputable section
def DD:Go
 |.int n=>aP (-(big:Int)<=n/\n<=(big:Int))<|.ok<|.lst<|lK 0 n.toNat
 |_=>.bad
def Nq:ag
 |.int i,.int j=>aP (0<=j/\j<=1000000/\i.natAbs<18446744073709551616)<|.ok<|.int<|i*2^j.toNat
 |_,_=>.bad
def Dy:ag
 |.int i,.int j=>aP (0<=j)<|.ok<|.int<|i/2^j.toNat
 |_,_=>.bad
def Oq:ag
 |.int i,.int j=>aP (0<=i/\0<=j)<|.ok<|.int ((i.toNat&&&j.toNat:Nat):Int)
 |_,_=>.bad
def Kp:ag
 |.int i,.int j=>aP (0<=i/\0<=j)<|.ok<|.int ((i.toNat|||j.toNat:Nat):Int)
 |_,_=>.bad
noncomputable def UE:Bx
 |.lst xs,[.int k]=>(wD xs).bind λl=>(Fg<|l.findIdx? λi=>i==k).bind λn=>aP (xs.length<=big)<|.ok<|.int (n:Int)
 |_,_=>.bad
end
def xM(i:Int):Nat:=if i=0 then 0 else i.natAbs.log2+1
def ED:Go
 |.int i=>.ok<|.int (xM i:Nat)
 |_=>.bad
noncomputable def Il:ag
 |.int i,.int j=>.ok<|.bl<|decide (i<j)
 |_,_=>.bad
noncomputable def iZ:ag
 |.int i,.int j=>aP ((-18446744073709551616<i/\i<18446744073709551616)\/(-18446744073709551616<j/\j<18446744073709551616))<|.ok<|.int<|i*j
 |_,_=>.bad
@[simp] theorem VJ(i j:Int):Il (.int i) (.int j)=.ok (.bl<|decide (i<j)):=rfl
end Pu
variable{nb:Pu.NB}
namespace Pu
noncomputable section
def eF(l:lw):lw:=l.mergeSort λa b=>decide (a<=b)
def fG(l:lw):(eF l).Perm l:=List.mergeSort_perm _ _
def AY(l:lw):(eF l).Pairwise (· <= ·):=by
 have h:=List.pairwise_mergeSort (le:=λa b:Int=>decide (a<=b)) (λa b c e d=>by
  have:=Ck e;have:=Ck d;exact Bf<|by omega) (λa b=>by
  rcases Int.le_total a b with h|h
  .simp[h]
  .simp[h]) l
 exact h.imp λh=>Ck h
def pU:Go
 |.lst x=>(wD x).bind λl=>aP (l.length<=4000/\(bY l).length<64)<|.ok<|.lst<|(eF<|bY l).map D.int
 |_=>.bad
end
def zP:List D->List D->List D
 |c::z,d::y=>.tup [c,d] :: zP z y
 |_,_=>[]
def tE(f g:Ex):ij:=λst=>(f st).bind λx=>(g st).bind λy=>match x,y with
 |.lst z,.lst w=>.ok<|zP z w
 |_,_=>.bad
noncomputable section
def zj:dL->R (List<|Int×Int)
 |[]=>.ok []
 |.tup [.int i,.int j] :: x=>(zj x).bind λl=>.ok<|(i,j)::l
 |_=>.bad
def pD(p:Do):D:=.tup [.int p.1,.int p.2]
theorem AM:∀{x:dL} {l:lv},zj x=.ok l->x=l.map pD
 |[],_,h=>by cases h;rfl
 |d::x,l,h=>by
  unfold zj at h;split at h
  .simp_all
  .rename_i i j c e;cases e;obtain⟨m,a,b⟩:=R.ua h;cases b;rw[AM a];rfl
  cases h
end
noncomputable section
open PySem.W PyProof.Rows
def Ey{b:Type}(c:GM):KasT b->b
 |.ret a=>a
 |.ask i j k=>Ey c<|k<|c i j
def Jh{b:Type}(c:GM)(n:Nat):KasT b->(b->Prop)->Prop
 |.ret a,Q=>Q a
 |.ask i j k,Q=>i<n/\j<n/\Jh c n (k<|c i j) Q
def Jh.run{c:GM} {Q:α->Prop} {t:KasT α} (h:Jh c n t Q):Q (Ey c t):=by
 induction t with
 |ret _=>exact h
 |ask i j k a=>exact a _ h.2.2
theorem Jh.bind{b d:Type}{c:GM}{n:Nat}{P:b->Prop}{Q:d->Prop}{f:b->KasT d}(g:∀a,P a->Jh c n (f a) Q){t:KasT b}(h:Jh c n t P):Jh c n (t.bind f) Q:=by
 induction t with
 |ret a=>exact g a h
 |ask i j k e=>exact⟨h.1,h.2.1,e _ h.2.2⟩
def Ui(n:Nat)(p:GT):Prop:=0<n/\p.toList.Perm (List.range n)
section
variable{c:GM} {p:GT}
def Ui.lt(h:Ui n p)(i:Nat):p.getD i 0<n:=by
 by_cases a:i<p.size
 .rw[show p.getD i 0=p[i] by simp[a]]
  exact Vi.mp<|h.2.mem_iff.mp<|W8.mpr<|Array.getElem_mem a
 rw[show p.getD i 0=0 by simp[a]]
 exact h.1
def Ui.rev(h:Ui n p)(i j:Nat):Ui n (kas_rev p i j):=⟨h.1,(s8.mp<|mirror_perm _ _ _ _).trans h.2⟩
theorem BM(h:Ui n p):∀(f m:Nat),Jh c n (kas_asc p f m) λ_=>True
 |0,_=>trivial
 |f+1,m=>⟨h.lt _,h.lt _,by dsimp only;split;exact trivial;exact BM h f _⟩
theorem FD:∀(f:Nat){p:GT}(m q:Nat),Ui n p->Jh c n (kas_desc f p m q) λr=>Ui n r.1
 |0,_,_,_,h=>h
 |f+1,p,m,q,h=>⟨h.lt _,h.lt _,by
  dsimp only
  by_cases e:c (p.getD m 0) (p.getD (m-1) 0)=true
  .rw[Qa e];split
   .exact FD f _ _ (h.rev _ _)
   exact FD f _ _ h
  rw[Ea e];exact⟨h.lt _,h.lt _,by dsimp only;split;exact h;exact FD f _ _ h⟩⟩
def U0(h:Ui n p)(m z:Nat):Jh c n (kas_tail3 m z p) λr=>Ui n r.2:=by
 refine Jh.bind (λ_ _=>?_)<|BM (h.rev _ _) _ _
 exact h.rev _ _
def BY(h:Ui n p)(m z:Nat):Jh c n (kas_descPart m z p) λr=>Ui n r.2:=Jh.bind (λr a=>by
 split
 .exact U0 (a.rev _ _) _ _
 exact U0 a _ _) (FD _ _ _ h)
def ŧ(h:Ui n p)(z:Nat):Jh c n (kas_count z p) λr=>Ui n r.2:=Jh.bind (λm _=>by
 split
 .exact h
 split
 .exact⟨h.lt _,h.lt _,by dsimp only;split;exact h;exact BY (h.rev _ _) _ _⟩
 exact BY h _ _) (BM h _ _)
theorem CY(h:Ui n p)(k:Nat):∀(f l r:Nat),Jh c n (kas_place p k f l r) λ_=>True
 |0,_,_=>trivial
 |f+1,l,r=>by
  unfold kas_place;split
  .exact trivial
  exact⟨h.lt _,h.lt _,by dsimp only;split<;>exact CY h k f _ _⟩
theorem Z4:∀(f:Nat){p:GT}(k:Nat),Ui n p->Jh c n (kas_bin f p k) (Ui n)
 |0,_,_,h=>h
 |f+1,p,k,h=>Jh.bind (λl _=>Z4 f (k+1) ⟨h.1,(s8.mp<|bubble_perm _ _ _).trans h.2⟩)<|CY h k _ _ _
def V0(h:0<n):Jh c n (kas_sort n) (Ui n):=Jh.bind (λr a=>by
 split
 .exact Z4 _ _ a
 exact a) (ŧ ⟨h,.refl _⟩ _)
end
def ltQ(x y:Do):Bool:=if x.1==y.1 then decide (x.2<y.2) else decide (x.1<y.1)
def d9(l:lv)(i j:Nat):Bool:=ltQ (l.getD i (0,0))<|l.getD j (0,0)
def Gj(l:lv):ac:=if l.length<2 then List.range l.length else (Ey (d9 l)<|kas_sort l.length).toList
def fw(l:lv):lv:=(Gj l).map λi=>l.getD i (0,0)
def map_range{d:α}(l:List α):((List.range l.length).map λi=>l.getD i d)=l:=OP (by simp) λi b a=>by simp[a]
def xN(l:lv):(Gj l).Perm (List.range l.length):=by
 unfold Gj;split
 .exact .refl _
 exact(Jh.run<|V0<|by omega).2
def Ĝ(l:lv):(fw l).Perm l:=by
 have:=(xN l).map λi=>l.getD i (0,0)
 rwa [map_range]at this
def Hs:Go
 |.Cf true a _=>aP (a.length<=big)<|.ok<|.lst a
 |_=>.bad
def AN:Go
 |.lst x=>(zj x).bind λl=>aP (l.length<64)<|.ok<|.lst<|(fw l).map pD
 |_=>.bad
def Rv:Go
 |.Cf true a _=>(zj a).bind λl=>aP (l.length<64)<|.ok<|.lst<|(fw l).map pD
 |_=>.bad
end
noncomputable section
def VE:ag
 |.lst z,.lst w=>.ok<|.lst<|zP z w
 |_,_=>.bad
def BN:Bx
 |.lst xs,[y]=>(Fg<|xs.findIdx? λd=>jd d y).bind λn=>aP (xs.length<=big/\gU xs<=60/\plain y=true/\bZ xs=true)<|.ok<|.int (n:Int)
 |_,_=>.bad
def gE(i:Nat)(g f:Ex):Bd:=λst=>(g st).bind λk=>(f st).bind λd=>aP (Rb true k=true/\atom d=true)<|.ok<|.nx<|st.set i<|some<|.o (.d true [k]) [d]
def CM(p:im)(a:dL)(r:Ci):Ex:=λst=>(r st).bind λxs=>p<|xs++a
def Zo(g:im):D->D->List D->R D
 |b,_,[]=>.ok b
 |b,a,d::ds=>(g [d]).bind λk=>match k,a with
  |.tup x,.tup y=>aP (gU x<=60/\bZ x=true/\bZ y=true)<|(rm x y).bind λt=>if t=true then Zo g d k ds else Zo g b a ds
  |_,_=>.bad
def Qq(g:im):Go
 |.lst []=>.ok .Hb
 |.lst (d::ds)=>(g [d]).bind λk=>Zo g d k ds
 |_=>.bad
def Fy(f:String)(bs:u8):ag
 |.fn g,i=>aP (g=f)<|La (.tup<|bs.map D.bl) i
 |x,i=>La x i
def xp(f g:Ex):Ex:=λst=>match f st with
 |.bad=>g st
 |r=>r
def bH2{st:za} (h:xp f g st=.ok d):f st=.ok d\/g st=.ok d:=by
 unfold xp at h;split at h
 .exact .inr h
 .exact .inl h
end
@[irreducible] def huge:Nat:=2^9000
noncomputable section
def Q7(f:Ex)(k:Nat):Ex:=λst=>(f st).bind λx=>match x with
 |.tup xs=>aP (k<xs.length)<|.ok<|.tup<|xs.take k
 |_=>.bad
end
noncomputable def yv:Go
 |.Cf false _ ds=>aP (ds.length<=big)<|.ok<|.lst ds
 |_=>.bad
noncomputable section
abbrev Pq:=Int×Bool×Bool×Bool
def fM:List (Int×Pq)->Int->Pq
 |[],_=>(0,false,false,false)
 |s::S,n=>if s.1=n then s.2 else fM S n
def fK:List (Int×Pq)->Int->Pq->List (Int×Pq)
 |[],n,v=>[(n,v)]
 |s::S,n,v=>if s.1=n then (n,v)::S else s::fK S n v
def wV:Option Sl->Bool
 |some (.o _ _)=>false
 |_=>true
def il(x:Bool)(f:Ex)(st:za):R Bool:=if x=true then .ok true else (f st).bind λd=>match d with
 |.bl b=>.ok b
 |_=>.bad
def Jl(a d:dL)(g:Nat)(n:Int)(f:Ex):dL->Bool->za->R (Option Bool×za)
 |[],b,st=>.ok (some b,st)
 |z::e,b,st=>aP (Rb true z=true) (if jQ a z=true then (Fg<|mG a d z).bind λm=>Hu m λm=>if n<m then .ok (none,st) else (il b f<|st.set g<|some<|.v z).bind λc=>Jl a d g n f e c (st.set g<|some<|.v z)
  else (il b f<|st.set g<|some<|.v z).bind λc=>Jl a d g n f e c<|st.set g<|some<|.v z)
def Mm(e d:dL)(k g:Nat)(i h f:Ex)(it:ij):dL->List (Int×Pq)->za->R (Option<|List<|Int×Pq)
 |[],S,_=>.ok<|some S
 |x::xs,S,st=>(Fg<|mG e d x).bind λm=>Hu m λn=>(il (fM S n).2.1 i<|st.set k<|some<|.v x).bind λa=>(il (fM S n).2.2.1 h<|st.set k<|some<|.v x).bind λb=>
   (it<|st.set k<|some<|.v x).bind λj=>(Jl e d g n f j (fM S n).2.2.2<|st.set k<|some<|.v x).bind λr=>match r with
    |(none,_)=>.ok none
    |(some c,l)=>Mm e d k g i h f it xs (fK S n ((fM S n).1+1,a,b,c)) l
def ap(S:List (Int×Pq)):Bool:=S.all λs=>!(s.2.2.1&&(s.2.2.2.1&&(decide (1<s.2.1)||s.2.2.2.2)))
def R7:Option (List<|Int×Pq)->Bool
 |none=>false
 |some S=>ap S
def HF(t d p k g b:Nat)(h f e:Ex)(it:ij):Bd:=λst=>match st[t]? with
 |some (some<|.o (.d true c) a)=>aP ((a.all atom=true/\a.length<=1000000)/\(((st.set t none).set d none).set p none).all wV=true/\d<st.length/\p<st.length/\k<st.length/\g<st.length/\b<st.length)<|(Mm c a k g h f e it c []<|((st.set t none).set d none).set p none).bind λr=>.ok<|.rt<|.bl<|R7 r
 |_=>.bad
abbrev eI(n:Int):Ex:=eC<|.int n
def Ã:Bd:=aY (Oc (e2 Il (aA 1)<|e1 fZ<|aA 0) (cL<|e2 La (aA 0)<|aA 1) cJ)<|aY (Oc (e2 Od (e1 fZ<|aA 0)<|eI 0) (cL<|e2 dH (e2 iZ (eI 48271)<|aA 1)<|eI 7) cJ)<|cL<|e2 dH (e2 La (aA 0)<|e2 kO (e2 iZ (aA 1)<|eI 7)<|e1 fZ<|aA 0)<|e2 iZ (eI 7919)<|aA 1
def dJ:im:=dI 2 2 Ã
def ê:Bd:=aY (cO 3<|e2 kO (e2 iZ (e2 dH (e2 dH (e2 kO (aA 0)<|eI 2147483647)<|e2 iZ (eI 7919)<|aA 1)<|eI 104729)<|eI 48271)<|eI 2147483629)<|aY (cO 3<|e2 kO (e2 iZ (e2 kO (e2 iZ (aA 3)<|aA 3)<|eI 2147483647)<|eI 69621)<|eI 2147483587)<|cL<|e2 kO (e2 kO (e2 iZ (aA 3)<|aA 3)<|eI 2147483629)<|aA 2
def bM:im:=dI 3 4 ê
def wF(st:za):R Fl:=(aY (Lm 3<|e2 kO (aA 0)<|aA 1)<|cO 0<|e2 Aq (aA 0)<|aA 1) st
def Ϗ:Bd:=aY (qT 3<|gK aR)<|aY (nG (jb 4) (nD<|aA 2) wF)<|ik [3]<|cL<|aA 3
def oG:im:=dI 3 5 Ϗ
def YU(st:za):R D:=(aV bM<|aC (aV dJ<|aC (aA 0)<|aC (e2 dH (e2 dH (aA 1)<|eI 1)<|aA 8) aR)<|aC (aA 9)<|aC (aA 5) aR) st
def vC(st:za):R D:=(bH [9] (jb 9) (nD<|aA 3) bK YU) st
def pW(st:za):R D:=(aV oG<|aC (aV dJ<|aC (aA 0)<|aC (e2 dH (e2 dH (aA 1)<|eI 1)<|aA 8) aR)<|aC (aA 5)<|aC (aA 3) aR) st
def vD(st:za):R D:=(aV bM<|aC (aV dJ<|aC (aA 0)<|aC (e2 dH (e2 dH (aA 1)<|eI 1)<|aA 8) aR)<|aC (eI 5)<|aC (e2 dH (eI 2)<|aV bM<|aC (aA 4)<|aC (eI 2)<|aC (eI 4) aR) aR) st
def pX(st:za):R D:=(e2 dH (aA 10)<|e2 iZ (e2 kO (aV dJ<|aC (aA 0)<|aC (aA 1) aR)<|e2 JO (eI 10)<|eI 29)<|eI 2) st
def FV:Bd:=aY (cO 4<|aV dJ<|aC (aA 0)<|aC (aA 1) aR)<|aY (cO 5<|e2 dH (eI 1)<|aV bM<|aC (aA 4)<|aC (eI 1)<|aC (aA 2) aR)<|aY (cO 6<|bH [8] (jb 8) (nD<|aA 5) bK vC)<|aY (Oc (e2 Od (aV bM<|aC (aA 4)<|aC (eI 4)<|aC (eI 2) aR)<|eI 0) (cO 6<|bH [8] (jb 8) (nD<|aA 5) bK pW) cJ)<|aY (cO 7<|bH [8] (jb 8) (nD<|aA 5) bK vD)<|aY (Oc (e2 Od (aV bM<|aC (aA 4)<|aC (eI 3)<|aC (eI 8) aR)<|eI 0) (cO 7<|bH [10] (jb 10) (cc<|aA 7) bK pX) cJ)<|cL<|gK<|aC (aA 6)<|aC (aA 7) aR
def qU:im:=dI 4 11 FV
def lD(st:za):R D:=(e2 dH (aA 9)<|eI 2) st
def wG(st:za):R D:=(e2 dH (aA 10)<|e2 iZ (aA 3)<|aV bM<|aC (aA 0)<|aC (e2 dH (e2 dH (eI 3)<|e2 iZ (eI 5)<|aA 7)<|aA 10)<|aC (eI 2) aR) st
def lE(st:za):R Fl:=(Lm 6<|bH [10] (jb 10) (cc<|e2 La (aA 1)<|e2 kO (aA 7)<|aA 3) bK wG) st
def gF(st:za):R D:=(e2 dH (aA 9)<|eI 2) st
def wH(st:za):R D:=(e2 kO (e2 dH (aA 10)<|eI 1)<|aA 3) st
def pH(st:za):R D:=(bH [10] (jb 10) (cc<|e2 La (aA 1)<|e2 Ay (aA 7)<|eI 1) bK wH) st
def pI(st:za):R D:=(e2 La (aA 2)<|e2 Ay (aA 7)<|eI 1) st
def wJ(st:za):R D:=(e2 dH (aA 9)<|eI 1) st
def ϐ:Bd:=aY (cO 3<|e1 fZ<|aA 1)<|aY (cO 4<|aV bM<|aC (aA 0)<|aC (eI 1)<|aC (eI 5) aR)<|aY (Oc (e2 Od (aA 4)<|eI 0) (cL<|gK<|aC (aA 1)<|aC (bH [9] (jb 9) (cc<|aA 2) bK lD) aR) cJ)<|aY (Oc (e2 Od (aA 4)<|eI 1) (aY (cO 5<|aV bM<|aC (aA 0)<|aC (eI 2)<|aC (aA 3) aR)<|cL<|gK<|aC (aA 1)<|aC (e2 dH (e2 dH (mn (aA 2) xH<|xJ<|aA 5)<|gK<|aC (e2 dH (e2 La (aA 2)<|aA 5)<|eI 1) aR)<|mn (aA 2) (xJ<|e2 dH (aA 5)<|eI 1) xH) aR) cJ)<|aY (Oc (qR (e2 Od (aA 4)<|eI 2)<|e2 Il (aA 3)<|eI 4) (aY (qT 6<|gK aR)<|aY (nG (jb 7) (nD<|e2 iZ (eI 2)<|aA 3) lE)<|ik [6]<|cL<|gK<|aC (aA 6)<|aC (e2 dH (aA 2)<|bH [9] (jb 9) (cc<|aA 2) bK gF) aR) cJ)<|aY (Oc (e2 Od (aA 4)<|eI 3) (aY (cO 8<|bH [7] (jb 7) (nD<|aA 3) bK pH)<|cL<|gK<|aC (aA 8)<|aC (bH [7] (jb 7) (nD<|aA 3) bK pI) aR) cJ)<|cL<|gK<|aC (aA 1)<|aC (bH [9] (jb 9) (cc<|aA 2) bK wJ) aR
def jC:im:=dI 3 11 ϐ
def GV:Bd:=aY (cO 1<|aV dJ<|aC (aA 0)<|aC (eI 0) aR)<|aY (cO 2<|e2 dH (eI 1)<|aV bM<|aC (aA 1)<|aC (eI 1)<|aC (eI 3) aR)<|aY (cO 3<|eI 4)<|aY (Oc (e2 Od (aV bM<|aC (aA 1)<|aC (eI 2)<|aC (eI 16) aR)<|eI 0) (cO 3<|eI 5) cJ)<|aY (cO 4<|aV qU<|aC (aA 0)<|aC (eI 1)<|aC (aA 3)<|aC (aA 2) aR)<|aY (cO 5<|aV qU<|aC (aA 0)<|aC (eI 10)<|aC (aA 3)<|aC (aA 2) aR)<|aY (Oc (e2 Am (aV bM<|aC (aA 1)<|aC (eI 3)<|aC (eI 4) aR)<|eI 0) (cO 5<|aV jC<|aC (aV dJ<|aC (aA 0)<|aC (eI 10) aR)<|aC (e2 La (aA 4)<|eI 0)<|aC (e2 La (aA 4)<|eI 1) aR) cJ)<|cL<|gK<|aC (aA 4)<|aC (aA 5)<|aC (aV bM<|aC (aA 1)<|aC (eI 4)<|aC (e1 fZ<|e2 La (aA 4)<|eI 0) aR)<|aC (aV bM<|aC (aA 1)<|aC (eI 5)<|aC (e1 fZ<|e2 La (aA 5)<|eI 0) aR) aR
def vG:im:=dI 1 6 GV
def ë:Bd:=cL<|e2 Od (e2 Oq (e2 Dy (aA 0)<|aA 1)<|eI 1)<|eI 1
def nJ:im:=dI 2 2 ë
def ZU(st:za):R D:=(aA 1) st
def gV(st:za):R D:=(aV nJ<|aC (aA 0)<|aC (aA 1) aR) st
def ì:Bd:=cL<|bH [1] (jb 1) (nD<|e1 ED<|aA 0) gV ZU
def iM:im:=dI 1 2 ì
def HV(st:za):R Fl:=(cO 1<|e2 Kp (aA 1)<|aA 2) st
def Ũ:Bd:=aY (cO 1<|eI 0)<|aY (nG (jb 2) (cc<|aA 0) HV)<|cL<|aA 1
def XC:im:=dI 1 3 Ũ
def Ä:Bd:=cL<|xp (e2 La (aA 0)<|e2 dH (e2 iZ (e2 kO (aA 1)<|eI 2)<|eI 2)<|e2 kO (aA 2)<|eI 2)<|xp (e2 (Fy "JUST_ONE" [false,true,true,false]) (aA 0)<|e2 dH (e2 iZ (e2 kO (aA 1)<|eI 2)<|eI 2)<|e2 kO (aA 2)<|eI 2)<|e2 (Fy "ONE_ALONE" [false,true,false,false]) (aA 0)<|e2 dH (e2 iZ (e2 kO (aA 1)<|eI 2)<|eI 2)<|e2 kO (aA 2)<|eI 2
def lV:im:=dI 3 3 Ä
def nM(st:za):R D:=(nA<|aC (aA 3)<|aC (aA 4) aR) st
def uI(st:za):R D:=(aV lV<|aC (aA 1)<|aC (aA 3)<|aC (aA 4) aR) st
def uJ(st:za):R Fl:=(dw 2<|bH [4] (jb 4) (cc<|e1 pU<|e1 (eY "Sides" "rights")<|aA 0) uI nM) st
def Δ:Bd:=aY (qT 2<|gK aR)<|aY (nG (jb 3) (cc<|e1 pU<|e1 (eY "Sides" "lefts")<|aA 0) uJ)<|ik [2]<|cL<|aA 2
def gZ:im:=dI 2 5 Δ
def oX(st:za):R Fl:=(cO 1<|e2 Kp (aA 1)<|e2 Nq (eI 1)<|aA 2) st
def ĝ:Bd:=aY (cO 1<|eI 0)<|aY (nG (jb 2) (cc<|aA 0) oX)<|cL<|aA 1
def nO:im:=dI 1 3 ĝ
def xO(st:za):R Fl:=(Yc 3 (aA 4)<|e2 Oq (e2 Kp (aV nO<|aC (e2 La (aA 0)<|aA 4) aR)<|e2 Nq (eI 1)<|aA 4)<|aA 1) st
def qW(st:za):R Fl:=(Oc (aV nJ<|aC (e2 La (cW 3)<|aA 4)<|aC (aA 5) aR) (Yc 3 (aA 4)<|e2 Kp (e2 La (cW 3)<|aA 4)<|e2 La (cW 3)<|aA 5) cJ) st
def xP(st:za):R Fl:=(nG (jb 4) (cc<|aA 2) qW) st
def ϩ:Bd:=aY (cO 2<|aV iM<|aC (aA 1) aR)<|aY (Ov 3 false)<|aY (nG (jb 4) (cc<|aA 2) xO)<|aY (nG (jb 5) (cc<|aA 2) xP)<|ik [3]<|cL<|aA 3
def mJ:im:=dI 2 6 ϩ
def Ϫ:Bd:=aY (cO 2<|aV iM<|aC (aA 1) aR)<|cL<|Jk (e2 Am (e1 fZ<|aA 2)<|eI 1)<|e2 yr (e2 La (aA 2)<|eI 0)<|e2 La (aA 0)<|e2 La (aA 2)<|eI 0
def pY:im:=dI 2 3 Ϫ
def ξ(st:za):R D:=(aA 6) st
def ο(st:za):R D:=(aV nJ<|aC (e2 La (aA 2)<|aA 6)<|aC (aA 4) aR) st
def pJ(st:za):R Fl:=(aY (cO 5<|aV nO<|aC (bH [6] (jb 6) (cc<|aV iM<|aC (e2 La (aA 2)<|aA 4) aR) ο ξ) aR)<|Oc (qR (e2 pG (aA 5)<|cW 3)<|aV pY<|aC (aA 0)<|aC (aA 5) aR) (Lm 3<|aA 5) cJ) st
def ϑ:Bd:=aY (cO 2<|aV mJ<|aC (aA 0)<|aC (aA 1) aR)<|aY (qT 3<|gK aR)<|aY (nG (jb 4) (cc<|aV iM<|aC (aA 1) aR) pJ)<|ik [3]<|cL<|aA 3
def oH:im:=dI 2 7 ϑ
def wK(st:za):R D:=(aA 4) st
def pK(st:za):R D:=(qR (e2 Ko (e2 La (aA 5)<|eI 0)<|aA 1)<|e2 Ko (e2 La (aA 5)<|eI 1)<|aA 2) st
def ϒ:Bd:=aY (cO 3<|e2 VE (e1 (eY "Sides" "lefts")<|aA 0)<|e1 (eY "Sides" "rights")<|aA 0)<|cL<|aV nO<|aC (bH [4,5] (Jf [4,5]) (P7<|aA 3) pK wK) aR
def kY:im:=dI 3 6 ϒ
def G'(st:za):R D:=(e2 La (e1 (eY "Sides" "rights")<|aA 0)<|aA 3) st
def L'(st:za):R D:=(e2 La (e1 (eY "Sides" "lefts")<|aA 0)<|aA 3) st
def γ:Bd:=aY (cO 2<|aV iM<|aC (aA 1) aR)<|cL<|nA<|aC (e1 sy<|bH [3] (jb 3) (cc<|aA 2) bK L')<|aC (e1 sy<|bH [3] (jb 3) (cc<|aA 2) bK G') aR
def jR:im:=dI 2 4 γ
def uK(st:za):R D:=(aA 6) st
def uL(st:za):R D:=(e2 Od (aV jR<|aC (aA 0)<|aC (aA 6) aR)<|nA<|aC (aA 3)<|aC (aA 4) aR) st
def uM(st:za):R Fl:=(aY (cO 5<|aV oH<|aC (e1 (eY "Sides" "steps")<|aA 0)<|aC (aV kY<|aC (aA 0)<|aC (aA 3)<|aC (aA 4) aR) aR)<|dw 2<|bH [6] (jb 6) (cc<|aA 5) uL uK) st
def Ε:Bd:=aY (qT 2<|gK aR)<|aY (nG (Jf [3,4]) (cc<|aV gZ<|aC (aA 0)<|aC (aA 1) aR) uM)<|ik [2]<|cL<|aA 2
def dF:im:=dI 2 7 Ε
def fD(st:za):R Fl:=(aY (cO 9<|nA<|aC (aA 8)<|aC (e2 Nv (e2 La (aA 6)<|eI 1)<|e2 La (e1 (eY "Sides" "lefts")<|aA 0)<|aA 8)<|aC (e2 Nv (e2 La (aA 6)<|eI 2)<|e2 La (e1 (eY "Sides" "rights")<|aA 0)<|aA 8) aR)<|aY (Oc (qR (e2 Od (aA 8)<|aA 2)<|aV lV<|aC (aA 1)<|aC (e2 La (aA 9)<|eI 1)<|aC (e2 La (aA 9)<|eI 2) aR) (cL<|e2 dH (e2 La (cW 3)<|aA 6)<|aA 7) cJ)<|Oc (e2 pG (aA 9)<|cW 3) (aY (Yc 3 (aA 9)<|e2 dH (e2 La (cW 3)<|aA 6)<|aA 7)<|Lm 4<|aA 9) cJ) st
def lF(st:za):R Fl:=(aY (cO 6<|e2 La (cW 4)<|aA 5)<|aY (nG (Jf [7,8]) (SE (eC<|.str [97,98,99])<|e2 La (e1 (eY "Sides" "steps")<|aA 0)<|e2 La (aA 6)<|eI 0) fD)<|cO 5<|e2 dH (aA 5)<|eI 1) st
def lG(st:za):R D:=(e2 Il (aA 5)<|e1 fZ<|cW 4) st
def ϓ:Bd:=aY (gE 3 (nA<|aC (aA 2)<|aC (e1 KO<|eI 1)<|aC (e1 KO<|eI 1) aR)<|eC<|.str [])<|aY (qT 4<|e1 Hs<|cW 3)<|aY (cO 5<|eI 0)<|aY (xv 100000 lG lF)<|cL<|eC .Hb
def oJ:im:=dI 3 10 ϓ
def ε:Bd:=cL<|nA<|aC (e2 dH (e1 fZ<|e2 La (aA 0)<|eI 0)<|e1 fZ<|e2 La (aA 0)<|eI 1)<|aC (e1 fZ<|e2 La (aA 0)<|eI 0)<|aC (e2 La (aA 0)<|eI 0)<|aC (e2 La (aA 0)<|eI 1) aR
def cH:im:=dI 1 1 ε
def wM:Bd:=Oc (e2 Th (e1 (eY "Machine" "letters")<|aA 0)<|e1 (eY "Machine" "letters")<|aA 1) Ux cJ
def jA:im:=dI 2 2 wM
def nQ(st:za):R Fl:=(Yc 2 (nA<|aC (aA 3)<|aC (aA 4) aR)<|e2 VE (e2 La (e1 (eY "Machine" "steps")<|aA 0)<|aA 3)<|e2 La (e1 (eY "Machine" "steps")<|aA 1)<|aA 4) st
def uN(st:za):R Fl:=(nG (jb 4) (nD<|e1 (eY "Machine" "many")<|aA 1) nQ) st
def Ζ:Bd:=aY (Ov 2 true)<|aY (nG (jb 3) (nD<|e1 (eY "Machine" "many")<|aA 0) uN)<|ik [2]<|cL<|aA 2
def mK:im:=dI 2 5 Ζ
def tH(st:za):R Fl:=(Oc (qR (e2 yr (aA 8)<|aA 2)<|e2 pG (aA 8)<|cW 3) (aY (Yc 3 (aA 8)<|e2 dH (e2 La (cW 3)<|aA 6)<|aA 7)<|Lm 4<|aA 8) cJ) st
def zR(st:za):R Fl:=(aY (cO 6<|e2 La (cW 4)<|aA 5)<|aY (nG (Jf [7,8]) (SE (eC<|.str [97,98,99])<|e2 La (aA 0)<|aA 6) tH)<|cO 5<|e2 dH (aA 5)<|eI 1) st
def tK(st:za):R D:=(e2 Il (aA 5)<|e1 fZ<|cW 4) st
def Å:Bd:=aY (gE 3 (aA 1)<|eC<|.str [])<|aY (qT 4<|gK<|aC (aA 1) aR)<|aY (cO 5<|eI 0)<|aY (xv 100000 tK zR)<|ik [3]<|cL<|aA 3
def sE:im:=dI 3 9 Å
def XI:Bd:=cL<|qR (eB isIn<|aA 0)<|vB<|eB cw<|aA 0
def jH:im:=dI 1 1 XI
def YI:Bd:=cL<|qR (aV jH<|aC (aA 0) aR)<|qR (e2 Jw (aA 0)<|eI 0)<|e2 Il (aA 0)<|aA 1
def jJ:im:=dI 2 2 YI
def oY:Bd:=Oc (vB<|aV jJ<|aC (aA 1)<|aC (e1 (eY "Machine" "many")<|aA 0) aR) Ux cJ
def cM:im:=dI 2 2 oY
def qX(st:za):R D:=(e2 La (aA 6)<|aA 7) st
def qY(st:za):R D:=(Lo BN (e1 (eY "Sides" "pairs")<|cW 0)<|aC (aA 8) aR) st
def qZ(st:za):R D:=(bH [8] (jb 8) (cc<|e2 La (aA 5)<|aA 7) bK qY) st
def rA(st:za):R D:=(e2 La (e1 (eY "Machine" "ranks")<|aA 1)<|e2 La (aA 7)<|eI 0) st
def rB(st:za):R D:=(e2 La (e1 (eY "Machine" "ranks")<|aA 2)<|e2 La (aA 7)<|eI 1) st
def iB:Bd:=aY (Kq<|aV jA<|aC (aA 1)<|aC (aA 2) aR)<|aY (Kq<|sN "Machine" "check_room" cM [] (aA 1)<|aC (aA 3) aR)<|aY (Kq<|sN "Machine" "check_room" cM [] (aA 2)<|aC (aA 4) aR)<|aY (cO 5<|aV mK<|aC (aA 1)<|aC (aA 2) aR)<|aY (cO 6<|aV sE<|aC (aA 5)<|aC (nA<|aC (aA 3)<|aC (aA 4) aR)<|aC (e1 Hs<|aA 5) aR)<|aY (wC 0 "Sides" "pairs"<|e1 Rv<|aA 6)<|aY (wC 0 "Sides" "fronts"<|bH [7] (jb 7) (cc<|e1 (eY "Sides" "pairs")<|cW 0) bK qX)<|aY (wC 0 "Sides" "steps"<|bH [7] (jb 7) (cc<|e1 (eY "Sides" "pairs")<|cW 0) bK qZ)<|aY (wC 0 "Sides" "lefts"<|bH [7] (jb 7) (cc<|e1 (eY "Sides" "pairs")<|cW 0) bK rA)<|wC 0 "Sides" "rights"<|bH [7] (jb 7) (cc<|e1 (eY "Sides" "pairs")<|cW 0) bK rB
def dD:im:=qo "Sides" 4 9 iB
def wN(st:za):R D:=(nA<|aC (e2 La (e1 (eY "Sides" "fronts")<|aA 5)<|aA 8)<|aC (aV oJ<|aC (aA 5)<|aC (aA 2)<|aC (aA 8) aR) aR) st
def ϔ:Bd:=aY (cO 5<|aV dD<|aC (aA 0)<|aC (aA 1)<|aC (aA 3)<|aC (aA 4) aR)<|aY (cO 6<|aV iM<|aC (aV XC<|aC (aV dF<|aC (aA 5)<|aC (aA 2) aR) aR) aR)<|aY (cO 7<|bH [8] (jb 8) (cc<|aA 6) bK wN)<|cL<|e1 (Qq cH)<|aA 7
def fL:im:=dI 5 9 ϔ
def rC(st:za):R Fl:=(Oc (e2 pG (aA 6)<|cW 4) (Lm 4<|aA 6) cJ) st
def xQ(st:za):R Fl:=(aY (bt (Jf [7,8])<|e2 La (cW 4)<|aA 5)<|aY (nG (jb 6) (tE (e2 La (aA 0)<|aA 7)<|e2 La (aA 1)<|aA 8) rC)<|cO 5<|e2 dH (aA 5)<|eI 1) st
def rD(st:za):R D:=(e2 Il (aA 5)<|e1 fZ<|cW 4) st
def ϫ:Bd:=aY (qT 4<|gK<|aC (nA<|aC (aA 2)<|aC (aA 3) aR) aR)<|aY (cO 5<|eI 0)<|aY (xv 100000 rD xQ)<|ik [4]<|cL<|e1 AN<|cW 4
def pZ:im:=dI 4 9 ϫ
def zT(st:za):R D:=(e2 La (e2 La (aA 0)<|eI 1)<|aA 7) st
def zU(st:za):R D:=(e2 La (e2 La (aA 1)<|eI 1)<|aA 8) st
def zV(st:za):R Fl:=(Oc (e2 La (aA 2)<|e2 dH (e2 iZ (eI 2)<|e2 kO (aA 5)<|eI 2)<|e2 kO (aA 6)<|eI 2) (Lm 4<|nA<|aC (aA 5)<|aC (aA 6) aR) cJ) st
def zW(st:za):R Fl:=(nG (jb 6) (cc<|e1 pU<|bH [7,8] (Jf [7,8]) (cc<|aA 3) bK zU) zV) st
def Æ:Bd:=aY (qT 4<|gK aR)<|aY (nG (jb 5) (cc<|e1 pU<|bH [7,8] (Jf [7,8]) (cc<|aA 3) bK zT) zW)<|ik [4]<|cL<|aA 4
def sH:im:=dI 4 9 Æ
def wO(st:za):R Fl:=(Oc (qR (e2 Ko (e2 La (e2 La (aA 0)<|eI 1)<|e2 La (aA 8)<|eI 0)<|aA 3)<|e2 Ko (e2 La (e2 La (aA 1)<|eI 1)<|e2 La (aA 8)<|eI 1)<|aA 4) (aY (Oc (Jk (vB<|eB isIn<|aA 10)<|Jk (eB cw<|aA 10)<|e2 Il (aA 10)<|eI 0) (cL<|eC<|.bl false) cJ)<|Yc 6 (aA 8)<|aA 10)<|Oc (e2 sM (aA 10)<|eC .Hb) (cL<|eC<|.bl false) cJ) st
def pL(st:za):R D:=(e2 Od (e2 La (e2 La (aA 0)<|eI 1)<|e2 La (aA 8)<|eI 0)<|aA 3) st
def pM(st:za):R D:=(e2 Od (e2 La (e2 La (aA 1)<|eI 1)<|e2 La (aA 8)<|eI 1)<|aA 4) st
def jB(st:za):R D:=(e2 Od (aA 12)<|aA 8) st
def ϕ:Bd:=aY (Oc (Jk (vB<|eB vp<|aA 5)<|e2 Th (e1 fZ<|aA 5)<|e1 fZ<|aA 2) (cL<|eC<|.bl false) cJ)<|aY (Ov 6 true)<|aY (nG (Jf [8,10]) (tE (aA 2)<|aA 5) wO)<|HF 6 7 11 8 12 9 pL pM jB<|tE (e2 La (e2 La (aA 0)<|eI 0)<|e2 La (aA 8)<|eI 0)<|e2 La (e2 La (aA 1)<|eI 0)<|e2 La (aA 8)<|eI 1
def kZ:im:=dI 6 13 ϕ
def xR(st:za):R D:=(aA 10) st
def xT(st:za):R D:=(vB<|eB N7<|aA 10) st
def xU(st:za):R D:=(e1 fZ<|aA 10) st
def xV(st:za):R D:=(e2 Th (e1 fZ<|aA 10)<|eI 3) st
def xW(st:za):R D:=(Q7 (aA 10) 2) st
def xX(st:za):R Fl:=(Oc (vB<|aV kZ<|aC (aA 0)<|aC (aA 1)<|aC (aA 6)<|aC (aA 7)<|aC (aA 8)<|aC (aA 9) aR) (cL<|eC<|.bl false) cJ) st
def Ϭ:Bd:=aY (cO 6<|aV pZ<|aC (e2 La (aA 0)<|eI 0)<|aC (e2 La (aA 1)<|eI 0)<|aC (aA 3)<|aC (aA 4) aR)<|aY (Oc (Jk (vB<|eB vp<|aA 5)<|e2 Th (bH [10] (jb 10) (cc<|aA 5) xT xR)<|gK aR) (cL<|eC<|.bl false) cJ)<|aY (Oc (e2 Th (bH [10] (jb 10) (cc<|aA 5) xV xU)<|gK aR) (cL<|eC<|.bl false) cJ)<|aY (Oc (e2 Th (bH [10] (jb 10) (cc<|aA 5) bK xW)<|aV sH<|aC (aA 0)<|aC (aA 1)<|aC (aA 2)<|aC (aA 6) aR) (cL<|eC<|.bl false) cJ)<|aY (nG (Jf [7,8,9]) (cc<|aA 5) xX)<|cL<|eC<|.bl true
def qC:im:=dI 6 11 Ϭ
def π(st:za):R D:=(Oz (e2 yr (aA 5)<|aA 3) (Lo UE (aA 4)<|aC (e2 La (aA 3)<|aA 5) aR)<|eC .Hb) st
def ϖ:Bd:=aY (cO 3<|aV mJ<|aC (e1 (eY "Sides" "steps")<|aA 0)<|aC (aV kY<|aC (aA 0)<|aC (aA 1)<|aC (aA 2) aR) aR)<|aY (cO 4<|e1 pU<|e1 yv<|aA 3)<|cL<|bH [5] (jb 5) (nD<|e1 fZ<|e1 (eY "Sides" "pairs")<|aA 0) bK π
def lA:im:=dI 3 6 ϖ
def AV(st:za):R D:=(nA<|aC (aA 6)<|aC (aA 7)<|aC (aV lA<|aC (aA 5)<|aC (aA 6)<|aC (aA 7) aR) aR) st
def MW:Bd:=aY (PB<|cO 5<|aV dD<|aC (aA 0)<|aC (aA 1)<|aC (aA 3)<|aC (aA 4) aR)<|aY (Oc (MH<|e2 Th (aV dF<|aC (aA 5)<|aC (aA 2) aR)<|gK aR) (dE "NoPaper"<|aC (eC<|.str [115,111,109,101,32,101,110,100,108,101,115,115,32,119,111,114,100,32,104,97,115,32,97,32,119,97,110,116,101,100,32,111,117,116,99,111,109,101]) aR) cJ)<|PB<|cL<|bH [6,7] (Jf [6,7]) (cc<|aV gZ<|aC (aA 5)<|aC (aA 2) aR) bK AV
def jT:im:=dI 5 8 MW
def xY(st:za):R Fl:=(cO 2<|e2 La (e2 La (aA 7)<|aA 2)<|Lo Tx (eC<|.str [97,98,99])<|aC (aA 3) aR) st
def xZ(st:za):R Fl:=(aY (Yc 4 (nA<|aC (aA 2)<|aC (aA 6) aR)<|e1 fZ<|cW 5)<|aY (Lm 5<|aA 2)<|aY (cO 2<|e2 La (e2 La (aA 7)<|aA 2)<|Lo Tx (eC<|.str [97,98,99])<|aC (e2 La (aA 10)<|aA 6) aR)<|cO 6<|e2 kO (e2 dH (aA 6)<|eI 1)<|e1 fZ<|aA 10) st
def yC(st:za):R D:=(e2 pG (nA<|aC (aA 2)<|aC (aA 6) aR)<|cW 4) st
def rE(st:za):R D:=(e2 La (aA 8)<|aA 11) st
def ϭ:Bd:=aY (bt (Jf [7,8])<|aA 0)<|aY (bt (Jf [9,10])<|aA 1)<|aY (nG (jb 3) (cc<|aA 9) xY)<|aY (Ov 4 true)<|aY (qT 5<|gK aR)<|aY (cO 6<|eI 0)<|aY (xv 100000 yC xZ)<|cL<|e2 kO (e1 sy<|bH [11] (jb 11) (cc<|mn (cW 5) (xJ<|e2 La (cW 4)<|nA<|aC (aA 2)<|aC (aA 6) aR) xH) bK rE)<|eI 2
def iQ:im:=dI 3 12 ϭ
def Η:Bd:=aY (cO 5<|eC<|.bl false)<|aY (Cy (Kq<|fE jT<|aC (aA 0)<|aC (aA 1)<|aC (aA 2)<|aC (aA 3)<|aC (aA 4) aR)<|(["NoPaper"],["NoMachine","NoRoom","OtherLetters"],kR 6<|cO 5<|e1 (GF ["NoMachine","NoPaper","NoRoom","OtherLetters"] [])<|aA 6)::[])<|cL<|aA 5
def mL:im:=dI 5 7 Η
def Θ:Bd:=aY (cO 7<|aV fL<|aC (aA 2)<|aC (aA 3)<|aC (aA 4)<|aC (aA 5)<|aC (aA 6) aR)<|aY (Oc (e2 kn (aA 7)<|eC .Hb) (cL<|aV qC<|aC (aA 0)<|aC (aA 1)<|aC (aA 4)<|aC (aA 5)<|aC (aA 6)<|aC (aV (CI jT)<|aC (aA 2)<|aC (aA 3)<|aC (aA 4)<|aC (aA 5)<|aC (aA 6) aR) aR) cJ)<|aY (Oc (vB<|e2 La (aA 4)<|e2 dH (e2 iZ (eI 2)<|aV iQ<|aC (aA 0)<|aC (aA 7)<|aC (aA 5) aR)<|aV iQ<|aC (aA 1)<|aC (aA 7)<|aC (aA 6) aR) (cL<|eC<|.bl false) cJ)<|cL<|aV mL<|aC (aA 2)<|aC (aA 3)<|aC (aA 4)<|aC (aA 5)<|aC (aA 6) aR
def mO:im:=dI 7 8 Θ
def Ι:Bd:=cL<|aV fL<|aC (aA 0)<|aC (aA 1)<|aC (eC<|.fn "JUST_ONE")<|aC (aA 2)<|aC (aA 3) aR
def rF:im:=dI 4 4 Ι
def í:Bd:=cL<|e2 Od (aV dF<|aC (aV dD<|aC (aA 0)<|aC (aA 1)<|aC (aA 2)<|aC (aA 3) aR)<|aC (eC<|.fn "JUST_ONE") aR)<|gK aR
def jK:im:=dI 4 4 í
def Ç:Bd:=cL<|e2 Od (aV dF<|aC (aV dD<|aC (aA 0)<|aC (aA 1)<|aC (aA 2)<|aC (aA 3) aR)<|aC (eC<|.fn "ONE_ALONE") aR)<|gK aR
def iJ:im:=dI 4 4 Ç
def uO:Bd:=cL<|qR (eB vp<|aA 0)<|qR (e2 Jw (e1 fZ<|aA 0)<|eI 1)<|e2 Ko (e1 fZ<|aA 0)<|aA 1
def eN:im:=dI 2 2 uO
def IV(st:za):R D:=(aV jJ<|aC (aA 3)<|aC (aA 2) aR) st
def ũ:Bd:=cL<|qR (e2 Od (e1 fZ<|aA 0)<|aA 1)<|e1 Lq<|bH [3] (jb 3) (cc<|aA 0) bK IV
def YC:im:=dI 3 4 ũ
def zX(st:za):R D:=(aV eN<|aC (aA 1)<|aC (eI 3) aR) st
def zY(st:za):R D:=(aV YC<|aC (aA 1)<|aC (e1 fZ<|e2 La (aA 0)<|eI 0)<|aC (e1 fZ<|aA 0) aR) st
def È:Bd:=aY (Oc (vB<|aV eN<|aC (aA 0)<|aC (eI 8) aR) (cL<|eC<|.bl false) cJ)<|aY (Oc (vB<|e1 Lq<|bH [1] (jb 1) (cc<|aA 0) bK zX) (cL<|eC<|.bl false) cJ)<|cL<|e1 Lq<|bH [1] (jb 1) (cc<|aA 0) bK zY
def sI:im:=dI 1 2 È
def tL(st:za):R D:=(qR (aV jH<|aC (aA 2) aR)<|e2 Jw (aA 2)<|eI 0) st
def É:Bd:=aY (Oc (Jk (vB<|eB vp<|aA 0)<|e2 Th (e1 fZ<|aA 0)<|aA 1) (cL<|eC<|.bl false) cJ)<|cL<|e1 Lq<|bH [2] (jb 2) (cc<|aA 0) bK tL
def sJ:im:=dI 2 3 É
def oZ(st:za):R D:=(e1 zQ<|aA 3) st
def iR:Bd:=aY (Oc (vB<|aV sI<|aC (aA 1) aR) Ux cJ)<|aY (Oc (vB<|aV sJ<|aC (aA 2)<|aC (e1 fZ<|aA 1) aR) Ux cJ)<|aY (wC 0 "Machine" "steps"<|bH [3] (jb 3) (cc<|aA 1) bK oZ)<|aY (wC 0 "Machine" "ranks"<|e1 zQ<|aA 2)<|aY (wC 0 "Machine" "many"<|e1 fZ<|aA 1)<|wC 0 "Machine" "letters"<|e1 fZ<|e2 La (aA 1)<|eI 0
def fP:im:=qo "Machine" 2 4 iR
def bCp(st:za):R D:=(e1 zQ<|aA 14) st
def bCq(st:za):R D:=(e1 zQ<|aA 14) st
def WK(st:za):R D:=(aV bM<|aC (aV dJ<|aC (aA 0)<|aC (eI 19) aR)<|aC (aA 15)<|aC (eI 16) aR) st
def W0(st:za):R Fl:=(aY (cO 9<|nA<|aC (e2 Od (e2 kO (aA 4)<|eI 2)<|eI 1)<|aC (e2 Od (e2 kO (e2 Aq (aA 4)<|eI 2)<|eI 2)<|eI 1)<|aC (e2 Od (e2 kO (e2 Aq (aA 4)<|eI 4)<|eI 2)<|eI 1)<|aC (e2 Od (e2 Aq (aA 4)<|eI 8)<|eI 1) aR)<|Oc (vB<|aV mO<|aC (aA 5)<|aC (aA 6)<|aC (aA 1)<|aC (aA 2)<|aC (aA 9)<|aC (aA 7)<|aC (aA 8) aR) (cL<|eC<|.bl false) cJ) st
def X0(st:za):R Fl:=(aY (cO 12<|aV rF<|aC (aA 1)<|aC (aA 2)<|aC (aA 10)<|aC (aA 11) aR)<|aY (Oc (e2 Th (aA 12)<|aV fL<|aC (aA 1)<|aC (aA 2)<|aC (nA<|aC (eC<|.bl false)<|aC (eC<|.bl true)<|aC (eC<|.bl true)<|aC (eC<|.bl false) aR)<|aC (aA 10)<|aC (aA 11) aR) (cL<|eC<|.bl false) cJ)<|aY (Oc (e2 Th (aV jK<|aC (aA 1)<|aC (aA 2)<|aC (aA 10)<|aC (aA 11) aR)<|e2 kn (aA 12)<|eC .Hb) (cL<|eC<|.bl false) cJ)<|aY (cO 13<|aV fL<|aC (aA 1)<|aC (aA 2)<|aC (nA<|aC (eC<|.bl false)<|aC (eC<|.bl true)<|aC (eC<|.bl false)<|aC (eC<|.bl false) aR)<|aC (aA 10)<|aC (aA 11) aR)<|Oc (e2 Th (aV iJ<|aC (aA 1)<|aC (aA 2)<|aC (aA 10)<|aC (aA 11) aR)<|e2 kn (aA 13)<|eC .Hb) (cL<|eC<|.bl false) cJ) st
def Q6:Bd:=aY (bt (Jf [5,6,7,8])<|aV vG<|aC (aA 0) aR)<|aY (cO 1<|aV fP<|aC (bH [14] (jb 14) (cc<|e2 La (aA 5)<|eI 0) bK bCp)<|aC (e1 zQ<|e2 La (aA 5)<|eI 1) aR)<|aY (cO 2<|aV fP<|aC (bH [14] (jb 14) (cc<|e2 La (aA 6)<|eI 0) bK bCq)<|aC (e1 zQ<|e2 La (aA 6)<|eI 1) aR)<|aY (cO 3<|e1 DD<|eI 16)<|aY (Oc (Jk (e2 Am (e1 fZ<|e2 La (aA 5)<|eI 0)<|eI 4)<|e2 Am (e1 fZ<|e2 La (aA 6)<|eI 0)<|eI 4) (cO 3<|bH [15] (jb 15) (nD<|eI 2) bK WK) cJ)<|aY (nG (jb 4) (cc<|aA 3) W0)<|aY (nG (Jf [10,11]) (cc<|gK<|aC (nA<|aC (aA 7)<|aC (aA 8) aR)<|aC (nA<|aC (eI 0)<|aC (eI 0) aR) aR) X0)<|cL<|qR (e2 Od (CM jK [.int 0,.int 0]<|aC (aA 1)<|aC (aA 2) aR)<|e2 kn (aA 12)<|eC .Hb)<|e2 Od (CM iJ [.int 0,.int 0]<|aC (aA 1)<|aC (aA 2) aR)<|e2 kn (aA 13)<|eC .Hb
def Sv:im:=dI 1 16 Q6
end
instance:Coe D Sl:=⟨.v⟩
instance:Coe Int D:=⟨.int⟩
instance:Coe Nat D:=⟨λn=>.int n⟩
@[simp] theorem Ğ(c:String)(r:Ci)(st:za):dE c r st=(r st).si.bind λxs=>aP (xs.length<=100) (.exc<|.Ag c [] []):=rfl
@[simp] theorem Ū(x:dL):Lq (.lst x)=(Gw x).bind λl=>.ok (.bl<|l.all id):=rfl
@[simp] theorem bJ8(x:dL):zQ (.lst x)=.ok (.lst x):=rfl
theorem ū{x:dL}{l:u8}(h:x=l.map D.bl)(a:∀b∈l,b=true):Lq (.lst x)=.ok (.bl true):=by
 subst h;rw[Ū,O0];simp_all
def af(m:Int)(x:ac):Prop:=∀c∈x,97<=c/\(c:Int)<97+m
theorem aJ{a b:Bd}{st:za}{r:R Fl}(h:a st=.ok (.nx st'))(c:b st'=r):aY a b st=r:=by
 simp_all
def dN{a b:Bd}{st:za}{r:R Fl}(h:a st=.ok (.nx st))(c:b st=r):aY a b st=r:=aJ h c
theorem tM{a b:Bd}{st:za} (h:a st=.ok (.rt d)):aY a b st=.ok (.rt d):=by
 simp_all
def cI{b:Bd} {d:D} (h:ds.length=np) (a:b (ds.map (λd=>some<|.v d)++List.replicate (n-np) none)=.ok (.rt d)):dI np n b ds=.ok d:=by
 rw[bCl h,a];rfl
def BV(n:Nat):lK 0 n=(List.range n).map λ(k:Nat)=>D.int (k:Int):=by
 refine zt λk _=>?_
 rw[Int.zero_add]
theorem MJ{tg:Tg}{c f:Ex}{st:za}(g:D->D):∀(ds:dL),(∀d∈ds,∃s1,tg d st=.ok s1/\c s1=.ok (.bl true)/\f s1=.ok (g d))->kW tg c f st ds=.ok (ds.map g)
 |[],_=>rfl
 |d::ds,h=>by
  obtain⟨s1,e1,e2,b⟩:=h d Cb;rw[lL,e1];simp[e2,b,MJ g ds λd a=>h d<|mem_cons_of_mem _ a]
theorem bI{st:za} (h:f st=.ok d):cO i f st=.ok (.nx<|st.set i d):=by simp_all
def oK{st:za} (h:f st=.ok (.lst xs)):qT i f st=.ok (.nx<|st.set i<|some<|.o .l xs):=by rw[Ŧ,h,aZ]
theorem aO{st:za} {x:R D} (h:r st=.ok ds) (a:p ds=x):aV p r st=x:=by simp_all
theorem aG{op:ag} {st:za} {x y:D} {z:R D} (b:f st=.ok x) (a:g st=.ok y) (h:op x y=z):e2 op f g st=z:=by simp_all
theorem tQ{c:Ex}{a b:Bd}{st:za}{r:R Fl}(h:c st=.ok (.bl true))(d:a st=r):Oc c a b st=r:=by simp_all
theorem jU{c:Ex}{a b:Bd}{st:za}{r:R Fl}(h:c st=.ok (.bl false))(d:b st=r):Oc c a b st=r:=by simp_all
def Js{st:za}{p q:Bool}(b:f st=.ok (.bl p))(a:p=true->g st=.ok (.bl q)):qR f g st=.ok (.bl<|p&&q):=by
 rw[N0,b];cases p with
 |true=>rw[a rfl];rfl
 |false=>rfl
def Tv{st:za}{p q:Bool}(b:f st=.ok (.bl p))(a:p=false->g st=.ok (.bl q)):Jk f g st=.ok (.bl<|p||q):=by
 rw[bGw,b];cases p with
 |true=>rfl
 |false=>rw[a rfl];rfl
theorem Ks{st:za}{p:Bool}(a:f st=.ok (.bl p)):vB f st=.ok (.bl<|!p):=by simp_all
theorem dX{st:za} (h:f st=.ok d):cL f st=.ok (.rt d):=by simp_all
theorem gB{tg:Tg} {st:za} {r:R Fl} (h:it st=.ok xs) (a:Tb tg L xs st=r):nG tg it L st=r:=by simp_all
theorem aU{st:za}{d:D} (h:f st=.ok d) (a:r st=.ok ds):aC f r st=.ok (d::ds):=by simp_all
def fQ{st:za} (h:r st=.ok ds) (a:ds.length<=1000:=by exact Ck rfl):gK r st=.ok (.lst ds):=by rw[bCd,h,aZ,aF<|gJ<|Yg a<|by decide]
def iC{i j:Int}(h:0<j):kO (.int i) (.int j)=.ok (.int<|i%j):=aF h
def bCr{i j:Int}(h:0<j/\j<1073741824):Aq (.int i) (.int j)=.ok (.int<|i/j):=aF h
def zv(i j:Int):Od (.int i) (.int j)=.ok (.bl<|decide (i=j)):=by
 exact aF ⟨Gf 64,rfl,rfl⟩
def yD{st:za} (h:f st=.ok d) (a:st[i]?=some (some<|.o .l xs)) (b:xs.length<1000000):Lm i f st=.ok (.nx<|st.set i<|some<|.o .l<|xs++[d]):=by
 rw[bCf,h,a];exact aF<|Sx<|Rt b<|by decide
theorem WE{st:za} (h:f st=.ok (.int n)) (a:n<=1000000):nD f st=.ok ((List.range n).map λ(k:Nat)=>D.int (k:Int)):=by
 rw[bCe,h,<-BV];exact aF ⟨bCa (by lia),J0<|by lia⟩
def jV{E C:Ex}{is:ac}{tg:Tg} {st:za} {ys:dL} (h:it st=.ok xs) (a:xs.length<=1000000) (b:kW tg C E (Uj is st) xs=.ok ys):bH is tg it C E st=.ok (.lst ys):=by
 rw[yY,h,aZ,aF<|gJ<|Yg a<|by decide,b,aZ]
def yE{c:Ex}{b:Bd}{st:za} {r:R Fl} (a:c st=.ok (.bl true)) (d:b st=.ok (.nx st')) (e:iK c b n st'=r):iK c b (n+1) st=r:=by
 rwa [xK,a,d]
def zE{c:Ex}{b:Bd}{st:za} (a:c st=.ok (.bl false)):iK c b (n+1) st=.ok (.nx st):=by rw[xK,a,aZ,cE,Ea Qh]
def fU{tg:Tg} {d:D}{st:za} {r:R Fl} (a:tg d st=.ok s1) (b:L s1=.ok (.nx s2)) (c:Tb tg L ds s2=r):Tb tg L (d::ds) st=r:=by
 rwa [LW,a,aZ,b]
theorem eX{i:Int} (h:Ee xs i=some d):La (.lst xs) (.int i)=.ok d:=by
 simp_all
theorem Gy{p q:Nat}(h:p<q):decide ((p:Int)<(q:Int))=true:=Bf (by lia)
theorem MO{p q:Nat}(h:¬ p<q):decide ((p:Int)<(q:Int))=false:=Ed (by lia)
def dR{r:R D}{p q:Bool}(h:r=.ok (.bl p))(e:p=q):r=.ok (.bl q):=by rw[h,e]
def lB{st:za} (h:f st=.ok (.lst xs)):cc f st=.ok xs:=by rw[bGx,h,aZ]
def d5{st:za}{ys:dL}(h:f st=.ok (.lst ys))(a:st[i]?=some (some<|.o .l xs))(b:xs.length+ys.length<=big):dw i f st=.ok (.nx<|st.set i<|some<|.o .l<|xs++ys):=by
 rw[bCg,h,a];exact aF b
noncomputable def ja(l:ac):dL:=l.map λ(x:Nat)=>D.int (x:Int)
structure Nb(S:bv)(rk:ac)(c:Nat):Prop where
 one:1<=S.length
 most:S.length<=8
 c1:1<=c
 c3:c<=3
 row:∀r∈S,r.length=c/\∀x∈r,x<S.length
 Ri:rk.length=S.length
noncomputable def Sb(S:bv):dL:=S.map λr=>D.lst<|ja r
theorem WJ{tg:Tg}{c f:Ex}{st:za}{P:D->D->Prop}:∀(ds:dL),(∀d∈ds,∃s1 y,tg d st=.ok s1/\c s1=.ok (.bl true)/\f s1=.ok y/\P d y)->∃ys,kW tg c f st ds=.ok ys/\ys.length=ds.length/\∀y∈ys,∃d∈ds,P d y
 |[],_=>⟨[],rfl,rfl,λ_ h=>nomatch h⟩
 |d::ds,h=>by
  obtain⟨s1,y,e1,e2,g,k⟩:=h d Cb;obtain⟨ys,e,b,j⟩:=WJ ds λd a=>h d<|Kb _ a
  refine⟨y::ys,?_,by simp[b],λz i=>?_⟩
  .rw[lL,e1];simp[e2,g,e]
  grind
theorem Y0:∀(ys:dL)(c n:Nat),(∀y∈ys,∃r:ac,y=.lst (ja r)/\r.length=c/\∀x∈r,x<n)->∃S:bv,ys=Sb S/\∀r∈S,r.length=c/\∀x∈r,x<n
 |[],_,_,_=>⟨[],rfl,λ_ h=>nomatch h⟩
 |y::ys,c,n,h=>by
  obtain⟨r,rfl,d⟩:=h y Cb;obtain⟨S,rfl,b⟩:=Y0 ys c n λy a=>h y<|Kb _ a
  refine⟨r::S,rfl,λr' hr=>?_⟩
  rcases Mb.mp hr with rfl|hr
  .exact d
  exact b r' hr
def Z0{xs:List α}{i:Int}(b:0<=i)(h:i<xs.length):∃a∈xs,Ee xs i=some a:=⟨_,Rh _,W4 b h⟩
theorem ZC{E:Ex}{st:za}{v:Nat}{xs:dL}(a:st[v]?=some (some<|.v<|.lst xs))(e:xs.length<=100000)(h:∀d∈xs,E ((st.set j none).set j d)=.ok (.bl true)):e1 Lq (bH [j] (jb j) (cc<|aA v) bK E) st=.ok (.bl true):=by
 have e2:xs.map (λ_=>D.bl true)=(xs.map λ_=>true).map D.bl:=by simp
 simp[a,show xs.length<=big from gJ (by lia),(MJ (tg:=jb j) (c:=bK) _ xs λd c=>⟨_,rfl,rfl,h d c⟩)]
 rw[e2];exact ū rfl λb f=>by simp_all
theorem ğ{E:Ex}{st:za}{v:Nat}{xs:dL}(a:st[v]?=some (some<|.v<|.lst xs))(c:xs.length<=100000)(h:∀d∈xs,E ((st.set j none).set j d)=.ok d):bH [j] (jb j) (cc<|aA v) bK E st=.ok (.lst xs):=by
 simp[a,show xs.length<=big from gJ (by lia),(MJ (tg:=jb j) (c:=bK) id xs λd b=>⟨_,rfl,rfl,h d b⟩)]
def XE(n:Int):Fk
 |.int i=>decide (0<=i)&&decide (i<n)
 |_=>false
def NW(i:Int):jH [.int i]=.ok (.bl true):=by
 unfold jH XI;simp[isIn,cw]
def Ŭ(d:D)(b:Jq d=true):jH [d]=.ok (.bl<|isIn d && !cw d):=by
 unfold jH XI;cases a:isIn d<;>simp[b,a]
def ŭ(d:D)(n:Int)(b:Jq d=true):jJ [d,.int n]=.ok (.bl<|XE n d):=by
 have a:=Ŭ d b;unfold jJ YI;cases d<;>first|(simp[a,isIn,cw,XE])|skip
 rename_i i
 by_cases c:0<=i<;>simp[c]
def Ġ{x:Nat}(h:x<n):jJ [.int x,.int n]=.ok (.bl true):=by
 unfold jJ YI;simp[(NW x),h]
theorem OW(xs:dL)(m:Int):eN [.lst xs,.int m]=.ok (.bl<|decide (1<=(xs.length:Int))&&decide ((xs.length:Int)<=m)):=by
 unfold eN uO
 by_cases h:1<=xs.length
 .have a:(1:Int)<=xs.length:=by lia
  simp[vp,a]
 have a:¬ (1:Int)<=xs.length:=by lia
 simp[vp,a]
def bN(r:ac):(ja r).length=r.length:=by unfold ja;simp
def gY(S:bv):(Sb S).length=S.length:=by unfold Sb;simp
def pA{r:ac} (h:d∈ja r):∃x∈r,d=.int (x:Nat):=by
 obtain⟨x,b,a⟩:=ze.mp h;exact⟨x,b,a.symm⟩
def GD{S:bv} (h:d∈Sb S):∃r∈S,d=.lst (ja r):=by
 obtain⟨x,b,a⟩:=ze.mp h;exact⟨x,b,a.symm⟩
theorem bH4(r:ac)(n:Nat)(h:∀x∈r,x<n)(e:r.length<=1000):YC [.lst<|ja r,.int r.length,.int n]=.ok (.bl true):=by
 refine cI rfl ?_
 have c:e2 Od (e1 fZ<|aA 0) (aA 1) [D.lst<|ja r,r.length,n,none]=.ok (.bl true):=by simp[bN]
 show cL _ [some _,some _,some _,none]=_;rw[CD,N0,c,(ZC rfl (by rw[bN];lia) (λd b=>by
  obtain⟨x,a,rfl⟩:=pA b;simp[IV,Ġ<|h x a]))]
 rfl
noncomputable def mD(S:bv)(rk:ac)(c:Nat):D:=.ins "Machine" ["steps","ranks","many","letters"] [.lst<|Sb S,.lst<|ja rk,.int S.length,.int c]
section
def Nb.vT(M:Nb S rk c):∃r T,S=r::T/\r.length=c:=by
 cases S with
 |nil=>exact absurd M.one (by simp)
 |cons r T=>exact⟨r,T,rfl,(M.row r Cb).1⟩
def Nb.V5(M:Nb S rk c):∃r,r∈S/\Ee (Sb S) 0=some (.lst<|ja r)/\r.length=c:=by
 obtain⟨r,T,rfl,h⟩:=M.vT;refine⟨r,Cb,?_,h⟩;simpa [Sb] using (fc (xs:=Sb<|r::T) (i:=0)<|by simp[Sb])
theorem Ů(M:Nb S rk c):sI [.lst<|Sb S]=.ok (.bl true):=by
 obtain⟨g,i,l,h⟩:=M.V5;have o:=M.one;have n:=M.most;have e:=OW (Sb S) 8;rw[gY]at e;have m:eN [.lst<|Sb S,.int 8]=.ok (.bl true):=by rw[e];simp;lia
 refine cI rfl<|dN (by simp[m])<|dN ?_ ?_
 .rw[bGz,bCb,(ZC rfl (by rw[gY];lia) (λd b=>by
  obtain⟨r,a,rfl⟩:=GD b;have f:=OW (ja r) 3;rw[bN,(M.row r a).1]at f;have j:=M.c3;have p:=M.c1;simp[zX,f];lia))];rfl
 rw[CD,(ZC rfl (by rw[gY];lia) (λd b=>by
  obtain⟨r,a,rfl⟩:=GD b;have j:=M.c3;have k:(ja g).length=r.length:=by rw[bN,h,(M.row r a).1]
  simp[zY,l,k,gY,(bH4 r S.length (M.row r a).2<|by rw[(M.row r a).1];lia)]))];rfl
theorem ů(M:Nb S rk c):sJ [.lst<|ja rk,.int S.length]=.ok (.bl true):=by
 have e:=M.most;have f:=ZC (E:=tL) (st:=[some _,S.length,none]) (j:=2) (v:=0) rfl (by rw[bN,M.Ri];lia) (λd a=>by
  obtain⟨x,b,rfl⟩:=pA a;simp[tL,NW])
 refine cI rfl<|dN (by simp[vp,bN,M.Ri]) ?_
 simp_all
def XJ:eY "Machine" "many" (mD S rk c)=.ok (.int S.length):=by unfold mD;rw[mH,aF rfl];rfl
def Ê:eY "Machine" "letters" (mD S rk c)=.ok (.int c):=by unfold mD;rw[mH,aF rfl];rfl
def QW:eY "Machine" "steps" (mD S rk c)=.ok (.lst<|Sb S):=by unfold mD;rw[mH,aF rfl];rfl
theorem E1(M:Nb S rk c):fP [.lst<|Sb S,.lst<|ja rk]=.ok (mD S rk c):=by
 obtain⟨g,b,f,a⟩:=M.V5;have i:=M.most;refine K0 λx=>?_
 unfold Vs;rw[aF<|show ([D.lst<|Sb S,D.lst _]).length=2 from rfl]
 have key:iR [some<|.o (.i x "Machine" []) [],D.lst<|Sb S,D.lst<|ja rk,none]=.ok (.nx [some<|.o (.i x "Machine" ["steps","ranks","many","letters"]) [.lst<|Sb S,.lst<|ja rk,.int S.length,.int c],D.lst<|Sb S,D.lst<|ja rk,none]):=by
  refine dN (by simp[(Ů M)])<|dN (by simp[gY,(ů M)])<|aJ (st':=[some<|.o (.i x "Machine" ["steps"]) [.lst<|Sb S],D.lst<|Sb S,D.lst<|ja rk,none]) ?_ ?_
  .rw[ZX,(ğ rfl (by rw[gY];lia) (λd e=>by
  obtain⟨r,h,rfl⟩:=GD e;simp[oZ]))]
   simp
  refine aJ (st':=[some<|.o (.i x "Machine" ["steps","ranks"]) [.lst<|Sb S,.lst<|ja rk],D.lst<|Sb S,D.lst<|ja rk,none]) (by simp)<|aJ (st':=[some<|.o (.i x "Machine" ["steps","ranks","many"]) [.lst<|Sb S,.lst<|ja rk,.int S.length],D.lst<|Sb S,D.lst<|ja rk,none]) (by simp[gY]) ?_
  simp[f,bN,a]
 show (iR [some _,some _,some _,none]).bind _=_;rw[key];simp[mD]
end
def RW(x:Nat)(l:ac):ja (x::l)=.int (x:Nat)::ja l:=rfl
theorem vH:∀l:ac,bZ (ja l)=true/\gU (ja l)=0/\pF (ja l) (ja l)=true
 |[]=>⟨rfl,by unfold ja;simp,by unfold ja;simp[pF]⟩
 |x::l=>by
  obtain⟨c,b,a⟩:=vH l;rw[RW];simp_all
structure ie(S:bv)(rk:ac)(c:Nat):Prop where
 most:S.length<=64
 c1:1<=c
 c3:c<=3
 row:∀r∈S,r.length=c/\∀x∈r,x<S.length
def Nb.w(M:Nb S rk c):ie S rk c:=⟨Yg M.most (by decide),M.c1,M.c3,M.row⟩
section
variable{S:bv}{rk:ac}{c:Nat}
def dc(S:bv)(q a:Nat):Nat:=(S.getD q []).getD a 0
theorem Ls(M:ie S rk c){q a:Nat}(b:q<S.length)(g:a<c):∃r,Ee (Sb S) (q:Int)=some (.lst<|ja r)/\Ee (ja r) (a:Int)=some (.int<|dc S q a)/\dc S q a<S.length:=by
 have d:=M.row S[q] (Rh b);have f:a<S[q].length:=by rwa [d.1]
 have e:dc S q a=S[q][a]:=by
  simp[dc,List.getElem?_eq_getElem b,List.getElem?_eq_getElem f]
 refine⟨S[q],?_,?_,?_⟩
 .rw[fc (by rwa [gY])];simp[Sb]
 .rw[fc (by rwa [bN]),e];simp[ja]
 simp_all
theorem Ű(h:m<=3){ch:Nat}(b:97<=ch)(a:(ch:Int)<97+m):xG [97,98,99] [ch] 0=some (ch-97):=by
 have:ch=97\/ch=98\/ch=99:=by lia
 rcases this with rfl|rfl|rfl<;>rfl
theorem YK(M:ie S rk c){q ch:Nat}(a:q<S.length)(d:97<=ch)(b:(ch:Int)<97+c):∃r,Ee (Sb S) (q:Int)=some (.lst<|ja r)/\Ee (ja r) (((ch-97:Nat)):Int)=some (.int<|dc S q<|ch-97)/\dc S q (ch-97)<S.length:=Ls M a (by lia)
end
theorem jL:∀(n:Nat)(l:ac),l.Nodup->(∀x∈l,x<n)->l.length<=n
 |0,l,_,h=>by
  cases l with
  |nil=>simp
  |cons x l=>exact absurd (h x Cb) (by lia)
 |n+1,l,a,h=>by
  have b:=jL n _ (a.erase n) λx c=>by
   grind
  grind
theorem F1(g:Nat)(l:ac):inD (.int g) (ja l)=decide (g∈l):=by
 unfold inD ja;rw[Tt]
 by_cases h:g∈l
 .rw[Bf h,jz];exact⟨g,h,by simp⟩
 rw[Ed h,RG];intro x a;have:¬ (x:Int)=g:=λz=>h (by grind)
 simp[jd,this]
def tR{q:Nat}(a:q<S.length):Ee (Sb S) (q:Int)=some (.lst<|ja S[q]):=by
 rw[fc (by rwa [gY])]
 unfold Sb;rw[Ht]
def Dh(n d:Nat):We n d none=d:=rfl
theorem Si(n d k:Nat):We n d (some (k:Int))=min k n:=by
 show (if k<0 then ((k:Int)+n).toNat else min (k:Int).toNat n)=_
 rw[Ea (by lia),bz]
theorem bH5(x:List α)(n:Nat):cut x none (some (n:Int))=x.take n:=by
 unfold cut;rw[Dh,Si];grind
def i5(x:List α)(n:Nat)(h:n<=x.length):cut x (some (n:Int)) none=x.drop n:=by
 unfold cut;rw[Dh,Si,Nat.min_eq_left h,CG (by simp)]
def ű{p:Prop}{r:R α}(h:¬ p):aP p r=.bad:=Ea h
def G1{st:za} (h:f st=.ok d):xp f g st=.ok d:=by unfold xp;rw[h]
def YJ{st:za}{r:R D}(h:f st=.bad)(a:g st=r):xp f g st=r:=by unfold xp;rwa [h]
theorem SW{b:Type}{tg:Tg}{C E:Ex}{st:za}{F G:b->D}{q:b->Bool}:∀(a:List b),(∀k∈a,∃s1,tg (F k) st=.ok s1/\C s1=.ok (.bl<|q k)/\(q k=true->E s1=.ok (G k)))->kW tg C E st (a.map F)=.ok ((a.filter q).map G)
 |[],_=>rfl
 |k::a,h=>by
  obtain⟨s1,e,d,i⟩:=h k Cb;have f:=SW a λk c=>h k<|Kb _ c
  rw[Ue,lL,e,aZ,d,aZ,cE];cases g:q k with
  |true=>simp_all
  |false=>grind
def aj(u v:ac):Prop:=u.length<v.length\/(u.length=v.length/\u<v)
theorem o5:∀{u v:ac}(a b:Nat),u.length=v.length->u<v->u++[a] < v++[b]
 |[],[],_,_,_,h=>absurd h<|BH _
 |[],_::_,_,_,h,_=>by simp at h
 |_::_,[],_,_,h,_=>by simp at h
 |x::u,y::v,a,b,h,e=>by
  rw[Vt,Vt,GG];rcases GG.mp e with c|⟨c,d⟩
  .exact .inl c
  exact .inr ⟨c,o5 a b (by simpa using h) d⟩
theorem J1:∀(u:ac){a b:Nat},a<b->u++[a] < u++[b]
 |[],a,b,h=>by
  show [a] < [b];rw[GG];exact .inl h
 |x::u,a,b,h=>by
  rw[Vt,Vt,GG];exact .inr ⟨rfl,J1 u h⟩
theorem HD{v:ac}(a b:Nat)(h:aj u v):aj (u++[a]) (v++[b]):=by
 rcases h with h|⟨d,c⟩
 .exact .inl (by simp_all)
 exact .inr ⟨by simp_all,o5 a b d c⟩
def DY(u:ac){a b:Nat}(h:a<b):aj (u++[a]) (u++[b]):=.inr ⟨by simp,J1 u h⟩
def bCs(u:ac)(a:Nat):aj [] (u++[a]):=.inl (by simp)
def oM(h:aj u u):False:=h.elim (Gh _) λh=>BH _ h.2
theorem tU{v w:ac}(b:aj u v)(a:aj v w):aj u w:=by
 rcases b with b|⟨b,d⟩ <;> rcases a with a|⟨a,c⟩
 .exact .inl (by lia)
 .exact .inl (by lia)
 .exact .inl (by lia)
 exact .inr ⟨by lia,sQ d c⟩
def sle(u v:ac):Prop:=u=v\/aj u v
def bH6{v w:ac}(b:sle u v)(a:sle v w):sle u w:=by
 rcases b with rfl|b
 .exact a
 rcases a with rfl|a
 .exact .inr b
 exact .inr<|tU b a
def K1{v:ac}(a:Nat)(h:sle u v):sle (u++[a]) (v++[a]):=h.imp (λe=>by rw[e])<|HD a a
def DM{v w:ac}(a:sle u v)(b:aj v w):aj u w:=by
 rcases a with rfl|a
 .exact b
 exact tU a b
theorem iE(u v:ac):sle u v\/aj v u:=by
 rcases Ao u.length v.length with h|h|h
 .exact .inl (.inr<|.inl h)
 .by_cases e:u=v
  .exact .inl (.inl e)
  by_cases l:u<v
  .exact .inl (.inr<|.inr ⟨h,l⟩)
  by_cases a:v<u
  .exact .inr (.inr ⟨h.symm,a⟩)
  grind
 exact .inr<|.inl h
section
variable{α:Type}[DecidableEq α]{δ:α->Nat->α}{s:α}{c p j:Nat}{P:α->Prop}{acc:List (α×List Nat)}
def Cc(δ:α->Nat->α):α->ac->α
 |a,[]=>a
 |a,b::w=>Cc δ (δ a<|b-97) w
theorem zF:∀(x y:ac)(a:α),Cc δ a (x++y)=Cc δ (Cc δ a x) y
 |[],_,_=>rfl
 |_::x,y,a=>zF x y _
def vI(x:ac)(a:α)(k:Nat):Cc δ a (x++[97+k])=δ (Cc δ a x) k:=by
 rw[zF];show δ _ _=_;rw[XF]
def Xm(acc:List (α×List Nat))(g:α)(w:ac):List (α×List Nat):=if g∈acc.map (·.1) then acc else acc++[(g,w)]
structure BG(δ:α->Nat->α)(s:α)(c:Nat)(P:α->Prop)(p j:Nat)(acc:List (α×List Nat)):Prop where
 nd:(acc.map (·.1)).Nodup
 hd:acc[0]?=some (s,[])
 lt:∀x∈acc,P x.1/\Cc δ s x.2=x.1/\af c x.2
 To:∀(k:Nat)(x:α×List Nat),acc[k]?=some x->1<=k->∃q y ch,acc[q]?=some y/\x.2=y.2++[ch]/\(q<p\/(q=p/\ch<97+j))
 ord:∀(i k:Nat)(x y:α×List Nat),acc[i]?=some x->acc[k]?=some y->i<k->aj x.2 y.2
 cls:∀(i:Nat)(x:α×List Nat)(l:Nat),acc[i]?=some x->l<c->(i<p\/(i=p/\l<j))->∃y∈acc,y.1=δ x.1 l/\sle y.2 (x.2++[97+l])
theorem BG.start(b:P s):BG δ s c P 0 0 [(s,[])] where
 nd:=by simp
 hd:=rfl
 lt:=λx a=>by rw[Mc.mp a];exact⟨b,rfl,λ_ h=>nomatch h⟩
 To:=λk x e h=>by
  have:k<1:=(gf.mp e).1;lia
 ord:=λi k x y e1 e2 h=>by
  have:k<1:=(gf.mp e2).1;lia
 cls:=λi x l _ _ h=>by lia
theorem BG.next(b:BG δ s c P p c acc):BG δ s c P (p+1) 0 acc where
 nd:=b.nd
 hd:=b.hd
 lt:=b.lt
 To:=λk x e h=>by
  obtain⟨q,y,f,d,a,g⟩:=b.To k x e h;exact⟨q,y,f,d,a,.inl<|by lia⟩
 ord:=b.ord
 cls:=λi x l e hl h=>b.cls i x l e hl (by lia)
theorem BG.below(b:BG δ s c P p j acc){x y:α×List Nat}{k:Nat}(f:acc[p]?=some x)(d:acc[k]?=some y):aj y.2 (x.2++[97+j]):=by
 by_cases g:k=0
 .subst g;rw[b.hd]at d;cases d;exact bCs _ _
 obtain⟨q,z,i,e,h,a⟩:=b.To k y d (by lia)
 rw[h];rcases a with a|⟨rfl,a⟩
 .exact HD _ _ (b.ord q p z x e f a)
 rw[f]at e;cases e;exact DY _ a
def mE{g:α}{w:ac}{k:Nat}{x:α×List Nat}(h:acc[k]?=some x):(Xm acc g w)[k]?=some x:=by
 unfold Xm;split
 .exact h
 rwa [zo (gf.mp h).1]
theorem BG.turn(G:∀a k,P a->k<c->P (δ a k))(b:BG δ s c P p j acc){x:α×List Nat}(g:acc[p]?=some x)(F:j<c):BG δ s c P p (j+1) (Xm acc (δ x.1 j)<|x.2++[97+j]):=by
 obtain⟨E,D,C⟩:=b.lt x<|nj g;unfold Xm
 by_cases t:δ x.1 j∈acc.map (·.1)
 .rw[Qa t];refine⟨b.nd,b.hd,b.lt,λk y e h=>?_,b.ord,λi y l e hl h=>?_⟩
  .obtain⟨q,z,r,o,n,w⟩:=b.To k y e h;exact⟨q,z,r,o,n,w.imp id λh=>⟨h.1,by lia⟩⟩
  by_cases m:i=p/\l=j
  .obtain⟨rfl,rfl⟩:=m;rw[g]at e;cases e;obtain⟨y,d,H⟩:=ze.mp t;obtain⟨k,v⟩:=Rm.mp d;exact⟨y,d,H,.inr<|b.below g v⟩
  exact b.cls i y l e hl (by lia)
 rw[Ea t];have f:∀{k:Nat}{y:α×List Nat},acc[k]?=some y->(acc++[(δ x.1 j,x.2++[97+j])])[k]?=some y:=λ{k y} e=>by
  rwa [zo (gf.mp e).1]
 have inv:∀{k:Nat}{y:α×List Nat},(acc++[(δ x.1 j,x.2++[97+j])])[k]?=some y->acc[k]?=some y\/(k=acc.length/\y=(δ x.1 j,x.2++[97+j])):=λ{k y} e=>by
  by_cases v:k<acc.length
  .rw[zo v]at e;exact .inl e
  have u:=(gf.mp e).1;rw[Ef,um]at u;have:k=acc.length:=by lia
  subst this;simp at e;exact .inr ⟨rfl,e.symm⟩
 have B:∀{k:Nat}{y:α×List Nat},acc[k]?=some y->k<acc.length:=λe=>(gf.mp e).1
 refine⟨?_,f b.hd,λy d=>?_,λk y e h=>?_,λi k y z e1 e2 h=>?_,λi y l e hl h=>?_⟩
 .rw[Fh,Bo];refine⟨b.nd,by simp,λa I J hb=>?_⟩
  rw[List.map_singleton,Mc]at hb;rw[hb];exact λz=>t (by rwa [<-show a=δ x.1 j from z])
 .rcases ji.mp d with d|d
  .exact b.lt y d
  rw[Mc.mp d];refine⟨G _ _ E F,by rw[vI,D],λr Lk=>?_⟩
  rcases ji.mp Lk with h|h
  .exact C r h
  rw[Mc.mp h];constructor<;>lia
 .rcases inv e with e|⟨rfl,rfl⟩
  .obtain⟨q,z,r,o,n,w⟩:=b.To k y e h;exact⟨q,z,r,f o,n,w.imp id λh=>⟨h.1,by lia⟩⟩
  exact⟨p,x,97+j,f g,rfl,.inr ⟨rfl,by lia⟩⟩
 .rcases inv e2 with e2|⟨rfl,rfl⟩
  .rcases inv e1 with e1|⟨rfl,_⟩
   .exact b.ord i k y z e1 e2 h
   have:=B e2;lia
  rcases inv e1 with e1|⟨rfl,_⟩
  .exact b.below g e1
  lia
 rcases inv e with A|⟨rfl,rfl⟩
 .by_cases m:i=p/\l=j
  .obtain⟨rfl,rfl⟩:=m;rw[g]at A;cases A;exact⟨_,Lg _<|Mc.mpr rfl,rfl,.inl rfl⟩
  obtain⟨z,o,n⟩:=b.cls i y l A hl (by lia)
  exact⟨z,Dj _ o,n⟩
 have:=B g;lia
theorem ZK{v:ac}(h:v≠[])(b:af c v):∃u k,v=u++[97+k]/\k<c/\af c u:=by
 obtain⟨u,a,rfl⟩:∃u a,v=u++[a]:=⟨v.dropLast,v.getLast h,(List.dropLast_concat_getLast h).symm⟩;have e:=b a (by simp)
 refine⟨u,a-97,by grind,by omega,λx d=>b x<|Dj _ d⟩
theorem BG.wl(b:BG δ s c P p j acc):∀(n k:Nat)(x:α×List Nat),k<=n->acc[k]?=some x->x.2.length<=k
 |0,k,x,f,e=>by
  obtain rfl:k=0:=by lia
  rw[b.hd]at e;cases e;exact Ib _
 |n+1,k,x,f,e=>by
  by_cases g:k=0
  .subst g;exact BG.wl b n 0 x (Gf _) e
  obtain⟨q,y,i,d,a,_⟩:=b.To k x e (by lia)
  have h:q<k:=by
   rcases Ao q k with z|z|z
   .exact z
   .subst z;rw[d]at e;cases e;have:=congrArg List.length a;simp at this
   exact(oM<|tU (b.ord k q x y e d z)<|by rw[a];exact .inl<|by simp).elim
  have:=BG.wl b n q y (by lia) d
  rw[a,Ef,um];lia
theorem BG.least(b:BG δ s c P p j acc)(ok:List Nat->Prop)(e:∀v k,ok (v++[97+k])->ok v/\∀(i:Nat) y,acc[i]?=some y->sle y.2 v->i<p):∀(n:Nat)(v:ac),v.length=n->af c v->ok v->∃y∈acc,y.1=Cc δ s v/\sle y.2 v
 |0,v,a,_,_=>by
  rw[Wq.mp a];exact⟨_,nj b.hd,rfl,.inl rfl⟩
 |n+1,v,a,m,q=>by
  obtain⟨u,k,rfl,r,o⟩:=ZK (λz=>by simp_all) m
  obtain⟨g,f⟩:=e u k q;obtain⟨y,l,e1,e2⟩:=BG.least b ok e n u (by simpa using a) o g
  obtain⟨i,d⟩:=Rm.mp l;obtain⟨z,h,w,t⟩:=b.cls i y k d r<|.inl<|f i y d e2;exact⟨z,h,by rw[w,e1,vI],bH6 t<|K1 _ e2⟩
def BG.whole(b:BG δ s c P acc.length 0 acc){v:ac}(a:af c v):∃y∈acc,y.1=Cc δ s v/\sle y.2 v:=
 b.least _ (λ_ _ _=>⟨trivial,λ_ _ e _=>(gf.mp e).1⟩) _ v rfl a trivial
theorem BG.hit(b:BG δ s c P p j acc){x:α×List Nat}(a:acc[p]?=some x){hit:α->Prop}(no:∀(i:Nat) y k,acc[i]?=some y->k<c->(i<p\/(i=p/\k<j))->¬ hit (δ y.1 k)){u:ac}(n:u≠[])(o:af c u)(f:hit (Cc δ s u)):sle (x.2++[97+j]) u:=by
 rcases iE (x.2++[97+j]) u with h|h
 .exact h
 obtain⟨v,k,rfl,r,m⟩:=ZK n o;have g:∀{w:ac},aj (w++[97+k]) (x.2++[97+j])->sle w x.2:=λ{w} h=>by
  rcases iE w x.2 with z|z
  .exact z
  exact(oM<|tU h<|HD _ _ z).elim
 obtain⟨y,l,e1,e2⟩:=b.least (λv=>sle v x.2) (λv k h=>by
  have e:aj v x.2:=by
   rcases h with h|h
   .rw[<-h];exact .inl (by simp)
   exact tU (.inl<|by simp) h
  refine⟨.inr e,λi y hi hs=>?_⟩
  rcases Ao i p with z|z|z
  .exact z
  .subst z;rw[a]at hi;cases hi;exact(oM<|DM hs e).elim
  exact(oM<|tU (b.ord p i x y a hi z)<|DM hs e).elim) _ v rfl m (g h)
 obtain⟨i,hi⟩:=Rm.mp l;have d:=DM (K1 _ e2) h;rw[vI,<-e1]at f;refine absurd f<|no i y k hi r ?_;rcases Ao i p with z|z|z
 .exact .inl z
 .subst z;rw[a]at hi;cases hi;refine .inr ⟨rfl,?_⟩;rcases Ao k j with q|q|q
  .exact q
  .subst q;exact(oM d).elim
  exact(oM<|tU d<|DY _<|by lia).elim
 exact(oM<|tU d<|HD _ _<|b.ord p i x y a hi z).elim
def BG.oB(b:BG δ s c P acc.length 0 acc){hit:α->Prop}(no:∀(i:Nat) y k,acc[i]?=some y->k<c->¬ hit (δ y.1 k)) (f:u≠[]) (g:af c u):¬ hit (Cc δ s u):=λa=>by
 obtain⟨v,k,rfl,h,e⟩:=ZK f g;obtain⟨y,d,e1,_⟩:=b.whole e;obtain⟨i,j⟩:=Rm.mp d;rw[vI,<-e1]at a;exact no i y k j h a
end
section
variable{α:Type}[DecidableEq α](e:α->D)(he:∀a b,lg (e a) (e b)=decide (a=b))
include he
theorem S7(g:α):∀(l:List α),jQ (l.map e) (e g)=decide (g∈l):=λl=>by
 unfold jQ;rw[Tt];grind
def bH7{g:α}{l:List α}(h:g∈l):jQ (l.map e) (e g)=true:=(S7 e he g l).trans<|Bf h
def bH8{g:α}{l:List α}(h:g∉l):jQ (l.map e) (e g)=false:=(S7 e he g l).trans<|Ed h
theorem IF{x:α×List Nat}:∀{acc:List (α×List Nat)},(acc.map (·.1)).Nodup->x∈acc->mG (acc.map λy=>e y.1) (acc.map λy=>D.str y.2) (e x.1)=some (.str x.2)
 |[],_,h=>nomatch h
 |y::acc,a,h=>by
  unfold mG;rw[Ue,Ue,Fp,find?_cons,he];rw[Ue,ki]at a;rcases Mb.mp h with rfl|h
  .simp
  rw[Ed λz:y.1=x.1=>a.1 (by rw[z];exact ze.mpr ⟨x,h,rfl⟩)]
  exact IF a.2 h
end
def xB(l:ac):wS:=λb=>l.foldl (λb r=>b|||2^r) b
theorem N1(r:Nat):∀(l:ac)(b:Nat),(xB l b).testBit r=(b.testBit r||decide (r∈l))
 |[],b=>by simp[xB]
 |x::l,b=>by
  show (xB l _).testBit r=_;rw[N1 r l];grind
def uo(l:ac):Nat:=xB l 0
def rG(l:ac)(r:Nat):(uo l).testBit r=decide (r∈l):=by
 unfold uo;rw[N1,VG,AQ]
noncomputable def bF(n:Nat):ac:=(List.range<|xM n).filter λr=>n.testBit r
def Ų{r:Nat}(h:xM n<=r):n.testBit r=false:=by
 unfold xM at h
 by_cases a:(n:Int)=0
 .simp_all
 rw[Ea a]at h;exact Q8<|ug ((Nat.log2_lt<|λz=>a<|by rw[z];rfl).mp<|Pt _)<|X8 (by decide)<|by simpa using h
def bV{r:Nat}:r∈bF n↔n.testBit r=true:=by
 unfold bF;rw[Qj,Vi];refine⟨λh=>h.2,λh=>⟨?_,h⟩⟩
 rcases Nat.lt_or_ge r _ with a|a
 .exact a
 rw[Ų a]at h;cases h
def UW(n:Nat):uo (bF n)=n:=KG λr=>by
 rw[rG];cases h:n.testBit r with
 |true=>exact Bf<|bV.mpr h
 |false=>exact Ed λz=>by rw[bV.mp z]at h;cases h
def VW{l:ac}{r:Nat}:r∈bF (uo l)↔r∈l:=by
 rw[bV,rG,Mg]
def cU{k r:Nat}(h:n<2^k)(a:r∈bF n):r<k:=by
 rw[bV]at a;rcases Nat.lt_or_ge r k with b|b
 .exact b
 rw[Q8<|ug h<|X8 (by decide) b]at a
 cases a
theorem ų{k:Nat}(h:n<2^k):xM n<=k:=by
 unfold xM
 by_cases a:(n:Int)=0
 .simp_all
 rw[Ea a];have:=(Nat.log2_lt<|λz=>a<|by rw[z];rfl).mpr h
 rw[Int.natAbs_natCast];lia
@[simp] theorem Ŵ(i j:Int):Nq (.int i) (.int j)=aP (0<=j/\j<=1000000/\i.natAbs<18446744073709551616) (.ok<|.int<|i*2^j.toNat):=rfl
@[simp] theorem bKd(i j:Int):Dy (.int i) (.int j)=aP (0<=j) (.ok<|.int<|i/2^j.toNat):=rfl
@[simp] theorem bKe(i j:Int):Oq (.int i) (.int j)=aP (0<=i/\0<=j) (.ok<|.int ((i.toNat&&&j.toNat:Nat):Int)):=rfl
@[simp] theorem bCu(i j:Int):Kp (.int i) (.int j)=aP (0<=i/\0<=j) (.ok<|.int ((i.toNat|||j.toNat:Nat):Int)):=rfl
@[simp] theorem bFg(i:Int):ED (.int i)=.ok (.int (xM i:Nat)):=rfl
theorem ŵ(n r:Nat):(((n:Int)/2^r).toNat&&&(1:Int).toNat)=if n.testBit r=true then 1 else 0:=by
 grind
theorem EM(n r:Nat):nJ [.int n,.int r]=.ok (.bl<|n.testBit r):=by
 have b:=ŵ n r;have c:0<=(n:Int)/2^r:=Int.ediv_nonneg (by lia)<|Int.pow_nonneg<|by decide
 refine cI rfl ?_
 show cL _ [some _,some _]=_;have a:e2 Oq (e2 Dy (aA 0)<|aA 1) (eI 1) [n,r]=.ok (.int<|(if n.testBit r=true then 1 else 0:Nat)):=by
  simp_all
 rw[CD,tN,a];cases n.testBit r<;>simp
theorem ZJ{tg:Tg}{C E:Ex}{st:za}{q:On}{G:Nat->D}:∀(a:ac),(∀k∈a,∃s1,tg (.int k) st=.ok s1/\C s1=.ok (.bl<|q k)/\E s1=.ok (G k))->kW tg C E st (ja a)=.ok ((a.filter q).map G)
 |[],_=>rfl
 |k::a,h=>by
  obtain⟨s1,e1,e2,e⟩:=h k Cb;have c:=ZJ a λk b=>h k<|Kb _ b
  show kW tg C E st (.int k::ja a)=_;rw[lL];cases d:q k with
  |true=>
   simp_all
  |false=>
   simp_all
def Ë(n:Nat):lK 0 n=ja (List.range n):=by
 rw[BV];rfl
theorem uP{k:Nat}(h:n<2^k)(b:k<=2000):iM [.int n]=.ok (.lst<|ja<|bF n):=by
 have c:=ų h;refine cI rfl ?_
 show cL _ [some _,none]=_;have a:nD (e1 ED<|aA 0) [some<|.v<|.int n,none]=.ok (ja<|List.range<|xM n):=by
  simp[show ((xM n))<=(big:Int) from J0 (by lia)]
  exact Ë _
 rw[CD,yY,a];simp[bN];rw[aF<|gJ<|by lia,(ZJ (q:=λr=>n.testBit r) (G:=λr=>.int r) _<|λr _=>⟨_,rfl,by
  simp[gV,EM n r],by simp[ZU]⟩)]
 rfl
theorem WW(a:li):∀(l:ac)(b:Nat)(c:li),(∀r∈l,r<=1000000)->∃d,Tb (jb 2) oX (ja l) [a,b,c]=.ok (.nx [a,xB l b,d])
 |[],b,c,_=>⟨c,rfl⟩
 |r::l,b,c,h=>by
  obtain⟨d,e⟩:=WW a l _ _ λr f=>h r<|Kb _ f
  refine⟨d,?_⟩;have f:=h r Cb;have i:((1:Int)*2^(r:Int).toNat)=((2^r:Nat)):=by simp
  have t:oX [a,b,r]=.ok (.nx [a,((b|||2^r:Nat)),r]):=by
   have g:e2 Nq (eC<|.int 1) (aA 2) [a,b,r]=.ok (.int<|(2^r:Nat)):=by
    simp only[tN,bJv,pR,aZ,getElem?_cons_succ,List.getElem?_cons_zero];rw[Ŵ,aF ⟨by lia,(by lia),by decide⟩,i]
   unfold oX;rw[bCi,tN,g];simp only[pR,aZ,getElem?_cons_succ,List.getElem?_cons_zero];rw[bCu,aF ⟨GP _,GP _⟩];rfl
  show (oX [a,some _,some _]).bind _=_
  rwa [t]
def eL{l:ac}(h:∀r∈l,r<=1000000)(b:l.length<=1000000):nO [.lst<|ja l]=.ok (.int<|uo l):=by
 obtain⟨a,e⟩:=WW _ l 0 none h;refine cI rfl<|aJ rfl<|aJ (st':=[some<|.v<|.lst<|ja l,some<|.v _,a]) ?_ rfl
 rwa [bCj]
inductive bg (S:bv) (c:Nat) (al:On) (s:Nat):Nat->Prop where
 |here:bg S c al s s
 |on {r l:Nat}:bg S c al s r->l<c->al (dc S r l)=true->bg S c al s (dc S r l)
def iT(n:Nat):(bF n).Nodup:=List.nodup_range.filter _
theorem gL{l:ac}{k:Nat}(h:∀r∈l,r<k):uo l<2^k:=w8 _ λr a=>by
 rw[rG];exact Ed λz=>by have:=h r z;lia
open Classical in
noncomputable def dC(S:bv)(c n r:Nat):Nat:=uo<|(List.range S.length).filter λg=>decide (bg S c (λg=>n.testBit g) r g)
section
def Vx(M:ie S rk c) {s g:Nat} (b:s<S.length) (h:bg S c al s g):g<S.length:=by
 induction h with
 |here=>exact b
 |on _ hl _ a=>obtain⟨_,_,_,h⟩:=Ls M a hl;exact h
def HM{s g:Nat}(a:al s=true)(h:bg S c al s g):al g=true:=by
 cases h with
 |here=>exact a
 |on _ _ b=>exact b
open Classical in
def iD(M:ie S rk c){r:Nat}(a:r<S.length)(g:Nat):(dC S c n r).testBit g=true↔bg S c (λg=>n.testBit g) r g:=by
 unfold dC;rw[rG,Mg,Qj,Vi,Mg];exact⟨λh=>h.2,λh=>⟨Vx M a h,h⟩⟩
def eD{r:Nat}:dC S c n r<2^S.length:=gL λg a=>Vi.mp (Qj.mp a).1
theorem yF(M:ie S rk c){a b:Nat}(f:a<S.length):b∈S.getD a []↔∃l,l<c/\dc S a l=b:=by
 have g:=(M.row S[a] (Rh f)).1;have d:S.getD a []=S[a]:=by simp_all
 have e:∀l,dc S a l=S[a].getD l 0:=λl=>by unfold dc;rw[d]
 rw[d];constructor
 .intro h;obtain⟨l,hl,rfl⟩:=Yq.mp h;exact⟨l,by lia,by rw[e,kh,Zc hl];rfl⟩
 rintro⟨l,hl,rfl⟩;simp_all
def bg.trans{a b d:Nat}(h:bg S c al a b)(g:bg S c al b d):bg S c al a d:=by
 induction g with
 |here=>exact h
 |on _ hl f e=>exact .on e hl f
end
theorem bH9(g:Nat)(l:ac):yr (.int g) (.lst<|ja l)=.ok (.bl<|decide (g∈l)):=by
 obtain⟨a,b,_⟩:=vH l;rw[<-F1];exact aF ⟨by simp_all,rfl,a⟩
theorem bHa(h:n<=1000000):Nq (.int 1) (.int n)=.ok (.int ((2^n:Nat):Int)):=by
 have e:((2^n))=1*2^(n:Int).toNat:=by simp
 rw[e];exact aF ⟨by lia,by lia,by decide⟩
def bCv(a b:Nat):Oq (.int a) (.int b)=.ok (.int ((a&&&b:Nat):Int)):=by
 simp
theorem cK(g:Nat)(l:ac):jQ (ja l) (.int g)=decide (g∈l):=by
 unfold jQ ja;rw[Tt]
 by_cases h:g∈l
 .rw[Bf h,jz];exact⟨g,h,by simp[lg]⟩
 rw[Ed h,RG];intro x a;have:¬ (x:Int)=g:=λz=>h (by grind)
 simp[lg,this]
theorem yG(V:Nat->D){g:Nat}:∀{l:ac},g∈l->mG (ja l) (l.map V) (.int g)=some (V g)
 |[],h=>nomatch h
 |x::l,h=>by
  show mG (.int x::ja l) (V x::l.map V) _=_;unfold mG;rw[Fp,find?_cons]
  by_cases e:x=g
  .simp[lg,e]
  have:¬ (x:Int)=g:=by lia
  simp only[lg,beq_eq_false_iff_ne.mpr this];exact yG V<|(Mb.mp h).resolve_left λz=>e z.symm
def EY(l:ac)(x:Nat):ja (l++[x])=ja l++[.int x]:=by unfold ja;simp
def Gx{a vs:dL}{g:Nat} (h:mG a vs (.int g)=some d):La (.Cf false a vs) (.int g)=.ok d:=by
 show aP _ _=_;rw[aF (c:=Rb false _=true) rfl,h];rfl
inductive Pw (B:M2) (K:No):Nat->Nat->Prop where
 |one {a b:Nat}:B a b->Pw B K a b
 |mid {a m b:Nat}:K m->Pw B K a m->Pw B K m b->Pw B K a b
theorem Pw.cut{B:M2}{K g:No}{k a b:Nat}(n:∀m,g m->K m\/m=k)(h:Pw B g a b):Pw B K a b\/(Pw B K a k/\Pw B K k b):=by
 induction h with
 |one h=>exact .inl<|.one h
 |mid c _ _ l f=>
  rename_i a m b _ _;rcases n m c with c|rfl
  .rcases l with x|⟨j,i⟩
   .rcases f with y|⟨e,d⟩
    .exact .inl (.mid c x y)
    exact .inr ⟨.mid c x e,d⟩
   rcases f with y|⟨e,d⟩
   .exact .inr ⟨j,.mid c i y⟩
   simp_all
  grind
def Pw.mono{B:M2}{K c:No}{a b:Nat}(g:∀m,K m->c m)(h:Pw B K a b):Pw B c a b:=by
 induction h with
 |one h=>exact .one h
 |mid f _ _ e d=>exact .mid (g _ f) e d
def mQ(V:wS)(m:Nat):wS:=λr=>if (V r).testBit m=true then V r|||V m else V r
theorem O1{B:M2}{R:No}(o:∀a b,R a->B a b->R b):∀(c ds:ac)(V:wS),(∀k∈c,R k)->(∀r,R r->∀g,(V r).testBit g=true↔Pw B (· ∈ ds) r g)->∀r,R r->∀g,((c.foldl mQ V) r).testBit g=true↔Pw B (· ∈ ds++c) r g
 |[],ds,V,_,h,r,d,g=>by simp_all
 |k::c,ds,V,l,h,r,d,g=>by
  have e:ds++k::c=(ds++[k])++c:=by simp
  rw[e];refine O1 o c _ _ (λx n=>l x<|Kb _ n) (λr d g=>?_) r d g
  have i:∀{a b:Nat},Pw B _ a b->Pw B (· ∈ ds++[k]) a b:=λz=>z.mono λm f=>Dj _ f
  unfold mQ
  by_cases j:(V r).testBit k=true
  .rw[Qa j,oQ,sr,h r d g,h k (l k Cb) g];constructor
   .rintro(z|z)
    .exact i z
    exact .mid (by simp) (i<|(h r d k).mp j)<|i z
   intro z;rcases z.cut (λm f=>by simpa using f) with y|⟨_,y⟩
   .exact .inl y
   exact .inr y
  rw[Ea j,h r d g];constructor
  .exact i
  intro z;rcases z.cut (λm f=>by simpa using f) with y|⟨y,_⟩
  .exact y
  exact absurd ((h r d k).mpr y) j
section
variable{S:bv}{rk:ac}{c n:Nat}
def bp(S:bv)(n:Nat):wS:=λr=>(uo (S.getD r [])|||2^r)&&&n
def Ŷ{r g:Nat}:(bp S n r).testBit g=true↔(r=g\/g∈S.getD r [])/\n.testBit g=true:=by
 unfold bp;rw[Nat.testBit_and,oQ,rG,Nat.testBit_two_pow,Ho,sr,Mg,Mg];exact⟨λh=>⟨h.1.symm,h.2⟩,λh=>⟨h.1.symm,h.2⟩⟩
def ġ(M:ie S rk c)(m:n<2^S.length){r:Nat}(e:r∈bF n)(g:Nat):(((bF n).foldl mQ<|bp S n) r).testBit g=true↔bg S c (λg=>n.testBit g) r g:=by
 have j:=O1 (B:=λa b=>(a=b\/b∈S.getD a [])/\n.testBit b=true) (λa b _ h=>bV.mpr h.2) _ [] _ (λk t=>t) (λr _ g=>by
  rw[Ŷ];constructor
  .exact λh=>.one h
  intro h;cases h with
  |one h=>exact h
  |mid h _ _=>cases h) r e g
 rw[j];clear j;constructor
 .intro h;have u:∀{a b:Nat},Pw (λa b=>(a=b\/b∈S.getD a [])/\n.testBit b=true) (· ∈ bF n) a b->a∈bF n->bg S c (λg=>n.testBit g) a b:=by
   intro a b h
   induction h with
   |one h=>
    intro d;obtain⟨rfl|f,v⟩:=h
    .exact .here
    obtain⟨l,hl,rfl⟩:=(yF M<|cU m d).mp f;exact .on .here hl v
   |mid s _ _ q p=>exact λd=>bg.trans (q d)<|p s
  exact u h e
 intro h
 induction h with
 |here=>exact .one ⟨.inl rfl,bV.mp e⟩
 |on f hl d o=>
  have i:=bV.mpr<|HM (bV.mp e) f;exact .mid i o<|.one ⟨.inr<|(yF M<|cU m i).mpr ⟨_,hl,rfl⟩,d⟩
theorem ŷ(M:ie S rk c)(b:n<2^S.length){r:Nat}(a:r∈bF n):((bF n).foldl mQ<|bp S n) r=dC S c n r:=KG λg=>by
 have e:=(ġ M b a g).trans (iD M (cU b a) g).symm;cases d:(((bF n).foldl mQ _) r).testBit g with
 |true=>simp_all
 |false=>
  simp_all
def iL(a b:Nat):Kp (.int a) (.int b)=.ok (.int ((a|||b:Nat):Int)):=by
 simp
noncomputable def zk(S:bv)(n:Nat)(a:ac)(V:wS)(b x5:li):za:=[some<|.v<|.lst<|Sb S,some<|.v<|.int n,some<|.v<|.lst<|ja<|bF n,some<|.o (.d false<|ja a)<|a.map λr=>D.int (V r:Nat),b,x5]
def bCw{V:wS}{r:Nat}{x:D}(a:r∉ks):qP (ja ks) (.int r)=ja (ks++[r])/\qQ (ja ks) (ks.map λr=>D.int (V r:Nat)) (.int r) x=(ks.map λr=>D.int (V r:Nat))++[x]:=by
 have b:jQ (ja ks) (.int r)=false:=by rw[cK,Ed a]
 unfold qP qQ;rw[b,EY];exact⟨rfl,rfl⟩
theorem bCx{V:wS}{r x:Nat}(a:r∈ks):qP (ja ks) (.int r)=ja ks/\qQ (ja ks) (ks.map λr=>D.int (V r:Nat)) (.int r) (.int x)=ks.map λk=>D.int ((if k=r then x else V k:Nat):Int):=by
 have b:jQ (ja ks) (.int r)=true:=by rw[cK,Bf a]
 unfold qP qQ;rw[b];refine⟨rfl,?_⟩;unfold ja;rw[List.zip_map',vg];refine zt λk _=>?_
 show (if lg _ _=true then D.int x else D.int _)=_
 by_cases e:k=r
 .rw[Qa e,Qa (by rw[e];simp[lg])]
 have:¬ (k:Int)=r:=by lia
 rw[Ea e,Ea (by simp[lg,this])]
theorem P1{st:za}{k:D}{a vs:dL}(h:f st=.ok d)(e:g st=.ok k)(b:st[i]?=some (some<|.o (.d false a) vs))(c:Rb false k=true)(j:vs.length<1000):Yc i g f st=.ok (.nx<|st.set i<|some<|.o (.d false<|qP a k)<|qQ a vs k d):=by
 unfold Yc;rw[h,e,b];exact aF ⟨c,Sx<|by lia⟩
theorem YW(M:ie S rk c):∀(b a:ac)(d:li),(a++b).Nodup->(∀r∈a++b,r<S.length)->∃h,Tb (jb 4) xO (ja b) (zk S n a (bp S n) d none)=.ok (.nx<|zk S n (a++b) (bp S n) h none)
 |[],a,d,_,_=>⟨d,by rw[Ql];rfl⟩
 |r::b,a,d,f,hl=>by
  have s:=M.most;have j:a++r::b=(a++[r])++b:=by simp
  rw[j]at f hl;obtain⟨h,e⟩:=YW M b _ _ f hl;refine⟨h,?_⟩;rw[j];have i:=hl r (by simp)
  have q:=jL S.length a (Bo.mp (Bo.mp f).1).1 λx g=>hl x (by simp[g])
  have p:S.getD r []=S[r]:=by rw[kh,Zc i];rfl
  have k:=M.row S[r] (Rh i);have t:=M.c3;obtain⟨m,l⟩:=bCw<|λz=>(Bo.mp (Bo.mp f).1).2.2 r z r (Mc.mpr rfl) rfl
  refine fU rfl ?_ e;have o:e2 Oq (e2 Kp (aV nO<|aC (e2 La (aA 0)<|aA 4) aR)<|e2 Nq (eI 1)<|aA 4) (aA 1) (zk S n a (bp S n) r none)=.ok (.int<|bp S n r):=by
   unfold bp;rw[p];exact aG (aG (aO (aU (aG rfl rfl<|eX<|tR i) rfl)<|eL (λx g=>by have:=k.2 x g;lia)<|by rw[k.1];lia) (aG rfl rfl<|bHa<|by lia)<|iL _ _) rfl<|bCv _ _
  refine(P1 o rfl rfl rfl<|by rw[Gb];lia).trans ?_
  rw[m,l];unfold zk;rw[Fh];rfl
def Ģ{V:wS}{r:Nat}(h:ks.length<1000)(b:r∈ks)(g:m∈ks):qW (zk S n ks V (some<|.v<|.int r)<|some<|.v<|.int m)=.ok (.nx<|zk S n ks (λk=>if k=r then mQ V m r else V k) (some<|.v<|.int r)<|some<|.v<|.int m):=by
 have c:e2 La (cW 3) (aA 4) (zk S n ks V (some<|.v _)<|some<|.v<|.int m)=.ok _:=aG rfl rfl<|Gx<|yG _ b;have t:=aO (aU c<|show aC (aA 5) aR _=.ok [.int m] from rfl)<|EM (V r) m
 by_cases a:(V r).testBit m=true
 .rw[a]at t;obtain⟨f,d⟩:=bCx b;refine tQ t ((P1 (aG c (aG rfl rfl<|Gx<|yG _ g)<|iL _ _) rfl rfl rfl<|by rw[Gb];omega).trans ?_)
  rw[f,d];unfold mQ;rw[Qa a];rfl
 rw[SG.mpr a]at t;refine jU t ?_
 have:(λk=>if k=r then mQ V m r else V k)=V:=funext λk=>by
  by_cases e:k=r
  .rw[Qa e,e];unfold mQ;rw[Ea a]
  rw[Ea e]
 rw[this];rfl
theorem bX{b:ac}{V:wS}{m:Nat}(p:b.length<1000)(o:m∈b):∀(a:ac)(W:wS)(c:li),(∀r∈a,r∈b)->W m=V m->(∀r∈a,W r=V r\/W r=mQ V m r)->∃d g,Tb (jb 4) qW (ja a) (zk S n b W c m)=.ok (.nx<|zk S n b d g m)/\∀r,d r=if r∈a then mQ V m r else W r
 |[],W,c,_,_,_=>⟨W,c,rfl,λr=>by rw[Ea (by simp)]⟩
 |r::a,W,c,l,j,q=>by
  have s:mQ W m r=mQ V m r:=by
   rcases q r Cb with h|h
   .unfold mQ;rw[h,j]
   unfold mQ at h ⊢;grind
  have f:mQ V m m=V m:=by
   unfold mQ;simp_all
  obtain⟨d,g,e,h⟩:=bX p o a (λk=>if k=r then mQ W m r else W k) _ (λx i=>l x<|Kb _ i) (by
   by_cases e:m=r
   .rw[Qa e,s,<-e,f]
   rw[Ea e,j]) (λx i=>by
   grind)
  refine⟨d,g,fU rfl (Ģ p (l r Cb) o) e,λx=>?_⟩
  grind
def JV{a:ac}{V W:wS}(h:∀k∈a,V k=W k):zk S n a V x4 x5=zk S n a W x4 x5:=by
 unfold zk;rw[zt λk b=>congrArg (λx:Nat=>D.int x)<|h k b]
theorem gX(d:(bF n).length<1000):∀(b:ac)(V:wS)(a x5:li),(∀m∈b,m∈bF n)->∃q p,Tb (jb 5) xP (ja b) (zk S n (bF n) V a x5)=.ok (.nx<|zk S n (bF n) (b.foldl mQ V) q p)
 |[],V,a,x5,_=>⟨a,x5,rfl⟩
 |m::b,V,a,x5,c=>by
  obtain⟨W,i,e,h⟩:=bX d (c m Cb) _ V a (λr l=>l) rfl λr _=>.inl rfl
  obtain⟨g,f,s⟩:=gX d b _ i _ λx j=>c x<|Kb _ j
  refine⟨g,f,fU rfl (gB rfl e) ?_⟩
  rwa [JV λk o=>by rw[h k,Qa o]]
theorem FY(M:ie S rk c)(a:n<2^S.length):mJ [.lst<|Sb S,.int n]=.ok (.Cf false (ja<|bF n)<|(bF n).map λr=>D.int (dC S c n r:Nat)):=by
 have l:=M.most;have h:=jL S.length _ (iT _) λx d=>cU a d
 obtain⟨b,e1⟩:=YW M (bF n) [] none (iT n) λr e=>cU a e
 obtain⟨j,i,e2⟩:=gX (by lia) (bF n) _ b none λm f=>f
 refine cI rfl<|aJ (bI<|aO rfl<|uP a<|by lia)<|aJ rfl<|aJ (gB rfl e1)<|aJ (gB rfl e2) ?_
 rw[JV λk g=>ŷ M a g]
 rfl
end
noncomputable def gM(S:bv)(c n r:Nat):Nat:=uo<|(bF<|dC S c n r).filter λg=>(dC S c n g).testBit r
def Ac(S:bv)(m:Nat):Bool:=decide (1<(bF m).length)||decide ((bF m).headD 0∈S.getD ((bF m).headD 0) [])
noncomputable def vJ(S:bv)(c n:Nat):ac:=(bF n).foldl (λa r=>if gM S c n r∉a/\Ac S (gM S c n r)=true then a++[gM S c n r] else a) []
section
variable{S:bv}{rk:ac}{c n:Nat}
def Q1{n r:Nat}:gM S c n r<2^S.length:=gL λg a=>cU eD (Qj.mp a).1
theorem Ÿ(M:ie S rk c) (d:m<2^S.length) (j:m≠0):pY [.lst<|Sb S,.int m]=.ok (.bl<|Ac S m):=by
 have k:=M.most;have e:=uP d (by lia)
 obtain⟨r,T,a⟩:∃r T,bF m=r::T:=by
  cases h:bF m with
  |nil=>
   refine absurd ?_ j;have:=UW m;rw[h]at this;exact this.symm
  |cons r T=>exact⟨r,T,rfl⟩
 rw[a]at e;have g:=cU d (by rw[a];exact Cb)
 refine cI rfl<|aJ (bI<|aO rfl e)<|dX ?_;have f:e1 fZ (aA 2) [D.lst<|Sb S,m,D.lst<|ja<|r::T]=.ok (.int<|(T.length+1)):=by
  show R.ok _=_;rw[bN];rfl
 have b:e2 La (aA 2) (eI 0) [D.lst<|Sb S,m,D.lst<|ja<|r::T]=.ok (.int r):=aG rfl rfl<|eX<|fc<|BQ _;have i:S.getD r []=S[r]:=by simp_all
 refine dR (Tv (aG f rfl rfl) λ_=>aG b (aG rfl b<|eX<|tR g)<|bH9 r S[r]) ?_
 unfold Ac;rw[a];show (decide _||decide _)=(decide (1<T.length+1)||decide (r∈S.getD r []))
 rw[i];congr 1;exact decide_eq_decide.mpr (by lia)
noncomputable def CB(S:bv)(c n:Nat)(ps:ac)(a x5:li):za:=[some<|.v<|.lst<|Sb S,some<|.v<|.int n,some<|.v<|.Cf false (ja<|bF n)<|(bF n).map λr=>D.int (dC S c n r:Nat),some<|.o .l<|ja ps,a,x5,none]
theorem î(M:ie S rk c)(m:n<2^S.length){r:Nat}(b:r∈bF n)(ps:ac)(l:ps.length<=1000)(x5:li):∃p,pJ (CB S c n ps r x5)=.ok (.nx<|CB S c n (if gM S c n r∉ps/\Ac S (gM S c n r)=true then ps++[gM S c n r] else ps) r p):=by
 have s:=M.most;have f:=cU m b;have e:∀{g:Nat},g∈bF n->mG _ _ _=some _:=λ{g} h=>yG (λr=>D.int<|dC S c n r) h
 have q:(bF<|dC S c n r).length<=S.length:=jL S.length _ (iT _) λx k=>cU eD k
 obtain⟨j,i,_⟩:=vH ps;refine⟨some<|.v<|.int<|gM S c n r,aJ (bI<|aO (aU (jV (lB<|aO (aU (aG rfl rfl<|Gx<|e b) rfl)<|uP eD<|by lia) (by rw[bN];lia)<|ZJ _<|λg a=>⟨_,rfl,aO (aU (aG rfl rfl<|Gx<|e<|(λg a=>bV.mpr<|HM (bV.mp b)<|(iD M f g).mp<|bV.mp a) g a) rfl)<|EM _ r,rfl⟩) rfl)<|eL (λg a=>by have:=cU eD (Qj.mp a).1;lia) (by have:=Jt (λg=>(dC S c n g).testBit r)<|bF<|dC S c n r;lia)) ?_⟩
 have t:=Js (st:=CB S c n ps r<|gM S c n r) (aG (f:=aA 5) (g:=cW 3) rfl rfl<|show pG (.int<|gM S c n r) (.lst<|ja ps)=.ok (.bl<|!decide (gM S c n r∈ps)) by rw[<-F1];exact aF ⟨by rw[i];exact Gf 60,rfl,j⟩) λ_=>aO (r:=aC (aA 0)<|aC (aA 5) aR) rfl<|Ÿ M Q1 (λz=>by
  have:(gM S c n r).testBit r=true:=by
   unfold gM;rw[rG,Mg,Qj];have d:(dC S c n r).testBit r=true:=(iD M f r).mpr .here;exact⟨bV.mpr d,d⟩
  rw[z,VG]at this;cases this)
 by_cases h:gM S c n r∉ps/\Ac S (gM S c n r)=true
 .rw[Qa h];refine tQ (dR t<|by rw[Ed h.1,h.2];rfl) ?_
  rw[yD rfl rfl (by rw[bN];lia),<-EY]
  rfl
 rw[Ea h];refine jU (dR t ?_) rfl;cases o:Ac S _ with
 |false=>rw[oz]
 |true=>rw[Bf<|yd λz=>h ⟨z,o⟩];rfl
theorem LV(M:ie S rk c)(e:n<2^S.length):∀(a:ac)(ps:ac)(b x5:li),(∀r∈a,r∈bF n)->ps.length+a.length<=1000->∃j d,Tb (jb 4) pJ (ja a) (CB S c n ps b x5)=.ok (.nx<|CB S c n (a.foldl (λps r=>if gM S c n r∉ps/\Ac S (gM S c n r)=true then ps++[gM S c n r] else ps) ps) j d)
 |[],ps,b,x5,_,_=>⟨b,x5,rfl⟩
 |r::a,ps,b,x5,h,hl=>by
  obtain⟨d,e1⟩:=î M e (h r Cb) ps (by lia) x5
  obtain⟨g,f,e2⟩:=LV M e a (if gM S c n r∉ps/\Ac S _=true then ps++[gM S c n r] else ps) _ d (λr i=>h r<|Kb _ i) (by
   grind)
  exact⟨g,f,fU rfl e1 e2⟩
theorem Ì(M:ie S rk c)(a:n<2^S.length):oH [.lst<|Sb S,.int n]=.ok (.lst<|ja<|vJ S c n):=by
 have i:=M.most;have d:=jL S.length _ (iT _) λx b=>cU a b
 obtain⟨g,f,e⟩:=LV M a _ [] none none (λ_ h=>h) (by simp;lia)
 exact cI rfl<|aJ (bI<|aO rfl<|FY M a)<|aJ (oK<|fQ rfl)<|aJ (gB (lB<|aO rfl<|uP a<|by lia) e) rfl
def Wr(n:Nat):On:=λg=>n.testBit g
def Bj(S:bv)(c n a b:Nat):Prop:=bg S c (Wr n) a b/\bg S c (Wr n) b a
def qF(M:ie S rk c){r g:Nat}(b:r<S.length):(gM S c n r).testBit g=true↔Bj S c n r g:=by
 unfold gM;rw[rG,Mg,Qj,bV,iD M b];constructor
 .rintro⟨a,d⟩;exact⟨a,(iD M (Vx M b a) r).mp d⟩
 rintro⟨a,d⟩;exact⟨a,(iD M (Vx M b a) r).mpr d⟩
def GY(M:ie S rk c){r g:Nat}(e:r<S.length)(h:bg S c (Wr n) r g)(a:bg S c (Wr n) g r):bg S c (Wr<|gM S c n r) r g:=by
 induction h with
 |here=>exact .here
 |on f hl b d=>
  exact .on (d<|bg.trans (.on .here hl b) a) hl<|(qF M e).mpr ⟨.on f hl b,a⟩
def Bj.symm{a b:Nat}(h:Bj S c n a b):Bj S c n b a:=⟨h.2,h.1⟩
theorem Bj.trans{a b d:Nat}(f:Bj S c n a b)(e:Bj S c n b d):Bj S c n a d:=⟨bg.trans f.1 e.1,bg.trans e.2 f.2⟩
theorem Ź(M:ie S rk c){r g:Nat}(a:r<S.length)(h:Bj S c n r g):gM S c n g=gM S c n r:=KG λx=>by
 have e:(gM S c n g).testBit x=true↔(gM S c n r).testBit x=true:=by
  rw[qF M<|Vx M a h.1,qF M a];exact⟨λz=>h.trans z,λz=>h.symm.trans z⟩
 cases b:(gM S c n g).testBit x with
 |true=>simp_all
 |false=>
  simp_all
def PU(S:bv)(c n:Nat):Prop:=n≠0/\(∀a∈bF n,∀b∈bF n,bg S c (Wr n) a b)/\Ac S n=true
theorem hX(f:wS)(q:On):∀(a ps:ac)(m:Nat),m∈a.foldl (λps r=>if f r∉ps/\q (f r)=true then ps++[f r] else ps) ps↔m∈ps\/∃r∈a,f r=m/\q m=true
 |[],ps,m=>by simp
 |r::a,ps,m=>by
  rw[Dw,hX f q a];grind
def zG:m∈vJ S c n↔∃r∈bF n,gM S c n r=m/\Ac S m=true:=by
 unfold vJ;rw[hX _ _];simp
def R1(M:ie S rk c){r:Nat}(b:n<2^S.length)(a:r∈bF n){g:Nat}(d:g∈bF (gM S c n r)):g∈bF n:=by
 exact bV.mpr<|HM (bV.mp a) ((qF M<|cU b a).mp<|bV.mp d).1
def yH(M:ie S rk c){r:Nat}(b:n<2^S.length)(a:r∈bF n):r∈bF (gM S c n r):=bV.mpr<|(qF M<|cU b a).mpr ⟨.here,.here⟩
def ģ(M:ie S rk c){r:Nat}(g:n<2^S.length)(f:r∈bF n)(j:Ac S (gM S c n r)=true):PU S c (gM S c n r):=by
 have d:=cU g f;refine⟨(λz=>by have:=yH M g f;rw[z,bV,VG]at this;cases this),λa ha b hb=>?_,j⟩
 have e:=(qF M d).mp<|bV.mp ha;have i:=(qF M d).mp<|bV.mp hb;have h:=GY M (Vx M d e.1) e.2 e.1;rw[Ź M d e]at h;exact bg.trans h<|GY M d i.1 i.2
end
def qD(p:wn):D:=.tup [.int (p.1:Nat),.int (p.2:Nat)]
def ah(S T:bv)(p:wn):f8:=(S.getD p.1 []).zip<|T.getD p.2 []
def Ti(n m:Nat)(p:wn):Prop:=p.1<n/\p.2<m
theorem CN(p q:wn):jd (qD p) (qD q)=decide (p=q):=by
 simp[qD,jd,pF];grind
theorem YE(p q:wn):lg (qD p) (qD q)=decide (p=q):=by
 simp[qD,lg,oo];grind
theorem R6(f:Fk)(g:wn)(h:∀p,f (qD p)=decide (p=g))(acc:f8):(acc.map qD).any f=decide (g∈acc):=by
 rw[Tt];grind
def T7(g:wn)(acc:f8):inD (qD g) (acc.map qD)=decide (g∈acc):=R6 _ g (λp=>CN p g) acc
def DN(g:wn)(acc:f8):jQ (acc.map qD) (qD g)=decide (g∈acc):=R6 _ g (λp=>YE p g) acc
theorem kL(acc:f8):bZ (acc.map qD)=true/\gU (acc.map qD)<=1:=by
 induction acc with
 |nil=>simp
 |cons p acc a=>
  obtain⟨b,c⟩:=a;rw[Ue];refine⟨by rw[oW,b];simp[qD],?_⟩
  conv=>lhs;unfold gU
  have:Fe (qD p)=1:=by simp[qD,Fe,gU]
  lia
theorem EN:∀(r t:ac),zP (ja r) (ja t)=(r.zip t).map qD
 |[],t=>by simp[ja,zP]
 |a::r,[]=>by simp[ja,zP]
 |a::r,b::t=>by
  have:=EN r t;unfold ja at this ⊢;rw[Ue,Ue,zP,this];rfl
def cP(p:wn):Do:=(p.1,p.2)
theorem FN:∀acc:f8,zj (acc.map qD)=.ok (acc.map cP)
 |[]=>rfl
 |p::acc=>by
  rw[Ue,qD,zj,FN acc];rfl
section
def nL{p:wn}(a:Ti S.length T.length p):(ah S T p).map qD=zP (ja<|S[p.1]'a.1) (ja<|T[p.2]'a.2):=by
 rw[EN];unfold ah;rw[kh,Zc a.1,Bz,kh,Zc a.2,Bz]
end
theorem nE{tg:Tg} {st:za} (b:f st=.ok d) (a:tg d st=.ok s1):bt tg f st=.ok (.nx s1):=by
 simp_all
theorem U7{acc:f8}{i:Nat}{p:wn}(h:acc[i]?=some p):Ee (acc.map qD) (i:Int)=some (qD p):=by
 obtain⟨b,a⟩:=gf.mp h;rw[fc (by simp_all),Ht,a]
def eK{st:za}{acc:f8}{vs:dL}{p:wn} (j:f st=.ok d) (h:g st=.ok (qD p)) (b:st[i]?=some (some<|.o (.d true<|acc.map qD) vs)) (c:p∉acc) (e:vs.length<1000000):Yc i g f st=.ok (.nx<|st.set i<|some<|.o (.d true<|(acc++[p]).map qD)<|vs++[d]):=by
 have a:jQ (acc.map qD) (qD p)=false:=by rw[DN,Ed c]
 unfold Yc;rw[j,aZ,h,aZ,b];have e1:qP (acc.map qD) (qD p)=(acc++[p]).map qD:=by
  unfold qP;rw[a,Fh];rfl
 have e2:qQ (acc.map qD) vs (qD p) d=vs++[d]:=by
  unfold qQ;rw[a];rfl
 dsimp only;rw[aF ⟨rfl,Sx<|Rt e<|by decide⟩,e1,e2]
theorem get_map(h:Nat×Nat->D){p:wn}:∀{acc:f8},p∈acc->mG (acc.map qD) (acc.map h) (qD p)=some (h p)
 |q::acc,a=>by
  unfold mG;rw[Ue,Ue,Fp,find?_cons,YE]
  by_cases e:q=p
  .simp_all
  rw[Ed e];exact get_map h<|(Mb.mp a).resolve_left<|bf e
section
variable{S T:bv}{rk rk':ac}{c c' l r i:Nat}{acc:f8}
def Eu(S T:bv)(p:wn):D:=.lst<|(ah S T p).map qD
def Np(S T:bv)(d c:D)(acc:f8)(b a:li):za:=[some<|.v d,some<|.v c,some<|.o (.d true<|acc.map qD)<|acc.map<|Eu S T,b,a]
theorem ź(b:l<S.length)(a:r<T.length)(d:(l,r)∉acc)(e:acc.length<1000):nQ (Np S T (mD S rk c) (mD T rk' c') acc l r)=.ok (.nx<|Np S T (mD S rk c) (mD T rk' c') (acc++[(l,r)]) l r):=by
 show Yc 2 _ _ _=_;rw[(eK (d:=Eu S T (l,r))
  (aG (aG QW rfl<|eX<|tR b) (aG QW rfl<|eX<|tR a)<|by unfold Eu;rw[nL ⟨b,a⟩];rfl) (by simp[qD,Np]) rfl d (by rw[Gb];lia))]
 unfold Np;rw[Fh (f:=Eu S T)];rfl
theorem p5(d:l<S.length):∀(k r:Nat) (acc:f8) (a:li),r+k=T.length->(∀p∈acc,p.1<l\/(p.1=l/\p.2<r))->acc.length+k<=1000->
  ∃b,Tb (jb 4) nQ ((List.range' r k).map λ(k:Nat)=>D.int (k:Int)) (Np S T (mD S rk c) (mD T rk' c') acc l a)=.ok (.nx<|Np S T (mD S rk c) (mD T rk' c') (acc++(List.range' r k).map (Prod.mk l)) l b)
 |0,r,acc,a,_,_,_=>⟨a,by simp[Tb]⟩
 |k+1,r,acc,a,j,f,i=>by
  obtain⟨b,e⟩:=p5 d k (r+1) (acc++[(l,r)]) _ (by lia) (λp g=>by
   grind) (by rw[Ef,um];lia)
  refine⟨b,?_⟩;rw[Co]at e;exact fU rfl (ź d (by lia) (λz=>by rcases f _ z with h|h<;>simp at h)<|by lia) e
def wW(n m l k:Nat):f8:=(List.range' l k).flatMap λl=>(List.range' 0 m).map<|Prod.mk l
theorem U1(i:T.length<=8):∀(k l:Nat) (acc:f8) (b a:li),l+k=S.length->(∀p∈acc,p.1<l)->acc.length+8*k<=1000->
  ∃n m,Tb (jb 3) uN ((List.range' l k).map λ(k:Nat)=>D.int (k:Int)) (Np S T (mD S rk c) (mD T rk' c') acc b a)=.ok (.nx<|Np S T (mD S rk c) (mD T rk' c') (acc++wW S.length T.length l k) n m)
 |0,l,acc,b,a,_,_,_=>⟨b,a,by simp[wW]⟩
 |k+1,l,acc,b,a,q,h,o=>by
  obtain⟨g,e1⟩:=p5 (S:=S) (T:=T) (by lia) T.length 0 acc a (by lia) (λp d=>.inl<|h p d) (by lia)
  obtain⟨f,e,e2⟩:=U1 i k (l+1) (acc++(List.range' 0 T.length).map (Prod.mk l)) _ g (by lia) (λp d=>by
   grind) (by grind)
  refine⟨f,e,?_⟩;have j:acc++wW S.length T.length l (k+1)=(acc++(List.range' 0 T.length).map (Prod.mk l))++wW S.length T.length (l+1) k:=by
   unfold wW;rw[List.range'_succ,List.flatMap_cons,Co]
  rw[j];refine fU rfl (gB (WE (n:=T.length) ?_<|by lia) ?_) e2
  .exact XJ
  rwa [Y8]
theorem kK{p:wn}:p∈wW n m 0 n↔Ti n m p:=by
 unfold wW Ti;grind
theorem HY(n m:Nat):∀(k l:Nat),(wW n m l k).length=k*m
 |0,l=>by simp[wW]
 |k+1,l=>by
  have:=HY n m k<|l+1;unfold wW at this ⊢;rw[List.range'_succ,List.flatMap_cons,Ef,this,Gb,List.length_range',Nat.succ_mul,Nat.add_comm]
def yp(S T:bv):D:=.Cf true ((wW S.length T.length 0 S.length).map qD)<|(wW S.length T.length 0 S.length).map<|Eu S T
theorem Ĥ(M:Nb S rk c)(a:Nb T rk' c'):mK [mD S rk c,mD T rk' c']=.ok (yp S T):=by
 have f:=M.most;obtain⟨d,b,e⟩:=U1 (S:=S) a.most S.length 0 [] none none (by lia) (λ_ h=>nomatch h) (by simp;lia)
 refine cI rfl<|aJ rfl<|aJ (gB (WE XJ<|by lia)<|by rwa [Y8]) ?_
 simp[Np,js,yp]
end
def gd(S T:bv)(p:wn)(k:Nat):wn:=(dc S p.1 k,dc T p.2 k)
theorem pairs_len{l:f8}(d:l.Nodup)(h:∀p∈l,Ti n m p){k:Nat}(o:n<=k)(q:m<=8):l.length<=8*k:=by
 simpa using (jL (8*k) (l.map λp=>8*p.1+p.2) (by
  unfold Nodup;rw[JP];exact d.imp_of_mem λ{a b} g Td c z=>c (by
   have j:=h a g;have i:=h b Td;unfold Ti at j i;exact Ew (by lia)<|by lia)) λx e=>by
  obtain⟨p,f,rfl⟩:=ze.mp e;have:=h p f;unfold Ti at this;lia)
section
variable{S T:bv}{rk rk':ac}{c l r i:Nat}{acc:sB}
abbrev B2(S T:bv)(c l r i j:Nat)(acc:sB):Prop:=BG (gd S T) (l,r) c (Ti S.length T.length) i j acc
def GN(M:Nb S rk c)(f:Nb T rk' c)(p:wn)(k:Nat)(a:Ti S.length T.length p)(b:k<c):Ti S.length T.length (gd S T p k):=by
 obtain⟨_,_,_,e⟩:=Ls M.w a.1 b;obtain⟨_,_,_,d⟩:=Ls f.w a.2 b;exact⟨e,d⟩
def pE(M:Nb S rk c) (a:q<S.length):(S.getD q []).length=c:=by
 rw[kh,Zc a,Bz,(M.row _<|Rh a).1]
def vK(M:Nb S rk c)(b:Nb T rk' c){p:wn}(a:Ti S.length T.length p):(ah S T p).length=c:=by
 unfold ah;rw[List.length_zip,pE M a.1,pE b a.2,Nat.min_self]
theorem qE(M:Nb S rk c)(b:Nb T rk' c){p:wn}(a:Ti S.length T.length p){k:Nat}(d:k<(ah S T p).length):(ah S T p)[k]=gd S T p k:=by
 have hl:=vK M b a;have e:(ah S T p)[k]=((S.getD p.1 [])[k]'(by rw[pE M a.1];lia),(T.getD p.2 [])[k]'(by rw[pE b a.2];lia)):=List.getElem_zip
 rw[e];unfold gd dc;rw[ kh (l:=S.getD p.1 []),kh (l:=T.getD p.2 []),Zc _,Zc _];rfl
def kQ(acc:sB):dL:=acc.map λx=>qD x.1
def wQ(acc:sB):dL:=acc.map λx=>D.str x.2
def Ws(acc:sB):kQ acc=(acc.map (·.1)).map qD:=by rw[vg];rfl
def Fm(S T:bv)(l r:Nat)(acc:sB)(i:Nat)(a x7 x8:li):za:=
 [some<|.v<|yp S T,some<|.v<|qD (l,r),some<|.v<|.lst<|(wW S.length T.length 0 S.length).map qD,some<|.o (.d true<|kQ acc)<|wQ acc,some<|.o .l<|kQ acc,some<|.v<|.int i,a,x7,x8]
def B2.len(b:B2 S T c l r i j acc)(e:S.length<=8)(f:T.length<=8):acc.length<=64:=by
 have:=pairs_len b.nd (λp d=>by obtain⟨x,a,rfl⟩:=ze.mp d;exact(b.lt x a).1) e f
 rwa [Gb]at this
theorem Ż(M:Nb S rk c)(f:Nb T rk' c){x:(wn)×List Nat} (b:B2 S T c l r i j acc) (a:acc[i]?=some x) (o:j<c) :
  tH (Fm S T l r acc i (qD x.1) (D.str [97+j])<|qD<|gd S T x.1 j)=.ok (.nx<|Fm S T l r (Xm acc (gd S T x.1 j)<|x.2++[97+j]) i (qD x.1) (D.str [97+j])<|qD<|gd S T x.1 j):=by
 obtain⟨n,s⟩:=kL<|wW S.length T.length 0 S.length;have e:=nj a;have hl:=b.len M.most f.most;have v:=(gf.mp a).1;have u:=b.wl i i x (Ib _) a;have d:=GN M f x.1 j (b.lt x e).1 o;generalize p:gd S T x.1 j=g at d;have m:e2 yr (aA 8) (aA 2) (Fm S T l r acc i (qD x.1) (D.str [97+j])<|qD g)=.ok (.bl true):=aG rfl rfl (by
  have:=T7 g<|wW S.length T.length 0 S.length;rw[Bf<|kK.mpr d]at this;rw[<-this];exact aF ⟨by lia,by simp[qD],n⟩)
 have k:e2 pG (aA 8) (cW 3) (Fm S T l r acc i (qD x.1) (D.str [97+j])<|qD g)=.ok (.bl (!decide (g∈acc.map (·.1)))):=aG rfl rfl (by rw[<-DN,<-Ws];exact aF rfl)
 have t:=Js m λ_=>k
 unfold Xm
 by_cases h:g∈acc.map (·.1)
 .rw[Qa h];exact jU (dR t<|by rw[Bf h];rfl) rfl
 rw[Ea h];refine tQ (dR t<|by rw[Ed h];rfl)<|aJ (eK (by
  refine aG (x:=.str x.2) (aG rfl rfl ?_) rfl<|aF<|gJ<|by show x.2.length+1<=_;lia
  show aP (Rb true (qD x.1)=true) (Fg<|mG (kQ acc) (wQ acc)<|qD x.1)=_;rw[aF (c:=Rb true (qD x.1)=true) rfl,show mG (kQ acc) (wQ acc) (qD x.1)=_ from IF qD YE b.nd e]
  rfl) rfl (by rw[<-Ws];rfl) h<|by unfold wQ;rw[Gb];lia) ?_
 have q:=yD (i:=4) (f:=aA 8) (st:=(Fm S T l r acc i (qD x.1) (D.str [97+j])<|qD g).set 3 (some (.o (.d true ((acc.map (·.1)++[g]).map qD))<|wQ acc++[.str<|x.2++[97+j]]))) rfl rfl (by unfold kQ;rw[Gb];lia)
 rw[q];unfold Fm kQ wQ;simp only[List.map_append,List.map_map,map_cons,map_nil];rfl
theorem IY(h:j<3):[97,98,99].drop j=(97+j)::[97,98,99].drop (j+1):=by
 have:j=0\/j=1\/j=2:=by lia
 rcases this with rfl|rfl|rfl<;>rfl
theorem t5(M:Nb S rk c)(d:Nb T rk' c){x:(wn)×List Nat}:∀(k j:Nat) (acc:sB) (x7 x8:li),j+k=c->B2 S T c l r i j acc->acc[i]?=some x->
  ∃f p u,Tb (Jf [7,8]) tH (Mq ([97,98,99].drop j)<|((ah S T x.1).drop j).map qD) (Fm S T l r acc i (qD x.1) x7 x8)=.ok (.nx<|Fm S T l r f i (qD x.1) p u)/\B2 S T c l r i c f/\f[i]?=some x
 |0,j,acc,x7,x8,q,b,a=>by
  obtain rfl:j=c:=by lia
  refine⟨acc,x7,x8,?_,b,a⟩;rw[cz (l:=ah S T x.1) (by rw[vK M d (b.lt x<|nj a).1];exact Ib _)]
  cases [97,98,99].drop j<;>rfl
 |k+1,j,acc,x7,x8,q,b,a=>by
  have v:=M.c3;have m:j<c:=by lia
  have h:=(b.lt x<|nj a).1;have g:j<(ah S T x.1).length:=by rwa [vK M d h]
  obtain⟨f,o,n,e,s,t⟩:=t5 M d k (j+1) _ _ _ (by lia) (b.turn (GN M d) a m)<|mE a
  refine⟨f,o,n,?_,s,t⟩;rw[IY (by lia),Zq g,qE M d h]
  exact fU rfl (Ż M d b a m) e
theorem V1(M:Nb S rk c)(n:Nb T rk' c):∀(k i:Nat) (acc:sB) (h x7 x8:li) (f:Nat),65<=k+i->k<=f->B2 S T c l r i 0 acc->i<=acc.length->
  ∃j C u G,iK tK zR f (Fm S T l r acc i h x7 x8)=.ok (.nx<|Fm S T l r j j.length C u G)/\B2 S T c l r j.length 0 j
 |0,i,acc,h,x7,x8,f,v,y,b,w=>by have:=b.len M.most n.most;lia
 |k+1,i,acc,h,x7,x8,f,v,y,b,w=>by
  obtain⟨f,rfl⟩:∃g,f=g+1:=⟨f-1,by lia⟩
  have a:tK (Fm S T l r acc i h x7 x8)=.ok _:=aG rfl rfl rfl;rw[show (kQ acc).length=acc.length by unfold kQ;simp]at a
  by_cases d:i<acc.length
  .have m:=Zc d;generalize acc[i]=x at m;obtain⟨E,t,s,e,B,D⟩:=t5 M n c 0 acc x7 x8 (by lia) b m
   have H:=(gf.mp D).1;obtain⟨F,q,p,o,z,A⟩:=V1 M n k (i+1) E _ t s f (by lia) (by lia) B.next (by lia)
   refine⟨F,q,p,o,yE (dR a<|Gy d) (aJ (bI<|aG rfl rfl<|eX<|by rw[Ws];exact U7<|by rw[Fi,m];rfl)<|aJ (gB ?_ e)<|bI rfl) z,A⟩
   show ((e2 La _ _) _).bind _=_;rw[aG (z:=.ok _) rfl rfl (by
    show aP _ _=_;rw[aF (c:=Rb true _=true) rfl,get_map _<|kK.mpr<|(b.lt x<|nj m).1];rfl)]
   rfl
  have:i=acc.length:=by lia
  subst this;exact⟨acc,h,x7,x8,zE<|dR a<|MO d,b⟩
theorem ż(M:Nb S rk c)(f:Nb T rk' c)(d:l<S.length)(a:r<T.length):∃acc,sE [yp S T,qD (l,r),.lst<|(wW S.length T.length 0 S.length).map qD]=.ok (.Cf true (kQ acc)<|wQ acc)/\B2 S T c l r acc.length 0 acc:=by
 obtain⟨acc,h,g,x8,e,b⟩:=V1 M f 65 0 [((l,r),[])] none none none 100000 (by lia) (by lia) (BG.start ⟨d,a⟩)<|Gf _
 refine⟨acc,cI rfl<|aJ (st':=[yp S T,qD (l,r),D.lst<|(wW S.length T.length 0 S.length).map qD,some<|.o (.d true [qD (l,r)]) [.str []],none,none,none,none,none]) ?_ ?_,b⟩
 .exact aF ⟨rfl,rfl⟩
 refine aJ (oK<|fQ rfl)<|aJ (bI rfl)<|aJ (by rwa [KJ]) ?_
 simp[Fm]
end
theorem Uv{b:Type}{C E:Ex}{st:za}{j:Nat}(F G:b->D){q:b->Bool}:∀l:List b,(∀a∈l,C (st.set j<|F a)=.ok (.bl<|q a)/\(q a=true->E (st.set j<|F a)=.ok (G a)))->kW (jb j) C E st (l.map F)=.ok ((l.filter q).map G)
 |[],_=>rfl
 |a::l,h=>by
  obtain⟨f,e⟩:=h a Cb;rw[Ue,lL,show jb j (F a) st=.ok (st.set j<|F a) from rfl,aZ,f,aZ,cE,Uv F G l λa d=>h a<|Kb _ d]
  cases c:q a with
  |true=>
   rw[Qa rfl,e c,aZ,aZ,eP c];rfl
  |false=>
   rw[Ea Qh,iP (by rw[c];exact Qh)]
def yI{E:Ex}{st:za} (F G:α->D) {l:List α} (h:it st=.ok (l.map F)) (b:l.length<=1000000) (d:∀a∈l,E ((st.set j none).set j<|F a)=.ok (G a)):bH [j] (jb j) it bK E st=.ok (.lst<|l.map G):=by
 have:=Uv (C:=bK) (E:=E) (st:=st.set j none) (j:=j) F G (q:=λ_=>true) l λa c=>⟨rfl,λ_=>d a c⟩
 rw[MG.mpr λ_ _=>rfl]at this
 exact jV h (by rw[Gb];exact b) this
def bHb(L:f8):∃sq:f8,(fw<|L.map cP).map pD=sq.map qD/\sq.Perm L:=by
 have a:=Ĝ<|L.map cP;refine⟨(fw<|L.map cP).map λp=>(p.1.toNat,p.2.toNat),?_,?_⟩
 .rw[vg];refine zt λp b=>?_
  obtain⟨q,_,rfl⟩:=ze.mp<|a.mem_iff.mp b;rfl
 .have:=a.map λp:Int×Int=>(p.1.toNat,p.2.toNat)
  rw[vg]at this;have e:L.map ((λp:Int×Int=>(p.1.toNat,p.2.toNat)) ∘ cP)=L:=by
   conv=>rhs;rw[<-List.map_id L]
   exact zt λp _=>rfl
  rwa [e]at this
section
variable{S T:bv}{rk rk':ac}{c l r:Nat}
structure Sd(S T:bv)(c l r:Nat)(sq:f8)(fr:Db):Prop where
 nd:sq.Nodup
 inr:∀p∈sq,Ti S.length T.length p
 len:sq.length<=64
 cl:∀p∈sq,∀k,k<c->gd S T p k∈sq
 lead:∀p∈sq,Cc (gd S T) (l,r) (fr p)=p/\af c (fr p)/\(fr p).length<=64
 least:∀v,af c v->Cc (gd S T) (l,r) v∈sq/\sle (fr<|Cc (gd S T) (l,r) v) v
 ord:∃acc,B2 S T c l r acc.length 0 acc/\(fw ((acc.map (·.1)).map cP)).map pD=sq.map qD
def uS(S T:bv)(c:Nat)(sq:f8):bv:=sq.map λp=>(List.range c).map λk=>sq.idxOf<|gd S T p k
def Lc(rk:ac)(sq:f8):ac:=sq.map λp=>rk.getD p.1 0
def Kc(rk':ac)(sq:f8):ac:=sq.map λp=>rk'.getD p.2 0
def Bs(S T:bv)(rk rk':ac)(c:Nat)(sq:f8)(fr:Db):D:=.ins "Sides" ["pairs","fronts","steps","lefts","rights"] [.lst<|sq.map qD,.lst<|sq.map λp=>D.str<|fr p,.lst<|Sb<|uS S T c sq,.lst<|ja<|Lc rk sq,.lst<|ja<|Kc rk' sq]
def X1:eY "Machine" "ranks" (mD S rk c)=.ok (.lst<|ja rk):=by unfold mD;rw[mH,aF rfl];rfl
def ï:jA [mD S rk c,mD T rk' c]=.ok .Hb:=by
 unfold jA wM;simp[Ê]
def u5{x:Nat}(h:x<S.length):cM [mD S rk c,.int x]=.ok .Hb:=by
 unfold cM oY;have a:=ŭ (.int x) S.length rfl;have:XE S.length (.int x)=true:=by simp[XE,h]
 simp[XJ,a,this]
def rl(x:Nat)(d:wf)(xs:dL)(f e a b:D)(x5 c:li):za:=[some<|.o (.i x "Sides" d) xs,some<|.v f,some<|.v e,some<|.v a,some<|.v b,x5,c,none,none]
def iX{x:Nat}{c:wf} {d g f a b:D} {e x7:li}:e1 (eY "Sides" "pairs") (cW 0) [some<|.o (.i x "Sides"<|"pairs" :: c)<|d::xs,g,f,a,b,x5,e,x7,x8]=.ok d:=by
 show aP ("Sides"="Sides") (Fg<|(("pairs" :: c).zip<|d::xs).lookup "pairs")=_;rw[aF rfl,Fp,Ej,beq_self_eq_true];rfl
def Hx{x:Nat}{c:wf}{a b:D} {f:String} {e:Ex} (h:e (rl x c xs m1 m2 a b x5 x6)=.ok d) (g:f∉c/\c.length<900):wC 0 "Sides" f e (rl x c xs m1 m2 a b x5 x6)=.ok (.nx<|rl x (c++[f]) (xs++[d]) m1 m2 a b x5 x6):=by
 rw[ZX,h,aZ];exact aF ⟨rfl,g⟩
def v5{a vs:dL}{p:wn} (h:mG a vs (qD p)=some d):La (.Cf true a vs) (qD p)=.ok d:=by
 show aP (Rb true (qD p)=true) (Fg<|mG _ _<|qD p)=_;rw[aF (c:=Rb true (qD p)=true) rfl,h];rfl
def bKh{g:wn}(h:g∈sq):(sq.map qD).findIdx? (λd=>jd d<|qD g)=some (sq.idxOf g):=by
 induction sq with
 |nil=>nomatch h
 |cons p sq a=>
  rw[Ue,List.findIdx?_cons,CN,List.idxOf_cons]
  by_cases e:p=g
  .rw[Bf e,Qa rfl,show (p==g)=true by simp[e]]
   rfl
  .rw[Ed e,Ea Qh,show (p==g)=false by simp[e],a<|(Mb.mp h).resolve_left<|bf e]
   rfl
def nR{l:ac}{i:Nat}(h:i<l.length):Ee (ja l) (i:Int)=some (.int (l.getD i 0:Nat)):=by
 rw[fc (by rw[bN];exact h)]
 simp[ja,h]
def nK(M:Nb S rk c)(n:Nb T rk' c)(N:S.length<=7)(G:l<S.length)(F:r<T.length):∃sq fr,dD [mD S rk c,mD T rk' c,.int l,.int r]=.ok (Bs S T rk rk' c sq fr)/\Sd S T c l r sq fr:=by
 obtain⟨a,E,b⟩:=ż M n G F;obtain⟨sq,C,j⟩:=bHb (a.map (·.1));have L:a.length<64:=by
  have:=pairs_len b.nd (λp h=>by obtain⟨x,g,rfl⟩:=ze.mp h;exact(b.lt x g).1) N n.most
  rw[Gb]at this;omega
 have U:=M.most;have V:=n.most;have K:sq.length<=64:=by rw[j.length_eq,Gb];omega
 have B:∃fr:Db,∀x∈a,fr x.1=x.2:=by
  refine⟨λp=>((a.find? λx=>decide (x.1=p)).map (·.2)).getD [],λx g=>?_⟩
  have w:=b.nd;clear E b C j L K
  induction a with
  |nil=>nomatch g
  |cons y a P=>
   rw[Ue,ki]at w;dsimp only;rw[find?_cons];rcases Mb.mp g with rfl|g
   .rw[Bf rfl];rfl
   .rw[Ed λz:y.1=x.1=>w.1 (by rw[z];exact ze.mpr ⟨x,g,rfl⟩)]
    exact P g w.2
 obtain⟨fr,m⟩:=B;have t:∀p∈sq,∃x∈a,x.1=p:=λp h=>ze.mp<|j.mem_iff.mp h
 have J:∀x∈a,x.1∈sq:=λx g=>j.mem_iff.mpr<|ze.mpr ⟨x,g,rfl⟩
 have o:Sd S T c l r sq fr:=by
  refine⟨j.nodup_iff.mpr b.nd,λp h=>?_,K,λp h k hk=>?_,λp h=>?_,λv hv=>?_,a,b,C⟩
  .obtain⟨x,g,rfl⟩:=t p h;exact(b.lt x g).1
  .obtain⟨x,g,rfl⟩:=t p h;obtain⟨i,q⟩:=Rm.mp g;obtain⟨y,s,e,_⟩:=b.cls i x k q hk<|.inl (gf.mp q).1;rw[<-e];exact J y s
  .obtain⟨x,g,rfl⟩:=t p h;obtain⟨i,q⟩:=Rm.mp g;have H:=b.wl i i x (Ib _) q;have X:=(gf.mp q).1;rw[m x g];exact⟨(b.lt x g).2.1,(b.lt x g).2.2,by omega⟩
  .obtain⟨y,s,e1,e2⟩:=b.whole hv;rw[<-e1,m y s];exact⟨J y s,e2⟩
 refine⟨sq,fr,?_,o⟩;refine K0 λx=>?_
 unfold Vs;rw[aF<|show ([mD S rk c,mD T rk' c,D.int l,D.int r]:dL).length=4 from rfl]
 let st (f:wf) (xs:dL):za:=rl x f xs (mD S rk c) (mD T rk' c) (.int l) (.int r) (yp S T)<|D.Cf true (kQ a)<|wQ a
 have it:∀f xs,cc (e1 (eY "Sides" "pairs")<|cW 0) (st ("pairs" :: f)<|.lst (sq.map qD)::xs)=.ok (sq.map qD):=λf xs=>lB iX
 have c1:∀f xs,bH [7] (jb 7) (cc<|e1 (eY "Sides" "pairs")<|cW 0) bK qX (st ("pairs" :: f)<|.lst (sq.map qD)::xs)=.ok (.lst<|sq.map λp=>D.str<|fr p):=λf xs=>yI qD _ (it f xs) (by omega) λp h=>by
  obtain⟨x,g,rfl⟩:=t p h;rw[m x g];exact aG rfl rfl<|v5<|IF qD YE b.nd g
 have c2:∀f xs,bH [7] (jb 7) (cc<|e1 (eY "Sides" "pairs")<|cW 0) bK qZ (st ("pairs" :: f)<|.lst (sq.map qD)::xs)=.ok (.lst<|Sb<|uS S T c sq):=λf xs=>by
  unfold Sb uS;rw[vg];refine yI qD _ (it f xs) (by omega) λp h=>?_
  have u:=o.inr p h;have I:=M.c3;have W:=vK M n u;have Y:ah S T p=(List.range c).map (gd S T p):=by
   refine OP (by rw[W];simp) λi H X=>?_
   rw[qE M n u H];simp
  obtain⟨O,p2⟩:=kL sq;have e:=yI (E:=qY) (j:=8) (it:=cc<|e2 La (aA 5)<|aA 7) (st:=((st ("pairs" :: f)<|.lst (sq.map qD)::xs).set 7 none).set 7<|qD p) (l:=List.range c) (λk=>qD<|gd S T p k) (λk=>D.int (sq.idxOf (gd S T p k):Nat)) (lB<|aG rfl rfl<|v5 (by
    rw[get_map (Eu S T)<|kK.mpr u];unfold Eu;rw[Y,vg];rfl)) (by rw[Ut];omega) λk hk=>by
   have A:=o.cl p h k<|Vi.mp hk;show ((e1 (eY "Sides" "pairs")<|cW 0) _).bind _=_;rw[show (e1 (eY "Sides" "pairs")<|cW 0) ((((st ("pairs" :: f)<|.lst (sq.map qD)::xs).set 7 none).set 7<|qD p).set 8 none |>.set 8 (qD<|gd S T p k))=.ok (.lst<|sq.map qD) from iX,aZ]
   show (Fg<|(sq.map qD).findIdx? λd=>jd d<|qD<|gd S T p k).bind _=_
   rw[bKh A];exact aF ⟨gJ (by rw[Gb];omega),by omega,by simp[qD],O⟩
  refine e.trans ?_
  unfold ja;rw[Function.comp_apply,vg];rfl
 have I:∀f xs,bH [7] (jb 7) (cc<|e1 (eY "Sides" "pairs")<|cW 0) bK rA (st ("pairs" :: f)<|.lst (sq.map qD)::xs)=.ok (.lst<|ja<|Lc rk sq):=λf xs=>by
  unfold ja Lc;rw[vg];exact yI qD _ (it f xs) (by omega) λp h=>aG (x:=.lst<|ja rk) (y:=.int p.1) X1 rfl<|eX<|nR<|by rw[M.Ri];exact(o.inr p h).1
 have Z:∀f xs,bH [7] (jb 7) (cc<|e1 (eY "Sides" "pairs")<|cW 0) bK rB (st ("pairs" :: f)<|.lst (sq.map qD)::xs)=.ok (.lst<|ja<|Kc rk' sq):=λf xs=>by
  unfold ja Kc;rw[vg];exact yI qD _ (it f xs) (by omega) λp h=>aG (x:=.lst<|ja rk') (y:=.int p.2) X1 rfl<|eX<|nR<|by rw[n.Ri];exact(o.inr p h).2
 have key:iB (rl x [] [] (mD S rk c) (mD T rk' c) (.int l) (.int r) none none)=.ok (.nx<|st ["pairs","fronts","steps","lefts","rights"] [.lst<|sq.map qD,.lst<|sq.map λp=>D.str<|fr p,.lst<|Sb<|uS S T c sq,.lst<|ja<|Lc rk sq,.lst<|ja<|Kc rk' sq]):=by
  unfold iB;refine aJ (st':=rl x [] [] (mD S rk c) (mD T rk' c) (.int l) (.int r) none none) ?_ ?_
  .show (aV _ _ _).bind _=_;rw[aO rfl ï];rfl
  refine aJ (st':=rl x [] [] (mD S rk c) (mD T rk' c) (.int l) (.int r) none none) ?_<|aJ (st':=rl x [] [] (mD S rk c) (mD T rk' c) (.int l) (.int r) none none) ?_ ?_
  .show (aP _<|cM [mD S rk c,.int l]).bind _=_;rw[u5 G,aF (by decide)]
   rfl
  .show (aP _<|cM [mD T rk' c,.int r]).bind _=_;rw[u5 F,aF (by decide)]
   rfl
  refine aJ (st':=rl x [] [] (mD S rk c) (mD T rk' c) (.int l) (.int r) (yp S T) none) (bI<|aO rfl<|Ĥ M n) ?_
  have Tw:e1 Hs (aA 5) (rl x [] [] (mD S rk c) (mD T rk' c) (.int l) (.int r) (yp S T) none)=.ok (.lst<|(wW S.length T.length 0 S.length).map qD):=aF<|gJ (by rw[Gb,HY];have:S.length*T.length<=8*8:=Nat.mul_le_mul U V;omega)
  have Q:nA (aC (aA 3)<|aC (aA 4) aR) (rl x [] [] (mD S rk c) (mD T rk' c) (.int l) (.int r) (yp S T) none)=.ok (qD (l,r)):=by simp[rl,qD]
  refine aJ (st':=st [] []) (bI<|aO (aU rfl<|aU Q<|aU Tw rfl) E) ?_
  have R:e1 Rv (aA 6) (st [] [])=.ok (.lst<|sq.map qD):=by
   show (zj<|kQ a).bind _=_;rw[Ws,FN,aZ,<-C];exact aF (by rw[Gb,Gb];omega)
  exact aJ (Hx R<|by decide)<|aJ (Hx (c1 _ _)<|by decide)<|aJ (Hx (c2 _ _)<|by decide)<|aJ (Hx (I _ _)<|by decide)<|Hx (Z _ _)<|by decide
 show (iB<|rl x [] [] (mD S rk c) (mD T rk' c) (.int l) (.int r) none none).bind _=_;rw[key];simp[st,rl,Bs]
end
def Wd(w:D)(ws:u8):Prop:=ws.length=4/\(w=.tup (ws.map D.bl)\/(w=.fn "JUST_ONE"/\ws=[false,true,true,false])\/(w=.fn "ONE_ALONE"/\ws=[false,true,false,false]))
def wI(ws:u8)(p q:Int):Bool:=ws.getD (p%2*2+q%2).toNat false
theorem kX{w:D} (d:Wd w ws) (p q:Int):lV [w,.int p,.int q]=.ok (.bl<|wI ws p q):=by
 have b:La (.tup<|ws.map D.bl) (.int<|p%2*2+q%2)=.ok (.bl<|wI ws p q):=by
  obtain⟨n,e⟩:∃n:Nat,p%2*2+q%2=n:=⟨(p%2*2+q%2).toNat,by lia⟩
  have hl:n<ws.length:=by rw[d.1];lia
  show Fg _=_;unfold wI;rw[e,fc (by simp_all)]
  simp[hl,Fg]
 have a:∀{c:ag}{r:R D},c w (.int<|p%2*2+q%2)=r->e2 c (aA 0) (e2 dH (e2 iZ (e2 kO (aA 1)<|eI 2)<|eI 2)<|e2 kO (aA 2)<|eI 2) [w,p,q]=r:=λh=>aG rfl (aG (aG (aG rfl rfl<|iC<|by decide) rfl<|aF<|by lia) (aG rfl rfl<|iC<|by decide) rfl) h
 refine cI rfl<|dX ?_;rcases d.2 with rfl|⟨rfl,rfl⟩|⟨rfl,rfl⟩
 .exact G1 (a b)
 .exact YJ (a rfl) (G1<|a<|(aF rfl).trans b)
 .exact YJ (a rfl) (YJ (a<|ű<|by decide)<|a<|(aF rfl).trans b)
def Bl(b:ac):Prop:=∃a:ac,a.length<=8/\∀x∈b,x∈a
def Hf(pr fr:D)(U:bv)(b a:ac):D:=.ins "Sides" ["pairs","fronts","steps","lefts","rights"] [pr,fr,.lst<|Sb U,.lst<|ja b,.lst<|ja a]
section
variable{pr fr w:D}{U:bv}{la lb:ac}{ws:u8}{c:Nat}
def vE:eY "Sides" "lefts" (Hf pr fr U la lb)=.ok (.lst<|ja la):=by unfold Hf;rw[mH,aF rfl];rfl
def xE:eY "Sides" "rights" (Hf pr fr U la lb)=.ok (.lst<|ja lb):=by unfold Hf;rw[mH,aF rfl];rfl
def bHc:eY "Sides" "fronts" (Hf pr fr U la lb)=.ok fr:=by unfold Hf;rw[mH,aF rfl];rfl
def HN:eY "Sides" "steps" (Hf pr fr U la lb)=.ok (.lst<|Sb U):=by unfold Hf;rw[mH,aF rfl];rfl
theorem Jx{x:Int}:∀(l acc:lw),x∈l.foldl (λacc x=>if acc.any (· == x) then acc else acc++[x]) acc↔x∈acc\/x∈l
 |[],acc=>by simp
 |y::l,acc=>by
  rw[Dw,Jx l];grind
theorem IM:∀(l acc:lw),acc.Nodup->(l.foldl (λacc x=>if acc.any (· == x) then acc else acc++[x]) acc).Nodup
 |[],acc,h=>h
 |y::l,acc,h=>by
  rw[Dw];refine IM l _ ?_
  split
  .exact h
  rename_i c;refine Bo.mpr ⟨h,by simp,λa d b Td e=>c ?_⟩
  simp_all
def JM{x:Int}{l:lw}:x∈eF (bY l)↔x∈l:=by
 rw[(fG _).mem_iff];unfold bY;rw[Jx];simp
theorem A5:∀{l:ac}{r:ac},l.Nodup->(∀x∈l,x∈r)->l.length<=r.length
 |[],_,_,_=>Gf _
 |a::l,r,b,h=>by
  rw[ki]at b;have:=A5 (r:=r.erase a) b.2 λx c=>(List.mem_erase_of_ne λz=>b.1<|by rwa [<-z]).mpr<|h x<|Kb _ c
  grind
def zz(a:ac):lw:=a.map λ(x:Nat)=>(x:Int)
def AE{p:Int}:p∈zz la↔∃x∈la,(x:Int)=p:=ze
theorem mR(h:Bl la):(bY<|zz la).length<=8:=by
 obtain⟨k,l,g⟩:=h;have j:=A5 (l:=(bY<|zz la).map Int.toNat) (by
  unfold Nodup;rw[JP];refine(IM (zz la) [] vz).imp_of_mem λ{a b} i Td c z=>c ?_
  obtain⟨x,_,rfl⟩:=AE.mp<|(Jx _ _).mp i |>.resolve_left (λz=>nomatch z)
  obtain⟨y,_,rfl⟩:=AE.mp<|(Jx _ _).mp Td |>.resolve_left (λz=>nomatch z)
  simp_all) λx f=>by
  obtain⟨z,d,rfl⟩:=ze.mp f;obtain⟨y,e,rfl⟩:=AE.mp<|(Jx _ _).mp d |>.resolve_left (λz=>nomatch z)
  exact g y e
 rw[Gb]at j;lia
theorem DE(h:Bl la)(a:la.length<=64):pU (.lst<|ja la)=.ok (.lst<|(eF<|bY<|zz la).map D.int):=by
 show (wD _).bind _=_;have:ja la=(zz la).map D.int:=by unfold ja zz;rw[vg];rfl
 have b:=mR h;rw[this,qL];exact aF ⟨by unfold zz;rw[Gb];lia,by lia⟩
def bKi{C E:Ex}{st:za} {q:Int->Bool} {G:Int->D} (l:lw) (h:∀a∈l,C (st.set j a)=.ok (.bl<|q a)/\(q a=true->E (st.set j a)=.ok (G a))):kW (jb j) C E st (l.map D.int)=.ok ((l.filter q).map G):=Uv D.int G l h
def fj(ws:u8)(a L2:lw):lv:=a.flatMap λp=>(L2.filter λq=>wI ws p q).map λq=>(p,q)
theorem MV(fl:Bl lb)(c:lb.length<=64)(d:Wd w ws):∀(ps:lw) (acc:lv) (b:li),acc.length+8*ps.length<=1000->
  ∃h,Tb (jb 3) uJ (ps.map D.int) [Hf pr fr U la lb,w,some<|.o .l<|acc.map pD,b,none]=.ok (.nx [Hf pr fr U la lb,w,some<|.o .l<|(acc++fj ws ps (eF<|bY<|zz lb)).map pD,h,none])
 |[],acc,b,_=>⟨b,by rw[show fj ws [] _=[] from rfl,Ql];rfl⟩
 |p::ps,acc,b,g=>by
  rw[dg]at g
  let a:=((eF<|bY<|zz lb).filter λq=>wI ws p q).map λq=>(p,q)
  have j:=mR fl;have i:a.length<=8:=by
   rw[Gb];refine Yg (Jt _ _) ?_
   rwa [(fG _).length_eq]
  obtain⟨f,e⟩:=MV fl c d ps (acc++a) _ (by rw[Ef];lia)
  refine⟨f,?_⟩;rw[show acc++fj ws (p::ps) (eF<|bY<|zz lb)=acc++a++fj ws ps (eF<|bY<|zz lb) by rw[Co];rfl]
  refine fU (s1:=[some _,w,some _,p,none]) rfl ?_ e;show dw 2 _ _=_;rw[(d5 (ys:=a.map pD) (by
   refine jV (xs:=(eF<|bY<|zz lb).map D.int) (lB ?_) ?_ ?_
   .rw[Qv,show e1 (eY "Sides" "rights") (aA 0) [Hf pr fr U la lb,w,some _,some _,none]=.ok _ from xE]
    exact DE fl c
   .rw[Gb,(fG _).length_eq];lia
   have:=bKi (C:=uI) (E:=nM) (st:=[Hf pr fr U la lb,w,some<|.o .l<|acc.map pD,p,none]) (j:=4) (G:=λq=>pD (p,q)) (eF<|bY<|zz lb) λq _=>⟨aO rfl<|kX d p q,λ_=>by simp[nM,pD]⟩
   rwa [vg]) rfl<|gJ<|by rw[Gb,Gb];lia),Fh]
  rfl
def Y1:z∈fj ws L1 L2↔z.1∈L1/\z.2∈L2/\wI ws z.1 z.2=true:=by
 unfold fj;simp only[List.mem_flatMap,List.mem_map,List.mem_filter];constructor
 .rintro⟨p,c,q,⟨b,a⟩,rfl⟩;exact⟨c,b,a⟩
 .rintro⟨b,a,d⟩;exact⟨z.1,b,z.2,⟨a,d⟩,rfl⟩
theorem ID{L2:lw}(h:L2.length<=8):∀a:lw,(fj ws a L2).length<=8*a.length
 |[]=>Gf _
 |p::a=>by
  show ((L2.filter λq=>wI ws p q).map (λq=>(p,q))++fj ws a L2).length<=_
  have:=ID h a;have:=Jt (λq=>wI ws p q) L2
  rw[Ef,Gb,dg];lia
theorem nX(a:Bl la)(d:Bl lb)(c:la.length<=64)(Td:lb.length<=64)(b:Wd w ws):gZ [Hf pr fr U la lb,w]=.ok (.lst<|(fj ws (eF<|bY<|zz la)<|eF<|bY<|zz lb).map pD):=by
 have g:=mR a;have hl:(eF<|bY<|zz la).length<=8:=by rwa [(fG _).length_eq]
 obtain⟨f,e⟩:=MV d Td b (eF<|bY<|zz la) [] none (by simp;lia)
 refine cI rfl<|aJ (oK<|fQ rfl)<|aJ (gB (lB ?_) e) ?_
 .show (eY "Sides" "lefts"<|Hf pr fr U la lb).bind _=_;rw[vE];exact DE a c
 rfl
theorem ĥ(c:Bl la)(b:Bl lb)(g:la.length<=64)(Td:lb.length<=64)(d:Wd w ws):∃a:lv,gZ [Hf pr fr U la lb,w]=.ok (.lst<|a.map pD)/\a.length<=64/\∀z,z∈a↔z.1∈zz la/\z.2∈zz lb/\wI ws z.1 z.2=true:=by
 have f:=mR c;have e:=mR b;refine⟨_,nX c b g Td d,?_,λz=>by rw[Y1,JM,JM]⟩
 have:=ID (ws:=ws) (L2:=eF<|bY<|zz lb) (by rwa [(fG _).length_eq])<|eF<|bY<|zz la
 rw[(fG<|bY<|zz la).length_eq]at this;lia
end
def zZ(p q:Int):Nat->List (Nat×Nat)->List Nat
 |_,[]=>[]
 |k,x::l=>if (x.1:Int)<=p/\(x.2:Int)<=q then k::zZ p q (k+1) l else zZ p q (k+1) l
def ZI(p q:Int)(k:Nat)(x:wn)(l:f8):zZ p q k (x::l)=if (x.1:Int)<=p/\(x.2:Int)<=q then k::zZ p q (k+1) l else zZ p q (k+1) l:=rfl
theorem NJ{p q:Int}{i:Nat}:∀{l:f8} {k:Nat},i∈zZ p q k l↔k<=i/\∃x,l[i-k]?=some x/\(x.1:Int)<=p/\(x.2:Int)<=q
 |[],k=>by simp[zZ]
 |x::l,k=>by
  have key:(k<=i/\∃y,(x::l)[i-k]?=some y/\(y.1)<=p/\(y.2)<=q)↔(i=k/\(x.1)<=p/\(x.2)<=q)\/(k+1<=i/\∃y,l[i-(k+1)]?=some y/\(y.1)<=p/\(y.2)<=q):=by
   constructor
   .rintro⟨c,y,b,a⟩
    by_cases e:i=k
    .simp_all
    rw[show i-k=(i-(k+1))+1 by lia]at b
    exact .inr ⟨by lia,y,b,a⟩
   rintro(⟨rfl,h⟩|⟨c,y,b,a⟩)
   .simp_all
   exact⟨by lia,y,by rwa [show i-k=(i-(k+1))+1 by lia],a⟩
  rw[key,<-(NJ),ZI];split
  .simp_all
  rename_i h;exact⟨.inr,λz=>z.resolve_left λe=>h e.2⟩
theorem JY{p q:Int}:∀(l:f8) (k:Nat),(zZ p q k l).length<=l.length
 |[],_=>Ib _
 |x::l,k=>by
  have:=JY (p:=p) (q:=q) l<|k+1;rw[ZI];split<;>simp<;>lia
theorem rX{p q:Int}{a:li}{d3:li}:∀(l:f8) (k:Nat),kW (Jf [4,5]) pK wK [a,p,q,d3,none,none] (uH k<|l.map qD)=.ok (ja<|zZ p q k l)
 |[],_=>rfl
 |x::l,k=>by
  show kW _ _ _ _ (.tup [.int k,qD x] :: uH (k+1) _)=_;rw[lL,show Jf [4,5] _ [a,some _,some _,d3,none,none]=.ok [a,some _,some _,d3,some _,some _] from rfl,aZ]
  have b:pK [a,p,q,d3,k,qD x]=.ok _:=Js rfl λ_=>rfl
  rw[b,aZ,cE,rX l<|k+1,ZI]
  by_cases h:(x.1)<=p/\(x.2)<=q
  .rw[Qa h,Bf h.1,Bf h.2];rfl
  rw[Ea h,Ea (by simpa using h)]
def Cd(b a:ac)(p q:Int):Nat:=uo<|zZ p q 0<|b.zip a
theorem Z1{l:lw}(h:l≠[]):so l∈l/\∀x∈l,x<=so l:=by
 cases l with
 |nil=>simp_all
 |cons i r=>
  obtain⟨c,b,a⟩:=LJ r i;refine⟨?_,λx hx=>?_⟩
  .rcases a with a|a
   .show r.foldl _ i∈_;rw[a];exact Cb
   exact Kb _ a
  rcases Mb.mp hx with rfl|hx
  .exact c
  exact b x hx
def zp(rk:ac)(n:Nat):Int:=so<|(bF n).map λr=>(rk.getD r 0:Int)
def JD(a:n≠0):bF n≠[]:=λz=>a (by
 have:=UW n;rw[z]at this;exact this.symm)
def KY{n:Nat}(d:n≠0):(∃r∈bF n,(rk.getD r 0:Int)=zp rk n)/\∀r∈bF n,(rk.getD r 0:Int)<=zp rk n:=by
 obtain⟨c,b⟩:=Z1 (l:=(bF n).map λr=>(rk.getD r 0)) (by simpa using JD d)
 obtain⟨r,a,e⟩:=ze.mp c;exact⟨⟨r,a,e⟩,λr a=>b _<|ze.mpr ⟨r,a,rfl⟩⟩
def EE{n r:Nat}{p:Int}(a:r∈bF n)(e:(rk.getD r 0:Int)=p)(b:∀r∈bF n,(rk.getD r 0:Int)<=p):zp rk n=p:=
 R0 (ze.mpr ⟨r,a,e⟩) λx c=>by
  obtain⟨r,a,rfl⟩:=ze.mp c;exact b r a
def jE{st:za} (h:r st=.ok ds) (a:ds.length<=1000:=by exact Ck rfl):nA r st=.ok (.tup ds):=by rw[bCc,h,aZ,aF<|gJ<|Yg a<|by decide]
structure Pl(U:bv)(la lb:ac)(c:Nat):Prop where
 m:ie U la c
 fa:Bl la
 fb:Bl lb
 la:la.length=U.length
 lb:lb.length=U.length
section
variable{pr fr w:D}{U:bv}{la lb:ac}{ws:u8}{c n:Nat}{p q:Int}
theorem Wx(P:Pl U la lb c):i∈bF (Cd la lb p q)↔i<U.length/\(la.getD i 0:Int)<=p/\(lb.getD i 0:Int)<=q:=by
 unfold Cd;rw[VW,NJ,Nat.sub_zero];have d:(la.zip lb).length=U.length:=by rw[List.length_zip,P.la,P.lb,Nat.min_self]
 constructor
 .rintro⟨_,x,f,b⟩;have a:=(gf.mp f).1;rw[d]at a;have e:x=(la[i]'(by rwa [P.la]),lb[i]'(by rwa [P.lb])):=by
   simp_all
  subst e;simpa [P.la,P.lb,a] using b
 rintro⟨a,b⟩;simpa [P.la,P.lb,a] using b
def Bq(P:Pl U la lb c):Cd la lb p q<2^U.length:=by
 exact gL λi a=>((Wx P).mp<|VW.mpr a).1
theorem C2(P:Pl U la lb c):kY [Hf pr fr U la lb,.int p,.int q]=.ok (.int<|Cd la lb p q):=by
 have g:=P.m.most;have e:=P.la;have b:(la.zip lb).length<=64:=by grind
 have d:=JY (p:=p) (q:=q) (la.zip lb) 0;refine cI rfl<|aJ (st':=[some _,some _,some _,D.lst<|(la.zip lb).map qD,none,none]) (bI<|aG vE xE ?_)<|dX<|aO (aU (jV ?_ ?_<|rX _ _) rfl)<|eL (λi hi=>?_)<|by lia
 .rw[<-EN];rfl
 .rfl
 .have:∀(k:Nat)(l:dL),(uH k l).length=l.length:=λk l=>by
   induction l generalizing k with
   |nil=>rfl
   |cons x l a=>show (uH (k+1) l).length+1=_;rw[a];rfl
  rw[this,Gb];lia
 obtain⟨_,x,f,_⟩:=NJ.mp hi;grind
theorem Ž(P:Pl U la lb c)(d:n<2^U.length)(h:n≠0):jR [Hf pr fr U la lb,.int n]=.ok (.tup [.int<|zp la n,.int<|zp lb n]):=by
 have j:=P.m.most;have hl:=jL U.length _ (iT _) λx e=>cU d e
 have key:∀{E:Ex}{a:ac},a.length=U.length->(∀r:Nat,r<a.length->E [Hf pr fr U la lb,some _,D.lst<|ja<|bF n,some _]=.ok _)->e1 sy (bH [3] (jb 3) (cc<|aA 2) bK E) [some _,n,some _,none]=.ok _:=λ{E a} g f=>by
  have i:(bF n).map (λr=>D.int<|a.getD r 0)=((bF n).map λr=>(a.getD r 0:Int)).map D.int:=by rw[vg];rfl
  rw[Qv,(yI _ _ rfl (by lia) λr b=>f r<|by rw[g];exact cU d b),i]
  show (wD _).bind _=_;rw[qL];exact aF (by rw[Gb];exact List.length_pos_iff.mpr<|JD h)
 exact cI rfl<|aJ (bI<|aO rfl<|uP d<|by lia)<|dX<|jE<|aU (key P.la λr b=>aG vE rfl<|eX<|nR b)<|aU (key P.lb λr b=>aG xE rfl<|eX<|nR b) rfl
def Kx(P:Pl U la lb c){k:Nat}(b:k<2^U.length)(h:m∈vJ U c k):m<2^U.length/\m≠0:=by
 obtain⟨r,a,rfl,_⟩:=zG.mp h;refine⟨Q1,λz=>?_⟩
 have:=yH P.m b a;rw[z]at this;exact absurd (bV.mp this) (by simp)
theorem Ħ{k:Nat}:(vJ U c k).length<=(bF k).length:=by
 have e:∀(b a:ac),(b.foldl (λa r=>if gM U c k r∉a/\Ac U (gM U c k r)=true then a++[gM U c k r] else a) a).length<=a.length+b.length:=λb=>by
  induction b with
  |nil=>simp
  |cons r b d=>
   intro a;rw[Dw,dg];refine Yg (d _) ?_
   split
   .rw[Ef,um];lia
   lia
 simpa [vJ] using (e _ [])
def Cq(U:bv)(c:Nat)(b a:ac)(z:Do)(m:Nat):Prop:=m∈vJ U c (Cd b a z.1 z.2)/\zp b m=z.1/\zp a m=z.2
theorem CV(P:Pl U la lb c):∀(g:lv) (acc:ac) (k j x5:li),acc.length+64*g.length<=10000->
  ∃(f:ac)(J H G:li),Tb (Jf [3,4]) uM (g.map pD) [Hf pr fr U la lb,w,some<|.o .l<|ja acc,k,j,x5,none]=.ok (.nx [Hf pr fr U la lb,w,some<|.o .l<|ja f,J,H,G,none])/\f.length<=acc.length+64*g.length/\∀m,m∈f↔m∈acc\/∃z∈g,Cq U c la lb z m
 |[],acc,k,j,x5,_=>⟨acc,k,j,x5,rfl,by simp,by simp⟩
 |z::g,acc,k,j,x5,A=>by
  rw[dg]at A;have K:=P.m.most;have l:=Bq (p:=z.1) (q:=z.2) P
  let d:=(vJ U c<|Cd la lb z.1 z.2).filter λm=>decide (zp la m=z.1)&&decide (zp lb m=z.2)
  have v:(vJ U c<|Cd la lb z.1 z.2).length<=64:=by
   have o:=jL U.length _ (iT _) λx n=>cU l n
   have:=Ħ (U:=U) (c:=c) (k:=Cd la lb z.1 z.2);lia
  have u:d.length<=64:=Yg (Jt _ _) v;obtain⟨f,r,q,p,e,t,s⟩:=CV P g (acc++d) _ _ _ (by rw[Ef];lia)
  refine⟨f,r,q,p,?_,by rw[Ef]at t;rw[dg];lia,λm=>?_⟩
  .refine fU rfl (aJ (bI<|aO (aU HN<|aU (aO rfl<|C2 P) rfl)<|Ì P.m l) ?_) e;have n:=d5 (i:=2) (f:=bH [6] (jb 6) (cc<|aA 5) uL uK) (st:=[Hf pr fr U la lb,w,some<|.o .l<|ja acc,z.1,z.2,D.lst<|ja _,none]) (ys:=ja d) (by
    refine jV rfl (by rw[bN];lia)<|Uv (λ(x:Nat)=>D.int x) _ _ λm B=>⟨?_,λ_=>rfl⟩
    obtain⟨o,C⟩:=Kx P l B;refine aG (aO rfl<|Ž P o C) (jE rfl)<|(aF ⟨by simp,rfl,rfl⟩).trans ?_
    have F:∀a b:Int,(a==b)=decide (a=b):=λa b=>by by_cases h:a=b<;>simp[h]
    simp[jd,pF,F]) rfl (gJ<|by rw[bN,bN];lia)
   have E:ja (acc++d)=ja acc++ja d:=by unfold ja;rw[Fh]
   rwa [E]
  rw[s,ji];have I:m∈d↔Cq U c la lb z m:=by
   rw[Qj,Ho,Mg,Mg];exact Fw
  rw[I];constructor
  .rintro((h|h)|⟨y,i,h⟩)
   .exact .inl h
   .exact .inr ⟨z,Cb,h⟩
   exact .inr ⟨y,Kb _ i,h⟩
  rintro(h|⟨y,i,h⟩)
  .exact .inl (.inl h)
  rcases Mb.mp i with rfl|i
  .exact .inl (.inr h)
  exact .inr ⟨y,i,h⟩
theorem AX(P:Pl U la lb c)(o:Wd w ws):∃f:ac,dF [Hf pr fr U la lb,w]=.ok (.lst<|ja f)/\f.length<=10000/\∀m,m∈f↔∃z:Do,z.1∈zz la/\z.2∈zz lb/\wI ws z.1 z.2=true/\Cq U c la lb z m:=by
 have t:=P.m.most;have s:=P.la;have Td:=P.lb;obtain⟨j,g,p,i⟩:=ĥ P.fa P.fb (by lia) (by lia) o
 obtain⟨f,r,q,x5,e,l,k⟩:=CV P j [] none none none (by simp;lia)
 refine⟨f,cI rfl<|aJ (oK<|fQ rfl)<|aJ (gB (lB<|aO rfl g) e) rfl,by simp at l;lia,λm=>?_⟩
 rw[k];constructor
 .rintro(h|⟨z,n,h⟩)
  .nomatch h
  obtain⟨a,b,d⟩:=(i z).mp n;exact⟨z,a,b,d,h⟩
 rintro⟨z,a,b,d,h⟩;exact .inr ⟨z,(i z).mpr ⟨a,b,d⟩,h⟩
theorem BX:∀(l:ac)(b:Nat)(a c:li),∃(d:Nat)(g:li),Tb (jb 2) HV (ja l) [a,b,c]=.ok (.nx [a,d,g])/\∀i,d.testBit i=true↔b.testBit i=true\/∃m∈l,m.testBit i=true
 |[],b,a,c=>⟨b,c,rfl,by simp⟩
 |m::l,b,a,c=>by
  obtain⟨d,f,e,h⟩:=BX l _ a _;refine⟨d,f,fU rfl (bI<|aG rfl rfl<|iL b m) e,λi=>?_⟩
  rw[h,oQ,sr,or_assoc];simp
theorem ħ{l:ac}{k:Nat}(b:∀m∈l,m<2^k)(g:k<=64):∃d:Nat,XC [.lst<|ja l]=.ok (.int d)/\d<2^k/\∀i,i∈bF d↔∃m∈l,i∈bF m:=by
 obtain⟨d,f,e,h⟩:=BX l 0 _ none;refine⟨d,cI rfl<|aJ (bI rfl)<|aJ (gB (lB rfl) e) rfl,w8 _ λi j=>?_,λi=>?_⟩
 .cases c:d.testBit i with
  |false=>rfl
  |true=>
   obtain z|⟨m,a,z⟩:=(h i).mp c
   .simp at z
   have:=cU (b m a)<|bV.mpr z;lia
 rw[bV,h];simp[bV]
end
section
variable{U:bv}{la lb:ac}{ws:u8}{c n:Nat}
def Ye(U:bv):Nat->List Nat->List Nat
 |_,[]=>[]
 |i,a::w=>dc U i (a-97)::Ye U (dc U i<|a-97) w
abbrev Zg(U:bv):Nat->List Nat->Nat:=Cc<|dc U
theorem zH:∀(x y:ac)(i:Nat),Ye U i (x++y)=Ye U i x++Ye U (Zg U i x) y
 |[],_,_=>rfl
 |a::x,y,i=>by
  show _::Ye U _ (x++y)=_;rw[zH x y];rfl
theorem uQ:∀(x:ac)(i:Nat),Zg U i x=i/\x=[]\/Zg U i x∈Ye U i x
 |[],_=>.inl ⟨rfl,rfl⟩
 |a::x,i=>.inr (by
  show Zg U _ x∈dc U i _::Ye U _ x;rcases uQ x _ with ⟨h,_⟩|h
  .rw[h];exact Cb
  simp_all)
def Hj(b:ac)(a:Nat)(c:ac):Nat:=c.foldl (λa g=>max a<|b.getD g 0+1) a
theorem KD(b:ac):∀(c:ac)(a:Nat),a<=Hj b a c/\(∀g∈c,b.getD g 0+1<=Hj b a c)/\(Hj b a c=a\/∃g∈c,Hj b a c=b.getD g 0+1)
 |[],a=>⟨Ib _,λ_ h=>(nomatch h),.inl rfl⟩
 |g::c,a=>by
  obtain⟨f,e,d⟩:=KD b c<|max a<|b.getD g 0+1;refine⟨?_,λx hx=>?_,?_⟩
  .show a<=Hj b _ c;lia
  .show b.getD x 0+1<=Hj b _ c;rcases Mb.mp hx with rfl|hx
   .lia
   exact e x hx
  show Hj b _ c=a\/_;rcases d with d|⟨x,hx,d⟩
  .rcases CQ (b.getD g 0+1) a with z|z
   .simp_all
   exact .inr ⟨g,Cb,by show Hj b _ c=_;lia⟩
  exact .inr ⟨x,Kb _ hx,d⟩
structure WR(U:bv)(la lb:ac)(ws:u8)(c i:Nat)(t:ac):Prop where
 ne:t≠[]
 lt:af c t
 cl:Zg U i t=i
 wt:wI ws ((Hj la 0 (Ye U i t):Nat)-1:Int) ((Hj lb 0 (Ye U i t):Nat)-1:Int)=true
theorem E2(b:On):∀(w:ac)(i:Nat),af c w->(∀g∈Ye U i w,b g=true)->bg U c b i (Zg U i w)/\∀g∈Ye U i w,bg U c b i g/\bg U c b g (Zg U i w)
 |[],i,_,_=>⟨.here,λ_ h=>nomatch h⟩
 |l::w,i,hl,j=>by
  have m:=hl l Cb;obtain⟨f,e⟩:=E2 b w _ (λx k=>hl x<|Kb _ k) λg a=>j g<|Kb _ a
  have d:bg U c b i _:=.on .here (by omega)<|j _ Cb
  refine⟨d.trans f,λg a=>?_⟩
  rcases Mb.mp a with rfl|a
  .exact⟨d,f⟩
  exact⟨d.trans (e g a).1,(e g a).2⟩
theorem bCy{a b:Nat}(h:bg U c al a b):∃w,af c w/\Zg U a w=b/\∀g∈Ye U a w,al g=true:=by
 induction h with
 |here=>exact⟨[],λ_ h=>(nomatch h),rfl,λ_ h=>nomatch h⟩
 |@on r k _ hl j e=>
  obtain⟨w,i,d,f⟩:=e;refine⟨w++[97+k],λx hx=>?_,by rw[Zg,vI];show dc U (Zg U a w) k=_;rw[d],λg hg=>?_⟩
  .rcases ji.mp hx with hx|hx
   .exact i x hx
   simp_all
  rw[zH]at hg;rcases ji.mp hg with hg|hg
  .exact f g hg
  have:Ye U (Zg U a w) [97+k]=[dc U r k]:=by
   rw[d];show [dc U r _]=_;rw[XF]
  simp_all
def Lx{x y:ac}(d:af c x)(b:af c y):af c (x++y):=λz a=>(ji.mp a).elim (d z)<|b z
theorem eJ(P:Pl U la lb c) (hw:wI ws z.1 z.2=true) (h:Cq U c la lb z m) (n:i∈bF m):∃t,WR U la lb ws c i t:=by
 obtain⟨W,h2,h3⟩:=h;have V:=Bq (p:=z.1) (q:=z.2) P;obtain⟨m1,R⟩:=Kx P V W;obtain⟨r,I,e,hq⟩:=zG.mp W;have S:PU U c m:=by rw[<-e];exact ģ P.m V I (by rwa [e])
 have q:∀{a b:Nat},a∈bF m->b∈bF m->∃w,af c w/\Zg U a w=b/\∀g∈Ye U a w,Wr m g=true:=λha Td=>bCy<|S.2.1 _ ha _ Td
 obtain⟨j,l0,J,a0,Q⟩:∃w,af c w/\Zg U i w=i/\(∀g∈Ye U i w,Wr m g=true)/\w≠[]:=by
  by_cases Td:∃b∈bF m,b≠i
  .obtain⟨b,Td,ne⟩:=Td;obtain⟨w,x1,u,x3⟩:=q n Td;obtain⟨v,y1,y2,Z⟩:=q Td n;refine⟨w++v,Lx x1 y1,by rw[Zg,zF];show Zg U (Zg U i w) v=i;rw[u,y2],λg hg=>?_,λz=>?_⟩
   .rw[zH,u]at hg;exact(ji.mp hg).elim (x3 g) (Z g)
   rw[(R8.mp z).1]at u;exact ne u.symm
  have all:=λb Kk=>yd λz=>Td ⟨b,Kk,z⟩
  have hd:(bF m).headD 0=i:=by
   cases T:bF m with
   |nil=>rw[T]at n;nomatch n
   |cons x l=>exact all x (by rw[T];exact Cb)
  have p:=S.2.2;unfold Ac at p;rw[Ed (λz=>by
   have O:=iT m;generalize bF m=L at O all z
   match L,z with
   |x::y::l,_=>
    simp[(all x<|by simp),(all y<|by simp)]at O),AQ,Mg,hd]at p
  obtain⟨k,hk1,N⟩:=(yF P.m<|cU m1 n).mp p;have gl:Ye U i [97+k]=[i]:=by
   show [dc U i<|97+k-97]=_;rw[XF,N]
  refine⟨[97+k],λx H=>by rw[Mc.mp H];constructor<;>lia,?_,λg hg=>?_,by simp⟩
  .show dc U i _=i;rw[XF,N]
  rw[gl]at hg;rw[Mc.mp hg];exact bV.mp n
 obtain⟨⟨G,X,M⟩,t1⟩:=KY R;obtain⟨⟨r2,p,K⟩,t2⟩:=KY R;obtain⟨f,l1,D,a1⟩:=q n X;obtain⟨d,l2,C,a2⟩:=q X p;obtain⟨o,l3,g3,a3⟩:=q p n;have E:Ye U i (j++(f++(d++o)))=Ye U i j++(Ye U i f++(Ye U G d++Ye U r2 o)):=by rw[zH,zH,zH,J,D,C]
 have all:∀g∈Ye U i _,g∈bF m:=λg hg=>by
  rw[E]at hg;simp at hg;refine bV.mpr ?_
  rcases hg with h|h|h|h
  .exact a0 g h
  .exact a1 g h
  .exact a2 g h
  exact a3 g h
 have ii:i∈Ye U i (j++(f++(d++o))):=by
  rw[E];rcases uQ j i with ⟨_,z⟩|z
  .exact absurd z Q
  rw[J]at z;exact Dj _ z
 have i1:G∈Ye U i (j++(f++(d++o))):=by
  rcases uQ f i with ⟨z,_⟩|z
  .rw[D]at z;rwa [z]
  rw[D]at z;rw[E];exact Lg _<|Dj _ z
 have Y:∀{s:ac}{B:Nat}{A:Int},B∈Ye U i _->(s.getD B 0)=A->(∀x∈bF m,(s.getD x 0)<=A)->((Hj s 0<|Ye U i<|j++(f++(d++o)))-1)=A:=λ{s B A} I e H=>by
  obtain⟨_,s2,F⟩:=KD s _ 0;have:=s2 B I;rcases F with F|⟨g,hg,F⟩
  .lia
  have:=H g<|all g hg;lia
 refine⟨j++(f++(d++o)),λz=>Q (R8.mp z).1,Lx l0<|Lx l1<|Lx l2 l3,?_,?_⟩
 .rw[Zg,zF,zF,zF];show Zg U (Zg U (Zg U (Zg U i j) f) d) o=i;rw[J,D,C,g3]
 rwa [Y i1 M t1,Y (by
  rcases uQ d G with ⟨z,_⟩|z
  .rw[C]at z;rwa [z]
  rw[C]at z;rw[E];exact Lg _<|Lg _<|Dj _ z) K t2,h2,h3]
theorem LM(P:Pl U la lb c):∀(w:ac)(i:Nat),i<U.length->af c w->∀g∈Ye U i w,g<U.length
 |[],_,_,_,_,h=>nomatch h
 |d::w,i,f,hl,g,a=>by
  have j:=hl d Cb;obtain⟨_,_,_,b⟩:=Ls P.m f (show d-97<c by omega)
  rcases Mb.mp a with rfl|a
  .exact b
  exact LM P w _ b (λx e=>hl x<|Kb _ e) g a
theorem NV(P:Pl U la lb c) {t:ac} (u:i<U.length) (h:WR U la lb ws c i t):∃z:Do,∃m,z.1∈zz la/\z.2∈zz lb/\wI ws z.1 z.2=true/\Cq U c la lb z m/\i∈bF m:=by
 have lt:=LM P t i u h.lt;have f:i∈Ye U i t:=by
  rcases uQ t i with ⟨_,z⟩|z
  .exact absurd z h.ne
  rwa [h.cl]at z
 have C:∀(d:ac),d.length=U.length->∃g∈Ye U i t,((Hj d 0<|Ye U i t)-1:Int)=(d.getD g 0)/\((d.getD g 0):Int)∈zz d/\∀x∈Ye U i t,(d.getD x 0:Int)<=(d.getD g 0):=λd hl=>by
  obtain⟨_,w,q⟩:=KD d _ 0;have:=w i f;rcases q with q|⟨g,a,q⟩
  .omega
  refine⟨g,a,by lia,AE.mpr ⟨d.getD g 0,?_,rfl⟩,λx F=>by have:=w x F;lia⟩
  rw[kh,Zc (by rw[hl];exact lt g a)]
  exact Rh _
 obtain⟨p,v,e1,E,I⟩:=C la P.la;obtain⟨o,J,e2,D,H⟩:=C lb P.lb;have e:=λg a=>(Wx P).mpr ⟨lt g a,I g a,H g a⟩
 have B:=h.wt;rw[e1,e2]at B;obtain⟨_,A⟩:=E2 _ t i h.lt λg a=>bV.mp<|e g a
 rw[h.cl]at A;have b:=λg a=>bV.mpr<|(qF P.m u).mpr<|A g a
 have sub:∀g∈bF _,_:=λg a=>(Wx P).mp<|R1 P.m (Bq P) (e i f) a
 refine⟨(((la.getD p 0)),((lb.getD o 0))),_,E,D,B,⟨zG.mpr ⟨i,e i f,rfl,?_⟩,EE (b p v) rfl λr s=>(sub r s).2.1,EE (b o J) rfl λr s=>(sub r s).2.2⟩,b i f⟩
 unfold Ac
 by_cases hl:1<(bF<|gM U c (Cd la lb (la.getD p 0)<|lb.getD o 0) i).length
 .rw[Bf hl];rfl
 rw[Ed hl,AQ,Mg];have all:∀g∈bF _,g=i:=λg a=>by
  have k:=b i f;generalize bF _=L at hl a k
  match L,hl with
  |[],_=>nomatch a
  |[x],_=>rw[Mc.mp a,Mc.mp k]
  |x::y::L,hl=>simp at hl
 have G:(bF<|gM U c (Cd la lb (la.getD p 0)<|lb.getD o 0) i).headD 0=i:=by
  have k:=b i f;generalize bF _=L at all k;cases L with
  |nil=>nomatch k
  |cons x l=>exact all x Cb
 rw[G];obtain⟨j,n,rfl⟩:∃j n,t=j::n:=by
  cases t with
  |nil=>exact absurd rfl h.ne
  |cons j n=>exact⟨j,n,rfl⟩
 have K:=h.lt j Cb;exact(yF P.m u).mpr ⟨j-97,by omega,(all _<|b _ Cb)⟩
end
def bHd{tg:Tg} {d v:D} {st:za} (a:tg d st=.ok s1) (b:L s1=.ok (.rt v)):Tb tg L (d::ds) st=.ok (.rt v):=by
 rw[LW,a,aZ,b];rfl
def ž{c:Ex}{b:Bd}{st:za} {v:D} (a:c st=.ok (.bl true)) (Td:b st=.ok (.rt v)):iK c b (n+1) st=.ok (.rt v):=by
 rw[xK,a,Td];rfl
abbrev Tr:=Nat×Nat×Nat
def ae(x:Tr):D:=.tup [.int x.1,.int ((x.2.1:Nat)-1:Int),.int ((x.2.2:Nat)-1:Int)]
theorem JN(x y:Tr):lg (ae x) (ae y)=decide (x=y):=by
 obtain⟨a,b,d⟩:=x;obtain⟨f,e,c⟩:=y
 by_cases h:(a,b,d)=(f,e,c)
 .cases h;simp[ae,lg,oo]
 rw[Ed h];simp[ae,lg,oo];grind
def d3(U:bv)(b a:ac)(x:Tr)(k:Nat):Tr:=(dc U x.1 k,max x.2.1<|b.getD (dc U x.1 k) 0+1,max x.2.2<|a.getD (dc U x.1 k) 0+1)
section
variable{pr fr w:D}{U:bv}{la lb:ac}{ws:u8}{c i s:Nat}{acc:List (Tr×List Nat)}
theorem p9:∀(t:ac)(i a b:Nat),Cc (d3 U la lb) (i,a,b) t=(Zg U i t,Hj la a<|Ye U i t,Hj lb b<|Ye U i t)
 |[],_,_,_=>rfl
 |c::t,i,a,b=>p9 t _ _ _
def Sq(b:ac)(a:Nat):Prop:=a=0\/∃x∈b,a=x+1
def P3(U:bv)(b a:ac)(x:Tr):Prop:=x.1<U.length/\Sq b x.2.1/\Sq a x.2.2
theorem F2{b:ac}{a g:Nat}(h:Sq b a)(c:g<b.length):Sq b (max a<|b.getD g 0+1):=by
 rcases CQ a _ with z|z
 .rw[Nat.max_eq_right z];refine .inr ⟨b.getD g 0,?_,rfl⟩;grind
 rwa [Nat.max_eq_left z]
def bKj(P:Pl U la lb c)(x:Tr)(k:Nat)(h:P3 U la lb x)(a:k<c):P3 U la lb (d3 U la lb x k):=by
 obtain⟨_,_,_,b⟩:=Ls P.m h.1 a;exact⟨b,F2 h.2.1 (by rwa [P.la]),F2 h.2.2<|by rwa [P.lb]⟩
theorem G2(h:Bl la):∃f:wS,(∀a,Sq la a->f a<9)/\∀a b,Sq la a->Sq la b->f a=f b->a=b:=by
 obtain⟨d,j,i⟩:=h;have mem:∀a,Sq la a->a∈0::d.map (· + 1):=λa c=>by
  rcases c with rfl|⟨x,g,rfl⟩
  .exact Cb
  simp_all
 refine⟨λa=>(0::d.map (· + 1)).idxOf a,λa c=>?_,λa b c Td e=>?_⟩
 .have:=qt<|mem a c;grind
 have k:=DH<|qt<|mem a c;simp_all
theorem bCz(P:Pl U la lb c){l:List Tr}(m:l.Nodup)(h:∀x∈l,P3 U la lb x):l.length<=5184:=by
 obtain⟨f,j,s⟩:=G2 P.fa;obtain⟨g,i,r⟩:=G2 P.fb;have v:=P.m.most;simpa using (jL 5184 (l.map λx=>81*x.1+9*f x.2.1+g x.2.2) (by
  unfold Nodup;rw[JP];exact m.imp_of_mem λ{a b} q Td k z=>k (by
   have d:=h a q;have e:=h b Td;have u:=j _ d.2.1;have y:=j _ e.2.1;have t:=i _ d.2.2;have w:=i _ e.2.2;exact Ew (by lia)<|Ew (s _ _ d.2.1 e.2.1<|by lia)<|r _ _ d.2.2 e.2.2<|by lia)) λx n=>by
  obtain⟨p,o,rfl⟩:=ze.mp n;have d:=h p o;have u:=j _ d.2.1;have t:=i _ d.2.2;have:=d.1;lia)
abbrev B3(U:bv)(b a:ac)(c s i j:Nat)(acc:List (Tr×List Nat)):Prop:=BG (d3 U b a) (s,0,0) c (P3 U b a) i j acc
def B3.len(P:Pl U la lb c) (b:B3 U la lb c s i j acc):acc.length<=5184:=by
 have:=bCz P b.nd λp d=>by obtain⟨x,a,rfl⟩:=ze.mp d;exact(b.lt x a).1
 rwa [Gb]at this
def xq(ws:u8)(s:Nat)(x:Tr):Prop:=x.1=s/\wI ws ((x.2.1:Nat)-1:Int) ((x.2.2:Nat)-1:Int)=true
def kT(acc:List (Tr×List Nat)):dL:=acc.map λx=>ae x.1
def wT(acc:List (Tr×List Nat)):dL:=acc.map λx=>D.str x.2
def S6(acc:List (Tr×List Nat)):kT acc=(acc.map (·.1)).map ae:=by rw[vg];rfl
def Nh(pr fr w:D)(U:bv)(d c:ac)(s:Nat)(acc:List (Tr×List Nat))(i:Nat)(b x7 x8 a:li):za:=
 [some<|.v<|Hf pr fr U d c,some<|.v w,some<|.v<|.int s,some<|.o (.d true<|kT acc)<|wT acc,some<|.o .l<|kT acc,some<|.v<|.int i,b,x7,x8,a]
theorem ſ(P:Pl U la lb c)(t:Wd w ws){x:Tr×List Nat} (b:B3 U la lb c s i j acc) (m:acc[i]?=some x) (u:j<c) (l:li) :
  (xq ws s (d3 U la lb x.1 j)->fD (Nh pr fr w U la lb s acc i (ae x.1) (D.str [97+j]) (dc U x.1.1 j) l)=.ok (.rt<|.str<|x.2++[97+j]))/\
  (¬ xq ws s (d3 U la lb x.1 j)->fD (Nh pr fr w U la lb s acc i (ae x.1) (D.str [97+j]) (dc U x.1.1 j) l)=.ok (.nx<|Nh pr fr w U la lb s (Xm acc (d3 U la lb x.1 j)<|x.2++[97+j]) i (ae x.1) (D.str [97+j]) (dc U x.1.1 j)<|ae<|d3 U la lb x.1 j)):=by
 have q:=nj m;have hl:=b.len P;have A:=(gf.mp m).1;have z:=b.wl i i x (Ib _) m;obtain⟨_,_,_,y⟩:=Ls P.m ((b.lt x q).1).1 u;have e:∀(a g:Nat),(D.int<|if (g:Int)>(a-1:Int) then (g:Int) else (a-1:Int))=D.int (((max a (g+1):Nat))-1):=λa g=>by
  congr 1;split<;>lia
 have p:nA (aC (aA 8)<|aC (e2 Nv (e2 La (aA 6)<|eI 1)<|e2 La (e1 (eY "Sides" "lefts")<|aA 0)<|aA 8)<|aC (e2 Nv (e2 La (aA 6)<|eI 2)<|e2 La (e1 (eY "Sides" "rights")<|aA 0)<|aA 8) aR) (Nh pr fr w U la lb s acc i (ae x.1) (D.str [97+j]) (dc U x.1.1 j) l)=.ok (ae<|d3 U la lb x.1 j):=by
  refine jE<|aU rfl<|aU ?_<|aU ?_ rfl
  .exact aG rfl (aG vE rfl<|eX<|nR<|by rwa [P.la]) (congrArg R.ok<|e _ _)
  exact aG rfl (aG xE rfl<|eX<|nR<|by rwa [P.lb])<|congrArg R.ok<|e _ _
 have o:e2 dH (e2 La (cW 3)<|aA 6) (aA 7) (Nh pr fr w U la lb s acc i (ae x.1) (D.str [97+j]) (dc U x.1.1 j)<|ae<|d3 U la lb x.1 j)=.ok (.str<|x.2++[97+j]):=by
  refine aG (x:=.str x.2) (aG rfl rfl ?_) rfl<|aF<|gJ<|by show x.2.length+1<=_;lia
  show aP (Rb true (ae x.1)=true) (Fg<|mG (kT acc) (wT acc)<|ae x.1)=_;rw[aF (c:=Rb true (ae x.1)=true) rfl,show mG (kT acc) (wT acc) (ae x.1)=_ from IF ae JN b.nd q]
  rfl
 have d:qR (e2 Od (aA 8)<|aA 2) (aV lV<|aC (aA 1)<|aC (e2 La (aA 9)<|eI 1)<|aC (e2 La (aA 9)<|eI 2) aR) (Nh pr fr w U la lb s acc i (ae x.1) (D.str [97+j]) (dc U x.1.1 j)<|ae<|d3 U la lb x.1 j)=.ok (.bl<|decide (((dc U x.1.1 j):Int)=s)&&wI ws (((d3 U la lb x.1 j).2.1)-1:Int) (((d3 U la lb x.1 j).2.2)-1:Int)):=
  Js (aG rfl rfl<|zv _ _) λ_=>aO rfl<|kX t _ _
 refine⟨λh=>aJ (bI p)<|tM<|tQ (dR d ?_)<|dX o,λh=>aJ (st':=Nh pr fr w U la lb s acc i (ae x.1) (D.str [97+j]) (dc U x.1.1 j)<|ae<|d3 U la lb x.1 j) (bI p)<|aJ (jU (dR d ?_) rfl) ?_⟩
 .rw[Bf (show ((dc U x.1.1 j):Int)=s by rw[show dc U x.1.1 j=s from h.1]),h.2]
  rfl
 .by_cases v:dc U x.1.1 j=s
  .cases r:wI ws (((d3 U la lb x.1 j).2.1)-1:Int) (((d3 U la lb x.1 j).2.2)-1:Int) with
   |true=>exact absurd ⟨v,r⟩ h
   |false=>rw[oz]
  rw[Ed (show ¬ ((dc U x.1.1 j):Int)=s by lia),Bool.false_and]
 have n:e2 pG (aA 9) (cW 3) (Nh pr fr w U la lb s acc i (ae x.1) (D.str [97+j]) (dc U x.1.1 j)<|ae<|d3 U la lb x.1 j)=.ok (.bl<|!jQ (kT acc) (ae<|d3 U la lb x.1 j)):=aG rfl rfl<|aF rfl;unfold Xm
 by_cases f:d3 U la lb x.1 j∈acc.map (·.1)
 .rw[Qa f];have k:jQ (kT acc) (ae<|d3 U la lb x.1 j)=true:=by rw[S6];exact bH7 ae JN f
  exact jU (dR n<|by rw[k];rfl) rfl
 rw[Ea f];have k:jQ (kT acc) (ae<|d3 U la lb x.1 j)=false:=by rw[S6];exact bH8 ae JN f
 refine tQ (dR n<|by rw[k];rfl)<|aJ (st':=(Nh pr fr w U la lb s acc i (ae x.1) (D.str [97+j]) (dc U x.1.1 j)<|ae<|d3 U la lb x.1 j).set 3<|some<|.o (.d true<|kT acc++[ae<|d3 U la lb x.1 j])<|wT acc++[.str<|x.2++[97+j]]) ?_ ?_
 .unfold Yc;rw[o,aZ,show aA 9 (Nh pr fr w U la lb s acc i (ae x.1) (D.str [97+j]) (dc U x.1.1 j)<|ae<|d3 U la lb x.1 j)=.ok (ae<|d3 U la lb x.1 j) from rfl,aZ]
  show aP _ (R.ok<|Fl.nx<|List.set _ 3<|some<|Sl.o (.d true<|qP (kT acc)<|ae<|d3 U la lb x.1 j)<|qQ (kT acc) (wT acc) (ae<|d3 U la lb x.1 j)<|.str<|x.2++[97+j])=_;rw[aF ⟨rfl,Sx<|by unfold wT;rw[Gb];lia⟩]
  unfold qP qQ;rw[k];rfl
 rw[yD rfl rfl (by unfold kT;rw[Gb];lia)]
 unfold Nh kT wT;simp only[List.map_append,map_cons,map_nil];rfl
def NH(U:bv)(b a:ac)(ws:u8)(c s p j:Nat)(acc:List (Tr×List Nat)):Prop:=∀(i:Nat) y k,acc[i]?=some y->k<c->(i<p\/(i=p/\k<j))->¬ xq ws s (d3 U b a y.1 k)
theorem NH.turn{x:Tr×List Nat} (n:NH U la lb ws c s i j acc) (d:acc[i]?=some x) (h:¬ xq ws s (d3 U la lb x.1 j)) {g:Tr} {v:ac}:NH U la lb ws c s i (j+1) (Xm acc g v):=λk y m b f o=>by
 have p:=(gf.mp d).1;have a:k<acc.length:=by lia
 have e:=mE (g:=g) (w:=v)<|Zc a;rw[b]at e;cases e
 by_cases l:k=i/\m=j
 .simp_all
 exact n k _ m (Zc a) f (by lia)
def T6(P:Pl U la lb c){g:Nat}(a:g<U.length):(U.getD g []).length=c:=by
 rw[kh,Zc a,Bz,(P.m.row _<|Rh a).1]
theorem B5(P:Pl U la lb c)(t:Wd w ws){x:Tr×List Nat}:∀(k j:Nat) (acc:List (Tr×List Nat)) (x7 x8 f:li),j+k=c->B3 U la lb c s i j acc->NH U la lb ws c s i j acc->acc[i]?=some x->
  (∃m a,m<c/\B3 U la lb c s i m a/\NH U la lb ws c s i m a/\a[i]?=some x/\xq ws s (d3 U la lb x.1 m)/\Tb (Jf [7,8]) fD (Mq ([97,98,99].drop j)<|ja<|(U.getD x.1.1 []).drop j) (Nh pr fr w U la lb s acc i (ae x.1) x7 x8 f)=.ok (.rt<|.str<|x.2++[97+m]))\/
  ∃a A I H,Tb (Jf [7,8]) fD (Mq ([97,98,99].drop j)<|ja<|(U.getD x.1.1 []).drop j) (Nh pr fr w U la lb s acc i (ae x.1) x7 x8 f)=.ok (.nx<|Nh pr fr w U la lb s a i (ae x.1) A I H)/\B3 U la lb c s i c a/\NH U la lb ws c s i c a/\a[i]?=some x
 |0,j,acc,x7,x8,f,D,b,n,d=>by
  obtain rfl:j=c:=by lia
  refine .inr ⟨acc,x7,x8,f,?_,b,n,d⟩;rw[cz (l:=U.getD x.1.1 []) (by rw[T6 P (b.lt x<|nj d).1.1];exact Ib _)]
  cases [97,98,99].drop j<;>rfl
 |k+1,j,acc,x7,x8,f,D,b,n,d=>by
  have J:=P.m.c3;have l:j<c:=by lia
  have g:j<(U.getD x.1.1 []).length:=by rwa [T6 P ((b.lt x<|nj d).1).1]
  have G:(U.getD x.1.1 []).drop j=dc U x.1.1 j::(U.getD x.1.1 []).drop (j+1):=by
   rw[Zq g];unfold dc;rw[kh (l:=U.getD x.1.1 []),Zc g,Bz]
  obtain⟨C,B⟩:=ſ P t b d l f;rw[IY (by lia),G]
  by_cases h:xq ws s (d3 U la lb x.1 j)
  .exact .inl ⟨j,acc,l,b,n,d,h,bHd rfl<|C h⟩
  have u:∀{r:R Fl},Tb (Jf [7,8]) fD _ _=r->Tb _ fD (Mq ((97+j)::[97,98,99].drop (j+1))<|.int _::ja ((U.getD x.1.1 []).drop<|j+1)) (Nh pr fr w U la lb s acc i _ x7 x8 f)=r:=λe=>fU rfl (B h) e
  rcases B5 P t k (j+1) _ _ _ _ (by lia) (b.turn (bKj P) d l) (n.turn d h) (mE d) with ⟨m,a,q,p,o,F,E,e⟩|⟨a,z,y,v,e,q,p,o⟩
  .exact .inl ⟨m,a,q,p,o,F,E,u e⟩
  exact .inr ⟨a,z,y,v,u e,q,p,o⟩
theorem J2(P:Pl U la lb c)(B:Wd w ws):∀(k i:Nat) (acc:List (Tr×List Nat)) (l x7 x8 j:li) (f:Nat),5185<=k+i->k<=f->B3 U la lb c s i 0 acc->NH U la lb ws c s i 0 acc->i<=acc.length->
  (∃p m x d,m<c/\B3 U la lb c s p m d/\NH U la lb ws c s p m d/\d[p]?=some x/\xq ws s (d3 U la lb x.1 m)/\iK lG lF f (Nh pr fr w U la lb s acc i l x7 x8 j)=.ok (.rt<|.str<|x.2++[97+m]))\/
  ∃d Y N Al X,iK lG lF f (Nh pr fr w U la lb s acc i l x7 x8 j)=.ok (.nx<|Nh pr fr w U la lb s d d.length Y N Al X)/\B3 U la lb c s d.length 0 d/\NH U la lb ws c s d.length 0 d
 |0,i,acc,l,x7,x8,j,f,D,V,b,n,T=>by have:=b.len P;lia
 |k+1,i,acc,l,x7,x8,j,f,D,V,b,n,T=>by
  obtain⟨f,rfl⟩:∃g,f=g+1:=⟨f-1,by lia⟩
  have a:lG (Nh pr fr w U la lb s acc i l x7 x8 j)=.ok _:=aG rfl rfl rfl;rw[show (kT acc).length=acc.length by unfold kT;simp]at a
  by_cases h:i<acc.length
  .have r:=Zc h;generalize acc[i]=x at r;have C:=(b.lt x<|nj r).1;have E:cO 6 (e2 La (cW 4)<|aA 5) (Nh pr fr w U la lb s acc i l x7 x8 j)=.ok _:=bI (aG rfl rfl<|eX (by
    obtain⟨q,o⟩:=gf.mp r;unfold kT;rw[fc (by rwa [Gb]),Ht,o]))
   have A:SE (eC<|.str [97,98,99]) (e2 La (e1 (eY "Sides" "steps")<|aA 0)<|e2 La (aA 6)<|eI 0) (Nh pr fr w U la lb s acc i (ae x.1) x7 x8 j)=.ok (Mq [97,98,99]<|ja<|U.getD x.1.1 []):=by
    have:e2 La (e1 (eY "Sides" "steps")<|aA 0) (e2 La (aA 6)<|eI 0) (Nh pr fr w U la lb s acc i (ae x.1) x7 x8 j)=.ok (.lst<|ja<|U.getD x.1.1 []):=aG HN rfl<|eX (by
     rw[tR C.1,kh,Zc C.1];rfl)
    show (e2 La _ _ _).bind _=_;rw[this];rfl
   rcases B5 P B c 0 acc x7 x8 j (by lia) b n r with ⟨m,d,q,o,v,u,t,e⟩|⟨Qm,M,L,K,e,W,Q,Z⟩
   .exact .inl ⟨i,m,x,d,q,o,v,u,t,ž (dR a<|Gy h)<|aJ E<|tM<|gB A e⟩
   have vj:=(gf.mp Z).1;have F:lF _=.ok _:=aJ E<|aJ (gB A e)<|bI rfl;rcases J2 P B k (i+1) Qm _ M L K f (by lia) (by lia) W.next (λk y m R S D=>Q k y m R S<|by lia) (by lia) with ⟨p,m,O,d,q,o,v,u,t,z⟩|⟨d,J,I,H,G,z,q,o⟩
   .exact .inl ⟨p,m,O,d,q,o,v,u,t,yE (dR a<|Gy h) F z⟩
   exact .inr ⟨d,J,I,H,G,yE (dR a<|Gy h) F z,q,o⟩
  have:i=acc.length:=by lia
  subst this;exact .inr ⟨acc,l,x7,x8,j,zE<|dR a<|MO h,b,n⟩
def MM{t:ac}(a:t≠[])(b:af c t):xq ws s (Cc (d3 U la lb) (s,0,0) t)↔WR U la lb ws c s t:=by
 rw[p9];exact⟨λh=>⟨a,b,h.1,h.2⟩,λh=>⟨h.cl,h.wt⟩⟩
theorem aYx(P:Pl U la lb c)(n:Wd w ws)(o:s<U.length):(∃t,oJ [Hf pr fr U la lb,w,.int s]=.ok (.str t)/\WR U la lb ws c s t/\t.length<=6000/\∀u,WR U la lb ws c s u->sle t u)\/∀u,¬ WR U la lb ws c s u:=by
 rcases J2 P n 5185 0 [((s,0,0),[])] none none none none 100000 (by lia) (by lia) (BG.start ⟨o,.inl rfl,.inl rfl⟩) (λ_ _ _ _ _ h=>by lia) (Gf _) with ⟨p,m,x,acc,j,b,r,d,C,e⟩|⟨acc,B,A,x8,v,e,j,b⟩
 .have g:=b.lt x<|nj d;have F:=(gf.mp d).1;have D:=b.wl p p x (Ib _) d;have E:=b.len P;refine .inl ⟨_,cI rfl<|aJ (st':=[Hf pr fr U la lb,w,s,some<|.o (.d true [ae (s,0,0)]) [.str []],none,none,none,none,none,none]) ?_ ?_,((MM (by simp)<|Lx g.2.2 λz l=>by rw[Mc.mp l];constructor<;>lia).mp<|by rwa [vI,g.2.1]),by rw[Ef,um];lia,λu a=>b.hit d r a.ne a.lt<|(MM a.ne a.lt).mpr a⟩
  .unfold gE;rw[jE rfl];exact aF ⟨rfl,rfl⟩
  refine aJ (oK<|aF<|gJ<|by show 1<=_;lia)<|aJ (bI rfl)<|tM<|by rwa [KJ]
 refine .inr λu a=>j.oB (λi y k f q=>b i y k f q<|.inl (gf.mp f).1) a.ne a.lt<|(MM a.ne a.lt).mpr a
end
abbrev Tl:=List Nat×List Nat
def klt(x y:Tl):Prop:=x.1.length+x.2.length<y.1.length+y.2.length\/(x.1.length+x.2.length=y.1.length+y.2.length/\(x.1.length<y.1.length\/(x.1.length=y.1.length/\(x.1<y.1\/(x.1=y.1/\x.2<y.2)))))
theorem NM{x y z:Tl}(d:klt x y)(a:klt y z):klt x z:=by
 rcases d with d|⟨d,d|⟨i,c⟩⟩
 .rcases a with a|⟨a,_⟩
  .exact .inl (by lia)
  exact .inl (by lia)
 .rcases a with a|⟨a,h|⟨g,_⟩⟩
  .exact .inl (by lia)
  .exact .inr ⟨by lia,.inl<|by lia⟩
  exact .inr ⟨by lia,.inl<|by lia⟩
 rcases a with a|⟨a,h|⟨g,b⟩⟩
 .exact .inl (by lia)
 .exact .inr ⟨by lia,.inl<|by lia⟩
 refine .inr ⟨by lia,.inr ⟨by lia,?_⟩⟩
 rcases c with c|⟨c,f⟩ <;> rcases b with b|⟨b,e⟩
 .exact .inl (sQ c b)
 .exact .inl (by rwa [<-b])
 .exact .inl (by rwa [c])
 exact .inr ⟨c.trans b,sQ f e⟩
theorem bHe{x y:Tl}(a:sle x.1 y.1)(b:sle x.2 y.2):x=y\/klt x y:=by
 have len:∀{u v:ac},sle u v->u.length<=v.length:=λh=>by
  rcases h with rfl|h|h
  .exact Ib _
  .lia
  lia
 have f:=len b;rcases a with a|a|⟨a,d⟩
 .rcases b with b|b|⟨b,c⟩
  .exact .inl (Ew a b)
  .exact .inr (.inl<|by lia)
  exact .inr<|.inr ⟨by rw[a];lia,.inr ⟨by rw[a],.inr ⟨a,c⟩⟩⟩
 .exact .inr (.inl<|by lia)
 by_cases e:x.2.length=y.2.length
 .exact .inr (.inr ⟨by lia,.inr ⟨a,.inl d⟩⟩)
 exact .inr<|.inl<|by lia
def qg(x:Tl):D:=.tup [.str x.1,.str x.2]
def Nm(x:Tl):dL:=[.int ((x.1.length+x.2.length:Nat):Int),.int (x.1.length:Nat),.str x.1,.str x.2]
theorem C5{x:Tl}(c:x.1.length<=100000)(b:x.2.length<=100000):cH [qg x]=.ok (.tup<|Nm x):=by
 have a:e1 fZ (e2 La (aA 0)<|eI 0) [qg x]=.ok _:=aF<|gJ<|by lia
 refine cI rfl<|dX<|jE<|aU (aG a (aF<|gJ<|by lia) ?_)<|aU a<|aU (aG rfl rfl rfl)<|aU (aG rfl rfl rfl) rfl
 simp_all
theorem LY{i j:Int}{a b:dL}:rm (.int i::a) (.int j::b)=if i=j then rm a b else .ok (decide (i<j)):=by
 rw[rm];simp_all
theorem MY{s t:ac}{a b:dL}:rm (.str s::a) (.str t::b)=if s=t then rm a b else .ok (decide (s<t)):=by
 rw[rm];simp_all
theorem bD0(x y:Tl):∃t:Bool,rm (Nm x) (Nm y)=.ok t/\(t=true↔klt x y):=by
 unfold Nm klt;rw[LY]
 by_cases d:((x.1.length+x.2.length:Nat):Int)=((y.1.length+y.2.length:Nat))
 .have e:x.1.length+x.2.length=y.1.length+y.2.length:=by lia
  rw[Qa d,LY]
  by_cases c:((x.1.length))=((y.1.length):Int)
  .rw[Qa c,MY]
   by_cases a:x.1=y.1
   .rw[Qa a,MY]
    by_cases b:x.2=y.2
    .rw[Qa b];refine⟨false,rfl,?_⟩;rw[a,b];simp
    rw[Ea b];refine⟨_,rfl,?_⟩;rw[Mg,a];simp only[List.lt_irrefl,false_or,true_and];constructor
    .intro h;exact .inr ⟨by lia,.inr h⟩
    rintro(h|⟨_,h|h⟩)
    .lia
    .lia
    exact h
   rw[Ea a];refine⟨_,rfl,?_⟩;rw[Mg];constructor
   .intro h;exact .inr ⟨e,.inr ⟨(by lia),.inl h⟩⟩
   rintro(h|⟨_,h|⟨_,h|h⟩⟩)
   .lia
   .lia
   .exact h
   exact absurd h.1 a
  rw[Ea c];refine⟨_,rfl,?_⟩;constructor
  .intro h;exact .inr ⟨e,.inl<|by lia⟩
  rintro(h|⟨_,h|⟨h,_⟩⟩) <;> lia
 rw[Ea d];refine⟨_,rfl,?_⟩;rw[Mg];constructor
 .intro h;exact .inl (by lia)
 rintro(h|⟨h,_⟩) <;> lia
def K2(x y:Tl):klt x y\/x=y\/klt y x:=by
 rcases Ao _ _ with h|h|h
 .exact .inl (.inl h)
 .rcases Ao x.1.length y.1.length with a|a|a
  .exact .inl (.inr ⟨h,.inl a⟩)
  .rcases iE x.1 y.1 with (e|z|z)|(z|z)
   .rcases iE x.2 y.2 with (e2|z|z)|(z|z)
    .exact .inr (.inl<|Ew e e2)
    .lia
    .exact .inl (.inr ⟨h,.inr ⟨a,.inr ⟨e,z.2⟩⟩⟩)
    .lia
    exact .inr<|.inr<|.inr ⟨h.symm,.inr ⟨a.symm,.inr ⟨e.symm,z.2⟩⟩⟩
   .lia
   .exact .inl (.inr ⟨h,.inr ⟨a,.inl z.2⟩⟩)
   .lia
   exact .inr<|.inr<|.inr ⟨h.symm,.inr ⟨a.symm,.inl z.2⟩⟩
  exact .inr<|.inr<|.inr ⟨h.symm,.inl a⟩
 exact .inr<|.inr<|.inl h
theorem rL:∀(a:List Tl)(b:Tl),(∀x∈b::a,x.1.length<=100000/\x.2.length<=100000)->∃r∈b::a,Zo cH (qg b) (.tup<|Nm b) (a.map qg)=.ok (qg r)/\∀x∈b::a,¬ klt x r
 |[],b,_=>⟨b,Cb,rfl,λx c=>by
  rw[Mc.mp c];rintro(h|⟨_,h|⟨_,h|⟨_,h⟩⟩⟩)
  .lia
  .lia
  .exact BH _ h
  exact BH _ h⟩
 |d::a,b,h=>by
  obtain⟨o,n⟩:=h d (by simp)
  obtain⟨t,l,k⟩:=bD0 d b;have step:Zo cH (qg b) (.tup<|Nm b) (qg d::a.map qg)=if t=true then Zo cH (qg d) (.tup<|Nm d) (a.map qg) else Zo cH (qg b) (.tup<|Nm b) (a.map qg):=by
   rw[Zo,C5 o n,aZ];dsimp only;rw[aF ⟨by simp[Nm,Fe,gU],by simp[Nm],by simp[Nm]⟩,l,aZ]
  rw[Ue,step];cases t with
  |true=>
   obtain⟨r,i,e,f⟩:=rL a d λx c=>h x (by rcases Mb.mp c with rfl|c<;>simp[*])
   refine⟨r,Kb _ i,e,λx c=>?_⟩
   rcases Mb.mp c with rfl|c
   .exact λz=>f d Cb<|NM (k.mp rfl) z
   exact f x c
  |false=>
   have j:=λz=>Qh<|k.mpr z
   obtain⟨r,i,e,f⟩:=rL a b λx c=>h x (by rcases Mb.mp c with rfl|c<;>simp[*])
   refine⟨r,by rcases Mb.mp i with rfl|i<;>simp[*],e,λx c=>?_⟩
   rcases Mb.mp c with rfl|c
   .exact f x Cb
   rcases Mb.mp c with rfl|c
   .intro z;rcases Mb.mp i with rfl|m
    .exact j z
    rcases Classical.em (klt b r) with Td|Td
    .exact f b Cb Td
    exact Td (by
     rcases K2 b r with g|g|g
     .exact g
     .rw[g]at j;exact absurd z j
     exact absurd (NM z g) j)
   exact f x<|Kb _ c
def bHf{a:List Tl}(h:∀x∈a,x.1.length<=100000/\x.2.length<=100000):(a=[]/\Qq cH (.lst<|a.map qg)=.ok .Hb)\/∃r∈a,Qq cH (.lst<|a.map qg)=.ok (qg r)/\∀x∈a,¬ klt x r:=by
 cases a with
 |nil=>exact .inl ⟨rfl,rfl⟩
 |cons b a=>
  obtain⟨g,f⟩:=h b Cb;obtain⟨r,c,e,d⟩:=rL a b h;refine .inr ⟨r,c,?_,d⟩
  rwa [Ue,Qq,C5 g f]
section
variable{S T:bv}{rk rk':ac}{ws:u8}{c l r:Nat}{sq:f8}{fr:Db}
def Hk(S T:bv):Pi
 |_,[]=>[]
 |p,a::w=>p::Hk S T (gd S T p<|a-97) w
def ot(S T:bv):Pi
 |_,[]=>[]
 |p,a::w=>gd S T p (a-97)::ot S T (gd S T p<|a-97) w
theorem N2(y:wn):∀(w:ac)(p:wn),(y∈Hk S T p w\/y=Cc (gd S T) p w)↔(y=p\/y∈ot S T p w)
 |[],p=>by simp[Hk,ot,Cc]
 |a::w,p=>by
  show (y∈p::Hk S T _ w\/y=Cc _ _ w)↔(y=p\/y∈gd S T p _::ot S T _ w);rw[Mb,Mb,or_assoc,(N2 y w _)]
def Td(f:Da)(l:f8)(a:Nat):Nat:=l.foldl (λa x=>max a<|f x) a
theorem AK(f:Da):∀(l:f8) (a:Nat),a<=Td f l a/\(∀x∈l,f x<=Td f l a)/\(Td f l a=a\/∃x∈l,Td f l a=f x)
 |[],a=>⟨Ib _,λ_ h=>(nomatch h),.inl rfl⟩
 |x::l,a=>by
  obtain⟨d,c,b⟩:=AK f l<|max a<|f x;refine⟨?_,λy hy=>?_,?_⟩
  .show a<=Td f l _;lia
  .show f y<=Td f l _;rcases Mb.mp hy with rfl|hy
   .lia
   exact c y hy
  show Td f l _=a\/_;rcases b with b|⟨y,hy,b⟩
  .rcases CQ (f x) a with z|z
   .simp_all
   exact .inr ⟨x,Cb,by show Td f l _=_;lia⟩
  exact .inr ⟨y,Kb _ hy,b⟩
structure WP(S T:bv)(rk rk':ac)(ws:u8)(c:Nat)(p:wn)(t:ac):Prop where
 ne:t≠[]
 lt:af c t
 cl:Cc (gd S T) p t=p
 wt:wI ws (Td (λx=>rk.getD x.1 0) (Hk S T p t) 0:Nat) (Td (λx=>rk'.getD x.2 0) (Hk S T p t) 0:Nat)=true
def Xs(M:Nb S rk c)(e:Nb T rk' c)(d:Sd S T c l r sq fr):Pl (uS S T c sq) (Lc rk sq) (Kc rk' sq) c:=by
 have b:(uS S T c sq).length=sq.length:=by unfold uS;rw[Gb]
 refine⟨⟨by rw[b];exact d.len,M.c1,M.c3,λf hr=>?_⟩,⟨rk,by rw[M.Ri];exact M.most,λx hx=>?_⟩,⟨rk',by rw[e.Ri];exact e.most,λx hx=>?_⟩,by unfold Lc;rw[Gb,b],by unfold Kc;rw[Gb,b]⟩
 .obtain⟨p,a,rfl⟩:=ze.mp hr;refine⟨by simp,λx hx=>?_⟩
  obtain⟨k,g,rfl⟩:=ze.mp hx;rw[b];exact qt<|d.cl p a k<|Vi.mp g
 .obtain⟨p,a,rfl⟩:=ze.mp hx;rw[kh,Zc (by rw[M.Ri];exact(d.inr p a).1)]
  exact Rh _
 obtain⟨p,a,rfl⟩:=ze.mp hx;rw[kh,Zc (by rw[e.Ri];exact(d.inr p a).2)]
 exact Rh _
def qA(sq:f8)(i:Nat):wn:=sq.getD i (0,0)
theorem pP(a:i<sq.length):qA sq i=sq[i]:=by unfold qA;simp_all
def V7(g:Sd S T c l r sq fr){k:Nat}(a:i<sq.length)(f:k<c):dc (uS S T c sq) i k<sq.length/\qA sq (dc (uS S T c sq) i k)=gd S T (qA sq i) k:=by
 have e:dc (uS S T c sq) i k=sq.idxOf (gd S T (qA sq i) k):=by
  unfold dc uS;rw[kh (l:=List.map _ _),Fi,Zc a,pP a];simp[f]
 have d:=g.cl _ (Rh a) k f;rw[<-pP a]at d;have b:=qt d;rw[e];exact⟨b,by rw[pP b];exact DH b⟩
theorem Xx(f:Sd S T c l r sq fr):∀(t:ac)(i:Nat),i<sq.length->af c t->Zg (uS S T c sq) i t<sq.length/\qA sq (Zg (uS S T c sq) i t)=Cc (gd S T) (qA sq i) t/\(Ye (uS S T c sq) i t).map (qA sq)=ot S T (qA sq i) t
 |[],i,e,_=>⟨e,rfl,rfl⟩
 |h::t,i,e,hl=>by
  have k:=hl h Cb;obtain⟨s1,g⟩:=V7 f e (show h-97<c by omega)
  obtain⟨a,b,d⟩:=Xx f t _ s1 λx j=>hl x<|Kb _ j
  rw[g]at b d;refine⟨a,b,?_⟩;show qA sq _::(Ye _ _ t).map (qA sq)=_;rw[d,g];rfl
theorem ZE{e:ac}{f:Da}{i:Nat}{t:ac}(n:Sd S T c l r sq fr)(u:∀j,j<sq.length->e.getD j 0=f (qA sq j))(s:i<sq.length)(p:af c t)(o:t≠[])(w:Cc (gd S T) (qA sq i) t=qA sq i)(lt:∀g∈Ye (uS S T c sq) i t,g<sq.length):((Hj e 0 (Ye (uS S T c sq) i t):Nat)-1:Int)=(Td f (Hk S T (qA sq i) t) 0:Nat):=by
 obtain⟨_,_,m⟩:=Xx n t i s p;obtain⟨k,b,E⟩:∃k b,t=k::b:=by
  cases t with
  |nil=>exact absurd rfl o
  |cons k b=>exact⟨k,b,rfl⟩
 have D:qA sq i∈Hk S T (qA sq i) t:=by rw[E];exact Cb
 have x:∀y,y∈Hk S T _ t↔y∈ot S T _ t:=λy=>by
  have h:=N2 (S:=S) (T:=T) y t<|qA sq i;rw[w]at h;have G:qA sq i∈ot S T (qA sq i) t:=by
   rcases uQ t i with ⟨_,z⟩|z
   .exact absurd z o
   rw[<-m];obtain⟨_,v,_⟩:=Xx n t i s p;rw[w]at v;rw[<-v];exact ze.mpr ⟨_,z,rfl⟩
  constructor
  .intro z;rcases h.mp (.inl z) with q|q
   .rwa [q]
   exact q
  grind
 obtain⟨_,B,d⟩:=KD e _ 0;obtain⟨_,F,I⟩:=AK f (Hk S T (qA sq i) t) 0;have A:∀y∈Hk S T _ t,f y+1<=Hj e 0 _:=λy C=>by
  have:=(x y).mp C;rw[<-m]at this;obtain⟨g,a,rfl⟩:=ze.mp this;have:=B g a
  rwa [u g<|lt g a]at this
 have H:=A _ D;rcases d with d|⟨g,a,d⟩
 .lia
 have:=F _<|(x _).mpr<|by rw[<-m];exact ze.mpr ⟨g,a,rfl⟩
 rw[u g<|lt g a]at d;grind
def uy(M:Nb S rk c)(w:Nb T rk' c)(d:Sd S T c l r sq fr) {t:ac} (f:i<sq.length):WR (uS S T c sq) (Lc rk sq) (Kc rk' sq) ws c i t↔WP S T rk rk' ws c (qA sq i) t:=by
 have p:(uS S T c sq).length=sq.length:=by unfold uS;rw[Gb]
 have u:∀j,j<sq.length->(Lc rk sq).getD j 0=rk.getD (qA sq j).1 0:=λj k=>by
  unfold Lc;rw[kh,Fi,Zc k,pP k];rfl
 have s:∀j,j<sq.length->(Kc rk' sq).getD j 0=rk'.getD (qA sq j).2 0:=λj k=>by
  unfold Kc;rw[kh,Fi,Zc k,pP k];rfl
 have lt:=λhl g v=>by
  have:=LM (Xs M w d) t i (by rwa [p]) hl g v
  rwa [p]at this
 constructor
 .intro h;obtain⟨a,b,_⟩:=Xx d t i f h.lt;have o:Cc (gd S T) (qA sq i) t=qA sq i:=by rw[<-b,h.cl]
  refine⟨h.ne,h.lt,o,?_⟩;rw[<-ZE d u f h.lt h.ne o (lt h.lt),<-ZE d s f h.lt h.ne o (lt h.lt)];exact h.wt
 intro h;obtain⟨a,b,_⟩:=Xx d t i f h.lt;rw[h.cl,pP a,pP f]at b;have inj:∀{x y:Nat}(n:x<sq.length)(m:y<sq.length),sq[x]=sq[y]->x=y:=λ{x y} n m e=>by
  have q:=qw.mp d.nd;rcases Ao x y with z|z|z
  .exact absurd e (q x y n m z)
  .exact z
  exact absurd e.symm<|q y x m n z
 refine⟨h.ne,h.lt,inj a f b,?_⟩;rw[ZE (f:=λx=>rk.getD x.1 0) d u f h.lt h.ne h.cl<|lt h.lt,ZE (f:=λx=>rk'.getD x.2 0) d s f h.lt h.ne h.cl<|lt h.lt]
 exact h.wt
theorem NY{E:Ex}{st:za}{j:Nat}{R':Nat->Tl->Prop}:∀(is:ac),(∀i∈is,∃x,E (st.set j (i:Nat))=.ok (qg x)/\R' i x)->∃xs:List Tl,kW (jb j) bK E st (ja is)=.ok (xs.map qg)/\(∀x∈xs,∃i∈is,R' i x)/\∀i∈is,∃x∈xs,R' i x
 |[],_=>⟨[],rfl,λ_ h=>(nomatch h),λ_ h=>nomatch h⟩
 |i::is,h=>by
  obtain⟨x,e,d⟩:=h i Cb;obtain⟨xs,b,l,g⟩:=NY is λi a=>h i<|Kb _ a
  refine⟨x::xs,?_,λy c=>?_,λk f=>?_⟩
  .rw[RW,lL,show jb j _ st=.ok _ from rfl,aZ,e,b]
   rfl
  .grind
  grind
def Told(S T:bv)(rk rk':ac)(ws:u8)(c l r:Nat)(d:D):Prop:=
 (d=.Hb/\∀f t,af c f->¬ WP S T rk rk' ws c (Cc (gd S T) (l,r) f) t)\/
 ∃x:Tl,d=qg x/\af c x.1/\WP S T rk rk' ws c (Cc (gd S T) (l,r) x.1) x.2/\x.1.length<=100/\x.2.length<=6000/\∀y:Tl,af c y.1->WP S T rk rk' ws c (Cc (gd S T) (l,r) y.1) y.2->¬ klt y x
theorem LD{w:D}(M:Nb S rk c)(A:Nb T rk' c)(s7:S.length<=7)(hl:l<S.length)(hr:r<T.length)(N:Wd w ws):∃d,fL [mD S rk c,mD T rk' c,w,.int l,.int r]=.ok d/\Told S T rk rk' ws c l r d:=by
 obtain⟨sq,fr,es,p⟩:=nK M A s7 hl hr;have P:=Xs M A p;have q:(uS S T c sq).length=sq.length:=by unfold uS;rw[Gb]
 have du:=p.len;obtain⟨out,ep,ol,B⟩:=AX P N;obtain⟨d,ej,dl,W⟩:=ħ (λm n=>by
  obtain⟨z,_,_,_,h⟩:=(B m).mp n;exact(Kx P (Bq P) h.1).1) (by rwa [q])
 have I:∀i∈bF d,i<sq.length/\∃t,WR (uS S T c sq) (Lc rk sq) (Kc rk' sq) ws c i t:=λi j=>by
  have g:=cU dl j;rw[q]at g;obtain⟨m,n,H⟩:=(W i).mp j;obtain⟨z,K,J,C,h⟩:=(B m).mp n;exact⟨g,eJ P C h H⟩
 have yb:(bF d).length<=64:=by
  have:=jL (uS S T c sq).length _ (iT d) λx k=>cU dl k
  rw[q]at this;lia
 let st:za:=[mD S rk c,mD T rk' c,w,l,r,Bs S T rk rk' c sq fr,D.lst<|ja<|bF d,none,none]
 obtain⟨xs,ex,L,Z⟩:=NY (E:=wN) (st:=st) (j:=8) (R':=λi x=>x.1=fr (qA sq i)/\WR (uS S T c sq) (Lc rk sq) (Kc rk' sq) ws c i x.2/\x.2.length<=6000/\∀u,WR (uS S T c sq) (Lc rk sq) (Kc rk' sq) ws c i u->sle x.2 u) (bF d) λi j=>by
  obtain⟨g,t0,aI⟩:=I i j;rcases aYx P N (by rwa [q]) with ⟨t,e,a,b,b'⟩|no
  .refine⟨(fr<|qA sq i,t),jE<|aU (aG bHc rfl<|eX ?_)<|aU (aO rfl e) rfl,rfl,a,b,b'⟩;rw[fc (by rwa [Gb]),Ht,pP g]
  exact absurd aI<|no t0
 have run:∀{v:D},Qq cH (.lst<|xs.map qg)=.ok v->fL [mD S rk c,mD T rk' c,w,.int l,.int r]=.ok v:=λ{v} s=>by
  refine cI rfl<|aJ (bI<|aO rfl es)<|aJ (bI<|aO (aU (aO (aU (aO rfl ep) rfl) ej) rfl)<|uP dl<|by rw[q];lia)<|aJ (bI<|jV (lB rfl) (by rw[bN];lia) ex)<|dX ?_
  rw[Qv];show R.bind (R.ok<|D.lst<|xs.map qg) _=_;rw[aZ,s]
 have o:∀f t,af c f->WP S T rk rk' ws c (Cc (gd S T) (l,r) f) t->∃x∈xs,sle x.1 f/\sle x.2 t:=λf t E O=>by
  obtain⟨n,hs⟩:=p.least f E;obtain⟨i,j,e⟩:=Yq.mp n;have Q:qA sq i=Cc (gd S T) (l,r) f:=by rw[pP j,e]
  have Y:=(uy M A p j).mpr (by rwa [Q])
  obtain⟨z,m,K,J,C,hp,H⟩:=NV P (by rwa [q]) Y
  obtain⟨x,k,g,V,F,U⟩:=Z i<|(W i).mpr ⟨m,(B m).mpr ⟨z,K,J,C,hp⟩,H⟩;exact⟨x,k,by rwa [g,Q],U t Y⟩
 rcases bHf (λx k=>by
  obtain⟨i,j,g,_,F,_⟩:=L x k;have:=(p.lead (qA sq i)<|by rw[pP (I i j).1];exact Rh _).2.2
  rw[g];lia) with ⟨e0,G⟩|⟨x,k,G,n⟩
 .refine⟨.Hb,run G,.inl ⟨rfl,λf t E O=>?_⟩⟩
  obtain⟨x,k,_⟩:=o f t E O;rw[e0]at k
  nomatch k
 obtain⟨i,j,g,V,F,U⟩:=L x k;have X:=(I i j).1;obtain⟨l1,l2,l3⟩:=p.lead (qA sq i) (by rw[pP X];exact Rh _)
 refine⟨qg x,run G,.inr ⟨x,rfl,by rwa [g],?_,by rw[g];lia,F,λy hy1 hy2 hk=>?_⟩⟩
 .rw[g,l1];exact(uy M A p X).mp V
 obtain⟨v,s,v1,v2⟩:=o y.1 y.2 hy1 hy2;rcases bHe v1 v2 with e|e
 .subst e;exact n v s hk
 exact n v s<|NM e hk
end
def aYz{L:lw}(h:L.Pairwise (· < ·)){x y:Int}(d:x∈L)(c:y∈L):L.idxOf x<=L.idxOf y↔x<=y:=by
 have b:=qt d;have a:=qt c;have f:=DH b;have e:=DH a;rw[qw]at h;constructor
 .intro z;rcases Nat.lt_or_eq_of_le z with z|z
  .have:=h _ _ b a z;omega
  .rw[<-f,<-e];simp only[z];exact Int.le_refl _
 .intro z;refine Nat.le_of_not_lt λw=>?_
  have:=h _ _ a b w;omega
def bD1(l:lw):(eF<|bY l).Pairwise (· < ·):=by
 have c:(eF<|bY l).Nodup:=(fG _).nodup_iff.mpr<|IM l [] vz;exact((AY<|bY l).and c).imp λ⟨a,b⟩=>by omega
def bHg{L:lw}{x:Int}(h:x∈L)(a:L.length<=1000):UE (.lst<|L.map D.int) [.int x]=.ok (.int (L.idxOf x:Nat)):=by
 have e:L.findIdx? (λi=>i==x)=some (L.idxOf x):=List.findIdx?_eq_some_iff_findIdx_eq.mpr ⟨qt h,rfl⟩
 show (wD<|L.map D.int).bind _=_;rw[qL,aZ,e];exact aF<|gJ<|by rw[Gb];omega
def bKl{c:Ex}{st:za}{r:R D}(h:c st=.ok (.bl true))(a:f st=r):Oz c f g st=r:=by rw[U4,h];exact a
def bKm{c:Ex}{st:za}{r:R D}(h:c st=.ok (.bl false))(a:g st=r):Oz c f g st=r:=by rw[U4,h];exact a
def bHh{fr:D}:eY "Sides" "pairs" (Hf pr fr U la lb)=.ok pr:=by unfold Hf;rw[mH,aF rfl];rfl
section
variable{fr w:D} {p q:Int} {zj:dL}
def ð(P:Pl U la lb c)(z:U.length<=63)(o:zj.length=U.length):∃f:wS,lA [Hf (.lst zj) fr U la lb,.int p,.int q]=.ok (.lst<|(List.range U.length).map λi=>if i∈bF (Cd la lb p q) then D.int (f i:Nat) else .Hb)/\∀i∈bF (Cd la lb p q),∀j∈bF (Cd la lb p q),(f i<=f j↔dC U c (Cd la lb p q) i<=dC U c (Cd la lb p q) j):=by
 have g:=Bq (p:=p) (q:=q) P;have h:=C2 (pr:=.lst zj) (fr:=fr) (p:=p) (q:=q) P;generalize Cd la lb p q=n at g h;have y:=jL U.length _ (iT n) λx m=>cU g m
 let l:lw:=(bF n).map λr=>(dC U c n r:Int)
 have hl:l.length<=63:=by show ((bF n).map _).length<=63;rw[Gb];omega
 have t:(bY l).length<=l.length:=by
  have:∀(l a:lw),(l.foldl (λa x=>if a.any (· == x) then a else a++[x]) a).length<=a.length+l.length:=λl=>by
   induction l with
   |nil=>exact λa=>Ib _
   |cons x l k=>
    intro a;rw[Dw,dg];refine Yg (k _) ?_
    split
    .omega
    .rw[Ef,um];omega
  have:=this l []
  rwa [ZP,DQ]at this
 have A:(eF<|bY l).length<=63:=by rw[(fG _).length_eq];omega
 have mem:∀i∈bF n,(dC U c n i:Int)∈eF (bY l):=λi d=>JM.mpr<|ze.mpr ⟨i,d,rfl⟩
 refine⟨λi=>(eF<|bY l).idxOf (dC U c n i:Int),?_,λi d j s=>(aYz (bD1 l) (mem i d)<|mem j s).trans Int.ofNat_le⟩
 have w:=FY P.m g;have v:e1 pU (e1 yv<|aA 3) [Hf (.lst zj) fr U la lb,p,q,(D.Cf false (ja<|bF n)<|(bF n).map λr=>D.int (dC U c n r:Nat)),none,none]=.ok (.lst<|(eF<|bY l).map D.int):=by
  show (aP (((bF n).map λr=>D.int (dC U c n r:Nat)).length<=big)<|R.ok<|D.lst<|(bF n).map λr=>D.int (dC U c n r:Nat)).bind pU=_
  rw[aF<|gJ<|by rw[Gb];omega,aZ,show (bF n).map (λr=>D.int (dC U c n r:Nat))=l.map D.int by show _=((bF n).map _).map _;rw[vg];rfl]
  show (wD<|l.map D.int).bind _=_;rw[qL,aZ];exact aF ⟨by omega,by omega⟩
 refine cI rfl<|aJ (bI<|aO (aU HN<|aU (aO rfl h) rfl) w)<|aJ (bI v)<|dX ?_;have u:e1 fZ (e1 (eY "Sides" "pairs")<|aA 0) [Hf (.lst zj) fr U la lb,p,q,(D.Cf false (ja<|bF n)<|(bF n).map λr=>D.int (dC U c n r:Nat)),D.lst<|(eF<|bY l).map D.int,none]=.ok (.int (U.length:Nat)):=by
  show (eY "Sides" "pairs"<|Hf (.lst zj) fr U la lb).bind fZ=_;rw[bHh,aZ,<-o];rfl
 refine yI (λ(i:Nat)=>D.int (i:Nat)) _ (WE u<|by omega) (by rw[Ut];omega) λi d=>?_
 have e:e2 yr (aA 5) (aA 3) [Hf (.lst zj) fr U la lb,p,q,(D.Cf false (ja<|bF n)<|(bF n).map λr=>D.int (dC U c n r:Nat)),D.lst<|(eF<|bY l).map D.int,(i:Nat)]=.ok (.bl<|decide (i∈bF n)):=aG rfl rfl (by
  show aP (Rb false (.int (i:Nat))=true) (R.ok<|D.bl<|jQ (ja<|bF n)<|.int (i:Nat))=_;rw[aF (c:=Rb false (.int (i:Nat))=true) rfl,cK])
 by_cases b:i∈bF n
 .rw[Bf b]at e;rw[Qa b];refine bKl e ?_
  unfold Lo;rw[show aA 4 _=.ok (.lst<|(eF<|bY l).map D.int) from rfl,aZ,aU (aG rfl rfl<|Gx<|yG (λr=>D.int (dC U c n r:Nat)) b) rfl,aZ]
  exact bHg (mem i b) (by omega)
 .rw[Ed b]at e;rw[Ea b];exact bKm e rfl
end
def HE{r:R α}{a:α}(h:r=.ok a):r.si=.ok a:=by rw[h];rfl
def bHi{a b:Bd}{st:za}{x:D}(h:a st=.exc x):aY a b st=.exc x:=by rw[bCh,h];rfl
def bHj{b:Bd} {x:D} (h:ds.length=np) (a:b (ds.map (λd=>some<|.v d)++List.replicate (n-np) none)=.exc x):dI np n b ds=.exc x:=by
 unfold dI;rw[aF h,a];rfl
section
variable{S T:bv}{rk rk':ac}{c l r:Nat}{sq:f8}{fr:Db}{w:D}{ws:u8}
def OY(M:Nb S rk c)(n:Nb T rk' c)(b:Sd S T c l r sq fr)(B:Wd w ws):∃a:ac,dF [Bs S T rk rk' c sq fr,w]=.ok (.lst<|ja a)/\(a=[]↔∀f t,af c f->¬ WP S T rk rk' ws c (Cc (gd S T) (l,r) f) t):=by
 have P:=Xs M n b;have q:(uS S T c sq).length=sq.length:=by unfold uS;rw[Gb]
 obtain⟨a,G,H,s⟩:=AX P B;refine⟨a,G,?_,?_⟩
 .intro F f t E u;obtain⟨i,d,e⟩:=Yq.mp<|(b.least f E).1;have C:qA sq i=Cc (gd S T) (l,r) f:=by rw[pP d,e]
  obtain⟨z,m,p,o,j,g,_⟩:=NV P (by rwa [q])<|(uy M n b d).mpr<|by rwa [C]
  have:=(s m).mpr ⟨z,p,o,j,g⟩;rw[F]at this;cases this
 .intro h;refine List.eq_nil_iff_forall_not_mem.mpr λm D=>?_
  obtain⟨z,p,o,j,g⟩:=(s m).mp D;obtain⟨v,x⟩:=Kx P (Bq P) g.1;obtain⟨i,d⟩:=A8 _<|JD x;have k:=cU v d;rw[q]at k;obtain⟨t,u⟩:=eJ P j g d;obtain⟨A,y,_⟩:=b.lead (qA sq i) (by rw[pP k];exact Rh _)
  exact h _ t y (by rw[A];exact(uy M n b k).mp u)
def O2(T:ac):Th (.lst<|ja T) (.lst [])=.ok (.bl<|!decide (T=[])):=by
 obtain⟨b,a,_⟩:=vH T;cases T with
 |nil=>rw[V4,aF ⟨by rw[show ja []=[] from rfl];unfold Fe gU;decide,by unfold plain bZ;rfl,by unfold plain bZ;rfl⟩];rfl
 |cons x T=>
  rw[V4,aF ⟨by unfold Fe;rw[a];decide,by(conv=>lhs;unfold plain);exact b,by unfold plain bZ;rfl⟩]
  rfl
def gw(U:bv)(c b:ac)(a:Ps)(z:Do):D:=.tup [.int z.1,.int z.2,.lst<|(List.range U.length).map λi=>if i∈bF (Cd c b z.1 z.2) then D.int (a z i:Nat) else .Hb]
theorem ñ(M:Nb S rk c)(h:Nb T rk' c)(n:S.length<=7)(A:l<S.length)(y:r<T.length)(q:Wd w ws):∃sq fr,Sd S T c l r sq fr/\(((∃f t,af c f/\WP S T rk rk' ws c (Cc (gd S T) (l,r) f) t)/\jT [mD S rk c,mD T rk' c,w,.int l,.int r]=.exc (.Ag "NoPaper" [] []))\/
  ((∀f t,af c f->¬ WP S T rk rk' ws c (Cc (gd S T) (l,r) f) t)/\∃a:Ps,jT [mD S rk c,mD T rk' c,w,.int l,.int r]=.ok (.lst<|(fj ws (eF<|bY<|zz<|Lc rk sq)<|eF<|bY<|zz<|Kc rk' sq).map<|gw (uS S T c sq) (Lc rk sq) (Kc rk' sq) a)/\
   ∀z,∀i∈bF (Cd (Lc rk sq) (Kc rk' sq) z.1 z.2),∀j∈bF (Cd (Lc rk sq) (Kc rk' sq) z.1 z.2),(a z i<=a z j↔dC (uS S T c sq) c (Cd (Lc rk sq) (Kc rk' sq) z.1 z.2) i<=dC (uS S T c sq) c (Cd (Lc rk sq) (Kc rk' sq) z.1 z.2) j))):=by
 obtain⟨sq,fr,E,e⟩:=nK M h n A y;have P:=Xs M h e;have k:(uS S T c sq).length=sq.length:=by unfold uS;rw[Gb]
 have C:sq.length<=8*7:=pairs_len e.nd e.inr n h.most;obtain⟨d,F,b⟩:=OY M h e q;have o:PB (cO 5<|aV dD<|aC (aA 0)<|aC (aA 1)<|aC (aA 3)<|aC (aA 4) aR) [mD S rk c,mD T rk' c,w,l,r,none,none,none]=.ok (.nx [mD S rk c,mD T rk' c,w,l,r,Bs S T rk rk' c sq fr,none,none]):=HE<|bI<|aO rfl E;have t:MH (e2 Th (aV dF<|aC (aA 5)<|aC (aA 2) aR)<|gK aR) [mD S rk c,mD T rk' c,w,l,r,Bs S T rk rk' c sq fr,none,none]=.ok (.bl<|!decide (d=[])):=HE<|aG (aO rfl F) (fQ rfl)<|O2 d;refine⟨sq,fr,e,?_⟩
 by_cases g:d=[]
 .refine .inr ⟨b.mp g,?_⟩;have G:∀z:Do,∃a:wS,lA [Bs S T rk rk' c sq fr,.int z.1,.int z.2]=.ok (.lst<|(List.range (uS S T c sq).length).map λi=>if i∈bF (Cd (Lc rk sq) (Kc rk' sq) z.1 z.2) then D.int (a i:Nat) else .Hb)/\∀i∈bF (Cd (Lc rk sq) (Kc rk' sq) z.1 z.2),∀j∈bF (Cd (Lc rk sq) (Kc rk' sq) z.1 z.2),(a i<=a j↔dC (uS S T c sq) c (Cd (Lc rk sq) (Kc rk' sq) z.1 z.2) i<=dC (uS S T c sq) c (Cd (Lc rk sq) (Kc rk' sq) z.1 z.2) j):=λz=>ð P (by lia) (by rw[Gb,k])
  obtain⟨a,v⟩:=Classical.skolem.mp G;refine⟨a,?_,λz=>(v z).2⟩
  rw[Bf g]at t;have m:=nX (pr:=.lst<|sq.map qD) (fr:=.lst<|sq.map λp=>D.str<|fr p) (U:=uS S T c sq) P.fa P.fb (by rw[P.la,k];lia) (by rw[P.lb,k];lia) q
  have u:=ID (ws:=ws) (L2:=eF<|bY<|zz<|Kc rk' sq) (by rw[(fG _).length_eq];exact mR P.fb)<|eF<|bY<|zz<|Lc rk sq
  have H:=mR P.fa;rw[(fG<|bY<|zz<|Lc rk sq).length_eq]at u;generalize fj ws (eF<|bY<|zz<|Lc rk sq) (eF<|bY<|zz<|Kc rk' sq)=zs at m u;have s:=SW (tg:=Jf [6,7]) (C:=bK) (E:=AV) (st:=[mD S rk c,mD T rk' c,w,l,r,Bs S T rk rk' c sq fr,none,none]) (F:=pD) (G:=gw (uS S T c sq) (Lc rk sq) (Kc rk' sq) a) (q:=λ_=>true) zs λz _=>⟨_,rfl,rfl,λ_=>jE<|aU rfl<|aU rfl<|aU (aO rfl (v z).1) rfl⟩
  rw[MG.mpr λ_ _=>rfl]at s
  exact cI rfl<|aJ o<|dN (jU t rfl)<|HE<|dX<|jV (lB<|aO rfl m) (by rw[Gb];lia) s
 .refine .inl ⟨yd λz=>g<|b.mpr λf t B x=>z ⟨f,t,B,x⟩,?_⟩
  rw[Ed g]at t;refine bHj rfl<|(aJ o<|bHi<|tQ t ?_);rw[Ğ];exact aF (by decide)
end
def sub_le{o:Nat}(h:∀g,m.testBit g=true->o.testBit g=true):m<=o:=by
 have:m&&&o=m:=KG λg=>by
  rw[Nat.testBit_and];cases a:m.testBit g with
  |true=>rw[h g a];rfl
  |false=>rfl
 rw[<-this];exact Nat.and_le_right
section
def aZ0(P:Pl U la lb c)(a:n<2^U.length){k:Nat}(f:i∈bF n)(e:k<c)(b:dc U i k∈bF n):dC U c n (dc U i k)<=dC U c n i:=sub_le λg d=>by
 rw[iD P.m<|cU a f];rw[iD P.m<|cU a b]at d;exact bg.trans (.on .here e<|bV.mp b) d
def aZ1(P:Pl U la lb c)(a:n<2^U.length) (e:i∈bF n) (d:j∈bF n) (h:dC U c n i=dC U c n j):Bj U c n i j:=by
 have b:∀{x},x∈bF n->(dC U c n x).testBit x=true:=λf=>(iD P.m (cU a f) _).mpr .here
 refine⟨(iD P.m (cU a e) j).mp (by rw[h];exact b d),(iD P.m (cU a d) i).mp<|by rw[<-h];exact b e⟩
def bHk(P:Pl U la lb c){z:Do}(o:∀m,¬ Cq U c la lb z m){a b:Nat}(f:a∈bF (Cd la lb z.1 z.2))(t:b∈bF (Cd la lb z.1 z.2))(D:(la.getD a 0:Int)=z.1)(C:(lb.getD b 0:Int)=z.2)(s:dC U c (Cd la lb z.1 z.2) a=dC U c (Cd la lb z.1 z.2) b) :
  (∀j∈bF (Cd la lb z.1 z.2),dC U c (Cd la lb z.1 z.2) j=dC U c (Cd la lb z.1 z.2) a->j=a)/\∀k,k<c->dc U a k≠a:=by
 have g:=Bq (p:=z.1) (q:=z.2) P;have p:=λi=>Wx (p:=z.1) (q:=z.2) (i:=i) P
 unfold Cq at o;generalize Cd la lb z.1 z.2=n at f t s g p o;have w:=cU g f;have v:∀{j},j∈bF n->dC U c n j=dC U c n a->j∈bF (gM U c n a):=λh e=>bV.mpr<|(qF P.m w).mpr<|aZ1 P g f h e.symm
 have E:gM U c n a≠0:=λz=>by
  have:=yH P.m g f;rw[z,bV,VG]at this;cases this
 have u:∀{j},j∈bF (gM U c n a)->j∈bF n:=λh=>R1 P.m g f h
 have d:¬ Ac U (gM U c n a)=true:=λd=>o _ ⟨zG.mpr ⟨a,f,rfl,d⟩,EE (yH P.m g f) D λr d=>((p r).mp<|u d).2.1,EE (v t s.symm) C λr d=>((p r).mp<|u d).2.2⟩
 unfold Ac at d;rw[sr,Mg,Mg]at d;have l:=yH P.m g f;cases q:bF (gM U c n a) with
 |nil=>rw[q]at l;cases l
 |cons x T=>
  rw[q]at d l;have B:T=[]:=by
   cases T with
   |nil=>rfl
   |cons y T=>exact absurd (.inl<|by simp) d
  subst B;obtain rfl:a=x:=Mc.mp l;refine⟨λj h e=>?_,λk A e=>d<|.inr<|(yF P.m w).mpr ⟨k,A,e⟩⟩
  have:=v h e;rw[q]at this;exact Mc.mp this
end
theorem E5{g f:Type}{x z:g×f}:∀{a:List (g×f)},(a.map (·.1)).Nodup->z∈a->x∈a->z.1=x.1->z=x
 |y::a,c,d,b,e=>by
  rw[Ue,ki]at c;rcases Mb.mp d with h|d
  .rcases Mb.mp b with i|b
   .rw[h,i]
   exact(c.1<|ze.mpr ⟨x,b,by rw[<-e,h]⟩).elim
  rcases Mb.mp b with h|b
  .exact(c.1<|ze.mpr ⟨z,d,by rw[e,h]⟩).elim
  exact E5 c.2 d b e
def BG.same[DecidableEq α]{δ:α->Nat->α}{s:α} {P:α->Prop} {a b:List (α×List Nat)} (d:BG δ s c P a.length 0 a) (f:BG δ s c P b.length 0 b):a=b:=by
 have p:∀{a b:List (α×List Nat)},BG δ s c P a.length 0 a->BG δ s c P b.length 0 b->∀x∈a,x∈b:=λ{a b} d f x o=>by
  obtain⟨_,e,h⟩:=d.lt x o;obtain⟨y,t,e1,k⟩:=f.whole h;obtain⟨_,e2,m⟩:=f.lt y t;obtain⟨z,r,B,g⟩:=d.whole m;have A:z=x:=by
   exact E5 d.nd r o (by rw[B,e2,e1,e])
  subst A;have:y.2=z.2:=by
   rcases k with k|k
   .exact k
   rcases g with g|g
   .exact g.symm
   exact(oM<|tU k g).elim
  rwa [show z=y from Ew (by rw[e1,e]) this.symm]
 have l:∀{a:List (α×List Nat)},BG δ s c P a.length 0 a->a.Pairwise λx y=>aj x.2 y.2:=λ{a} h=>qw.mpr λi j v u q=>h.ord i j _ _ (Zc v) (Zc u) q
 have n:∀{a:List (α×List Nat)},BG δ s c P a.length 0 a->a.Nodup:=λ{a} h=>List.Pairwise.imp (S:=λx y=>x≠y) (λ{x y} h z=>oM<|show aj y.2 y.2 from z ▸ h)<|l h
 exact((List.perm_ext_iff_of_nodup (n d)<|n f).mpr λx=>⟨p d f x,p f d x⟩).eq_of_pairwise (λx y _ _ w m=>(oM<|tU w m).elim) (l d) (l f)
def AL{st:za}{x y:dL}(b:f st=.ok (.lst x))(a:g st=.ok (.lst y)):tE f g st=.ok (zP x y):=by
 unfold tE;rw[b,aZ,a,aZ]
section
variable{S T:bv}{rk rk':ac}{c l r i:Nat}{acc:sB}
def mq(S T:bv)(l r:Nat)(acc:sB)(i:Nat)(a x7 x8:li):za:=
 [some<|.v<|.lst<|Sb S,some<|.v<|.lst<|Sb T,some<|.v<|.int l,some<|.v<|.int r,some<|.o .l<|kQ acc,some<|.v<|.int i,a,x7,x8]
theorem aZ3(M:Nb S rk c)(d:Nb T rk' c) (b:B2 S T c l r i j acc) (g:wn) (w:ac) {x7:li}:rC (mq S T l r acc i (qD g) x7 x8)=.ok (.nx<|mq S T l r (Xm acc g w) i (qD g) x7 x8):=by
 have hl:=b.len M.most d.most;obtain⟨a,e⟩:=kL (acc.map (·.1));have t:e2 pG (aA 6) (cW 4) (mq S T l r acc i (qD g) x7 x8)=.ok (.bl (!decide (g∈acc.map (·.1)))):=aG (y:=.lst ((acc.map (·.1)).map qD)) rfl (by rw[<-Ws];rfl) (by
  rw[é,T7];exact aF ⟨by lia,by simp[qD],a⟩)
 unfold Xm
 by_cases h:g∈acc.map (·.1)
 .rw[Qa h];exact jU (dR t<|by rw[Bf h];rfl) rfl
 rw[Ea h];refine tQ (dR t<|by rw[Ed h];rfl) ?_
 rw[yD (i:=4) (f:=aA 6) (xs:=kQ acc) rfl rfl (by unfold kQ;rw[Gb];lia)]
 unfold mq kQ;simp only[List.map_append,map_cons,map_nil];rfl
theorem F5(M:Nb S rk c)(d:Nb T rk' c){x:(wn)×List Nat}{x7 x8:li}:∀(k j:Nat) (acc:sB) (g:li),j+k=c->B2 S T c l r i j acc->acc[i]?=some x->
  ∃f s,Tb (jb 6) rC (((ah S T x.1).drop j).map qD) (mq S T l r acc i g x7 x8)=.ok (.nx<|mq S T l r f i s x7 x8)/\B2 S T c l r i c f/\f[i]?=some x
 |0,j,acc,g,o,b,a=>by
  obtain rfl:j=c:=by lia
  refine⟨acc,g,?_,b,a⟩;rw[cz (l:=ah S T x.1) (by rw[vK M d (b.lt x<|nj a).1];exact Ib _)]
  rfl
 |k+1,j,acc,g,o,b,a=>by
  have p:j<c:=by lia
  have m:=(b.lt x<|nj a).1;have h:j<(ah S T x.1).length:=by rwa [vK M d m]
  obtain⟨f,n,e,q,t⟩:=F5 M d (x7:=x7) (x8:=x8) k (j+1) _ (qD<|gd S T x.1 j) (by lia) (b.turn (GN M d) a p)<|mE a
  refine⟨f,n,?_,q,t⟩;rw[Zq h,qE M d m];exact fU rfl (aZ3 M d b _ _) e
theorem P2(M:Nb S rk c)(o:Nb T rk' c):∀(k i:Nat) (acc:sB) (h x7 x8:li) (f:Nat),65<=k+i->k<=f->B2 S T c l r i 0 acc->i<=acc.length->
  ∃j C u G,iK rD xQ f (mq S T l r acc i h x7 x8)=.ok (.nx<|mq S T l r j j.length C u G)/\B2 S T c l r j.length 0 j
 |0,i,acc,h,x7,x8,f,v,y,b,w=>by have:=b.len M.most o.most;lia
 |k+1,i,acc,h,x7,x8,f,v,y,b,w=>by
  obtain⟨f,rfl⟩:∃g,f=g+1:=⟨f-1,by lia⟩
  have a:rD (mq S T l r acc i h x7 x8)=.ok _:=aG rfl rfl rfl;rw[show (kQ acc).length=acc.length by unfold kQ;simp]at a
  by_cases d:i<acc.length
  .have m:=Zc d;generalize acc[i]=x at m;have n:=(b.lt x<|nj m).1;obtain⟨E,t,e,B,D⟩:=F5 M o (x7:=some<|.v<|.int x.1.1) (x8:=some<|.v<|.int x.1.2) c 0 acc h (by lia) b m
   have H:=(gf.mp D).1;obtain⟨F,s,q,p,z,A⟩:=P2 M o k (i+1) E t _ _ f (by lia) (by lia) B.next (by lia)
   refine⟨F,s,q,p,yE (dR a<|Gy d) (aJ (nE (aG rfl rfl<|eX<|by rw[Ws];exact U7<|by rw[Fi,m];rfl) rfl)<|aJ (gB ?_ e)<|bI rfl) z,A⟩
   rw[drop_zero,nL n];exact AL (aG rfl rfl<|eX<|tR n.1)<|aG rfl rfl<|eX<|tR n.2
  have:i=acc.length:=by lia
  subst this;exact⟨acc,h,x7,x8,zE<|dR a<|MO d,b⟩
theorem aZ5(M:Nb S rk c)(a:Nb T rk' c)(g:S.length<=7)(k:l<S.length)(i:r<T.length) (f:Sd S T c l r sq fr):pZ [.lst<|Sb S,.lst<|Sb T,.int l,.int r]=.ok (.lst<|sq.map qD):=by
 obtain⟨acc,q,o,x8,e,b⟩:=P2 M a 65 0 [((l,r),[])] none none none 100000 (by lia) (by lia) (BG.start ⟨k,i⟩)<|Gf _
 obtain⟨s,m,n⟩:=f.ord;obtain rfl:=b.same m;refine cI rfl<|aJ (oK<|fQ (ds:=[qD (l,r)]) ?_)<|aJ (bI rfl)<|aJ (by rwa [KJ]) ?_
 .rw[ť,jE (ds:=[.int l,.int r]) rfl,aZ];rfl
 have d:acc.length<64:=by
  have:=pairs_len b.nd (λp j=>by obtain⟨x,h,rfl⟩:=ze.mp j;exact(b.lt x h).1) g a.most
  rw[Gb]at this;lia
 rw[bGy];refine dX ?_
 show AN (.lst<|kQ acc)=_;rw[Ws];show (zj _).bind _=_;rw[FN,aZ,aF (by rw[Gb,Gb];exact d),n]
end
def uf(S:bv)(rk:ac):D:=.lst [.lst<|Sb S,.lst<|ja rk]
section
variable{S T:bv}{rk rk':ac}{c l r:Nat}{ws:u8}{sq:f8}
theorem KN{E:Ex}{st:za}{G:Nat×Nat->D}:∀l:f8,(∀p∈l,∀st',st'.length=st.length->(∀j,j≠7->j≠8->st'[j]?=st[j]?)->st'[7]?=some (some<|.v<|.int (p.1:Nat))->st'[8]?=some (some<|.v<|.int (p.2:Nat))->E st'=.ok (G p))->8<st.length->kW (Jf [7,8]) bK E st (l.map qD)=.ok (l.map G)
 |[],_,_=>rfl
 |p::l,h,hl=>by
  have a:=KN l (λq b=>h q<|Kb _ b) hl
  have e:E ((st.set 7 (p.1:Nat)).set 8 (p.2:Nat))=.ok (G p):=h p Cb _ (by simp) (λj d c=>by rw[Vd,Ea<|bf c,Vd,Ea<|bf d]) (by rw[Vd,Ea (by decide),Vd,Qa rfl,Qa (by omega)]) (by rw[Vd,Qa rfl,Qa (by simpa using hl)])
  show (Jf [7,8] (qD p) st).bind _=_;rw[show Jf [7,8] (qD p) st=.ok ((st.set 7 (p.1:Nat)).set 8 (p.2:Nat)) from rfl,aZ]
  show (E _).bind _=_;rw[e,aZ,a];rfl
def Om(S T:bv)(rk rk':ac)(ws:u8)(sq:f8)(acc:lv)(x5 a:li):za:=[some<|.v<|uf S rk,some<|.v<|uf T rk',some<|.v<|.tup<|ws.map D.bl,some<|.v<|.lst<|sq.map qD,some<|.o .l<|acc.map pD,x5,a,none,none]
theorem Q2(M:Nb S rk c)(b:Nb T rk' c)(inr:∀p∈sq,Ti S.length T.length p)(d:sq.length<=64){acc:lv}{a:li} :
  bH [7,8] (Jf [7,8]) (cc<|aA 3) bK zT (Om S T rk rk' ws sq acc x5 a)=.ok (.lst<|ja<|Lc rk sq)/\bH [7,8] (Jf [7,8]) (cc<|aA 3) bK zU (Om S T rk rk' ws sq acc x5 a)=.ok (.lst<|ja<|Kc rk' sq):=by
 constructor
 .refine jV (xs:=sq.map qD) rfl (by rw[Gb];lia) ?_
  rw[show ja (Lc rk sq)=sq.map λp=>D.int (rk.getD p.1 0:Nat) by unfold ja Lc;rw[vg];rfl]
  refine KN sq (λp hp st' _ hs h7 _=>?_) (show 8<9 by decide)
  refine aG (aG (x:=uf S rk) (by rw[pR,hs 0 (by decide) (by decide)];rfl) rfl rfl) (by rw[pR,h7])<|eX<|nR ?_
  rw[M.Ri];exact(inr p hp).1
 .refine jV (xs:=sq.map qD) rfl (by rw[Gb];lia) ?_
  rw[show ja (Kc rk' sq)=sq.map λp=>D.int (rk'.getD p.2 0:Nat) by unfold ja Kc;rw[vg];rfl]
  refine KN sq (λp hp st' _ hs _ h8=>?_) (show 8<9 by decide)
  refine aG (aG (x:=uf T rk') (by rw[pR,hs 1 (by decide) (by decide)];rfl) rfl rfl) (by rw[pR,h8])<|eX<|nR ?_
  rw[b.Ri];exact(inr p hp).2
theorem W7(b:ws.length=4)(p q:Int):La (.tup<|ws.map D.bl) (.int<|2*(p%2)+q%2)=.ok (.bl<|wI ws p q):=by
 obtain⟨n,a⟩:∃n:Nat,p%2*2+q%2=n:=⟨(p%2*2+q%2).toNat,by lia⟩
 have hl:n<ws.length:=by rw[b];lia
 show Fg _=_;unfold wI;rw[show 2*(p%2)+q%2=p%2*2+q%2 by lia,a,fc (by simp_all)]
 simp[hl,Fg]
theorem BL(f:ws.length=4){p:Int}:∀(a:lw) (acc:lv) (b:li),acc.length+a.length<=1000->
  ∃h,Tb (jb 6) zV (a.map D.int) (Om S T rk rk' ws sq acc p b)=.ok (.nx<|Om S T rk rk' ws sq (acc++(a.filter λq=>wI ws p q).map λq=>(p,q)) p h)
 |[],acc,b,_=>⟨b,by simp⟩
 |q::a,acc,b,g=>by
  rw[dg]at g;have t:e2 La (aA 2) (e2 dH (e2 iZ (eI 2)<|e2 kO (aA 5)<|eI 2)<|e2 kO (aA 6)<|eI 2) (Om S T rk rk' ws sq acc p q)=.ok (.bl<|wI ws p q):=aG rfl (aG (aG rfl (aG rfl rfl<|iC<|by decide)<|aF<|by lia) (aG rfl rfl<|iC<|by decide) rfl)<|W7 f p q
  cases c:wI ws p q with
  |true=>
   obtain⟨d,e⟩:=BL f a (acc++[(p,q)]) q (by rw[Ef];show acc.length+1+_<=_;lia)
   refine⟨d,fU rfl (tQ (dR t c) ?_) (s2:=Om S T rk rk' ws sq (acc++[(p,q)]) p q) ?_⟩
   .rw[yD (i:=4) (d:=pD (p,q)) (xs:=acc.map pD) (jE rfl) rfl (by rw[Gb];lia)]
    unfold Om;rw[Fh];rfl
   rw[e,eP c,Ue,Co];rfl
  |false=>
   obtain⟨d,e⟩:=BL f a acc q (by lia)
   refine⟨d,fU rfl (jU (dR t c) rfl) ?_⟩;rw[iP (by rw[c];exact Qh)]
   exact e
theorem PY(M:Nb S rk c)(g:Nb T rk' c)(inr:∀p∈sq,Ti S.length T.length p)(d:sq.length<=64)(b:Bl (Kc rk' sq))(f:ws.length=4):∀(ps:lw) (acc:lv) (x5 a:li),acc.length+8*ps.length<=900->
  ∃m l,Tb (jb 5) zW (ps.map D.int) (Om S T rk rk' ws sq acc x5 a)=.ok (.nx<|Om S T rk rk' ws sq (acc++fj ws ps (eF<|bY<|zz<|Kc rk' sq)) m l)
 |[],acc,x5,a,_=>⟨x5,a,by rw[show fj ws [] _=[] from rfl,Ql];rfl⟩
 |p::ps,acc,x5,a,k=>by
  rw[dg]at k;have o:=mR b;have n:(eF<|bY<|zz<|Kc rk' sq).length<=8:=by rwa [(fG _).length_eq]
  obtain⟨j,e⟩:=BL (S:=S) (T:=T) (rk:=rk) (rk':=rk') (sq:=sq) f (p:=p) (eF<|bY<|zz<|Kc rk' sq) acc a (by lia)
  obtain⟨i,h,e2⟩:=PY M g inr d b f ps (acc++((eF<|bY<|zz<|Kc rk' sq).filter λq=>wI ws p q).map λq=>(p,q)) p j (by
   have:=Jt (λq=>wI ws p q)<|eF<|bY<|zz<|Kc rk' sq
   rw[Ef,Gb];lia)
  refine⟨i,h,fU rfl (gB ?_ e) ?_⟩
  .refine lB ?_
   show (bH _ _ _ _ _<|Om S T rk rk' ws sq acc p a).bind _=_;rw[(Q2 M g inr d).2];exact DE b (by unfold Kc;rw[Gb];exact d)
  rw[e2,Co];rfl
theorem bD2(M:Nb S rk c)(d:Nb T rk' c)(inr:∀p∈sq,Ti S.length T.length p)(a:sq.length<=64)(b:Bl (Lc rk sq))(g:Bl (Kc rk' sq))(f:ws.length=4):sH [uf S rk,uf T rk',.tup<|ws.map D.bl,.lst<|sq.map qD]=.ok (.lst<|(fj ws (eF<|bY<|zz<|Lc rk sq)<|eF<|bY<|zz<|Kc rk' sq).map pD):=by
 have i:=mR b;have hl:(eF<|bY<|zz<|Lc rk sq).length<=8:=by rwa [(fG _).length_eq]
 obtain⟨x5,h,e⟩:=PY M d inr a g f (eF<|bY<|zz<|Lc rk sq) [] none none (by simp;lia)
 refine cI rfl<|aJ (oK<|fQ rfl)<|aJ (gB (xs:=(eF<|bY<|zz<|Lc rk sq).map D.int) ?_ e) rfl;refine lB ?_
 show (bH _ _ _ _ _<|Om S T rk rk' ws sq [] none none).bind _=_;rw[(Q2 M d inr a).1];exact DE b (by unfold Lc;rw[Gb];exact a)
end
section
variable{S T:bv}{rk rk':ac}{c:Nat}{P0 Q0:Int}{N:Da}{sq kp:f8}{nums:D}
def gm(N:Da)(p:wn):D:=.int (N p:Nat)
def uR(S T:bv)(rk rk':ac)(sq:f8)(P0 Q0:Int)(nums:D)(a x8 Kf b:li):za:=[some<|.v<|uf S rk,some<|.v<|uf T rk',some<|.v<|.lst<|sq.map qD,some<|.v<|.int P0,some<|.v<|.int Q0,some<|.v nums,a,none,x8,none,Kf,none,b]
structure Ug(S T:bv)(rk rk':ac)(P0 Q0:Int)(N:Da)(dn:f8)(n:Int)(v:Pq):Prop where
 lf:v.2.1=true->∃a∈dn,(N a:Int)=n/\(rk.getD a.1 0:Int)=P0
 rt:v.2.2.1=true->∃a∈dn,(N a:Int)=n/\(rk'.getD a.2 0:Int)=Q0
 one:0<v.1->∃a∈dn,(N a:Int)=n
 two:1<v.1->∃a∈dn,∃b∈dn,a≠b/\(N a:Int)=n/\(N b:Int)=n
 self:v.2.2.2=true->∃a∈dn,(N a:Int)=n/\a∈ah S T a
def Ug.mono{d c:f8}{n:Int}{v:Pq}(h:Ug S T rk rk' P0 Q0 N d n v)(s:∀x∈d,x∈c):Ug S T rk rk' P0 Q0 N c n v:=
 ⟨λe=>let ⟨a,m,r⟩:=h.lf e;⟨a,s a m,r⟩,λe=>let ⟨a,m,r⟩:=h.rt e;⟨a,s a m,r⟩,λe=>let ⟨a,m,r⟩:=h.one e;⟨a,s a m,r⟩,λe=>let ⟨a,m,b,f,r⟩:=h.two e;⟨a,s a m,b,s b f,r⟩,λe=>let ⟨a,m,r⟩:=h.self e;⟨a,s a m,r⟩⟩
theorem T2{a:f8}{n:Int}:∀{Z:List (Int×Pq)},(∀s∈Z,Ug S T rk rk' P0 Q0 N a s.1 s.2)->Ug S T rk rk' P0 Q0 N a n (fM Z n)
 |[],_=>⟨(λe=>nomatch e),(λe=>nomatch e),λe=>absurd e (show ¬ (0:Int)<0 by decide),λe=>absurd e (show ¬ (1:Int)<0 by decide),(λe=>nomatch e)⟩
 |s::Z,h=>by
  unfold fM
  by_cases e:s.1=n
  .rw[Qa e,<-e];exact h s Cb
  rw[Ea e];exact T2 λz b=>h z<|Kb _ b
theorem QY{c:f8}{n:Int}{v:Pq}(b:Ug S T rk rk' P0 Q0 N c n v):∀{Z:List (Int×Pq)},(∀s∈Z,Ug S T rk rk' P0 Q0 N c s.1 s.2)->∀s∈fK Z n v,Ug S T rk rk' P0 Q0 N c s.1 s.2
 |[],_,s,a=>by
  rw[Mc.mp a];exact b
 |z::Z,h,s,a=>by
  unfold fK at a
  by_cases e:z.1=n
  .rw[Qa e]at a;rcases Mb.mp a with e2|e2
   .rw[e2];exact b
   exact h s<|Kb _ e2
  rw[Ea e]at a;rcases Mb.mp a with e2|e2
  .rw[e2];exact h z Cb
  exact QY b (λz d=>h z<|Kb _ d) s e2
def OM{x:Bool} {st:za} (h:f st=.ok (.bl b)):il x f st=.ok (x||b):=by
 unfold il;cases x with
 |true=>rfl
 |false=>rw[h];rfl
def Kw(i j:Int):Od (.int i) (.int j)=.ok (.bl<|decide (i=j)):=by
 simp[Od,aP];rfl
theorem RY{p:wn}{Kf:li}:∀(a:f8) (b:Bool) (d:li),(∀g∈a,g∈kp->N g<=N p)->
  ∃k,Jl (kp.map qD) (kp.map<|gm N) 12 (N p:Nat) jB (a.map qD) b (uR S T rk rk' sq P0 Q0 nums none (qD p) Kf d)=.ok (some<|b||decide (p∈a),uR S T rk rk' sq P0 Q0 nums none (qD p) Kf k)
 |[],b,d,_=>⟨d,by simp[Jl]⟩
 |z::a,b,d,h=>by
  obtain⟨i,e⟩:=RY a (b||decide (z=p)) (qD z) λg j=>h g<|Kb _ j
  refine⟨i,?_⟩;have o:il b jB ((uR S T rk rk' sq P0 Q0 nums none (qD p) Kf d).set 12<|qD z)=.ok (b||decide (z=p)):=OM<|aG rfl rfl (by
   rw[<-CN];exact aF ⟨by simp[qD,Fe],by simp[qD],by simp[qD]⟩)
  have e2:Jl (kp.map qD) (kp.map<|gm N) 12 (N p:Nat) jB (a.map qD) (b||decide (z=p)) ((uR S T rk rk' sq P0 Q0 nums none (qD p) Kf d).set 12<|qD z)=.ok (some<|b||decide (p∈z::a),uR S T rk rk' sq P0 Q0 nums none (qD p) Kf i):=by
   refine Eq.trans e ?_
   rw[Bool.or_assoc];congr 4
   by_cases c:z=p
   .simp[c]
   by_cases f:p∈a
   .simp[f]
   simp[c,f,Ne.symm c]
  rw[Ue];unfold Jl;rw[aF<|show Rb true (qD z)=true from rfl,DN]
  by_cases c:z∈kp
  .rw[Bf c,Qa rfl,get_map (gm N) c];show (if ((N p:Nat):Int)<(N z:Nat) then _ else _)=_
   have:=h z Cb c;rw[Ea (by lia),o,aZ]
   exact e2
  rw[Ed c,Ea Qh,o,aZ];exact e2
theorem U2(M:Nb S rk c)(t:Nb T rk' c)(inr:∀p∈kp,Ti S.length T.length p)(l:kp.Nodup)(f:∀p∈kp,∀g∈ah S T p,g∈kp->N g<=N p){Kf:li}:∀(xs d:f8) (Z:List (Int×Pq)) (x8 b:li),d++xs=kp->(∀s∈Z,Ug S T rk rk' P0 Q0 N d s.1 s.2)->
  ∃k,Mm (kp.map qD) (kp.map<|gm N) 8 12 pL pM jB (tE (e2 La (e2 La (aA 0)<|eI 0)<|e2 La (aA 8)<|eI 0)<|e2 La (e2 La (aA 1)<|eI 0)<|e2 La (aA 8)<|eI 1) (xs.map qD) Z (uR S T rk rk' sq P0 Q0 nums none x8 Kf b)=.ok (some k)/\∀s∈k,Ug S T rk rk' P0 Q0 N kp s.1 s.2
 |[],d,Z,x8,b,e,h=>by
  rw[Ql]at e;exact⟨Z,by simp[Mm],e ▸ h⟩
 |p::xs,d,Z,x8,b,e,h=>by
  have n:p∈kp:=by rw[<-e];simp
  have j:=inr p n;have o:p∉d:=λm=>by
   rw[<-e]at l;exact(Bo.mp l).2.2 p m p Cb rfl
  have sub:∀x∈d,x∈d++[p]:=λx y=>Dj _ y
  have i:p∈d++[p]:=by simp
  have q:=T2 (n:=(N p:Nat)) h;obtain⟨G,D⟩:=RY (S:=S) (T:=T) (rk:=rk) (rk':=rk') (sq:=sq) (P0:=P0) (Q0:=Q0) (nums:=nums) (kp:=kp) (N:=N) (p:=p) (Kf:=Kf) (ah S T p) (fM Z (N p:Nat)).2.2.2 b<|f p n;have A:Ug S T rk rk' P0 Q0 N (d++[p]) (N p:Nat) ((fM Z (N p:Nat)).1+1,(fM Z (N p:Nat)).2.1||decide ((rk.getD p.1 0:Int)=P0),(fM Z (N p:Nat)).2.2.1||decide ((rk'.getD p.2 0:Int)=Q0),(fM Z (N p:Nat)).2.2.2||decide (p∈ah S T p)):=by
   refine⟨λw=>?_,λw=>?_,λ_=>⟨p,i,rfl⟩,λw=>?_,λw=>?_⟩
   .rcases (sr _ _).mp w with w|w
    .obtain⟨a,m,r⟩:=q.lf w;exact⟨a,sub a m,r⟩
    exact⟨p,i,rfl,Ck w⟩
   .rcases (sr _ _).mp w with w|w
    .obtain⟨a,m,r⟩:=q.rt w;exact⟨a,sub a m,r⟩
    exact⟨p,i,rfl,Ck w⟩
   .obtain⟨a,m,r⟩:=q.one (by have:1<(fM Z (N p:Nat)).1+1:=w;lia)
    exact⟨a,sub a m,p,i,λz=>o<|z ▸ m,r,rfl⟩
   rcases (sr _ _).mp w with w|w
   .obtain⟨a,m,r⟩:=q.self w;exact⟨a,sub a m,r⟩
   exact⟨p,i,rfl,Ck w⟩
  obtain⟨k,C,v⟩:=U2 M t inr l f xs (d++[p]) (fK Z (N p:Nat) _) (qD p) G (by rw[Co];exact e)<|QY A λs B=>(h s B).mono sub
  refine⟨k,?_,v⟩;have F:pL (uR S T rk rk' sq P0 Q0 nums none (qD p) Kf b)=.ok (.bl<|decide ((rk.getD p.1 0:Int)=P0)):=aG (aG (aG rfl rfl rfl) (aG (y:=.int 0) rfl rfl rfl)<|eX<|nR<|by rw[M.Ri];exact j.1) rfl<|Kw _ _
  have E:pM (uR S T rk rk' sq P0 Q0 nums none (qD p) Kf b)=.ok (.bl<|decide ((rk'.getD p.2 0:Int)=Q0)):=aG (aG (aG rfl rfl rfl) (aG (y:=.int 1) rfl rfl rfl)<|eX<|nR<|by rw[t.Ri];exact j.2) rfl<|Kw _ _
  have u:tE (e2 La (e2 La (aA 0)<|eI 0)<|e2 La (aA 8)<|eI 0) (e2 La (e2 La (aA 1)<|eI 0)<|e2 La (aA 8)<|eI 1) (uR S T rk rk' sq P0 Q0 nums none (qD p) Kf b)=.ok ((ah S T p).map qD):=by
   rw[nL j];exact AL (aG (aG rfl rfl rfl) (aG (y:=.int 0) rfl rfl rfl)<|eX<|tR j.1)<|aG (aG rfl rfl rfl) (aG (y:=.int 1) rfl rfl rfl)<|eX<|tR j.2
  rw[Ue];unfold Mm;rw[get_map (gm N) n];show (il (fM Z (N p:Nat)).2.1 _<|uR S T rk rk' sq P0 Q0 nums none (qD p) Kf b).bind _=_;rw[OM F,aZ];show (il (fM Z (N p:Nat)).2.2.1 _<|uR S T rk rk' sq P0 Q0 nums none (qD p) Kf b).bind _=_;rw[OM E,aZ];show ((tE _ _<|uR S T rk rk' sq P0 Q0 nums none (qD p) Kf b).bind _)=_;rw[u,aZ];show (Jl _ _ _ _ _ _ _<|uR S T rk rk' sq P0 Q0 nums none (qD p) Kf b).bind _=_;rw[D,aZ];exact C
theorem aZ7{Z:List (Int×Pq)}(h:∀s∈Z,Ug S T rk rk' P0 Q0 N kp s.1 s.2)(no:∀a∈kp,∀b∈kp,(rk.getD a.1 0:Int)=P0->(rk'.getD b.2 0:Int)=Q0->N a=N b->(∀j∈kp,N j=N a->j=a)/\a∉ah S T a):ap Z=true:=by
 unfold ap;refine ww.mpr λs t=>?_
 have q:=h s t;rw[Bool.not_eq_true',SG];intro w;rw[Ho,Ho,sr,Mg]at w;obtain⟨i,g,c⟩:=w;obtain⟨a,r,A,l⟩:=q.lf i;obtain⟨b,p,z,k⟩:=q.rt g;obtain⟨d,n⟩:=no a r b p l k (by lia)
 rcases c with c|c
 .obtain⟨x,e,y,o,m,u,v⟩:=q.two c;exact m<|(d x e<|by lia).trans (d y o<|by lia).symm
 obtain⟨x,e,u,f⟩:=q.self c;rw[d x e (by lia)]at f
 exact n f
end
section
variable{S T:bv}{rk rk':ac}{c:Nat}{P0 Q0:Int}{N:Da}{sq:f8}{nums:D}
def rZ(rk rk':ac)(P0 Q0:Int)(p:wn):Bool:=decide ((rk.getD p.1 0:Int)<=P0)&&decide ((rk'.getD p.2 0:Int)<=Q0)
def yJ(rk rk':ac)(P0 Q0:Int)(N:Da)(p:wn):D:=if rZ rk rk' P0 Q0 p=true then gm N p else .Hb
def dt(rk rk':ac)(P0 Q0:Int)(N:Da)(l:f8):li:=some<|.o (.d true<|(l.filter<|rZ rk rk' P0 Q0).map qD)<|(l.filter<|rZ rk rk' P0 Q0).map<|gm N
theorem DX(M:Nb S rk c)(j:Nb T rk' c):∀(l a:f8) (x8 Kf:li),(a++l).Nodup->(∀p∈l,Ti S.length T.length p)->(a++l).length<=64->wV x8=true->wV Kf=true->
  ∃n k,wV n=true/\wV k=true/\Tb (Jf [8,10]) wO (l.map λp=>.tup [qD p,yJ rk rk' P0 Q0 N p]) (uR S T rk rk' sq P0 Q0 nums (dt rk rk' P0 Q0 N a) x8 Kf none)=.ok (.nx<|uR S T rk rk' sq P0 Q0 nums (dt rk rk' P0 Q0 N<|a++l) n k none)
 |[],a,x8,Kf,_,_,_,v,f=>⟨x8,Kf,v,f,by rw[Ql];rfl⟩
 |p::l,a,x8,Kf,r,inr,hl,_,_=>by
  have h:a++[p]++l=a++p::l:=by rw[Co];rfl
  obtain⟨o,d,s,w,e⟩:=DX M j l (a++[p]) (qD p) (yJ rk rk' P0 Q0 N p) (by rwa [h]) (λq u=>inr q<|Kb _ u) (by rwa [h]) rfl rfl
  rw[h]at e;refine⟨o,d,s,w,fU (s1:=uR S T rk rk' sq P0 Q0 nums (dt rk rk' P0 Q0 N a) (qD p) (yJ rk rk' P0 Q0 N p) none) rfl ?_ e⟩;have i:=inr p Cb;have t:qR (e2 Ko (e2 La (e2 La (aA 0)<|eI 1)<|e2 La (aA 8)<|eI 0)<|aA 3) (e2 Ko (e2 La (e2 La (aA 1)<|eI 1)<|e2 La (aA 8)<|eI 1)<|aA 4) (uR S T rk rk' sq P0 Q0 nums (dt rk rk' P0 Q0 N a) (qD p) (yJ rk rk' P0 Q0 N p) none)=.ok (.bl<|rZ rk rk' P0 Q0 p):=
   Js (aG (aG (aG rfl rfl rfl) (aG (y:=.int 0) rfl rfl rfl)<|eX<|nR<|by rw[M.Ri];exact i.1) rfl rfl) λ_=>aG (aG (aG rfl rfl rfl) (aG (y:=.int 1) rfl rfl rfl)<|eX<|nR<|by rw[j.Ri];exact i.2) rfl rfl
  cases b:rZ rk rk' P0 Q0 p with
  |true=>
   have g:yJ rk rk' P0 Q0 N p=.int (N p:Nat):=Qa b;rw[g]at t ⊢;refine tQ (dR t b)<|aJ (jU (dR (Tv (p:=false) (q:=false) (Ks (p:=true) ?_) λ_=>Tv (p:=false) (q:=false) ?_ λ_=>aG rfl rfl ?_) rfl) rfl) ?_
   .exact aF rfl
   .exact aF rfl
   .show R.ok (D.bl<|decide (((N p:Nat):Int)<0))=_;rw[Ed (by lia)]
   rw[eK (i:=6) (d:=gm N p) (p:=p) (acc:=a.filter<|rZ rk rk' P0 Q0) (vs:=(a.filter<|rZ rk rk' P0 Q0).map<|gm N) rfl rfl rfl (λm=>(Bo.mp r).2.2 p (Qj.mp m).1 p Cb rfl) (by
    have:=Jt (rZ rk rk' P0 Q0) a;rw[Ef]at hl;rw[Gb];lia)]
   unfold dt;rw[List.filter_append,eP b,List.filter_nil,Fh (f:=gm N)];rfl
  |false=>
   have g:yJ rk rk' P0 Q0 N p=.Hb:=Ea (by rw[b];exact Qh)
   rw[g]at t ⊢;refine jU (dR t b)<|jU (aG rfl rfl rfl) ?_;unfold dt;rw[List.filter_append,iP (by rw[b];exact Qh),List.filter_nil,Ql]
   rfl
theorem V2(F:Nat×Nat->D):∀l:f8,zP (l.map qD) (l.map F)=l.map λp=>.tup [qD p,F p]
 |[]=>rfl
 |p::l=>by
  show D.tup [qD p,F p] :: zP _ _=_;rw[V2 F l];rfl
theorem Ĩ(M:Nb S rk c)(r:Nb T rk' c)(inr:∀p∈sq,Ti S.length T.length p)(l:sq.Nodup)(w:sq.length<=64)
  (i:∀p∈sq,rZ rk rk' P0 Q0 p=true->∀g∈ah S T p,g∈sq->rZ rk rk' P0 Q0 g=true->N g<=N p)
  (no:∀a∈sq,∀b∈sq,rZ rk rk' P0 Q0 a=true->rZ rk rk' P0 Q0 b=true->(rk.getD a.1 0:Int)=P0->(rk'.getD b.2 0:Int)=Q0->N a=N b->(∀j∈sq,rZ rk rk' P0 Q0 j=true->N j=N a->j=a)/\a∉ah S T a) :
  kZ [uf S rk,uf T rk',.lst<|sq.map qD,.int P0,.int Q0,.lst<|sq.map<|yJ rk rk' P0 Q0 N]=.ok (.bl true):=by
 obtain⟨x8,Kf,s,E,e⟩:=DX (sq:=sq) (nums:=.lst<|sq.map<|yJ rk rk' P0 Q0 N) (P0:=P0) (Q0:=Q0) (N:=N) M r sq [] none none l inr w rfl rfl;rw[nil_append]at e;have f:∀{x},x∈sq.filter (rZ rk rk' P0 Q0)->x∈sq/\rZ rk rk' P0 Q0 x=true:=λh=>Qj.mp h
 have F:=Jt (rZ rk rk' P0 Q0) sq;obtain⟨Z,B,A⟩:=U2 (sq:=sq) (nums:=.lst<|sq.map<|yJ rk rk' P0 Q0 N) (P0:=P0) (Q0:=Q0) (N:=N) (Kf:=Kf) M r (λp k=>inr p (f k).1) (List.Nodup.sublist List.filter_sublist l) (λp k g y q=>i p (f k).1 (f k).2 g y (f q).1 (f q).2) (sq.filter<|rZ rk rk' P0 Q0) [] [] x8 none rfl (λ_ h=>nomatch h)
 have ok:=aZ7 A λa o b n e1 e2 C=>by
  obtain⟨v,u⟩:=no a (f o).1 b (f n).1 (f o).2 (f n).2 e1 e2 C;exact⟨λj m=>v j (f m).1 (f m).2,u⟩
 have t:Jk (vB<|eB vp<|aA 5) (e2 Th (e1 fZ<|aA 5)<|e1 fZ<|aA 2) (uR S T rk rk' sq P0 Q0 (.lst<|sq.map<|yJ rk rk' P0 Q0 N) none none none none)=.ok (.bl<|false||false):=Tv (Ks (p:=true)<|aF rfl) λ_=>aG (x:=.int sq.length) (y:=.int sq.length) (by
  rw[Qv];show R.ok (D.int _)=_;rw[Gb]) (by
  rw[Qv];show R.ok (D.int _)=_;rw[Gb]) (by
  show aP _ _=_;rw[aF ⟨by simp[Fe],rfl,rfl⟩]
  simp)
 refine cI rfl<|aJ (jU (dR t rfl) rfl)<|aJ (st':=uR S T rk rk' sq P0 Q0 (.lst<|sq.map<|yJ rk rk' P0 Q0 N) (dt rk rk' P0 Q0 N []) none none none) rfl<|aJ (gB (AL rfl rfl)<|by rw[V2];exact e) ?_
 show aP _ _=_;refine(aF ⟨⟨?_,?_⟩,?_,Ck rfl,Ck rfl,Ck rfl,Ck rfl,Ck rfl⟩).trans ?_
 .show (Mm _ _ _ _ _ _ _ _ _ _<|uR S T rk rk' sq P0 Q0 (.lst<|sq.map<|yJ rk rk' P0 Q0 N) none x8 Kf none).bind _=_;rw[B,aZ];show R.ok (Fl.rt<|.bl<|ap Z)=_;rw[ok]
 .show ((sq.filter<|rZ rk rk' P0 Q0).map<|gm N).all atom=true;exact ww.mpr λd z=>by
   obtain⟨p,_,rfl⟩:=ze.mp z;rfl
 .show ((sq.filter<|rZ rk rk' P0 Q0).map<|gm N).length<=_;rw[Gb];lia
 .show (wV _&&(wV _&&(wV _&&(wV _&&(wV _&&(wV _&&(wV _&&(wV _&&(wV x8&&(wV _&&(wV Kf&&(wV _&&(wV _&&true)))))))))))))=true;rw[s,E];rfl
end
section
variable{S T:bv}{rk rk':ac}{c l r:Nat}{ws:u8}{sq:f8}{fr:Db}
def fF(M:Nb S rk c)(d:Nb T rk' c)(a:Sd S T c l r sq fr) (b:i<sq.length):i∈bF (Cd (Lc rk sq) (Kc rk' sq) z.1 z.2)↔rZ rk rk' z.1 z.2 sq[i]=true:=by
 rw[Wx<|Xs M d a];unfold rZ uS Lc Kc;rw[Ho,Mg,Mg,Gb];simp[b]
def aZ8(M:Nb S rk c)(e:Nb T rk' c)(a:Sd S T c l r sq fr) (d:wS):((List.range (uS S T c sq).length).map λi=>if i∈bF (Cd (Lc rk sq) (Kc rk' sq) z.1 z.2) then D.int (d i:Nat) else .Hb)=sq.map (yJ rk rk' z.1 z.2 λp=>d<|sq.idxOf p):=by
 have f:(uS S T c sq).length=sq.length:=by unfold uS;rw[Gb]
 rw[f];refine OP (by simp) λi j g=>?_
 have b:i<sq.length:=by simpa using g
 rw[Ht,Ht,List.getElem_range];unfold yJ gm;dsimp only;rw[a.nd.idxOf_getElem i b]
 by_cases h:i∈bF (Cd (Lc rk sq) (Kc rk' sq) z.1 z.2)
 .rw[Qa h,Qa<|(fF M e a b).mp h]
 rw[Ea h,Ea λw=>h<|(fF M e a b).mpr w]
def bD3(M:Nb S rk c)(v:Nb T rk' c)(n:Sd S T c l r sq fr){z:Do}(hz:wI ws z.1 z.2=true)(O:∀f t,af c f->¬ WP S T rk rk' ws c (Cc (gd S T) (l,r) f) t)(C:wS)
  (o:∀i∈bF (Cd (Lc rk sq) (Kc rk' sq) z.1 z.2),∀j∈bF (Cd (Lc rk sq) (Kc rk' sq) z.1 z.2),(C i<=C j↔dC (uS S T c sq) c (Cd (Lc rk sq) (Kc rk' sq) z.1 z.2) i<=dC (uS S T c sq) c (Cd (Lc rk sq) (Kc rk' sq) z.1 z.2) j)) :
  kZ [uf S rk,uf T rk',.lst<|sq.map qD,.int z.1,.int z.2,.lst<|sq.map<|yJ rk rk' z.1 z.2 λp=>C<|sq.idxOf p]=.ok (.bl true):=by
 have P:=Xs M v n;have N:(uS S T c sq).length=sq.length:=by unfold uS;rw[Gb]
 have H:=Bq (p:=z.1) (q:=z.2) P;have L:∀m,¬ Cq (uS S T c sq) c (Lc rk sq) (Kc rk' sq) z m:=λm A=>by
  obtain⟨U,V⟩:=Kx P H A.1;obtain⟨i,d⟩:=A8 _<|JD V;have F:=cU U d;rw[N]at F;obtain⟨t,ht⟩:=eJ P hz A d;obtain⟨X,W,_⟩:=n.lead (qA sq i) (by rw[pP F];exact Rh _)
  exact O _ t W (by rw[X];exact(uy M v n F).mp ht)
 have q:∀p∈sq,rZ rk rk' z.1 z.2 p=true->∃i,∃h:i<sq.length,sq[i]=p/\i∈bF (Cd (Lc rk sq) (Kc rk' sq) z.1 z.2):=λp A B=>by
  obtain⟨i,d,e⟩:=Yq.mp A;exact⟨i,d,e,(fF M v n d).mpr<|by rw[e];exact B⟩
 have step:∀{i:Nat}(d:i<sq.length){g:wn},g∈ah S T sq[i]->∃k,k<c/\∃h:dc (uS S T c sq) i k<sq.length,sq[dc (uS S T c sq) i k]=g:=λ{i} d {g} E=>by
  have G:=n.inr _<|Rh d;obtain⟨k,B,e⟩:=Yq.mp E;have w:k<c:=by rwa [vK M v G]at B
  obtain⟨u,J⟩:=V7 n d w;refine⟨k,w,u,?_⟩;rw[pP u,pP d]at J;rw[J,<-qE M v G B,e]
 have K:∀{i:Nat}(d:i<sq.length),(Lc rk sq).getD i 0=rk.getD sq[i].1 0/\(Kc rk' sq).getD i 0=rk'.getD sq[i].2 0:=λ{i} d=>by
  unfold Lc Kc;simp[d]
 refine Ĩ M v n.inr n.nd n.len (λp A B g E Nk hgk=>?_) λa ha b hb Z Y ea eb e=>?_
 .obtain⟨i,d,rfl,s⟩:=q p A B;obtain⟨k,w,u,e⟩:=step d E;subst e;rw[n.nd.idxOf_getElem _ d,n.nd.idxOf_getElem _ u];have y:=(fF M v n u).mpr hgk;exact(o _ y _ s).mpr (aZ0 P H s w y)
 obtain⟨i,d,rfl,s⟩:=q a ha Z;obtain⟨j,I,rfl,y⟩:=q b hb Y;rw[n.nd.idxOf_getElem _ d,n.nd.idxOf_getElem _ I]at e;have hs:dC (uS S T c sq) c (Cd (Lc rk sq) (Kc rk' sq) z.1 z.2) i=dC (uS S T c sq) c (Cd (Lc rk sq) (Kc rk' sq) z.1 z.2) j:=Nat.le_antisymm ((o _ s _ y).mp<|Sm e)<|(o _ y _ s).mp<|Sm e.symm;obtain⟨R,Q⟩:=bHk P L s y (by rw[(K d).1];exact ea) (by rw[(K I).2];exact eb) hs
 refine⟨λx hx kx ex=>?_,λhx=>?_⟩
 .obtain⟨m,hm,rfl,D⟩:=q x hx kx;rw[n.nd.idxOf_getElem _ hm,n.nd.idxOf_getElem _ d]at ex;have:=R m D<|Nat.le_antisymm ((o _ D _ s).mp<|Sm ex)<|(o _ s _ D).mp<|Sm ex.symm;subst this;rfl
 obtain⟨k,w,u,e⟩:=step d hx;refine Q k w ?_
 have:=congrArg sq.idxOf e
 rwa [n.nd.idxOf_getElem _ u,n.nd.idxOf_getElem _ d]at this
theorem W2:∀l:lv,bZ (l.map pD)=true/\gU (l.map pD)<=1/\pF (l.map pD) (l.map pD)=true
 |[]=>by simp
 |p::l=>by
  obtain⟨a,b,d⟩:=W2 l;rw[Ue,oW,lU,Γ,a,d];refine⟨by simp[pD],?_,by simp[pD]⟩
  have:Fe (pD p)<=1:=by simp[pD,Fe]
  lia
theorem X2(l:lv):Th (.lst<|l.map pD) (.lst<|l.map pD)=.ok (.bl false):=by
 obtain⟨a,b,d⟩:=W2 l;show aP _ _=_;rw[aF ⟨by unfold Fe;lia,by unfold plain;exact a,by unfold plain;exact a⟩,rV,d]
 rfl
def pap(S T:bv)(rk rk':ac)(ws:u8)(l r:Nat)(a:dL)(sq:f8)(x7 x8 b:li):za:=[some<|.v<|uf S rk,some<|.v<|uf T rk',some<|.v<|.tup<|ws.map D.bl,some<|.v<|.int l,some<|.v<|.int r,some<|.v<|.lst a,some<|.v<|.lst<|sq.map qD,x7,x8,b,none]
theorem aZ9(M:Nb S rk c)(s:Nb T rk' c)(Q:S.length<=7)(X:l<S.length)(V:r<T.length)(h4:ws.length=4)(k:Sd S T c l r sq fr)(R:∀f t,af c f->¬ WP S T rk rk' ws c (Cc (gd S T) (l,r) f) t)(d:Ps)
  (n:∀z,∀i∈bF (Cd (Lc rk sq) (Kc rk' sq) z.1 z.2),∀j∈bF (Cd (Lc rk sq) (Kc rk' sq) z.1 z.2),(d z i<=d z j↔dC (uS S T c sq) c (Cd (Lc rk sq) (Kc rk' sq) z.1 z.2) i<=dC (uS S T c sq) c (Cd (Lc rk sq) (Kc rk' sq) z.1 z.2) j)) :
  qC [uf S rk,uf T rk',.tup<|ws.map D.bl,.int l,.int r,.lst<|(fj ws (eF<|bY<|zz<|Lc rk sq)<|eF<|bY<|zz<|Kc rk' sq).map<|gw (uS S T c sq) (Lc rk sq) (Kc rk' sq) d]=.ok (.bl true):=by
 have P:=Xs M s k;have W:=aZ5 M s Q X V k;have L:=bD2 (ws:=ws) M s k.inr k.len P.fa P.fb h4;have B:∀z∈fj ws (eF<|bY<|zz<|Lc rk sq) (eF<|bY<|zz<|Kc rk' sq),wI ws z.1 z.2=true:=λz w=>(Y1.mp w).2.2
 have N:(fj ws (eF<|bY<|zz<|Lc rk sq)<|eF<|bY<|zz<|Kc rk' sq).length<=64:=by
  have h1:=mR P.fa;have h2:=mR P.fb;have:=ID (ws:=ws) (L2:=eF<|bY<|zz<|Kc rk' sq) (by rwa [(fG _).length_eq])<|eF<|bY<|zz<|Lc rk sq
  rw[(fG<|bY<|zz<|Lc rk sq).length_eq]at this;lia
 generalize hR:fj ws (eF<|bY<|zz<|Lc rk sq) (eF<|bY<|zz<|Kc rk' sq)=R' at L B N ⊢
 let a:=gw (uS S T c sq) (Lc rk sq) (Kc rk' sq) d
 let st:=pap S T rk rk' ws l r (R'.map a) sq
 have g:∀{C E:Ex}(q:Int×Int->Bool)(G:Int×Int->D),(∀z,C ((st none none none).set 10<|a z)=.ok (.bl<|q z))->(∀z,E ((st none none none).set 10<|a z)=.ok (G z))->bH [10] (jb 10) (cc<|aA 5) C E (st none none none)=.ok (.lst<|(R'.filter q).map G):=λ{C E} q G Z Y=>by
  refine jV (xs:=R'.map a) (lB rfl) (by rw[Gb];lia) ?_
  exact Uv (C:=C) (E:=E) (st:=st none none none) (j:=10) a G R' λz _=>⟨Z z,λ_=>Y z⟩
 have b:∀{q:Int×Int->Bool},(∀z,q z=false)->R'.filter q=[]:=λ{q} h=>List.filter_eq_nil_iff.mpr λz _=>by rw[h z];exact Qh
 have I:=g (C:=xT) (E:=xR) (λ_=>false) a (λz=>Ks (p:=true)<|aF rfl) λz=>rfl
 rw[b λ_=>rfl]at I
 have H:=g (C:=xV) (E:=xU) (λ_=>false) (λ_=>.int 3) (λz=>aG (x:=.int 3) rfl rfl<|by simp[Th,aP]) λz=>rfl
 rw[b λ_=>rfl]at H
 have F:=g (C:=bK) (E:=xW) (λ_=>true) pD (λz=>rfl) λz=>aF (show 2<3 by decide)
 rw[MG.mpr λ_ _=>rfl]at F
 have o:∀(m:lv) (v x8 u:li),(∀z∈m,wI ws z.1 z.2=true)->∃O Al Zu,Tb (Jf [7,8,9]) xX (m.map a) (st v x8 u)=.ok (.nx<|st O Al Zu):=by
  intro m
  induction m with
  |nil=>exact λv x8 u _=>⟨v,x8,u,rfl⟩
  |cons z m U=>
   intro v x8 u K;obtain⟨A,y,x,e⟩:=U z.1 z.2 (D.lst<|sq.map<|yJ rk rk' z.1 z.2 λp=>d z<|sq.idxOf p) λz w=>K z<|Kb _ w
   refine⟨A,y,x,fU (s1:=st z.1 z.2<|D.lst<|sq.map<|yJ rk rk' z.1 z.2 λp=>d z<|sq.idxOf p) ?_ (jU (Ks<|aO rfl<|bD3 M s k (K z Cb) R (d z)<|n z) rfl) e⟩
   show Jf [7,8,9] (gw _ _ _ _ _) _=_;unfold gw;rw[aZ8 M s k];rfl
 obtain⟨A,y,x,e⟩:=o R' none none none B;have J:Th (.lst []) (.lst [])=.ok (.bl false):=X2 [];refine cI rfl<|aJ (bI<|aO rfl W)<|aJ (jU (dR (Tv (p:=false) (q:=false) (Ks (p:=true)<|aF rfl) λ_=>aG I (fQ rfl) J) rfl) rfl)<|aJ (jU (aG H (fQ rfl) J) rfl)<|aJ (jU (aG F (aO rfl L)<|X2 R') rfl)<|aJ (gB (lB rfl) e) rfl
end
theorem EX{C:Ex}{L:Bd}(st:Nat->za)(J:Nat)(c:∀j,j<J->C (st j)=.ok (.bl true)/\L (st j)=.ok (.nx<|st<|j+1))(d:C (st J)=.ok (.bl false)):∀(k a:Nat),k<=J->k<a->iK C L a (st<|J-k)=.ok (.nx<|st J)
 |0,a,_,e=>by
  obtain⟨f,rfl⟩:∃f,a=f+1:=⟨a-1,by lia⟩
  exact zE d
 |k+1,a,h,e=>by
  obtain⟨f,rfl⟩:∃f,a=f+1:=⟨a-1,by lia⟩
  obtain⟨g,b⟩:=c (J-(k+1)) (by lia)
  rw[show J-(k+1)+1=J-k by lia]at b
  exact yE g b<|EX st J c d k f (by lia)<|by lia
theorem bKo{st:za}{k:D}{a vs:dL}(h:f st=.ok d)(e:g st=.ok k)(b:st[i]?=some (some<|.o (.d true a) vs))(c:Rb true k=true)(j:vs.length<1000000):Yc i g f st=.ok (.nx<|st.set i<|some<|.o (.d true<|qP a k)<|qQ a vs k d):=by
 unfold Yc;rw[h,e,b];exact aF ⟨c,Sx<|by lia⟩
def G5{st:za}{ch:Nat}(d:c<=3)(h:f st=.ok (.str [ch]))(b:97<=ch)(a:(ch:Int)<97+c):Lo Tx (eC<|.str [97,98,99]) (aC f aR) st=.ok (.int ((ch-97:Nat):Int)):=by
 show (eC _ st).bind _=_;rw[aU h rfl];show (Fg _).bind _=_;rw[Ű d b a];rfl
def BK(F:Nat->D)(j:Nat):(List.range j).map F++[F j]=(List.range<|j+1).map F:=by rw[List.range_succ,Fh];rfl
section
variable{S:bv}{rk:ac}{c:Nat}
def Ap(S:bv)(rk b t:ac)(q:Nat)(d c x5 a:li):za:=[some<|.v<|uf S rk,some<|.v<|qg (b,t),some<|.v<|.int q,d,c,x5,a,some<|.v<|.lst<|Sb S,some<|.v<|.lst<|ja rk,some<|.v<|.str b,some<|.v<|.str t,none]
theorem J5(M:Nb S rk c){b t:ac}:∀(x:ac)(q:Nat)(l:li),q<S.length->af c x->Cc (dc S) q x<S.length/\∃a,Tb (jb 3) xY (x.map λch=>D.str [ch]) (Ap S rk b t q l none none none)=.ok (.nx<|Ap S rk b t (Cc (dc S) q x) a none none none)
 |[],q,l,d,_=>⟨d,l,rfl⟩
 |ch::x,q,l,d,f=>by
  obtain⟨h,g⟩:=f ch Cb;obtain⟨r,e1,e2,k⟩:=YK M.w d h g;obtain⟨j,a,e⟩:=J5 M (b:=b) (t:=t) x (dc S q<|ch-97) (D.str [ch]) k λz i=>f z<|Kb _ i
  exact⟨j,a,fU rfl (bI<|aG (aG rfl rfl<|eX e1) (G5 M.c3 rfl h g)<|eX e2) e⟩
def JF(rk:ac)(W:wS)(n:Nat):Int:=so<|(List.range n).map λj=>(rk.getD (W j) 0:Int)
theorem K5(M:Nb S rk c){b t:ac} (Y:q<S.length) (T:af c b) (U:af c t) (L:1<=t.length) (tl:t.length<=6000) (bl:b.length<=10000) (F:Cc (dc S) (Cc (dc S) q b) t=Cc (dc S) q b) :
  iQ [uf S rk,qg (b,t),.int q]=.ok (.int<|JF rk (λj=>Cc (dc S) (Cc (dc S) q b)<|t.take j) t.length%2):=by
 obtain⟨I,o,E⟩:=J5 M (b:=b) (t:=t) b q none Y T;generalize Cc (dc S) q b=q0 at F I E;obtain⟨W,p⟩:∃W:wS,∀j,W j=Cc (dc S) q0 (t.take j):=⟨_,λ_=>rfl⟩
 rw[show (λj=>Cc (dc S) q0<|t.take j)=W from funext λj=>(p j).symm]
 have v:W 0=q0:=by rw[p];rfl
 have J:W t.length=q0:=by rw[p,QP,F]
 have u:∀j (h:j<t.length),97<=t[j]/\(t[j]:Int)<97+c:=λj h=>U _<|Rh h
 have y:∀j (h:j<t.length),W (j+1)=dc S (W j) (t[j] - 97):=λj h=>by
  obtain⟨w,_⟩:=u j h;rw[p,p,KP,Zc h,Option.toList_some];have:=vI (δ:=dc S) (t.take j) q0<|t[j] - 97
  rwa [show 97+(t[j] - 97)=t[j] by lia]at this
 have A:∀j,j<=t.length->W j<S.length:=by
  intro j
  induction j with
  |zero=>intro _;rw[v];exact I
  |succ j X=>
   intro h;rw[y j h];obtain⟨_,_,_,C⟩:=YK M.w (X<|by lia) (u j h).1 (u j h).2
   exact C
 let K (j:Nat):D:=.tup [.int (W j:Nat),.int (j:Nat)]
 have hK:∀i j,lg (K i) (K j)=true->i=j:=λi j h=>by
  have:(((W i:Int)==W j)&&(((i:Int)==j)&&true))=true:=h;rw[Bool.and_true,Ho,Io,Io]at this;lia
 let f (j:Nat):dL:=(List.range j).map K
 let g (j:Nat):dL:=(List.range j).map λk=>D.int (k:Nat)
 let a (j:Nat):dL:=(List.range j).map λk=>D.int (W k:Nat)
 have fI:∀j,(g j).length=j:=λj=>by simp[g]
 have x:∀j,(a j).length=j:=λj=>by simp[a]
 have O:∀j,j<t.length->j%t.length=j:=λj h=>Nat.mod_eq_of_lt h
 let st (j:Nat):za:=Ap S rk b t (W j) o (some<|.o (.d true<|f j)<|g j) (some<|.o .l<|a j) ((j%t.length:Nat):Int)
 have no:∀j,jQ (f j) (K j)=false:=λj=>by
  unfold jQ;rw[Tt,RG];intro i hi e;exact Gh _<|hK i j e ▸ Vi.mp hi
 have H:t.length<=big:=gJ (by lia)
 have VH:∀j,j<t.length->yC (st j)=.ok (.bl true)/\xZ (st j)=.ok (.nx<|st<|j+1):=λj m=>by
  have N:st j=Ap S rk b t (W j) o (some<|.o (.d true<|f j)<|g j) (some<|.o .l<|a j) (j:Nat):=by show Ap _ _ _ _ _ _ _ _ _=_;rw[O j m]
  rw[N];refine⟨aG (jE rfl) rfl<|(aF rfl).trans ?_,?_⟩
  .show R.ok (D.bl<|!jQ (f j) (K j))=_;rw[no j];rfl
  have Q:qP (f j) (K j)=f (j+1):=by
   unfold qP;rw[Ea (by rw[no j];decide)]
   exact BK K j
  have P:qQ (f j) (g j) (K j) (.int (j:Nat))=g (j+1):=by
   unfold qQ;rw[Ea (by rw[no j];decide)]
   exact BK (λk=>D.int (k:Nat)) j
  obtain⟨w,G⟩:=u j m;obtain⟨r,e1,e2,C⟩:=YK M.w (A j<|by lia) w G
  rw[<-y j m]at e2;have Lk:Ee t (j:Int)=some t[j]:=fc m;refine aJ (bKo (show R.ok (D.int ((a j).length:Nat))=_ by rw[x]) (jE rfl) rfl rfl<|by rw[fI];lia) ?_
  rw[show D.tup [.int (W j:Nat),.int (j:Nat)]=K j from rfl,Q,P]
  refine aJ (yD rfl rfl<|by rw[x];lia) ?_
  rw[show a j++[.int (W j:Nat)]=a (j+1) from BK (λk=>D.int (W k:Nat)) j]
  refine aJ (bI<|aG (aG rfl rfl<|eX e1) (G5 M.c3 (aG rfl rfl<|(aF H).trans<|by rw[Lk];rfl) w G)<|eX e2)<|(bI<|aG (aG rfl rfl rfl) (show fZ (.str t)=_ from aF H) ?_).trans rfl
  rw[show (((j+1)%t.length:Nat):Int)=((j:Int)+1)%(t.length:Int) from rfl]
  exact iC (by lia)
 have z:st t.length=Ap S rk b t (W 0) o (some<|.o (.d true<|f t.length)<|g t.length) (some<|.o .l<|a t.length) ((0:Nat):Int):=by show Ap _ _ _ _ _ _ _ _ _=_;rw[Nat.mod_self,J,v]
 have V:jQ (f t.length) (K 0)=true:=by
  unfold jQ;rw[Tt,jz];exact⟨0,Vi.mpr L,by show (((W 0:Int)==W 0)&&(((0:Int)==0)&&true))=true;simp⟩
 have gy:mG (f t.length) (g t.length) (K 0)=some (.int ((0:Nat):Int)):=by
  obtain⟨n,Z⟩:∃n,t.length=n+1:=⟨t.length-1,by lia⟩
  unfold mG;show ((List.zip ((List.range t.length).map K)<|(List.range t.length).map λk=>D.int (k:Nat)).find? _).map _=_
  rw[Z,DG,Ue,Ue,Fp,oP (by show (((W 0:Int)==W 0)&&(((0:Int)==0)&&true))=true;simp)]
  rfl
 have B:=EX st t.length VH (by
  rw[z];exact aG (jE rfl) rfl<|(aF rfl).trans<|by show R.ok (D.bl<|!jQ (f t.length) (K 0))=_;rw[V];rfl) t.length 100000 (Ib _) (by lia)
 rw[Nat.sub_self]at B;have mem:∀d∈a t.length,∃j,j<t.length/\d=.int (W j:Nat):=λd hd=>by
  obtain⟨j,m,rfl⟩:=ze.mp hd;exact⟨j,Vi.mp m,rfl⟩
 have s:bH [11] (jb 11) (cc<|mn (cW 5) (xJ<|e2 La (cW 4)<|nA<|aC (aA 2)<|aC (aA 6) aR) xH) bK rE (st t.length)=.ok (.lst<|(List.range t.length).map λj=>D.int (rk.getD (W j) 0:Nat)):=by
  rw[z];refine jV (xs:=a t.length) (lB ?_) (by rw[x];lia) ?_
  .have:e2 La (cW 4) (nA<|aC (aA 2)<|aC (aA 6) aR) (Ap S rk b t (W 0) o (some<|.o (.d true<|f t.length)<|g t.length) (some<|.o .l<|a t.length) ((0:Nat):Int))=.ok (.int ((0:Nat):Int)):=aG rfl (jE rfl) ((aF rfl).trans<|by show Fg (mG (f t.length) (g t.length)<|K 0)=_;rw[gy];rfl)
   show R.bind (R.bind (e2 La (cW 4) (nA<|aC (aA 2)<|aC (aA 6) aR) _) _) (λl=>R.ok<|D.lst<|cut (a t.length) l none)=_
   rw[this];show R.ok (D.lst<|cut (a t.length) (some ((0:Nat):Int)) none)=_;rw[i5 _ _<|Gf _];rfl
  exact Uv (C:=bK) (E:=rE) (j:=11) (q:=λ_=>true) (λj=>D.int (W j:Nat)) (λj=>D.int (rk.getD (W j) 0:Nat)) (List.range t.length) (λj m=>⟨rfl,λ_=>aG rfl rfl<|eX<|nR<|by rw[M.Ri];exact A j (by have:=Vi.mp m;lia)⟩) |>.trans (by rw[MG.mpr λ_ _=>rfl])
 refine cI rfl<|aJ (nE rfl rfl)<|aJ (nE rfl rfl)<|aJ (gB (aF<|gJ<|show b.length<=10000000 by lia) E)<|aJ rfl<|aJ (oK<|fQ rfl)<|aJ (bI rfl)<|aJ (st':=st t.length) (by
  rw[<-B];show _=iK _ _ _ (Ap S rk b t (W 0) o (some<|.o (.d true []) []) (some<|.o .l []) ((0%t.length:Nat):Int));rw[v,Nat.zero_mod];rfl)<|dX<|aG (x:=.int<|JF rk W t.length) ?_ rfl<|iC<|by decide
 rw[Qv,s,aZ];unfold JF;show (wD _).bind _=_;rw[show ((List.range t.length).map λj=>D.int (rk.getD (W j) 0:Nat))=((List.range t.length).map λj=>(rk.getD (W j) 0:Int)).map D.int by rw[vg];rfl,qL]
 exact aF (by simp;lia)
end
section
variable {l r:Nat}
theorem zJ:∀(w:ac)(p:wn),Cc (gd S T) p w=(Cc (dc S) p.1 w,Cc (dc T) p.2 w)
 |[],_=>rfl
 |_::w,p=>zJ w _
theorem CL:∀(t:ac)(p:wn),Hk S T p t=(List.range t.length).map λj=>Cc (gd S T) p (t.take j)
 |[],_=>rfl
 |a::t,p=>by
  rw[dg,DG,Ue,vg];show p::Hk S T (gd S T p<|a-97) t=_;rw[CL t];rfl
theorem L5(f:Da){l:f8}(h:l≠[]):so (l.map λx=>(f x:Int))=(Td f l 0:Nat):=by
 obtain⟨_,i,a⟩:=AK f l 0;obtain⟨c,b⟩:=Z1 (l:=l.map λx=>(f x:Int)) (by simpa using h)
 obtain⟨x,g,e⟩:=ze.mp c;have:=i x g;rcases a with a|⟨y,d,a⟩
 .lia
 have:=b _<|ze.mpr ⟨y,d,rfl⟩;lia
theorem plain2(M:Nb S rk c)(o:Nb T rk' c)(n:l<S.length)(m:r<T.length){x:Tl}(k:af c x.1)(p:x.1.length<=100)(h:x.2.length<=6000)(d:WP S T rk rk' ws c (Cc (gd S T) (l,r) x.1) x.2) :
  ∃a b:Int,iQ [uf S rk,qg x,.int l]=.ok (.int<|a%2)/\iQ [uf T rk',qg x,.int r]=.ok (.int<|b%2)/\wI ws a b=true:=by
 have g:1<=x.2.length:=List.length_pos_iff.mpr d.ne;have i:Hk S T (Cc (gd S T) (l,r) x.1) x.2≠[]:=by
  rw[CL];simp;exact d.ne
 have f:=d.cl;rw[zJ x.2,zJ x.1]at f;have e:=d.wt;rw[<-L5 (λx=>rk.getD x.1 0) i,<-L5 (λx=>rk'.getD x.2 0) i,CL,vg,vg]at e
 refine⟨_,_,K5 M n k d.lt g h (by lia)<|congrArg Prod.fst f,K5 o m k d.lt g h (by lia)<|congrArg Prod.snd f,?_⟩
 unfold JF;rw[zJ x.1]at e;have e1:((λx:Nat×Nat=>(rk.getD x.1 0:Int)) ∘ λj=>Cc (gd S T) (Cc (dc S) l x.1,Cc (dc T) r x.1)<|x.2.take j)=λj=>(rk.getD (Cc (dc S) (Cc (dc S) l x.1)<|x.2.take j) 0:Int):=funext λj=>by
  show (rk.getD (Cc (gd S T) _ _).1 0:Int)=_;rw[zJ]
 have e2:((λx:Nat×Nat=>(rk'.getD x.2 0:Int)) ∘ λj=>Cc (gd S T) (Cc (dc S) l x.1,Cc (dc T) r x.1)<|x.2.take j)=λj=>(rk'.getD (Cc (dc T) (Cc (dc T) r x.1)<|x.2.take j) 0:Int):=funext λj=>by
  show (rk'.getD (Cc (gd S T) _ _).2 0:Int)=_;rw[zJ]
 rw[<-e1,<-e2];exact e
def ò{w:D}(h:jT [mD S rk c,mD T rk' c,w,.int l,.int r]=.exc (.Ag "NoPaper" [] [])):mL [mD S rk c,mD T rk' c,w,.int l,.int r]=.ok (.bl true):=by
 refine cI rfl<|aJ (bI rfl)<|aJ (st':=[some<|.v<|mD S rk c,some<|.v<|mD T rk' c,some<|.v w,some<|.v<|.int l,some<|.v<|.int r,some<|.v<|.bl true,none]) ?_ rfl;have e:Kq (fE jT<|aC (aA 0)<|aC (aA 1)<|aC (aA 2)<|aC (aA 3)<|aC (aA 4) aR) [some<|.v<|mD S rk c,some<|.v<|mD T rk' c,some<|.v w,some<|.v<|.int l,some<|.v<|.int r,some<|.v<|.bl false,none]=.exc (.Ag "NoPaper" [] []):=by
  show (jT [mD S rk c,mD T rk' c,w,.int l,.int r]).bind _=_;rw[h];rfl
 show Cy _ _ [some<|.v<|mD S rk c,some<|.v<|mD T rk' c,some<|.v w,some<|.v<|.int l,some<|.v<|.int r,some<|.v<|.bl false,none]=_;unfold Cy;rw[e];rfl
theorem ó(M:Nb S rk c)(j:Nb T rk' c)(k:S.length<=7)(i:l<S.length)(h:r<T.length)(n:ws.length=4):mO [uf S rk,uf T rk',mD S rk c,mD T rk' c,.tup<|ws.map D.bl,.int l,.int r]=.ok (.bl true):=by
 have q:Wd (.tup<|ws.map D.bl) ws:=⟨n,.inl rfl⟩;obtain⟨d,C,v⟩:=LD M j k i h q;obtain⟨E,F,w,u⟩:=ñ M j k i h q;refine cI rfl<|aJ (bI<|aO rfl C) ?_;rcases v with ⟨rfl,g⟩|⟨x,rfl,s,p,z,y,_⟩
 .rcases u with ⟨⟨f,t,B,A⟩,_⟩|⟨_,nb,o,e⟩
  .exact(g f t B A).elim
  refine tM<|tQ (aG rfl rfl rfl)<|dX<|aO (aU rfl<|aU rfl<|aU rfl<|aU rfl<|aU rfl<|aU (aO rfl<|HE o) rfl)<|aZ9 M j k i h n w g nb e
 rcases u with ⟨_,o⟩|⟨g,_⟩
 .obtain⟨a,b,e1,e2,m⟩:=plain2 M j i h s z y p;refine aJ (jU (aG rfl rfl rfl) rfl) (aJ (jU (Ks (p:=true)<|aG rfl (aG (aG rfl (aO rfl e1)<|aF<|by lia) (aO rfl e2) rfl) ?_) rfl)<|dX<|aO rfl<|ò o)
  have:=W7 n a b;rw[m]at this;exact this
 exact(g _ _ s p).elim
def aZe(h:Told S T rk rk' ws c l r d)(f:Told S T rk rk' ws c l r d'):d=d':=by
 rcases h with ⟨rfl,n⟩|⟨x,rfl,i,g,_,_,k⟩
 .rcases f with ⟨rfl,_⟩|⟨y,rfl,b,a,_⟩
  .rfl
  exact(n _ _ b a).elim
 rcases f with ⟨rfl,n⟩|⟨y,rfl,b,a,_,_,j⟩
 .exact(n _ _ i g).elim
 rcases K2 x y with e|e|e
 .exact(j x i g e).elim
 .rw[e]
 exact(k y b a e).elim
def bD5(h:Told S T rk rk' ws c l r d):Th d d=.ok (.bl false):=by
 rcases h with ⟨rfl,_⟩|⟨x,rfl,_⟩
 .exact aF ⟨by simp[Fe],by simp,by simp⟩
 refine(aF ⟨by simp[qg,Fe],by simp[qg],by simp[qg]⟩).trans ?_
 simp[qg]
def bD6(h:Told S T rk rk' ws c l r d):∃b:Bool,kn d .Hb=.ok (.bl b)/\(b=true↔∀f t,af c f->¬ WP S T rk rk' ws c (Cc (gd S T) (l,r) f) t):=by
 rcases h with ⟨rfl,n⟩|⟨x,rfl,e,a,_⟩
 .exact⟨true,rfl,λ_=>n,λ_=>rfl⟩
 exact⟨false,rfl,(λz=>nomatch z),λn=>(n _ _ e a).elim⟩
theorem Y2(M:Nb S rk c)(h:Nb T rk' c)(k:S.length<=7)(s:l<S.length)(n:r<T.length){w:D}(m:Wd w ws)
  (o:∀{e d:D},dD [mD S rk c,mD T rk' c,.int l,.int r]=.ok e->dF [e,w]=.ok d->∀{b},Od d (.lst [])=.ok b->p [mD S rk c,mD T rk' c,.int l,.int r]=.ok b) (i:Told S T rk rk' ws c l r d) :
  ∃b:Bool,p [mD S rk c,mD T rk' c,.int l,.int r]=.ok (.bl b)/\kn d .Hb=.ok (.bl b):=by
 obtain⟨y,A,u,j⟩:=nK M h k s n;obtain⟨f,v,q⟩:=OY M h j m;obtain⟨b,e1,e2⟩:=bD6 i;have e:Od (.lst<|ja f) (.lst [])=.ok (.bl<|decide (f=[])):=by
  have:=O2 f;cases f with
  |nil=>exact aF ⟨by simp[Fe,ja],by simp[ja],by simp⟩
  |cons a f=>
   obtain⟨t,z⟩:bZ (ja<|a::f)=true/\gU (ja<|a::f)<=0:=by
    generalize a::f=L
    induction L with
    |nil=>exact⟨rfl,Ib _⟩
    |cons x L g=>
     show bZ (.int x::ja L)=true/\gU (.int x::ja L)<=0;rw[oW,lU,g.1];exact⟨rfl,Nat.max_le.mpr ⟨Ib _,g.2⟩⟩
   refine(aF ⟨?_,?_,rfl⟩).trans ?_
   .rw[rV];rfl
   .unfold Fe;lia
   unfold plain;exact t
 refine⟨b,?_,e1⟩;rw[o u v e];congr 2;rw[mz,Mg,q,e2]
end
def tV{i j:Int}(h : -1000000<i/\i<1000000\/-1000000<j/\j<1000000):iZ (.int i) (.int j)=.ok (.int<|i*j):=aF (by omega)
def Hy(i j:Int):dH (.int i) (.int j)=.ok (.int<|i+j):=rfl
theorem Mx(a:lw)(i:Int)(g:0<=i):∃v,dJ [.lst<|a.map D.int,.int i]=.ok (.int v):=by
 have len:e1 fZ (aA 0) [D.lst<|a.map D.int,i]=.ok (.int a.length):=by simp
 have c:∀j:Int,0<=j->j<a.length->∃v,La (.lst<|a.map D.int) (.int j)=.ok (.int v):=λj f l=>by
  obtain⟨d,k,e⟩:=Z0 (xs:=a.map D.int) f (by simpa using l)
  obtain⟨v,_,rfl⟩:=ze.mp k;exact⟨v,eX e⟩
 by_cases h:i<a.length
 .obtain⟨v,b⟩:=c i g h;exact⟨v,cI rfl<|tM<|tQ (aG rfl len<|by rw[VJ,Bf h])<|dX<|aG rfl rfl b⟩
 by_cases f:a.length=0
 .refine⟨48271*i+7,cI rfl<|dN (jU (aG rfl len<|by rw[VJ,Ed h]) rfl)<|tM<|tQ (aG len rfl<|by rw[zv,Bf (by lia)])<|dX<|aG (aG rfl rfl<|tV<|.inl<|by lia) rfl rfl⟩
 obtain⟨v,b⟩:=c (i*7%a.length) (qz _<|by lia)<|QG _<|by lia
 refine⟨v+7919*i,cI rfl<|dN (jU (aG rfl len<|by rw[VJ,Ed h]) rfl)<|dN (jU (aG len rfl<|by rw[zv,Ed (by lia)]) rfl)<|dX<|aG (aG rfl (aG (aG rfl rfl<|tV<|.inr<|by lia) len<|iC<|by lia) b) (aG rfl rfl<|tV<|.inl<|by lia) rfl⟩
theorem mU(v k:Int) (d:0<m):∃x:Nat,x<m/\bM [.int v,.int k,.int m]=.ok (.int x):=by
 have a:∀z n:Int,0<n->n<4294967296->-18446744073709551616<z%n/\z%n<18446744073709551616:=λz n c b=>⟨by have:=qz z (show n≠0 by lia);lia,by have:=QG z c;lia⟩
 have:∃z:Int,bM [.int v,.int k,.int m]=.ok (.int<|z%m):=⟨_,cI rfl<|aJ (bI<|aG (aG (aG (aG (aG rfl rfl<|iC<|by lia) (aG rfl rfl<|tV<|.inl<|by lia)<|Hy _ _) rfl<|Hy _ _) rfl<|tV<|.inr<|by lia) rfl<|iC<|by lia)<|aJ (bI<|aG (aG (aG (aG rfl rfl<|aF<|.inl<|a _ _ (by lia)<|by lia) rfl<|iC<|by lia) rfl<|tV<|.inr<|by lia) rfl<|iC<|by lia)<|dX<|aG (aG (aG rfl rfl<|aF<|.inl<|a _ _ (by lia)<|by lia) rfl<|iC<|by lia) rfl<|iC<|by lia⟩
 obtain⟨z,e⟩:=this;have b:=QG z (show (0:Int)<m by lia)
 exact⟨(z%m).toNat,by lia,by rwa [Int.toNat_of_nonneg<|qz z<|(by lia)]⟩
theorem U6{Q:No}:∀(ys:dL),(∀y∈ys,∃n:Nat,y=.int n/\Q n)->∃r:ac,ys=ja r/\∀x∈r,Q x
 |[],_=>⟨[],rfl,λ_ h=>nomatch h⟩
 |y::ys,h=>by
  obtain⟨n,rfl,d⟩:=h y Cb;obtain⟨r,rfl,c⟩:=U6 ys λy a=>h y<|Kb _ a
  exact⟨n::r,rfl,λx b=>(Mb.mp b).elim (λe=>by rwa [e])<|c x⟩
def pB{E:Ex}{st:za} {xs:dL} {Q:No} (h:it st=.ok xs) (f:xs.length<=1000000) (i:∀d∈xs,∃n:Nat,E ((st.set j none).set j d)=.ok (.int n)/\Q n):∃r,bH [j] (jb j) it bK E st=.ok (.lst<|ja r)/\r.length=xs.length/\∀x∈r,Q x:=by
 obtain⟨a,e1,e2,k⟩:=WJ (tg:=jb j) (c:=bK) (P:=λ_ y=>∃n:Nat,y=.int n/\Q n) xs λd g=>let ⟨n,e,q⟩:=i d g;⟨_,_,rfl,rfl,e,n,rfl,q⟩
 obtain⟨r,rfl,c⟩:=U6 a λy b=>let ⟨_,_,h⟩:=k y b;h
 exact⟨r,jV h f e1,by rw[<-e2,bN],c⟩
def CK{E:Ex}{st:za} {xs:dL} (h:it st=.ok xs) (f:xs.length<=1000000) (k:∀d∈xs,∃r,E ((st.set j none).set j d)=.ok (.lst<|ja r)/\r.length=c/\∀x∈r,x<n):∃S,bH [j] (jb j) it bK E st=.ok (.lst<|Sb S)/\S.length=xs.length/\∀r∈S,r.length=c/\∀x∈r,x<n:=by
 obtain⟨a,e1,e2,l⟩:=WJ (tg:=jb j) (c:=bK) (P:=λ_ y=>∃r:ac,y=.lst (ja r)/\r.length=c/\∀x∈r,x<n) xs λd g=>let ⟨r,e,q⟩:=k d g;⟨_,_,rfl,rfl,e,r,rfl,q⟩
 obtain⟨S,rfl,i⟩:=Y0 a c n λy b=>let ⟨_,_,h⟩:=l y b;h
 exact⟨S,jV h f e1,by rw[<-e2,gY],i⟩
def vL{st:za} (h:f st=.ok (.int n)) (a:n<=1000000):∃xs,nD f st=.ok xs/\xs.length=n/\∀d∈xs,∃k:Nat,k<n/\d=.int k:=⟨_,WE h a,by simp,λd b=>by
 obtain⟨k,c,rfl⟩:=ze.mp b;exact⟨k,Vi.mp c,rfl⟩⟩
theorem ĩ(v:Int) (t:0<m) (u:m<=1000) (s:n<=1000):∃r:ac,oG [.int v,.int m,.int n]=.ok (.lst<|ja r)/\r.length=n/\∀x∈r,x<m:=by
 have turn:∀(b:dL)(v:Int)(r:ac)(c:li),r.length+b.length<=1000->(∀x∈r,x<m)->∃f a g,Tb (jb 4) wF b [v,m,n,some<|.o .l<|ja r,c]=.ok (.nx [f,m,n,some<|.o .l<|ja a,g])/\a.length=r.length+b.length/\∀x∈a,x<m:=by
  intro b
  induction b with
  |nil=>exact λv r c _ i=>⟨v,r,c,rfl,rfl,i⟩
  |cons d b l=>
   intro v r c hl i;have w:=QG v (show (0:Int)<m by lia)
   rw[dg]at hl;obtain⟨f,a,g,e,e2,j⟩:=l (v/m) (r++[(v%m).toNat]) d (by rw[Ef,um];lia) λx o=>(ji.mp o).elim (i x) λh=>by rw[Mc.mp h];lia
   refine⟨f,a,g,fU rfl (aJ (yD (aG rfl rfl<|iC<|by lia) rfl<|by rw[bN];lia)<|bI<|aG rfl rfl<|bCr<|by lia) ?_,by rw[e2,Ef,dg];simp;lia,j⟩
   have p:ja (r++[(v%m).toNat])=ja r++[.int<|v%m]:=by
    unfold ja;rw[Fh,List.map_singleton,Int.toNat_of_nonneg<|qz v<|show (m:Int)≠0 by lia]
   rwa [p]at e
 obtain⟨xs,q,k,_⟩:=vL (f:=aA 2) (st:=[v,m,n,some<|.o .l<|ja [],none]) rfl (by lia)
 obtain⟨f,a,g,e,e2,j⟩:=turn xs v [] none (by simp;lia) (λ_ h=>nomatch h)
 refine⟨a,cI rfl<|aJ (oK<|fQ rfl)<|aJ (gB q e) ?_,by rw[e2,k];simp,j⟩
 simp
theorem M5(q:lw){s i:Nat}(h1:1<=i)(h8:i<=8)(c1:1<=c)(c3:c<=3):∃S rk,qU [.lst<|q.map D.int,.int s,.int i,.int c]=.ok (.lst [.lst<|Sb S,.lst<|ja rk])/\Nb S rk c/\S.length<=i:=by
 obtain⟨v,V⟩:=Mx q s (by lia)
 obtain⟨x,hx,ex⟩:=mU v 1 (m:=i) (by lia)
 obtain⟨n,en⟩:∃n,n=1+x:=⟨_,rfl⟩;have R:∀k:Nat,∃u,dJ [.lst<|q.map D.int,.int<|(s:Int)+1+(k:Int)]=.ok (.int u):=λk=>Mx q _ (by lia)
 let st (a f:li):za:=[D.lst<|q.map D.int,s,i,c,v,n,a,f,none,none,none]
 have o:∀a f,∃S,bH [8] (jb 8) (nD<|aA 5) bK vC (st a f)=.ok (.lst<|Sb S)/\S.length=n/\∀r∈S,r.length=c/\∀y∈r,y<n:=λa f=>by
  obtain⟨xs,C,w,t⟩:=vL (f:=aA 5) (st:=st a f) (n:=n) rfl (by lia)
  obtain⟨S,e,l,h⟩:=CK (E:=vC) (j:=8) (c:=c) (n:=n) C (by lia) λd g=>by
   obtain⟨k,F,rfl⟩:=t d g;obtain⟨ys,e1,l1,m1⟩:=vL (f:=aA 3) (st:=((st a f).set 8 none).set 8 k) (n:=c) rfl (by lia)
   obtain⟨u,A⟩:=R k;obtain⟨r,e2,K,O⟩:=pB (E:=YU) (j:=9) e1 (by lia) λd g=>by
    obtain⟨j,hj,rfl⟩:=m1 d g;obtain⟨y,M,B⟩:=mU u j (m:=n) (by lia)
    exact⟨y,aO (aU (aO (aU rfl<|aU (aG (aG rfl rfl rfl) rfl rfl) rfl) A) rfl) B,M⟩
   exact⟨r,e2,by rw[K,l1],O⟩
  exact⟨S,e,by rw[l,w],h⟩
 have IB:∀a f,∃S,bH [8] (jb 8) (nD<|aA 5) bK pW (st a f)=.ok (.lst<|Sb S)/\S.length=n/\∀r∈S,r.length=c/\∀y∈r,y<n:=λa f=>by
  obtain⟨xs,C,w,t⟩:=vL (f:=aA 5) (st:=st a f) (n:=n) rfl (by lia)
  obtain⟨S,e,l,h⟩:=CK (E:=pW) (j:=8) C (by lia) λd g=>by
   obtain⟨k,F,rfl⟩:=t d g;obtain⟨u,A⟩:=R k;obtain⟨r,e2,K,O⟩:=ĩ u (m:=n) (n:=c) (by lia) (by lia) (by lia)
   exact⟨r,aO (aU (aO (aU rfl<|aU (aG (aG rfl rfl rfl) rfl rfl) rfl) A) rfl) e2,K,O⟩
  exact⟨S,e,by rw[l,w],h⟩
 have Ri:∀a f,∃rk,bH [8] (jb 8) (nD<|aA 5) bK vD (st a f)=.ok (.lst<|ja rk)/\rk.length=n:=λa f=>by
  obtain⟨xs,C,w,t⟩:=vL (f:=aA 5) (st:=st a f) rfl (by lia)
  obtain⟨y,M,B⟩:=mU v 2 (m:=4) (by lia)
  obtain⟨r,e,l,_⟩:=pB (E:=vD) (j:=8) C (by lia) λd g=>by
   obtain⟨k,F,rfl⟩:=t d g;obtain⟨u,A⟩:=R k;obtain⟨z,U,ez⟩:=mU u 5 (m:=2+y) (by lia)
   refine⟨z,aO (aU (aO (aU rfl<|aU (aG (aG rfl rfl rfl) rfl rfl) rfl) A)<|aU rfl<|aU (aG rfl (aO rfl B)<|Hy _ _) rfl) ?_,True.intro⟩
   rwa [show (2:Int)+(y:Int)=((2+y:Nat):Int) by lia]
  exact⟨r,e,by rw[l,w]⟩
 have Z:∀(a:li)(rk:ac),rk.length=n->∃p,bH [10] (jb 10) (cc<|aA 7) bK pX (st a<|D.lst<|ja rk)=.ok (.lst<|ja p)/\p.length=n:=λa rk F=>by
  obtain⟨r,e,l,_⟩:=pB (E:=pX) (j:=10) (Q:=λ_=>True) (it:=cc<|aA 7) (st:=st a<|D.lst<|ja rk) (lB rfl) (by rw[bN];lia) λd g=>by
   obtain⟨y,M,rfl⟩:=pA g;obtain⟨z,U⟩:=Int.eq_ofNat_of_zero_le<|qz v<|show (10^29:Int)≠0 by decide
   have L:(y:Int)+v%10^29*2=((y+z*2:Nat):Int):=by rw[U];lia
   refine⟨y+z*2,?_,True.intro⟩;rw[<-L];exact aG rfl (aG (aG (aO rfl V) (aG rfl rfl<|aF<|by decide)<|iC<|by decide) rfl<|tV<|.inr<|by lia) rfl
  exact⟨r,e,by rw[l,bN,F]⟩
 have X:∀(a f:li)(k m:Nat),0<m->∃b,e2 Od (aV bM<|aC (aA 4)<|aC (eC<|.int k)<|aC (eC<|.int m) aR) (eI 0) (st a f)=.ok (.bl b):=λa f k m hm=>by
  obtain⟨y,_,B⟩:=mU v k hm;exact⟨_,aG (aO rfl B) rfl<|zv _ _⟩
 obtain⟨G,j9,I,N⟩:=o none none;obtain⟨S2,P,H,Y⟩:=IB (D.lst<|Sb G) none;have hS:∃S,Oc (e2 Od (aV bM<|aC (aA 4)<|aC (eI 4)<|aC (eI 2) aR)<|eI 0) (cO 6<|bH [8] (jb 8) (nD<|aA 5) bK pW) cJ (st (D.lst<|Sb G) none)=.ok (.nx<|st (D.lst<|Sb S) none)/\S.length=n/\∀r∈S,r.length=c/\∀y∈r,y<n:=by
  obtain⟨b,Td⟩:=X (D.lst<|Sb G) none 4 2 (by lia)
  cases b with
  |true=>exact⟨S2,tQ Td<|bI P,H,Y⟩
  |false=>exact⟨G,jU Td rfl,I,N⟩
 obtain⟨S,e3,T,hs⟩:=hS;obtain⟨E,Q,W⟩:=Ri (D.lst<|Sb S) none;obtain⟨k2,Ih,J⟩:=Z (D.lst<|Sb S) E W;have hK:∃rk,Oc (e2 Od (aV bM<|aC (aA 4)<|aC (eI 3)<|aC (eI 8) aR)<|eI 0) (cO 7<|bH [10] (jb 10) (cc<|aA 7) bK pX) cJ (st (D.lst<|Sb S)<|D.lst<|ja E)=.ok (.nx<|st (D.lst<|Sb S)<|D.lst<|ja rk)/\rk.length=n:=by
  obtain⟨b,Td⟩:=X (D.lst<|Sb S) (D.lst<|ja E) 3 8 (by lia)
  cases b with
  |true=>exact⟨k2,tQ Td<|bI Ih,J⟩
  |false=>exact⟨E,jU Td rfl,W⟩
 obtain⟨rk,e5,lk⟩:=hK;refine⟨S,rk,cI rfl ?_,⟨by lia,by lia,c1,c3,λr hr=>by rw[T];exact hs r hr,by rw[lk,T]⟩,by lia⟩
 unfold FV;refine aJ (bI<|aO rfl V)<|aJ ?_<|aJ (bI j9)<|aJ e3<|aJ (bI Q)<|aJ e5<|dX<|fQ rfl;rw[bI (d:=.int n)<|aG rfl (aO rfl ex)<|by rw[Hy,en];congr 2]
 rfl
theorem Z2{xs:List α}{i:Int}(c : -(xs.length:Int)<=i)(b:i<xs.length):∃a∈xs,Ee xs i=some a:=by
 by_cases h:0<=i
 .exact Z0 h b
 unfold Ee Yj;rw[Ea h,Qa c];exact⟨xs[(i+xs.length).toNat]'(by lia),Rh _,Zc _⟩
def NO{ys:dL}(h:xs.length+ys.length<=1000):dH (.lst xs) (.lst ys)=.ok (.lst<|xs++ys):=aF<|gJ<|Yg h<|by decide
section
variable{S:bv}{rk:ac}{c:Nat}
def wg(v:Int)(S:bv)(rk:ac)(w:Nat)(x5 a x7 x8:li):za:=[some<|.v<|.int v,some<|.v<|.lst<|Sb S,some<|.v<|.lst<|ja rk,some<|.v<|.int (S.length:Nat),some<|.v<|.int w,x5,a,x7,x8,none,none]
theorem DL{E:Ex}(k:Nat)(c:∀(st:za)(y:Nat),st[9]?=some (some<|.v<|.int y)->E st=.ok (.int ((y+k:Nat):Int)))(h:rk.length<=1000){st:za}(a:9<st.length)(f:st[2]?=some (some<|.v<|.lst<|ja rk)):∃rk',bH [9] (jb 9) (cc<|aA 2) bK E st=.ok (.lst<|ja rk')/\rk'.length=rk.length:=by
 obtain⟨r,e,l,_⟩:=pB (j:=9) (Q:=λ_=>True) (it:=cc<|aA 2) (lB<|by rw[pR,f]) (by rw[bN];lia) λd b=>by
  obtain⟨y,g,rfl⟩:=pA b;exact⟨y+k,c _ y (by simp[a]),True.intro⟩
 exact⟨r,e,by rw[l,bN]⟩
def LN{st:za}{y:Nat}(k:Nat)(h:st[9]?=some (some<|.v<|.int y)):e2 dH (aA 9) (eC<|.int k) st=.ok (.int ((y+k:Nat):Int)):=aG (by rw[pR,h]) rfl rfl
theorem SY(M:Nb S rk c)(v:Int)(w:Nat){x5 x8:li}:∀(a:dL) (R:bv) (x7:li),R.length+a.length<=1000->(∀d∈a,∃k:Nat,d=.int k)->(∀r∈R,r.length=c/\∀x∈r,x<2*S.length)->
  ∃R' b,Tb (jb 7) lE a (wg v S rk w x5 (some<|.o .l<|Sb R) x7 x8)=.ok (.nx<|wg v S rk w x5 (some<|.o .l<|Sb R') b x8)/\R'.length=R.length+a.length/\∀r∈R',r.length=c/\∀x∈r,x<2*S.length
 |[],R,x7,_,_,i=>⟨R,x7,rfl,rfl,i⟩
 |d::a,R,x7,hl,m,i=>by
  obtain⟨k,rfl⟩:=m d Cb;have D:=M.one;have l:k%S.length<S.length:=mod_lt _ (by lia)
  have j:=M.row _<|Rh l;rw[dg]at hl;have p:e2 La (aA 1) (e2 kO (aA 7)<|aA 3) (wg v S rk w x5 (some<|.o .l<|Sb R) k x8)=.ok (.lst<|ja S[k%S.length]):=aG rfl (aG rfl rfl<|iC<|by lia)<|eX<|by exact tR l
  obtain⟨r,e,n,s⟩:=pB (E:=wG) (j:=10) (Q:=λx=>x<2*S.length) (lB p) (by rw[bN,j.1];have:=M.c3;lia) λd f=>by
   obtain⟨g,u,rfl⟩:=pA f;have E:=j.2 g u;obtain⟨y,B,A⟩:=mU v (3+5*k+g) (m:=2) (by lia)
   refine⟨g+S.length*y,?_,(by
    have:y=0\/y=1:=by lia
    rcases this with rfl|rfl<;>lia)⟩
   have C:=M.most;exact aG rfl (aG rfl (aO (aU rfl<|aU (aG (aG rfl (aG rfl rfl<|tV<|.inl<|by lia) rfl) rfl rfl) rfl) A)<|tV<|.inl<|by lia) rfl
  obtain⟨R',b,e2,o,z⟩:=SY M v w a (R++[r]) k (by rw[Ef,um];lia) (λd f=>m d<|Kb _ f) λq t=>(ji.mp t).elim (i q) λh=>by rw[Mc.mp h];exact⟨by rw[n,bN,j.1],s⟩
  refine⟨R',b,fU rfl (yD e rfl<|by rw[gY];lia) ?_,by rw[o,Ef,dg];simp;lia,z⟩
  rwa [show Sb (R++[r])=Sb R++[.lst<|ja r] by unfold Sb;rw[Fh];rfl]at e2
def Nb.with(M:Nb S rk c) (h:rk'.length=rk.length):Nb S rk' c:=⟨M.one,M.most,M.c1,M.c3,M.row,h.trans M.Ri⟩
theorem Ī(M:Nb S rk c)(v:Int):∃J rk',jC [.int v,.lst<|Sb S,.lst<|ja rk]=.ok (uf J rk')/\Nb J rk' c:=by
 have h1:=M.one;have h8:=M.most;have U:=M.Ri;obtain⟨w,hw,X⟩:=mU v 1 (m:=5) (by lia)
 have t:∀k:Int,e2 Od (aA 4) (eC<|.int k) (wg v S rk w none none none none)=.ok (.bl<|decide ((w:Int)=k)):=λk=>aG rfl rfl<|zv _ _
 have j:∀{d:D},aY (Oc (e2 Od (aA 4)<|eI 0) (cL<|gK<|aC (aA 1)<|aC (bH [9] (jb 9) (cc<|aA 2) bK lD) aR) cJ) (aY (Oc (e2 Od (aA 4)<|eI 1) (aY (cO 5<|aV bM<|aC (aA 0)<|aC (eI 2)<|aC (aA 3) aR)<|cL<|gK<|aC (aA 1)<|aC (e2 dH (e2 dH (mn (aA 2) xH<|xJ<|aA 5)<|gK<|aC (e2 dH (e2 La (aA 2)<|aA 5)<|eI 1) aR)<|mn (aA 2) (xJ<|e2 dH (aA 5)<|eI 1) xH) aR) cJ)<|aY (Oc (qR (e2 Od (aA 4)<|eI 2)<|e2 Il (aA 3)<|eI 4) (aY (qT 6<|gK aR)<|aY (nG (jb 7) (nD<|e2 iZ (eI 2)<|aA 3) lE)<|ik [6]<|cL<|gK<|aC (aA 6)<|aC (e2 dH (aA 2)<|bH [9] (jb 9) (cc<|aA 2) bK gF) aR) cJ)<|aY (Oc (e2 Od (aA 4)<|eI 3) (aY (cO 8<|bH [7] (jb 7) (nD<|aA 3) bK pH)<|cL<|gK<|aC (aA 8)<|aC (bH [7] (jb 7) (nD<|aA 3) bK pI) aR) cJ)<|cL<|gK<|aC (aA 1)<|aC (bH [9] (jb 9) (cc<|aA 2) bK wJ) aR) (wg v S rk w none none none none)=.ok (.rt d)->jC [.int v,.lst<|Sb S,.lst<|ja rk]=.ok d:=λ{d} h=>by
  refine cI rfl<|aJ (bI (d:=.int (S.length:Nat))<|by simp[gY])<|aJ (bI<|aO rfl X) h
 by_cases N:w=0
 .obtain⟨r,e,l⟩:=DL (E:=lD) 2 (λst y h=>LN 2 h) (by lia) (st:=wg v S rk w none none none none) (by simp[wg]) rfl
  exact⟨S,r,j<|tM<|tQ (dR (t 0)<|by rw[N];rfl)<|dX<|fQ<|aU rfl<|aU e rfl,M.with l⟩
 have m:Oc (e2 Od (aA 4)<|eI 0) (cL<|gK<|aC (aA 1)<|aC (bH [9] (jb 9) (cc<|aA 2) bK lD) aR) cJ (wg v S rk w none none none none)=.ok (.nx<|wg v S rk w none none none none):=jU (dR (t 0)<|Ed<|by lia) rfl
 by_cases L:w=1
 .obtain⟨a,ha,Y⟩:=mU v 2 (m:=S.length) (by lia)
  have V:a<rk.length:=by lia
  refine⟨S,rk.take a++[rk[a]+1]++rk.drop (a+1),j<|dN m<|tM<|tQ (dR (t 1)<|by rw[L];rfl)<|aJ (st':=wg v S rk w a none none none) (bI<|aO rfl Y)<|dX<|fQ<|aU rfl<|aU ?_ rfl,M.with<|by simp;lia⟩
  have s1:mn (aA 2) xH (xJ<|aA 5) (wg v S rk w a none none none)=.ok (.lst<|ja<|rk.take a):=by
   show R.ok (D.lst<|cut (ja rk) none<|some (a:Int))=_;rw[bH5];unfold ja;rw[List.map_take]
  have P:mn (aA 2) (xJ<|e2 dH (aA 5)<|eI 1) xH (wg v S rk w a none none none)=.ok (.lst<|ja<|rk.drop<|a+1):=by
   show R.ok (D.lst<|cut (ja rk) (some<|(a:Int)+1) none)=_;rw[show (a:Int)+1=((a+1:Nat):Int) by lia,i5 _ _ (by rw[bN];lia)]
   unfold ja;rw[List.map_drop]
  have O:gK (aC (e2 dH (e2 La (aA 2)<|aA 5)<|eI 1) aR) (wg v S rk w a none none none)=.ok (.lst [.int ((rk[a]+1:Nat):Int)]):=fQ<|aU (aG (x:=.int (rk[a]:Nat)) (aG rfl rfl<|eX<|by rw[fc (by rwa [bN])];simp[ja]) rfl rfl) rfl
  rw[(aG (aG s1 O<|NO<|by rw[bN,Bw];simp;lia) P<|NO<|by rw[Ef,bN,bN,Bw,List.length_drop];simp;lia)]
  unfold ja;rw[Fh,Fh];rfl
 have B:Oc (e2 Od (aA 4)<|eI 1) (aY (cO 5<|aV bM<|aC (aA 0)<|aC (eI 2)<|aC (aA 3) aR)<|cL<|gK<|aC (aA 1)<|aC (e2 dH (e2 dH (mn (aA 2) xH<|xJ<|aA 5)<|gK<|aC (e2 dH (e2 La (aA 2)<|aA 5)<|eI 1) aR)<|mn (aA 2) (xJ<|e2 dH (aA 5)<|eI 1) xH) aR) cJ (wg v S rk w none none none none)=.ok (.nx<|wg v S rk w none none none none):=jU (dR (t 1)<|Ed<|by lia) rfl
 have H:qR (e2 Od (aA 4)<|eI 2) (e2 Il (aA 3)<|eI 4) (wg v S rk w none none none none)=.ok (.bl<|decide ((w:Int)=2)&&decide ((S.length:Int)<4)):=Js (t 2) λ_=>aG rfl rfl rfl
 by_cases G:w=2/\S.length<4
 .obtain⟨xs,F,A,p⟩:=vL (f:=e2 iZ (eI 2)<|aA 3) (st:=wg v S rk w none (some<|.o .l<|Sb []) none none) (n:=2*S.length) (aG rfl rfl<|by rw[tV<|.inl<|by lia];rfl) (by lia)
  obtain⟨R,n,e1,s,Br⟩:=SY M v w (x5:=none) (x8:=none) xs [] none (by simp;lia) (λd b=>let ⟨k,_,h⟩:=p d b;⟨k,h⟩) (λ_ h=>nomatch h)
  have i:R.length=2*S.length:=by rw[s,A];simp
  obtain⟨r,e,l⟩:=DL (E:=gF) (rk:=rk) 2 (λst y h=>LN 2 h) (by lia) (st:=wg v S rk w none (D.lst<|Sb R) n none) (by simp[wg]) rfl
  refine⟨R,rk++r,j<|dN m<|dN B<|tM<|tQ (dR H<|by rw[G.1,Bf (show (S.length:Int)<4 by lia)];rfl)<|aJ (oK<|fQ rfl)<|aJ (gB F e1) ?_,⟨by lia,by lia,M.c1,M.c3,λq f=>by rw[i];exact Br q f,by rw[Ef,l,i,U];lia⟩⟩
  have:ik [6] (cL<|gK<|aC (aA 6)<|aC (e2 dH (aA 2)<|bH [9] (jb 9) (cc<|aA 2) bK gF) aR) (wg v S rk w none (some<|.o .l<|Sb R) n none)=cL (gK<|aC (aA 6)<|aC (e2 dH (aA 2)<|bH [9] (jb 9) (cc<|aA 2) bK gF) aR) (wg v S rk w none (D.lst<|Sb R) n none):=rfl;rw[this];exact dX<|fQ<|aU rfl<|aU (by
   rw[aG (x:=.lst<|ja rk) rfl e<|NO<|by rw[bN,bN];lia]
   unfold ja;rw[Fh]) rfl
 have I:Oc (qR (e2 Od (aA 4)<|eI 2)<|e2 Il (aA 3)<|eI 4) (aY (qT 6<|gK aR)<|aY (nG (jb 7) (nD<|e2 iZ (eI 2)<|aA 3) lE)<|ik [6]<|cL<|gK<|aC (aA 6)<|aC (e2 dH (aA 2)<|bH [9] (jb 9) (cc<|aA 2) bK gF) aR) cJ (wg v S rk w none none none none)=.ok (.nx<|wg v S rk w none none none none):=jU (dR H (by
  by_cases z:w=2
  .rw[Ed<|show ¬ (S.length:Int)<4 from λq=>G ⟨z,by lia⟩,oz]
  rw[Ed (show ¬ (w:Int)=2 by lia),Bool.false_and])) rfl
 by_cases K:w=3
 .obtain⟨xs,F,A,p⟩:=vL (f:=aA 3) (st:=wg v S rk w none none none none) (n:=S.length) rfl (by lia)
  obtain⟨R,e1,s,W⟩:=CK (E:=pH) (j:=7) (c:=c) (n:=S.length) F (by lia) λd b=>by
   obtain⟨k,Z,rfl⟩:=p d b;obtain⟨d,b,C⟩:=Z2 (xs:=Sb S) (i:=(k:Int)-1) (by rw[gY];lia) (by rw[gY];lia)
   obtain⟨q,f,rfl⟩:=GD b;obtain⟨r,e,Q,T⟩:=pB (E:=wH) (j:=10) (Q:=λx=>x<S.length) (it:=cc<|e2 La (aA 1)<|e2 Ay (aA 7)<|eI 1) (st:=((wg v S rk w none none none none).set 7 none).set 7 k) (lB<|aG rfl (aG rfl rfl rfl)<|eX C) (by rw[bN,(M.row q f).1];have:=M.c3;lia) λd b=>by
    obtain⟨g,hg,rfl⟩:=pA b;refine⟨(g+1)%S.length,?_,mod_lt _<|by lia⟩
    rw[Int.natCast_emod,Int.natCast_add];exact aG (aG rfl rfl rfl) rfl<|iC<|by lia
   exact⟨r,e,by rw[Q,bN,(M.row q f).1],T⟩
  have i:R.length=S.length:=by rw[s,A]
  obtain⟨ys,E,u,o⟩:=vL (f:=aA 3) (st:=wg v S rk w none none none<|D.lst<|Sb R) rfl (by lia)
  obtain⟨r,e,l,_⟩:=pB (E:=pI) (j:=7) E (by lia) λd b=>by
   obtain⟨k,Z,rfl⟩:=o d b;obtain⟨d,b,C⟩:=Z2 (xs:=ja rk) (i:=(k:Int)-1) (by rw[bN];lia) (by rw[bN];lia)
   obtain⟨y,hy,rfl⟩:=pA b;exact⟨y,aG rfl (aG rfl rfl rfl)<|eX C,True.intro⟩
  exact⟨R,r,j<|dN m<|dN B<|dN I<|tM<|tQ (dR (t 3)<|by rw[K];rfl)<|aJ (bI e1)<|dX<|fQ<|aU rfl<|aU e rfl,⟨by lia,by lia,M.c1,M.c3,λq f=>by rw[i];exact W q f,by rw[l,u,i]⟩⟩
 obtain⟨r,e,l⟩:=DL 1 (λst y h=>LN 1 h) (by lia) (st:=wg v S rk w none none none none) (by simp[wg]) rfl
 exact⟨S,r,j<|dN m<|dN B<|dN I<|dN (jU (dR (t 3)<|Ed<|by lia) rfl)<|dX<|fQ<|aU rfl<|aU e rfl,M.with l⟩
theorem bHm(a:lw):∃S rk T rk' c l r,vG [.lst<|a.map D.int]=.ok (.lst [uf S rk,uf T rk',.int (l:Nat),.int (r:Nat)])/\Nb S rk c/\Nb T rk' c/\S.length<=7/\l<S.length/\r<T.length:=by
 obtain⟨v,o⟩:=Mx a 0 (by lia)
 obtain⟨x,P,B⟩:=mU v 1 (m:=3) (by lia)
 obtain⟨y,O,A⟩:=mU v 2 (m:=16) (by lia)
 obtain⟨z,N,w⟩:=mU v 3 (m:=4) (by lia)
 obtain⟨u,p⟩:=Mx a 10 (by lia)
 have g:∃b:Nat,1<=b/\b<=7/\Oc (e2 Od (aV bM<|aC (aA 1)<|aC (eI 2)<|aC (eI 16) aR)<|eI 0) (cO 3<|eI 5) cJ [D.lst<|a.map D.int,v,((1+x:Nat):Int),some<|.v<|.int 4,none,none]=.ok (.nx [D.lst<|a.map D.int,v,((1+x:Nat):Int),b,none,none]):=by
  have t:=aG (f:=aV bM<|aC (aA 1)<|aC (eI 2)<|aC (eI 16) aR) (g:=eC<|.int 0) (st:=[D.lst<|a.map D.int,v,((1+x:Nat):Int),some<|.v<|.int 4,none,none]) (aO rfl A) rfl<|zv _ _
  by_cases h:(y:Int)=0
  .exact⟨5,by lia,by lia,tQ (dR t<|Bf h) rfl⟩
  exact⟨4,by lia,by lia,jU (dR t<|Ed h) rfl⟩
 obtain⟨b,k,n,i⟩:=g;obtain⟨S,rk,I,M,L⟩:=M5 a (c:=1+x) k (by lia) (by lia) (by lia)
 obtain⟨j,f,H,K,_⟩:=M5 a (c:=1+x) k (by lia) (by lia) (by lia)
 obtain⟨J,e,G,M1⟩:=Ī M u
 let st (d:D):za:=[D.lst<|a.map D.int,v,((1+x:Nat):Int),b,uf S rk,d]
 have s:∃T rk',Oc (e2 Am (aV bM<|aC (aA 1)<|aC (eI 3)<|aC (eI 4) aR)<|eI 0) (cO 5<|aV jC<|aC (aV dJ<|aC (aA 0)<|aC (eI 10) aR)<|aC (e2 La (aA 4)<|eI 0)<|aC (e2 La (aA 4)<|eI 1) aR) cJ (st<|uf j f)=.ok (.nx<|st<|uf T rk')/\Nb T rk' (1+x):=by
  have t:=aG (op:=Am) (f:=aV bM<|aC (aA 1)<|aC (eI 3)<|aC (eI 4) aR) (g:=eC<|.int 0) (st:=st<|uf j f) (aO rfl w) rfl rfl
  by_cases h:(0:Int)<z
  .exact⟨J,e,tQ (dR t<|Bf h)<|bI<|aO (aU (aO rfl p) rfl) G,M1⟩
  exact⟨j,f,jU (dR t<|Ed h) rfl,K⟩
 obtain⟨T,rk',F,m⟩:=s;obtain⟨l,hl,E⟩:=mU v 4 (m:=S.length) (by have:=M.one;lia)
 obtain⟨r,q,C⟩:=mU v 5 (m:=T.length) (by have:=m.one;lia)
 refine⟨S,rk,T,rk',1+x,l,r,cI rfl ?_,M,m,by lia,hl,q⟩
 unfold GV;refine aJ (bI<|aO rfl o)<|aJ (bI<|aG rfl (aO rfl B)<|by rw[Hy];congr 2)<|aJ (bI rfl)<|aJ i<|aJ (bI<|aO rfl I)<|aJ (bI<|aO rfl H)<|aJ F<|dX<|fQ<|aU rfl<|aU rfl<|aU ?_<|aU ?_ rfl
 .refine aO (aU rfl<|aU rfl<|aU ?_ rfl) E;show R.ok (D.int ((Sb S).length:Nat))=_;rw[gY]
 refine aO (aU rfl<|aU rfl<|aU ?_ rfl) C;show R.ok (D.int ((Sb T).length:Nat))=_;rw[gY]
end
section
variable {l r:Nat}
def V6{E:Ex}{st:za}{v:Nat}(M:Nb S rk c)(b:st[v]?=some (some<|.v<|uf S rk))(d:∀a:ac,E ((st.set j none).set j<|D.lst<|ja a)=.ok (.lst<|ja a)):bH [j] (jb j) (cc<|e2 La (aA v)<|eI 0) bK E st=.ok (.lst<|Sb S):=by
 have e:=M.most;unfold Sb;exact yI (l:=S) (λa=>D.lst<|ja a) _ (lB<|aG (x:=uf S rk) (by rw[pR,b]) rfl rfl) (by omega) λa _=>d a
def W6(b:Bool):Th (.bl b) (.bl b)=.ok (.bl false):=by cases b<;>exact aF ⟨by simp[Fe],rfl,rfl⟩
def X6(b:Bool):Od (.bl b) (.bl b)=.ok (.bl true):=by cases b<;>exact aF ⟨by simp[Fe],rfl,rfl⟩
theorem law_true(E:lw)(hn:E.length<=63):Sv [.lst<|E.map D.int]=.ok (.bl true):=by
 obtain⟨S,C,T,g,c,l,r,e0,M,o,t,hl,W⟩:=bHm E
 let st (f n m Kf N K L:li):za:=[some<|.v<|.lst<|E.map D.int,some<|.v<|mD S C c,some<|.v<|mD T g c,f,n,some<|.v<|uf S C,some<|.v<|uf T g,some<|.v<|.int l,some<|.v<|.int r,m,Kf,N,K,L,none,none]
 have s:∃ds:dL,(∀d∈ds,∃k:Int,d=.int k)/\∀b:Bd,aY (cO 3<|e1 DD<|eI 16) (aY (Oc (Jk (e2 Am (e1 fZ<|e2 La (aA 5)<|eI 0)<|eI 4)<|e2 Am (e1 fZ<|e2 La (aA 6)<|eI 0)<|eI 4) (cO 3<|bH [15] (jb 15) (nD<|eI 2) bK WK) cJ) b) (st none none none none none none none)=b (st (some<|.v<|.lst ds) none none none none none none):=by
  have V:cO 3 (e1 DD<|eI 16) (st none none none none none none none)=.ok (.nx<|st (some<|.v<|.lst<|lK 0 16) none none none none none none):=bI<|aF<|by rw[mF];decide
  obtain⟨b,p⟩:∃b:Bool,Jk (e2 Am (e1 fZ<|e2 La (aA 5)<|eI 0)<|eI 4) (e2 Am (e1 fZ<|e2 La (aA 6)<|eI 0)<|eI 4) (st (some<|.v<|.lst<|lK 0 16) none none none none none none)=.ok (.bl b):=⟨_,Tv (aG rfl rfl rfl) λ_=>aG rfl rfl rfl⟩
  cases b with
  |false=>exact⟨lK 0 16,λd q=>by obtain⟨i,_,rfl⟩:=ze.mp q;exact⟨_,rfl⟩,λb=>aJ V<|aJ (jU p rfl) rfl⟩
  |true=>
   obtain⟨v,hv⟩:=Mx E 19 (by decide)
   obtain⟨xs,hx,_,hm⟩:=vL (f:=eC<|.int 2) (st:=st (some<|.v<|.lst<|lK 0 16) none none none none none none) (n:=2) rfl (by decide)
   obtain⟨rr,er,_,_⟩:=pB (E:=WK) (j:=15) (Q:=λ_=>True) hx (by lia) λd q=>by
    obtain⟨k,_,rfl⟩:=hm d q;obtain⟨x,_,ex⟩:=mU v k (m:=16) (by decide)
    exact⟨x,aO (aU (aO rfl hv) rfl) ex,True.intro⟩
   exact⟨ja rr,λd q=>by obtain⟨x,_,rfl⟩:=pA q;exact⟨_,rfl⟩,λb=>aJ V<|aJ (tQ p<|bI er) rfl⟩
 obtain⟨ds,dA,U⟩:=s;have WA:∀(z:dL)(f n m:li),(∀d∈z,∃k:Int,d=.int k)->∃Rg Zu,Tb (jb 4) W0 z (st f n m none none none none)=.ok (.nx<|st f Rg Zu none none none none):=by
  intro z
  induction z with
  |nil=>exact λf n m _=>⟨n,m,rfl⟩
  |cons d z ih=>
   intro f n m h;obtain⟨k,rfl⟩:=h d Cb;obtain⟨B,A,e⟩:=ih f (some<|.v<|.int k) (some<|.v<|.tup<|[decide (k%2=1),decide (k/2%2=1),decide (k/4%2=1),decide (k/8=1)].map D.bl) λd q=>h d<|Kb _ q
   have dv:∀{j:Int},0<j->j<1073741824->Aq (.int k) (.int j)=.ok (.int<|k/j):=λh1 h2=>aF ⟨h1,h2⟩
   refine⟨B,A,fU rfl (aJ (bI<|jE (ds:=[decide (k%2=1),decide (k/2%2=1),decide (k/4%2=1),decide (k/8=1)].map D.bl)<|aU (aG (aG rfl rfl<|iC<|by decide) rfl<|Kw _ _)<|aU (aG (aG (aG rfl rfl<|dv (by decide)<|by decide) rfl<|iC<|by decide) rfl<|Kw _ _)<|aU (aG (aG (aG rfl rfl<|dv (by decide)<|by decide) rfl<|iC<|by decide) rfl<|Kw _ _)<|aU (aG (aG rfl rfl<|dv (by decide)<|by decide) rfl<|Kw _ _) rfl)<|jU (Ks (p:=true)<|aO rfl<|ó M o t hl W rfl) rfl) e⟩
 obtain⟨B,A,e1⟩:=WA ds (some<|.v<|.lst ds) none none dA;have turn:∀(a b:Nat)(f n m K L:li),a<S.length->b<T.length->∃u d3 y w,X0 (st f n m (some<|.v<|.int a) (some<|.v<|.int b) K L)=.ok (.nx<|st f n m (some<|.v<|.int a) (some<|.v<|.int b) (some<|.v u)<|some<|.v d3)/\jK [mD S C c,mD T g c,.int a,.int b]=.ok (.bl y)/\kn u .Hb=.ok (.bl y)/\iJ [mD S C c,mD T g c,.int a,.int b]=.ok (.bl w)/\kn d3 .Hb=.ok (.bl w):=by
  intro a b f n m K L F p;obtain⟨u,w1,O⟩:=LD (w:=.fn "JUST_ONE") (ws:=[false,true,true,false]) M o t F p ⟨rfl,.inr<|.inl ⟨rfl,rfl⟩⟩;obtain⟨d2,w2,t2⟩:=LD (w:=.tup<|[false,true,true,false].map D.bl) (ws:=[false,true,true,false]) M o t F p ⟨rfl,.inl rfl⟩;obtain⟨d3,Z,t3⟩:=LD (w:=.tup<|[false,true,false,false].map D.bl) (ws:=[false,true,false,false]) M o t F p ⟨rfl,.inl rfl⟩;obtain rfl:=aZe O t2;obtain⟨y,J,H⟩:=Y2 M o t F p (w:=.fn "JUST_ONE") ⟨rfl,.inr<|.inl ⟨rfl,rfl⟩⟩ (p:=jK) (λ{_ _} Q R {_} h=>cI rfl<|dX<|aG (aO (aU (aO rfl Q) rfl) R) (fQ rfl) h) O
  obtain⟨w,I,G⟩:=Y2 M o t F p (w:=.fn "ONE_ALONE") ⟨rfl,.inr<|.inr ⟨rfl,rfl⟩⟩ (p:=iJ) (λ{_ _} Q R {_} h=>cI rfl<|dX<|aG (aO (aU (aO rfl Q) rfl) R) (fQ rfl) h) t3
  refine⟨u,d3,y,w,?_,J,H,I,G⟩;refine aJ (bI<|aO rfl<|cI rfl<|dX<|aO rfl w1)<|aJ (jU (aG rfl (aO (aU rfl<|aU rfl<|aU (jE rfl) rfl) w2)<|bD5 O) rfl)<|aJ (jU (aG (aO rfl J) (aG rfl rfl H)<|W6 y) rfl)<|aJ (bI<|aO (aU rfl<|aU rfl<|aU (jE rfl) rfl) Z)<|jU (aG (aO rfl I) (aG rfl rfl G)<|W6 w) rfl
 obtain⟨u,d3,y,w,l1,_⟩:=turn l r (some<|.v<|.lst ds) B A none none hl W;obtain⟨f1,f3,Y,X,l2,J,H,I,G⟩:=turn 0 0 (some<|.v<|.lst ds) B A (some<|.v u) (some<|.v d3) M.one o.one;refine cI rfl ?_
 unfold Q6;exact aJ (nE (aO rfl e0) rfl)<|aJ (bI<|aO (aU (V6 M rfl λP=>rfl)<|aU (show (La (uf S C)<|.int 1).bind zQ=_ from rfl) rfl)<|E1 M)<|aJ (bI<|aO (aU (V6 o rfl λP=>rfl)<|aU (show (La (uf T g)<|.int 1).bind zQ=_ from rfl) rfl)<|E1 o)<|(U _).trans<|aJ (gB (xs:=ds) rfl e1)<|aJ (st':=st (some<|.v<|.lst ds) B A (some<|.v<|.int (0:Nat)) (some<|.v<|.int (0:Nat)) (some<|.v f1)<|some<|.v f3) (gB (xs:=[qD (l,r),qD (0,0)]) (lB<|fQ<|aU (jE rfl)<|aU (jE rfl) rfl)<|fU rfl l1<|fU rfl l2 rfl)<|dX<|Js (p:=true) (q:=true) (aG (x:=.bl Y) J (aG rfl rfl H)<|X6 Y) λ_=>aG (x:=.bl X) I (aG rfl rfl G)<|X6 X
end
end Pu
namespace Pu
open PySem PySem.Spec PyProof.Rows L2
abbrev Sg:=L2.St
noncomputable def jM:Key->D
 |.inl i=>.int i
 |.inr x=>.str x.cps.toList
structure Ig(K:Frag)(C:Addr):Prop where
 ga:findIn K (.ref C) "__getattribute__"=some (some<|.builtin "BaseException.__getattribute__")
 gn:findIn K (.ref C) "__getattr__"=some none
 mb:mroIn K C (.type "BaseException")=some true
 cl:(clsIn K C).isSome=true
 fd:findIn K (.ref C) "__class__"=some (some<|.builtin "object.__class__")
 sp:specialIn K (.builtin "object.__class__") "__get__"=some (some<|.builtin "getset_descriptor.__get__")
 tk:takesIn K (.builtin "object.__class__")=some true
 mr:mroIn K C (.type "object")=some true
structure ExcAt(K:Frag)(c:String)(C:Addr)(bm:cr):Prop where
 ns:nsIn K mainGlobals (ofString c)=some (some<|.ref C)
 ob:∃(B newId Xf:String)(wm:cr),ExcBaseFacts B newId Xf wm/\∀h,K.In h->∃N nm q bs hdct sn sub ab col dd k0 k1 k2 k3 k5 mN,
  h.get? C=some (excClassObj nm q C N bs bm hdct sn sub ab col dd k0 k1 k2 k3 k5 newId)/\h.Ns N mN/\mN "__init__"=none/\OwnTail h wm bm
 ic:Ig K C
def uT(a C:Addr)(h:Heap):Prop:=∃o,h.get? a=some o/\o.cls=.ref C/\notCls o=true
structure yk(K:Frag)(c:String)(C:Addr):Prop where
 ns:nsIn K mainGlobals (ofString c)=some (some<|.ref C)
 ic:Ig K C
def ExcAt.is{K:Frag}{c:String} (h:ExcAt K c C bm):yk K c C:=⟨h.ns,h.ic⟩
def t_(x C:Addr)(d:re)(h:Heap):Prop:=∃o,h.get? x=some o/\o.cls=.ref C/\notCls o=true/\o.dict=d
def s_(b:Addr)(fs:AC)(h:Heap):Prop:=∃a,h.Ns1 b a/\(∀f,wU (fs.lookup f)<|a f)/\PySem.Within a (fs.map (·.1))
def p_:List D->Bool
 |.str _::_=>true
 |_=>false
mutual
noncomputable def pb(K:Frag)(H:Hp):D->V->Prop
 |.Hb,v=>v=V.Hb
 |.bl b,v=>v=V.bl b
 |.int i,v=>v=V.int i
 |.str s,v=>v=V.str ⟨s.toArray⟩
 |.tup ds,v=>∃a d,v=V.ref a/\H a=some (.tup d)/\bA K H ds d
 |.lst ds,v=>∃a d,v=V.ref a/\Pc K H a d/\bA K H ds d/\(p_ ds=true->H a=some (.lst d))
 |.Cf t l ds,v=>∃a d,v=V.ref a/\((t=false/\∃e:sK,H a=some (.dK e)/\e.map (λp=>jM p.1)=l/\d=e.map (·.2))\/(t=true/\∃e:pi,H a=some (.dT e)/\e.map (λp=>D.tup<|p.1.map jM)=l/\d=e.map (·.2)))/\bA K H ds d
 |.ins c j ds,v=>∃a C g fs d,v=V.ref a/\H a=some (.ins C g fs)/\nsIn K mainGlobals (ofString c)=some (some<|.ref C)/\fs.map (·.1)=j.map ofString/\d=fs.map (·.2)/\bA K H ds d
 |.Ag c j ds,v=>∃a k C,v=V.ref a/\H a=some (.ext k)/\(∀h,k h->uT a C h)/\yk K c C/\∃g fs d,((j=[]/\d=[])\/(k=t_ a C (some g)/\g≠a/\H g=some (.ext<|s_ g fs)/\fs.map (·.1)=j.map ofString/\d=fs.map (·.2)))/\bA K H ds d
 |.fn f,v=>∃a,v=V.ref a/\nsIn K mainGlobals (ofString f)=some (some<|.ref a)
noncomputable def bA(K:Frag)(H:Hp):List D->List V->Prop
 |[],a=>a=[]
 |d::ds,a=>∃v r,a=v::r/\pb K H d v/\bA K H ds r
end
def uU{K:Frag} {xs:ss} (e:aX H H') (h:ig K H a xs):ig K H' a xs:=by
 rcases h with (h|⟨o,h⟩)|h
 .exact .inl (.inl<|e _ _ h)
 .exact .inl (.inr ⟨o,e _ _ h⟩)
 exact .inr h
mutual
theorem pb.mono{K:Frag}{H l:Hp}(s:aX H l):∀{d:D}{v:V},pb K H d v->pb K l d v
 |.Hb,_,h=>h
 |.bl _,_,h=>h
 |.int _,_,h=>h
 |.str _,_,h=>by unfold pb at h ⊢; exact h
 |.tup _,_,h=>by
  unfold pb at h ⊢;obtain⟨a,b,e,q,r⟩:=h;exact⟨a,b,e,s _ _ q,bA.mono s r⟩
 |.lst _,_,h=>by
  obtain⟨a,b,e,q,r,t⟩:=h;exact⟨a,b,e,s.seq q,bA.mono s r,λz=>s _ _<|t z⟩
 |.Cf _ _ _,_,h=>by
  obtain⟨a,b,e,q,r⟩:=h;refine⟨a,b,e,?_,bA.mono s r⟩;rcases q with ⟨i,j,f,c⟩|⟨i,j,f,c⟩
  .exact .inl ⟨i,j,s _ _ f,c⟩
  exact .inr ⟨i,j,s _ _ f,c⟩
 |.ins _ _ _,_,h=>by
  unfold pb at h ⊢;obtain⟨a,C,k,fs,b,e,f,c,o,n,r⟩:=h;exact⟨a,C,k,fs,b,e,s _ _ f,c,o,n,bA.mono s r⟩
 |.fn _,_,h=>h
 |.Ag _ _ _,_,h=>by
  obtain⟨a,m,C,e,q,y,p,k,fs,b,g,r⟩:=h;refine⟨a,m,C,e,s _ _ q,y,p,k,fs,b,?_,bA.mono s r⟩;rcases g with g|⟨g,x,w,u⟩
  .exact .inl g
  exact .inr ⟨g,x,s _ _ w,u⟩
theorem bA.mono{K:Frag}{H a:Hp}(s:aX H a):∀{ds:dL}{vs:ss},bA K H ds vs->bA K a ds vs
 |[],_,h=>by unfold bA at h ⊢; exact h
 |d::ds,_,h=>by
  obtain⟨v,r,e,q,t⟩:=h;exact⟨v,r,e,pb.mono s q,bA.mono s t⟩
end
section
variable{K:Frag}{H:Hp}
def qG:pb K H .Hb v↔v=V.Hb:=Fw
def cA:pb K H (.bl b) v↔v=V.bl b:=Fw
def bC{i:Int}:pb K H (.int i) v↔v=V.int i:=Fw
def fC{s:ac}:pb K H (.str s) v↔v=V.str ⟨s.toArray⟩:=Fw
def lC:pb K H (.tup ds) v↔∃a vs,v=V.ref a/\H a=some (.tup vs)/\bA K H ds vs:=by conv=>lhs;unfold pb
def fV(h:pb K H (.tup ds) v):∃a vs,v=V.ref a/\ig K H a vs/\bA K H ds vs:=
 let ⟨a,vs,e,q,r⟩:=lC.mp h;⟨a,vs,e,ig.of q,r⟩
def DK:pb K H (.lst ds) v↔∃a vs,v=V.ref a/\Pc K H a vs/\bA K H ds vs/\(p_ ds=true->H a=some (.lst vs)):=by conv=>lhs;unfold pb
structure UI(K:Frag)(H:Hp)(ds:dL)(v:V):Prop where
 mp:pb K H (.lst ds) v->∃a vs,v=V.ref a/\Pc K H a vs/\bA K H ds vs
 mpr:(∃a vs,v=V.ref a/\H a=some (.lst vs)/\bA K H ds vs)->pb K H (.lst ds) v
def dM:UI K H ds v:=⟨λh=>let ⟨a,b,e,q,r,_⟩:=DK.mp h;⟨a,b,e,q,r⟩,λ⟨a,b,e,h,r⟩=>DK.mpr ⟨a,b,e,Pc.of h,r,λ_=>h⟩⟩
def qH{t:Bool}{c:dL}:pb K H (.Cf t c ds) v↔∃a vs,v=V.ref a/\((t=false/\∃b:sK,H a=some (.dK b)/\b.map (λp=>jM p.1)=c/\vs=b.map (·.2))\/(t=true/\∃b:pi,H a=some (.dT b)/\b.map (λp=>D.tup<|p.1.map jM)=c/\vs=b.map (·.2)))/\bA K H ds vs:=by conv=>lhs;unfold pb
def EL{c:String}{b:wf}:pb K H (.ins c b ds) v↔∃a C d fs vs,v=V.ref a/\H a=some (.ins C d fs)/\nsIn K mainGlobals (ofString c)=some (some<|.ref C)/\fs.map (·.1)=b.map ofString/\vs=fs.map (·.2)/\bA K H ds vs:=by conv=>lhs;unfold pb
def FL{c:String}{e:wf}:pb K H (.Ag c e ds) v↔∃a d C,v=V.ref a/\H a=some (.ext d)/\(∀h,d h->uT a C h)/\yk K c C/\∃b fs vs,((e=[]/\vs=[])\/(d=t_ a C (some b)/\b≠a/\H b=some (.ext<|s_ b fs)/\fs.map (·.1)=e.map ofString/\vs=fs.map (·.2)))/\bA K H ds vs:=by conv=>lhs;unfold pb
def PM{f:String}:pb K H (.fn f) v↔∃a,v=V.ref a/\nsIn K mainGlobals (ofString f)=some (some<|.ref a):=by conv=>lhs;unfold pb
def cC:bA K H [] vs↔vs=[]:=Fw
def bG{d:D}:bA K H (d::ds) vs↔∃v r,vs=v::r/\pb K H d v/\bA K H ds r:=by conv=>lhs;unfold bA
def bA.nil:bA K H [] []:=cC.mpr rfl
def bA.cons{d:D}{ds:dL}{v:V}{vs:ss}(h:pb K H d v)(t:bA K H ds vs):bA K H (d::ds) (v::vs):=bG.mpr ⟨v,vs,rfl,h,t⟩
theorem bA.length:∀{ds:dL}{vs:ss},bA K H ds vs->vs.length=ds.length
 |[],_,h=>by rw[cC.mp h];rfl
 |_::ds,_,h=>by
  obtain⟨v,r,rfl,_,t⟩:=bG.mp h;rw[dg,dg,bA.length t]
theorem bA.get:∀{ds:dL}{vs:ss}{i:Nat}{d:D},bA K H ds vs->ds[i]?=some d->∃v,vs[i]?=some v/\pb K H d v
 |[],_,_,_,_,e=>by simp at e
 |_::ds,_,0,d,h,e=>by
  obtain⟨v,r,rfl,q,t⟩:=bG.mp h;simp at e;subst e;exact⟨v,rfl,q⟩
 |_::ds,_,i+1,d,h,e=>by
  obtain⟨v,r,rfl,q,t⟩:=bG.mp h;obtain⟨u,e1,e2⟩:=bA.get t (by simpa using e)
  exact⟨u,by simpa using e1,e2⟩
theorem bA.append:∀{ds b:dL}{vs a:ss},bA K H ds vs->bA K H b a->bA K H (ds++b) (vs++a)
 |[],_,_,_,h,t=>by rwa [cC.mp h]
 |_::_,_,_,_,h,t=>by
  obtain⟨v,r,rfl,q,w⟩:=bG.mp h;exact .cons q<|bA.append w t
theorem bA.take:∀{ds:dL}{vs:ss}(n:Nat),bA K H ds vs->bA K H (ds.take n) (vs.take n)
 |_,_,0,_=>.nil
 |[],_,_+1,h=>by rw[cC.mp h];exact .nil
 |_::_,_,n+1,h=>by
  obtain⟨v,r,rfl,q,w⟩:=bG.mp h;exact .cons q<|bA.take n w
theorem bA.drop:∀{ds:dL}{vs:ss}(n:Nat),bA K H ds vs->bA K H (ds.drop n) (vs.drop n)
 |_,_,0,h=>h
 |[],_,_+1,h=>by rw[cC.mp h];exact .nil
 |_::_,_,n+1,h=>by
  obtain⟨v,r,rfl,q,w⟩:=bG.mp h;exact bA.drop n w
end
def hide(A:be)(H:Hp):Hp:=λb=>if b∈A then none else H b
def iU{b:Addr}(h:b∈A):hide A H b=none:=Qa h
def cN{b:Addr}(h:b∉A):hide A H b=H b:=Ea h
def aQ(A:be)(H:Hp):aX (hide A H) H:=λb o h=>by
 unfold hide at h;split at h
 .cases h
 exact h
theorem aX.hide{A:be}{H a:Hp}(s:aX H a):aX (hide A H) (hide A a):=λb o h=>by
 unfold Pu.hide at h ⊢;split at h
 .cases h
 rename_i q;rw[Ea q];exact s b o h
def nU{d:be} (h:∀a∈d,a∈A):aX (hide A H) (hide d H):=λb o q=>by
 by_cases c:b∈A
 .rw[iU c]at q;cases q
 rw[cN c]at q
 rwa [cN λz=>c<|h b z]
def mV(h:a∈A):hide A (Ra H a o)=hide A H:=by
 funext b
 by_cases c:b∈A
 .rw[iU c,iU c]
 rw[cN c,cN c];exact aK λz=>c<|z ▸ h
def bL{p:Addr} (h:H p=none):aX H (Ra H p o):=λb u q=>by
 rwa [aK<|aN q h]
def nT:HO->Bool
 |.tup _=>false
 |_=>true
def Y6{o:Option HO}(h:o.any nT=true):∃u,o=some u/\nT u=true:=by
 cases o with
 |none=>cases h
 |some u=>exact⟨u,rfl,h⟩
def Own(A:be)(H:Hp):Prop:=∀a∈A,(H a).any nT=true
def Own.mono(h:Own A H)(s:aX H H'):Own A H':=λa b=>by
 obtain⟨o,e,n⟩:=Y6<|h a b
 rwa [s a o e]
theorem Own.tup{A:be}{H:Hp}(h:Own A H){a:Addr}{xs:ss}(e:H a=some (.tup xs)):a∉A:=λz=>by
 have:=h a z;rw[e]at this;cases this
def Own.free(h:Own A H){p:Addr}(e:H p=none):p∉A:=λz=>by
 have q:=h p z;rw[e]at q;cases q
def fB{K:Frag} {p:Addr} (w:Own A H) (e:H p=none) (h:bA K (hide A H) ds vs):pb K (hide A<|Ra H p<|.lst vs) (.lst ds) (.ref p):=
 dM.mpr ⟨p,vs,rfl,(by rw[cN<|w.free e];exact bB),h.mono<|aX.hide<|bL e⟩
def sO{K:Frag} {p:Addr} (w:Own A H) (e:H p=none) (h:bA K (hide A H) ds vs):pb K (hide A<|Ra H p<|.tup vs) (.tup ds) (.ref p):=
 lC.mpr ⟨p,vs,rfl,(by rw[cN<|w.free e];exact bB),h.mono<|aX.hide<|bL e⟩
def yq(K:Frag):OK->Addr->HO->List V->Prop
 |.l,_,o,d=>o=.lst d
 |.d t e,_,o,d=>(t=false/\∃b:sK,o=.dK b/\b.map (λp=>jM p.1)=e/\d=b.map (·.2))\/(t=true/\∃b:pi,o=.dT b/\b.map (λp=>D.tup<|p.1.map jM)=e/\d=b.map (·.2))
 |.i n c f,a,o,d=>a=n/\∃C g fs,o=.ins C g fs/\nsIn K mainGlobals (ofString c)=some (some<|.ref C)/\fs.map (·.1)=f.map ofString/\d=fs.map (·.2)
def yq.rep{K:Frag} {k:OK} (e:yq K k a o vs) (h:H a=some o) (r:bA K H ds vs):pb K H (js k ds) (.ref a):=by
 cases k with
 |l=>subst e;exact dM.mpr ⟨a,vs,rfl,h,r⟩
 |d t u=>
  refine qH.mpr ⟨a,vs,rfl,?_,r⟩;rcases e with ⟨b,f,rfl,q⟩|⟨b,f,rfl,q⟩
  .exact .inl ⟨b,f,h,q⟩
  exact .inr ⟨b,f,h,q⟩
 |i n c s=>
  obtain⟨_,C,p,fs,rfl,m,j,g⟩:=e;exact EL.mpr ⟨a,C,p,fs,vs,rfl,h,m,j,g,r⟩
def yq.nt{K:Frag}{k:OK} (b:yq K k a o vs):nT o=true:=by
 cases k with
 |l=>rw[b];rfl
 |d t f=>rcases b with ⟨_,_,rfl,_⟩|⟨_,_,rfl,_⟩ <;> rfl
 |i n c e=>obtain⟨_,_,_,_,rfl,_⟩:=b;rfl
structure RS(K:Frag)(B A:be)(H:Hp)(st:za)(σ:Sg):Prop where
 len:st.length=σ.length
 own:Own (A++B) H
 Hh:∀a∈A,a∉B
 val:∀(i:Nat) d,st[i]?=some (some<|.v d)->∃v,σ[i]?=some (some v)/\pb K (hide (A++B) H) d v
 lst:∀(i:Nat) k xs,st[i]?=some (some<|.o k xs)->∃a o vs,σ[i]?=some (some<|.ref a)/\a∈A/\H a=some o/\yq K k a o vs/\bA K (hide (A++B) H) xs vs/\
  ∀(j:Nat) k' ys,st[j]?=some (some<|.o k' ys)->σ[j]?=some (some<|.ref a)->j=i
theorem RS.mono{K:Frag}{B A:be}{H b:Hp}{st:za}(r:RS K B A H st σ)(s:aX H b):RS K B A b st σ where
 len:=r.len
 own:=r.own.mono s
 Hh:=r.Hh
 val:=λi d e=>let ⟨v,e1,q⟩:=r.val i d e;⟨v,e1,q.mono<|aX.hide s⟩
 lst:=λi k xs e=>let ⟨a,o,c,e1,m,h,f,q,u⟩:=r.lst i k xs e;⟨a,o,c,e1,m,s _ _ h,f,q.mono<|aX.hide s,u⟩
def Le(A:be)(H:Hp)(b:be)(a:Hp):Prop:=aX (hide A H)<|hide b a
theorem Le.refl{A:be}{H:Hp}:Le A H A H:=aX.refl _
def Le.of(s:aX H H'):Le A H A H':=aX.hide s
theorem Le.trans{A:be}{H c:Hp}(a:Le A H A1 c)(b:Le A1 c A2 H2):Le A H A2 H2:=aX.trans a b
def tI(K:Frag)(B:be)(f:Ex):TE:=λb H Q=>∃A st d,RS K B A H st b/\f st=.ok d/\∀v a,aX H a->pb K (hide (A++B) a) d v->Q v a
def lM(K:Frag)(A:be)(H:Hp)(d:D)(v:V):Prop:=
 pb K (hide A H) d v\/∃a k o ds b,d=js k ds/\v=V.ref a/\H a=some o/\yq K k a o b/\bA K (hide A H) ds b
theorem lM.mono{K:Frag}{A:be}{H b:Hp}{d:D}{v:V}(s:aX H b)(h:lM K A H d v):lM K A b d v:=by
 rcases h with h|⟨a,k,o,ds,c,e1,e2,f,e,q⟩
 .exact .inl (h.mono<|aX.hide s)
 exact .inr ⟨a,k,o,ds,c,e1,e2,s _ _ f,e,q.mono<|aX.hide s⟩
def tP(K:Frag)(B:be)(f:Ex):TE:=λb H Q=>∃A st d,RS K B A H st b/\f st=.ok d/\∀v a,aX H a->lM K (A++B) a d v->Q v a
def tA(K:Frag)(B:be)(f:Ci):TA:=λc H Q=>∃A st ds,RS K B A H st c/\f st=.ok ds/\∀b a,aX H a->bA K (hide (A++B) a) ds b->Q b a
def tT(K:Frag)(B:be)(f:Ex):TT:=λc H Q=>∃A st b,RS K B A H st c/\f st=.ok (.bl b)/\∀a,aX H a->Q b a
def tO(K:Frag)(B:be)(f:xx):TO:=λb H Q=>∃A st o,RS K B A H st b/\f st=.ok o/\∀a,aX H a->Q o a
def vo(K:Frag)(B A:be)(H:Hp)(r:Fl)(e:Ends):Prop:=match r with
 |.nx st'=>∀b c a,Le A H b a->RS K B b a st' c->e.nx c a
 |.bk st'=>∀b c a,Le A H b a->RS K B b a st' c->e.bk c a
 |.ct st'=>∀b c a,Le A H b a->RS K B b a st' c->e.ct c a
 |.rt d=>∀b v a,Le A H b a->pb K (hide (b++B) a) d v->e.rt v a
def vo.mono{K:Frag} {r:Fl} (l:Le A H A1 H1) (p:vo K B A H r Dn):vo K B A1 H1 r Dn:=by
 cases r with
 |nx st=>exact λc e b a=>p c e b<|l.trans a
 |bk st=>exact λc e b a=>p c e b<|l.trans a
 |ct st=>exact λc e b a=>p c e b<|l.trans a
 |rt d=>exact λc v b a=>p c v b<|l.trans a
def tS(K:Frag)(B:be)(b:Bd):TS:=λc a H=>∃A st r,RS K B A H st a/\b st=.ok r/\vo K B A H r c
def Tq(K:Frag)(B A:be)(H:Hp)(J:It)(ds:dL):Prop:=∀c a,Le A H c a->Own (c++B) a->∀(i:Nat),
 (∀d,ds[i]?=some d->J.go i a/\∀x b,J.wx i a x b->aX a b/\pb K (hide (c++B) b) d x)/\(ds.length<=i->J.stop i a)
def qk(K:Frag)(B:be)(f:ij):TI:=λb H R=>∃A st ds,RS K B A H st b/\f st=.ok ds/\∀J a,aX H a->Tq K B A a J ds->R J a
def tG(K:Frag)(B:be)(g:Tg):TG:=λv b H Q=>∃A st d s1,RS K B A H st b/\pb K (hide (A++B) H) d v/\g d st=.ok s1/\∀a,RS K B A H s1 a->Q a H
section
def cF{t t':TE}(h:PE X e t)(m:∀a H Q,t' a H Q->t a H Q):PE X e t':=λb s a H Q I q=>h b s a H Q I<|m a H Q q
def QM{t t':TT}(h:PT X e t)(m:∀a H Q,t' a H Q->t a H Q):PT X e t':=λb s a H Q I q=>h b s a H Q I<|m a H Q q
def N5{t t':TT}(h:PW X e t)(m:∀a H Q,t' a H Q->t a H Q):PW X e t':=λw b s a H Q I q=>h w b s a H Q I<|m a H Q q
def O5{t t':TA}(h:PA X es t)(m:∀a H Q,t' a H Q->t a H Q):PA X es t':=λb c s a H Q I q=>h b c s a H Q I<|m a H Q q
def P5{e:Option Expr}{t t':TO}(h:PO X e t)(m:∀a H Q,t' a H Q->t a H Q):PO X e t':=λb s a H Q I q=>h b s a H Q I<|m a H Q q
def gC{st:Stmt}{t t':TS}(h:PS X st t)(m:∀D a H,t' D a H->t D a H):PS X st t':=λb s a H D I q=>h b s a H D I<|m D a H q
def Nx{st:List Stmt}{t t':TS}(h:Te X st t)(m:∀D a H,t' D a H->t D a H):Te X st t':=λb s a H D I q=>h b s a H D I<|m D a H q
def Q5{t t':TG}(h:PG X e t)(m:∀v a H Q,t' v a H Q->t v a H Q):PG X e t':=λb s a H v u Q I r q=>h b s a H v u Q I r<|m v a H Q q
def R5{t t':TI}(h:L2.PI X tg e t)(m:∀a H R,t' a H R->t a H R):L2.PI X tg e t':=λb s a H R I q=>h b s a H R I<|m a H R q
end
section
variable {a b:Expr} {h:Ex}
def aD(f:X.N[i]?=some x:=by rfl)(c:Eh X.env.scope x:=by exact Zi rfl)(a:Ce x:=by decide)
  (g:Yi x:=by decide):PE X (.Name x pos) (tI X.K B<|aA i):=by
 refine cF (kE f c a g) ?_
 rintro h H Q ⟨A,st,d,b,a,q⟩;unfold aA at a;split at a
 .rename_i j e;cases a;obtain⟨v,e1,r⟩:=b.val i _ e;exact⟨v,e1,q v H (aX.refl _) r⟩
 cases a
end
end Pu
variable{σ τ:Pu.Sg}
namespace Pu
open PySem PySem.Spec PyProof.Rows L2
section
variable{X:Cx}{B:be}{a b e:Expr}{f g:Ex}{pos:Pos}
def Gu(h:PE X e (tC v))(r:∀H,pb X.K H d v):PE X e (tI X.K B<|eC d):=cF h (by
 rintro σ H Q ⟨A,st,c,b,a,q⟩;cases a;exact q v H (aX.refl _)<|r _)
def dZ{i:Int}:PE X (.Constant (.int i) j pos) (tI X.K B<|eC<|.int i):=Gu Gs λ_=>bC.mpr rfl
def pN{q:Bool}:PE X (.Constant (.bool q) j pos) (tI X.K B<|eC<|.bl q):=Gu ly λ_=>cA.mpr rfl
def Dq:PE X (.Constant .none j pos) (tI X.K B<|eC .Hb):=Gu L4 λ_=>qG.mpr rfl
def vy(s:ac)(a:x=⟨s.toArray⟩:=by first|rfl|decide|decide+kernel):PE X (.Constant (.str x) j pos) (tI X.K B<|eC<|.str s):=Gu bG2 λ_=>fC.mpr (by rw[a])
def S5{y:Str}{t:Tok}(s:ac)(b:X.mg x=some (.str y t))(c:Gl X x:=by rfl)(a:y=⟨s.toArray⟩:=by first|rfl|decide|decide+kernel)(d:Ce x:=by decide):PE X (.Name x pos) (tI X.K B<|eC<|.str s):=
 Gu (Fx (v:=.str y) c b ⟨t,rfl⟩ d) λ_=>fC.mpr (by rw[a])
def T5{i:Int}{t:Tok}(a:X.mg x=some (.int i t))(b:Gl X x:=by rfl)(c:Ce x:=by decide):PE X (.Name x pos) (tI X.K B<|eC<|.int i):=
 Gu (Fx (v:=.int i) b a ⟨t,rfl⟩ c) λ_=>bC.mpr rfl
def Aa(h:PE X e (tI X.K B f)):PE X e (tP X.K B f):=cF h (by
 rintro σ H Q ⟨A,st,d,a,b,q⟩;exact⟨A,st,d,a,b,λv c s r=>q v c s<|.inl r⟩)
def eO(l:X.N[i]?=some x:=by rfl)(j:Eh X.env.scope x:=by exact Zi rfl)(b:Ce x:=by decide)
  (n:Yi x:=by decide):PE X (.Name x pos) (tP X.K B<|cW i):=by
 refine cF (kE l j b n) ?_
 rintro σ H Q ⟨A,st,d,c,b,q⟩;unfold cW at b;split at b
 .rename_i p e;cases b;obtain⟨v,e1,r⟩:=c.val i _ e;exact⟨v,e1,q v H (aX.refl _)<|.inl r⟩
 .rename_i k xs e;cases b;obtain⟨a,o,f,e1,m,h,g,r,_⟩:=c.lst i _ _ e;exact⟨_,e1,q _ H (aX.refl _)<|.inr ⟨a,_,o,xs,f,rfl,rfl,h,g,r⟩⟩
 cases b
section
variable{K:Frag}
theorem lM.Hb(h:lM K A H .Hb v):v=V.Hb:=by
 rcases h with h|⟨_,k,_,_,_,e,_⟩
 .exact qG.mp h
 cases k<;>cases e
theorem lM.bl{q:Bool}(h:lM K A H (.bl q) v):v=V.bl q:=by
 rcases h with h|⟨_,k,_,_,_,e,_⟩
 .exact cA.mp h
 cases k<;>cases e
theorem lM.int{i:Int}(h:lM K A H (.int i) v):v=V.int i:=by
 rcases h with h|⟨_,k,_,_,_,e,_⟩
 .exact bC.mp h
 cases k<;>cases e
theorem lM.str{s:ac}(h:lM K A H (.str s) v):v=V.str ⟨s.toArray⟩:=by
 rcases h with h|⟨_,k,_,_,_,e,_⟩
 .exact fC.mp h
 cases k<;>cases e
theorem lM.tup{ds:dL}(h:lM K A H (.tup ds) v):∃a vs,v=V.ref a/\ig K H a vs/\bA K (hide A H) ds vs:=by
 rcases h with h|⟨_,k,_,_,_,e,_⟩
 .obtain⟨a,vs,e,q,r⟩:=fV h;exact⟨a,vs,e,uU (aQ _ _) q,r⟩
 cases k<;>cases e
theorem lM.lst{ds:dL}(h:lM K A H (.lst ds) v):∃a vs,v=V.ref a/\Pc K H a vs/\bA K (hide A H) ds vs:=by
 rcases h with h|⟨a,k,o,c,vs,e,e2,h,b,r⟩
 .obtain⟨a,vs,e,q,r⟩:=dM.mp h;exact⟨a,vs,e,(aQ _ _).seq q,r⟩
 cases k<;>cases e;subst b;exact⟨a,vs,e2,Pc.of h,r⟩
end
def wX(K:Frag)(r:R2)(o:ag):Prop:=∀(A:be)(H:Hp)(x y d:D)(v u:V)(Q:VK),Own A H->lM K A H x v->lM K A H y u->o x y=.ok d->
 (∀w a,aX H a->pb K (hide A a) d w->Q w a)->r v u H Q
def Yx{r:R2}{o:ag}(k:wX X.K r o) {Q:VK} (h:tI X.K B (e2 o f g) σ H Q):wk r (tP X.K B f) (tP X.K B g) σ H Q:=by
 obtain⟨A,st,d,b,n,q⟩:=h;obtain⟨x,m,s⟩:=R.ua n;obtain⟨y,l,p⟩:=R.ua s;exact⟨A,st,x,b,m,λv C s1 i=>⟨A,st,y,b.mono s1,l,λu t a e=>k _ t x y d v u Q (b.own.mono<|s1.trans a) (i.mono a) e p λw z c j=>q w z (s1.trans<|a.trans c) j⟩⟩
def wo{op:Operator}{r:R2}{o:ag}(d:He X (binaryOp op) r)(c:wX X.K r o)(i:PE X a (tP X.K B f))(e:PE X b (tP X.K B g)):PE X (.BinOp a op b pos) (tI X.K B<|e2 o f g):=
 cF (L6 d i e) λ_ _ _ h=>Yx c h
def fH{r:R2}{o:ag}(d:He X (compareOp op) r)(c:wX X.K r o)(j:PE X a (tP X.K B f))(i:PE X b (tP X.K B g))(e:behindInMarks op b=false:=by first|exact Rx _|rfl):PE X (.Compare a [op] [b] pos) (tI X.K B<|e2 o f g):=
 cF (C0 d j i e) λ_ _ _ h=>Yx c h
def X7{f:Ex} {Q:KB} (h:tT X.K B f σ H Q):tI X.K B f σ H λx a=>∃k,x=.bl k/\Q k a:=by
 obtain⟨A,st,k,b,c,q⟩:=h;exact⟨A,st,.bl k,b,c,λv a s r=>⟨k,cA.mp r,q a s⟩⟩
def cB{r:R2}{o:ag}(d:He X (compareOp op) r)(c:wX X.K r o)(j:PE X a (tP X.K B f))(i:PE X b (tP X.K B g))(e:behindInMarks op b=false:=by first|exact Rx _|rfl):PT X (.Compare a [op] [b] pos) (tT X.K B<|e2 o f g):=
 QM (RK d j i e) λ_ _ _ h=>Yx c<|X7 h
def gO{f:Ex}(h:PE X e (tI X.K B f))(he:∀whole,isTrue e X.env whole=(do let v <- whole;standAt e.pos;holding [v] (truthy v)):=by intro _;rfl):PT X e (tT X.K B f):=
 QM (XD h he) λ_ _ _ q=>X7 q
def vM{K:Frag}{g:Int->Int->D} {o:ag} (c:∀H i j,pb K H (g i j)<|gv i j) (f:∀x y d,o x y=.ok d->∃i j,x=.int i/\y=.int j/\d=g i j):wX K (Zh gv) o:=by
 intro A H x y d v u Q w b a e q;obtain⟨i,j,rfl,rfl,rfl⟩:=f x y d e;exact⟨i,j,b.int,a.int,q _ H (aX.refl _)<|c _ _ _⟩
def Zx{K:Frag}{C:Int->Int->Prop}{g:Int->Int->D} {o:ag} (f:∀H i j,pb K H (g i j)<|gv i j) (h:∀x y d,o x y=.ok d->∃i j,x=.int i/\y=.int j/\C i j/\d=g i j):wX K (rI C gv) o:=by
 intro A H x y d v u Q w b a e q;obtain⟨i,j,rfl,rfl,c,rfl⟩:=h x y d e;exact⟨i,j,b.int,a.int,c,q _ H (aX.refl _)<|f _ _ _⟩
def Z6(h:PE X a (tP X.K B f))(c:PE X b (tP X.K B g)):PE X (.BinOp a .Sub b pos) (tI X.K B<|e2 Ay f g):=
 wo bGc (vM (λ_ _ _=>bC.mpr rfl) λx y d e=>by
  unfold Ay at e;split at e
  .cases e;exact⟨_,_,rfl,rfl,rfl⟩
  cases e) h c
def IE(i:PE X a (tP X.K B f))(h:PE X b (tP X.K B g)):PE X (.BinOp a .FloorDiv b pos) (tI X.K B<|e2 Aq f g):=
 wo bBv (Zx (λ_ _ _=>bC.mpr rfl) λx y d e=>by
  unfold Aq at e;split at e
  .obtain⟨c,e⟩:=aM e;cases e;exact⟨_,_,rfl,rfl,c,rfl⟩
  cases e) i h
def jG(i:PE X a (tP X.K B f))(h:PE X b (tP X.K B g)):PE X (.BinOp a .Mod b pos) (tI X.K B<|e2 kO f g):=
 wo bGe (Zx (λ_ _ _=>bC.mpr rfl) λx y d e=>by
  unfold kO at e;split at e
  .obtain⟨c,e⟩:=aM e;cases e;exact⟨_,_,rfl,rfl,c,rfl⟩
  cases e) i h
def bKq(i:PE X a (tP X.K B f))(h:PE X b (tP X.K B g)):PE X (.BinOp a .Pow b pos) (tI X.K B<|e2 JO f g):=
 wo bGf (Zx (λ_ _ _=>bC.mpr rfl) λx y d e=>by
  unfold JO at e;split at e
  .obtain⟨c,e⟩:=aM e;cases e;exact⟨_,_,rfl,rfl,c,rfl⟩
  cases e) i h
def bKr(K:Frag):R2:=λx y H Q=>∃l b xs a,x=.ref l/\y=.ref b/\Pc K H l xs/\Pc K H b a/\xs.length+a.length<=sizeLine/\∀p,H p=none->Q (.ref p) (Ra H p<|.lst<|xs++a)
theorem bD7:He X (binaryOp .Add) (bKr X.K):=by
 intro P s σ H x y v u Q I m k h;refine yd λA=>?_
 obtain⟨l,b,xs,K,rfl,rfl,w,B,O,q⟩:=h;cases m;cases k;obtain⟨a,r,⟨⟨E,D,g,j⟩,n,f,t,_,p⟩,z⟩:=I.list w;obtain⟨d,e,⟨⟨R,G,data2,F⟩,o,i,J,_,c⟩,L⟩:=I.list B;subst t p J c;have N:=r.length;have M:=e.length;refine A ?_
 refine concat_meets ⟨_,f,rfl⟩ ⟨_,i,rfl⟩ noFill_list_add seq_list_add PySem.F.slot_list_add PySem.F.entry_list_add (PySem.F.args_list_add_2 _ _) (list_addW l b a.toArray d.toArray n o D G j F<|by simp;lia) ⟨f,i,?_⟩
 have C:a.toArray++d.toArray=(a++d).toArray:=by simp
 rw[C];exact⟨.ref _,_,I.Iu (r.append e) (by rw[Ef];omega),rfl,q _ I.fresh⟩
def bD8(x y:ac):(⟨x.toArray⟩:Str)++(⟨y.toArray⟩:Str)=⟨(x++y).toArray⟩:=by
 show Str.append _ _=_;unfold Str.append;simp
def str_len(x:ac):(⟨x.toArray⟩:Str).length=x.length:=by simp[Str.length]
def lim(h:n<=big):n<=sizeLine:=Yg (by rwa [mF]at h) (by decide)
def dO(t:PE X a (tP X.K B f))(s:PE X b (tP X.K B g)):PE X (.BinOp a .Add b pos) (tI X.K B<|e2 dH f g):=by
 refine wo (O4.or<|â.or bD7) ?_ t s;intro A H x y d v u Q w i h e q;refine yd λj=>?_
 unfold dH at e;split at e
 .cases e;exact j<|.inl ⟨_,_,i.int,h.int,q _ H (aX.refl _)<|bC.mpr rfl⟩
 .obtain⟨c,e⟩:=aM e;cases e;exact j<|.inr<|.inl ⟨_,_,i.str,h.str,lim c,q _ H (aX.refl _)<|fC.mpr<|by rw[bD8]⟩
 rotate_left
 .cases e
 obtain⟨c,e⟩:=aM e;cases e;obtain⟨l,xs,e1,C,n⟩:=i.lst;obtain⟨m,r,e2,z,k⟩:=h.lst;exact j<|.inr<|.inr ⟨l,m,xs,r,e1,e2,C,z,by rw[(n.length),(k.length)];exact lim c,λp o=>q _ _ (bL o)<|fB w o<|n.append k⟩
def ay{K:Frag}:wX K (Zh λi j=>.bl<|decide (i<=j)) Ko:=vM (λ_ _ _=>cA.mpr rfl) λx y d e=>by
 unfold Ko at e;split at e
 .cases e;exact⟨_,_,rfl,rfl,rfl⟩
 cases e
def JE{K:Frag}:wX K (Zh λi j=>.bl<|decide (j<i)) Am:=vM (λ_ _ _=>cA.mpr rfl) λx y d e=>by
 unfold Am at e;split at e
 .cases e;exact⟨_,_,rfl,rfl,rfl⟩
 cases e
def RM{K:Frag}:wX K (Zh λi j=>.bl<|decide (j<=i)) Jw:=vM (λ_ _ _=>cA.mpr rfl) λx y d e=>by
 unfold Jw at e;split at e
 .cases e;exact⟨_,_,rfl,rfl,rfl⟩
 cases e
theorem lM.ref{K:Frag}{A:be}{H:Hp}{d:D}{v:V}(h:lM K A H d v)(j:d≠.Hb)(g:∀b,d≠.bl b)(f:∀i,d≠.int i)(c:∀s,d≠.str s):∃a,v=V.ref a:=by
 rcases h with h|⟨a,_,_,_,_,_,e,_⟩
 .cases d with
  |Hb=>exact(j rfl).elim
  |bl b=>exact(g b rfl).elim
  |int i=>exact(f i rfl).elim
  |str s=>exact(c s rfl).elim
  |tup _=>obtain⟨a,_,e,_⟩:=fV h;exact⟨a,e⟩
  |lst _=>obtain⟨a,_,e,_⟩:=dM.mp h;exact⟨a,e⟩
  |Cf _ _ _=>obtain⟨a,_,e,_⟩:=qH.mp h;exact⟨a,e⟩
  |ins _ _ _=>obtain⟨a,_,_,_,_,e,_⟩:=EL.mp h;exact⟨a,e⟩
  |Ag _ _ _=>obtain⟨a,_,_,e,_⟩:=FL.mp h;exact⟨a,e⟩
  |fn _=>obtain⟨a,e,_⟩:=PM.mp h;exact⟨a,e⟩
 exact⟨a,e⟩
def u3{K:Frag} (h:lM K A H d v):decide (v=V.Hb)=Yp d:=by
 cases d with
 |Hb=>rw[h.Hb];rfl
 |bl _=>rw[h.bl];rfl
 |int _=>rw[h.int];rfl
 |str _=>rw[h.str];rfl
 |tup _=>obtain⟨a,b,e,_⟩:=h.tup;rw[e];rfl
 |lst _=>obtain⟨a,b,e,_⟩:=h.lst;rw[e];rfl
 |Cf _ _ _=>obtain⟨a,e⟩:=h.ref (by intro z;cases z) (by intro _ z;cases z) (by intro _ z;cases z) (by intro _ z;cases z);rw[e];rfl
 |ins _ _ _=>obtain⟨a,e⟩:=h.ref (by intro z;cases z) (by intro _ z;cases z) (by intro _ z;cases z) (by intro _ z;cases z);rw[e];rfl
 |Ag _ _ _=>obtain⟨a,e⟩:=h.ref (by intro z;cases z) (by intro _ z;cases z) (by intro _ z;cases z) (by intro _ z;cases z);rw[e];rfl
 |fn _=>obtain⟨a,e⟩:=h.ref (by intro z;cases z) (by intro _ z;cases z) (by intro _ z;cases z) (by intro _ z;cases z);rw[e];rfl
def aZp(n:Nat)(i:Int):L2.Yj n i=Pu.Yj n i:=rfl
theorem bA.Ee{K:Frag}{H:Hp}{ds:dL}{vs:ss}{i:Int}{d:D}(r:bA K H ds vs)(e:Pu.Ee ds i=some d):∃v,L2.Ee vs i=some v/\pb K H d v:=by
 unfold Pu.Ee at e;unfold L2.Ee;rw[r.length,aZp];cases h:Pu.Yj ds.length i with
 |none=>rw[h]at e;cases e
 |some j=>
  rw[h]at e;exact r.get e
def rH{o:Option α}{a:α}(h:Fg o=.ok a):o=some a:=by
 cases o with
 |none=>cases h
 |some b=>cases h;rfl
def bHn{K:Frag}{x:D}(p:O7 x=false)(A:be)(H:Hp)(r y d:D)(v u:V)(Q:VK)(w:Own A H)(b:lM K A H x v)(a:lM K A H y u)(e:La x y=.ok d)(q:∀w n,aX H n->pb K (hide A n) d w->Q w n):DB K v u H Q:=by
 refine yd λj=>?_
 unfold La at e;split at e
 .cases p
 .have h:=rH e;obtain⟨l,xs,e1,m,g⟩:=b.lst;obtain⟨z,k,f⟩:=g.Ee h;exact j<|.inl ⟨l,xs,_,z,e1,a.int,m,k,q _ H (aX.refl _) f⟩
 .have h:=rH e;obtain⟨l,xs,e1,m,g⟩:=b.tup;obtain⟨z,k,f⟩:=g.Ee h;exact j<|.inr<|.inl ⟨l,xs,_,z,e1,a.int,m,k,q _ H (aX.refl _) f⟩
 .rename_i s i;obtain⟨o,e⟩:=aM e;cases h:Pu.Ee s i with
  |none=>rw[h]at e;cases e
  |some c=>
   rw[h]at e;cases e;refine j<|.inr<|.inr ⟨_,i,c,b.str,a.int,lim o,?_,q _ H (aX.refl _)<|fC.mpr rfl⟩
   rwa [List.toList_toArray]
 cases e
def Av(h:PE X a (tI X.K B f)):PE X (.BoolOp .And [a] pos) (tI X.K B f):=UL h
def bKs(h:PE X a (tI X.K B f)):PE X (.BoolOp .Or [a] pos) (tI X.K B f):=UL h
def Fq{rest:List Expr}(o:PE X a (tI X.K B f))(n:PE X (.BoolOp .And (b::rest) pos) (tI X.K B g)):PE X (.BoolOp .And (a::b::rest) pos) (tI X.K B<|qR f g):=by
 refine cF (bG5 o n) ?_
 rintro σ H Q ⟨A,st,d,c,m,q⟩;obtain⟨x,l,p⟩:=R.ua m;obtain⟨k,rfl,e⟩:=tD p;refine⟨A,st,_,c,l,λv H1 s1 i=>⟨k,cA.mp i,?_⟩⟩
 cases k with
 |true=>exact⟨A,st,d,c.mono s1,e,λw r h j=>q w r (s1.trans h) j⟩
 |false=>cases e;exact q _ H1 s1<|cA.mpr rfl
def bM9{rest:List Expr}(o:PE X a (tI X.K B f))(n:PE X (.BoolOp .Or (b::rest) pos) (tI X.K B g)):PE X (.BoolOp .Or (a::b::rest) pos) (tI X.K B<|Jk f g):=by
 refine cF (J6 o n) ?_
 rintro σ H Q ⟨A,st,d,c,m,q⟩;obtain⟨x,l,p⟩:=R.ua m;obtain⟨k,rfl,e⟩:=tD p;refine⟨A,st,_,c,l,λv H1 s1 i=>⟨k,cA.mp i,?_⟩⟩
 cases k with
 |true=>cases e;exact q _ H1 s1<|cA.mpr rfl
 |false=>exact⟨A,st,d,c.mono s1,e,λw r h j=>q w r (s1.trans h) j⟩
def bKt(h:PE X a (tI X.K B f)):PE X (.UnaryOp .Not a pos) (tI X.K B<|vB f):=by
 refine cF (bG6 h) ?_
 rintro σ H Q ⟨A,st,d,b,g,q⟩;obtain⟨x,e,j⟩:=R.ua g;obtain⟨k,rfl,i⟩:=tD j;cases i;exact⟨A,st,_,b,e,λv l s1 c=>⟨k,cA.mp c,q _ l s1<|cA.mpr rfl⟩⟩
def Bv(h:PT X a (tT X.K B f)):PW X (.BoolOp .And [a] pos) (tT X.K B f):=PK h
def wy(h:PT X a (tT X.K B f)):PW X (.BoolOp .Or [a] pos) (tT X.K B f):=M4 h
def Vv{rest:List Expr}(m:PT X a (tT X.K B f))(l:PW X (.BoolOp .And (b::rest) pos) (tT X.K B g)):PW X (.BoolOp .And (a::b::rest) pos) (tT X.K B<|qR f g):=by
 refine N5 (YD m l) ?_
 rintro σ H Q ⟨A,st,d,c,j,q⟩;obtain⟨x,i,n⟩:=R.ua j;obtain⟨k,rfl,e⟩:=tD n;refine⟨A,st,k,c,i,λH1 s1=>?_⟩
 cases k with
 |true=>exact⟨A,st,d,c.mono s1,e,λo h=>q o<|s1.trans h⟩
 |false=>cases e;exact q H1 s1
def iw{rest:List Expr}(m:PT X a (tT X.K B f))(l:PW X (.BoolOp .Or (b::rest) pos) (tT X.K B g)):PW X (.BoolOp .Or (a::b::rest) pos) (tT X.K B<|Jk f g):=by
 refine N5 (G6 m l) ?_
 rintro σ H Q ⟨A,st,d,c,j,q⟩;obtain⟨x,i,n⟩:=R.ua j;obtain⟨k,rfl,e⟩:=tD n;refine⟨A,st,k,c,i,λH1 s1=>?_⟩
 cases k with
 |true=>cases e;exact q H1 s1
 |false=>exact⟨A,st,d,c.mono s1,e,λo h=>q o<|s1.trans h⟩
def uV(g:PT X a (tT X.K B f)):PT X (.UnaryOp .Not a pos) (tT X.K B<|vB f):=by
 refine QM (bG4 g) ?_
 rintro σ H Q ⟨A,st,d,b,e,q⟩;obtain⟨x,c,i⟩:=R.ua e;obtain⟨k,rfl,h⟩:=tD i;cases h;exact⟨A,st,k,b,c,λj s1=>q j s1⟩
def bKu{c:Expr}{t:Ex}(o:PT X c (tT X.K B t))(r:PE X a (tI X.K B f))(p:PE X b (tI X.K B g)):PE X (.IfExp c a b pos) (tI X.K B<|Oz t f g):=by
 refine cF (ř o r p) ?_
 rintro σ H Q ⟨A,st,d,h,n,q⟩;obtain⟨x,m,s⟩:=R.ua n;obtain⟨k,rfl,l⟩:=tD s;refine⟨A,st,k,h,m,λu s1=>?_⟩
 cases k with
 |true=>exact⟨A,st,d,h.mono s1,l,λw j e i=>q w j (s1.trans e) i⟩
 |false=>exact⟨A,st,d,h.mono s1,l,λw j e i=>q w j (s1.trans e) i⟩
def aL:PA X [] (tA X.K B aR):=O5 dW (by
 rintro σ H Q ⟨A,st,d,b,a,q⟩;cases a;exact q [] H (aX.refl _) .nil)
def aB(k:PE X e (tI X.K B f))(i:PA X es (tA X.K B r))(h:vf e es X.env:=by rfl):PA X (e::es) (tA X.K B<|aC f r):=by
 refine O5 (bW k i h) ?_
 rintro σ H Q ⟨A,st,ds,b,j,q⟩;obtain⟨x,g,m⟩:=R.ua j;obtain⟨xs,n,l⟩:=R.ua m;cases l;exact⟨A,st,x,b,g,λv s s1 d=>⟨A,st,xs,b.mono s1,n,λp o a c=>q _ o (s1.trans a)<|.cons (d.mono<|aX.hide a) c⟩⟩
def lW(h:PA X es (tA X.K B r)):PE X (.Tuple es x1 pos) (tI X.K B<|nA r):=by
 refine cF (bGn h) ?_
 rintro σ H Q ⟨A,st,d,a,g,q⟩;obtain⟨xs,f,j⟩:=R.ua g;obtain⟨c,i⟩:=aM j;cases i;exact⟨A,st,xs,a,f,λk l s1 b=>⟨by rw[b.length];exact lim c,λp e=>q _ _ (s1.trans<|bL e)<|sO (a.own.mono s1) e b⟩⟩
def sU(h:PA X es (tA X.K B r)):PE X (.List es pos) (tI X.K B<|gK r):=by
 refine cF (aE h) ?_
 rintro σ H Q ⟨A,st,d,a,g,q⟩;obtain⟨xs,f,j⟩:=R.ua g;obtain⟨c,i⟩:=aM j;cases i;exact⟨A,st,xs,a,f,λk l s1 b=>⟨by rw[b.length];exact lim c,λp e=>q _ _ (s1.trans<|bL e)<|fB (a.own.mono s1) e b⟩⟩
def Dc(K:Frag)(c:Nat)(p:im):Sp:=λb H Q _=>∃A ds d,Own A H/\bA K (hide A H) ds b/\ds.length=c/\p ds=.ok d/\∀v a,aX H a->pb K (hide A a) d v->Q v a
def bHo{k:Nat} (F:Ja X.prog X.w X.K X.mg X.base gc k fa fd ps (Dc X.K np p)) (h:Bb k X.A) (i:X.mg x=some (.ref fa))
  (l:keepIn X.K (.ref fa)=true) (o:Binds X.K fd ps []) (j:∀ds d,p ds=.ok d->ds.length=np) (s:PA X (e::es) (tA X.K B r)) (m:Gl X x:=by rfl) (u:Ce x:=by decide)
  (he:vf e es X.env:=by rfl) (Vf:Aj pos es X.env:=by rfl) :
  PE X (.Call (.Name x p0) (e::es) [] pos) (tI X.K B<|aV p r):=by
 refine cF (D0 F h m i l o .nil RE s u he Vf) ?_
 rintro σ H Q ⟨A,st,d,a,n,q⟩;obtain⟨xs,g,b⟩:=R.ua n;refine⟨A,st,xs,a,g,λv H1 s1 r1=>?_⟩
 show Dc X.K np p _ H1 Q E0;rw[Ql];exact⟨A++B,xs,d,a.own.mono s1,r1,j _ _ b,b,λw t c f=>q w t (s1.trans c) f⟩
end
def GL(a b:Key):lg (jM a) (jM b)=decide (a=b):=by
 cases a with
 |inl i=>
  cases b with
  |inl j=>unfold jM lg;rw[F4]
  |inr y=>unfold jM lg;rw[J4]
 |inr x=>
  cases b with
  |inl j=>unfold jM lg;rw[K4]
  |inr y=>
   unfold jM lg;rw[G4,mz,Io,Mg];constructor
   .intro h;cases x;congr 1;exact ext' h
   rintro rfl;rfl
theorem TY:∀(a b:FM),oo (a.map jM) (b.map jM)=decide (a=b)
 |[],[]=>by unfold oo;simp
 |[],_::_=>by unfold oo;simp
 |_::_,[]=>by unfold oo;simp
 |x::a,y::b=>by
  rw[Ue,Ue];unfold oo;rw[GL,(TY a b),mz,Ho,Mg,Mg,Mg,List.cons.injEq]
def EK(a b:FM):lg (.tup<|a.map jM) (.tup<|b.map jM)=decide (a=b):=by
 rw[<-TY]
 conv=>lhs;unfold lg
section
variable{κ:Type}[DecidableEq κ]{E:κ->D}(hE:∀a b,lg (E a) (E b)=decide (a=b)){K:Frag}{H:Hp}
include hE
theorem MD(k:κ):∀(b:List (κ×V)) (ds:dL),bA K H ds (b.map (·.2))->(∀d,mG (b.map λp=>E p.1) ds (E k)=some d->∃v,lY b k=some v/\pb K H d v)/\(lY b k).isSome=jQ (b.map λp=>E p.1) (E k)
 |[],ds,r=>⟨λd h=>by cases ds<;>simp[mG]at h,rfl⟩
 |(a,v)::b,ds,r=>by
  cases ds with
  |nil=>have:=cC.mp r;simp at this
  |cons d ds=>
   obtain⟨m,n,e,l,j⟩:=bG.mp r;injection e with e1 e2
   subst e1 e2;obtain⟨i,g⟩:=MD k b ds j
   by_cases f:a=k
   .have c:lg (E a) (E k)=true:=by rwa [hE,Mg]
    refine⟨λd' h=>?_,?_⟩
    .unfold mG at h;rw[Ue,Fp,oP (by simpa using c)]at h
     cases h;exact⟨v,mC f,l⟩
    rw[mC f];unfold jQ;rw[Ue,Wt,c];rfl
   have c:lg (E a) (E k)=false:=by rwa [hE,J8]
   refine⟨λd' h=>?_,?_⟩
   .rw[kJ f];refine i d' ?_
    unfold mG at h ⊢
    rwa [Ue,Fp,S8 (by simpa using c)]at h
   rw[kJ f,g];unfold jQ;rw[Ue,Wt,c];rfl
def aZq(k:κ)(a:List (κ×V)):(a.any λb=>decide (b.1=k))=jQ (a.map λp=>E p.1) (E k):=by
 unfold jQ;rw[Tt];congr 1;funext p;simp[hE]
def v3(k:κ)(v:V)(d:D)(i:pb K H d v)(b:List (κ×V))(ds:dL)(r:bA K H ds (b.map (·.2))) :
  (Oe b k v).map (λp=>E p.1)=qP (b.map λp=>E p.1) (E k)/\bA K H (qQ (b.map λp=>E p.1) ds (E k) d) ((Oe b k v).map (·.2)):=by
 unfold Oe qP qQ;rw[aZq hE]
 by_cases c:jQ (b.map λp=>E p.1) (E k)=true
 .rw[Qa c,Qa c,Qa c];constructor
  .rw[vg];refine zt λp _=>?_
   simp;split<;>rfl
  clear c
  induction b generalizing ds with
  |nil=>have:=r.length;cases ds with|nil=>exact .nil|cons _ _=>simp at this
  |cons p b g=>
   obtain⟨a,w⟩:=p;cases ds with
   |nil=>have:=cC.mp r;simp at this
   |cons o ds=>
    obtain⟨l,m,e,n,j⟩:=bG.mp r;injection e with e1 e2
    subst e1 e2;rw[Ue,Ue,Fp,Ue];refine .cons ?_<|g ds j
    by_cases f:a=k
    .rwa [Qa (by rwa [hE,Mg]),Qa f]
    have h:lg (E a) (E k)=false:=by rwa [hE,J8]
    rwa [Ea (by rw[h];exact Qh),Ea f]
 rw[Ea c,Ea c,Ea c];refine⟨by rw[Fh];rfl,?_⟩
 rw[Fh];exact r.append<|.cons i .nil
end
def hJ{K:Frag} (r:pb K H d v) (h:Rb false d=true):∃k:Key,d=jM k/\v=kV k:=by
 cases d<;>first|(cases h;done)|skip
 .exact⟨.inl _,rfl,bC.mp r⟩
 exact⟨.inr _,rfl,fC.mp r⟩
theorem hV{K:Frag}{H:Hp}:∀{ds:dL}{vs:ss},bA K H ds vs->ds.all LO=true->∃a:FM,ds=a.map jM/\vs=a.map kV
 |[],vs,r,_=>⟨[],rfl,cC.mp r⟩
 |d::ds,vs,r,h=>by
  obtain⟨v,g,rfl,c,b⟩:=bG.mp r;rw[all_cons,Ho]at h;obtain⟨a,e1,e2⟩:=hV b h.2;obtain⟨k,f,e⟩:=hJ c (by cases d<;>first|(cases h.1;done)|rfl)
  exact⟨k::a,by rw[e1,f];rfl,by rw[e2,e];rfl⟩
def sV{K:Frag} (r:pb K H d v) (h:Rb true d=true):∃(a:FM)(b:Addr),d=.tup (a.map jM)/\v=.ref b/\H b=some (.tup<|a.map kV):=by
 cases d<;>first|(cases h)|skip
 obtain⟨b,f,e,g,c⟩:=lC.mp r;obtain⟨a,e1,e2⟩:=hV c (by
  unfold Rb at h;simpa using h)
 exact⟨a,b,by rw[e1],e,by rwa [<-e2]⟩
def HL{K:Frag} {t:Bool} {l:dL} {k:D} {u:V} (E:lM K A H (.Cf t l ds) v) (B:pb K H k u) (C:Rb t k=true) :
  ∃a o,v=.ref a/\zO H a u o/\o.isSome=jQ l k/\∀d,mG l ds k=some d->∃w,o=some w/\pb K (hide A H) d w:=by
 have key:∃a g,v=V.ref a/\((t=false/\∃c:List _,H a=some (.dK c)/\c.map (λp=>jM p.1)=l/\g=c.map (·.2))\/(t=true/\∃c:List _,H a=some (.dT c)/\c.map (λp=>D.tup<|p.1.map jM)=l/\g=c.map (·.2)))/\bA K (hide A H) ds g:=by
  rcases E with h|⟨a,G,o,J,g,e,e2,h,F,r⟩
  .obtain⟨a,g,e,q,r⟩:=qH.mp h;refine⟨a,g,e,?_,r⟩;rcases q with ⟨j,c,f,i⟩|⟨j,c,f,i⟩
   .exact .inl ⟨j,c,aQ _ _ _ _ f,i⟩
   exact .inr ⟨j,c,aQ _ _ _ _ f,i⟩
  cases G<;>cases e;refine⟨a,g,e2,?_,r⟩;rcases F with ⟨j,c,f,i⟩|⟨j,c,f,i⟩
  .subst f;exact .inl ⟨j,c,h,i⟩
  subst f;exact .inr ⟨j,c,h,i⟩
 obtain⟨a,g,e,q,r⟩:=key;rcases q with ⟨rfl,c,f,rfl,rfl⟩|⟨rfl,c,f,rfl,rfl⟩
 .obtain⟨m,e1,e2⟩:=hJ B C;subst e1 e2;obtain⟨s,n⟩:=MD GL m c ds r;exact⟨a,_,e,zO.k f,n,λd x=>let ⟨w,z,y⟩:=s d x;⟨w,z,y⟩⟩
 obtain⟨m,b,e1,e2,I⟩:=sV B C;subst e1 e2;obtain⟨s,n⟩:=MD EK m c ds r;exact⟨a,_,e,zO.t f I,n,λd x=>let ⟨w,z,y⟩:=s d x;⟨w,z,y⟩⟩
section
variable{X:Cx}{B:be}{a b e:Expr}{f g:Ex}{pos:Pos}
def OO:R2:=λx y H Q=>∃p v,x=.ref p/\zO H p y (some v)/\Q v H
theorem A3(o:X.A.units+64<cLine):bo X OO:=by
 intro a b k s σ H x y v u Q I f e h i;obtain⟨p,z,rfl,g,q⟩:=h;cases f;refine qa<|qa<|yw (qV I g) v8.lookup ?_;have c:wpAny (model X.prog X.w) X.A (subscripted b false (.ref p) u) (λr d=>wpAny (model X.prog X.w) X.A (letTemporaryGo a (.ref p) r >>= λ_=>pure r) (EP X k σ Q) X.xe d) X.xe s:=by
  rw[i];exact wpAny_operating<|oi (KW (by lia) I g e λn d m l=>⟨z,H,m,l,q⟩) (λr d j=>qa<|wpAny_letTemporaryGo<|Ga j) λ_ _ x=>x
 first
  |exact Ga<|qa c
  |exact qa _
  |exact qa c
def C3{K:Frag}:wX K (λx y H Q=>DB K x y H Q\/OO x y H Q) La:=by
 intro A H x y d v u Q w c b e q
 by_cases f:O7 x=true
 .cases x<;>first|(cases f)|skip
  rename_i t l j;have s:aP (Rb t y=true) (Fg<|mG l j y)=.ok d:=by cases y<;>exact e
  obtain⟨i,e2⟩:=aM s;obtain⟨a,o,r,g,_,n⟩:=HL c (by
   rcases b with h|⟨a,m,o,ds,B,e1,_⟩
   .exact h.mono (aQ _ _)
   subst e1;cases m<;>cases t<;>cases i) i
  obtain⟨z,p,k⟩:=n d<|rH e2;subst p;exact .inr ⟨a,z,r,g,q _ H (aX.refl _) k⟩
 exact .inl<|bHn (by simpa using f) A H x y d v u Q w c b e q
def bT(i:PE X a (tP X.K B f))(e:PE X b (tP X.K B g))(d:UK b:=by intro _ _;rfl)(c:X.A.units+64<cLine:=by exact Bb.units<|by assumption):PE X (.Subscript a b pos) (tI X.K B<|e2 La f g):=
 cF (nN (eM.or<|A3 c) i e d) λ_ _ _ h=>Yx C3 h
def ī:jY X (.builtin "len") (λxs H Q=>∃a b,xs=[V.ref a]/\H a=some (.dK b)/\Q (.int b.length) H):=by
 intro i s σ H xs f Q I r h;obtain⟨a,b,rfl,d,q⟩:=h;obtain⟨u,rfl,c⟩:=r.one;obtain rfl:u=Value.ref a:=c;exact bJr I (.inl d) λt g e=>⟨.int b.length,H,e,⟨t,rfl⟩,q⟩
def bD9{K:Frag} {d:dL} (g:lM K A H (.Cf false d ds) v):∃a b,v=.ref a/\H a=some (.dK b)/\b.length=d.length:=by
 rcases g with h|⟨a,k,o,l,f,e,e2,h,j,r⟩
 .obtain⟨a,f,e,q,r⟩:=qH.mp h;rcases q with ⟨_,b,i,rfl,_⟩|⟨c,_⟩
  .exact⟨a,b,e,aQ _ _ _ _ i,by simp⟩
  cases c
 cases k<;>cases e;rcases j with ⟨_,b,rfl,rfl,_⟩|⟨c,_⟩
 .exact⟨a,b,e2,h,by simp⟩
 cases c
end
section
variable{K:Frag} {st:za}
def zK{k:OK} (h:(st.set i<|some<|.v d)[j]?=some (some<|.o k xs)):j≠i/\st[j]?=some (some<|.o k xs):=by
 rw[Vd]at h
 by_cases e:i=j
 .subst e;rw[Qa rfl]at h;split at h<;>simp at h
 rw[Ea e]at h;exact⟨λz=>e z.symm,h⟩
def Le.app (l:Le A H A' H'):aX (hide (A++B) H) (hide (A'++B) H'):=λb u q=>by
 have d:=aQ _ _ _ _ q;have c:b∉A++B:=λz=>by rw[iU z]at q;cases q
 have a:=l b u (by rwa [cN λz=>c<|Dj _ z])
 rw[cN λz=>(ji.mp z).elim (λz=>by rw[iU z]at a;cases a) λz=>c<|Lg _ z]
 exact aQ _ _ _ _ a
theorem RS.set(r:RS K B A H st σ){d:D}{v:V}(i:Nat)(h:pb K (hide (A++B) H) d v):RS K B A H (st.set i<|some<|.v d) (σ.set i<|some v) where
 len:=by rw[zg,zg,r.len]
 own:=r.own
 Hh:=r.Hh
 val:=λj w e=>by
  rw[Vd]at e
  by_cases b:i=j
  .subst b;rw[Qa rfl]at e;split at e
   .simp at e;subst e;exact⟨v,by rw[Vd,Qa rfl,Qa (by rwa [<-r.len])],h⟩
   cases e
  rw[Ea b]at e;obtain⟨u,e1,q⟩:=r.val j w e;exact⟨u,by rwa [Vd,Ea b],q⟩
 lst:=λj l xs e=>by
  obtain⟨p,t⟩:=zK e;obtain⟨a,o,f,e1,m,s,g,q,u⟩:=r.lst j l xs t;refine⟨a,o,f,by rwa [Vd,Ea λz=>p z.symm],m,s,g,q,λk k' ys ek Ih=>?_⟩
  obtain⟨n,c⟩:=zK ek;rw[Vd,Ea λz=>n z.symm]at Ih
  exact u k k' ys c Ih
def bDa{p:Addr} (n:nT o=true) (w:Own (A++B) H):Own ((p::A)++B) (Ra H p o):=λa b=>by
 by_cases e:a=p
 .subst e;rwa [bB]
 rw[aK e];exact w a<|(Mb.mp b).resolve_left e
def FK{p:Addr} (d:H p=none):aX (hide (A++B) H) (hide ((p::A)++B)<|Ra H p o):=λb u q=>by
 have c:=aQ _ _ _ _ q;have e:b∉A++B:=λz=>by rw[iU z]at q;cases q
 have a:=aN c d
 rwa [cN<|show b∉(p::A)++B from λz=>(Mb.mp z).elim a e,aK a]
def ME{p:Addr} (d:H p=none):Le A H (p::A) (Ra H p o):=λb u q=>by
 have c:=aQ _ _ _ _ q;have a:=aN c d
 rwa [cN λz=>(Mb.mp z).elim a (λz=>by rw[iU z]at q;cases q),aK a]
def RS.rq(r:RS K B A H st σ){p:Addr}{v:OK} (i:Nat) (c:H p=none) (t:yq K v p o vs) (h:bA K (hide (A++B) H) ds vs) :
  RS K B (p::A) (Ra H p o) (st.set i<|some<|.o v ds) (σ.set i<|some<|.ref p) where
 len:=by rw[zg,zg,r.len]
 own:=bDa t.nt r.own
 Hh:=λa l w=>by
  rcases Mb.mp l with rfl|l
  .exact r.own.free c (Lg _ w)
  exact r.Hh a l w
 val:=λj C e=>by
  rw[Vd]at e
  by_cases b:i=j
  .subst b;rw[Qa rfl]at e;split at e<;>simp at e
  rw[Ea b]at e;obtain⟨u,e1,q⟩:=r.val j C e;exact⟨u,by rwa [Vd,Ea b],q.mono<|FK c⟩
 lst:=λj y xs e=>by
  rw[Vd]at e
  by_cases b:i=j
  .subst b;rw[Qa rfl]at e;split at e
   .simp at e;obtain⟨z,e⟩:=e;subst z e;refine⟨p,o,vs,by rw[Vd,Qa rfl,Qa (by rwa [<-r.len])],Cb,bB,t,h.mono<|FK c,λk k' ys ek Ih=>?_⟩
    by_cases d:i=k
    .exact d.symm
    rw[Vd,Ea d]at ek Ih;obtain⟨a,n,x,e1,m,f,_⟩:=r.lst k k' ys ek;rw[e1]at Ih;cases Ih;rw[c]at f;cases f
   cases e
  rw[Ea b]at e;obtain⟨a,n,x,e1,m,f,g,q,u⟩:=r.lst j y xs e;have s:=aN f c;refine⟨a,n,x,by rwa [Vd,Ea b],Kb _ m,by rwa [aK s],g,q.mono<|FK c,λk k' ys ek Ih=>?_⟩
  by_cases d:i=k
  .subst d;rw[Vd,Qa rfl]at Ih;split at Ih
   .simp at Ih;exact absurd Ih.symm s
   cases Ih
  rw[Vd,Ea d]at ek Ih;exact u k k' ys ek Ih
def RS.write(r:RS K B A H st σ) {k0 k1:OK} {o':HO} {v:ss} (E:st[i]?=some (some<|.o k0 xs)) (C:σ[i]?=some (some<|.ref a)) (y:yq K k1 a o' v) (h:bA K (hide (A++B) H) ds v) :
  RS K B A (Ra H a o') (st.set i<|some<|.o k1 ds) σ/\Le A H A (Ra H a o'):=by
 obtain⟨S,o,P,e1,m,Q,_,q,u⟩:=r.lst i k0 xs E;rw[C]at e1;cases e1;have F:hide (A++B) (Ra H a o')=hide _ H:=mV<|Dj _ m;refine⟨⟨by rw[zg,r.len],λb hb=>?_,r.Hh,λj d e=>?_,λj kj ys e=>?_⟩,?_⟩
 .by_cases e:b=a
  .subst e;rw[bB];exact y.nt
  rw[aK e];exact r.own b hb
 .rw[F];rw[Vd]at e
  by_cases l:i=j
  .subst l;rw[Qa rfl]at e;split at e<;>simp at e
  rw[Ea l]at e;exact r.val j d e
 .rw[F];have x:∀{k:Nat}{s:OK}{p:dL},(st.set i<|some<|.o k1 ds)[k]?=some (some<|.o s p)->∃n f,st[k]?=some (some<|.o n f):=λ{k s p} g=>by
   rw[Vd]at g
   by_cases D:i=k
   .subst D;exact⟨_,_,E⟩
   rw[Ea D]at g;exact⟨_,_,g⟩
  rw[Vd]at e
  by_cases l:i=j
  .subst l;rw[Qa rfl]at e;split at e
   .simp at e;obtain⟨L,e⟩:=e;subst L e;exact⟨a,o',v,C,m,bB,y,h,λk s p g w=>let ⟨n,f,t⟩:=x g;u k n f t w⟩
   cases e
  rw[Ea l]at e;obtain⟨c,I,f,G,O,R,J,N,M⟩:=r.lst j kj ys e;exact⟨c,I,f,G,O,by rwa [aK (λz=>by subst z;exact l (u j kj ys e G).symm)],J,N,λk s p g w=>let ⟨n,f,t⟩:=x g;M k n f t w⟩
 unfold Le;rw[mV m];exact aX.refl _
theorem RS.Ar(r:RS K B A H st σ)(i:Nat):∃w,RS K B w H (Pu.Ar st i) σ/\Le A H w H:=by
 unfold Pu.Ar;split
 .rename_i G xs e;obtain⟨a,o,R,e1,m,S,F,q,u⟩:=r.lst i G xs e;have g:∀b∈A.filter (λc=>decide (c≠a)),b∈A:=λb h=>(Qj.mp h).1
  have f:∀b∈A.filter _++B,b∈A++B:=λb h=>(ji.mp h).elim (λz=>Dj _<|g b z)<|Lg _
  have n:aX (hide _ H) _:=nU f;have l:a∉A.filter (λc=>decide (c≠a))++B:=λz=>(ji.mp z).elim (λz=>Ck (Qj.mp z).2 rfl)<|r.Hh a m
  refine⟨A.filter λc=>decide _,⟨by rw[zg,r.len],λb h=>r.own b<|f b h,λb h=>r.Hh b<|g b h,λj d ej=>?_,λj kj ys ej=>?_⟩,nU g⟩
  .rw[Vd]at ej
   by_cases p:i=j
   .subst p;rw[Qa rfl]at ej;split at ej
    .simp at ej;subst ej;exact⟨_,e1,F.rep (by rwa [cN l])<|q.mono n⟩
    cases ej
   rw[Ea p]at ej;obtain⟨v,e2,C⟩:=r.val j d ej;exact⟨v,e2,C.mono n⟩
  obtain⟨J,s⟩:=zK ej;obtain⟨c,D,y,t,O,P,I,N,M⟩:=r.lst j kj ys s;exact⟨c,D,y,t,Qj.mpr ⟨O,Bf<|λz=>by subst z;exact J<|u j kj ys s t⟩,P,I,N.mono n,λk E x L Q=>M k E x (zK L).2 Q⟩
 exact⟨A,r,Le.refl⟩
def RS.fz(is:ac):∀{A:be}{st:za},RS K B A H st σ->∃a,RS K B a H (is.foldl Pu.Ar st) σ/\Le A H a H:=by
 induction is with
 |nil=>exact λr=>⟨_,r,Le.refl⟩
 |cons i is f=>
  intro A st r;obtain⟨h,c,e⟩:=r.Ar i;obtain⟨g,b,d⟩:=f c;exact⟨g,b,e.trans d⟩
end
section
variable{X:Cx}{B:be}{a b e:Expr}{f g:Ex}{pos:Pos}{bd Gp:Bd}{sm:Stmt}{rest:List Stmt}
def dU:Te X [] (tS X.K B cJ):=Nx QK (by
 rintro c σ H ⟨A,st,r,a,b,p⟩;cases b;exact p A σ H Le.refl a)
def aH(h:PS X sm (tS X.K B bd))(g:Te X rest (tS X.K B Gp)):Te X (sm::rest) (tS X.K B<|aY bd Gp):=by
 refine Nx (kI h g) ?_
 rintro m σ H ⟨A,st,r,c,f,p⟩;obtain⟨x,e,a⟩:=R.ua f;refine⟨A,st,x,c,e,?_⟩;cases x with
 |nx s1=>exact λi j k l b=>⟨i,s1,r,b,a,p.mono l⟩
 |rt d=>cases a;exact p
 |bk s1=>cases a;exact p
 |ct s1=>cases a;exact p
def aW(a:PS X sm (tS X.K B bd)):Te X [sm] (tS X.K B bd):=zB a
def xo(is:ac)(h:PS X sm (tS X.K B bd)):PS X sm (tS X.K B<|ik is bd):=gC h (by
 rintro e σ H ⟨A,st,r,b,c,p⟩;obtain⟨d,a,l⟩:=RS.fz is b;exact⟨d,_,r,a,c,p.mono l⟩)
def bU(h:PE X e (tI X.K B f)):PS X (.Return (some e) pos) (tS X.K B<|cL f):=gC (VL h) (by
 rintro j σ H ⟨A,st,r,a,b,p⟩;obtain⟨d,c,g⟩:=R.ua b;cases g;exact⟨A,st,d,a,c,λv i s q=>p A v i (Le.of s) q⟩)
def MN(h:PE X e (tI X.K B f))(b:ml e none pos.line X.env:=by rfl):PS X (.Expr e pos) (tS X.K B<|Kq f):=gC (AD h b) (by
 rintro k σ H ⟨A,st,r,a,c,p⟩;obtain⟨d,g,i⟩:=R.ua c;cases i;exact⟨A,st,d,a,g,λv j s q=>p A σ j (Le.of s)<|a.mono s⟩)
def cG(he:PE X e (tI X.K B f))(l:X.N.Nodup:=by assumption)(h:X.N[i]?=some x:=by rfl)(b:Loc X.env.scope x:=by exact Pn rfl)(c:ml e (some<|.Name x pos') pos.line X.env:=by rfl)
  (j:kl X x:=by first|exact .inl rfl|exact .inr rfl|assumption):PS X (.Assign [.Name x pos'] e pos) (tS X.K B<|cO i f):=gC (jv l h b he c j) (by
 rintro o σ H ⟨A,st,r,a,g,p⟩;obtain⟨d,k,m⟩:=R.ua g;cases m;exact⟨A,st,d,a,k,λv n s q=>p A _ n (Le.of s)<|(a.mono s).set i q⟩)
def tF(K:Frag)(B:be)(f:Ex):TE:=λσ H Q=>∃A st ds,RS K B A H st σ/\f st=.ok (.lst ds)/\∀p b a,aX H a->a p=none->bA K (hide (A++B) a) ds b->Q (.ref p) (Ra a p<|.lst b)
def cp(h:PA X es (tA X.K B r)):PE X (.List es pos) (tF X.K B<|gK r):=by
 refine cF (aE h) ?_
 rintro σ H Q ⟨A,st,d,e,i,q⟩;obtain⟨xs,f,k⟩:=R.ua i;obtain⟨c,j⟩:=aM k;cases j;exact⟨A,st,_,e,f,λb l s1 a=>⟨by rw[a.length];exact lim c,λp g=>q p b l s1 g a⟩⟩
def tW(he:PE X e (tF X.K B f))(o:X.N.Nodup:=by assumption)(l:X.N[i]?=some x:=by rfl)(h:Loc X.env.scope x:=by exact Pn rfl)(j:ml e (some<|.Name x pos') pos.line X.env:=by rfl)
  (m:kl X x:=by first|exact .inl rfl|exact .inr rfl|assumption):PS X (.Assign [.Name x pos'] e pos) (tS X.K B<|qT i f):=gC (jv o l h he j m) (by
 rintro v σ H ⟨A,st,r,b,k,p⟩;obtain⟨d,n,g⟩:=R.ua k;cases d<;>first|(cases g;done)|skip
 cases g;exact⟨A,st,_,b,n,λa t u s c q=>p _ _ _ ((Le.of s).trans<|ME c)<|(b.mono s).rq i c rfl q⟩)
def iV{c:Expr}{t:Ex}{x y:List Stmt}(g:PT X c (tT X.K B t))(i:Te X x (tS X.K B bd))(h:Te X y (tS X.K B Gp)):PS X (.If c x y pos) (tS X.K B<|Oc t bd Gp):=gC (ZM g i h) (by
 rintro m σ H ⟨A,st,r,a,e,p⟩;obtain⟨d,f,j⟩:=R.ua e;obtain⟨k,rfl,b⟩:=tD j;refine⟨A,st,k,a,f,λl s1=>?_⟩
 cases k with
 |true=>exact⟨A,st,r,a.mono s1,b,p.mono<|Le.of s1⟩
 |false=>exact⟨A,st,r,a.mono s1,b,p.mono<|Le.of s1⟩)
def bO(h:X.N.Nodup:=by assumption)(e:X.N[i]?=some x:=by rfl)(b:Loc X.env.scope x:=by exact Pn rfl)
  (g:kl X x:=by first|exact .inl rfl|exact .inr rfl|assumption):PG X (.Name x pos) (tG X.K B<|jb i):=Q5 (B0 h e b g) (by
 rintro v σ H Q ⟨A,st,d,s1,a,c,f,q⟩;cases f;exact q _<|a.set i c)
def EI(K:Frag)(B:be)(is:ac):io:=λb σ H Q=>∃A st ds s1,RS K B A H st σ/\bA K (hide (A++B) H) ds b/\vv is ds st=.ok s1/\∀a,RS K B A H s1 a->Q a H
def E3{t t':io}(h:Km X es t)(m:∀v a H Q,t' v a H Q->t v a H Q):Km X es t':=λb s a H v u Q I r q=>h b s a H v u Q I r<|m v a H Q q
def mW:Km X [] (EI X.K B []):=E3 bBs (by
 rintro v σ H Q ⟨A,st,ds,s1,b,c,a,q⟩;cases ds with
 |nil=>cases a;exact⟨cC.mp c,q σ b⟩
 |cons _ _=>exact nomatch a)
def cQ{i:Nat}{is:ac} (o:Km X es (EI X.K B is)) (n:X.N.Nodup:=by assumption) (l:X.N[i]?=some x:=by rfl) (h:Loc X.env.scope x:=by exact Pn rfl)
  (m:kl X x:=by first|exact .inl rfl|exact .inr rfl|assumption)
  (j:(assignEach (.Name x pos::es) X.env).map (·.2)=assign (.Name x pos) X.env::(assignEach es X.env).map (·.2):=by rfl):Km X (.Name x pos::es) (EI X.K B<|i::is):=E3 (Ś (bO n l h m) o j) (by
 rintro v σ H Q ⟨A,st,ds,s1,c,k,b,q⟩;cases ds with
 |nil=>exact nomatch b
 |cons d ds=>
  obtain⟨u,r,e,g,f⟩:=bG.mp k;exact⟨u,r,e,A,st,d,st.set i _,c,g,rfl,λp a=>⟨A,_,ds,s1,a,f,b,q⟩⟩)
def OV{it:Addr} (a:h.IsList l items) (s:Heap.SameBut it h h') (b:l≠it):h'.IsList l items:=by
 obtain⟨o,e,r⟩:=a;exact⟨o,(s.2 l b).trans e,r⟩
theorem FX{M:Program}{w:World}{A:Around}{E:am}{it t:Addr}{a:xL}(g:t≠it):∀(n i:Nat)(s:Shared)(Q:Gc),s.heap.IsListIter it t i->s.heap.IsList t a->i+n<=a.size->
  (∀e,e.IsListIter it t (i+n)->Heap.SameBut it s.heap e->Q ((a.toList.drop i).take n) {s with heap:=e})->wpAny (model M w) A (draw (.ref it) n) Q E s
 |0,i,s,Q,hit,_,_,d=>by
  exact Ga (by simpa using d s.heap hit (Heap.SameBut.refl ..))
 |n+1,i,s,Q,hit,f,k,d=>by
  have c:i<a.size:=by lia
  refine qa<|wpAny_pyNext_list_item hit f (x:=a[i]) (by simp) λo j b=>qa<|Ff<|FX g n (i+1) _ _ j (OV f b g) (by lia) λm p h=>Ga ?_
  have l:a.toList.drop i=a[i] :: a.toList.drop (i+1):=by simp[drop_eq_getElem_cons,c]
  have:=d m (by rwa [show i+(n+1)=i+1+n by lia])<|b.trans h
  rwa [l]at this
theorem U'{M:Program}{w:World}{A:Around} {s:Shared} {f:Pos} {t:Addr} {Q:v4} (n:A.handled=none) (d:s.heap.IsList t items)
  (m:(assignEach Uh env).length=items.size) (q:(assignEach Uh env).findIdx? (·.1)=none)
  (h:∀j,Heap.ExtBut s.heap.objs.size s.heap j->wpAny (model M w) A (assignInOrder ((assignEach Uh env).map (·.2)) items.toList) Q E {s with heap:=j}) :
  wpAny (model M w) A (assign (.Tuple Uh x1 f) env<|.ref t) Q E s:=by
 have c:t≠s.heap.objs.size:=by obtain⟨o,g,_⟩:=d;exact zd<|Vb g
 refine qa<|Qt ?_;unfold unpack;rw[m,q];refine qa<|Ff<|qa<|qa<|yw d.typeIs PySem.F.slot_list_iter.lookup<|Ga<|qa<|Ff<|Ft d ?_;have k:(s.heap.push {cls:=.type "list_iterator",data:=.fields #[.ref t,rawInt 0]}).IsList t items:=by
  obtain⟨o,g,r⟩:=d;exact⟨o,bc _ g,r⟩
 refine qa<|Ff<|FX c items.size 0 _ _ ⟨_,we _ rfl,rfl,rfl⟩ k (by lia) λx l a=>?_
 have v:List.take items.size (List.drop 0 items.toList)=items.toList:=by
  exact CG (by simp)
 rw[v,Ea (by simp)]
 refine qa<|Ff<|wpAny_pyNext_list_end n l (OV k a c) (by simp) λp u=>Ga<|h p λb o i e=>u b o i<|a.extBut b o i<|bc _ e
def bMa(K:Frag)(n:Nat)(t:io):TG:=λv σ H Q=>∃a xs,v=.ref a/\(ig K H a xs\/Pc K H a xs)/\xs.length=n/\t xs σ H Q
def bHq{k:Nat}{t:io} (i:X.calm=true) (h:Km X es t)
  (g:(assignEach es X.env).length=n:=by rfl) (l:(assignEach es X.env).findIdx? (·.1)=none:=by rfl):PG X (.Tuple es k pos) (bMa X.K n t):=by
 intro j s σ H v u Q I r d;obtain⟨a,xs,e1,c,hl,d⟩:=d;rcases c with c|c
 .exact bG9 i h g l j s σ H v u Q I r ⟨a,xs,e1,c,hl,d⟩
 subst e1;cases r;obtain⟨m,f,q,w⟩:=I.list c;exact U' (I.ok.hd i) q.isList (by simp[g,<-hl,f.length]) l λx p=>h j _ σ H xs _ Q (I.kept λb o e=>p b o (zd<|Vb e) e) (by simpa using f) d
def PV:∀(is:ac)(ds:dL)(st:za),vv is ds st=.ok s1->ds.length=is.length:=by
 intro is
 induction is with
 |nil=>intro ds st h;cases ds with|nil=>rfl|cons _ _=>exact nomatch h
 |cons i is a=>intro ds st h;cases ds with|nil=>exact nomatch h|cons _ ds=>exact congrArg _<|a ds _ h
def sW{is:ac} {k:Nat} (m:X.calm=true) (h:Km X es (EI X.K B is)) (l:(assignEach es X.env).length=is.length:=by rfl) (n:(assignEach es X.env).findIdx? (·.1)=none:=by rfl):PG X (.Tuple es k pos) (tG X.K B<|Jf is):=Q5 (bHq m h l n) (by
 rintro v σ H Q ⟨A,st,d,s1,i,j,b,q⟩;cases d<;>first|(cases b)|skip
 .rename_i ds;obtain⟨a,f,e,g,c⟩:=fV j;exact⟨a,f,e,.inl<|uU (aQ _ _) g,by rw[c.length];exact PV is ds st b,A,st,ds,s1,i,c,b,q⟩
 rename_i ds;obtain⟨a,f,e,g,c⟩:=dM.mp j;exact⟨a,f,e,.inr<|(aQ _ _).seq g,by rw[c.length];exact PV is ds st b,A,st,ds,s1,i,c,b,q⟩)
def iF{t:Tg}(he:PE X e (tI X.K B f))(j:PG X tg (tG X.K B t))(h:swapsWithSole [tg] e pos.line X.env=pure false:=by rfl)(g:swappedStores [tg] e X.env=pure none:=by rfl)
  (n:(assignEach [tg] X.env).map (·.2)=[assign tg X.env]:=by rfl):PS X (.Assign [tg] e pos) (tS X.K B<|bt t f):=gC (WL he j h g n) (by
 rintro w σ H ⟨A,st,r,c,i,p⟩;obtain⟨d,k,m⟩:=R.ua i;obtain⟨s1,b,l⟩:=R.ua m;cases l;exact⟨A,st,d,c,k,λv u s q=>⟨A,st,d,s1,c.mono s,q,b,λo a=>p A o u (Le.of s) a⟩⟩)
theorem jZ {t:Tg} (T:L2.PI X tg iter (qk X.K B it)) (U:PG X tg (tG X.K B t)) (Y:Te X body (tS X.K B bd)) (Q:PassesOwn (model X.prog X.w) X.A X.env X.xe:=by exact YG) (W:X.calm=true:=by rfl)
  (O:∀x,foldedSetIterable iter X.env x=pure x:=by intro _;rfl):PS X (.For tg iter body [] pos) (tS X.K B<|nG t it bd):=gC (ZL Q W T U Y O) (by
 rintro Dn σ H ⟨A,st,r,C,P,p⟩;obtain⟨ds,V,h3⟩:=R.ua P;refine⟨A,st,ds,C,V,λJ H1 s1 UA=>⟨λi m u g=>∃c st',m=ds.length-i/\i<=ds.length/\RS X.K B c g st' u/\Tb t bd (ds.drop i) st'=.ok r/\Le A H1 c g,⟨ds.length,A,st,rfl,Gf _,C.mono s1,by rwa [drop_zero],Le.refl⟩,?_⟩⟩
 rintro i m u g ⟨c,st',rfl,S,b,k,l⟩;obtain⟨N,M⟩:=UA c g l b.own i
 by_cases a:i<ds.length
 .obtain⟨go,F⟩:=N _<|Zc a;rw[Zq a]at k;obtain⟨z,G,Z⟩:=R.ua k;obtain⟨D,Vl,n⟩:=R.ua Z;refine .inr ⟨go,λE f=>∃q o,i+1<=ds.length/\RS X.K B q f o E/\Tb t bd (ds.drop<|i+1) o=.ok r/\Le A H1 q f,?_,λx f y=>?_⟩
  .rintro E f ⟨q,o,MR,gx,FR,K⟩;exact⟨ds.length-(i+1),by omega,q,o,rfl,MR,gx,FR,K⟩
  obtain⟨sm,I⟩:=F x f y;have j:=l.trans<|Le.of sm;refine⟨c,st',ds[i],z,b.mono sm,I,G,λGm L=>⟨c,z,D,L,Vl,?_⟩⟩
  cases D with
  |nx h=>exact λw HU H4 s v=>⟨w,h,a,v,n,j.trans s⟩
  |ct h=>exact λw HU H4 s v=>⟨w,h,a,v,n,j.trans s⟩
  |bk h=>cases n;exact p.mono<|(Le.of s1).trans j
  |rt d=>cases n;exact p.mono<|(Le.of s1).trans j
 have e:i=ds.length:=by lia
 subst e;rw[RP]at k;cases k;exact .inl ⟨M<|Ib _,p c u g ((Le.of s1).trans l) b⟩)
def ND{c:Expr}{t:Ex} (G:PT X c (tT X.K B t)) (I:Te X body (tS X.K B bd)) (E:PassesOwn (model X.prog X.w) X.A X.env X.xe:=by exact YG):PS X (.While c body [] pos) (tS X.K B<|xv n t bd):=gC (ś E G I) (by
 rintro P σ H ⟨A,st,r,z,D,p⟩;refine⟨λm j s=>∃b st',RS X.K B b s st' j/\iK t bd m st'=.ok r/\Le A H b s,⟨n,A,st,z,D,Le.refl⟩,?_⟩
 rintro m j s ⟨b,st',a,v,l⟩;cases m with
 |zero=>exact nomatch v
 |succ m=>
  obtain⟨d,F,J⟩:=R.ua v;obtain⟨k,rfl,w⟩:=tD J;refine⟨b,st',k,a,F,λH1 s1=>?_⟩
  cases k with
  |false=>
   cases w;exact p b j H1 (l.trans<|Le.of s1)<|a.mono s1
  |true=>
   obtain⟨x,L,f⟩:=R.ua w;refine⟨λy q=>∃h g,RS X.K B h q g y/\iK t bd m g=.ok r/\Le A H h q,?_,b,st',x,a.mono s1,L,?_⟩
   .rintro y q ⟨h,g,K,O,C⟩;exact⟨m,Pt m,h,g,K,O,C⟩
   cases x with
   |nx e=>exact λu M N i o=>⟨u,e,o,f,l.trans<|(Le.of s1).trans i⟩
   |ct e=>exact λu M N i o=>⟨u,e,o,f,l.trans<|(Le.of s1).trans i⟩
   |bk e=>cases f;exact p.mono<|l.trans<|Le.of s1
   |rt d=>cases f;exact p.mono<|l.trans<|Le.of s1)
def bHr{K:Frag} (h:Pc K (hide (A++B) H) l vs) (r:bA K (hide (A++B) H) ds vs):Tq K B A H (RI K l) ds:=by
 intro m k b g i;have a:=(aQ _ _).seq<|(Le.app b).seq h;refine⟨λd hd=>?_,λhl=>⟨vs,a,by rwa [r.length]⟩⟩
 obtain⟨v,e,f⟩:=r.get hd;refine⟨⟨vs,v,a,e⟩,λx j y=>⟨by rw[y.1];exact aX.refl _,?_⟩⟩
 have c:=y.2 vs a;rw[y.1];rw[e]at c;cases c;exact f.mono<|Le.app b
def bHs{K:Frag} (h:ig K (hide (A++B) H) l vs) (r:bA K (hide (A++B) H) ds vs):Tq K B A H (SI K l) ds:=by
 intro m k b g i;have a:=uU (aQ _ _)<|uU (Le.app b) h;refine⟨λd hd=>?_,λhl=>⟨vs,a,by rwa [r.length]⟩⟩
 obtain⟨v,e,f⟩:=r.get hd;refine⟨⟨vs,v,a,e⟩,λx j y=>⟨by rw[y.1];exact aX.refl _,?_⟩⟩
 have c:=y.2 vs a;rw[y.1];rw[e]at c;cases c;exact f.mono<|Le.app b
def bHt{K:Frag} {lo:Int}:Tq K B A H (QC lo n) (lK lo n):=by
 intro j g c b i;have hl:(lK lo n).length=n:=by simp[lK]
 refine⟨λd hd=>?_,λh=>by rwa [hl]at h⟩
 have a:=by
  have:=(gf.mp hd).1
  rwa [hl]at this
 have e:=by
  unfold lK at hd;rw[Fi,List.getElem?_range a]at hd;exact(Gi hd).symm
 subst e;exact⟨a,λx f y=>⟨by rw[y.1];exact aX.refl _,bC.mpr y.2⟩⟩
def RC(z:ac):It:=⟨λi _=>i<z.length,λi H x a=>a=H/\∃c,z[i]?=some c/\x=.str ⟨#[c]⟩,λi _=>z.length<=i⟩
def aZs{w:World}{K:Frag} {z:ac} {it:Addr} {n:String} {t:Tok} (q:n="str_ascii_iterator"\/n="str_iterator"):Turn P w K tg (RC z) [it] it (λi h=>h.IsStrIter it n ⟨z.toArray⟩ t i) where
 mem:=by simp
 obj:=λi h st b f=>by
  have e:=by simpa using f
  subst e;obtain⟨o,e,c,d⟩:=st;exact⟨o,e,λv z=>by rw[d]at z;cases z⟩
 keep:=λi h a st k=>let ⟨o,e,r⟩:=st;⟨o,k it (by simp) o e,r⟩
 item:=by
  intro X Q O R m i S s σ H E I y st G;subst Q O R;obtain⟨F,D,V,C,B,A⟩:=y it (by simp)
  have p:∀v a g,SignAt ⟨z.toArray⟩ i v->Heap.IsStrIter a it n ⟨z.toArray⟩ t (i+1)->(∀b o,b∉[it]->s.heap.get? b=some o->a.get? b=some o)->
    ∃u,some v=some u/\wpAny (model X.prog X.w) X.A (letOwnedTupleGo tg (.ref it) u) (λ_ N=>∃x M,ya X S σ M N/\RelV x u/\(RC z).wx i H x M/\Heap.IsStrIter N.heap it n ⟨z.toArray⟩ t (i+1)/\∀b∈[it],M b=none) E {s with heap:=a,toks:=g}:=by
   intro v a g l st' j;obtain⟨c,u,J,rfl⟩:=l;obtain⟨o,e,W,d⟩:=id st';refine⟨_,rfl,Iv e W d (by rcases q with rfl|rfl<;>decide) ⟨.str _,H,(I.turned (λb o f e=>j b o (by simpa using f) e) F D C B A),⟨u,rfl⟩,⟨rfl,c,?_,rfl⟩,st',λb f=>(y b f).1⟩⟩
   simpa using J
  have T:=by simpa using G
  rcases q with rfl|rfl
  .exact(Walks.strAscii (I.ok.hd m) it ⟨z.toArray⟩ t).item i s _ _ T st λv a g l st' j=>p v a g l st' j
  exact(Walks.strWide (I.ok.hd m) it ⟨z.toArray⟩ t).item i s _ _ T st λv a g l st' j=>p v a g l st' j
 done:=by
  intro X Q O R m i S s σ H E I y st G;obtain⟨F,D,V,C,B,A⟩:=y it (by simp)
  have U:z.length<=i:=G;rcases q with rfl|rfl
  .exact wpAny_pyNext_ascii_end (I.ok.hd m) st (by simpa using U) λa L=>⟨rfl,I.turned (λb o f e=>L b o f e) F D C B A⟩
  exact wpAny_pyNext_wide_end (I.ok.hd m) st (by simpa using U) λa L=>⟨rfl,I.turned (λb o f e=>L b o f e) F D C B A⟩
 self:=λ_ _ _ _ _ st h=>by
  rcases q with rfl|rfl
  .exact wpAny_pyIter_striter_ascii st h
  exact wpAny_pyIter_striter_wide st h
def bHu{K:Frag} {z:ac}:Tq K B A H (RC z) (z.map λc=>.str [c]):=by
 intro l k f e i;refine⟨λd hd=>?_,λh=>(by simpa using h:z.length<=i)⟩
 rw[Fi]at hd;cases a:z[i]? with
 |none=>rw[a]at hd;cases hd
 |some c=>
  rw[a]at hd;cases hd;refine⟨(gf.mp a).1,λx j y=>⟨by rw[y.1];exact aX.refl _,?_⟩⟩
  obtain⟨g,b,rfl⟩:=y.2;rw[a]at b;cases b;exact fC.mpr rfl
def bMb(K:Frag)(c:TE):TI:=λσ H R=>c σ H λx b=>(∃a,x=.ref a/\(((∃xs,Pc K b a xs)/\R (RI K a) b)\/((∃xs,ig K b a xs)/\R (SI K a) b)))\/∃z:ac,x=.str ⟨z.toArray⟩/\R (RC z) b
def bHv{l:Expr}{i:TE}(r:PE X l i):L2.PI X tg l (bMb X.K i):=by
 intro u s σ H R I h;refine Lb (r u s σ H _ I h) λv s1 ⟨x,g,c,j,m⟩=>?_
 rcases m with ⟨a,e,q⟩|⟨z,rfl,q⟩
 rotate_left
 .obtain⟨t,rfl⟩:=j;refine wpAny_pyIter_strU (⟨s1.heap.objs.size,[s1.heap.objs.size],_,_,g,rfl,c.kept λb o e=>bc _ e,aZs (by unfold strIterType;split<;>simp),⟨_,we _ rfl,rfl,rfl⟩,λb hb=>?_,q⟩)
  have e:=by simpa using hb
  subst e;exact c.ph (Ib _)<|c.Ia.fresh<|Ib _
 subst e;cases j;rcases q with ⟨⟨xs,f⟩,q⟩|⟨⟨xs,f⟩,q⟩
 .obtain⟨d,k,p,n⟩:=c.list f;refine Ft p.isList (⟨s1.heap.objs.size,[s1.heap.objs.size],_,_,g,rfl,c.kept λb o e=>bc _ e,ď a _,⟨_,we _ rfl,rfl,rfl⟩,λb hb=>?_,q⟩)
  have e:=by simpa using hb
  subst e;exact c.ph (Ib _)<|c.Ia.fresh<|Ib _
 obtain⟨d,k,p,n⟩:=c.tuple f;refine wpAny_pyIter_tuple (p)<|⟨s1.heap.objs.size,[s1.heap.objs.size],_,_,g,rfl,c.kept λb o e=>bc _ e,ß a _,⟨_,we _ rfl,rfl,rfl⟩,λb hb=>?_,q⟩
 have e:=by simpa using hb
 subst e;exact c.ph (Ib _)<|c.Ia.fresh<|Ib _
def gD{l:Expr}(j:PE X l (tI X.K B f)):L2.PI X tg l (qk X.K B<|cc f):=R5 (bHv j) (by
 rintro σ H m ⟨A,st,ds,h,k,q⟩;obtain⟨x,i,b⟩:=R.ua k;refine⟨A,st,x,h,i,λv H1 s1 r1=>?_⟩
 cases x<;>first|(cases b;done)|skip
 .obtain⟨_,b⟩:=aM b;cases b;exact .inr ⟨_,fC.mp r1,q _ H1 s1 bHu⟩
 .cases b;obtain⟨a,d,e,c,g⟩:=fV r1;exact .inl ⟨a,e,.inr ⟨⟨d,uU (aQ _ _) c⟩,q _ H1 s1<|bHs c g⟩⟩
 cases b;obtain⟨a,d,e,c,g⟩:=dM.mp r1;exact .inl ⟨a,e,.inl ⟨⟨d,(aQ _ _).seq c⟩,q _ H1 s1<|bHr c g⟩⟩)
theorem uW{p:Pos}(h:X.mg "range"=none)(l:PE X a (tP X.K B f))(i:Gl X "range":=by rfl)(b:starEach [a] X.env=[(false,eval a X.env)]:=by rfl):L2.PI X tg (.Call (.Name "range" p) [a] [] pos) (qk X.K B<|nD f):=R5 (Đ i h (bW l dW b) b) (by
 rintro σ H s ⟨A,st,ds,d,k,q⟩;obtain⟨x,g,o⟩:=R.ua k;obtain⟨j,rfl,n⟩:=bE o;obtain⟨c,m⟩:=aM n;rw[mF]at c;cases m;exact⟨A,st,_,d,g,λv r s1 e=>⟨j,by rw[e.int],by lia,by lia,q _ r s1 bHt⟩⟩)
end
def UY{K:Frag} (w:Own B H) (r:bA K (hide B H) ds vs):RS K B [] H (ds.map (λd=>some<|Sl.v d)++List.replicate (N.length-ds.length) none) (L2.start N vs):=by
 have f:∀(i:Nat)(s:Sl),(ds.map (λd=>some _)++List.replicate (N.length-ds.length) none)[i]?=some (some s)->∃d,ds[i]?=some d/\s=.v d:=λi s e=>by
  by_cases b:i<ds.length
  .rw[zo (by simpa using b),List.getElem?_map,List.getElem?_eq_getElem b]at e
   simp at e;exact⟨ds[i],Zc b,e.symm⟩
  rw[SF (by simpa using b),List.getElem?_replicate]at e
  split at e<;>simp at e
 refine⟨by unfold L2.start;simp[(r.length)],by rwa [nil_append],λa g=>absurd g (by simp),λi d e=>?_,λi k xs e=>?_⟩
 .obtain⟨h,e1,e2⟩:=f i _ e;cases e2;obtain⟨v,c,j⟩:=r.get e1;refine⟨v,?_,by rwa [nil_append]⟩
  unfold L2.start;rw[zo (by simpa using ((List.getElem?_eq_some_iff.mp c).1)),List.getElem?_map,c]
  rfl
 obtain⟨h,e1,e2⟩:=f i _ e;cases e2
def pC(ds:dL)(d:D)(h:dI np n bd ds=.ok d):ds.length=np:=(aM h).1
structure Na(P:Program)(w:World)(K:Frag)(mg:jp)(base:Heap)(x:Str)(k np:Nat)(p:im):Prop where
 ex:∃(fa:Addr)(fd:FuncData)(ps:wP),Ja P w K mg base gc k fa fd ps (Dc K np p)/\mg x=some (.ref fa)/\keepIn K (.ref fa)=true/\Binds K fd ps []
 len:∀ds d,p ds=.ok d->ds.length=np
def Na.of{w:World}{K:Frag} {k:Nat} (h:Ja P w K mg base gc k fa fd ps (Dc K np p)) (m:mg x=some (.ref fa))
  (kp:keepIn K (.ref fa)=true) (b:Binds K fd ps []) (l:∀ds d,p ds=.ok d->ds.length=np):Na P w K mg base x k np p:=⟨⟨fa,fd,ps,h,m,kp,b⟩,l⟩
section
variable{X:Cx}{B:be}{a b e:Expr}{f g:Ex}{pos:Pos}
def bDb{k:Nat} (h:Na X.prog X.w X.K X.mg X.base x k np p) (b:Bb j X.A) (c:k<=j) (f:PA X (e::es) (tA X.K B r)) (d:Gl X x:=by rfl) (g:Ce x:=by decide)
  (he:vf e es X.env:=by rfl) (Vf:Aj pos es X.env:=by rfl):PE X (.Call (.Name x p0) (e::es) [] pos) (tI X.K B<|aV p r):=by
 obtain⟨n,l,i,F,m,a,bd⟩:=h.ex;exact bHo F (b.mono c) m a bd h.len f d g he Vf
def ô{K:Frag} {a:Addr} (b:Pc K H a (ns.map V.int)):bA K H [.lst<|ns.map D.int] [.ref a]:=by
 refine .cons (DK.mpr ⟨a,_,rfl,b,?_,λz=>by cases ns<;>cases z⟩) .nil
 clear b
 induction ns with
 |nil=>exact .nil
 |cons n ns c=>exact .cons (bC.mpr rfl) c
def bHw{K:Frag} {a:Addr} {E:XK} (d:Pc K H a (ns.map V.int)) (h:p [.lst<|ns.map D.int]=.ok (.bl true)):Dc K 1 p [.ref a] H (λv _=>v=.bl true) E:=
 ⟨[],[.lst _],.bl true,λb c=>absurd c (by simp),ô d,rfl,h,λv e _ r=>cA.mp r⟩
def fW(o:X.mg "len"=none)(s:PE X a (tP X.K B f))(p:Gl X "len":=by rfl)(j:vf a [] X.env:=by rfl):PE X (.Call (.Name "len" p0) [a] [] pos) (tI X.K B<|e1 fZ f):=by
 refine cF (lZ (ϧ.or<|Ϩ.or ī) p o PySem.boot_len (bW s dW j) (he:=j)) ?_
 rintro σ H Q ⟨A,st,d,k,r,q⟩;obtain⟨x,n,g⟩:=R.ua r;refine⟨A,st,x,k,n,λv H1 s1 r1=>?_⟩
 cases x<;>first|(cases g;done)|skip
 .obtain⟨c,b⟩:=aM g;cases b;exact .inr<|.inl ⟨_,by rw[r1.str],by exact lim c,q _ H1 s1<|bC.mpr rfl⟩
 .cases g;obtain⟨l,h,e,b,i⟩:=r1.tup;exact .inl ⟨l,h,by rw[e],.inr b,by rw[i.length];exact q _ H1 s1<|bC.mpr rfl⟩
 .cases g;obtain⟨l,h,e,b,i⟩:=r1.lst;exact .inl ⟨l,h,by rw[e],.inl b,by rw[i.length];exact q _ H1 s1<|bC.mpr rfl⟩
 rename_i t w ds;cases t<;>first|(cases g;done)|skip
 cases g;obtain⟨a,m,e,b,u⟩:=bD9 r1;exact .inr<|.inr ⟨a,m,by rw[e],b,by rw[u];exact q _ H1 s1<|bC.mpr rfl⟩
def SM:PO X none (tO X.K B xH):=P5 F0 (by
 rintro σ H Q ⟨A,st,o,b,a,q⟩;cases a;exact q H<|aX.refl _)
def TM(h:PE X e (tP X.K B f)):PO X (some e) (tO X.K B<|xJ f):=P5 (G0 h) (by
 rintro σ H Q ⟨A,st,o,a,d,q⟩;obtain⟨x,c,j⟩:=R.ua d;obtain⟨i,rfl,g⟩:=bE j;cases g;exact⟨A,st,_,a,c,λv k s1 b=>⟨i,b.int,q k s1⟩⟩)
theorem GK{c:Type}(x:List c):∀(k a:Nat),((List.range k).map (a + ·)).filterMap (x[·]?)=(x.drop a).take k
 |0,a=>rfl
 |k+1,a=>by
  rw[DG,Ue,LG,vg];have e:((λb=>a+b) ∘ Nat.succ)=λb=>(a+1)+b:=by funext b;simp;lia
  rw[e,(GK x k<|a+1)]
  by_cases h:a<x.length
  .rw[Nat.add_zero,Zc h];simp only[drop_eq_getElem_cons h,List.take_succ_cons]
  rw[Nat.add_zero,Xq (by lia)]
  simp[List.drop_eq_nil_of_le (by lia:x.length<=a),List.drop_eq_nil_of_le (by lia:x.length<=a+1)]
theorem F3(n d:Nat)(o:Ev):(match o with|none=>(d:Int)|some i=>if (1:Int)>0 then max 0 (min (if i<0 then i+(n:Int) else i) (n:Int)) else max (-1) (min (if i<0 then i+(n:Int) else i)<|(n:Int)-1))=((We n d o:Nat):Int):=by
 cases o with
 |none=>rfl
 |some i=>
  show (if (1)>0 then _ else _)=(((if i<0 then (i+n).toNat else min i.toNat n):Nat):Int)
  rw[Qa (by decide)]
  by_cases h:i<0
  .rw[Qa h,Qa h];lia
  rw[Ea h,Ea h];lia
theorem aZt(lo a:Ev)(n:Nat):Builtin.Str.strSliceIndices lo a 1 n=(List.range<|We n n a-We n 0 lo).map (We n 0 lo + ·):=by
 refine Eq.trans (congrArg (λz=>sliceRange z _ 1)<|((F3 n 0 lo)))<|Eq.trans (congrArg (λz=>sliceRange _ z 1)<|((F3 n n a))) ?_
 unfold sliceRange;simp only[show (1:Int)>0 by decide,if_true]
 have b:(if ((We n 0 lo):Int)<((We n n a):Int) then (((We n n a):Int)-((We n 0 lo):Int)+1-1)/1 else 0).toNat=We n n a-We n 0 lo:=by
  by_cases h:((We n 0 lo):Int)<((We n n a):Int)
  .rw[Qa h];lia
  rw[Ea h];lia
 rw[b];refine zt λk _=>?_
 lia
theorem bDc(n d:Nat)(b:d<=n)(o:Ev):We n d o<=n:=by
 cases o with
 |none=>exact b
 |some v=>
  show (if v<0 then (v+n).toNat else min v.toNat n)<=n
  by_cases a:v<0
  .rw[Qa a];lia
  rw[Ea a];lia
theorem Ĭ(x:ac)(lo b:Ev):Txt.slice ⟨x.toArray⟩ lo b=⟨(cut x lo b).toArray⟩:=by
 unfold Txt.slice cut;rw[str_len,aZt];have c:=bDc x.length x.length (Ib _) b
 by_cases h:We x.length x.length b-We x.length 0 lo=x.length
 .have a:We x.length 0 lo=0\/x.length=0:=by lia
  rw[Qa (by simp[h]),h]
  rcases a with a|a
  .rw[a,drop_zero,QP]
  rw[Wq.mp a];simp
 rw[Ea (by simp[h])]
 have e:(λ(i:Nat)=>(⟨x.toArray⟩:Str).cps[i]?)=λi=>x[i]?:=by simp
 rw[e,GK]
def bMc:tz:=λx lo a H Q=>∃z:ac,x=.str ⟨z.toArray⟩/\z.length<=sizeLine/\Q (.str ⟨(cut z lo a).toArray⟩) H
def bHx:zq X bMc:=by
 intro o s σ H x v r p lo g u Q I l b m f h;obtain⟨z,rfl,n,q⟩:=h;obtain⟨t,rfl⟩:=l;refine⟨"str",_,PySem.F.slot_str_getitem.lookup,typeIs_str _ _ _,?_⟩;have hl:(Txt.slice ⟨z.toArray⟩ lo g).length<=sizeLine:=Yg (Txt.slice_le _ _ _) n;have a:∀d k,EP X o σ Q (.str (Txt.slice _ lo g) d) {s with toks:=k}:=λd k=>⟨.str _,H,I.tok k,⟨d,by rw[Ĭ]⟩,q⟩
 cases m with
 |none=>
  cases f with
  |none=>exact YF (l:=none) (u:=none) (st:=none) b rfl<|ZG ⟨hl,a⟩
  |int j c=>exact YF (l:=none) (u:=some (j,c)) (st:=none) b rfl<|ZG ⟨hl,a⟩
 |int i e=>
  cases f with
  |none=>exact YF (l:=some (i,e)) (u:=none) (st:=none) b rfl<|ZG ⟨hl,a⟩
  |int j c=>exact YF (l:=some (i,e)) (u:=some (j,c)) (st:=none) b rfl<|ZG ⟨hl,a⟩
def aZu{K:Frag} (lo a:Ev) (r:bA K H ds vs):bA K H (cut ds lo a) (bw vs lo a):=by
 unfold cut bw;rw[r.length];exact(r.drop _).take _
def QO{lo:Option Expr}{l u:xx} (y:PE X a (tP X.K B f)) (t:PO X lo (tO X.K B l)) (s:PO X hi (tO X.K B u)):PE X (.Subscript a (.Slice lo hi none p2) pos) (tI X.K B<|mn f l u):=by
 refine cF (WX (bC3.or bHx) y t s) ?_
 rintro σ H Q ⟨A,st,d,b,w,q⟩;obtain⟨x,r,E⟩:=R.ua w;obtain⟨o,G,D⟩:=R.ua E;obtain⟨k,F,g⟩:=R.ua D;refine⟨A,st,x,b,r,λv J s1 r1=>⟨A,st,o,b.mono s1,G,λI s2=>⟨A,st,k,b.mono<|s1.trans s2,F,λH3 s3=>?_⟩⟩⟩
 have h:=r1.mono<|s2.trans s3;cases x<;>first|(cases g;done)|skip
 .obtain⟨c,C⟩:=aM g;cases C;exact .inr ⟨_,h.str,lim c,q _ H3 (s1.trans<|s2.trans s3)<|fC.mpr rfl⟩
 cases g;obtain⟨p,j,e,z,m⟩:=h.lst;exact .inl ⟨p,j,e,z,λn i=>q _ _ (s1.trans<|s2.trans<|s3.trans<|bL i)<|fB (b.own.mono<|s1.trans<|s2.trans s3) i<|aZu _ _ m⟩
end
noncomputable def Ik(cells:At):List (Str×NameKind)->List (Str×Addr)->List (Str×Addr)
 |[],a=>a
 |(n,k)::r,a=>if k == .free then Ik cells r ((n,(cells.lookup n).getD 0)::a) else Ik cells r a
theorem tJ{env:Env}:∀(names:List (Str×NameKind)) (acc:At),(∀y∈names,y.2=.free->∃c,env.cells.lookup y.1=some c)->
  (forIn names acc λx d=>if x.2 == .free then (do let c <- cellOf env x.1;pure (ForInStep.yield<|(x.1,c)::d)) else pure (ForInStep.yield d):Sem (List<|Str×Addr))=pure (Ik env.cells names acc)
 |[],acc,_=>rfl
 |(n,k)::r,acc,h=>by
  rw[forIn_cons];unfold Ik
  by_cases b:k=.free
  .subst b;obtain⟨c,e⟩:=h (n,.free) Cb rfl;have e2:cellOf env n=pure c:=by unfold cellOf;rw[e]
   simp only[e2,e];exact tJ r _ λy a=>h y<|Kb _ a
  have f:(k==NameKind.free)=false:=by simpa using b
  simp only[f];exact tJ r _ λy a=>h y<|Kb _ a
def ϗ{a:Scope} (h:∀y∈a.names,y.2=.free->∃c,env.cells.lookup y.1=some c):closureFor a env=pure (Ik env.cells a.names []):=by
 unfold closureFor;rw[<-(tJ a.names [] h)];simp
theorem IL{cells:At}:∀(names:List (Str×NameKind)) (acc:At) (x:Str) (c:Addr),(∀y∈names,y.2=.free->∃c,cells.lookup y.1=some c)->(x,c)∈Ik cells names acc->((x,NameKind.free)∈names/\cells.lookup x=some c)\/(x,c)∈acc
 |[],acc,x,c,_,h=>.inr h
 |(n,k)::r,acc,x,c,f,h=>by
  unfold Ik at h;have d:=λy i=>f y<|Kb _ i
  by_cases g:k=.free
  .subst g;obtain⟨j,e⟩:=f (n,.free) Cb rfl;rcases IL r _ x c d h with ⟨a,b⟩|a
   .exact .inl ⟨Kb _ a,b⟩
   rcases Mb.mp a with a|a
   .cases a;refine .inl ⟨Cb,?_⟩;rw[e];rfl
   exact .inr a
  rw[Ea (by simpa using g)]at h
  rcases IL r _ x c d h with ⟨a,b⟩|a
  .exact .inl ⟨Kb _ a,b⟩
  exact .inr a
theorem JL{cells:At}:∀(names:List (Str×NameKind)) (acc:At) (x:Str),((x,NameKind.free)∈names\/∃c,(x,c)∈acc)->∃c,(x,c)∈Ik cells names acc
 |[],acc,x,h=>by
  rcases h with h|h
  .cases h
  exact h
 |(n,k)::r,acc,x,h=>by
  unfold Ik
  by_cases a:k=.free
  .subst a;refine JL r _ x ?_
   rcases h with h|⟨c,h⟩
   .rcases Mb.mp h with h|h
    .cases h;exact .inr ⟨_,Cb⟩
    exact .inl h
   exact .inr ⟨c,Kb _ h⟩
  rw[Ea (by simpa using a)]
  refine JL r _ x ?_
  rcases h with h|h
  .rcases Mb.mp h with h|h
   .cases h;exact absurd rfl a
   exact .inl h
  exact .inr h
theorem tX{a:Type}:∀{l:List (Str×a)} {x:Str} {c:a},(x,c)∈l->∃d,l.lookup x=some d
 |(n,v)::r,x,c,h=>by
  rw[Ej];cases b:x==n with
  |true=>exact⟨v,rfl⟩
  |false=>
   rcases Mb.mp h with h|h
   .cases h;simp at b
   exact tX h
theorem mX{env:Env}:∀(names:List (Str×NameKind)) (x:Str),(names.map λ(n,k)=>if (k==NameKind.free&&env.scope.kind == .function&&env.kindOf n==some .cell) then (n,NameKind.cell) else (n,k)).lookup x =
  (names.lookup x).map λk=>if (k==NameKind.free&&env.scope.kind == .function&&env.kindOf x==some .cell) then NameKind.cell else k
 |[],_=>rfl
 |(n,k)::r,x=>by
  have c:=@mX env r x;show List.lookup x ((if (k==NameKind.free&&env.scope.kind == .function&&env.kindOf n==some .cell)=true then (n,NameKind.cell) else (n,k))::_)=_
  cases b:x==n with
  |true=>
   have e:=Io.mp b;subst e
   by_cases a:(k==NameKind.free&&env.scope.kind == .function&&env.kindOf x==some .cell)=true
   .rw[Qa a,Ej,Ej,b];simp only[map_some];rw[Qa a]
   rw[Ea a,Ej,Ej,b];simp only[map_some];rw[Ea a]
  |false=>
   by_cases a:(k==NameKind.free&&env.scope.kind == .function&&env.kindOf n==some .cell)=true
   .rwa [Qa a,Ej,Ej,b]
   rwa [Ea a,Ej,Ej,b]
theorem oN:∀(names:List (Str×NameKind)) (n:Nat) (acc:At),cellsFrom n names acc=cellsFrom n names []++acc
 |[],_,_=>rfl
 |(x,k)::r,n,acc=>by
  unfold cellsFrom;split
  .rw[oN r (n+1) _,oN r (n+1) [(x,n)],Co];rfl
  exact oN r n acc
theorem vN:∀(names:List (Str×NameKind)) (n:Nat) (acc:At) (x:Str) (c:Addr),(x,c)∈cellsFrom n names acc->(x,c)∈acc\/(x,NameKind.cell)∈names
 |[],_,_,_,_,h=>.inl h
 |(y,k)::r,n,acc,x,c,h=>by
  unfold cellsFrom at h;split at h
  .rename_i a;rcases vN r _ _ x c h with z|z
   .rcases Mb.mp z with z|z
    .cases z;exact .inr (by rw[show k=NameKind.cell from by simpa using a];exact Cb)
    exact .inl z
   exact .inr<|Kb _ z
  rcases vN r _ _ x c h with z|z
  .exact .inl z
  exact .inr<|Kb _ z
theorem oO:∀(names:List (Str×NameKind)) (n:Nat) (acc:At) (x:Str),((x,NameKind.cell)∈names\/∃c,(x,c)∈acc)->∃c,(x,c)∈cellsFrom n names acc
 |[],_,_,x,h=>h.elim (λz=>nomatch z) id
 |(y,k)::r,n,acc,x,h=>by
  unfold cellsFrom;split
  .refine oO r _ _ x ?_
   rcases h with h|⟨c,h⟩
   .rcases Mb.mp h with h|h
    .cases h;exact .inr ⟨n,Cb⟩
    exact .inl h
   exact .inr ⟨c,Kb _ h⟩
  rename_i a;refine oO r _ _ x ?_
  rcases h with h|h
  .rcases Mb.mp h with h|h
   .cases h;exact absurd rfl a
   exact .inl h
  exact .inr h
theorem QV{a:Type}(x:Str):∀(l r:List (Str×a)),(l++r).lookup x=(l.lookup x).or (r.lookup x)
 |[],r=>rfl
 |(y,v)::l,r=>by
  rw[Vt,Ej,Ej];cases b:x==y with
  |true=>rfl
  |false=>exact QV x l r
theorem oR{b:Type}:∀{l:List (Str×b)} {x:Str} {v:b},(l.map (·.1)).Nodup->(x,v)∈l->l.lookup x=some v
 |(y,w)::l,x,v,a,h=>by
  rw[Ue,ki]at a;rw[Ej];rcases Mb.mp h with h|h
  .cases h;simp
  have c:(x==y)=false:=by
   rw[yt];intro z;exact a.1<|ze.mpr ⟨(x,v),h,z⟩
  rw[c];exact oR a.2 h
def ĭ{A:Around} {s:Shared} {scope:Scope} {e:Addr} {Q:Env->Shared->Prop}
  (g:∀c,c.Ns s.heap.objs.size (λ_=>none)->(∀b o,s.heap.get? b=some o->c.get? b=some o)->CellsOk c (s.heap.objs.size+1) (cellsFrom (s.heap.objs.size+1) scope.names [])->
   Q {scope:=scope,locals:=s.heap.objs.size,globals:=e,cells:=cellsFrom (s.heap.objs.size+1) scope.names cl,qual:=qual,func:=none,code:=env.code,frame:=env.frame,builtins:=env.builtins} {s with heap:=c}) :
  wpAny M A (newFunctionEnv scope e cl [] qual none .none<|some env) Q E s:=by
 simp only[newFunctionEnv];refine qa<|wpAny_alloc<|qa<|wpAny_layCells _ (λd a cells=>by cases h:a==NameKind.cell<;>simp) _ _ _ _<|qa<|Ga<|Ga ?_
 have ok:=cellsFrom_ok scope.names (s.heap.push {cls:=.type "dict",data:=.dict #[]}) _ [] ⟨λ_ _ f=>(nomatch f),List.Pairwise.nil⟩ (by rw[Hi];exact Ib _)
 rw[Hi]at ok;rw[(Hi ..)];exact g _ ((Heap.Ns.new s.heap _).keeps<|pushCells_keeps _ _) (λb o q=>pushCells_keeps _ _ b o<|bc _ q) ok
structure xc(X:Cx)(scope:Scope)(is:ac):Prop where
 kind:scope.kind=.function
 nd:(scope.names.map (·.1)).Nodup
 free:∀x∈scope.names,x.2=.free->X.env.kindOf x.1=some .cell\/X.env.kindOf x.1=some .free
 own:∀(i:Nat) x,X.N[i]?=some x->(scope.names.lookup x=some .local\/scope.names.lookup x=some .cell)->i∈is
section
variable{X:Cx}{scope:Scope}{is:ac}
theorem xc.names(S:xc X scope is):∀x∈scope.names,x.2=.local->scope.names.lookup x.1=some .local:=λx a e=>oR S.nd (by rwa [<-e])
noncomputable def eQ(X:Cx)(a:Scope)(C:Addr)(Ba:Shared)(Oa:Hp)(b:be):Cx:=
 {X with Ba:=Ba,Oa:=Oa,env:=compEnvC a (cellsFrom (C+1) a.names<|Ik X.env.cells a.names []) C X.env,outer:=X.stack,stack:=X.stack,ex:=b,fn:=λx=>a.names.lookup x==some .cell,pn:=[],xe:=λ_ _=>False,calm:=true}
theorem xc.cells(S:xc X scope is)(ok:X.Ok):∀y∈scope.names,y.2=.free->∃c,X.env.cells.lookup y.1=some c:=λy a b=>ok.has y.1<|S.free y a b
def xc.lk(S:xc X scope is)(ok:X.Ok){n:Nat}{x:Str}{c:Addr}(h:(cellsFrom n scope.names<|Ik X.env.cells scope.names []).lookup x=some c) :
  ((cellsFrom n scope.names []).lookup x=some c/\scope.names.lookup x=some .cell)\/(scope.names.lookup x=some .free/\X.env.cells.lookup x=some c):=by
 rw[oN,QV]at h;cases e:(cellsFrom n scope.names []).lookup x with
 |some d=>
  rw[e]at h;cases h;rcases vN _ _ _ _ _ (Ol e) with z|z
  .cases z
  exact .inl ⟨rfl,oR S.nd z⟩
 |none=>
  rw[e]at h;rcases IL scope.names [] x c (S.cells ok) (Ol h) with ⟨b,a⟩|a
  .exact .inr ⟨oR S.nd b,a⟩
  cases a
def Uq(is:ac)(a:Sg):Sg:=is.foldl (λτ i=>τ.set i none) a
def HK(is:ac):∀a:Sg,(Uq is a).length=a.length:=by
 induction is with
 |nil=>exact λ_=>rfl
 |cons i is b=>intro a;show (Uq is _).length=_;rw[b,zg]
def aZv(is:ac):∀(b:Sg)(j:Nat)(v:V),(Uq is b)[j]?=some (some v)->b[j]?=some (some v)/\j∉is:=by
 induction is with
 |nil=>exact λb j v h=>⟨h,by simp⟩
 |cons i is c=>
  intro b j v h;obtain⟨a,d⟩:=c _ j v h;rw[Vd]at a
  by_cases e:i=j
  .subst e;rw[Qa rfl]at a;split at a<;>cases a
  rw[Ea e]at a;exact⟨a,λz=>(Mb.mp z).elim (λz=>e z.symm) d⟩
theorem õ{s:Shared}{F:be} (S:xc X scope is) (n:X.calm=true) (I:ya X aa σ H s) (B:∀b∈F,Oj X aa H b) (w:∀b∈F,b<s.heap.objs.size)
  (U:h'.Ns s.heap.objs.size λ_=>none) (t:∀b o,s.heap.get? b=some o->h'.get? b=some o) (G:CellsOk h' (s.heap.objs.size+1) (cellsFrom (s.heap.objs.size+1) scope.names [])) :
  ya (eQ X scope s.heap.objs.size s H F) [] (Uq is σ) H {s with heap:=h',toks:=t'}:=by
 have lk:=@xc.lk X scope is S I.ok<|s.heap.objs.size+1;have P:=λb j=>zd<|w b j
 have K:∀x c,X.env.cells.lookup x=some c->c<s.heap.objs.size:=λx c e=>by
  obtain⟨v,q⟩:=I.cell x c e;exact q.lt
 have d:=λx c e=>(G.empty x c<|Ol e).2
 have r:∀x k,(k=.cell\/k=.free)->scope.names.lookup x=some k->∃c,(cellsFrom (s.heap.objs.size+1) scope.names<|Ik X.env.cells scope.names []).lookup x=some c:=λx k t e=>by
  have E:=Ol e;rcases t with rfl|rfl
  .obtain⟨c,q⟩:=oO scope.names (s.heap.objs.size+1) (Ik X.env.cells scope.names []) x<|.inl E;exact tX q
  obtain⟨c,q⟩:=oO scope.names (s.heap.objs.size+1) (Ik X.env.cells scope.names []) x<|.inr<|JL scope.names [] x<|.inl E;exact tX q
 have D:∀x,(relabel scope X.env).names.lookup x=some .cell\/(relabel scope X.env).names.lookup x=some .free->scope.names.lookup x=some .cell\/scope.names.lookup x=some .free:=λx h=>by
  unfold relabel at h;rw[mX]at h;cases e:scope.names.lookup x with
  |none=>rw[e]at h;rcases h with h|h<;>cases h
  |some k=>
   rw[e]at h;simp only[map_some]at h
   by_cases n:(k==NameKind.free&&X.env.scope.kind == .function&&X.env.kindOf x==some .cell)=true
   .simp only[and_eq_true,beq_iff_eq]at n;exact .inr (by rw[n.1.1])
   rwa [Ea n]at h
 refine⟨⟨I.ok.mod,?_,I.ok.glob,I.ok.blt,Ib _,λx y c h1 h2=>?_,λx h=>?_,λx c C e=>?_,λ_=>I.ok.hd n,I.ok.frames,.inl rfl,λb j=>⟨P b j,λx c e z=>?_⟩,I.bs,?_,λb o e j=>?_,λb j z=>?_,I.stack,I.dh⟩,
  rfl,I.bare,Un.kept t,⟨_,U,λi x v e1 e2 g=>?_⟩,λx c e=>?_,I.Ia.fresh<|Ib _,λx c e=>?_,(λp T=>absurd (show p∈([]) from T)<|by simp),I.Ia.kept t,by rw[HK];exact I.len⟩
 .exact S.kind
 .rcases lk h1 with ⟨a,_⟩|⟨_,a⟩ <;> rcases lk h2 with ⟨A,_⟩|⟨_,A⟩
  .exact name_of_addr G.apart (Ol a) (Ol A)
  .exact absurd (ug (K y c A)<|LP<|d x c a) (Gh _)
  .exact absurd (ug (K x c a)<|LP<|d y c A) (Gh _)
  exact I.ok.inj x y c a A
 .rcases D x h with e|e
  .exact r x _ (.inl rfl) e
  exact r x _ (.inr rfl) e
 .have C:=Io.mp C;rcases lk e with ⟨a,_⟩|⟨a,_⟩
  .have:=d x c a;show s.heap.objs.size<=c;lia
  rw[C]at a;cases a
 .rcases lk e with ⟨a,_⟩|⟨_,a⟩
  .have h2:=w b j;rw[<-z]at h2;exact absurd (ug h2<|LP<|d x c a)<|Gh _
  exact(B b j).2.2.2.2.1 x c a z
 .exact Yg I.ok.ym I.sz
 .rcases (B b j).2.2.2.1 with z|z
  .exact I.ok.Zj b o e z
  exact absurd (ug (Vb e)<|Yg I.ok.ym z)<|Gh _
 .rcases Mb.mp (I.nk b z) with z|z
  .exact(B b j).2.1 z
  exact(B b j).2.2.1 z
 .obtain⟨e2,L⟩:=aZv is σ i v e2;have g:(relabel scope X.env).names.lookup x=some .local\/(relabel scope X.env).names.lookup x=some .cell\/(relabel scope X.env).names.lookup x=some .free:=g;have l:scope.names.lookup x=some .free:=by
   have f:=g;unfold relabel at f;rw[mX]at f;cases e:scope.names.lookup x with
   |none=>rw[e]at f;rcases f with f|f|f<;>cases f
   |some k=>
    rw[e]at f;simp only[map_some]at f
    by_cases n:(k==NameKind.free&&X.env.scope.kind == .function&&X.env.kindOf x==some .cell)=true
    .simp only[and_eq_true,beq_iff_eq]at n;rw[n.1.1]
    rw[Ea n]at f;rcases f with f|f|f
    .exact absurd (S.own i x e1<|.inl<|by rw[e,f]) L
    .exact absurd (S.own i x e1<|.inr<|by rw[e,f]) L
    exact f
  have W:(relabel scope X.env).names.lookup x=some .cell\/(relabel scope X.env).names.lookup x=some .free:=by
   rcases g with g|g|g
   .unfold relabel at g;rw[mX,l]at g;simp only[map_some]at g;split at g<;>cases g
   .exact .inl g
   exact .inr g
  have M:=S.free _ (Ol l) rfl;obtain⟨m,E,hl⟩:=I.loc;obtain⟨u,O,Q⟩:=hl i x v e1 e2<|.inr M;refine⟨u,O,.inr ⟨W,?_⟩⟩;rcases Q with ⟨R,_⟩|⟨_,c,V,N⟩
  .rcases M with q|q<;>rw[R]at q<;>cases q
  obtain⟨Y,J⟩:=r x _ (.inr rfl) l;rcases lk J with ⟨_,a⟩|⟨_,a⟩
  .rw[l]at a;cases a
  rw[V]at a;cases a;exact⟨c,J,N.keeps t⟩
 .rcases lk e with ⟨a,_⟩|⟨_,a⟩
  .exact⟨_,(G.empty x c<|Ol a).1⟩
  obtain⟨v,q⟩:=I.cell x c a;exact⟨v,q.keeps t⟩
 rcases lk e with ⟨a,_⟩|⟨_,a⟩
 .exact I.Ia.fresh (by have:=d x c a;lia)
 exact I.Qc x c a
end
def Κ(e a d c:Expr)(b:Scope)(f:Pos)(it acc:Value)(env:Env) :
  compTurn (.ListComp e [⟨a,d,[c],0⟩] b f) 0 it acc env=(standAt d.pos >>= λ_=>pyNext it >>= λr=>match r with
   |none=>pure<|.done .next
   |some v=>letOwnedTupleGo a it v >>= λ_=>assign a env v >>= λ_=>isTrue c env (eval c env) >>= λok=>
    if ok=true then (eval e env >>= λx=>call (.builtin "list.append") [acc,x] >>= λ_=>again<|.compLoop (.ListComp e [⟨a,d,[c],0⟩] b f) 0 it acc env)
    else again (.compLoop (.ListComp e [⟨a,d,[c],0⟩] b f) 0 it acc env)):=by
 unfold compTurn;simp;rfl
def ρ(d a c:Expr)(b:Scope)(e:Pos)(it acc:Value)(env:Env) :
  compTurn (.ListComp d [⟨a,c,[],0⟩] b e) 0 it acc env=(standAt c.pos >>= λ_=>pyNext it >>= λr=>match r with
   |none=>pure<|.done .next
   |some v=>letOwnedTupleGo a it v >>= λ_=>assign a env v >>= λ_=>
    (eval d env >>= λx=>call (.builtin "list.append") [acc,x] >>= λ_=>again<|.compLoop (.ListComp d [⟨a,c,[],0⟩] b e) 0 it acc env)):=by
 unfold compTurn;simp;rfl
section
variable{X:Cx}{scope:Scope}{is:ac}{elt tg iter:Expr}{pos:Pos}{wi:TI}{g:TG}{te:TE}{tt:TT}
def tx(is:ac)(j:TI)(g:TG)(l:TT)(te:TE):TE:=λσ H Q=>j σ H λJ f=>∀p,f p=none->∃W:Nat->Nat->Sg->Op,(∃m,W 0 m (Uq is σ) []<|Ra f p<|.lst [])/\
 ∀i m τ a H,W i m τ a H->H p=some (.lst a)/\((J.stop i H/\Q (.ref p) H)\/(J.go i H/\∀x h,J.wx i H x h->g x τ h λc n=>l c n λk e=>
  if k=true then te c e λy d=>d p=some (.lst a)/\a.length<sizeLine/\∃b,b < m/\W (i+1) b c (a++[y]) (Ra d p<|.lst<|a++[y]) else ∃b,b < m/\W (i+1) b c a e))
def OD{j:be} (I:ya X aa σ H s) (g:∀b∈j,Oj X aa H b) (m:s.heap.objs.size<=C) (J:ya (eQ X scope C s H j) [] σ5 H5 s5)
  (f:Heap.SameBut C s5.heap h'):ya X aa σ H5 {s5 with heap:=h'}:=by
 have i:H5 C=none:=J.free;have h:∀b o,s.heap.get? b=some o->b≠C:=λb o e z=>by
  subst z;exact absurd (ug (Vb e) m)<|Gh _
 have t:=λb o e=>by
  refine(J.Ia b o e).Pe (λc v hc q=>f.extBut c v ?_ q) (λ_ q=>q) λ_ _ q=>q
  rintro rfl;rcases hc with z|z
  .subst z;rw[i]at e;cases e
  rw[i]at z;cases z
 obtain⟨u,w,p,tt,os⟩:=s5;have r:=J.os;subst r;exact I.call (d':=p) (t':=tt) (⟨λb o e n a d=>f.extBut b o (h b o e)<|J.base.keep b o e n a d,λb o e n a d=>by
   obtain⟨k,q⟩:=J.base.slot b o e n a d;exact⟨k,f.extBut b _ (h b o e) q⟩,J.base.free,λb o e d=>by
   obtain⟨l,q⟩:=J.base.there b o e d;exact⟨l,f.extBut b _ (h b o e) q⟩,J.base.Zf,J.base.Df,J.base.Yf⟩) t J.bare λb a=>⟨(g b a).2.2.2.1,(g b a).2.1,(g b a).2.2.2.2.1,(g b a).2.2.2.2.2⟩
theorem GX{p:Addr} {k:Sem α} {Q:α->ut} (he:PE Y elt te) (d:∀e a,Y.xe e a->E e a) (I:ya Y aa τ H s) (f:te τ H λy c=>c p=some (.lst vs)/\vs.length<sizeLine/\∀a,ya Y aa τ (Ra c p<|.lst<|vs++[y]) a->wpAny (model Y.prog Y.w) Y.A k Q E a) :
  wpAny (model Y.prog Y.w) Y.A (eval elt Y.env >>= λx=>call (.builtin "list.append") [.ref p,x] >>= λ_=>k) Q E s:=by
 refine qa<|oi (he aa s τ H _ I f) (λu s1 ⟨y,c,I4,r4,hp,g,q⟩=>?_) d
 obtain⟨z,b,n,r,hl,e⟩:=I4.yj hp;refine qa<|uz lP ⟨_,e,rfl⟩ PySem.F.entry_list_append (I8 _ _) (PySem.list_append p b.toArray n u<|by rw[cg];lia) ⟨e,(q _<|I4.Yl hp e (by simp) (r.append<|.cons r4 .nil) ?_)⟩
 rw[Ef,um];lia
end
def Į{env:Env}{g:TG} {it p:Addr} {A:be} {E:Ch} {R:Result->ut} {Zp:Pos} {rest:Sem Fin}
  (T:Turn Y.prog Y.w Y.K tg J A it E) (O:Y.calm=true) (hE:Y.xe=λ_ _=>False) (hg:PG Y tg g) (hq:(Code.compLoop e 0 (.ref it) (.ref p) Y.env).quiet=true)
  (ju:∀(s:Shared)(Q:Fin->ut),wpAny (model Y.prog Y.w) Y.A (pyNext (.ref it) >>= λr=>match r with
    |none=>pure<|.done .next
    |some v=>letOwnedTupleGo tg (.ref it) v >>= λ_=>assign tg Y.env v >>= λ_=>rest) Q (λ_ _=>False) s->
   wpAny (model Y.prog Y.w) (Y.A.under<|.compLoop e 0 (.ref it) (.ref p) Y.env) ((model Y.prog Y.w).den<|.compLoop e 0 (.ref it) (.ref p) Y.env) Q (λ_ _=>False) s)
  (Og:∀(τ:Sg)(H:Hp)(s:Shared) (aa:db) (vs:ss) (N:GE) (Q:Fin->ut),ya Y aa τ H s->
   (tt τ H λk f=>if k=true then te τ f λy C=>C p=some (.lst vs)/\vs.length<sizeLine/\N (Ra C p<|.lst<|vs++[y]) (vs++[y]) else N f vs)->
   (∀z a ws,ya Y aa τ a z->N a ws->Q (.again<|.compLoop e 0 (.ref it) (.ref p) Y.env) z)->wpAny (model Y.prog Y.w) Y.A rest Q (λ_ _=>False) s)
  (W:Nat->Nat->Sg->Op) {V:xz}
  (step:∀i m τ vs H,W i m τ vs H->H p=some (.lst vs)/\((J.stop i H/\V H)\/(J.go i H/\∀x a,J.wx i H x a->g x τ a λD H2=>tt D H2 λk f=>
   if k=true then te D f λy C=>C p=some (.lst vs)/\vs.length<sizeLine/\∃c,c < m/\W (i+1) c D (vs++[y]) (Ra C p<|.lst<|vs++[y]) else ∃c,c < m/\W (i+1) c D vs f)))
  (hR:∀τ H s,ya Y [] τ H s->V H->R (.ok .next) s) (I:ya Y [] τ H s) (st:E i s.heap) (fr:∀b∈A,Oj Y [] H b) (w:W i m τ vs H) :
  codeAny (model Y.prog Y.w) Y.A (.compLoop e 0 (.ref it) (.ref p) Y.env) R s:=by
 have F:∀{a:Hp},(∀b∈A,a b=none)->∀b∈A,Oj Y [] a b:=λhn b h=>⟨hn b h,(fr b h).2⟩
 refine codeAny_loop hq (λn z=>∃i Z dj a,ya Y [] Z a z/\E i z.heap/\(∀b∈A,a b=none)/\W i n Z dj a) (λn s3 hI=>?_) m ⟨i,τ,vs,H,I,st,λb h=>(fr b h).1,w⟩
 obtain⟨i,B,M,f,X,P,S,w3⟩:=hI;refine oi (ju s3 _ ?_) (λ_ _ q=>q)<|λ_ _ q=>q.elim
 obtain⟨hp,G⟩:=step i n B M f w3;rcases G with ⟨t,qe⟩|⟨go,G⟩
 .refine qa (Lb (T.done Y rfl rfl rfl O i [] s3 B f _ X (F S) P t) λr s4 ⟨hr,I4⟩=>?_)
  subst hr;exact Ga<|hR B f s4 I4 qe
 refine qa<|Lb (T.item Y rfl rfl rfl O i [] s3 B f _ X (F S) P go) λr s4 ⟨u,hr,h4⟩=>?_
 subst hr;refine qa<|Lb h4 λ_ s5 ⟨x,H5,I5,r5,y5,l,K⟩=>?_
 have U:=hg _ s5 B H5 x u _ (I5.pinned (F K)<|T.obj _ _ l) r5<|G x H5 y5;rw[hE]at U;refine qa<|Lb U λ_ s6 ⟨j,H6,I6,q6⟩=>?_
 refine Og j H6 s6 _ M (λa ws=>∃c,c < n/\W (i+1) c j ws a) _ I6 q6 λs7 H7 ws L ⟨c,hm,w7⟩=>⟨rfl,c,hm,i+1,j,ws,H7,L.Nd,T.keep _ _ _ l λb h o e=>(L.pin (b,o)<|Lg _<|Lg _<|vA h e).1,λb h=>?_,w7⟩
 obtain⟨o,e,d⟩:=T.obj _ _ l b h;exact(L.pin (b,o)<|Lg _<|Lg _<|vA h e).2.1
section
variable{X:Cx}{scope:Scope}{is:ac}{elt tg iter c:Expr}{pos:Pos}{wi:TI}{g:TG}{te:TE}{tt:TT}
def uX{FI:Option (Value->Sem Unit)} {aa:db} {s:Shared} {H:Hp} {Q:VK} {f:List Expr} {rest:Env->Value->Value->Sem Fin} (S:xc X scope is) (hc:X.calm=true) (hi:L2.PI X tg iter wi) (hg:∀C j i a,PG (eQ X scope C j i a) tg g)
  (Z:∀it acc env,(Code.compLoop (.ListComp elt [⟨tg,iter,f,0⟩] scope pos) 0 it acc env).quiet=true)
  (ju:∀C j i a it p (s:Shared) (Q:Fin->ut),wpAny (model X.prog X.w) X.A (pyNext (.ref it) >>= λr=>match r with
    |none=>pure<|.done .next
    |some v=>letOwnedTupleGo tg (.ref it) v >>= λ_=>assign tg (eQ X scope C j i a).env v >>= λ_=>rest (eQ X scope C j i a).env (.ref it)<|.ref p) Q (λ_ _=>False) s->
   wpAny (model X.prog X.w) (X.A.under<|.compLoop (.ListComp elt [⟨tg,iter,f,0⟩] scope pos) 0 (.ref it) (.ref p) (eQ X scope C j i a).env) ((model X.prog X.w).den<|.compLoop (.ListComp elt [⟨tg,iter,f,0⟩] scope pos) 0 (.ref it) (.ref p) (eQ X scope C j i a).env) Q (λ_ _=>False) s)
  (Og:∀C j i a it p (l:Sg) (H:Hp) (s:Shared) (aa:db) (vs:ss) (N:GE) (Q:Fin->ut),ya (eQ X scope C j i a) aa l H s->
   (tt l H λk t=>if k=true then te l t λy V=>V p=some (.lst vs)/\vs.length<sizeLine/\N (Ra V p<|.lst<|vs++[y]) (vs++[y]) else N t vs)->
   (∀G Y ws,ya (eQ X scope C j i a) aa l Y G->N Y ws->Q (.again<|.compLoop (.ListComp elt [⟨tg,iter,f,0⟩] scope pos) 0 (.ref it) (.ref p) (eQ X scope C j i a).env) G)->
   wpAny (model X.prog X.w) X.A (rest (eQ X scope C j i a).env (.ref it)<|.ref p) Q (λ_ _=>False) s)
  (hs:∀x,foldedSetIterable iter X.env x=pure x) (I:ya X aa σ H s) (h:tx is wi g tt te σ H Q)
  (GR:∀C p A u D B t a l,B.heap.objs.size<=C->ya X aa σ t B->(∀b∈a,Oj X aa t b)->ya (eQ X scope C B t a) [] l A u->u.heap.Ns C D->Q (.ref p) A->compPost (model X.prog X.w) X.A X.xe FI Qf (.ref p) C (.ok .next) u) :
  wpAny (model X.prog X.w) X.A (comprehension (.ListComp elt [⟨tg,iter,f,0⟩] scope pos) scope X.env ppos (newList []) false (eval iter X.env) FI) Qf X.xe s:=by
 refine wpAny_comprehension_free rfl hs (ϗ<|S.cells I.ok) S.kind S.names<|Lb (hi aa s σ H _ I h) λv s1 h1=>Lb h1 λjS q h2=>?_
 obtain⟨it,a,tn,J,H2,e,U,T,O,M,hW⟩:=h2;subst e;refine tm<|ĭ λUd su E gu=>?_
 have R:ya X aa σ _ {q with heap:=q.heap.push {cls:=.type "list",data:=.seq ([]).toArray} }:=U.Iu .nil<|Gf _
 obtain⟨W,⟨m,w0⟩,step⟩:=hW q.heap.objs.size U.fresh;have w:=λb d=>let ⟨o,e,_⟩:=T.obj 0 _ O b d;Vb e
 have F:∀b∈a,Oj X aa (Ra H2 q.heap.objs.size<|.lst []) b:=λb d=>⟨by rw[aK<|zd<|w b d];exact(M b d).1,(M b d).2⟩
 have K:=E;have z:=õ (t':=q.toks) S hc R F (λb d=>ug (w b d)<|by rw[Hi];exact Jo _) su K gu
 have L:=T.keep 0 _ _ O λb _ o e=>K b o<|bc _ e
 have n:=Į (Y:=eQ X scope _ _ _ a) (env:=X.env) (Zp:=pos) T rfl rfl (hg _ _ _ a) (Z _ _ _) (ju _ _ _ a it q.heap.objs.size) (Og _ _ _ a it q.heap.objs.size) W step
  (λl A u P q5=>by
   obtain⟨D,Xl,_⟩:=P.loc;exact GR _ _ A u D _ _ a l (Ib _) R F P Xl q5) z L (λb d=>⟨(F b d).1,(z.ok.Lw b d).1,z.ok.Vj b d,.inl d,λx c e=>(z.ok.Lw b d).2 x c e,λp hp=>absurd (show p∈([]) from hp)<|by simp⟩) w0
 exact codeAny_compStart_list n<|T.self _ 0 _ _ _ L n
def rJ{it acc:Value}:(Code.compLoop e 0 it acc env).quiet=true:=rfl
def Y7 {it p : Addr}  {Q : Fin -> Shared -> Prop} (h : wpAny (model X.prog X.w) X.A (pyNext (.ref it) >>= fun r => match r with
        |none=>pure<|.done .next
        |some v=>letOwnedTupleGo tg (.ref it) v >>= λ_=>assign tg Y.env v >>= λ_=>(eval elt Y.env >>= λx=>call (.builtin "list.append") [.ref p,x] >>= λ_=>again<|.compLoop (.ListComp elt [⟨tg,iter,[],0⟩] scope pos) 0 (.ref it) (.ref p) Y.env)) Q (λ_ _=>False) s) :
      wpAny (model X.prog X.w) (X.A.under<|.compLoop (.ListComp elt [⟨tg,iter,[],0⟩] scope pos) 0 (.ref it) (.ref p) Y.env) ((model X.prog X.w).den<|.compLoop (.ListComp elt [⟨tg,iter,[],0⟩] scope pos) 0 (.ref it) (.ref p) Y.env) Q (λ_ _=>False) s:=by
 refine wpAny_noted ?_
 rw[ρ];exact qa<|Qt<|oi h (λ_ _ q=>q) λ_ _ q=>q.elim
def RO {it p : Addr}  {Q : Fin -> Shared -> Prop} (h : wpAny (model X.prog X.w) X.A (pyNext (.ref it) >>= fun r => match r with
        |none=>pure<|.done .next
        |some v=>letOwnedTupleGo tg (.ref it) v >>= λ_=>assign tg Y.env v >>= λ_=>(isTrue c Y.env (eval c Y.env) >>= λok=>if ok=true then (eval elt Y.env >>= λx=>call (.builtin "list.append") [.ref p,x] >>= λ_=>again<|.compLoop (.ListComp elt [⟨tg,iter,[c],0⟩] scope pos) 0 (.ref it) (.ref p) Y.env)
          else again (.compLoop (.ListComp elt [⟨tg,iter,[c],0⟩] scope pos) 0 (.ref it) (.ref p) Y.env))) Q (λ_ _=>False) s) :
      wpAny (model X.prog X.w) (X.A.under<|.compLoop (.ListComp elt [⟨tg,iter,[c],0⟩] scope pos) 0 (.ref it) (.ref p) Y.env) ((model X.prog X.w).den<|.compLoop (.ListComp elt [⟨tg,iter,[c],0⟩] scope pos) 0 (.ref it) (.ref p) Y.env) Q (λ_ _=>False) s:=by
 refine wpAny_noted ?_
 rw[Κ];exact qa<|Qt<|oi h (λ_ _ q=>q) λ_ _ q=>q.elim
def bDd:TT:=λ_ H Q=>Q true H
def b7(j:Y.xe=λ_ _=>False)(he:PE Y elt te){it p:Addr}(c:Sg)(H:Hp)(s:Shared)(aa:db)(vs:ss)(N:GE)(Q:Fin->ut)(I:ya Y aa c H s)
  (h:bDd c H λk i=>if k=true then te c i λy f=>f p=some (.lst vs)/\vs.length<sizeLine/\N (Ra f p<|.lst<|vs++[y]) (vs++[y]) else N i vs)
  (mono:∀(Q g:VK),(∀v d,Q v d->g v d)->te c H Q->te c H g)
  (q:∀e d ws,ya Y aa c d e->N d ws->Q (.again<|.compLoop (.ListComp elt [⟨tg,iter,[],0⟩] scope pos) 0 (.ref it) (.ref p) Y.env) e) :
  wpAny (model Y.prog Y.w) Y.A (eval elt Y.env >>= λx=>call (.builtin "list.append") [.ref p,x] >>= λ_=>again<|.compLoop (.ListComp elt [⟨tg,iter,[],0⟩] scope pos) 0 (.ref it) (.ref p) Y.env) Q (λ_ _=>False) s:=by
 exact GX he (by rw[j];exact λ_ _ z=>z) I<|mono _ _ (λy f ⟨a,b,n⟩=>⟨a,b,λe l=>Ga<|q e _ _ l n⟩) h
end
section
variable{K:Frag} {st:za}
def bDe(is:ac):∀st:za,(Uj is st).length=st.length:=by
 induction is with
 |nil=>exact λ_=>rfl
 |cons i is a=>intro st;show (Uj is _).length=_;rw[a,zg]
def PD(is:ac):∀(st:za)(j:Nat)(x:Sl),(Uj is st)[j]?=some (some x)->st[j]?=some (some x)/\j∉is:=by
 induction is with
 |nil=>exact λσ j v h=>⟨h,by simp⟩
 |cons i is b=>
  intro σ j v h;obtain⟨a,c⟩:=b _ j v h;rw[Vd]at a
  by_cases e:i=j
  .subst e;rw[Qa rfl]at a;split at a<;>cases a
  rw[Ea e]at a;exact⟨a,λz=>(Mb.mp z).elim (λz=>e z.symm) c⟩
def IK(is:ac):∀(a:Sg)(j:Nat),j∉is->(Uq is a)[j]?=a[j]?:=by
 induction is with
 |nil=>exact λa j _=>rfl
 |cons i is b=>
  intro a j h;show (Uq is _)[j]?=_;rw[b _ j λz=>h<|Kb _ z,Vd,Ea<|show ¬ i=j from λz=>h<|z ▸ Cb]
theorem RS.Uj(is:ac)(r:RS K B A H st σ):RS K B A H (Pu.Uj is st) (Uq is σ) where
 len:=by rw[bDe,HK,r.len]
 own:=r.own
 Hh:=r.Hh
 val:=λi d e=>by
  obtain⟨e1,h⟩:=PD is st i _ e;rw[IK is σ i h];exact r.val i d e1
 lst:=λi f xs e=>by
  obtain⟨e1,h⟩:=PD is st i _ e;obtain⟨a,o,b,e2,m,k,c,q,u⟩:=r.lst i f xs e1;refine⟨a,o,b,by rwa [IK is σ i h],m,k,c,q,λj k' ys ej OH=>?_⟩
  obtain⟨l,g⟩:=PD is st j _ ej;rw[IK is σ j g]at OH;exact u j k' ys l OH
def RS.weaken(r:RS K B A H st σ)(l:st'.length=st.length)(h:∀(j:Nat)(x:Sl),st'[j]?=some (some x)->st[j]?=some (some x)):RS K B A H st' σ where
 len:=l.trans r.len
 own:=r.own
 Hh:=r.Hh
 val:=λi d e=>r.val i d<|h i _ e
 lst:=λi g xs e=>by
  obtain⟨a,o,c,e2,m,n,f,q,u⟩:=r.lst i g xs<|h i _ e;exact⟨a,o,c,e2,m,n,f,q,λj k b p s=>u j k b (h j _ p) s⟩
def mem_mid{p b:Addr}:b∈A++p::B↔b=p\/b∈A++B:=by
 simp;constructor
 .rintro(h|h|h)
  .exact .inr (.inl h)
  .exact .inl h
  exact .inr<|.inr h
 rintro(h|h|h)
 .exact .inr (.inl h)
 .exact .inl h
 exact .inr<|.inr h
def VY{p:Addr} (d:H p=none):aX (hide (A++B) H) (hide (A++p::B)<|Ra H p o):=λb u q=>by
 have c:=aQ _ _ _ _ q;have a:=aN c d
 rwa [cN<|(λz=>(mem_mid.mp z).elim a<|λz=>by rw[iU z]at q;cases q),aK a]
def RS.grow(r:RS K B A H st σ){p:Addr} (b:H p=none):RS K (p::B) A (Ra H p<|.lst vs) st σ where
 len:=r.len
 own:=λa c=>by
  by_cases e:a=p
  .subst e;rw[bB];rfl
  rw[aK e];exact r.own a<|(mem_mid.mp c).resolve_left e
 Hh:=λa c d=>by
  rcases Mb.mp d with rfl|d
  .exact r.own.free b (Dj _ c)
  exact r.Hh a c d
 val:=λj k e=>let ⟨u,e1,q⟩:=r.val j k e;⟨u,e1,q.mono<|VY b⟩
 lst:=λj g xs e=>by
  obtain⟨a,o,i,e1,m,h,f,q,u⟩:=r.lst j g xs e;exact⟨a,o,i,e1,m,by rwa [aK<|aN h b],f,q.mono<|VY b,u⟩
def RS.put{p:Addr}(r:RS K (p::B) A H st σ):RS K (p::B) A (Ra H p<|.lst vs) st σ:=by
 have c:hide _ (Ra H p<|.lst vs)=hide (A++p::B) H:=mV<|mem_mid.mpr<|.inl rfl;refine⟨r.len,λb hb=>?_,r.Hh,λj d e=>by rw[c];exact r.val j d e,λj kk xs e=>?_⟩
 .by_cases e:b=p
  .subst e;rw[bB];rfl
  rw[aK e];exact r.own b hb
 obtain⟨a,o,g,e1,m,h,f,q,u⟩:=r.lst j kk xs e;refine⟨a,o,g,e1,m,?_,f,by rwa [c],u⟩
 have:a≠p:=λz=>r.Hh a m<|z ▸ Cb
 rwa [aK this]
end
def Ys(is:ac)(t:Tg):Prop:=∀d st a,t d st=.ok a->a.length=st.length/\∀(j:Nat),j∉is->a[j]?=st[j]?
def kF:Ys [i] (jb i):=λd st a h=>by
 cases h;refine⟨zg,λj hj=>?_⟩
 rw[Vd,Ea λz=>hj (by simp[z])]
def sF{is:ac}:Ys is (Jf is):=by
 have key:∀(is:ac)(ds:dL)(st a:za),vv is ds st=.ok a->a.length=st.length/\∀(j:Nat),j∉is->a[j]?=st[j]?:=by
  intro is
  induction is with
  |nil=>intro ds st a h;cases ds with|nil=>cases h;exact⟨rfl,λ_ _=>rfl⟩|cons _ _=>cases h
  |cons i is b=>
   intro ds st a h;cases ds with
   |nil=>cases h
   |cons d ds=>
    obtain⟨e,c⟩:=b ds _ a h;refine⟨by rw[e,zg],λj hj=>?_⟩
    rw[c j λz=>hj<|Kb _ z,Vd,Ea<|show ¬ i=j from λz=>hj<|z ▸ Cb]
 intro d st a h;cases d<;>first|(cases h)|exact key is _ st a h
noncomputable def AI:List Str->Bool
 |[]=>true
 |x::r=>!r.contains x&&AI r
theorem d7:∀{l:wP},AI l=true->l.Nodup
 |[],_=>.nil
 |x::r,h=>by
  unfold AI at h;simp only[and_eq_true]at h;exact ki.mpr ⟨λz=>by rw[List.contains_iff_mem.mpr z]at h;exact Bool.noConfusion h.1,d7 h.2⟩
noncomputable def Z7(a:Scope)(b:List (Str×NameKind))(N:wP)(is:ac):Bool:=
 a.kind == .function&&AI (a.names.map (·.1))&&a.names.all (λx=>x.2 !=.free||b.lookup x.1==some .cell||b.lookup x.1==some .free) &&
  (List.range N.length).all λi=>(a.names.lookup (N.getD i "") !=some .local&&a.names.lookup (N.getD i "") !=some .cell)||is.contains i
def xc.of{is:ac}(h:Z7 scope X.env.scope.names X.N is=true):xc X scope is:=by
 unfold Z7 at h;simp only[and_eq_true,List.all_eq_true]at h;obtain⟨⟨⟨f,g⟩,d⟩,c⟩:=h;refine⟨by simpa using f,d7 g,λx hx hf=>?_,λi x e hl=>?_⟩
 .have:=d x hx;simp at this;rcases this with (z|z)|z
  .exact absurd hf z
  .exact .inl z
  exact .inr z
 have:=c i<|Vi.mpr<|(gf.mp e).1;rw[kh,e]at this;simp at this;rcases this with ⟨b,a⟩|z
 .rcases hl with hl|hl
  .exact absurd hl b
  exact absurd hl a
 simpa using z
def bDf{K:Frag} (Q b:VK) (m:∀v a,Q v a->b v a) (h:tI K B f τ H Q):tI K B f τ H b:=
 let ⟨A,st,d,c,e,q⟩:=h;⟨A,st,d,c,e,λv a s r=>m v a<|q v a s r⟩
def bj(K:Frag)(f:Ex):TE:=λτ H Q=>∃B,tI K B f τ H Q
def m_(K:Frag)(f:Ex):TT:=λτ H Q=>∃B,tT K B f τ H Q
def j_(K:Frag)(t:Tg):TG:=λv τ H Q=>∃B,tG K B t v τ H Q
def Iy(h:∀B,PE X e<|tI X.K B f):PE X e (bj X.K f):=λa s σ H Q I ⟨B,q⟩=>h B a s σ H Q I q
def b8(h:∀B,PT X e<|tT X.K B f):PT X e (m_ X.K f):=λa s σ H Q I ⟨B,q⟩=>h B a s σ H Q I q
def LF{t:Tg}(h:∀B,PG X e<|tG X.K B t):PG X e (j_ X.K t):=λa s σ H v u Q I r ⟨B,q⟩=>h B a s σ H v u Q I r q
def kD{K:Frag} (Q a:VK) (m:∀v b,Q v b->a v b) (h:bj K f τ H Q):bj K f τ H a:=let ⟨B,q⟩:=h;⟨B,bDf Q a m q⟩
theorem vF{K:Frag} {is:ac} {t:Tg} {c:Ex} {H:Hp} (hsub:Ys is t)
  (D:∀n H Q,m_ K c n H Q->tt n H Q) {st:za} {ys:dL} (O:RS K B A H st σ) (hx:it st=.ok xs) (hl:xs.length<=big) (hy:kW t c f (Uj is st) xs=.ok ys) {Q:VK}
  (q:∀p vs H1 d,aX H H1->H1 p=none->aX H1 d->d p=some (.lst vs)->bA K (hide (A++p::B) d) ys vs->Q (.ref p) d):tx is (qk K B it) (j_ K t) tt (bj K f) σ H Q:=by
 refine⟨A,st,xs,O,hx,λJ H1 s1 UA p hp=>⟨λi m n vs d=>m=xs.length-i/\i<=xs.length/\vs.length<=i/\d p=some (.lst vs)/\aX H1 d/\RS K _ A d _ n/\
   ∃ds rest,bA K (hide (A++p::B) d) ds vs/\kW t c f _ (xs.drop i)=.ok rest/\ds++rest=ys,⟨xs.length,rfl,Gf _,Gf _,bB,bL hp,((O.mono s1).Uj is).grow hp,[],ys,.nil,by rwa [drop_zero],rfl⟩,?_⟩⟩
 intro i m n vs d hW;refine yd λS=>?_
 obtain⟨rfl,hi,fI,h,l,U,ds,rest,o,r,G⟩:=hW;have P:∀a,a∈(p::A)++B↔a∈A++p::B:=λa=>by
  rw[mem_mid];exact Mb
 obtain⟨Z,Y⟩:=UA _ d (λb u z=>by
  have I:=aQ _ _ _ _ z;rw[cN<|(λw=>(Mb.mp w).elim (aN I hp)<|λw=>by rw[iU w]at z;cases z)]
  exact l b u I) (λa F=>U.own a<|(P a).mp F) i
 by_cases g:i<xs.length
 .obtain⟨go,L⟩:=Z _<|Zc g;rw[Zq g]at r;obtain⟨s,V,h5⟩:=R.ua r;obtain⟨cb,E,h6⟩:=R.ua h5;obtain⟨k,rfl,T⟩:=tD h6;obtain⟨N,W⟩:=hsub _ _ _ V;have back:∀(j:Nat)(z:Sl),(Uj is st)[j]?=some (some z)->s[j]?=some _:=λj z ez=>by rwa [W j (PD is st j z ez).2]
  refine S ⟨h,.inr ⟨go,λx H2 y=>?_⟩⟩
  have C:=(L x H2 y).1;have X:=(L x H2 y).2;have h:=C _ _ h;have l:=l.trans C;have o:=o.mono<|aX.hide C;refine⟨p::B,A,Uj is st,xs[i],s,(U.mono C),(X.mono<|nU λa F=>(P a).mpr F),V,λVo jx=>D _ _ _ ⟨p::B,A,s,k,jx,E,λH3 s3=>?_⟩⟩
  cases k with
  |true=>
   obtain⟨M,eS,h8⟩:=R.ua T;obtain⟨HB,Au,h9⟩:=R.ua h8;cases h9;refine⟨p::B,A,s,M,jx.mono s3,eS,λv H4 s4 r4=>⟨s4 _ _<|s3 _ _ h,?_,xs.length-(i+1),by lia,rfl,g,by rw[Ef,um];lia,bB,?_,?_,ds++[M],HB,?_,Au,by rwa [Co]⟩⟩
   .have:sizeLine=16777216:=rfl;have hbg:=mF;lia
   .exact λb u z=>by rw[aK<|aN z hp];exact s4 _ _<|s3 _ _<|l b u z
   .exact(((jx.mono s3).mono s4).weaken (by rw[N]) back).put
   rw[mV<|mem_mid.mpr<|.inl rfl];exact(o.mono<|aX.hide<|s3.trans s4).append (.cons r4 .nil)
  |false=>exact⟨xs.length-(i+1),by lia,rfl,g,by lia,s3 _ _ h,l.trans s3,(jx.mono s3).weaken (by rw[N]) back,ds,rest,o.mono<|aX.hide s3,T,G⟩
 have e:i=xs.length:=by lia
 subst e;rw[RP]at r;cases r;rw[Ql]at G;subst G;exact S ⟨h,.inl ⟨Y<|Ib _,q p vs H1 d s1 hp l h o⟩⟩
section
variable {iter c:Expr} {t:Tg} {u:Ex}
def NN(j:Y.xe=λ_ _=>False)(he:PE Y elt te)(t:PT Y c tt){it p:Addr}(d:Sg)(H:Hp)(s:Shared)(aa:db)(vs:ss)(N:GE)(Q:Fin->ut)(I:ya Y aa d H s)
  (h:tt d H λk r=>if k=true then te d r λy g=>g p=some (.lst vs)/\vs.length<sizeLine/\N (Ra g p<|.lst<|vs++[y]) (vs++[y]) else N r vs)
  (mono:∀H (Q l:VK),(∀v e,Q v e->l v e)->te d H Q->te d H l)
  (q:∀f e ws,ya Y aa d e f->N e ws->Q (.again<|.compLoop (.ListComp elt [⟨tg,iter,[c],0⟩] scope pos) 0 (.ref it) (.ref p) Y.env) f) :
  wpAny (model Y.prog Y.w) Y.A (isTrue c Y.env (eval c Y.env) >>= fun ok => if ok = true then (eval elt Y.env >>= fun x => call (.builtin "list.append") [.ref p, x] >>= fun _ => again<|.compLoop (.ListComp elt [⟨tg, iter, [c], 0⟩] scope pos) 0 (.ref it) (.ref p) Y.env)
        else again (.compLoop (.ListComp elt [⟨tg,iter,[c],0⟩] scope pos) 0 (.ref it) (.ref p) Y.env)) Q (λ_ _=>False) s:=by
 have m:=t aa s d H _ I h;rw[j]at m;refine qa<|Lb m λk s1 ⟨w,o,i⟩=>?_
 cases k with
 |true=>
  exact GX he (by rw[j];exact λ_ _ z=>z) o<|mono _ _ _ (λy g ⟨a,b,n⟩=>⟨a,b,λf u=>Ga<|q f _ _ u n⟩) i
 |false=>
  exact Ga<|q s1 w vs o i
def UM{Q:VK}{st:za} {ys:dL} {p:Addr} {b:Hp} (c:RS X.K B A H st σ) (q:∀v b,aX H b->pb X.K (hide (A++B) b) (.lst ys) v->Q v b) (s1:aX H H1) (d:H1 p=none) (s2:aX H1 b)
  (f:b p=some (.lst vs)) (r:bA X.K (hide (A++p::B) b) ys vs):Q (.ref p) b:=
 q _ b (s1.trans s2) (dM.mpr ⟨p,vs,rfl,(by rwa [cN<|(c.own.mono s1).free d]),r.mono<|nU λa e=>mem_mid.mpr<|.inr e⟩)
def eU{is:ac}(D:L2.PI X tg iter (qk X.K B it))(E:∀(B:be)(C:Addr)(c:Shared)(b:Hp)(a:be),PG (eQ X scope C c b a) tg<|tG X.K B t)
  (he:∀(B:be)(C:Addr)(c:Shared)(b:Hp)(a:be),PE (eQ X scope C c b a) elt<|tI X.K B f) (G:X.calm=true:=by rfl) (hsub:Ys is t:=by exact kF) (S:xc X scope is:=by exact .of rfl) (y:∀x,foldedSetIterable iter X.env x=pure x:=by intro _;rfl) :
  PE X (.ListComp elt [⟨tg,iter,[],0⟩] scope pos) (tI X.K B<|bH is t it bK f):=by
 intro j s σ H Q I h;refine yd λJ=>?_
 obtain⟨A,st,d,g,F,q⟩:=h;obtain⟨xs,v,O⟩:=R.ua F;obtain⟨hl,M⟩:=aM O;obtain⟨ys,u,L⟩:=R.ua M;cases L;refine J (uX (rest:=λe it p=>eval elt e >>= λx=>call _ [p,x] >>= λ_=>again<|.compLoop _ 0 it p e) S G D (λC c b a=>LF λB=>E B C c b a) (λ_ _ _=>rJ)
  (λC c b a it p s Q h=>Y7 h) (λC c b a it p τ H s j i N Q I h q=>b7 rfl (Iy λB=>he B C c b a) τ H s j i N Q I h (λQ V m h=>kD Q V m h) q) y I
  (vF hsub (λτ H Q ⟨B,A,st,k,g,hk,q⟩=>?_) g v hl u λp i H1 H' s1 z l w r=>UM g q s1 z l w r) λC p Z s5 o s3 H3 a τ K Y T W P n=>⟨o,P,λh' U=>⟨.ref p,Z,OD Y T K W U,rfl,n⟩⟩)
 cases hk;exact q H<|aX.refl _
def yK{is:ac}(F:L2.PI X tg iter (qk X.K B it))(G:∀(B:be)(C:Addr)(g:Shared)(e:Hp)(a:be),PG (eQ X scope C g e a) tg<|tG X.K B t)
  (z:∀(B:be)(C:Addr)(g:Shared)(e:Hp)(a:be),PT (eQ X scope C g e a) c<|tT X.K B u)
  (he:∀(B:be)(C:Addr)(g:Shared)(e:Hp)(a:be),PE (eQ X scope C g e a) elt<|tI X.K B f) (K:X.calm=true:=by rfl) (hsub:Ys is t:=by exact kF) (S:xc X scope is:=by exact .of rfl) (D:∀x,foldedSetIterable iter X.env x=pure x:=by intro _;rfl) :
  PE X (.ListComp elt [⟨tg,iter,[c],0⟩] scope pos) (tI X.K B<|bH is t it u f):=by
 intro k s σ H Q I h;refine yd λL=>?_
 obtain⟨A,st,d,j,J,q⟩:=h;obtain⟨xs,w,T⟩:=R.ua J;obtain⟨hl,P⟩:=aM T;obtain⟨ys,v,O⟩:=R.ua P;cases O;exact L (uX (te:=bj X.K f) (rest:=λb it p=>isTrue c b (eval c b) >>= λok=>if ok=true then (eval elt b >>= λx=>call _ [p,x] >>= λ_=>again<|.compLoop _ 0 it p b) else again (.compLoop _ 0 it p b)) S K F (λC g e a=>LF λB=>G B C g e a) (λ_ _ _=>rJ)
  (λC g e a it p s Q h=>RO h) (λC g e a it p τ H s k i N Q I h q=>NN rfl (Iy λB=>he B C g e a) (b8 λB=>z B C g e a) τ H s k i N Q I h (λ_ Q Y m h=>kD Q Y m h) q) D I
  (vF hsub (λτ H Q h=>h) j w hl v λp i H1 H' s1 E l y r=>UM j q s1 E l y r) λC p H5 s5 o s3 H3 a τ M I3 V Z U n=>⟨o,U,λh' W=>⟨.ref p,H5,OD I3 V M Z W,rfl,n⟩⟩)
end
end Pu
namespace Pu
open PySem PySem.Spec PyProof.Rows L2 PySem.SeqAt
section
variable{X:Cx}{aa:db}{σ:Sg}{H:Hp}{s:Shared}
def G3(I:ya X aa σ H s) {xs ys:ss} (g:Pc X.K H a xs) (f:ig X.K H a ys):False:=by
 obtain⟨c,_,⟨o,n,e,d,_⟩,_⟩:=I.list g;obtain⟨i,_,⟨h,e2,b,_⟩,_⟩:=I.tuple f;rw[e]at e2;cases e2;rw[d]at b;simp at b
mutual
theorem pb.inj(I:ya X aa σ H s):∀{x y:D}{v:V},plain x=true->plain y=true->pb X.K H x v->pb X.K H y v->x=y
 |x,y,v,l,k,h,c=>by
  cases x<;>first|(simp at l;done)|skip
  all_goals cases y<;>first|(simp at k)|skip
  case tup.tup=>
   obtain⟨a,j,e,d,i⟩:=fV h;obtain⟨n,m,f,g,b⟩:=fV c;subst e;cases f;cases I.xi d g;rw[bA.inj I (by simpa using l) (by simpa using k) i b]
  case lst.lst=>
   obtain⟨a,j,e,d,i⟩:=dM.mp h;obtain⟨n,m,f,g,b⟩:=dM.mp c;subst e;cases f;cases I.Ld d g;rw[bA.inj I (by simpa using l) (by simpa using k) i b]
  case tup.lst=>
   obtain⟨a,j,e,d,i⟩:=fV h;obtain⟨n,m,f,g,b⟩:=dM.mp c;subst e;cases f;exact(G3 I g d).elim
  case lst.tup=>
   obtain⟨a,j,e,d,i⟩:=dM.mp h;obtain⟨n,m,f,g,b⟩:=fV c;subst e;cases f;exact(G3 I d g).elim
  all_goals first|(obtain⟨_,_,c,_⟩:=c;subst c;cases h)|(obtain⟨_,_,h,_⟩:=h;subst h;cases c)|(subst h;cases c;first|rfl|done)|(subst h)
theorem bA.inj(I:ya X aa σ H s):∀{xs ys:dL}{vs:ss},bZ xs=true->bZ ys=true->bA X.K H xs vs->bA X.K H ys vs->xs=ys
 |[],ys,vs,c,b,h,a=>by
  have e:=cC.mp h;subst e;cases ys with
  |nil=>rfl
  |cons y ys=>obtain⟨_,_,a,_⟩:=bG.mp a;cases a
 |x::xs,ys,vs,c,b,h,a=>by
  obtain⟨v,r,e,f,d⟩:=bG.mp h;subst e;cases ys with
  |nil=>exact nomatch cC.mp a
  |cons y ys=>
   obtain⟨k,l,i,j,g⟩:=bG.mp a;cases i;simp at c b;rw[pb.inj I c.1 b.1 f j,bA.inj I c.2 b.2 d g]
end
mutual
theorem WY:∀x:D,plain x=true->jd x x=true
 |.Hb,_=>rfl
 |.bl b,_=>by simp
 |.int i,_=>by simp
 |.str x,_=>by simp
 |.tup x,h=>by exact OJ x (by simpa using h)
 |.lst x,h=>OJ x (by simpa using h)
 |.Cf _ _ _,h=>by simp at h
 |.ins _ _ _,h=>by simp at h
 |.Ag _ _ _,h=>by simp at h
 |.fn _,h=>by simp at h
theorem OJ:∀x:dL,bZ x=true->pF x x=true
 |[],_=>rfl
 |a::x,h=>by
  simp at h;unfold pF;rw[WY a h.1,OJ x h.2];rfl
end
def pairE(xs ys:dL)(j:Nat):Bool:=jd (xs.getD j .Hb)<|ys.getD j .Hb
theorem sD:∀xs ys:dL,((List.range<|min xs.length ys.length).all (pairE xs ys)&&xs.length==ys.length)=pF xs ys
 |[],[]=>rfl
 |[],_::_=>rfl
 |_::_,[]=>rfl
 |x::xs,y::ys=>by
  have e:pF (x::xs) (y::ys)=(jd x y&&pF xs ys):=by conv=>lhs;unfold pF
  rw[e,<-(sD xs ys)];have a:min (x::xs).length (y::ys).length=min xs.length ys.length+1:=by simp only[length_cons];omega
  rw[a,DG,all_cons,List.all_map];have e1:pairE (x::xs) (y::ys) 0=jd x y:=rfl;have e2:(pairE (x::xs) (y::ys) ∘ Nat.succ)=pairE xs ys:=rfl;rw[e1,e2,Bool.and_assoc];simp
def ö{ys:dL}(h:xs.length≠ys.length):pF xs ys=false:=by
 rw[<-sD];simp[h]
inductive Vw (X:Cx) (H:Hp) (s:Shared):D->Value->Prop
 |Hb:Vw X H s .Hb .none
 |bl (b:Bool):Vw X H s (.bl b) (.bool b)
 |int (i:Int) (t:Tok):Vw X H s (.int i) (.int i t)
 |str (x:ac) (t:Tok):Vw X H s (.str x) (.str ⟨x.toArray⟩ t)
 |tup {x:dL} {ws:ss} {its:cr} {l:Addr} (hq:s.heap.IsTuple l its.toArray) (hr:bA X.K H x ws) (hv:Ca ws its):Vw X H s (.tup x) (.ref l)
 |lst {x:dL} {ws:ss} {its:cr} {l:Addr} (hq:s.heap.IsList l its.toArray) (hr:bA X.K H x ws) (hv:Ca ws its):Vw X H s (.lst x) (.ref l)
def Vw.of(I:ya X aa σ H s){x:D} {a:Value} (h:pb X.K H x v) (r:RelV v a) (p:plain x=true):Vw X H s x a:=by
 cases x with
 |Hb=>have e:=qG.mp h;subst e;subst r;exact .Hb
 |bl b=>have e:=cA.mp h;subst e;subst r;exact .bl b
 |int i=>have e:=bC.mp h;subst e;obtain⟨t,e⟩:∃t,a=Value.int i t:=r;subst e;exact .int i t
 |str x=>have e:=fC.mp h;subst e;obtain⟨t,e⟩:∃t,a=Value.str _ t:=r;subst e;exact .str x t
 |tup x=>obtain⟨l,k,e,j,g⟩:=fV h;subst e;have e:=r;subst e;obtain⟨f,c,d,_⟩:=I.tuple j;exact .tup d g c
 |lst x=>obtain⟨l,k,e,j,g⟩:=dM.mp h;subst e;subst r;obtain⟨f,c,d,_⟩:=I.list j;exact .lst d.isList g c
 |_=>simp at p
def bDh{A:Around}{x y:D}{a b:Value}{k:Bool}(g:Vw X H s x a)(f:Vw X H s y b)(h:RcAt A s a b k)(i:a=b->k=true):EqAt A s a b k:=λc w E Q d=>by
 refine Ff<|Eo (λe=>?_) λ_=>?_
 .rw[i<|eq_of_beq e]at d;exact qa<|ur<|Ga d
 cases g<;>cases f<;>exact qa<|h c w E _<|br d
def aZy{u:V}{a:Value}(h:RelV v a)(b:RelV u a):v=u:=by
 cases v<;>(first|subst h|(obtain⟨_,h⟩:=h;subst h)) <;> cases u<;>first|(cases b;done)|(cases b;rfl)|(obtain⟨_,b⟩:=b;cases b;done)|(obtain⟨_,b⟩:=b;cases b;rfl)
def XY(x y:ac):jd (.str x) (.str y)=((⟨x.toArray⟩:Str)==⟨y.toArray⟩):=by rw[<-str_beq];simp
def bKy{A:Around}{a b:Value}{k c:Bool}(h:RcAt A s a b k)(e:k=c):RcAt A s a b c:=e ▸ h
def bKz{A:Around}{a b:Value}{k c:Bool}(h:RcNeAt A s a b k)(e:k=c):RcNeAt A s a b c:=e ▸ h
def YY(I:ya X aa σ H s){x y:D}{A:Around}{u:V}{a b:Value}(i:pb X.K H x v)(g:pb X.K H y u)(f:RelV v a)(d:RelV u b)(j:plain x=true)(c:plain y=true)(h:RcAt A s a b (jd x y)):EqAt A s a b (jd x y):=
 bDh (Vw.of I i f j) (Vw.of I g d c) h λe=>by rw[pb.inj I j c i<|aZy (e ▸ f) d ▸ g];exact WY y c
mutual
theorem NE(I:ya X aa σ H s)(x y:D)(A:Around)(v u:V)(a b:Value)(n:pb X.K H x v)(m:pb X.K H y u)(l:RelV v a)(k:RelV u b)(r:A.units+Fe x<cLine)(i:plain x=true)(h:plain y=true):RcAt A s a b (jd x y)/\RcNeAt A s a b (!jd x y):=by
 have c:=Nat.lt_of_le_of_lt (WG _ _) r;have p:=Vw.of I n l i;have o:=Vw.of I m k h;clear n m l k;cases p<;>cases o
 case tup.tup x _ i1 _ hq hr hv y _ i2 _ Ge hr' Tp=>
  have t:Fe (.tup x)=gU x+1:=by conv=>lhs;unfold Fe
  have:=PJ I x y A.in1 _ _ _ _ hr hr' hv Tp (by lia) (by simpa using i) (by simpa using h)
  have e:jd (.tup x) (.tup y)=pF x y:=by conv=>lhs;unfold jd
  rw[e,<-sD,<-hr.length,<-hr'.length,hv.length,Tp.length,<-cg,<-cg];exact⟨RcAt.tuples hq Ge c λj f d=>by simpa using this j (by simpa using f) (by simpa using d),RcNeAt.tuples hq Ge c λj f d=>by simpa using this j (by simpa using f) (by simpa using d)⟩
 case lst.lst x _ i1 _ hq hr hv y _ i2 _ Ge hr' Tp=>
  have t:Fe (.lst x)=gU x+1:=by conv=>lhs;unfold Fe
  have:=PJ I x y A.in1 _ _ _ _ hr hr' hv Tp (by lia) (by simpa using i) (by simpa using h)
  have e:jd (.lst x) (.lst y)=pF x y:=by conv=>lhs;unfold jd
  have q:i1.length=x.length:=by rw[<-hv.length,hr.length]
  have w:i2.length=y.length:=by rw[<-Tp.length,hr'.length]
  rw[e]
  by_cases g:i1.length=i2.length
  .rw[show pF x y=(List.range i1.toArray.size).all (pairE x y) by rw[<-sD,cg,q];simp[show x.length=y.length by lia]]
   exact⟨RcAt.lists hq Ge (by simpa using g) c λj f d=>by simpa using this j _ _,RcNeAt.lists hq Ge (by simpa using g) c λj f d=>by simpa using this j (by simpa using f) (by simpa using d)⟩
  rw[ö (by lia)]
  exact⟨RcAt.lists_lengths hq Ge (by simpa using g) c,RcNeAt.lists_lengths hq Ge (by simpa using g) c⟩
 all_goals
  constructor
  .apply bKy
   .with_reducible first|exact RcAt.none_none|exact RcAt.none_bool _|exact RcAt.none_int _ _|exact RcAt.none_str _ _|exact RcAt.none_tuple ‹_› c|exact RcAt.none_list ‹_› c|exact RcAt.bool_none _|exact RcAt.bool_bool _ _|exact RcAt.bool_int _ _ _|exact RcAt.bool_str _ _ _|exact RcAt.bool_tuple _ ‹_› c|exact RcAt.bool_list _ ‹_› c|exact RcAt.int_none _ _|exact RcAt.int_bool _ _ _|exact RcAt.int_int _ _ _ _|exact RcAt.int_str _ _ _ _|exact RcAt.int_tuple _ _ ‹_› c|exact RcAt.int_list _ _ ‹_› c|exact RcAt.str_none _ _|exact RcAt.str_bool _ _ _|exact RcAt.str_int _ _ _ _|exact RcAt.str_str _ _ _ _|exact RcAt.str_tuple _ _ ‹_› c|exact RcAt.str_list _ _ ‹_› c|exact RcAt.tuple_none ‹_› c|exact RcAt.tuple_bool _ ‹_› c|exact RcAt.tuple_int _ _ ‹_› c|exact RcAt.tuple_str _ _ ‹_› c|exact RcAt.tuple_list ‹_› ‹_› c|exact RcAt.list_none ‹_› c|exact RcAt.list_bool _ ‹_› c|exact RcAt.list_int _ _ ‹_› c|exact RcAt.list_str _ _ ‹_› c|exact RcAt.list_tuple ‹_› ‹_› c
   first|exact(XY _ _).symm|(unfold jd;rfl)
  apply bKz
  .with_reducible first|exact RcNeAt.none_none|exact RcNeAt.none_bool _|exact RcNeAt.none_int _ _|exact RcNeAt.none_str _ _|exact RcNeAt.none_tuple ‹_› c|exact RcNeAt.none_list ‹_› c|exact RcNeAt.bool_none _|exact RcNeAt.bool_bool _ _|exact RcNeAt.bool_int _ _ _|exact RcNeAt.bool_str _ _ _|exact RcNeAt.bool_tuple _ ‹_› c|exact RcNeAt.bool_list _ ‹_› c|exact RcNeAt.int_none _ _|exact RcNeAt.int_bool _ _ _|exact RcNeAt.int_int _ _ _ _|exact RcNeAt.int_str _ _ _ _|exact RcNeAt.int_tuple _ _ ‹_› c|exact RcNeAt.int_list _ _ ‹_› c|exact RcNeAt.str_none _ _|exact RcNeAt.str_bool _ _ _|exact RcNeAt.str_int _ _ _ _|exact RcNeAt.str_str _ _ _ _|exact RcNeAt.str_tuple _ _ ‹_› c|exact RcNeAt.str_list _ _ ‹_› c|exact RcNeAt.tuple_none ‹_› c|exact RcNeAt.tuple_bool _ ‹_› c|exact RcNeAt.tuple_int _ _ ‹_› c|exact RcNeAt.tuple_str _ _ ‹_› c|exact RcNeAt.tuple_list ‹_› ‹_› c|exact RcNeAt.list_none ‹_› c|exact RcNeAt.list_bool _ ‹_› c|exact RcNeAt.list_int _ _ ‹_› c|exact RcNeAt.list_str _ _ ‹_› c|exact RcNeAt.list_tuple ‹_› ‹_› c
  first|exact congrArg _ (XY _ _).symm|(rfl)
theorem PJ(I:ya X aa σ H s):∀(xs ys:dL)(A:Around)(vs g:ss)(f bs:cr),bA X.K H xs vs->bA X.K H ys g->Ca vs f->Ca g bs->A.units+gU xs<cLine->bZ xs=true->bZ ys=true->∀(j:Nat)(l:j<f.length)(k:j<bs.length),EqAt A s f[j] bs[j] (pairE xs ys j)
 |[],_,A,vs,g,f,bs,i,h,b,a,o,d,c,j,l,k=>by
  have e:=cC.mp i;subst e;cases b;exact absurd l<|nr _
 |x::xs,[],A,vs,g,f,bs,i,h,b,a,o,d,c,j,l,k=>by
  have e:=cC.mp h;subst e;cases a;exact absurd k<|nr _
 |x::xs,y::ys,A,vs,g,f,bs,i,h,b,a,o,d,c,j,l,k=>by
  obtain⟨v,r,e,q,z⟩:=bG.mp i;subst e;obtain⟨u,t,e,p,w⟩:=bG.mp h;subst e;have B:gU (x::xs)=max (Fe x) (gU xs):=by conv=>lhs;unfold gU
  rw[B]at o;simp at d c;cases b with
  |cons b n=>
   cases a with
   |cons a m=>
    cases j with
    |zero=>exact YY I q p b a d.1 c.1 (NE I x y A v u _ _ q p b a (by lia) d.1 c.1).1
    |succ j=>exact PJ I xs ys A r t _ _ z w n m (by lia) d.2 c.2 j _ _
end
def ZY(I:ya X aa σ H s)(x y:D)(A:Around)(v u:V)(a b:Value)(f:pb X.K H x v)(e:pb X.K H y u)(d:RelV v a)(c:RelV u b)(i:A.units+Fe x<cLine)(h:plain x=true)(g:plain y=true):EqAt A s a b (jd x y):=
 YY I f e d c h g (NE I x y A v u _ _ f e d c i h g).1
def aZz(I:ya X aa σ H s)(x y:D)(A:Around)(v u:V)(a b:Value)(f:pb X.K H x v)(e:pb X.K H y u)(d:RelV v a)(c:RelV u b)(i:A.units+Fe x<cLine)(h:plain x=true)(g:plain y=true):RcAt A s a b (jd x y):=(NE I x y A v u a b f e d c i h g).1
def bA0(I:ya X aa σ H s)(x y:D)(A:Around)(v u:V)(a b:Value)(f:pb X.K H x v)(e:pb X.K H y u)(d:RelV v a)(c:RelV u b)(i:A.units+Fe x<cLine)(h:plain x=true)(g:plain y=true):RcNeAt A s a b (!jd x y):=(NE I x y A v u a b f e d c i h g).2
end
end Pu
namespace Pu
open PySem PySem.Spec PyProof.Rows L2
section
variable{X:Cx}{B:be}{a b e:Expr}{f g:Ex}{pos:Pos}
theorem lM.rep{K:Frag}{A:be}{H:Hp}{d:D}{v:V}(h:lM K A H d v):pb K H d v:=by
 rcases h with h|⟨a,k,o,ds,e,e1,e2,c,b,q⟩
 .exact h.mono (aQ _ _)
 subst e1 e2;exact b.rep c<|q.mono<|aQ _ _
def ft(K:Frag)(a:Bool):R2:=λv u H Q=>∃x y,pb K H x v/\pb K H y u/\(Fe x<=64/\plain x=true/\plain y=true)/\Q (.bl<|if a then !jd x y else jd x y) H
theorem fJ(i:X.A.units+64<cLine:=by exact Bb.units<|by assumption):He X (compareOp .Eq) (ft X.K false):=by
 intro j s σ H v u a b Q I g f h;obtain⟨x,y,e,d,c,q⟩:=h;exact aZz I x y X.A v u a b e d g f (by lia) c.2.1 c.2.2 X.prog X.w X.xe _ ⟨.bl _,H,I,rfl,q⟩
theorem rK(i:X.A.units+64<cLine:=by exact Bb.units<|by assumption):He X (compareOp .NotEq) (ft X.K true):=by
 intro j s σ H v u a b Q I g f h;obtain⟨x,y,e,d,c,q⟩:=h;exact bA0 I x y X.A v u a b e d g f (by lia) c.2.1 c.2.2 X.prog X.w X.xe _ ⟨.bl _,H,I,rfl,q⟩
def fX{K:Frag}:wX K (ft K false) Od:=by
 intro A H x y d v u Q w b a e q;obtain⟨c,e⟩:=aM e;cases e;exact⟨x,y,b.rep,a.rep,c,q _ H (aX.refl _)<|cA.mpr rfl⟩
def rM{K:Frag}:wX K (ft K true) Th:=by
 intro A H x y d v u Q w b a e q;obtain⟨c,e⟩:=aM e;cases e;exact⟨x,y,b.rep,a.rep,c,q _ H (aX.refl _)<|cA.mpr rfl⟩
noncomputable def tyD:D->String
 |.Hb=>"NoneType"
 |.bl _=>"bool"
 |.int _=>"int"
 |.str _=>"str"
 |.tup _=>"tuple"
 |.lst _=>"list"
 |.Cf _ _ _=>"dict"
 |.ins _ _ _=>""
 |.Ag _ _ _=>""
 |.fn _=>""
structure IsT(T:String)(p:Fk):Prop where
 boot:bootBuiltins T=some (.type T)
 ans:∀(K:Frag)(d:D),Jq d=true->kitOne K (.type<|tyD d) (.type T)=some (p d)
def bA1{T:String}{p:Fk}(h:IsT T p):jY X (.builtin "isinstance") (λxs H Q=>∃v d,xs=[v,.ty T]/\Jq d=true/\pb X.K H d v/\Q (.bl<|p d) H):=by
 intro E s σ H xs F Q I r q;obtain⟨v,d,rfl,k,i,q⟩:=q;obtain⟨u,G,rfl,g,y⟩:=r.two;subst y;have a:∀w,EP X E σ Q _ {s with toks:=w}:=λw=>⟨.bl<|p d,H,I.tok w,rfl,q⟩
 have e:=h.ans X.K d k;cases d with
 |Hb=>have z:=qG.mp i;subst z;have z:=g;subst z;exact xr PySem.W.kitx_none I.Pg True.intro e (λz=>nomatch z) a
 |bl x=>have z:=cA.mp i;subst z;have z:=g;subst z;exact xr PySem.W.kitx_bool I.Pg True.intro e (λz=>nomatch z) a
 |int x=>have z:=bC.mp i;subst z;obtain⟨t,z⟩:∃t,u=Value.int x t:=g;subst z;exact xr PySem.W.kitx_int I.Pg True.intro e (λz=>nomatch z) a
 |str x=>have z:=fC.mp i;subst z;obtain⟨t,z⟩:∃t,u=Value.str _ t:=g;subst z;exact xr PySem.W.kitx_str I.Pg True.intro e (λz=>nomatch z) a
 |tup x=>
  obtain⟨l,j,z,b,_⟩:=fV i;subst z;have z:=g;subst z;obtain⟨A,_,⟨o,f,c,_⟩,_⟩:=I.tuple b;exact xr PySem.W.kitx_tuple I.Pg ⟨o,f,c⟩ e (λz=>nomatch z) a
 |lst x=>
  obtain⟨l,j,z,b,_⟩:=dM.mp i;subst z;have z:=g;subst z;obtain⟨A,_,⟨o,n,f,c,_⟩,_⟩:=I.list b;exact xr PySem.W.kitx_list I.Pg ⟨o,f,c⟩ e (λz=>nomatch z) a
 |Cf t J x=>
  obtain⟨l,j,z,b,_⟩:=qH.mp i;subst z;have z:=g;subst z;have C:∃o,s.heap.get? l=some o/\o.ExactDict:=by
   rcases b with ⟨_,B,b,_⟩|⟨_,B,b,_⟩
   .obtain⟨_,_,L,_,m⟩:B.length<=sizeLine/\(l==sysModules)=false/\∃j,KV B j/\s.heap.DictOf _ l j:=I.Ia l _ b;obtain⟨o,D,n,f,c,_⟩:=m;exact⟨o,f,c⟩
   obtain⟨_,_,xs,_,o,D,K,f,c,_⟩:=I.Ia l _ b;exact⟨o,f,c⟩
  obtain⟨o,f,c⟩:=C;exact xr PySem.W.kitx_dict I.Pg ⟨o,f,c.1⟩ e (λz=>nomatch z) a
 |ins _ _ _=>exact nomatch k
 |Ag _ _ _=>exact nomatch k
 |fn _=>exact nomatch k
def mY{T:Str}{S:String}{p:Fk} (k:IsT S p) (r:X.mg "isinstance"=none) (c:X.mg T=none) (u:PE X a (tP X.K B f)) (h:bootBuiltins T=some (.type S):=by first|rfl|exact k.boot) (s:Gl X "isinstance":=by rfl) (e:Gl X T:=by rfl) (b:T≠"__name__":=by decide) (z:Ce T:=by decide)
  (j:starEach [a,.Name T p1] X.env=(false,eval a X.env)::starEach [.Name T p1] X.env:=by rfl) (l:starEach [.Name T p1] X.env=(false,eval (.Name T p1) X.env)::starEach [] X.env:=by rfl) :
  PE X (.Call (.Name "isinstance" p0) [a,.Name T p1] [] pos) (tI X.K B<|eB p f):=by
 have g:PE X (.Name T p1) (tC<|.ty S):=bBq e c h rfl b z;refine cF (lZ (bA1 k) s r boot_isinstance (bW u (bW g dW l) j) (he:=j)) ?_
 rintro σ H Q ⟨A,st,d,m,t,q⟩;obtain⟨x,o,i⟩:=R.ua t;obtain⟨w,i⟩:=aM i;cases i;exact⟨A,st,x,m,o,λv y s1 n=>⟨v,x,rfl,w,n.rep,q _ y s1<|cA.mpr rfl⟩⟩
def ty_bool:IsT "bool" cw:=⟨rfl,λK d a=>by cases d<;>first|(cases a;done)|kernel_rfl⟩
def ty_int:IsT "int" isIn:=⟨rfl,λK d a=>by cases d<;>first|(cases a;done)|kernel_rfl⟩
def ty_tuple:IsT "tuple" N7:=⟨rfl,λK d a=>by cases d<;>first|(cases a;done)|kernel_rfl⟩
def ty_list:IsT "list" vp:=⟨rfl,λK d a=>by cases d<;>first|(cases a;done)|kernel_rfl⟩
end
end Pu
namespace Pu
open PySem PySem.Spec PyProof.Rows L2 PySem.SeqAt PySem.StrLaws
def ø(x y:ac)(i:Nat):Builtin.Str.subAt ⟨x.toArray⟩ ⟨y.toArray⟩ i=((x.drop i).take y.length==y):=by
 rw[subAt_eq];simp[Str.length]
theorem AZ(s sub:Str)(b:Nat):∀(l:ac)(st:Array Nat×Nat),1<=st.1.size->(forIn l st<|occBody s sub b 1).run.fst=st.1
 |[],st,h=>rfl
 |a::l,st,h=>by
  rw[forIn_cons];unfold occBody;rw[Ea (λz=>by lia)]
  exact AZ s sub b l (st.1,st.2) h
theorem BZ(s sub:Str)(b:Nat):∀(l:ac)(free:Nat),(∀i∈l,free<=i)->
  (forIn l ((#[]:GT),free)<|occBody s sub b 1).run.fst.toList=(l.find? λi=>decide (i+sub.length<=b)&&Builtin.Str.subAt s sub i).toList
 |[],free,_=>rfl
 |a::l,free,d=>by
  rw[forIn_cons]
  by_cases c:a+sub.length<=b/\Builtin.Str.subAt s sub a=true
  .rw[oP (p:=λi=>decide _&&Builtin.Str.subAt s sub i) (by rw[c.2,Bf c.1];rfl)]
   have e2:occBody s sub b 1 a ((#[]),free)=pure (ForInStep.yield ((#[]).push a,a+sub.length)):=by
    exact Qa ⟨⟨⟨by simp,(d a Cb)⟩,c.1⟩,c.2⟩
   rw[e2];show (forIn l (((#[]).push a),a+sub.length)<|occBody s sub b 1).run.fst.toList=_;rw[AZ s sub b l _ (by simp)]
   rfl
  rw[S8 (p:=λi=>decide _&&Builtin.Str.subAt s sub i)<|λz=>c<|by simpa using z]
  have e2:occBody s sub b 1 a ((#[]),free)=pure (ForInStep.yield ((#[]),free)):=by
   exact Ea λh=>c ⟨h.1.2,h.2⟩
  rw[e2];exact BZ s sub b l free λi e=>d i<|Kb _ e
theorem HX(x y:ac)(lo:Nat):Builtin.Str.occurrences ⟨x.toArray⟩ ⟨y.toArray⟩ lo (⟨x.toArray⟩:Str).length 1=(xG x y lo).toList:=by
 rw[occ_eq,BZ _ _ _ _ _ (λi a=>by simp at a;lia)]
 unfold xG;simp[ø,str_len]
section
variable {a b o:Expr}
def bMd{id:String}{m:Bx} {q:wE} (slot:Slot "str" name id) (I:typeOf (.builtin id)=pure (.type "method_descriptor")) (t:Yo X id q)
  (u:∀x xs d,m x xs=.ok d->∃s,x=.str s) (j:∀(A:be)(H:Hp)(x d:D)(xs:dL)(v:V)(vs:ss)(Q:VK),Own A H->lM X.K A H x v->bA X.K (hide A H) xs vs->m x xs=.ok d->(∀w a,aX H a->pb X.K (hide A a) d w->Q w a)->q v vs H Q)
  (p:PE X o (tP X.K B f)) (z:PA X (e::es) (tA X.K B r))
  (E:Kj o name X.env:=by rfl)
  (J:As xb (e::es) X.env:=by rfl)
  (g:jm Ob xb:=by rfl) (n:vf e es X.env:=by rfl) (F:Aj xb es X.env:=by rfl) :
  PE X (.Call (.Attribute o name Ob) (e::es) [] xb) (tI X.K B<|Lo m f r):=by
 refine cF (Kv PySem.F.plainAttrs_str slot I t p z E J g n F) ?_
 rintro σ H Q ⟨A,st,d,b,y,k⟩;obtain⟨x,l,C⟩:=R.ua y;obtain⟨xs,G,c⟩:=R.ua C;obtain⟨s,rfl⟩:=u x xs d c;refine⟨A,st,_,b,l,λv K s1 r1=>⟨?_,A,st,xs,b.mono s1,G,λvs H2 s2 r2=>?_⟩⟩
 .rw[r1.str];rfl
 exact j _ H2 _ d xs v vs Q (b.own.mono<|s1.trans s2) (r1.mono s2) r2 c λw a h i=>k w a (s1.trans<|s2.trans h) i
def WN{K:Frag} (h:bA K H [d] vs):∃v,vs=[v]/\pb K H d v:=by
 obtain⟨v,r,rfl,b,a⟩:=bG.mp h;rw[cC.mp a];exact⟨v,rfl,b⟩
def bA3:Yo X "str.index" (λx vs H Q=>∃(s y:ac)(i:Nat),x=.str ⟨s.toArray⟩/\vs=[.str ⟨y.toArray⟩]/\xG s y 0=some i/\Q (.int i) H):=by
 intro f s σ H x vs v d Q I a b h;obtain⟨z,y,i,rfl,rfl,c,q⟩:=h;obtain⟨t,rfl⟩:=a;obtain⟨u,rfl,e,rfl⟩:=b.one;exact SC.index (by rw[HX,c];rfl) ⟨.int _,H,I.tok _,⟨_,rfl⟩,q⟩
end
end Pu
namespace Pu
open PySem PySem.Spec PyProof.Rows L2 PySem.SeqAt
section
variable{X:Cx}{B:be}{a b e o:Expr}{f g:Ex}{pos:Pos}{r:Ci}{es:List Expr}{Ob xb:Pos}
def J3(g:PE X o (tP X.K B f))(l:PA X (e::es) (tA X.K B r))(m:Kj o "index" X.env:=by rfl)
  (p:As xb (e::es) X.env:=by rfl)
  (a:jm Ob xb:=by rfl) (c:vf e es X.env:=by rfl) (n:Aj xb es X.env:=by rfl) :
  PE X (.Call (.Attribute o "index" Ob) (e::es) [] xb) (tI X.K B<|Lo Tx f r):=by
 refine bMd PySem.F.slot_str_index PySem.F.type_str_index bA3 (λx xs d h=>?_) (λA H x d xs v q Q w rx rxs h k=>?_) g l m p a c n
 .cases x<;>first|exact⟨_,rfl⟩|exact nomatch h
 unfold Tx at h;split at h
 .obtain⟨i,j,h⟩:=R.ua h;cases h;obtain⟨u,rfl,b⟩:=WN rxs;exact⟨_,_,i,rx.str,by rw[fC.mp b],rH j,k _ H (aX.refl _)<|bC.mpr rfl⟩
 cases h
def X5(l:X.mg "max"=none)(o:X.calm=true)(r:PE X a (tP X.K B f))(p:PE X b (tP X.K B g))(m:Gl X "max":=by rfl)(h:starEach [a,b] X.env=(false,eval a X.env)::starEach [b] X.env:=by rfl)
  (i:vf b [] X.env:=by rfl) (Vf:(backTo pos<|starEach [b] X.env).any (·.1)=false:=by rfl):PE X (.Call (.Name "max" p0) [a,b] [] pos) (tI X.K B<|e2 Nv f g):=by
 refine cF (lZ (ē o) m l rfl (bW r (bW p dW i) h) (he:=h) (Vf:=Vf)) ?_
 rintro σ H Q ⟨A,st,d,e,n,q⟩;obtain⟨x,k,s⟩:=R.ua n;obtain⟨y,j,c⟩:=R.ua s;refine⟨A,st,x,e,k,λv t s1 r1=>⟨A,st,y,e.mono s1,j,λu H2 s2 r2=>?_⟩⟩
 unfold Nv at c;split at c
 case h_2=>cases c
 cases c;exact⟨_,_,by rw[r1.int,r2.int],q _ H2 (s1.trans s2)<|bC.mpr rfl⟩
def i7(h:PE X a (tP X.K B f)):PE X (.UnaryOp .USub a pos) (tI X.K B<|e1 KO f):=by
 refine cF (bJg bGj h) ?_
 rintro σ H Q ⟨A,st,d,c,g,q⟩;obtain⟨x,e,b⟩:=R.ua g;refine⟨A,st,x,c,e,λv H1 s1 r1=>?_⟩
 cases x<;>first|(cases b;done)|skip
 cases b;exact⟨_,r1.int,q _ H1 s1<|bC.mpr rfl⟩
def MF(a:Bool):R2:=λx y H Q=>(y=.Hb/\Q (.bl<|if a then !decide (x=.Hb) else decide (x=.Hb)) H)\/∃c d,x=.bl c/\y=.bl d/\Q (.bl<|if a then !(c==d) else (c==d)) H
def cy:He X (compareOp .Is) (MF false):=by
 intro e s σ H x y v u Q I b a h;rcases h with h|⟨c,d,rfl,rfl,q⟩
 .exact bGk e s σ H x y v u Q I b a h
 cases b;cases a;exact is_bool ⟨.bl _,H,I,rfl,q⟩
def į:He X (compareOp .IsNot) (MF true):=by
 intro e s σ H x y v u Q I b a h;rcases h with h|⟨c,d,rfl,rfl,q⟩
 .exact bBw e s σ H x y v u Q I b a h
 .cases b;cases a;exact isnot_bool ⟨.bl<|!(c==d),H,I,rfl,q⟩
def dy{K:Frag}:wX K (MF false) kn:=by
 intro A H x y d v u Q w b a e q;unfold kn at e;split at e
 .cases e;exact .inl ⟨a.Hb,q _ H (aX.refl _)<|cA.mpr<|by rw[<-u3 b];rfl⟩
 .cases e;exact .inr ⟨_,_,b.bl,a.bl,q _ H (aX.refl _)<|cA.mpr rfl⟩
 cases e
def İ{K:Frag}:wX K (MF true) sM:=by
 intro A H x y d v u Q w b a e q;unfold sM at e;split at e
 .cases e;exact .inl ⟨a.Hb,q _ H (aX.refl _)<|cA.mpr<|by rw[<-u3 b];rfl⟩
 .cases e;exact .inr ⟨_,_,b.bl,a.bl,q _ H (aX.refl _)<|cA.mpr rfl⟩
 cases e
open Classical in
noncomputable def Kl(K:Frag)(H:Hp)(x:D)(u:Value):Bool:=if ∃d z,pb K H d z/\RelV z u/\plain d=true/\jd d x=true then true else false
def KL(I:ya X aa σ H s){x:D}{z:V}{u:Value}(r:pb X.K H d z)(c:RelV z u)(f:plain d=true):Kl X.K H x u=jd d x:=by
 unfold Kl;split
 .rename_i h;obtain⟨k,j,g,a,b,e⟩:=h;have:=RelV.inj c a;subst this;rw[pb.inj I f b r g,e]
 rename_i h;cases i:jd d x with
 |false=>rfl
 |true=>exact(h ⟨d,z,r,c,f,i⟩).elim
theorem fy{aa:db}{c:Sg}{H:Hp}{s:Shared}(I:ya X aa c H s){x:D}:∀{ds:dL}{a:ss}{b:cr},bA X.K H ds a->Ca a b->bZ ds=true->b.any (Kl X.K H x)=inD x ds
 |[],a,b,r,v,_=>by
  have e:=cC.mp r;subst e;cases v;rfl
 |d::ds,a,b,r,v,p=>by
  obtain⟨z,i,e,h,g⟩:=bG.mp r;subst e;simp at p;cases v with
  |cons v f=>
   rw[Wt,KL I h v p.1,fy I g f p.2];unfold inD;rw[Wt]
theorem Cv{aa:db}{l:Sg}{H:Hp}{s:Shared}(I:ya X aa l H s){A:Around}{x:D}{f:V}{g:Value}(i:pb X.K H x f)(h:RelV f g)(j:plain x=true):∀{ds:dL}{b:ss}{c:cr},bA X.K H ds b->Ca b c->bZ ds=true->A.units+gU ds<cLine->∀u∈c,EqAt A s u g (Kl X.K H x u)
 |[],b,c,r,v,_,_=>by
  have e:=cC.mp r;subst e;cases v;exact λu a=>nomatch a
 |d::ds,b,c,r,v,p,n=>by
  obtain⟨z,q,e,k,o⟩:=bG.mp r;subst e;simp at p;rw[lU]at n;cases v with
  |cons v m=>
   intro u a;rcases Mb.mp a with rfl|a
   .rw[KL I k v p.1];exact ZY I d x A z f _ g k i v h (by lia) p.1 j
   exact Cv I i h j o m p.2 (by lia) u a
def NF(K:Frag)(b:Bool):R2:=λv u H Q=>(∃a o,u=.ref a/\zO H a v o/\Q (.bl<|if b then !o.isSome else o.isSome) H)\/(∃x ds c p,u=.ref p/\(Pc K H p c\/ig K H p c)/\pb K H x v/\bA K H ds c/\gU ds<=60/\plain x=true/\bZ ds=true/\Q (.bl<|if b then !inD x ds else inD x ds) H)\/
 ∃i j:ac,v=.str ⟨i.toArray⟩/\u=.str ⟨j.toArray⟩/\Q (.bl<|if b then !(xG j i 0).isSome else (xG j i 0).isSome) H
def some_of(x y:ac):(!(Builtin.Str.occurrences ⟨x.toArray⟩ ⟨y.toArray⟩ 0 (⟨x.toArray⟩:Str).length 1).isEmpty)=(xG x y 0).isSome:=by
 rw[HX];cases xG x y 0<;>rfl
theorem VM(F:X.A.units+64<cLine:=by exact Bb.units<|by assumption):He X (compareOp .In) (NF X.K false):=by
 intro B s σ H v u a b Q I e l h;rcases h with ⟨p,o,rfl,g,q⟩|⟨x,ds,D,p,rfl,d,t,k,G,y,f,q⟩|⟨i,j,rfl,rfl,q⟩
 .cases l;exact L7 (by lia) I g e λE C=>⟨.bl _,H,C,rfl,q⟩
 .cases l;have z:=by show X.A.units+1+gU ds<cLine;lia
  rcases d with d|d
  .obtain⟨c,r,m,A⟩:=I.list d;refine SeqAt.in_listAt (Kl X.K H x) m.isList (λw n=>Cv I t e y k r f z w<|by simpa using n) ⟨.bl _,H,I,rfl,?_⟩
   rwa [show c.toArray.any _=c.any (Kl X.K H x) by simp,fy I k r f]
  obtain⟨c,r,m,A⟩:=I.tuple d;refine SeqAt.in_tupleAt _ m (λw n=>Cv I t e y k r f z w<|by simpa using n) ⟨.bl _,H,I,rfl,?_⟩
  rwa [show c.toArray.any _=c.any (Kl X.K H x) by simp,fy I k r f]
 refine Ē B s σ H _ _ a b Q I e l ⟨_,_,rfl,rfl,?_⟩
 rwa [some_of]
theorem uY(F:X.A.units+64<cLine:=by exact Bb.units<|by assumption):He X (compareOp .NotIn) (NF X.K true):=by
 intro B s σ H v u a b Q I e l h;rcases h with ⟨p,o,rfl,g,q⟩|⟨x,ds,D,p,rfl,d,t,k,G,y,f,q⟩|⟨i,j,rfl,rfl,q⟩
 .cases l;exact bC6 (by lia) I g e λE C=>⟨.bl _,H,C,rfl,q⟩
 .cases l;have z:=by show X.A.units+1+gU ds<cLine;lia
  rcases d with d|d
  .obtain⟨c,r,m,A⟩:=I.list d;refine SeqAt.notIn_listAt (Kl X.K H x) m.isList (λw n=>Cv I t e y k r f z w<|by simpa using n) ⟨.bl _,H,I,rfl,?_⟩
   rwa [show c.toArray.any (Kl X.K H x)=c.any (Kl X.K H x) by simp,fy I k r f]
  obtain⟨c,r,m,A⟩:=I.tuple d;refine SeqAt.notIn_tupleAt _ m (λw n=>Cv I t e y k r f z w<|by simpa using n) ⟨.bl _,H,I,rfl,?_⟩
  rwa [show c.toArray.any _=c.any (Kl X.K H x) by simp,fy I k r f]
 refine ϥ B s σ H _ _ a b Q I e l ⟨_,_,rfl,rfl,?_⟩
 rwa [some_of]
def WM{K:Frag}:wX K (NF K false) yr:=by
 intro A H x y d v u Q w f b e q;unfold yr at e;split at e
 .obtain⟨c,e⟩:=aM e;cases e;obtain⟨a,o,e1,g,l,_⟩:=HL b f.rep c;exact .inl ⟨a,o,e1,g,by rw[l];exact q _ H (aX.refl _)<|cA.mpr rfl⟩
 .obtain⟨c,e⟩:=aM e;cases e;obtain⟨p,h,k,j,i⟩:=b.lst;exact .inr<|.inl ⟨_,_,h,p,k,.inl j,f.rep,i.mono<|aQ _ _,c.1,c.2.1,c.2.2,q _ H (aX.refl _)<|cA.mpr rfl⟩
 .obtain⟨c,e⟩:=aM e;cases e;obtain⟨p,h,k,j,i⟩:=b.tup;exact .inr<|.inl ⟨_,_,h,p,k,.inr j,f.rep,i.mono<|aQ _ _,c.1,c.2.1,c.2.2,q _ H (aX.refl _)<|cA.mpr rfl⟩
 .cases e;exact .inr<|.inr ⟨_,_,f.str,b.str,q _ H (aX.refl _)<|cA.mpr rfl⟩
 cases e
def uZ{K:Frag}:wX K (NF K true) pG:=by
 intro A H x y d v u Q w f b e q;unfold pG at e;split at e
 .obtain⟨c,e⟩:=aM e;cases e;obtain⟨a,o,e1,g,l,_⟩:=HL b f.rep c;exact .inl ⟨a,o,e1,g,by rw[l];exact q _ H (aX.refl _)<|cA.mpr rfl⟩
 .obtain⟨c,e⟩:=aM e;cases e;obtain⟨p,h,k,j,i⟩:=b.lst;exact .inr<|.inl ⟨_,_,h,p,k,.inl j,f.rep,i.mono<|aQ _ _,c.1,c.2.1,c.2.2,q _ H (aX.refl _)<|cA.mpr rfl⟩
 .obtain⟨c,e⟩:=aM e;cases e;obtain⟨p,h,k,j,i⟩:=b.tup;exact .inr<|.inl ⟨_,_,h,p,k,.inr j,f.rep,i.mono<|aQ _ _,c.1,c.2.1,c.2.2,q _ H (aX.refl _)<|cA.mpr rfl⟩
 .cases e;exact .inr<|.inr ⟨_,_,f.str,b.str,q _ H (aX.refl _)<|cA.mpr rfl⟩
 cases e
end
end Pu
namespace Pu
open PySem PySem.Spec PyProof.Rows L2
section
variable{X:Cx}{B:be}{a b e:Expr}{f g:Ex}{pos:Pos}
def Gq(i:Nat) (he:PE X e (tI X.K B f)) (D:X.N[i]?=some x:=by rfl) (z:Eh X.env.scope x:=by exact Zi rfl) (b:Ce x:=by decide)
  (G:Yi x:=by decide) (F:Kj (.Name x p1) "append" X.env:=by rfl)
  (I:As xb [e] X.env:=by rfl)
  (w:jm Ob xb:=by rfl) (j:vf e [] X.env:=by rfl)
  (J:ml (.Call (.Attribute (.Name x p1) "append" Ob) [e] [] xb) none pos.line X.env:=by rfl) :
  PS X (.Expr (.Call (.Attribute (.Name x p1) "append" Ob) [e] [] xb) pos) (tS X.K B<|Lm i f):=by
 refine gC (AD (Kv ZF lP PySem.F.type_list_append ė (kE D z b G) (bW he dW j) F I w j rfl) J) ?_
 rintro L σ H ⟨A,st,r,a,C,p⟩;obtain⟨d,b,g⟩:=R.ua C;split at g
 .rename_i xs e1;obtain⟨c,E⟩:=aM g;cases E;obtain⟨l,o,h,e2,m,k,y,q,u⟩:=a.lst i _ xs e1;subst y;refine⟨.ref l,e2,.inl ⟨rfl,h,Pc.of k⟩,A,st,d,a,b,λv K s rv=>⟨l,h,v,rfl,rfl,s _ _ k,by rw[(q.length)];rw[mF]at c;exact ug c (by decide),?_⟩⟩
  obtain⟨t,n⟩:=(a.mono s).write e1 e2 (k1:=.l) rfl<|(q.mono<|aX.hide s).append<|.cons rv .nil;exact p A _ _ ((Le.of s).trans n) t
 cases g
def bDk(j:X.N.Nodup:=by assumption)(g:X.N[i]?=some x:=by rfl)(d:Loc X.env.scope x:=by exact Pn rfl)(e:ml (.Dict [] [] dp) (some<|.Name x pos') pos.line X.env:=by rfl)
  (h:kl X x:=by first|exact .inl rfl|exact .inr rfl|assumption):PS X (.Assign [.Name x pos'] (.Dict [] [] dp) pos) (tS X.K B<|Ov i false):=gC (jv j g d YX e h) (by
 rintro k σ H ⟨A,st,r,c,f,p⟩;cases f;exact λa b=>p _ _ _ (ME b)<|c.rq i b (.inl ⟨rfl,[],rfl,rfl,rfl⟩) .nil)
def LL(i:Nat) (j:X.N.Nodup) (g:X.N[i]?=some x:=by rfl) (d:Loc X.env.scope x:=by exact Pn rfl) (e:ml (.Dict [] [] dp) (some<|.Name x pos') pos.line X.env:=by rfl)
  (h:kl X x:=by first|exact .inl rfl|exact .inr rfl|assumption):PS X (.Assign [.Name x pos'] (.Dict [] [] dp) pos) (tS X.K B<|Ov i true):=gC (jv j g d ţ e h) (by
 rintro k σ H ⟨A,st,r,c,f,p⟩;cases f;exact λa b=>p _ _ _ (ME b)<|c.rq i b (.inr ⟨rfl,[],rfl,rfl,rfl⟩) .nil)
def bL0:V->V->V->Hp->(Hp->Prop)->Prop:=λo i v H Q=>∃p a,o=.ref p/\qp H p i v a/\Q a
theorem set_dict(l:X.A.units+64<cLine):EO X bL0:=by
 intro m s σ H o i v j k u Q I b c a h;obtain⟨p,e,rfl,g,q⟩:=h;cases b;exact ě (by lia) I g c a λf d=>⟨e,d,q⟩
theorem Ms(U:X.A.units+64<cLine)(i:Nat) {j:Expr} (Z:PE X j (tI X.K B g)) (he:PE X e (tI X.K B f)) (hN:X.N[i]?=some x:=by rfl) (T:Eh X.env.scope x:=by exact Zi rfl) (G:Ce x:=by decide)
  (Sf:Yi x:=by decide)
  (ha:∀v,assign (.Subscript (.Name x p1) j p2) X.env v=(do
   let y <- holding [v] (eval (.Name x p1) X.env)
   let F <- holding [v,y] (eval j X.env)
   standAt p2
   holding [v,y,F] (setItem y F v)
   release [v,y,F] []):=by intro _;rfl)
  (V:swapsWithSole [.Subscript (.Name x p1) j p2] e pos.line X.env=pure false:=by rfl) (S:swappedStores [.Subscript (.Name x p1) j p2] e X.env=pure none:=by rfl)
  (J:(assignEach [.Subscript (.Name x p1) j p2] X.env).map (·.2)=[assign (.Subscript (.Name x p1) j p2) X.env]:=by rfl) :
  PS X (.Assign [.Subscript (.Name x p1) j p2] e pos) (tS X.K B<|Yc i g f):=by
 refine gC (WL he (N4 (kE hN T G Sf) Z (set_dict U) ha) V S J) ?_
 rintro Dn σ H ⟨A,st,r,a,W,p⟩;obtain⟨d,G,h3⟩:=R.ua W;obtain⟨k,Y,I⟩:=R.ua h3;split at I
 .rename_i t ks ds e1;obtain⟨c,h6⟩:=aM I;cases h6;obtain⟨l,o,vs,e2,m,J,Q,q,u⟩:=a.lst i _ _ e1;refine⟨A,st,d,a,G,λv H' s rv=>⟨.ref l,e2,A,st,k,a.mono s,Y,λw H2 s2 rk=>?_⟩⟩
  have hl:=(s.trans s2) _ _ J;have N:=q.mono<|aX.hide<|s.trans s2;have O:=rv.mono<|aX.hide s2;have P:=rk.mono<|aQ _ _;have yb:ds.length<sizeLine:=by have:=c.2;rw[mF]at this;exact ug this (by decide)
  have M:=q.length;rcases Q with ⟨rfl,n,rfl,rfl,rfl⟩|⟨rfl,n,rfl,rfl,rfl⟩
  .obtain⟨h,L,K⟩:=hJ P c.1;subst L K;obtain⟨C,z⟩:=v3 GL h v d O n ds N;refine⟨l,_,rfl,qp.k hl (by rw[Gb]at M;lia),?_⟩
   obtain⟨E,D⟩:=(a.mono<|s.trans s2).write e1 e2 (k1:=.d false _) (.inl ⟨rfl,Oe n h v,rfl,C,rfl⟩) z;exact p A _ _ ((Le.of<|s.trans s2).trans D) E
  obtain⟨h,b,L,K,e5⟩:=sV P c.1;subst L K;obtain⟨C,z⟩:=v3 EK h v d O n ds N;refine⟨l,_,rfl,qp.t hl e5 (by rw[Gb]at M;lia),?_⟩
  obtain⟨E,D⟩:=(a.mono<|s.trans s2).write e1 e2 (k1:=.d true _) (.inr ⟨rfl,Oe n h v,rfl,C,rfl⟩) z;exact p A _ _ ((Le.of<|s.trans s2).trans D) E
 cases I
def j7(i:Nat) (he:PE X e (tF X.K B f)) (G:X.N[i]?=some x:=by rfl) (E:Eh X.env.scope x:=by exact Zi rfl) (g:Ce x:=by decide)
  (K:Yi x:=by decide) (J:Kj (.Name x p1) "extend" X.env:=by rfl)
  (L:As xb [e] X.env:=by rfl)
  (C:jm Ob xb:=by rfl) (k:vf e [] X.env:=by rfl)
  (M:ml (.Call (.Attribute (.Name x p1) "extend" Ob) [e] [] xb) none pos.line X.env:=by rfl) :
  PS X (.Expr (.Call (.Attribute (.Name x p1) "extend" Ob) [e] [] xb) pos) (tS X.K B<|dw i f):=by
 refine gC (AD (Kv ZF PySem.F.slot_list_extend PySem.F.type_list_extend Ę (kE G E g K) (bW he dW k) J L C k rfl) M) ?_
 rintro O σ H ⟨A,st,r,b,F,p⟩;obtain⟨d,g,t⟩:=R.ua F;cases d<;>first|(cases t)|skip
 rename_i w;have h:(match st[i]? with|some (some<|.o .l xs)=>aP _ _|_=>.bad)=.ok r:=t
 split at h
 .rename_i xs e1;obtain⟨c,I⟩:=aM h;cases I;obtain⟨l,o,j,e2,m,v,D,q,u⟩:=b.lst i _ xs e1;subst D;refine⟨.ref l,e2,.inl ⟨rfl,j,Pc.of v⟩,A,st,w,b,g,λn zs N s hn rz=>?_⟩
  have hl:=s _ _ v;refine⟨l,n,j,zs,rfl,rfl,by rwa [aK<|aN hl hn],bB,by rw[(q.length),(rz.length)];exact lim c,?_⟩
  have a:=s.trans<|bL (o:=HO.lst zs) hn;obtain⟨z,y⟩:=(b.mono a).write e1 e2 (k1:=.l) rfl<|(q.mono<|aX.hide a).append<|rz.mono<|aX.hide<|bL hn;exact p A _ _ ((Le.of a).trans y) z
 cases h
end
section
open PySem.SeqAt
open PySem.AutoSeq1 (wpAny_loadPart')
open PySem.MeetsSeq PySem.MeetsSeq2 PySem.MeetsSeq3
inductive Di (A:Around) (s:Shared):List Value->List Value->Bool->Prop where
 |nn:Di A s [] [] false
 |nc {w:Value} {ws:cr}:Di A s [] (w::ws) true
 |cn {v:Value} {vs:cr}:Di A s (v::vs) [] false
 |eq {v w:Value} {vs ws:cr} {b:Bool}:EqAt A s v w true->Di A s vs ws b->Di A s (v::vs) (w::ws) b
 |lt {v w:Value} {vs ws:cr} {b:Bool}:EqAt A s v w false->(∀(prog:Program)(wd:World)(E Q:am),Q (.bool b) s->wpAny (model prog wd) A (richCompare .Lt v w) Q E s)->Di A s (v::vs) (w::ws) b
theorem ı(l b:Addr)(a m:xL)(n H:Nat)(dd M:re)(G L:pc)(t:Bool) :
  Meets (Builtin.«tuple.__lt__» ⟨[.ref l,.ref b],[]⟩)
   (λA R s=>s.heap.get? l=some {cls:=.type "tuple",dict:=dd,data:=.seq a n,slots:=G}/\s.heap.get? b=some {cls:=.type "tuple",dict:=M,data:=.seq m H,slots:=L}/\
    Di A.in1 s a.toList m.toList t/\R (.ok<|.ret<|.bool t) s):=
 .of_wp λc w A R s h=>by
  obtain⟨E,g,d,D,os⟩:=s;obtain⟨hl,K,k,h⟩:=h;have N:=AutoSeq1.sub_tuple_tuple
  wp_walk using wpAny_loadPart' hl,wpAny_loadPart' K,wpAny_forIn_list _ (λrest b p=>b.1=none/\p=⟨E,g,d,D,os⟩/\∃(j i:cr),rest=j.zip i/\
   Di A.in1 ⟨E,g,d,D,os⟩ j i t/\j.length+m.size=i.length+a.size) _
  case turn=>
   rintro⟨y,x⟩ rest b p z;refine yd λo=>?_
   obtain⟨C,rfl,j,i,e,r,f⟩:=z;cases r with
   |nn=>cases e
   |nc=>cases e
   |cn=>cases e
   |eq v J=>
    injection e with B F
    injection B with q k
    subst q k;simp at f;refine o<|qa<|v c w _ _ ?_
    wp_walk
    exact⟨rfl,rfl,_,_,F,J,by lia⟩
   |lt v u=>
    injection e with B F
    injection B with q k
    subst q k;refine o<|qa<|v c w _ _ ?_
    wp_walk using (u c w)
    exact⟨_,rfl,by simpa using h⟩
  case fin=>
   rintro⟨P,O⟩ p z;refine yd λo=>?_
   obtain⟨C,rfl,j,i,e,r,f⟩:=z;simp at C;subst C;have I:t=decide (a.size<m.size):=by
    cases r with
    |nn=>
     simp at f;exact(Ed<|by lia).symm
    |nc=>
     simp at f;exact(Bf<|by lia).symm
    |cn=>
     simp at f;exact(Ed<|by lia).symm
    |eq _ _=>cases e
    |lt _ _=>cases e
   rw[I]at h;refine o ?_
   wp_walk
   exact⟨_,rfl,by simpa [Builtin.Tuple.tupleCompareSizes] using h⟩
  case h=>
   exact⟨rfl,rfl,a.toList,m.toList,rfl,k,by simp;lia⟩
end
section
theorem K3{aa:db}{z:Sg}{H:Hp}{s:Shared}(I:ya X aa z H s){A:Around}:∀(xs ys:dL){vs q:ss}{w bs:cr}{t:Bool},bA X.K H xs vs->bA X.K H ys q->Ca vs w->Ca q bs->A.units+gU xs<cLine->bZ xs=true->bZ ys=true->rm xs ys=.ok t->Di A s w bs t
 |[],[],_,_,_,_,_,d,c,b,a,_,_,_,h=>by
  have e:=cC.mp d;subst e;have e:=cC.mp c;subst e;cases b;cases a;cases h;exact .nn
 |[],_::_,_,_,_,_,_,d,c,b,a,_,_,_,h=>by
  have e:=cC.mp d;subst e;obtain⟨_,_,rfl,_⟩:=bG.mp c;cases b;cases a;cases h;exact .nc
 |_::_,[],_,_,_,_,_,d,c,b,a,_,_,_,h=>by
  have e:=cC.mp c;subst e;obtain⟨_,_,rfl,_⟩:=bG.mp d;cases b;cases a;cases h;exact .cn
 |x::xs,y::ys,_,_,_,_,t,d,c,b,a,J,o,n,h=>by
  obtain⟨v,r,rfl,m,G⟩:=bG.mp d;obtain⟨u,K,rfl,l,F⟩:=bG.mp c;rw[lU]at J;simp at o n;cases b with
  |cons b k=>
   cases a with
   |cons a j=>
    have i:=ZY I x y A v u _ _ m l b a (by lia) o.1 n.1
    unfold rm at h
    by_cases g:jd x y=true
    .rw[Qa g]at h;rw[g]at i;exact .eq i<|K3 I xs ys G F k j (by lia) o.2 n.2 h
    rw[Ea g]at h;rw[Bool.not_eq_true]at g;rw[g]at i;refine .lt i ?_
    split at h
    .cases h;have e:=bC.mp m;subst e;have e:=bC.mp l;subst e;obtain⟨D,rfl⟩:=b;obtain⟨C,rfl⟩:=a;exact λf B E Q p=>(PyProof.Rows.lt_int p)
    .cases h;have e:=fC.mp m;subst e;have e:=fC.mp l;subst e;obtain⟨D,rfl⟩:=b;obtain⟨C,rfl⟩:=a;exact λf B E Q p=>(PyProof.Rows.lt_str p)
    cases h
end
structure ClsAt(K:Frag)(c:String)(C:Addr):Prop where
 ns:nsIn K mainGlobals (ofString c)=some (some<|.ref C)
 cl:Zn K C
def vO{a b:String}(h:ofString a=ofString b):a=b:=by
 have c:(ofString a).cps=(ofString b).cps:=by rw[h]
 rw[Str.ofString_eq_toList,Str.ofString_eq_toList]at c;have inj:∀(x y:List Char),x.map Char.toNat=y.map Char.toNat->x=y:=by
  intro x
  induction x with
  |nil=>intro y h;cases y with|nil=>rfl|cons _ _=>simp at h
  |cons a x d=>
   intro y h;cases y with
   |nil=>simp at h
   |cons b y=>
    injection h with f e
    rw[d y e];congr 1;exact Char.ext<|UInt32.toNat_inj.mp f
 exact String.toList_inj.mp<|inj _ _ (by
  simpa using (congrArg Array.toList c))
section
variable{K:Frag}
theorem RV{f:String}:∀{a:wf}{ds:dL} {fs:AC} {d:D},fs.map (·.1)=a.map ofString->bA K H ds (fs.map (·.2))->(a.zip ds).lookup f=some d->∃v,fs.lookup (ofString f)=some v/\pb K H d v
 |[],ds,fs,d,_,_,h=>by simp at h
 |n::a,[],fs,d,_,_,h=>by simp at h
 |n::a,m::ds,[],d,e,_,h=>by simp at e
 |n::a,m::ds,(g,w)::fs,d,e,r,h=>by
  injection e with e1 e2
  obtain⟨v,o,l,i,c⟩:=bG.mp r;injection l with k j
  subst k j;subst e1;rw[Fp,Ej]at h;rw[Ej]
  by_cases b:f=n
  .subst b;simp only[beq_self_eq_true]at h ⊢;cases h;exact⟨_,rfl,i⟩
  rw[(yt.mpr b)]at h;rw[(yt.mpr λz=>b<|vO z)]
  exact RV e2 c h
theorem lookup_none{f:String}:∀{a:wf} {fs:AC},fs.map (·.1)=a.map ofString->f∉a->fs.lookup (ofString f)=none
 |[],fs,e,_=>by cases fs with|nil=>rfl|cons _ _=>simp at e
 |n::a,[],e,_=>rfl
 |n::a,(g,w)::fs,e,h=>by
  injection e with e1 e2
  subst e1;rw[Ej,(yt.mpr λz=>h<|by rw[vO z];exact Cb)]
  exact lookup_none e2 λz=>h<|Kb _ z
theorem CZ{f:String}{v:V}:∀{a:wf} {fs:AC},fs.map (·.1)=a.map ofString->f∉a->wZ (ofString f) v fs=fs++[(ofString f,v)]
 |[],fs,e,_=>by cases fs with|nil=>rfl|cons _ _=>simp at e
 |n::a,[],e,_=>by simp at e
 |n::a,(g,w)::fs,e,h=>by
  injection e with e1 e2
  subst e1;unfold wZ;rw[Ea<|λz=>h<|by rw[vO z];exact Cb,CZ e2 λz=>h<|Kb _ z]
  rfl
end
section
variable{X:Cx}{B:be}{a b e o:Expr}{f g:Ex}{pos:Pos}
theorem lM.ins{K:Frag}{A:be}{H:Hp}{c:String}{f:wf}{ds:dL}{v:V}(h:lM K A H (.ins c f ds) v):∃p C a fs,v=.ref p/\H p=some (.ins C a fs)/\nsIn K mainGlobals (ofString c)=some (some<|.ref C)/\fs.map (·.1)=f.map ofString/\bA K (hide A H) ds (fs.map (·.2)):=by
 rcases h with h|⟨p,l,o,m,g,e,e2,h,k,r⟩
 .obtain⟨p,C,a,fs,g,e,j,d,b,i,r⟩:=EL.mp h;subst i;exact⟨p,C,a,fs,e,aQ _ _ _ _ j,d,b,r⟩
 cases l<;>cases e;obtain⟨_,C,a,fs,rfl,d,b,rfl⟩:=k;exact⟨p,C,a,fs,e2,h,d,b,r⟩
def iG{c:String} (a:ClsAt X.K c C) (j:eZ X.K C (ofString f')) (i:PE X o (tP X.K B f)) (l:Kj o (ofString f') X.env:=by rfl) :
  PE X (.Attribute o (ofString f') pos) (tI X.K B<|e1 (eY c f') f):=by
 refine cF (bGl i l) ?_
 rintro σ H Q ⟨A,st,d,g,k,q⟩;obtain⟨x,h,b⟩:=R.ua k;refine⟨A,st,x,g,h,λv H1 s1 r1=>?_⟩
 cases x<;>first|(cases b)|skip
 obtain⟨e1,y⟩:=aM b;subst e1;obtain⟨p,e,D,fs,e2,u,t,s,r⟩:=r1.ins;have:e=C:=by have z:=t.symm.trans a.ns;injection z with z;injection z with z;injection z
 subst this;obtain⟨w,n,m⟩:=RV s r<|rH y;exact⟨p,e,D,fs,w,e2,u,a.cl,j,n,q w H1 s1 m⟩
structure yg(P:Program)(w:World)(K:Frag)(mg:jp)(base:Heap)(c m:String)(k np:Nat)(dv:dL)(p:im):Prop where
 ex:∃(C fa:Addr)(fd:FuncData)(ps:wP)(Mf:ss)(ds:cr),ClsAt K c C/\Meth K C (ofString m) fa/\Ja P w K mg base gc k fa fd ps (Dc K np p)/\Binds K fd ps ds/\Ca Mf ds/\∀H,bA K H dv Mf
 len:∀ds d,p ds=.ok d->ds.length=np
def Y5{c m:String}{k:Nat} (h:yg X.prog X.w X.K X.mg X.base c m k np dv p) (K:PE X o (tI X.K B f)) (P:PA X (e::es) (tA X.K B r)) (J:Bb j X.A:=by assumption) (N:k<=j:=by decide)
  (Z:vf e es X.env:=by rfl) (Vf:Aj pos es X.env:=by rfl)
  (I:eval (.Call (.Attribute o (ofString m) Ob) (e::es) [] pos) X.env=(do
   let g <- eval o X.env
   standAt Ob.atName
   let (f,first) <- holding [g] (getMethod g (ofString m) pl)
   callWith pos f first (backTo pos<|starEach (e::es) X.env) (backToKw pos<|keywordEach [] X.env)):=by rfl) :
  PE X (.Call (.Attribute o (ofString m) Ob) (e::es) [] pos) (tI X.K B<|sN c m p dv f r):=by
 obtain⟨C,fa,fd,ps,Mf,ds,i,M,F,bd,s,u⟩:=h.ex;refine cF (bBz K i.cl M F (J.mono N) bd s RE P Z Vf I) ?_
 rintro σ H Q ⟨A,st,d,b,O,q⟩;obtain⟨x,G,V⟩:=R.ua O;obtain⟨xs,Y,n⟩:=R.ua V;refine⟨A,st,x,b,G,λv H1 s1 r1=>?_⟩
 cases x<;>first|(cases n)|skip
 obtain⟨⟨e1,L⟩,l⟩:=aM n;subst e1;obtain⟨E,C',W,fs,e2,U,T,S,h8⟩:=lM.ins<|.inl r1;have:C'=C:=by have z:=T.symm.trans i.ns;injection z with z;injection z with z;injection z
 subst this;exact⟨E,W,fs,e2,U,lookup_none S L,A,st,xs,b.mono s1,Y,λvs H2 a y=>⟨A++B,_,d,b.own.mono<|s1.trans a,.cons (r1.mono<|aX.hide a)<|y.append<|u _,h.len _ _ l,l,λw H' t D=>q w H' (s1.trans<|a.trans t) D⟩⟩
def QB(K:Frag)(c:String)(f:Nat)(p:im):Sp:=λe H Q _=>∃x b A C g ds d,e=.ref x::b/\H x=some (.ins C g [])/\nsIn K mainGlobals (ofString c)=some (some<|.ref C)/\Own A H/\x∉A/\bA K (hide (x::A) H) ds b/\ds.length=f/\p ds=.ok d/\
 ∀a,aX (hide [x] H) a->pb K (hide A a) d (.ref x)->Q .Hb a
structure Lf(P:Program)(w:World)(K:Frag)(mg:jp)(base:Heap)(c:String)(k np:Nat)(p:im):Prop where
 ex:∃(C fa:Addr)(fd:FuncData)(ps:wP),ClsAt K c C/\Mk K C fa/\Ja P w K mg base gc k fa fd ps (QB K c np p)/\Binds K fd ps []/\mg (ofString c)=some (.ref C)
 len:∀ds d,p ds=.ok d->ds.length=np
def Dv{c:String}{k:Nat} (h:Lf X.prog X.w X.K X.mg X.base c k np p) (s:Bb j X.A) (v:k+1<=j) (G:PA X (e::es) (tA X.K B r)) (w:Gl X (ofString c):=by rfl) (J:Ce (ofString c):=by decide)
  (he:vf e es X.env:=by rfl) (Vf:Aj pos es X.env:=by rfl):PE X (.Call (.Name (ofString c) p0) (e::es) [] pos) (tI X.K B<|aV p r):=by
 obtain⟨C,N,L,K,E,M,F,bd,t⟩:=h.ex;refine cF (bC0 M F (s.mono v) w t bd .nil RE G J he Vf) ?_
 rintro σ H Q ⟨A,st,d,i,D,q⟩;obtain⟨xs,o,l⟩:=R.ua D;refine⟨A,st,xs,i,o,λvs H1 s1 r1 x dx gI DR O=>?_⟩
 have g:=i.own.mono s1;have f:∀b u,H1 b=some u->Ra (Ra H1 dx<|.own x) x (.ins C dx []) b=some u:=λb u z=>by
  rwa [aK<|aN z gI,aK<|aN z DR]
 refine⟨x,vs++[],A++B,C,dx,xs,d,rfl,bB,E.ns,λb hb=>?_,(g.free gI),?_,h.len _ _ l,l,λI sm m=>⟨rfl,q _ I (λb u z=>?_) m⟩⟩
 .obtain⟨u,z,n⟩:=Y6 (g b hb)
  rwa [f b u z]
 .rw[Ql];refine r1.mono λb u z=>?_
  have a:=aQ _ _ _ _ z;rw[cN<|λy=>(Mb.mp y).elim (aN a gI)<|λy=>by rw[iU y]at z;cases z]
  exact f b u a
 have a:=s1 _ _ z;exact sm b u (by rw[cN (by simpa using aN a gI)];exact f b u a)
def Ĳ{K:Frag} {ws:ss}{x:Addr} {c:String} (w:Own A H) (n:x∉A) (g:H x=some (.ins C dx [])) (o:nsIn K mainGlobals (ofString c)=some (some<|.ref C)) (r:bA K (hide (x::A) H) ds ws) :
  RS K A [x] H (some (Sl.o (.i x c []) [])::(ds.map (λd=>some<|Sl.v d)++List.replicate (N.length-ds.length-1) none)) (L2.start N<|.ref x::ws):=by
 have hl:=r.length;have l:L2.start N (.ref x::ws)=some (.ref x)::(ws.map some++List.replicate (N.length-ds.length-1) none):=by
  unfold L2.start;rw[dg,hl];congr 2
 rw[l];have f:∀(i:Nat)(s:Sl),(ds.map (λd=>some _)++List.replicate (N.length-ds.length-1) none)[i]?=some (some s)->∃d,ds[i]?=some d/\s=.v d:=λi s e=>by
  by_cases a:i<ds.length
  .rw[zo (by simpa using a),List.getElem?_map,List.getElem?_eq_getElem a]at e
   simp at e;exact⟨ds[i],Zc a,e.symm⟩
  rw[SF (by simpa using a),List.getElem?_replicate]at e
  split at e<;>simp at e
 refine⟨by simp[hl],λb hb=>?_,λb hb=>by rwa [Mc.mp hb],λi d e=>?_,λi k xs e=>?_⟩
 .rcases ji.mp hb with hb|hb
  .rw[Mc.mp hb,g];rfl
  exact w b hb
 .cases i with
  |zero=>simp at e
  |succ i=>
   obtain⟨t,e1,e2⟩:=f i _ e;cases e2;obtain⟨v,h,m⟩:=r.get e1;refine⟨v,?_,m⟩;rw[HP,zo (by simpa using ((List.getElem?_eq_some_iff.mp h).1)),List.getElem?_map,h]
   rfl
 cases i with
 |zero=>
  simp at e;obtain⟨rfl,rfl⟩:=e;refine⟨x,_,[],rfl,Mc.mpr rfl,g,⟨rfl,C,dx,[],rfl,o,rfl,rfl⟩,.nil,λj q p ej _=>?_⟩
  cases j with
  |zero=>rfl
  |succ j=>
   obtain⟨_,_,e2⟩:=f j _ ej;cases e2
 |succ i=>
  obtain⟨_,_,e2⟩:=f i _ e;cases e2
def L3{w:World}{K:Frag} {st:Stmt} {f:Addr} {k:Nat} (F:wq K x qual st f fd) (S:Wc N ps (bD st)) (c:String) (t n:Nat) (bd:Bd) (U:ps.length=t+1) (Z:N.length=n)
  (v:∀(i:Value)(A:Around)(e:AT)(s:Shared)(H:Hp)(E:XK)(B:be),Bb k (A.deeper<|envOfC qual (bD st) s.heap.objs.size f i)->
   Te (qm gc P w K mg base N qual (bD st) f i A e s H E).si (cX st) (tS K B bd)):Ja P w K mg base gc (k+1) f fd ps (QB K c t<|qo c t n bd):=by
 refine F.ok S (λD H Q E h=>?_)<|λi A e s H D Q E X h=>?_
 .obtain⟨y,O,A,C,dx,ds,d,rfl,_,_,_,_,r,hl,_⟩:=h;rw[dg,r.length,hl,U]
 obtain⟨y,O,L,C,dx,ds,d,rfl,W,Ww,p,u,r,hl,Y,q⟩:=h;refine⟨tS K L bd,v i A e s H E L X,?_⟩;obtain⟨_,h2⟩:=aM<|L0 Y y;obtain⟨J,Vl,j⟩:=R.ua h2;have G:=Ĳ (N:=N) p u W Ww r;rw[hl,Z]at G;refine⟨[y],_,J,G,Vl,?_⟩;cases J with
 |nx s1=>
  intro A1 av H1 l g;have z:(match (s1[0]?) with|some (some<|.o (.i M c' V) xs)=>aP _ _|_=>.bad)=.ok d:=j
  split at z
  .rename_i M c' V xs e1;obtain⟨rfl,h4⟩:=aM z;cases h4;obtain⟨a,o,D,e2,m,h5,I,T,_⟩:=g.lst 0 _ _ e1;have ea:=I.1;subst ea;exact q H1 (aX.trans (l)<|aQ _ _)<|I.rep (by rwa [cN<|g.Hh a m])<|T.mono<|nU λb v=>Lg _ v
  cases z
 |rt d'=>cases j
 |bk s1=>cases j
 |ct s1=>cases j
def bA6{c:String} (ds:dL) (d:D) (h:qo c np n bd ds=.ok d):ds.length=np:=(aM<|L0 h 0).1
theorem vP(i:Nat) {c a:String} (t:ClsAt X.K c C) (J:eZ X.K C (ofString a)) (he:PE X value (tI X.K B f)) (L:X.N[i]?=some x:=by rfl) (F:Eh X.env.scope x:=by exact Zi rfl) (h:Ce x:=by decide)
  (S:Yi x:=by decide) (G:ml value (some<|.Attribute (.Name x p1) (ofString a) p2) pos.line X.env:=by rfl) :
  PS X (.Assign [.Attribute (.Name x p1) (ofString a) p2] value pos) (tS X.K B<|wC i c a f):=by
 refine gC (bGm (kE L F h S) he G) ?_
 rintro W σ H ⟨A,st,r,e,I,p⟩;obtain⟨d,h,j⟩:=R.ua I;split at j
 .rename_i n Q D xs e1;obtain⟨⟨P,K,T⟩,M⟩:=aM j;subst P;cases M;obtain⟨l,o,U,e2,m,N,E,q,u⟩:=e.lst i _ _ e1;obtain⟨O,b,k,fs,rfl,s,g,rfl⟩:=E;have:b=C:=by have z:=s.symm.trans t.ns;injection z with z;injection z with z;injection z
  subst this;refine⟨A,st,d,e,h,λy V s1 r1=>⟨.ref l,e2,l,b,k,fs,rfl,s1 _ _ N,t.cl,J,?_,?_⟩⟩
  .have:=congrArg List.length g;rw[Gb,Gb]at this;lia
  rw[CZ g K];obtain⟨w,v⟩:=(e.mono s1).write e1 e2 (k1:=.i n Q<|D++[a]) (o':=.ins b k<|fs++[(ofString a,y)]) ⟨O,b,k,_,rfl,s,by rw[Fh,Fh,g];rfl,by rw[Fh];rfl⟩<|(q.mono<|aX.hide s1).append<|.cons r1 .nil
  exact p A _ _ ((Le.of s1).trans v) w
 cases j
def QD:PS X sm (tS X.K B Ux):=λ_ _ _ _ _ _ ⟨_,_,_,_,h,_⟩=>nomatch h
end
section
variable {iter c:Expr} {t:Tg} {u:Ex}
def IX{f:Shared}{l:be}{p:Addr}{j:jp} (E:X.N.Nodup) (u:X.N[i]?=some x) (n:Loc X.env.scope x)
  (w:kl X x) (g:f.heap.objs.size<=C) (d:ya X aa σ H3 f) (H:∀b∈l,Oj X aa H3 b) (m:ya (eQ X scope C f H3 l) [] τ H5 s5) (G:s5.heap.Ns C j)
  (D:∀h,ya X aa (σ.set i<|some<|.ref p) H5 h->Qf .none h):compPost (model X.prog X.w) X.A X.xe (some<|assign (.Name x px) X.env) Qf (.ref p) C (.ok .next) s5:=by
 have lt:∀b o,f.heap.get? b=some o->C≠b:=λb o e z=>Gh _<|ug (Vb<|z ▸ e) g
 have F:C≠X.env.locals:=λz=>Gh _<|ug (z ▸ d.lt) g
 have k:∀y c,X.env.cells.lookup y=some c->c≠C:=λy c e=>by
  obtain⟨v,o,t,_⟩:=d.cell y c e;exact(lt c o t).symm
 exact wpAny_assign_Name<|DW (v:=.ref p) (OD d H g m<|.refl ..) E u n rfl (λK J ⟨a,r,B⟩=>⟨j,G.sameBut r (by
  rcases B with z|z
  .rwa [z]
  exact(k x a z).symm),λL I=>D _<|J.turned (λb o A e=>(I.2 b A).trans e) ((m.free)) F (.inr<|Yg d.sz g) k<|λq s=>(lt q.1 q.2 (d.pin q s).1).symm⟩) w
def Qs{x:Str}{w:Pos}{is:ac}(U:L2.PI X tg iter (qk X.K B it))(V:∀(B:be)(C:Addr)(c:Shared)(b:Hp)(a:be),PG (eQ X scope C c b a) tg<|tG X.K B t)
  (he:∀(B:be)(C:Addr)(c:Shared)(b:Hp)(a:be),PE (eQ X scope C c b a) elt<|tI X.K B f) (Z:X.calm=true:=by rfl) (hsub:Ys is t:=by exact kF) (S:xc X scope is:=by exact .of rfl) (hN:X.N.Nodup:=by assumption) (F:X.N[i]?=some x:=by rfl) (K:Loc X.env.scope x:=by exact Pn rfl)
  (Cu:swapsWith (.ListComp elt [⟨tg,iter,[],0⟩] scope pos) (some<|.Name x px) w.line X.env=pure true:=by rfl)
  (W:kl X x:=by first|exact .inl rfl|exact .inr rfl|assumption) (M:∀x,foldedSetIterable iter X.env x=pure x:=by intro _;rfl) :
  PS X (.Assign [.Name x px] (.ListComp elt [⟨tg,iter,[],0⟩] scope pos) w) (tS X.K B<|cO i<|bH is t it bK f):=by
 intro u s σ H Dn I h;refine yd λhG=>?_
 obtain⟨A,st,r,j,O,q⟩:=h;obtain⟨d,Y,l⟩:=R.ua O;cases l;obtain⟨xs,Fu,h2⟩:=R.ua Y;obtain⟨hl,l⟩:=aM h2;obtain⟨ys,J,h4⟩:=R.ua l;cases h4;refine hG ?_
 rw[exec_Assign_Name_used _ _ _ _ Cu];refine qa<|Qt<|qa<|qa<|oi (uX (rest:=λg it p=>eval elt g >>= λx=>call _ [p,x] >>= λ_=>again<|.compLoop _ 0 it p g) S Z U (λC c b a=>LF λB=>V B C c b a) (λ_ _ _=>rJ)
  (λC c b a it p s Q h=>Y7 h) (λC c b a it p τ H s u n N Q I h q=>b7 rfl (Iy λB=>he B C c b a) τ H s u n N Q I h (λQ Q' m h=>kD Q Q' m h) q) M I
  (vF hsub (λτ H Q ⟨B,A,st,k,j,hk,q⟩=>?_) j Fu hl J λp n H1 y s1 T z L r=>UM j (λv y o E=>q A _ y (Le.of o)<|(j.mono o).set i E) s1 T z L r) λC p H5 s5 m5 s3 H3 a τ hC I3 Wj I5 Xl G=>IX hN F K W hC I3 Wj I5 Xl λD I'=>⟨_,_,I',G⟩) (λ_ D P=>Ga<|Ga P) λ_ _ e=>e
 cases hk;exact q H<|aX.refl _
end
structure Xa(K:Frag)(x qual:Str)(st:Stmt)(dV:Value)(f:Addr)(fd:FuncData):Prop where
 ex:∃(oc:Value)(od:re)(kV doc pm:Value)(an:re)(qc ct:Value) (Oi:pc),
  fd=fnOf x qual (dY st) (cX st) (bD st) dV kV doc pm an qc ct/\K.lookup f=some ⟨oc,od,.func fd,Oi⟩/\codeIn K qc qual=true
 kp:keepIn K (.ref f)=true
section
variable{w:World}{K:Frag} {st:Stmt} {f:Addr} {k:Nat}
def sX{a:re}{kV:Value} (l:K.lookup f=some ⟨oc,a,.func<|fnOf x qual (dY st) (cX st) (bD st) dV kV doc pm an qc ct,Oi⟩)
  (c:codeIn K qc qual=true) (k:keepIn K (.ref f)=true):Xa K x qual st dV f (fnOf x qual (dY st) (cX st) (bD st) dV kV doc pm an qc ct):=⟨⟨oc,a,kV,doc,pm,an,qc,ct,Oi,rfl,l,c⟩,k⟩
def Xa.Tj(F:Xa K x qual st .none f fd)
  (h:∀(kV a d:Value)(g:re)(c e:Value)(b:cr),b.length=ps.length->bindArgs (fnOf x qual (dY st) (cX st) (bD st) .none kV a d g c e) ⟨b,[]⟩=pure (ps.zip b)):Binds K fd ps []:=by
 obtain⟨j,i,kV,a,d,g,c,e,l,rfl,lk,k⟩:=F.ex;exact .all<|h kV a d g c e
theorem Xa.binds{T:Addr}{o:Obj} {ds:cr} (F:Xa K x qual st (.ref T) f fd) (j:K.lookup T=some o) (i:o.data=.seq items n) (u:m+ds.length=ps.length)
  (h:∀(kV a d:Value)(g:re)(c e:Value)(b:cr),b.length=m->∃k:Option (Array Value)->Sem (List<|Str×Value),bindArgs (fnOf x qual (dY st) (cX st) (bD st) (.ref T) kV a d g c e) ⟨b,[]⟩=seqItems? (.ref T) >>= k/\k (some items)=pure (ps.zip<|b++ds)):Binds K fd ps ds:=by
 obtain⟨t,r,kV,a,d,g,c,e,w,rfl,lk,v⟩:=F.ex;intro s b q hl;obtain⟨k,p,l⟩:=h kV a d g c e b (by rw[Ef]at hl;lia)
 exact .of_defaults rfl (q _ _ j) i p l
def Xa.okX(F:Xa K x qual st dV f fd)(S:Wc N ps (bD st))(len:∀vs H Q E,sp vs H Q E->vs.length=ps.length)
  (d:∀(b:Value)(A:Around)(a:AT)(s:Shared)(H:Hp)(vs:ss)(Q:VK)(E:XK),Bb k (A.deeper<|envOfC qual (bD st) s.heap.objs.size f b)->sp vs H Q E->
   ∃t,Te (qm gc P w K mg base N qual (bD st) f b A a s H E).si (cX st) t/\t {nx:=λ_ j=>Q .Hb j,rt:=Q} (L2.start N vs) H):Ja P w K mg base gc (k+1) f fd ps sp:=by
 obtain⟨n,m,kV,g,l,p,b,o,r,rfl,lk,i⟩:=F.ex;refine kN lk i S len λA a s H vs Q E e c=>?_
 obtain⟨t,h,q⟩:=d b A a s H vs Q E e c;exact⟨t,h.si,q⟩
def bL1(F:Xa K x qual st dV f fd)(S:Wc N ps (bD st))(o n:Nat)(bd:Bd)(C:ps.length=o)(I:N.length=n)
  (J:∀(i:Value)(A:Around)(b:AT)(s:Shared)(H:Hp)(E:XK)(B:be),Bb k (A.deeper<|envOfC qual (bD st) s.heap.objs.size f i)->
   Te (qm gc P w K mg base N qual (bD st) f i A b s H E).si (cX st) (tS K B bd)):Ja P w K mg base gc (k+1) f fd ps (Dc K o<|dI o n bd):=by
 refine F.okX S (λu H Q E h=>?_)<|λi A b s H u Q E D h=>?_
 .obtain⟨A,ds,d,e,r,hl,_⟩:=h;rw[r.length,hl,C]
 obtain⟨B,ds,d,e,r,hl,G,q⟩:=h;refine⟨tS K B bd,J i A b s H E B D,?_⟩;obtain⟨_,M⟩:=aM G;obtain⟨t,O,j⟩:=R.ua M;have p:=UY (N:=N) e r;rw[hl,I]at p;refine⟨[],_,t,p,O,?_⟩;have g:∀{m:be}{c:Hp},Le [] H m c->aX H c:=λ{m c} l=>by
  unfold Le at l;exact l.trans<|aQ _ _
 cases t with
 |nx s1=>
  cases j;exact λm U c l z=>q _ c (g l)<|qG.mpr rfl
 |rt T=>
  cases j;exact λm v c l y=>q v c (g l)<|y.mono<|nU λa L=>Lg _ L
 |bk s1=>exact nomatch j
 |ct s1=>exact nomatch j
def yg.of{c m:String} {ds:cr} (d:ClsAt K c C) (a:Meth K C (ofString m) f) (F:Ja P w K mg base gc k f fd ps (Dc K np<|dI np n bd)) (b:Binds K fd ps ds) (v:Ca Mf ds) (r:∀H,bA K H dv Mf):yg P w K mg base c m k np dv (dI np n bd):=
 ⟨⟨C,f,fd,ps,Mf,ds,d,a,F,b,v,r⟩,pC⟩
end
end Pu
namespace Pu
open PySem PySem.Spec PyProof.Rows L2 PySem.SeqAt
section
variable {a b o:Expr}
def ù:jY X (.type "list") (λvs H Q=>∃l xs,vs=[.ref l]/\(Pc X.K H l xs\/ig X.K H l xs)/\∀n,H n=none->Q (.ref n) (Ra H n<|.lst xs)):=by
 intro p s σ H vs o Q I r h;obtain⟨l,xs,rfl,hl,q⟩:=h;obtain⟨u,rfl,j⟩:=r.one;obtain rfl:u=Value.ref l:=j;rcases hl with hl|hl
 .obtain⟨a,c,⟨ob,n,e,g,_,f⟩,b⟩:=I.list hl;exact call_list_seq l (.inl rfl) e g f (λm i k d=>⟨.ref s.heap.objs.size,_,I.laid (o:=.lst xs) k (Ib _) ⟨b,a,i,c,d⟩,rfl,q _<|I.Ia.fresh<|Ib _⟩) (by rw[c.length]at b;simpa using b)
 obtain⟨a,c,⟨ob,e,g,n,f⟩,b⟩:=I.tuple hl;exact call_list_seq l (.inr rfl) e g f (λm i k d=>⟨.ref s.heap.objs.size,_,I.laid (o:=.lst xs) k (Ib _) ⟨b,a,i,c,d⟩,rfl,q _<|I.Ia.fresh<|Ib _⟩) (by rw[c.length]at b;simpa using b)
def Fv(o:X.mg "list"=none)(s:PE X a (tP X.K B f))(p:Gl X "list":=by rfl)(k:vf a [] X.env:=by rfl):PE X (.Call (.Name "list" p0) [a] [] pos) (tI X.K B<|e1 zQ f):=by
 refine cF (qK ù p o rfl (bW s dW k) (he:=k)) ?_
 rintro σ H Q ⟨A,st,d,g,r,q⟩;obtain⟨x,m,j⟩:=R.ua r;refine⟨A,st,x,g,m,λv t s1 r1=>?_⟩
 cases x<;>first|(cases j;done)|skip
 .cases j;obtain⟨l,c,e,i,h⟩:=r1.tup;exact⟨l,c,by rw[e],.inr i,λn b=>q _ _ (s1.trans<|bL b)<|fB (g.own.mono s1) b h⟩
 cases j;obtain⟨l,c,e,i,h⟩:=r1.lst;exact⟨l,c,by rw[e],.inl i,λn b=>q _ _ (s1.trans<|bL b)<|fB (g.own.mono s1) b h⟩
theorem M3:∀{l:u8}{a:cr},Ca (l.map V.bl) a->a=l.map Value.bool
 |[],_,.nil=>rfl
 |b::l,_,.cons r t=>by
  rw[M3 t];cases r;rfl
def ĳ(D:X.calm=true):jY X (.builtin "all") (λvs H Q=>∃(l:Addr)(bs:u8),vs=[.ref l]/\Pc X.K H l (bs.map V.bl)/\Q (.bl<|bs.all id) H):=by
 intro M s σ H vs G Q I r h;obtain⟨l,bs,rfl,hl,q⟩:=h;obtain⟨u,rfl,y⟩:=r.one;obtain rfl:u=Value.ref l:=y;obtain⟨a,w,⟨ob,n,e,E,_,C⟩,K⟩:=I.list hl;have m:=M3 w;have j:s.heap.IsList l a.toArray:=⟨ob,e,E,n,C⟩;refine call_all_walk<|Ft j ⟨s.heap.objs.size,_,_,_,_,_,λi=>bs[i]?.getD false,rfl,wz (A:=X.A.in1) (I.ok.hd D) _ l (zd<|Vb e) a.toArray,⟨⟨_,we _ rfl,rfl,rfl⟩,j.push _⟩,?_,λL J k=>?_⟩
 .intro i v t F N d B;rw[m]at d;simp only[getElem?_toArray,List.getElem?_map,Option.map_eq_some_iff]at d;obtain⟨b,f,rfl⟩:=d;have o:F (bs[i]?.getD false) t:=B;rw[f]at o;exact Ga o
 refine⟨.bl _,H,I.kept<|λb u z=>k b u (λf=>?_)<|bc _ z,?_,q⟩
 .exact Gh _ ((Mc.mp f) ▸ Vb z)
 congr 1;rw[mz,ww,ww];have p:a.toArray.size=bs.length:=by rw[m];simp
 rw[p];constructor
 .intro h x A;obtain⟨i,c,rfl⟩:=Yq.mp A;have:=h i (Vi.mpr c)
  rwa [Zc c]at this
 intro h i c;have g:=Vi.mp c;rw[Zc g];exact h _<|Rh g
theorem N3{K:Frag}{H:Hp}:∀{l:u8}{vs:ss},bA K H (l.map D.bl) vs->vs=l.map V.bl
 |[],vs,h=>cC.mp h
 |b::l,vs,h=>by
  obtain⟨v,r,rfl,c,a⟩:=bG.mp h;rw[N3 a,cA.mp c];rfl
def AF(k:X.mg "all"=none)(o:X.calm=true)(p:PE X a (tP X.K B f))(m:Gl X "all":=by rfl)(c:vf a [] X.env:=by rfl):PE X (.Call (.Name "all" p0) [a] [] pos) (tI X.K B<|e1 Lq f):=by
 refine cF (lZ (ĳ o) m k rfl (bW p dW c) (he:=c)) ?_
 rintro σ H Q ⟨A,st,d,i,n,q⟩;obtain⟨x,j,h⟩:=R.ua n;refine⟨A,st,x,i,j,λv H1 s1 r1=>?_⟩
 cases x<;>first|(cases h)|skip
 obtain⟨bs,s,r⟩:=R.ua h;cases r;obtain⟨l,t,e,g,b⟩:=r1.lst;rw[X4 s]at b;rw[N3 b]at g;exact⟨l,bs,by rw[e],g,q _ H1 s1<|cA.mpr rfl⟩
theorem DZ:∀{l:lw}{a:cr},Ca (l.map V.int) a->∃ps:List (Int×Tok),a=ps.map (λp=>Value.int p.1 p.2)/\ps.map (·.1)=l
 |[],_,.nil=>⟨[],rfl,rfl⟩
 |b::l,_,.cons r t=>by
  obtain⟨ps,e,e2⟩:=DZ t;obtain⟨t,rfl⟩:=r;exact⟨(b,t)::ps,by rw[e];rfl,by rw[Ue,e2]⟩
def EZ{ps:List (Int×Tok)} (a:i<ps.length):numAt ps.toArray i=(ps.map (·.1))[i]'(by simpa using a):=by
 unfold numAt;rw[Kt,Zc a];simp
theorem Ĵ(z:X.calm=true):jY X (.builtin "max") (λvs H Q=>∃(l:Addr)(is:lw),vs=[.ref l]/\Pc X.K H l (is.map V.int)/\0<is.length/\Q (.int<|so is) H):=by
 intro L s σ H vs E Q I r h;obtain⟨l,is,rfl,hl,p,q⟩:=h;obtain⟨u,rfl,d⟩:=r.one;obtain rfl:u=Value.ref l:=d;obtain⟨g,c,⟨ob,n,e,D,_,y⟩,G⟩:=I.list hl;obtain⟨a,C,e2⟩:=DZ c;have b:a.length=is.length:=by rw[<-e2,Gb]
 have f:s.heap.IsList l (intItems a.toArray):=⟨ob,e,D,n,by rw[y,C];simp[intItems]⟩
 refine max_intList (I.ok.hd z) f (by simpa [b] using p) λv K F m k=>?_
 obtain⟨t,rfl⟩:=intItems_at m;refine⟨.int _,H,I.kept k,⟨t,?_⟩,q⟩;congr 1;have o:a.toArray.size=a.length:=rfl;rw[o];obtain⟨J,B⟩:=argBest_gt (numAt a.toArray)<|a.length-1;have A:argBest (λi j=>decide (numAt a.toArray i>numAt a.toArray j)) (a.length-1)<a.length:=by omega
 refine(R0 ?_ λx hx=>?_).symm
 .rw[EZ A,<-e2];exact Rh _
 rw[<-e2]at hx;obtain⟨i,w,rfl⟩:=Yq.mp hx;rw[<-EZ (by simpa using w)]
 exact B i (by lia)
theorem FZ{K:Frag}{H:Hp}:∀{l:lw}{vs:ss},bA K H (l.map D.int) vs->vs=l.map V.int
 |[],vs,h=>cC.mp h
 |b::l,vs,h=>by
  obtain⟨v,r,rfl,c,a⟩:=bG.mp h;rw[FZ a,bC.mp c];rfl
def XN(n:X.mg "max"=none)(r:X.calm=true)(s:PE X a (tP X.K B f))(o:Gl X "max":=by rfl)(h:vf a [] X.env:=by rfl):PE X (.Call (.Name "max" p0) [a] [] pos) (tI X.K B<|e1 sy f):=by
 refine cF (lZ (Ĵ r) o n rfl (bW s dW h) (he:=h)) ?_
 rintro σ H Q ⟨A,st,d,k,p,q⟩;obtain⟨x,m,j⟩:=R.ua p;refine⟨A,st,x,k,m,λv H1 s1 r1=>?_⟩
 cases x<;>first|(cases j)|skip
 obtain⟨is,t,b⟩:=R.ua j;obtain⟨c,b⟩:=aM b;cases b;obtain⟨l,u,e,i,g⟩:=r1.lst;rw[WC t]at g;rw[FZ g]at i;exact⟨l,is,by rw[e],i,c,q _ H1 s1<|bC.mpr rfl⟩
end
end Pu
namespace Pu
open PySem PySem.Spec PyProof.Rows L2
def Pm:List Addr->Heap->Heap
 |[],h=>h
 |a::l,h=>(Pm l h).update a λ_=>{cls:=.none,data:=.freed}
def ĵ(h:Heap)(a:Addr):(h.update a λ_=>{cls:=.none,data:=.freed}).get? a=none:=by
 cases h with
 |mk b=>
  simp[Heap.update,Heap.get?,Array.getElem?_modify];cases b[a]? <;> rfl
theorem nW{b:Addr}{h:Heap}:∀{l:be},b∈l->(Pm l h).get? b=none
 |a::l,c=>by
  by_cases e:b=a
  .rw[e];exact ĵ _ _
  unfold Pm;rw[Zy _ _ _ _ e];exact nW<|(Mb.mp c).resolve_left e
theorem RD{b:Addr}{h:Heap}:∀{l:be},b∉l->(Pm l h).get? b=h.get? b
 |[],_=>rfl
 |a::l,c=>by
  unfold Pm;rw[Zy _ _ _ _ λe=>c (by rw[e];exact Cb)]
  exact RD λz=>c<|Kb _ z
def Ox(l:be)(h:Heap):(Pm l h).StaysIn h:=λb o e=>by
 by_cases a:b∈l
 .rw[nW a]at e;cases e
 rwa [RD a]at e
theorem yL{h base:Heap}:∀{l:AT},h.FunFrames b0 l->(∀L∈Of l,base.get? L=none)->h.FunFrames base l
 |[],_,_=>trivial
 |c::l,⟨k,⟨L,o,e1,_,e,d⟩,r⟩,a=>by
  exact⟨k,⟨L,o,e1,a L (by unfold Of;rw[E8 e1];exact Cb),e,d⟩,yL r λM b=>a M<|by unfold Of;rw[E8 e1];exact Kb _ b⟩
structure ao(C:Addr)(h0:Heap)(H:Hp)(e:Addr)(h:Heap):Prop where
 n0:h0.get? e=none
 nH:H e=none
 ex:∃oe vs a0,h.get? e=some oe/\oe.cls=.ref C/\oe.data=.fields vs/\vs[0]?=some a0/\
  (vs[1]?=some .none\/∃T oT ts,vs[1]?=some (.ref T)/\T≠e/\h.get? T=some oT/\oT.data=.fields ts/\ts[3]?=some .none/\h0.get? T=none/\H T=none)
structure Mj(C:Addr)(h0:Heap)(H:Hp)(e:Addr)(h:Heap):Prop where
 n0:h0.get? e=none
 nH:H e=none
 ex:∃oe vs a0 T oT ts,h.get? e=some oe/\oe.cls=.ref C/\oe.data=.fields vs/\vs[0]?=some a0/\vs[1]?=some (.ref T)/\T≠e/\h.get? T=some oT/\oT.data=.fields ts/\ts[3]?=some .none/\h0.get? T=none/\H T=none
def Mj.SH{e:Addr} (F:Mj C h0 H e h):ao C h0 H e h:=by
 obtain⟨g,f,c,a,m,T,d,b,j,l,k,i,r⟩:=F;exact⟨g,f,c,a,m,j,l,k,i,.inr ⟨T,d,b,r⟩⟩
def Wv(e:Heap)(H:Hp)(fs:be)(h a:Heap):Prop:=
 ∀b o,h.get? b=some o->((∃d,e.get? b=some d)\/∃u,H b=some u)->(b∉fs->a.get? b=some o)/\∃c,a.get? b=some {o with slots:=c}
section
variable{A:Around} {e L:Addr} {b0:Heap} {Q:v4}
def vQ{l:be} (F:∀b o,h0.get? b=some o->∃o',h.get? b=some o') (B:∀b u,H b=some u->∃o,h.get? b=some o) (s:h0.get? e=none) (r:H e=none)
  (w:∀b∈l,b=e\/(h0.get? b=none/\H b=none)\/b∈Of fl) (f:h'.FunFrames (Pm l h) fl) (t:h'.TracedW (Pm l h) e (.ref C) a0):Mj C h0 H e h':=by
 obtain⟨n,m,T,p,c,x,⟨A,v⟩,y,E,a,j,i,k,D⟩:=t;exact⟨s,r,n,m,a0,T,p,c,x,A,y,v,E,j,i,k,D,(by
  by_cases g:T∈l
  .rcases w T g with z|z|z
   .exact(j z).elim
   .exact z
   obtain⟨_,o,d,G⟩:=f.mem z;rw[i]at d;cases d;exact(G c k).elim
  rw[RD g]at a;refine⟨?_,?_⟩
  .cases q:h0.get? T with
   |none=>rfl
   |some o=>obtain⟨o',z⟩:=F T o q;rw[a]at z;cases z
  cases q:H T with
  |none=>rfl
  |some u=>obtain⟨o',z⟩:=B T u q;rw[a]at z;cases z)⟩
def xD{l:be} (m:∀b∈l,(h0.get? b=none/\H b=none)\/b∈Of fl) (f:h.FunFrames bb fl) (k1:(Pm l h).StaysIn h')
  (k:∀b o,h.get? b=some o->(∀vs,o.data≠.fields vs)->∃g,h'.get? b=some {o with slots:=g}):Wv h0 H (Of fl) h h':=λb o e n=>by
 have d:b∉Of fl->h'.get? b=some o:=λa=>k1 b o (by
  rw[RD λz=>?_];exact e
  rcases m b z with ⟨j,i⟩|q
  .rcases n with ⟨r,z⟩|⟨u,z⟩
   .rw[j]at z;cases z
   rw[i]at z;cases z
  exact a q)
 refine⟨d,?_⟩
 by_cases a:b∈Of fl
 .obtain⟨_,s,c,p⟩:=f.mem a;rw[e]at c;cases c;exact k b o e p
 exact⟨o.slots,d a⟩
def Ķ(c:A.frames=some (env::outer))(h:s.heap.FunFrames b0 (env::outer))(p:env.frame=some L)(y:∀b o,h0.get? b=some o->∃o',s.heap.get? b=some o')(w:∀b u,H b=some u->∃o,s.heap.get? b=some o)
  (F:ao C h0 H e s.heap) (v:∀a,ao C h0 H e a->Wv h0 H (Of<|env::outer) s.heap a->Q () {s with heap:=a}):wpAny M A (leaving env<|.ref e) Q E s:=by
 obtain⟨f,d,G,B,R,q,t,r,n,l⟩:=F;rcases l with l|⟨T,I,D,N,O,J,P,K,nT,x⟩
 .refine wpAny_leaving_firstW c (yL h<|λL m=>nW<|Kb _ m) p q (Ox _ _) (nW Cb) r l n λa ⟨k,j,g,i⟩=>?_
  rw[t]at g;refine v a (vQ y w f d (λb hb=>?_) j g).SH<|xD (λb hb=>?_) h k i
  .exact(Mb.mp hb).elim .inl λz=>.inr<|.inr z
  exact(Mb.mp hb).elim (λz=>.inl<|by rw[z];exact⟨f,d⟩) .inr
 refine wpAny_leaving_nextW c (yL h<|λL m=>nW<|Kb _<|Kb _ m) p ⟨G,B,T,I,D,q,⟨t,n⟩,r,N,nW<|Kb _ Cb,O,J,P,K⟩ (Ox _ _) (nW Cb) λa ⟨k,j,g,i⟩=>v a (vQ y w f d (λb hb=>?_) j g).SH<|xD (λb hb=>?_) h k i
 .rcases Mb.mp hb with z|hb
  .exact .inl z
  exact(Mb.mp hb).elim (λz=>.inr<|.inl<|by rw[z];exact⟨nT,x⟩) λz=>.inr<|.inr z
 rcases Mb.mp hb with z|hb
 .exact .inl (by rw[z];exact⟨f,d⟩)
 exact(Mb.mp hb).elim (λz=>.inl<|by rw[z];exact⟨nT,x⟩) .inr
def bA8(d:A.frames=some (env::outer))(h:s.heap.FunFrames b0 (env::outer))(i:env.frame=some L)(Qr:∀b o,h0.get? b=some o->∃o',s.heap.get? b=some o')(W:∀b u,H b=some u->∃o,s.heap.get? b=some o)
  (F:ao C h0 H e s.heap) (V:∀a,Mj C h0 H e a->Wv h0 H (Of<|env::outer) s.heap a->Q () {s with heap:=a}):wpAny M A (noteFrame (.ref e) env) (λ_ s2=>wpAny M A (setFlight (.ref e) none) Q E s2) E s:=by
 refine yd λX=>?_
 obtain⟨p,n,B,w,a0,j,r,k,q,g⟩:=F;have f:∀(l:be),(∀b∈l,b=e\/(h0.get? b=none/\H b=none)\/b∈Of (env::outer))->∀a,Heap.NotedW (Pm l s.heap) (env::outer) e (.ref C) a0 (rawInt L) s.heap a->wpAny M A (setFlight (.ref e) none) Q E {s with heap:=a}:=by
  intro l v a ⟨S,R,P,O⟩;refine wpAny_setFlight_noneW S R P λZ K J I G=>V Z (vQ Qr W p n v J I)<|xD (λb c=>?_) h K λb o c t=>?_
  .rcases v b c with z|z|z
   .exact .inl (by rw[z];exact⟨p,n⟩)
   .exact .inl z
   exact .inr z
  obtain⟨y,z⟩:=O b o c t;exact⟨y,G b _ z t⟩
 refine X ?_
 rcases g with g|⟨T,D,x,h1,Po,U,Dm,Y,nT,fq⟩
 .unfold noteFrame;simp only[i];refine qa (Wi j k g<|wpAny_entryW d (yL h<|λL m=>nW<|Kb _ m) i j (Ox _ _) (nW Cb) k (vt.mp g).1 q λa N=>?_)
  rw[r]at N;exact f _ (λb c=>(Mb.mp c).elim .inl λz=>.inr<|.inr z) a N
 refine wpAny_noteFrame_onW d (yL h<|λL m=>nW<|Kb _<|Kb _ m) i ⟨B,w,T,D,x,j,⟨r,q⟩,k,h1,nW<|Kb _ Cb,Po,U,Dm,Y⟩ (Ox _ _) (nW Cb) λa N=>f _ (λb c=>?_) a N
 rcases Mb.mp c with z|c
 .exact .inl z
 exact(Mb.mp c).elim (λz=>.inr<|.inl<|by rw[z];exact⟨nT,fq⟩) λz=>.inr<|.inr z
def bDl(I:∀b o,h0.get? b=some o->∃o',s.heap.get? b=some o')(y:∀b u,H b=some u->∃o,s.heap.get? b=some o)(F:Mj C h0 H e s.heap)
  (x:∀c,Mj C h0 H e c->Wv h0 H [] s.heap c->Q () {s with heap:=c}):wpAny M A (setFlight (.ref e) none) Q E s:=by
 obtain⟨f,d,j,h,N,T,k,i,r,v,t,q,G,J,w,L,B,nT,g⟩:=F;refine wpAny_setFlight_noneW (base:=Pm [e,T] s.heap) (l:=[]) (Ox _ _) trivial ⟨j,h,T,k,i,r,⟨v,q⟩,t,G,nW (by simp),J,w,L,B⟩ λD p n m l=>x D (vQ I y f d (λb a=>?_) n m)<|xD (fl:=[]) (bb:=s.heap) (λb a=>?_) trivial p λb o a K=>⟨o.slots,l b o a K⟩
 .rcases Mb.mp a with z|z
  .exact .inl z
  exact .inr<|.inl<|by rw[Mc.mp z];exact⟨nT,g⟩
 rcases Mb.mp a with z|z
 .exact .inl (by rw[z];exact⟨f,d⟩)
 exact .inl (by rw[Mc.mp z];exact⟨nT,g⟩)
end
def Í{w:World} (x:jF P w H h a o):∃ob,h.get? a=some ob:=by
 cases o with
 |lst xs=>obtain⟨_,_,_,_,e⟩:=x;exact⟨_,e⟩
 |tup xs=>obtain⟨_,_,_,ob,e,_⟩:=x;exact⟨_,e⟩
 |dK b=>obtain⟨_,_,_,_,o,_,_,e,_⟩:=x;exact⟨_,e⟩
 |dT b=>obtain⟨_,_,_,_,o,_,_,e,_⟩:=x;exact⟨_,e⟩
 |set S n=>obtain⟨o,_,_,_,e,_⟩:=x;exact⟨_,e⟩
 |ins C i fs=>obtain⟨_,_,_,e,_⟩:=x;exact⟨_,e⟩
 |own y=>obtain⟨_,e⟩:=x;exact⟨_,e⟩
 |xd fs=>obtain⟨_,⟨_,_,_,e,_⟩,_⟩:=x;exact⟨_,e⟩
 |Uo lo g=>obtain⟨_,_,_,e⟩:=x;exact⟨_,e⟩
 |fg ob u=>obtain⟨e,_⟩:=x;exact⟨_,e⟩
 |lm d=>exact⟨_,(x)⟩
 |met f y=>exact⟨_,(x)⟩
 |ext c=>obtain⟨_,⟨_,e⟩,_⟩:=x;exact⟨_,e⟩
def zL{w:World} (x:de P w H h):∀b u,H b=some u->∃o,h.get? b=some o:=λb u e=>Í<|x b u e
def QJ{w:World} {fs:be} (x:de P w H h) (m:Wv h0 H fs h h') (g:∀b∈fs,H b=none):de P w H h':=λb u e=>by
 refine(x b u e).Pe (λc v hc q=>?_) (λ_ q=>q) λ_ _ q=>q
 have f:∃u,H c=some u:=by
  rcases hc with z|z
  .exact⟨u,by rwa [z]⟩
  exact⟨_,z⟩
 obtain⟨d,a⟩:=f;exact(m c v q<|.inr ⟨d,a⟩).1 λi=>by rw[g c i]at a;cases a
def ao.back{e:Addr} (F:ao C h1 H e h) (k:∀b o,h0.get? b=some o->∃o',h1.get? b=some o'):ao C h0 H e h:=by
 have z:∀b,h1.get? b=none->h0.get? b=none:=λb s=>by
  cases q:h0.get? b with
  |none=>rfl
  |some o=>obtain⟨o',c⟩:=k b o q;rw[s]at c;cases c
 obtain⟨l,j,g,d,w,n,r,p,m,a⟩:=F;refine⟨z _ l,j,g,d,w,n,r,p,m,?_⟩;rcases a with a|⟨T,i,f,A,x,t,y,u,nT,v⟩
 .exact .inl a
 exact .inr ⟨T,i,f,A,x,t,y,u,z _ nT,v⟩
def Wo(P:Program)(w:World):vq:=λa H s E e b=>∃d C c,e=.ref d/\b.os=s.os/\AllBare b.gens/\Un (Of a) [] H c s.heap b.heap/\de P w c b.heap/\ao C s.heap c d b.heap/\E (.ref C) none c
def Ry(X:Cx)(W:Addr->L2.St->xz):Prop:=∀(d:db) (σ:L2.St) (H:Hp) (s:Shared) (c C:Addr) (b:Hp) (a:Shared),ya X d σ H s->a.os=s.os->AllBare a.gens->Un (Of X.stack) [] H b s.heap a.heap->
 de X.prog X.w b a.heap->ao C s.heap b c a.heap->W C σ b->X.xe (.ref c) a
def bAa{w:World}{K:Frag} {f:Addr} {A:Around} {E:XK} :
  Ry (qm (Wo P w) P w K mg base N qual scope f cd A outer s0 H0 E) (λC _ g=>E (.ref C) none g):=by
 intro x σ H s l C g t I p a un d F k;have J:=I.Ym p un d a λ_ z=>nomatch z
 have h:=λb o e=>J.base.there b o e (by intro z;cases z)
 refine Ķ J.ok.frames J.stack rfl h (zL d) (F.back<|λb o e=>I.base.there b o e<|by intro z;cases z) λv q m=>⟨l,C,g,rfl,J.os,a,(⟨λb o e n a c=>?_,λb o e n a c=>?_,λb o e n c=>J.base.free b o e n (by intro z;cases z),λb o e c=>?_,J.base.Zf,J.base.Df,J.base.Yf⟩),QJ d m J.dh,q,k⟩
 .exact(m b o (J.base.keep b o e n a<|by intro z;cases z)<|.inl ⟨o,e⟩).1 ((λb o e j z=>by
  rcases Mb.mp (z) with z|z
  .exact(λb o e=>zd<|Vb e) b o e z
  exact j z) b o e a)
 .obtain⟨r,e1⟩:=J.base.slot b o e n a (by intro z;cases z)
  obtain⟨i,e2⟩:=(m b _ e1<|.inl ⟨o,e⟩).2;exact⟨i,e2⟩
 obtain⟨u,e1⟩:=h b o e;obtain⟨i,e2⟩:=(m b _ e1<|.inl ⟨o,e⟩).2;exact⟨_,e2⟩
def bAb{e:Addr}{vs:cr} {w:World} (x:Heap.MadeExcOf h h' e (.ref C) vs) (b:de P w H h):ao C h H e h':=by
 obtain⟨t,a,c,_⟩:=x.there;refine⟨x.new,?_,_,_,_,a,rfl,rfl,rfl,.inl rfl⟩;cases q:H e with
 |none=>rfl
 |some u=>obtain⟨o,z⟩:=zL b e u q;rw[x.new]at z;cases z
section
variable {t:TA} {W:Addr->L2.St->xz}
def bAc{c:String} {p:Pos} (K:Ry X W) (F:ExcAt X.K c C tl) (D:X.mg (ofString c)=some (.ref C)) (S:X.calm=true) (G:PA X (e::es) t) (E:Gl X (ofString c):=by rfl) (U:Ce (ofString c):=by decide)
  (he:vf e es X.env:=by rfl) (Vf:Aj xb es X.env:=by rfl) (V:(e::es).length<=100:=by decide) :
  PS X (.Raise (some<|.Call (.Name (ofString c) p) (e::es) [] xb) none pos) (λ_ b H=>t b H λvs R=>vs.length<=100/\W C b R):=by
 intro l s b H Dn I h;refine yd λL=>?_
 obtain⟨B,f,Xf,Y,FB,g⟩:=F.ob;obtain⟨N,r,q,bs,d,n,sub,P,i,O,y,x,w,v,u,mN,M,J,Q,T⟩:=g X.base I.ok.mod.tf;refine L (wpAny_Raise_call_subT (nm:=r) (q:=q) (N:=N) (bs:=bs) (hdct:=d) (sn:=n) (sub:=sub) (ab:=P) (col:=i) (dd:=O) (k0:=y) (k1:=x) (k2:=w) (k3:=v) (k5:=u)
  FB (T.hasType FB.hasBase) (I.ok.hd S) (by rw[he];show (false||(backTo xb _).any (·.1))=false;rw[Vf];rfl) Q (zA I E D ⟨rfl,?_⟩ U))
 have k:=G xb l s b H _ I h;rw[he]at k ⊢;refine Calls.evalArgs_plain<|Lb k λZ j ⟨vs,m,a,o,A,z⟩=>⟨rfl,?_,a.bk _ _ M,J.keeps a.bk,T.keeps a.bk,λh' ea hx=>?_⟩
 .rw[<-o.length];exact Yg A (by decide)
 exact K l b m j ea C m {j with heap:=h'} a rfl a.bare (Un.kept hx.keeps) (a.Ia.kept hx.keeps) (bAb hx a.Ia) z
end
def GZ{fs:be} (u:Un fs [] H0 H h0 h) (m:Wv h0 H gs h h') (c:∀b∈gs,b∈fs):Un fs [] H0 H h0 h':=by
 refine⟨λb o e n hb hx=>?_,λb o e n hb hx=>?_,λb o e n hx=>u.free b o e n hx,λb o e hx=>?_,u.Zf,u.Df,u.Yf⟩
 .exact(m b o (u.keep b o e n hb hx)<|.inl ⟨o,e⟩).1 λz=>hb<|c b z
 .obtain⟨d,e1⟩:=u.slot b o e n hb hx;obtain⟨a,e2⟩:=(m b _ e1<|.inl ⟨o,e⟩).2;exact⟨a,e2⟩
 obtain⟨f,e1⟩:=u.there b o e hx;obtain⟨a,e2⟩:=(m b _ e1<|.inl ⟨o,e⟩).2;exact⟨_,e2⟩
structure FS(X:Cx)(aa:db)(σ:L2.St)(H:Hp)(ea C:Addr)(s:Shared):Prop where
 ex:∃Hc sc,ya X aa σ Hc sc/\s.os=sc.os/\AllBare s.gens/\Un (Of X.stack) [] Hc H sc.heap s.heap/\de X.prog X.w H s.heap/\Mj C sc.heap H ea s.heap
section
variable{X:Cx}{aa:db}{σ:L2.St}{H:Hp}{ea C:Addr}{s:Shared}
def FS.inv(F:FS X aa σ H ea C s):ya X aa σ H s:=by
 obtain⟨d,c,I,os,a,un,b,f⟩:=F.ex;exact I.Ym os un b a λ_ z=>nomatch z
def FS.there(F:FS X aa σ H ea C s):∃a,s.heap.get? ea=some a/\a.cls=.ref C:=by
 obtain⟨h,e,I,os,b,un,g,f⟩:=F.ex;obtain⟨_,_,a,_,_,_,_,_,c,d,_⟩:=f;exact⟨a,c,d⟩
abbrev held(X:Cx)(a:Addr):Cx:={X with A:=X.A.mark<|some<|.ref a,calm:=false,xe:=λ_ _=>False}
def bDm(ok:X.Ok)(a:Addr):(held X a).Ok:=
 ⟨ok.mod,ok.kind,ok.glob,ok.blt,ok.above,ok.inj,ok.has,ok.Yt,(λz=>nomatch z),ok.frames,ok.qx,ok.Lw,ok.bs,ok.ym,ok.Zj,ok.Vj,ok.Pf,ok.Mo⟩
def HZ(I:ya X aa σ H s)(a:Addr):ya (held X a) aa σ H s:=⟨bDm I.ok a,I.os,I.bare,I.base,I.loc,I.cell,I.free,I.Qc,I.pin,I.Ia,I.len⟩
def vR(ok:X.Ok)(I:ya (held X ea) aa σ H s):ya X aa σ H s:=⟨ok,I.os,I.bare,I.base,I.loc,I.cell,I.free,I.Qc,I.pin,I.Ia,I.len⟩
def ķ{D:Ends}{f:Flow} (ok:X.Ok) (h:SP (held X ea) aa D f s'):SP X aa D f s':=by
 cases f with
 |next=>obtain⟨a,b,I,q⟩:=h;exact⟨a,b,vR ok I,q⟩
 |brk=>obtain⟨a,b,I,q⟩:=h;exact⟨a,b,vR ok I,q⟩
 |cont=>obtain⟨a,b,I,q⟩:=h;exact⟨a,b,vR ok I,q⟩
 |ret u=>obtain⟨v,a,b,I,r,q⟩:=h;exact⟨v,a,b,vR ok I,r,q⟩
def FS.set{A:Around} {Q:v4} (F:FS X aa σ H ea C s) (h:∀c,FS X aa σ H ea C c->Q () c):wpAny M A (setFlight (.ref ea) none) Q E s:=by
 obtain⟨j,g,I,os,a,un,d,f⟩:=F.ex;refine bDl (λb o e=>un.there b o e<|by intro z;cases z) (zL d) f λk i m=>h _ ⟨j,g,I,os,a,GZ un m (by intro b z;cases z),QJ d m (by intro b z;cases z),i⟩
end
section
variable{A:Around} {nm q:Str} {N:Addr} {bs bm:cr} {hdct:Bool} {sn:wP} {sub:cr} {ab:Bool} {col:Option Bool} {dd:re} {k0 k1 k2 k3 k5:Option Value}
variable{b_ q':Str}{N':Addr}{b9 IH:cr}{Mr:Bool}{f_:wP}{UB:cr}{U5:Bool}{Kz:Option Bool}{Bm:re}{j0 j1 j2 j3 j5:Option Value}{Nn:String}
def Λ{g:Array GenState}{d:Drawn}{t:Nat}{os:OsState}{e:Addr}{Q:wv}
  (j:h.get? C=some (excClassObj nm q C N bs bm hdct sn sub ab col dd k0 k1 k2 k3 k5 newId)) (i:h.get? D'=some (excClassObj b_ q' D' N' b9 IH Mr f_ UB U5 Kz Bm j0 j1 j2 j3 j5 Nn)) (he:h.get? e=some oe) (k:oe.cls=.ref C) (l:IH.contains (.type "BaseException")=true)
  (a:Q ((Value.ref C::bm).contains<|.ref D') ⟨h,g,d,t,os⟩):wpAny M A (excMatches (.ref e)<|.ref D') Q E ⟨h,g,d,t,os⟩:=by
 have b:(Value.ref D' :: IH).contains (.type "BaseException")=true:=by rw[List.contains_cons,l,Bool.or_true]
 have f:=tc_notTuple;unfold excMatches;cases c:(Value.ref C::bm).contains (.ref D') <;> rw[c]at a <;>
  repeat (first|(with_reducible refine wpAny_loadPart_at he ?_;rw[k])|with_reducible refine wpAny_loadPart_at i ?_|(with_reducible refine wpAny_isSubtype_exc i ?_;rw[b])|(with_reducible refine wpAny_isSubtype_exc j ?_;rw[c])|wp_step)
 .exact a
 .exact a
end
def PH(X:Cx)(d:List ExceptHandler)(t:Addr->TS):Prop:=∀(b:db) (s:Shared) (σ:L2.St) (H:Hp) (c:Ends) (a C:Addr),FS X b σ H a C s->t C c σ H->wpAny (model X.prog X.w) X.A (handleBy (.ref a) X.env d) (SP X b c) X.xe s
section
variable{X:Cx}
def qB(X:Cx)(c:List ExceptHandler)(aa:db)(d:Ends)(e:Value)(s1:Shared):Prop:=
 wpAny (model X.prog X.w) X.A (noteFrame e X.env) (λ_ b=>wpAny (model X.prog X.w) X.A (setFlight e none) (λ_ a=>wpAny (model X.prog X.w) X.A (handleBy e X.env c) (SP X aa d) X.xe a) X.xe b) X.xe s1
abbrev Bp(X:Cx)(pn:db)(E:am):Cx:={X with pn:=pn,xe:=E}
def bDn (ok:X.Ok):(Bp X pn E).Ok:=
 ⟨ok.mod,ok.kind,ok.glob,ok.blt,ok.above,ok.inj,ok.has,ok.Yt,ok.hd,ok.frames,ok.qx,ok.Lw,ok.bs,ok.ym,ok.Zj,ok.Vj,ok.Pf,ok.Mo⟩
def bAd{a:L2.St} (I:ya X aa a H s):ya (Bp X (X.pn++aa) E) [] a H s:=
 ⟨bDn I.ok,I.os,I.bare,I.base,I.loc,I.cell,I.free,I.Qc,λp b=>I.pin p (by rw[Ql]at b;exact b),I.Ia,I.len⟩
def rN {a:L2.St} (ok:X.Ok) (I:ya (Bp X (X.pn++aa) E) jl a H s):ya X aa a H s:=
 ⟨ok,I.os,I.bare,I.base,I.loc,I.cell,I.free,I.Qc,λp b=>I.pin p<|Dj _ b,I.Ia,I.len⟩
def ĸ{D:Ends}{f:Flow} (ok:X.Ok) (h:SP (Bp X (X.pn++aa) E) [] D f s'):SP X aa D f s':=by
 cases f with
 |next=>obtain⟨a,b,I,q⟩:=h;exact⟨a,b,rN ok I,q⟩
 |brk=>obtain⟨a,b,I,q⟩:=h;exact⟨a,b,rN ok I,q⟩
 |cont=>obtain⟨a,b,I,q⟩:=h;exact⟨a,b,rN ok I,q⟩
 |ret u=>obtain⟨v,a,b,I,r,q⟩:=h;exact⟨v,a,b,rN ok I,r,q⟩
def bI0{a:ExceptHandler} {tb:(Addr->L2.St->xz)->TS} {p:Addr->TS} (k:X.stack=X.env::X.outer/\X.env.frame=some X.env.locals)
  (L:∀(w:db) (E:am) (W:Addr->L2.St->xz),Ry (Bp X w E) W->Te (Bp X w E) body (tb W)) (K:PH X (a::hs) p) :
  PS X (.Try body (a::hs) [] [] pos) (λd l H=>tb (λC g c=>p C d g c) d l H):=by
 intro i s l H d I h;refine wpAny_Try_except ?_
 have N:Ry (Bp X (X.pn++i)<|qB X (a::hs) i d) (λC g c=>p C d g c):=by
  intro R g D v P C c G J y A un r F M;have B:=rN (aa:=i) I.ok J;have q:ya X i g c G:=B.Ym (ch:=[]) y un r A λ_ z=>nomatch z
  have x:=q.ok.frames;have t:=q.stack;rw[k.1]at x t;refine bA8 x t k.2 (λb o e=>un.there b o e<|by intro z;cases z) (zL r) F λO Q m=>?_
  have n:Un (Of X.stack) [] D c v.heap O:=GZ un m (by rw[k.1];exact λ_ z=>z)
  exact K i _ g c d P C ⟨D,v,B,y,A,n,QJ r m (by rw[<-k.1];exact q.dh),Q⟩ M
 refine oi (L _ _ _ N [] s l H d (bAd I) h) (λf s1 z=>?_) λe s1 z=>z
 have j:=ĸ I.ok z;cases f with
 |next=>exact Ga j
 |brk=>exact j
 |cont=>exact j
 |ret u=>exact j
end
abbrev XW:=D->L2.St->xz
def Exc(K:Frag)(B A:be)(H:Hp)(sm:Bool)(st:za)(x:D)(W:XW):Prop:=∀c st' b a,Le A H c a->RS K B c a st' b->(sm=true->st'=st)->W x b a
def Exc.mono{K:Frag} {sm:Bool} {st:za} {x:D} (l:Le A H A1 H1) (h:Exc K B A H sm st x W):Exc K B A1 H1 sm st x W:=λd st' b c a=>h d st' b c<|l.trans a
def Exc.any{K:Frag} {sm:Bool}{st:za} {x:D} (h:Exc K B A H false Wg x W):Exc K B A H sm st x W:=λc st' a b l r _=>h c st' a b l r λz=>nomatch z
def Out(K:Frag)(B A:be)(H:Hp)(sm:Bool)(st:za)(W:XW)(a:Ends)(r:R Fl):Prop:=match r with
 |.ok r=>vo K B A H r a
 |.exc x=>Exc K B A H sm st x W
 |.bad=>False
theorem Out.mono{K:Frag}{B A:be}{H a:Hp}{sm:Bool}{st:za}{b:Ends}{r:R Fl}(l:Le A H A1 a)(h:Out K B A H sm st W b r):Out K B A1 a sm st W b r:=by
 cases r with
 |ok r=>exact vo.mono l h
 |exc x=>exact Exc.mono l h
 |bad=>exact h
theorem Out.any{K:Frag}{B A:be}{H:Hp}{sm:Bool}{st:za}{a:Ends}{r:R Fl}(h:Out K B A H false Wg W a r):Out K B A H sm st W a r:=by
 cases r with
 |ok r=>exact h
 |exc x=>exact Exc.any h
 |bad=>exact h
def cj(K:Frag)(B:be)(sm:Bool)(W:XW)(b:Bd):TS:=λa σ H=>∃A st,RS K B A H st σ/\Out K B A H sm st W a (b st)
def k_(K:Frag)(B:be)(W:XW)(f:Ex):TE:=λσ H Q=>∃A st,RS K B A H st σ/\(match f st with
 |.ok d=>∀v a,aX H a->pb K (hide (A++B) a) d v->Q v a
 |.exc x=>∀a,aX H a->W x σ a
 |.bad=>False)
def xy(X:Cx)(W:XW):Prop:=Ry X λC σ b=>∃c a,ExcAt X.K c C a/\W (.Ag c [] []) σ b
section
variable {a b o:Expr} {rest:List Stmt} {W:XW} {s1 s2:Bool}
def m7(h:PS X sm (cj X.K B s1 W bd)):PS X sm (cj X.K B false W bd):=gC h λb σ H ⟨A,st,a,q⟩=>⟨A,st,a,q.any⟩
def Z5(h:PS X sm (tS X.K B bd)):PS X sm (cj X.K B s1 W<|PB bd):=gC h (by
 rintro c σ H ⟨A,st,b,q⟩;unfold PB at q;cases a:bd st with
 |ok r=>rw[a]at q;exact⟨A,st,r,b,a,q⟩
 |exc x=>rw[a]at q;exact q.elim
 |bad=>rw[a]at q;exact q.elim)
def bL2:Te X [] (cj X.K B s1 W cJ):=Nx QK (by
 rintro b σ H ⟨A,st,a,q⟩;exact q A σ H Le.refl a)
def YN(a:PS X sm (cj X.K B s1 W bd)):Te X [sm] (cj X.K B s1 W bd):=zB a
def d6(f:PS X sm (cj X.K B s1 W bd))(e:Te X rest (cj X.K B s2 W Gp)):Te X (sm::rest) (cj X.K B false W<|aY bd Gp):=by
 refine Nx (kI f e) ?_
 rintro j σ H ⟨A,st,c,q⟩;refine⟨A,st,c,?_⟩;unfold aY By at q;cases b:bd st with
 |ok r=>
  rw[b]at q;cases r with
  |nx s1=>exact λg h i l a=>⟨g,s1,a,(q.mono l).any⟩
  |rt d=>exact q
  |bk s1=>exact q
  |ct s1=>exact q
 |exc x=>rw[b]at q;exact Exc.any q
 |bad=>rwa [b]at q
def bMe{c:Expr}{t:Ex}{x y:List Stmt}(e:PT X c (tT X.K B t))(g:Te X x (cj X.K B s1 W bd))(f:Te X y (cj X.K B s1 W Gp)):PS X (.If c x y pos) (cj X.K B s1 W<|Oc (MH t) bd Gp):=gC (ZM e g f) (by
 rintro i σ H ⟨A,st,b,q⟩;unfold Oc MH at q;cases a:t st with
 |exc x=>rw[a]at q;exact q.elim
 |bad=>rw[a]at q;exact q.elim
 |ok d=>
  rw[a]at q;cases d<;>first|exact q.elim|skip
  rename_i k;refine⟨A,st,k,b,a,λh s1=>?_⟩
  cases k with
  |true=>exact⟨A,st,b.mono s1,Out.mono (Le.of s1) q⟩
  |false=>exact⟨A,st,b.mono s1,Out.mono (Le.of s1) q⟩)
def bL3(h:PE X e (k_ X.K B W f))(g:ml e none pos.line X.env:=by rfl):PS X (.Expr e pos) (cj X.K B true W<|Kq f):=gC (AD h g) (by
 rintro i σ H ⟨A,st,a,q⟩;refine⟨A,st,a,?_⟩;unfold Kq at q;cases b:f st with
 |ok d=>rw[b]at q;exact λv c s _=>q A σ c (Le.of s)<|a.mono s
 |exc x=>rw[b]at q;exact λc s=>q A st σ c (Le.of s) (a.mono s) λ_=>rfl
 |bad=>rwa [b]at q)
def x_raise{c:String} {j:Pos} (n:xy X W) (f:ExcAt X.K c C tl) (k:X.mg (ofString c)=some (.ref C)) (o:X.calm=true) (m:PA X (e::es) (tA X.K B r)) (l:Gl X (ofString c):=by rfl) (p:Ce (ofString c):=by decide)
  (he:vf e es X.env:=by rfl) (Vf:Aj xb es X.env:=by rfl) (h:(e::es).length<=100:=by decide) :
  PS X (.Raise (some<|.Call (.Name (ofString c) j) (e::es) [] xb) none pos) (cj X.K B true W<|dE c r):=by
 refine gC (bAc n f k o m l p he Vf h) ?_
 rintro g σ H ⟨A,st,d,q⟩;unfold dE at q;cases b:r st with
 |exc x=>rw[b]at q;exact q.elim
 |bad=>rw[b]at q;exact q.elim
 |ok ds=>
  rw[b]at q
  by_cases hl:ds.length<=100
  .refine⟨A,st,ds,d,b,λs H1 s1 i=>⟨by rwa [i.length],c,tl,f,?_⟩⟩
   have a:Out X.K B A H true st W g (aP _ _):=q;rw[aF hl]at a;exact a A st σ H1 (Le.of s1) (d.mono s1) λ_=>rfl
  have a:Out X.K B A H true st W g (aP (ds.length<=100) _):=q;rw[show aP _ _=.bad from Ea hl]at a
  exact a.elim
end
end Pu
variable{W:Pu.XW}
namespace Pu
open PySem PySem.Spec PyProof.Rows L2
def ox(K:Frag)(e:Nat)(p:im):Sp:=λb H Q E=>∃A ds,Own A H/\bA K (hide A H) ds b/\ds.length=e/\(match p ds with
 |.ok d=>∀v a,aX H a->pb K (hide A a) d v->Q v a
 |.exc x=>∀C c f a,x=.Ag c [] []->ExcAt K c C f->aX H a->E (.ref C) none a
 |.bad=>False)
def bMf{w:World}{K:Frag} {st:Stmt} {f:Addr} {k:Nat} {sm:Bool} (F:Xa K x qual st dV f fd) (S:Wc N ps (bD st)) (t n:Nat) (bd:Bd) (L:ps.length=t) (R:N.length=n)
  (T:∀(i:Value)(A:Around)(b:AT)(s:Shared)(H:Hp)(E:XK)(B:be)(W:XW),Bb k (A.deeper<|envOfC qual (bD st) s.heap.objs.size f i)->
   xy (qm (Wo P w) P w K mg base N qual (bD st) f i A b s H E) W->Te (qm (Wo P w) P w K mg base N qual (bD st) f i A b s H E) (cX st) (cj K B sm W bd)):Ja P w K mg base (Wo P w) (k+1) f fd ps (ox K t<|dI t n bd):=by
 obtain⟨oc,od,kV,doc,pm,an,i,ct,Oi,rfl,lk,Sf⟩:=F.ex;refine kN lk Sf S (λD H Q E h=>?_) λA b s H D Q E O h=>?_
 .obtain⟨A,ds,j,r,hl,_⟩:=h;rw[r.length,hl,L]
 obtain⟨B,ds,j,r,hl,q⟩:=h
 let W:XW:=λx _ d=>∀C c m,x=.Ag c [] []->ExcAt K c C m->E (.ref C) none d
 refine⟨cj K B sm W bd,T i A b s H E B W O ?_,?_⟩
 .intro aa σ H1 s1 ea C d G I h1 Z Y X V ⟨c,m,u,M⟩;exact bAa aa σ H1 s1 ea C d G I h1 Z Y X V<|M C c m rfl u
 have z:=UY (N:=N) j r;rw[hl,R]at z;refine⟨[],_,z,?_⟩;have g:∀{o:be}{d:Hp},Le [] H o d->aX H d:=λ{o d} l=>by
  unfold Le at l;exact l.trans<|aQ _ _
 unfold dI at q;rw[aF hl]at q;cases y:bd _ with
 |ok fl=>
  rw[y]at q;cases fl with
  |nx s1=>exact λo Sa d l p=>q _ d (g l)<|qG.mpr rfl
  |rt d'=>exact λo v d l J=>q v d (g l)<|J.mono<|nU λa U=>Lg _ U
  |bk s1=>exact q.elim
  |ct s1=>exact q.elim
 |exc x=>
  rw[y]at q;exact λo st' Sa d l p _ C c m e u=>q C c m d e u<|g l
 |bad=>rwa [y]at q
def bDo{w:World}{K:Frag} {k:Nat} {f:Addr} (F:Ja P w K mg base (Wo P w) k f fd ps (ox K np p)):Ja P w K mg base gc k f fd ps (Dc K np<|CI p):=by
 have i:∀a H Q E,Dc K np (CI p) a H Q E->ox K np p a H Q E0:=by
  rintro a H Q E ⟨A,ds,d,g,r,hl,n,q⟩;refine⟨A,ds,g,r,hl,?_⟩
  rwa [R.ak n]
 refine⟨λa H Q E h=>F.len a H Q E0<|i a H Q E h,λA b s H c j a Q E m v o l h=>Um (F.run A b s H c j a Q E0 m v o l<|i a H Q E h) λr x z=>?_⟩
 cases r with
 |error e=>obtain⟨_,_,_,_,_,_,_,_,_,t⟩:=z;exact t.elim
 |ok u=>cases u<;>exact z
structure cf(P:Program)(w:World)(K:Frag)(mg:jp)(base:Heap)(x:Str)(k np:Nat)(p:im):Prop where
 ex:∃(fa:Addr)(fd:FuncData)(ps:wP),Ja P w K mg base (Wo P w) k fa fd ps (ox K np p)/\mg x=some (.ref fa)/\keepIn K (.ref fa)=true/\Binds K fd ps []
 len:∀ds,p ds≠.bad->ds.length=np
def Ĺ(ds:dL)(h:dI np n bd ds≠.bad):ds.length=np:=by
 by_cases hl:ds.length=np
 .exact hl
 exact(h<|Ea hl).elim
def cf.of{w:World}{K:Frag} {k:Nat} (h:Ja P w K mg base (Wo P w) k fa fd ps (ox K np<|dI np n bd)) (m:mg x=some (.ref fa))
  (kp:keepIn K (.ref fa)=true) (b:Binds K fd ps []):cf P w K mg base x k np (dI np n bd):=⟨⟨fa,fd,ps,h,m,kp,b⟩,Ĺ⟩
def cf.calm{w:World}{K:Frag} {k:Nat} (h:cf P w K mg base x k np p):Na P w K mg base x k np (CI p):=by
 obtain⟨g,f,a,F,m,c,b⟩:=h.ex;refine⟨⟨g,f,a,bDo F,m,c,b⟩,λds d e=>h.len ds λz=>?_⟩
 rw[R.ak e]at z;cases z
section
variable{X:Cx}{B:be}{a b e o:Expr}{f g:Ex}{pos:Pos}{W:XW}
def bDp{k:Nat} {ds:cr} {E:XK} {c:L2.St} {Q:VK} (F:Ja X.prog X.w X.K X.mg X.base CX k fa fd ps sp) (g:Bb k X.A) (j:Binds X.K fd ps ds) (i:Ca Mf ds)
  (I:ya X aa c H s) (r:Ca vs us) (f:∀e b,CX X.stack H s E e b->X.xe e b) (h:sp (vs++Mf) H Q E):wpAny (model X.prog X.w) X.A (call (.ref fa) us) (EP X aa c Q) X.xe s:=by
 have d:=r.append i;refine Xt<|Um (F.run X.A X.stack s H _ _ _ Q E g I.Lp (j s us I.Pg<|by rw[<-d.length];exact F.len _ _ _ _ h) d h) λr b a=>?_
 cases r with
 |error e=>exact f e b a
 |ok l=>
  cases l with
  |ret u=>exact I.after a
  |next=>exact False.elim a
  |brk=>exact False.elim a
  |cont=>exact False.elim a
def EW(X:Cx)(W:XW)(a:L2.St):XK:=λb _ e=>∃C c d,b=.ref C/\ExcAt X.K c C d/\W (.Ag c [] []) a e
def bMg{b:L2.St} (i:xy X W) (I:ya X aa b H s) (e:Value) (d:Shared) (h:Wo X.prog X.w X.stack H s (EW X W b) e d):X.xe e d:=by
 obtain⟨j,C,m,rfl,os,a,un,l,F,n,c,k,e1,g,f⟩:=h;cases e1;exact i aa b H s j C m d I os a un l F ⟨c,k,g,f⟩
def bDq{k:Nat} (h:cf X.prog X.w X.K X.mg X.base x k np p) (M:xy X W) (E:Bb j X.A) (G:k<=j) (L:PA X (e::es) (tA X.K B r)) (J:Gl X x:=by rfl) (P:Ce x:=by decide)
  (he:vf e es X.env:=by rfl) (Vf:Aj pos es X.env:=by rfl):PE X (.Call (.Name x p0) (e::es) [] pos) (k_ X.K B W<|fE p r):=by
 obtain⟨U,T,S,F,m,D,bd⟩:=h.ex;intro O s σ H Q I ⟨A,st,t,q⟩;unfold fE at q;cases a:r st with
 |exc x=>rw[a]at q;exact q.elim
 |bad=>rw[a]at q;exact q.elim
 |ok xs=>
  rw[a]at q;refine ar<|zA I J m (NG I.ok.mod.tf D (Lb (L pos O s σ H (λg o=>aX H o/\bA X.K _ xs g) I ⟨A,st,xs,t,a,λg o s1 w=>⟨s1,w⟩⟩) λR s1 ⟨g,o,n,u,sm,rp⟩=>⟨n.Pg,(bDp F (E.mono G) bd .nil n u (bMg M n) ?_)⟩) he Vf) P
  rw[Ql];have f:(match p xs with
   |.ok d=>∀v b,aX H b->pb X.K _ d v->Q v b
   |.exc x=>∀b,aX H b->W x σ b
   |.bad=>False):=q
  refine⟨A++B,xs,t.own.mono sm,rp,h.len xs λz=>?_,?_⟩
  .rwa [z]at f
  cases l:p xs with
  |ok d=>rw[l]at f;exact λv b i y=>f v b (sm.trans i) y
  |exc x=>rw[l]at f;exact λC c N b e1 K i=>⟨C,c,N,rfl,K,by rw[<-e1];exact f b<|sm.trans i⟩
  |bad=>rwa [l]at f
def Im(K:Frag)(d:Addr)(b:Bool)(c:String):Prop:=∀C a,ExcAt K c C a->(Value.ref C::a).contains (.ref d)=b
def UC(X:Cx)(B:be)(a:List ExceptHandler)(b:List (List String×List String×(String->Bd))):Prop:=
 PH X a λC e σ H=>∃c d A st r,ExcAt X.K c C d/\RS X.K B A H st σ/\FF b c st=.ok r/\vo X.K B A H r e
def bDr:UC X B [] []:=λ_ _ _ _ _ _ _ _ ⟨_,_,_,_,_,_,_,h,_⟩=>nomatch h
def bL4{a:ExceptHandler} {b:Bd} (f:∀(h:db) (E:am) (W:XW),xy (Bp X h E) W->Te (Bp X h E) body (cj X.K B true W b)) (u:UC X B (a::hs) hl)
  (K:X.stack=X.env::X.outer/\X.env.frame=some X.env.locals:=by exact⟨rfl,rfl⟩):PS X (.Try body (a::hs) [] [] pos) (tS X.K B<|Cy b hl):=by
 refine gC (bI0 (tb:=λm=>cj X.K B true (λx n i=>∀C c g,x=.Ag c [] []->ExcAt X.K c C g->m C n i) b) K (λh E m hL=>f h E _ ?_) u) ?_
 .intro J σ H s G C i o I D z y w v ⟨c,g,k,t⟩;exact hL J σ H s G C i o I D z y w v<|t C c g rfl k
 rintro N σ H ⟨A,st,r,q,d,p⟩;refine⟨A,st,q,?_⟩;unfold Cy at d;cases f:b st with
 |ok M=>rw[f]at d;cases d;exact p
 |bad=>rw[f]at d;cases d
 |exc x=>
  rw[f]at d;intro L st' n i l j e C c g F k;subst F;have:=e rfl;subst this;exact⟨c,g,L,st',r,k,j,d,p.mono l⟩
end
end Pu
namespace Pu
open PySem PySem.Spec PyProof.Rows L2 PySem.Calls Builtin Builtin.ObjectAttr Builtin.Getset_descriptor
section
variable{w:World}{A:Around} {K:Frag} {x:Addr}
def jy(p:uT x C h):Looks M h (typeOf<|.ref x) (.ref C):=by
 obtain⟨o,b,a,_⟩:=p;exact a ▸ (PySem.W.Looks.ld b).andThen .now
def bAh{R:Result->ut}{a:Value}(b:K.In s.heap)(p:uT x C s.heap)(c:Ig K C)(d:R (.ok<|.ret<|.ref C) s) :
  codeAny (model prog w) A (.call (.builtin "getset_descriptor.__get__") ⟨[.builtin "object.__class__",.ref x,a],[]⟩) R s:=by
 obtain⟨h,i,j,e,os⟩:=s;have g:=jy (M:=model prog w) p;have f:=looks_mroIn (M:=model prog w) b c.mr;refine CP PySem.W.KF.slot_gs.plain PySem.W.KF.entry_gs<|PySem.W.KF.slot_gs.check _ _ _ _ _ _ _ _ PySem.W.KF.type_class (PySem.W.KF.args_gs _ _ _) ?_;unfold Builtin.«getset_descriptor.__get__»; unfold descrGet;rw[PySem.W.dga_obj];refine qa<|Ga ?_;unfold descrGetter descrCheckInstance;unfold descrNameAndClass isInstance;simp only[PySem.W.KF.owner_class]
 repeat lk
 refine And.intro (Code.quiet_builtin _<|by decide+kernel)<|Rj PySem.W.KF.entry_class ?_
 unfold Builtin.«object.__class__»; unfold shownTypeOf
 repeat lk
 exact d
def ĺ{a:Value}{Q:v4}(e:K.In s.heap)(p:uT x C s.heap)(c:Ig K C)(l:Q () s):wpAny M A (checkBuiltinCall "BaseException.__getattribute__" ⟨[.ref x,a],[]⟩) Q E s:=by
 obtain⟨i,m,n,k,os⟩:=s;have d:builtinKind "BaseException.__getattribute__"=some .slot:=by decide+kernel
 have b:splitId "BaseException.__getattribute__"=some ("BaseException","__getattribute__"):=by decide+kernel
 have j:=PySem.F.args_bexc_ga (.ref x) a;have h:=jy (M:=M) p;have g:=looks_mroIn (M:=M) e c.mb;have f:Looks M i (isInstance (.ref x)<|.type "BaseException") true:=h.andThen g;simp only[checkBuiltinCall,b,d];refine qa<|f.at ?_
 repeat (first|assumption|wp_step)
def Ļ{Q:Fin->ut}(a:K.In s.heap)(p:uT x C s.heap)(c:Ig K C)(g:Q (.done<|.ret<|.ref C) s):wpAny (model prog w) A (Builtin.«object.__getattribute__» ⟨[.ref x,.str "__class__" nm],[]⟩) Q E s:=by
 obtain⟨b,h,i,d,os⟩:=s;have f:=jy (M:=model prog w) p;have e:Looks (model prog w) b (find (.ref x) (.ref C) "__class__") (.bind (.builtin "getset_descriptor.__get__")<|.builtin "object.__class__"):=
  (AH a c.fd).andThen ((PySem.W.looks_specialIn a c.sp).andThen<|(show Looks (model prog w) b (dataDescriptor? (some<|.builtin "object.__class__")<|some<|.builtin "getset_descriptor.__get__") (some (_,_)) from (PySem.W.looks_takesIn a c.tk).andThen .now).andThen<|PySem.W.Looks.tag .now)
 refine qa<|Ga<|qa<|Ga<|qa<|f.at<|qa<|e.at ?_;show wpAny _ _ (holding [Value.builtin "object.__class__"] (call (.builtin "getset_descriptor.__get__") [.builtin "object.__class__",.ref x,.ref C]) >>= ret) _ _ _;refine qa<|Ff<|Xt<|bAh (s:=⟨b,h,i,d,os⟩) a p c<|Ga g
def ļ{Q:v6}(a:K.In s.heap)(p:uT x C s.heap)(c:Ig K C)(l:Q (some<|.ref C) {s with toks:=s.toks+1}):wpAny (model prog w) A (getAttr? (.ref x) "__class__") Q E s:=by
 obtain⟨d,e,f,b,os⟩:=s;have k:=jy (M:=model prog w) p;have j:=AH (M:=model prog w) a c.ga;have i:=AH (M:=model prog w) a c.gn;have m:=K8.ga.bind<|.ref x;have g:(Value.builtin "BaseException.__getattribute__" == Value.builtin "object.__getattribute__")=false:=by decide+kernel
 have h:(onTheHeap (Value.ref C)&&Value.builtin "BaseException.__getattribute__" == Value.builtin "object.__getattribute__")=false:=by rw[g];rfl
 unfold getAttr?;unfold getAttrBy? getAttrBy;refine qa<|wpAny_mkText<|qa<|Dk<|Ff<|qa<|k.at<|qa<|j.at ?_;dsimp only;rw[h,Ea Qh];unfold getAttrByItsOwn;refine qa<|i.at ?_;refine qa<|Dk<|Ff ?_;show wpAny _ _ (boundAndCalled (.builtin "BaseException.__getattribute__") (.ref x) _) _ _ _;unfold boundAndCalled;rw[m];refine qa<|Ga ?_;show wpAny _ _ (call (.builtin "BaseException.__getattribute__") [.ref x,.str "__class__" b]) _ _ _;exact Xt<|CP K8.ga.plain PySem.F.entry_bexc_ga<|ĺ (s:=⟨d,e,f,b+1,os⟩) a p c<|Ļ (s:=⟨d,e,f,b+1,os⟩) a p c<|PySem.W.handed_on rfl<|Ga l
def bAi(c:Ig K C):PySem.W.KitX K (.ref x) (.ref C) (uT x C) where
 ty:=λ_ _ _ p=>jy p
 it:=λ_ _ b _=>by
  obtain⟨i,a⟩:=ZO.mp c.cl;unfold clsIn at a;split at a
  .rename_i d;intro t r s m k q;unfold isType loadHead;exact qa<|wpAny_loadPart (k _ _<|b _ _ d)<|Ga q
  .cases a
 ne:=λh f o g n l b j=>by
  obtain⟨i,a⟩:=ZO.mp c.cl;refine SG.mpr λq=>?_
  have e:C=f:=Value.ref.inj<|Io.mp q;unfold clsIn at a;split at a
  .rename_i d;have z:=(b _ _ d).symm.trans<|e ▸ j;cases z
  .cases a
 ca:=λb p k=>ļ b p c k
end
def Xo(K:Frag)(u:Value)(b:Bool)(c:String):Prop:=∀C,yk K c C->kitOne K (.ref C) u=some b
section
variable {a:Expr}
def bAj{u:Value}(m:∀d,RelV v2 d->d=u):jY X (.builtin "isinstance") (λxs H Q=>∃l a C b,xs=[.ref l,v2]/\H l=some (.ext a)/\(∀h,a h->uT l C h)/\Ig X.K C/\kitOne X.K (.ref C) u=some b/\Q (.bl b) H):=by
 intro t s σ H xs p Q I r q;obtain⟨l,a,C,b,rfl,hl,o,n,e,q⟩:=q;obtain⟨g,f,rfl,k,j⟩:=r.two;have e1:g=Value.ref l:=k;subst e1;rw[m f j];have c:=I.Ia l _ hl;exact xr (bAi n) I.Pg (o _ c.1) e (λz=>nomatch z) λi=>⟨.bl b,H,I.tok i,rfl,q⟩
def bDs{no:wf}{x y:D}(h:GF yes no x=.ok y):∃c n d,x=.Ag c n d/\((c∈yes/\y=.bl true)\/(c∈no/\y=.bl false)):=by
 cases x<;>first|(cases h;done)|skip
 rename_i c n d;refine⟨c,n,d,rfl,?_⟩;have a:(if c∈yes then R.ok (.bl true) else if c∈no then .ok (.bl false) else .bad)=.ok y:=h
 by_cases e:c∈yes
 .rw[Qa e]at a;cases a;exact .inl ⟨e,rfl⟩
 .rw[Ea e]at a
  by_cases b:c∈no
  .rw[Qa b]at a;cases a;exact .inr ⟨b,rfl⟩
  .rw[Ea b]at a;cases a
def bL5{n:Str} {u:Value} {b no:wf} (s:∀i,RelV v2 i->i=u) (G:PE X (.Name n p1) (tC v2)) (w:X.mg "isinstance"=none) (p:∀c∈b,Xo X.K u true c) (t:∀c∈no,Xo X.K u false c) (D:PE X a (tP X.K B f)) (y:Gl X "isinstance":=by rfl)
  (j:starEach [a,.Name n p1] X.env=(false,eval a X.env)::starEach [.Name n p1] X.env:=by rfl) (m:starEach [.Name n p1] X.env=(false,eval (.Name n p1) X.env)::starEach [] X.env:=by rfl) :
  PE X (.Call (.Name "isinstance" p0) [a,.Name n p1] [] pos) (tI X.K B<|e1 (GF b no) f):=by
 refine cF (lZ (bAj s) y w boot_isinstance (bW D (bW G dW m) j) (he:=j)) ?_
 rintro σ H Q ⟨A,st,d,o,z,q⟩;obtain⟨x,r,F⟩:=R.ua z;refine⟨A,st,x,o,r,λv H1 s1 r1=>?_⟩
 obtain⟨c,I,J,rfl,E⟩:=bDs F;obtain⟨l,h,C,rfl,hl,k,e,_⟩:=FL.mp r1.rep;rcases E with ⟨g,rfl⟩|⟨g,rfl⟩
 .exact⟨l,h,C,true,rfl,hl,k,e.ic,p c g C e,q _ H1 s1<|cA.mpr rfl⟩
 .exact⟨l,h,C,false,rfl,hl,k,e.ic,t c g C e,q _ H1 s1<|cA.mpr rfl⟩
def bI1{d:String} {b no:wf} (n:X.mg (ofString d)=some (.ref D')) (k:X.mg "isinstance"=none) (g:∀c∈b,Xo X.K (.ref D') true c) (j:∀c∈no,Xo X.K (.ref D') false c) (m:PE X a (tP X.K B f)) (l:Gl X "isinstance":=by rfl) (o:Gl X (ofString d):=by rfl) (p:Ce (ofString d):=by decide)
  (i:starEach [a,.Name (ofString d) p1] X.env=(false,eval a X.env)::starEach [.Name (ofString d) p1] X.env:=by rfl) (e:starEach [.Name (ofString d) p1] X.env=(false,eval (.Name (ofString d) p1) X.env)::starEach [] X.env:=by rfl) :
  PE X (.Call (.Name "isinstance" p0) [a,.Name (ofString d) p1] [] pos) (tI X.K B<|e1 (GF b no) f):=
 bL5 (v2:=.ref D') (λ_ h=>h) (Fx o n rfl p) k g j m l i e
end
section
variable{X:Cx}{B:be}{aa:db}{σ:L2.St}{H:Hp}{s:Shared}{ea C:Addr}
def bDt{u:HO}(I:ya X aa σ H s)(g:ya X aa σc Hc sc)(k:sc.heap.get? ea=none)(a:H ea=none)(new:jF X.prog X.w (Ra H ea u) s.heap ea u):ya X aa σ (Ra H ea u) s:=by
 have f:∀b o,sc.heap.get? b=some o->b≠ea:=λb o e z=>by rw[z,k]at e;cases e
 refine⟨I.ok,I.os,I.bare,⟨I.base.keep,I.base.slot,λb o e n hx=>?_,I.base.there,λb xs e=>?_,λb o u e=>?_,λb ps e=>?_⟩,I.loc,I.cell,?_,λx c e=>?_,λp hp=>?_,λb u' e=>?_,I.len⟩
 .obtain⟨j,t⟩:=g.base.there b o e hx;rw[aK<|f b j t];exact I.base.free b o e n hx
 .have z:=I.base.Zf b xs e
  rwa [aK<|aN z a]
 .have z:=I.base.Df b o u e
  rwa [aK<|aN z a]
 .obtain⟨d,z⟩:=I.base.Yf b ps e;exact⟨d,by rwa [aK<|aN z a]⟩
 .obtain⟨m,⟨o,y,A,h,_⟩,_⟩:=g.loc;rw[aK<|f _ _ h];exact I.free
 .obtain⟨v,o,h,_⟩:=g.cell x c e;rw[aK<|f _ _ h];exact I.Qc x c e
 .obtain⟨r,w,l⟩:=I.pin p hp;exact⟨r,by rwa [aK<|f _ _ (g.pin p hp).1],l⟩
 by_cases i:b=ea
 .subst i;rw[bB]at e;cases e;exact new
 rw[aK i]at e;exact(I.Ia b u' e).Pe (λc v _ q=>q) (λc q=>by rw[aK<|aN q a];exact q) λc xs q=>by rwa [aK<|aN q a]
def SD{A:Around} {n:Str} {Q:v4} (I:ya X aa σ H s) (G:X.N.Nodup) (F:X.N[i]?=some n) (a:X.env.scope.names.lookup n=some .local) (h:∀r,ya X aa (σ.set i none) H r->Q () r) :
  wpAny M A (do bindName X.env n .none;unbindBehindTheSuite X.env n pos) Q E s:=by
 obtain⟨m,D,hl⟩:=id I.loc;have lo:∀b o,X.Ba.heap.get? b=some o->b≠X.env.locals:=λb o e=>zd<|ug (Vb e) I.ok.above
 refine wpAny_nameGoes_keeps a D (by rw[I.ok.kind];rfl) λL v K f=>h _ ⟨I.ok,I.os,I.bare,⟨λb o e k hb a=>(f.2 b<|lo b o e).trans<|I.base.keep b o e k hb a,λb o e k hb a=>?_,I.base.free,λb o e a=>?_,I.base.Zf,I.base.Df,I.base.Yf⟩,⟨_,K,λj y v' e1 e2 e3=>?_⟩,λy c e=>?_,I.free,I.Qc,λp hp=>?_,λb ob e=>?_,by simpa using I.len⟩
 .obtain⟨w,e1⟩:=I.base.slot b o e k hb a;exact⟨w,(f.2 b<|lo b o e).trans e1⟩
 .obtain⟨B,e1⟩:=I.base.there b o e a;exact⟨B,(f.2 b<|lo b o e).trans e1⟩
 .by_cases g:j=i
  .subst g;rw[Vd]at e2;rw[Qa rfl]at e2;split at e2<;>cases e2
  .rw[xt<|bf g]at e2;obtain⟨u,x,q⟩:=hl j y v' e1 e2 e3;refine⟨u,x,?_⟩;rcases q with ⟨k,e⟩|⟨k,c,e,z⟩
   .have J:y≠n:=λe=>g (TJ G e1<|e ▸ F)
    exact .inl ⟨k,(Ea J).trans e⟩
   .exact .inr ⟨k,c,e,z.sameBut f<|I.Jp y c e⟩
 .obtain⟨l,z⟩:=I.cell y c e;exact⟨l,z.sameBut f<|I.Jp y c e⟩
 .obtain⟨e,k,t,C,d⟩:=I.pin p hp;exact⟨(f.2 p.1 t).trans e,k,t,C,d⟩
 .refine(I.Ia b ob e).Pe (λc l hc q=>(f.2 c ?_).trans q) (λ_ q=>q) λ_ _ q=>q
  intro z;subst z;rcases hc with z|z
  .rw[<-z,I.free]at e;cases e
  .rw[I.free]at z;cases z
def RS.gone{K:Frag} {st:za} (r:RS K B A H st σ) (i:Nat):RS K B A H (st.set i none) (σ.set i none):=by
 have a:∀(j:Nat)(x:Sl),(st.set i none)[j]?=some (some x)->j≠i/\st[j]?=some (some x):=λj x e=>by
  rw[Vd]at e
  by_cases h:i=j
  .rw[Qa h]at e;split at e<;>cases e
  .rw[Ea h]at e;exact⟨bf h,e⟩
 refine⟨by rw[zg,zg,r.len],r.own,r.Hh,λj d e=>?_,λj k xs e=>?_⟩
 .obtain⟨c,b⟩:=a j _ e;rw[xt<|bf c];exact r.val j d b
 .obtain⟨c,b⟩:=a j _ e;rw[xt<|bf c];obtain⟨l,o,f,e1,e2,s,q,p,n⟩:=r.lst j k xs b;refine⟨l,o,f,e1,e2,s,q,p,λj' k' ys e7 e8=>?_⟩
  obtain⟨m,g⟩:=a j' _ e7;rw[xt<|bf m]at e8;exact n j' k' ys g e8
def o7(i:Nat)(a:Ends):Ends:={a with nx:=λσ H=>a.nx (σ.set i none) H,bk:=λσ H=>a.bk (σ.set i none) H,ct:=λσ H=>a.ct (σ.set i none) H}
def Ľ{K:Frag} {fl:Fl} (q:vo K B A H (Y4 i fl) Dn):vo K B A H fl (o7 i Dn):=by
 cases fl with
 |nx st=>exact λc e b l a=>q c _ b l<|a.gone i
 |bk st=>exact λc e b l a=>q c _ b l<|a.gone i
 |ct st=>exact λc e b l a=>q c _ b l<|a.gone i
 |rt d=>exact q
def bI2{d:String}{np:Pos} {n:Str} (i:Nat) {Cz:Stmt} {Cs:List Stmt} {rest:List ExceptHandler} {b no:wf} {Z:Bd} (hD:ExcAt X.K d D' IH) (hm:X.mg (ofString d)=some (.ref D')) (hy:∀c∈b,Im X.K D' true c) (hn:∀c∈no,Im X.K D' false c)
  (y:X.N.Nodup) (hs:∀a,Te (held X a) (Cz::Cs)<|tS X.K B Z) (hr:UC X B rest hl) (x:X.N[i]?=some n:=by rfl) (w:X.env.scope.names.lookup n=some .local:=by rfl) (hg:Gl X (ofString d):=by rfl) (Cg:Ce (ofString d):=by decide) :
  UC X B (.ExceptHandler (some<|.Name (ofString d) np) (some n) (Cz::Cs) hpos::rest) ((b,no,kR i Z)::hl):=by
 intro aa s σ H Dn a C F W;refine yd λhG=>?_
 obtain⟨c,Y,A,st,r,D,O,h,q⟩:=W;have I:=F.inv;obtain⟨oe,he,fu⟩:=F.there;obtain⟨B1,Q,Xf,wm,FB,T⟩:=D.ob;obtain⟨B',Nn,jI,bmB',X_,UR⟩:=hD.ob;obtain⟨N,nm,qn,bs,hdct,sn,sub,ab,col,dd,k0,k1,k2,k3,k5,mN,oC,_⟩:=T s.heap I.Pg;obtain⟨N',b_,j,b9,Mr,f_,UB,U5,Kz,Bm,j0,j1,j2,j3,j5,mN',oD,_,_,T'⟩:=UR s.heap I.Pg;refine hG ?_
 refine wpAny_handleBy_cons (codeAny_handlers_test<|zA (HZ I a) hg hm ?_ Cg) (by intro q;cases q)
 obtain⟨hp,g,dr,tk,os⟩:=s;refine Λ oC oD he fu (T'.hasType X_.hasBase) ?_
 have l:(if c∈b then (kR i Z c st).si else if c∈no then FF hl c st else .bad)=.ok r:=h
 by_cases K:c∈b
 .rw[Qa K]at l;rw[hy c K C Y D];obtain⟨fl,Vl,e⟩:=R.ua<|R.ak l;cases e;refine codeAny_handlers_suite_as (F.set λs' F'=>?_)
  have I1:=F'.inv;obtain⟨Hc,sc,Ic,_,_,_,_,SH⟩:=F'.ex;obtain⟨n0,S,P,vs1,_,_,_,_,u9,V,U,_⟩:=SH;have VR:uT a C s'.heap:=⟨P,u9,V,by unfold notCls;rw[U]⟩
  have J:ya X aa σ (Ra H a<|.ext<|uT a C) s':=bDt I1 Ic n0 S ⟨VR,⟨_,u9⟩,λK G z k=>by
   obtain⟨o,z1,z2⟩:=z;exact⟨o,k o z1,z2⟩⟩
  have sm:aX H (Ra H a<|.ext<|uT a C):=bL S;have M:RS X.K B A (Ra H a<|.ext<|uT a C) (st.set i<|some<|.v<|.Ag c [] []) (σ.set i<|some<|.ref a):=(O.mono sm).set i<|FL.mpr ⟨a,_,C,rfl,by rw[cN<|O.own.free S];exact bB,λ_ z=>z,D.is,a,[],[],.inl ⟨rfl,rfl⟩,.nil⟩
  refine De J y x (.inl w) (v:=.ref a) (u:=.ref a) rfl (λs2 I2=>?_)<|.inr w
  refine oi (hs a aa s2 _ _ (o7 i Dn) (HZ I2 a) ⟨A,_,fl,M,Vl,Ľ<|vo.mono (Le.of sm) q⟩) (λf s3 z=>?_) λ_ _ z=>z.elim
  have E:=ķ I.ok z;cases f with
  |next=>obtain⟨Sa,t,p,j⟩:=E;exact SD p y x w λL m=>⟨_,t,m,j⟩
  |brk=>obtain⟨Sa,t,p,j⟩:=E;exact SD p y x w λL m=>⟨_,t,m,j⟩
  |cont=>obtain⟨Sa,t,p,j⟩:=E;exact SD p y x w λL m=>⟨_,t,m,j⟩
  |ret u=>obtain⟨v,Sa,t,p,r',j⟩:=E;exact SD p y x w λL m=>⟨v,_,t,m,r',j⟩
 .rw[Ea K]at l
  by_cases G:c∈no
  .rw[Qa G]at l;rw[hn c G C Y D];exact hr aa _ σ H Dn a C F ⟨c,Y,A,st,r,D,O,l,q⟩
  .rw[Ea G]at l;cases l
end
end Pu
namespace Pu
open PySem PySem.Spec PyProof.Rows L2
section
variable{K:Frag} {c:String} {B Xf:String}
def bAk(F:ExcBaseFacts B newId Xf wm)(a:nsIn K mainGlobals (ofString c)=some (some<|.ref C))(q:excIn K C wm newId=true)(J:findIn K (.ref C) "__getattribute__"=some (some<|.builtin "BaseException.__getattribute__"))(E:findIn K (.ref C) "__getattr__"=some none)(D:mroIn K C (.type "BaseException")=some true)(I:findIn K (.ref C) "__class__"=some (some<|.builtin "object.__class__"))
  (H:specialIn K (.builtin "object.__class__") "__get__"=some (some<|.builtin "getset_descriptor.__get__")) (G:takesIn K (.builtin "object.__class__")=some true) (b:mroIn K C (.type "object")=some true):∃g,ExcAt K c C g:=by
 unfold excIn at q;split at q
 .rename_i N u i z;split at q
  .rename_i R g p o m l n k r Q;simp at q;obtain⟨⟨⟨⟨⟨e1,e2⟩,t⟩,L⟩,d⟩,s⟩:=q;refine⟨g,a,⟨B,newId,Xf,wm,F,λh tf=>?_⟩,(⟨J,E,D,(by
  unfold mroIn at b;cases e:clsIn K C with
  |none=>rw[e]at b;cases b
  |some u=>rfl),I,H,G,b⟩)⟩
   obtain⟨x,bs,y,j,w,A,v,sub,P,f,M⟩:=u;dsimp only at r t d s;have O:i = #[p,o,m,l,some<|.builtin n,k]:=by rw[<-Array.toArray_toList (xs:=i),Q]
   subst O;subst e1 e2 t r;exact⟨j,x,w,bs,A,v,sub,P,f,N,p,o,m,l,k,h.nsMap j,tf _ _ z,.of_isNs<|PySem.W.isNs_of_in tf d,PySem.W.nsMap_none_of_in tf d s,PySem.W.tail_of_in tf L⟩
  cases q
 cases q
def i6{b:Addr}(e:nsIn K mainGlobals x=some (some<|.ref a))(c:nsIn K mainGlobals x=some (some<|.ref b)):a=b:=by
 have z:=e.symm.trans c;injection z with z
 injection z with z
 injection z
def OE(f:K.In h)(a:nsIn K mainGlobals (ofString c)=some (some<|.ref C))(m:mroIn K C (.ref D')=some b):Im K D' b c:=λj r i=>by
 have:=i6 i.ns a;subst this;obtain⟨_,_,_,_,_,d⟩:=i.ob;obtain⟨N,t,q,bs,g,s,sub,D,o,B,A,y,x,w,v,u,l,_⟩:=d h f;unfold mroIn at m;cases e:clsIn K j with
 |none=>rw[e]at m;cases m
 |some p=>
  rw[e,Option.bind_some]at m;unfold clsIn at e;split at e
  .rename_i n;cases e;have z:=(f _ _ n).symm.trans l;have k:p.mro=.ref j::r:=by
    injection z with z
    injection z with _ _ z _
    injection z with z
    rw[z]
   split at m
   .cases m
   injection m with m
   rwa [k]at m
  cases e
def QE{u:Value} (a:nsIn K mainGlobals (ofString c)=some (some<|.ref C)) (e:kitOne K (.ref C) u=some b):Xo K u b c:=λf d=>by
 have:=i6 d.ns a;subst this;exact e
end
section
variable{w:World}{K:Frag} {f:Addr} {k:Nat}
def Lf.of{c:String} (d:ClsAt K c C) (a:Mk K C f) (F:Ja P w K mg base gc k f fd ps (QB K c np<|qo c np n bd)) (b:Binds K fd ps []) (m:mg (ofString c)=some (.ref C)):Lf P w K mg base c k np (qo c np n bd):=
 ⟨⟨C,f,fd,ps,d,a,F,b,m⟩,bA6⟩
end
section
variable{P:List α->Prop}
def O3(h:P [])(a:List α)(b:a.length=0):P a:=by rwa [Wq.mp b]
def vU(h:∀a b,b.length=n->P (a::b))(b:List α)(c:b.length=n+1):P b:=by
 cases b with
 |nil=>cases c
 |cons a b=>exact h a b<|Nat.succ.inj c
def ML(h:∀a,P [a])(b:List α)(c:b.length=1):P b:=vU (λa=>O3<|h a) b c
def UD(h:∀a b,P [a,b])(c:List α)(d:c.length=2):P c:=vU (λa=>ML<|h a) c d
def NL(h:∀a b c,P [a,b,c])(d:List α)(e:d.length=3):P d:=vU (λa=>UD<|h a) d e
def Px(h:∀a b c d,P [a,b,c,d])(e:List α)(f:e.length=4):P e:=vU (λa=>NL<|h a) e f
def Qx(h:∀a b c d e,P [a,b,c,d,e])(f:List α)(g:f.length=5):P f:=vU (λa=>Px<|h a) f g
def Q3(h:∀a b c d e f,P [a,b,c,d,e,f])(g:List α)(i:g.length=6):P g:=vU (λa=>Qx<|h a) g i
end
def MU(K:Frag)(G H:Hp):List (List D)->List Addr->Prop
 |[],a=>a=[]
 |xs::c,a=>∃p r b,a=p::r/\H p=some (.lst b)/\bA K G xs b/\MU K G H c r
section
variable {a b o:Expr} {rest:List Stmt} {na:NB}
def tY{l:List α} {x:α} (h:i≠j):(l.set j x)[i]?=l[i]?:=xt<|bf h
end
def QI(K:Frag)(a:Addr):It:=
 ⟨λi H=>∃xs x,Pc K H a xs/\xs[i]?=some x,λi H x b=>∃T v,x=V.ref T/\H T=none/\b=Ra H T (.tup [.int (i:Int),v])/\∀xs,Pc K H a xs->xs[i]?=some v,λi H=>∃xs,Pc K H a xs/\xs.length<=i⟩
theorem ľ{w:World}{K:Frag} {x1} (a e it:Addr) (Rk:e≠it):Turn P w K (.Tuple Uh x1 tp) (QI K a) [e,it] e (λi h=>(∃j,IsEnum h e it (i:Int) j)/\h.IsListIter it a i) where
 mem:=by simp
 obj:=λi h st b g=>by
  obtain⟨⟨j,m⟩,hit⟩:=st;simp only[mem_cons,not_mem_nil,or_false]at g;rcases g with rfl|rfl
  .exact⟨_,m,λv z=>by cases z⟩
  obtain⟨o,e1,c,d⟩:=hit;exact⟨o,e1,λv z=>by rw[d]at z;cases z⟩
 keep:=λi h h' st k=>by
  obtain⟨⟨j,m⟩,hit⟩:=st;exact⟨⟨j,k e (by simp) _ m⟩,hit.at λo x=>k it (by simp) o x⟩
 item:=by
  intro X R N S W i aa s σ H E I J st O;subst R N S;obtain⟨⟨j,m⟩,hit⟩:=st;obtain⟨xs,x,G,l⟩:=O;obtain⟨M,L,p,hz⟩:=I.list G;obtain⟨u,hu,ru⟩:=L.get l;have B:=J e (by simp)
  have A:=J it (by simp)
  have Y:=I.Ia.fresh<|Ib _;refine wpAny_pyNext_enum_item m hit p.isList (by simpa using hu) Rk λh' ho Wl Q xg hk=>⟨_,rfl,wpAny_letOwnedTupleGo_enum ho λh2 ER sb=>?_⟩
  have f:=λb o Z h3 q=>(sb.2 b Z).trans<|hk b o Z h3 q
  have F:=zd<|Vb m;have Du:=(sb.2 _ F.symm).trans Q;have nT:∀b r,H b=some r->b≠s.heap.objs.size:=λb r q=>aN q Y
  have V:∀b r,H b=some r->b≠e/\b≠it:=λb r q=>⟨aN q B.1,aN q A.1⟩
  have t:∀b:Addr,b∉[e,it]->b≠e/\b≠it:=λb g=>⟨λz=>g (by simp[z]),λz=>g<|by simp[z]⟩
  have D:∀b o,s.heap.get? b=some o->b≠s.heap.objs.size:=λb o q=>zd<|Vb q
  have un:Un (Of X.stack) [e,it] H (Ra H s.heap.objs.size<|.tup [.int i,x]) s.heap h2:=by
   refine⟨λb o q n g l=>f b o (t b l).1 (t b l).2 q,λb o q n g l=>⟨o.slots,f b o (t b l).1 (t b l).2 q⟩,λb o q n l=>by rwa [aK<|D b o q],λb o q l=>⟨o,f b o (t b l).1 (t b l).2 q⟩,λb T q=>by rwa [aK<|nT b _ q],λb o r q=>by rw[aK<|nT b _ q];exact q,λb ps q=>⟨#[],by rw[aK<|nT b _ q,FH];exact q⟩⟩
  have Ia:de X.prog X.w (Ra H s.heap.objs.size<|.tup [.int i,x]) h2:=λb r q=>by
   by_cases g:b=s.heap.objs.size
   .subst g;rw[bB]at q;cases q;exact⟨show 2<=sizeLine by decide,[.int i s.toks,u],.cons ⟨_,rfl⟩<|.cons ru .nil,_,Du,rfl,_,rfl⟩
   rw[aK g]at q;refine(I.Ia b r q).Pe (λc v Kh C=>?_) (λc C=>by rwa [aK<|nT c _ C]) λc T C=>by rwa [aK<|nT c _ C]
   have:∃U,H c=some U:=by
    rcases Kh with z|z
    .exact⟨r,by rw[z];exact q⟩
    exact⟨_,z⟩
   obtain⟨U,Eg⟩:=this;exact f c v (V c _ Eg).1 (V c _ Eg).2 C
  have I2:ya X aa σ _ {s with heap:=h2,toks:=s.toks+1}:=I.call un Ia I.bare λb g=>by
   simp only[mem_cons,not_mem_nil,or_false]at g;rcases g with rfl|rfl
   .exact⟨B.2.2.2.1,B.2.1,B.2.2.2.2.1,B.2.2.2.2.2⟩
   exact⟨A.2.2.2.1,A.2.1,A.2.2.2.2.1,A.2.2.2.2.2⟩
  refine⟨.ref s.heap.objs.size,_,I2,rfl,⟨_,x,rfl,Y,rfl,λT hy=>by rwa [I.Ld hy G]⟩,⟨⟨_,by simpa using ER⟩,Wl.at λo y=>(sb.2 it Rk.symm).trans y⟩,λb g=>?_⟩
  simp only[mem_cons,not_mem_nil,or_false]at g;rcases g with rfl|rfl
  .rw[aK F];exact B.1
  rw[aK (by obtain⟨o,q,_⟩:=hit;exact D _ _ q)];exact A.1
 done:=by
  intro X R N S W i aa s σ H E I J st O;subst R N S;obtain⟨⟨j,m⟩,hit⟩:=st;obtain⟨xs,G,l⟩:=O;obtain⟨M,L,p,hz⟩:=I.list G;obtain⟨f0,f1,f2,f3,f4,f5⟩:=J it (by simp)
  have hl:=L.length;exact wpAny_pyNext_enum_end (I.ok.hd W) m hit p.isList (by simp;lia) λh' eb=>⟨rfl,I.turned (λb o g e=>eb b o g e) f0 f1 f3 f4 f5⟩
 self:=λ_ _ _ _ _ st h=>by
  obtain⟨⟨j,m⟩,_⟩:=st;exact wpAny_pyIter_enum m h
theorem JX:∀(n:Nat)(ds:dL),(uH n ds).length=ds.length
 |_,[]=>rfl
 |n,d::ds=>by rw[uH,dg,dg,JX]
theorem LX:∀(n:Nat)(ds:dL)(i:Nat),(uH n ds)[i]?=ds[i]?.map λd=>D.tup [.int ((n+i:Nat):Int),d]
 |_,[],_=>by simp[uH]
 |n,d::ds,0=>by simp[uH]
 |n,d::ds,i+1=>by
  rw[uH,HP,HP,LX (n+1) ds i,show n+1+i=n+(i+1) by lia]
section
variable {a:Expr}
def bI3{K:Frag} (k:Pc K (hide (A++B) H) l vs) (r:bA K (hide (A++B) H) ds vs):Tq K B A H (QI K l) (uH 0 ds):=by
 intro s q e a i;have c:=(aQ _ _).seq<|(Le.app e).seq k;refine⟨λd hd=>?_,λhl=>⟨vs,c,by rw[r.length];rwa [JX]at hl⟩⟩
 rw[LX,DQ]at hd;cases b:ds[i]? with
 |none=>rw[b]at hd;cases hd
 |some o=>
  rw[b]at hd;cases hd;obtain⟨v,g,j⟩:=r.get b;refine⟨⟨vs,v,c,g⟩,λx p y=>?_⟩
  obtain⟨T,n,rfl,h,rfl,m⟩:=y;have f:=m vs c;rw[g]at f;cases f;exact⟨bL h,sO a h<|.cons (bC.mpr rfl)<|.cons (j.mono<|Le.app e) .nil⟩
def bDu{x1}{p:Pos}(n:X.mg "enumerate"=none)(w:PE X a (tI X.K B f))(r:Gl X "enumerate":=by rfl)(d:starEach [a] X.env=[(false,eval a X.env)]:=by rfl):L2.PI X (.Tuple Uh x1 tp) (.Call (.Name "enumerate" p) [a] [] pos) (qk X.K B<|P7 f):=by
 intro z s σ H L I D;refine yd λy=>?_
 obtain⟨A,st,ds,j,t,q⟩:=D;obtain⟨x,m,h⟩:=R.ua t;refine y ?_
 cases x<;>first|(cases h;done)|skip
 rename_i xs;cases h;refine Call_<|qO I r n boot_enumerate<|Vq (Lb ((bW w dW d) pos z s σ H (λc H1=>∃v,c=[v]/\aX H H1/\pb X.K (hide _ H1) _ v) I ⟨A,st,_,j,m,λv H1 s1 r1=>⟨v,rfl,s1,r1⟩⟩) λG s1 ⟨c,H1,I1,r1,v,hv,sm,rv⟩=>?_) d rfl
 subst hv;obtain⟨l,F,rfl,e,C⟩:=dM.mp rv;obtain⟨u,rfl,i⟩:=r1.one;subst i;obtain⟨k,M,p,J⟩:=I1.list<|(aQ _ _).seq e;refine call_enumerate_list p.isList λK g hit E o=>wpAny_pyIter_enum g ⟨s1.heap.objs.size+1,[s1.heap.objs.size+1,s1.heap.objs.size],_,QI X.K l,H1,rfl,I1.kept o,ľ l _ s1.heap.objs.size<|kr<|Pt _,⟨⟨_,g⟩,hit⟩,λb hb=>?_,q _ H1 sm<|bI3 e C⟩
 simp at hb;rcases hb with rfl|rfl
 .exact I1.ph (Jo _) (I1.Ia.fresh<|Jo _)
 exact I1.ph (Ib _)<|I1.Ia.fresh<|Ib _
end
section
variable {a b:Expr}
theorem IZ:∀{b:lw}{a:cr},Ca (b.map V.int) a->IntsAre a b
 |[],a,h=>by rw[h.zero];exact .nil
 |n::b,a,h=>by
  cases h with
  |cons r t=>
   obtain⟨k,rfl⟩:=r;exact .cons n k<|IZ t
theorem MX{K:Frag}{H:Hp}:∀{l:lw}{vs:ss},bA K H (l.map D.int) vs->vs=l.map V.int
 |[],vs,h=>cC.mp h
 |i::l,vs,h=>by
  obtain⟨v,r,rfl,b,a⟩:=bG.mp h;rw[bC.mp b,MX a];rfl
end
def iq:Hp:=λ_=>none
def bDv:aX iq H:=λ_ _ h=>nomatch h
def JZ{K:Frag} (h:atom d=true) (r:pb K H d v):pb K iq d v:=by
 cases d<;>first|(cases h;done)|skip
 .exact qG.mpr (qG.mp r)
 .exact cA.mpr (cA.mp r)
 .exact bC.mpr (bC.mp r)
 exact fC.mpr<|fC.mp r
def tC(K:Frag)(B:be)(f:Ex):TE:=λσ H Q=>∃A st d xs,RS K B A H st σ/\f st=.ok d/\bH1 d=.ok (.lst xs)/\∀P a b,aX H b->(∀p∈P::a,H p=none)->(P::a).Nodup->b P=some (.lst<|a.map V.ref)->MU K iq b (xs.map unL) a->Q (.ref P) b
open Builtin
section
variable{prog:Program}{w:World}{A:Around}{E:am}{s:Shared}
variable{z TI TO i1 i2 l:Addr}{fp:be}{n k1 k2:Nat}{P:Nat->Value->Prop}{St:Ch}{ys:xL}{y a b:Value}
structure Fc(z TI TO i1 i2 l:Addr)(fp:be):Prop where
 TIz:TI≠z
 TOz:TO≠z
 i1z:i1≠z
 i2z:i2≠z
 TITO:TI≠TO
 TIi1:TI≠i1
 TIi2:TI≠i2
 TOi1:TO≠i1
 TOi2:TO≠i2
 i12:i1≠i2
 lz:l≠z
 xI:l≠TO
 zI:l≠i1
 U9:l≠i2
 zf:z∉fp
 Tf:TO∉fp
 Q9:i2∉fp
theorem SV{n l:Nat}{a:be}(h:l<n)(c:∀b∈a,b<=n):Fc (n+4) (n+2) (n+3) n (n+1) l a:=by
 constructor<;>first|lia|(intro z;have:=c _ z;lia)
abbrev Sy(h:Heap)(z TI TO:Addr)(b a:Value):Prop:=h.get? z=some {cls:=.type "zip",dict:=none,data:=.fields #[b,a,.bool false,.ref TI,.ref TO],slots := #[]}
def zM(a:Sy s.heap z TI TO .none f1)(Q:wv)(q:Q true s):wpAny (model prog w) A (Builtin.SmallTypes.ownedTupleIsFree<|.ref z) Q E s:=by
 exact qa<|Wi a rfl rfl<|Ga q
variable{f0 f1:Value}
def JK(G:Draws prog w A i1 fp n P St)(D:Fc z TI TO i1 i2 l fp)
  (u:Sy s.heap z TI TO f0 f1) (I:∀Q:wv,Q true s->wpAny (model prog w) A (Builtin.SmallTypes.ownedTupleIsFree<|.ref z) Q E s) (Ve:IsPair s.heap TI (.ref i1) (.ref i2)) (Ze:IsPair s.heap TO a b)
  (h1:St k1 s.heap) (H:k1<n) (h2:s.heap.IsListIter i2 l k2) (hl:s.heap.IsList l ys) (hy:ys[k2]?=some y)
  (hQ:∀k O x,P k1 x->IsZip k z TI TO (rawInt s.heap.objs.size)->IsPair k TO x y->St (k1+1) k->k.IsListIter i2 l (k2+1)->IsPair k s.heap.objs.size x y->k.objs.size=s.heap.objs.size+1->
   (∀c o,c≠z->c≠TO->c≠i1->c≠i2->s.heap.get? c=some o->k.get? c=some o)->Q (.ref s.heap.objs.size) {s with heap:=k,toks:=O}) :
  wpAny (model prog w) A (Builtin.«zip.__next__» ⟨[.ref z],[]⟩) (λJ s'=>∃v,J=.done (.ret v)/\Q v s') E s:=by
 show wpAny _ _ (field (.ref z) 2 >>= _) _ _ _;refine qa<|Wi u rfl (x:=.bool false) rfl ?_;refine qa<|Wi u rfl rfl<|qa<|Sj Ve rfl ?_;refine qa<|I _ ?_;refine qa<|ur<|qa<|Wi u rfl rfl<|qa<|Et u (by simp) λV og f=>(qa ?_)
 simp only[List.zipIdx_cons,List.zipIdx_nil,forIn_cons,forIn_nil];refine qa<|qa<|EH ?_;refine qa<|G.item k1 {s with heap:=V} _ _ H (G.frame k1 s.heap V h1 λb m o e=>f.extBut _ _ (λx=>D.zf<|x ▸ m) e) λx zh O hP qj d=>Ga ?_
 have R:=d.extBut _ _ D.TOi1<|f.extBut _ _ D.TOz Ze;refine qa<|Sj R rfl<|qa<|DP R λLi yn j=>?_
 refine qa<|qr<|Ga<|qa<|qa<|EH ?_;refine qa (EG (((h2.extBut f.extBut D.i2z).extBut d.extBut D.i12.symm).extBut j.extBut D.TOi2.symm)
  (((hl.extBut f.extBut D.lz).extBut d.extBut D.zI).extBut j.extBut D.xI) hy λRA Uz hs₄=>Ga ?_)
 have Z:=hs₄.extBut _ _ D.TOi2 yn;refine qa<|Sj Z rfl<|qa<|DP Z λq F Wk=>?_
 replace F:IsPair q TO x y:=F
 refine qa<|qr<|Ga<|Ga<|qa<|Sj F rfl<|qa<|wpAny_newTuple ?_;have h:=j;have g:=hs₄;have r:Heap.SameBut TO RA q:=Wk;have N:q.objs.size=s.heap.objs.size:=by rw[r.1,g.1,h.1,d.1,f.1]
 have U:=r.extBut _ _ D.TOz.symm<|g.extBut _ _ D.i2z.symm<|h.extBut _ _ D.TOz.symm<|d.extBut _ _ D.i1z.symm og;have W:=Vb U;refine qa ?_
 refine qa<|Et (bc _ U) (by simp) λS QA i=>?_
 refine Et QA (by simp) λC T M=>?_
 have t:∀c o,c≠z->q.get? c=some o->C.get? c=some o:=λc o p e=>M.extBut _ _ p<|i.extBut _ _ p<|bc _ e
 have Y:=M.extBut _ _ (kr W)<|i.extBut _ _ (kr W)<|we _ rfl;have X:C.objs.size=q.objs.size+1:=by rw[M.1,i.1,Hi]
 rw[N]at T Y X;refine Ga ⟨_,rfl,?_⟩;rw[N];exact hQ C _ x hP T (t _ _ D.TOz F) (G.frame _ q C (G.frame _ zh q qj λb m o e=>r.extBut _ _ (λx=>D.Tf<|x ▸ m)<|g.extBut _ _ (λx=>D.Q9<|x ▸ m)<|h.extBut _ _ (λx=>D.Tf<|x ▸ m) e) λb m o e=>t b o (λx=>D.zf<|x ▸ m) e) ((Uz.extBut r.extBut D.TOi2.symm).at λo e=>t _ o D.i2z e) Y X λc o p B L K e=>t c o p<|(λc o p B L K e=>
  r.extBut _ _ B (g.extBut _ _ K<|h.extBut _ _ B<|d.extBut _ _ L<|f.extBut _ _ p e)) c o p B L K e
def OL(L:Draws prog w A i1 fp n P St)(R:A.handled=none)(D:Fc z TI TO i1 i2 l fp)
  (m:Sy s.heap z TI TO f0 f1) (r:∀Q:wv,Q true s->wpAny (model prog w) A (Builtin.SmallTypes.ownedTupleIsFree<|.ref z) Q E s) (Y:IsPair s.heap TI (.ref i1) (.ref i2)) (X:IsPair s.heap TO a b)
  (U:St k1 s.heap) (T:s.heap.IsListIter i2 l k2) (O:s.heap.IsList l ys)
  (u:(∀(s:Shared)(Q:am)(E:am),St k1 s.heap->(∀i e,Heap.ExtBut i1 s.heap i->(∃o,i.get? e=some o/\o.cls=.type "StopIteration")->E (.ref e) {s with heap:=i})->wpAny (model prog w) A (Builtin.SmallTypes.nextOf<|.ref i1) Q E s)\/(k1<n/\ys[k2]?=none)) {Q:Fin->ut}
  (G:∀i e y,(∀c o,c≠z->c≠TO->c≠i1->c≠i2->s.heap.get? c=some o->i.get? c=some o)->(∃o,i.get? e=some o/\o.cls=.type "StopIteration")->E (.ref e) {s with heap:=i,toks:=y}) :
  wpAny (model prog w) A (Builtin.«zip.__next__» ⟨[.ref z],[]⟩) Q E s:=by
 show wpAny _ _ (field _ 2 >>= _) _ _ _;refine qa<|Wi m rfl (x:=.bool false) rfl<|qa<|Wi m rfl rfl<|qa<|Sj Y rfl<|qa<|r _<|qa<|ur<|qa<|Wi m rfl rfl<|qa<|Et m (by simp) λv C d=>qa ?_
 simp only[List.zipIdx_cons,List.zipIdx_nil,forIn_cons,forIn_nil];refine qa<|qa<|EH ?_;have F:=L.frame k1 s.heap v U λb S o e=>d.extBut _ _ (λx=>D.zf<|x ▸ S) e
 rcases u with u|⟨q,N⟩
 .refine qa (u {s with heap:=v} _ _ F λM e hs₂ he=>?_)
  obtain⟨p,h,k⟩:=he;have J:=hs₂ _ _ D.i1z.symm C;refine Et J (by simp) λK _ g=>G K e _ (λc o j _ t _ x=>g.extBut _ _ j<|hs₂ _ _ t<|d.extBut _ _ j x) ⟨p,g.extBut _ _ (λx=>by subst x;rw[J]at h;cases h;simp at k) h,k⟩
 refine qa<|L.item k1 {s with heap:=v} _ _ q F λx M y hP qj hs₂=>Ga ?_
 have B:=hs₂.extBut _ _ D.TOi1<|d.extBut _ _ D.TOz X;refine qa<|Sj B rfl<|qa<|DP B λK yn g=>?_
 have f:=g;refine qa<|qr<|Ga<|qa<|qa<|EH<|qa (HG R (((T.extBut d.extBut D.i2z).extBut hs₂.extBut D.i12.symm).extBut f.extBut D.TOi2.symm)
  (((O.extBut d.extBut D.lz).extBut hs₂.extBut D.zI).extBut f.extBut D.xI) N λRA e hs₄ he=>?_)
 obtain⟨p,h,k⟩:=he;have I:=hs₄ _ _ D.i2z.symm<|f.extBut _ _ D.TOz.symm<|hs₂.extBut _ _ D.i1z.symm C;refine Et I (by simp) λZ _ H=>G Z e _ (λc o j W t V x=>H.extBut _ _ j<|hs₄ _ _ V<|f.extBut _ _ W<|hs₂.extBut _ _ t<|d.extBut _ _ j x) ⟨p,H.extBut _ _ (λx=>by subst x;rw[I]at h;cases h;simp at k) h,k⟩
end
section
variable{prog:Program}{w:World}{A:Around}{E:am}{s:Shared}
abbrev II(h:Heap)(o:Obj):Heap:=h.push o
abbrev JI(h:Heap)(o:Obj)(l:Addr):Heap:=(II h o).push {cls:=.type "list_iterator",data:=.fields #[.ref l,.int 0 0]}
abbrev KI(h:Heap)(o:Obj)(l:Addr):Heap:=(JI h o l).push {cls:=.type "tuple",data:=.seq #[.ref h.objs.size,.ref (II h o).objs.size]}
abbrev LI(h:Heap)(o:Obj)(l:Addr):Heap:=(KI h o l).push {cls:=.type "tuple",data:=.seq #[.none,.none]}
abbrev NC(h:Heap)(o:Obj)(l:Addr):Heap:=(LI h o l).push {cls:=.type "zip",data:=.fields #[.none,.bool false,.bool false,.ref (JI h o l).objs.size,.ref (KI h o l).objs.size]}
def SO(u:Value)(o:Obj)(s:Shared):Prop:=∀(prog:Program)(w:World)(A:Around)(E Q:am),Q (.ref s.heap.objs.size) {s with heap:=s.heap.push o}->wpAny (model prog w) A (pyIter u) Q E s
def ú(u:Value)(o:Obj)(l:Addr)(ys:xL) :
  Meets (Builtin.«zip.__new__» ⟨[.type "zip",u,.ref l],[]⟩) (λ_ R s=>SO u o s/\s.heap.IsList l ys/\
   R (.ok<|.ret<|.ref (LI s.heap o l).objs.size) {s with heap:=NC s.heap o l}):=
 .of_wp λprog w A R s h=>by
  obtain⟨c,hl,h⟩:=h;have a:=sub_zip;have b:∀{A:Around}{E Q:am},Q (.ref s.heap.objs.size) {s with heap:=s.heap.push o}->wpAny (model prog w) A (pyIter u) Q E s:=c prog w _ _ _
  wp_walk using b,wpAny_pyIter_list<|Heap.IsList.push hl _
  exact⟨_,rfl,h⟩
def NX{u:Value} (q:SO u o1 s) (i:o1.isFreed=false) (p:s.heap.IsList l ys)
  (h:∀a,IsZip a (s.heap.objs.size+4) (s.heap.objs.size+2) (s.heap.objs.size+3) .none->IsPair a (s.heap.objs.size+2) (.ref s.heap.objs.size) (.ref<|s.heap.objs.size+1)->
   IsPair a (s.heap.objs.size+3) .none .none->a.get? s.heap.objs.size=some o1->a.IsListIter (s.heap.objs.size+1) l 0->a.objs.size=s.heap.objs.size+5->
   (∀c o,s.heap.get? c=some o->a.get? c=some o)->Q (.ref<|s.heap.objs.size+4) {s with heap:=a}) :
  wpAny (model prog w) A (call (.type "zip") [u,.ref l]) Q E s:=by
 refine callType_new PySem.F.called_zip rfl (PySem.F.typeCall_zip_2 _ _) (PySem.F.newCall_zip_2 _ _) (λg=>PySem.F.args_object_init_3 g _ _) PySem.F.entry_zip_new
  (ú u o1 l ys) ⟨q,p,?_⟩
 have f:(II s.heap o1).objs.size=s.heap.objs.size+1:=Hi ..;have e:(JI s.heap o1 l).objs.size=s.heap.objs.size+2:=by rw[Hi,f]
 have d:(KI s.heap o1 l).objs.size=s.heap.objs.size+3:=by rw[Hi,e]
 have b:(LI s.heap o1 l).objs.size=s.heap.objs.size+4:=by rw[Hi,d]
 have j:(NC s.heap o1 l).get? (LI s.heap o1 l).objs.size=some _:=we _ rfl;have k:(NC s.heap o1 l).get? (KI s.heap o1 l).objs.size=some _:=bc _<|we _ rfl;have m:(NC s.heap o1 l).get? (JI s.heap o1 l).objs.size=some _:=bc _<|bc _<|we _ rfl;have n:(NC s.heap o1 l).get? (II s.heap o1).objs.size=some _:=bc _<|bc _<|bc _<|we _ rfl;rw[e,d,b]at j;rw[f,e]at m;rw[d]at k;rw[f]at n;rw[b];exact⟨⟨_,j,rfl⟩,h _ j m k (bc _<|bc _<|bc _<|bc _<|we _ i) ⟨_,n,rfl,rfl⟩ (by rw[Hi,b]) λc o x=>
  bc _ (bc _<|bc _<|bc _<|bc _ x)⟩
def Ŀ(a:A.handled=none)(it:Addr)(x:Str)(t:Tok){n:String}(b:n="str_ascii_iterator"\/n="str_iterator") :
  Draws prog w A it [it] x.cps.size (λi v=>∃c u,x.cps[i]?=some c/\v=.str ⟨#[c]⟩ u) (λi h=>h.IsStrIter it n x t i):=by
 rcases b with rfl|rfl
 .exact Draws.strAscii a it x t
 exact Draws.strWide a it x t
def bDw(c:A.handled=none){it:Addr} {t:Tok} {n:String} (f:n="str_ascii_iterator"\/n="str_iterator") (st:s.heap.IsStrIter it n x t i) (b:x.cps[i]?=none)
  (d:∀a e,Heap.ExtBut it s.heap a->(∃o,a.get? e=some o/\o.cls=.type "StopIteration")->E (.ref e) {s with heap:=a}):wpAny (model prog w) A (Builtin.SmallTypes.nextOf<|.ref it) Q E s:=by
 rcases f with rfl|rfl
 .exact wpAny_nextOf_ascii_end c st b d
 exact wpAny_nextOf_wide_end c st b d
def XU(x:Str):strIterType x="str_ascii_iterator"\/strIterType x="str_iterator":=by
 unfold strIterType;split<;>simp
end
structure Fs(X:Cx)(i1:Addr)(fp:be)(St:Ch)(src:GE):Prop where
 ob:∀i h,St i h->∃o,h.get? i1=some o/\∀v,o.data≠.cell v
 keep:∀i h h',St i h->(∀o,h.get? i1=some o->h'.get? i1=some o)->St i h'
 dr:∀(Y:Cx),Y.prog=X.prog->Y.w=X.w->Y.K=X.K->Y.A.handled=none->∀(i:Nat) aa s σ H ys,ya Y aa σ H s->src H ys->St i s.heap->∃Pv fv,Draws X.prog X.w Y.A.in1 i1 fp ys.length Pv fv/\fv i s.heap/\(∀k h,fv k h->St k h)/\(∀y v,ys[i]?=some y->Pv i v->RelV y v)/\
  (ys.length<=i->∀(s:Shared)(Q E:am),fv i s.heap->(∀h' e,Heap.ExtBut i1 s.heap h'->(∃o,h'.get? e=some o/\o.cls=.type "StopIteration")->E (.ref e) {s with heap:=h'})->wpAny (model X.prog X.w) Y.A.in1 (Builtin.SmallTypes.nextOf<|.ref i1) Q E s)/\∀zs,src H zs->zs=ys
def TC(K:Frag)(d:GE)(a:Addr):It:=
 ⟨λi H=>∃b y xs x,d H b/\b[i]?=some y/\Pc K H a xs/\xs[i]?=some x,λi H x e=>∃T c v,x=V.ref T/\H T=none/\(∀b,d H b->b[i]?=some c)/\e=Ra H T (.tup [c,v])/\∀xs,Pc K H a xs->xs[i]?=some v,λi H=>∃b xs,d H b/\Pc K H a xs/\(b.length<=i\/xs.length<=i)⟩
def bMh{P:Addr->Prop}{a b c d e:Addr}(j:P a)(i:P b)(h:P c)(g:P d)(f:P e):∀x∈[a,b,c,d,e],P x:=by
 simp[j,i,h,g,f]
def d8{b c d e x:Addr}(h:x∉[a,b,c,d,e]):x≠a/\x≠c/\x≠d/\x≠e:=by
 simp at h;exact⟨h.1,h.2.2.1,h.2.2.2.1,h.2.2.2.2⟩
def bL7{P:Addr->Prop}{a b c d e:Addr}(h:∀x∈[a,b,c,d,e],P x):P a/\P b/\P c/\P d/\P e:=by
 simpa using h
def R3{St:Ch}{z TI TO:Addr} (Z:Fs X i1 fp St src) (i:Nat) (h:Heap) (st:IsZip h z TI TO .none/\IsPair h TI (.ref i1) (.ref i2)/\(∃u v,IsPair h TO u v)/\St i h/\h.IsListIter i2 a i):∀b∈[z,TI,TO,i1,i2],∃o,h.get? b=some o/\∀v,o.data≠.cell v:=by
 obtain⟨e,k,⟨u,v,j⟩,f,⟨d,c,l,g⟩⟩:=st;exact bMh ⟨_,e,λv z=>by cases z⟩ ⟨_,k,λv z=>by cases z⟩ ⟨_,j,λv z=>by cases z⟩ (Z.ob i h f) ⟨d,c,λv z=>by rw[g]at z;cases z⟩
theorem bAn{x1} {St:Ch} (a z TI TO m l:Addr) (Z:Fs X m fp St src) (D:Fc z TI TO m l a fp) :
  Turn X.prog X.w X.K (.Tuple Uh x1 tp) (TC X.K src a) [z,TI,TO,m,l] z (λi h=>IsZip h z TI TO .none/\IsPair h TI (.ref m) (.ref l)/\(∃u v,IsPair h TO u v)/\St i h/\h.IsListIter l a i) where
 mem:=by simp
 obj:=R3 Z
 keep:=λi h B st k=>
  have ⟨k1,k2,k3,k4,k5⟩:=bL7 k
  ⟨k1 _ st.1,k2 _ st.2.1,st.2.2.1.elim λu q=>q.elim λv q=>⟨u,v,k3 _ q⟩,Z.keep i h B st.2.2.2.1 k4,st.2.2.2.2.at k5⟩
 item:=by
  intro Y hP hw G hc i T s σ H E I M st hg;refine yd λhG=>?_
  have ob:=R3 Z i _ st;obtain⟨w,U,⟨u0,v0,Ze⟩,h1,h2⟩:=st;obtain⟨V,y1,xs,x,Xi,Xk,F,f⟩:=hg;have R:=I.ok.hd hc;obtain⟨Pv,fv,Dr,ET,sk,LB,_,uq⟩:=Z.dr Y hP hw G R i T s σ H V I Xi h1;rw[<-G]at F;obtain⟨its,rv,p,_⟩:=I.list F;obtain⟨u,hu,ru⟩:=rv.get f;have S:∀b∈[z,TI,TO,m,l],H b=none:=λb d=>(M b d).1
  have hT:H s.heap.objs.size=none:=I.Ia.fresh<|Ib _;have J:s.TypeIs (.ref z) "zip":=⟨_,w,rfl⟩;refine hG ?_
  unfold pyNext;refine qa<|Dk (Ll J Bk
   (gi Bk J tw
    (JK Dr D w (zM w) U Ze ET (gf.mp Xk).1 h2 p.isList (by simpa using hu) λB tk v hPv a1 a2 a3 a4 a5 a6 hk=>wpAny_pure ?_) (PySem.F.args_zip_next_1 _)))
  refine⟨_,rfl,wpAny_letOwnedTupleGo_zip a1 λh9 hz9 sb=>?_⟩
  have A:∀b o,b≠z->b≠TO->b≠m->b≠l->s.heap.get? b=some o->h9.get? b=some o:=λb o e1 e2 O N q=>(sb.2 b e1).trans<|hk b o e1 e2 O N q
  have W:z≠s.heap.objs.size:=zd<|Vb w;have Du:h9.get? s.heap.objs.size=some {cls:=.type "tuple",data:=.seq #[v,u]}:=(sb.2 _ W.symm).trans a5;have nT:∀b g,H b=some g->b≠s.heap.objs.size:=λb g q=>aN q hT
  have nx:∀b g,H b=some g->b∉[z,TI,TO,m,l]:=λb g q d=>aN q (S b d) rfl
  have L:∀b o,s.heap.get? b=some o->b≠s.heap.objs.size:=λb o q=>zd<|Vb q
  have r:∀b o,b∉[z,TI,TO,m,l]->s.heap.get? b=some o->h9.get? b=some o:=λb o d q=>
   have ⟨e1,e2,O,N⟩:=d8 d
   A b o e1 e2 O N q
  have un:Un (Of Y.stack) [z,TI,TO,m,l] H (Ra H s.heap.objs.size<|.tup [y1,x]) s.heap h9:=by
   refine⟨λb o q n d f=>r b o f q,λb o q n d f=>⟨o.slots,r b o f q⟩,λb o q n f=>by rw[aK<|L b o q];exact n,λb o q f=>⟨o,r b o f q⟩,λb C q=>by rw[aK<|nT b _ q];exact q,λb o g q=>by rw[aK<|nT b _ q];exact q,λb ps q=>⟨#[],by rw[aK<|nT b _ q,FH];exact q⟩⟩
  have Ia:de Y.prog Y.w (Ra H s.heap.objs.size<|.tup [y1,x]) h9:=λb g q=>by
   by_cases d:b=s.heap.objs.size
   .subst d;rw[bB]at q;cases q;exact⟨show 2<=sizeLine by decide,[v,u],.cons (LB _ _ Xk hPv)<|.cons ru .nil,_,Du,rfl,_,rfl⟩
   .rw[aK d]at q;refine(I.Ia b g q).Pe (λc v Kh j=>?_) (λc j=>by rw[aK<|nT c _ j];exact j) λc C j=>by rw[aK<|nT c _ j];exact j
    have:∃K,H c=some K:=by
     rcases Kh with z|z
     .exact⟨g,by rw[z];exact q⟩
     .exact⟨_,z⟩
    obtain⟨K,Eg⟩:=this;exact r c v (nx c _ Eg) j
  have I2:ya Y T σ _ {s with heap:=h9,toks:=tk}:=I.call un Ia I.bare λb d=>by
   have t:=M b d;exact⟨t.2.2.2.1,t.2.1,t.2.2.2.2.1,t.2.2.2.2.2⟩
  have P:∀b o,b≠z->B.get? b=some o->h9.get? b=some o:=λb o e q=>(sb.2 b e).trans q
  refine⟨.ref s.heap.objs.size,_,I2,rfl,⟨_,y1,x,rfl,hT,λC Q=>by rw[uq C Q];exact Xk,rfl,λC Q=>by rw[<-G]at Q;rw[I.Ld Q F];exact f⟩,⟨hz9,P _ _ D.TIz<|hk _ _ D.TIz D.TITO D.TIi1 D.TIi2 U,⟨_,_,P _ _ D.TOz a2⟩,Z.keep _ _ _ (sk _ _ a3) λo y=>P _ o D.i1z y,a4.at λo y=>P _ o D.i2z y⟩,λb d=>?_⟩
  obtain⟨o,q,_⟩:=ob b d;rw[aK<|L b o q];exact S b d
 done:=by
  intro Y hP hw G hc i T s σ H E I M st hg;refine yd λhG=>?_
  obtain⟨w,U,⟨u0,v0,Ze⟩,h1,h2⟩:=st;obtain⟨V,xs,Xi,F,f⟩:=hg;have R:=I.ok.hd hc;obtain⟨Pv,fv,Dr,ET,sk,_,en,_⟩:=Z.dr Y hP hw G R i T s σ H V I Xi h1;rw[<-G]at F;obtain⟨its,rv,p,_⟩:=I.list F;have J:s.TypeIs (.ref z) "zip":=⟨_,w,rfl⟩;have hl:=rv.length;refine hG<|qa<|Dk (Ll J Bk
   (gi Bk J tw
    (OL Dr R D w (zM w) U Ze ET h2 p.isList (by
     by_cases hi:V.length<=i
     .exact .inl (en hi)
     .exact .inr ⟨by lia,by simp;lia⟩) λB e tk hk he=>?_) (kG _)))
  obtain⟨o,ho,Fn⟩:=he;refine qa<|Mt ⟨o,ho,Fn⟩ zw ?_;refine Ga ⟨rfl,?_⟩;have S:=λb d=>(M b d).1
  have r:∀b o,b∉[z,TI,TO,m,l]->s.heap.get? b=some o->B.get? b=some o:=λb o d q=>
   have ⟨e1,e2,O,N⟩:=d8 d
   hk b o e1 e2 O N q
  have un:Un (Of Y.stack) [z,TI,TO,m,l] H H s.heap B:=
   ⟨λb o q n d f=>r b o f q,λb o q n d f=>⟨o.slots,r b o f q⟩,λb o q n f=>n,λb o q f=>⟨o,r b o f q⟩,λb C q=>q,λb o g q=>q,λb ps q=>⟨#[],by exact q⟩⟩
  have Ia:de Y.prog Y.w H B:=λb g q=>by
   refine(I.Ia b g q).Pe (λc v Kh j=>?_) (λc j=>j) λc C j=>j
   have:∃K,H c=some K:=by
    rcases Kh with z|z
    .exact⟨g,by rw[z];exact q⟩
    .exact⟨_,z⟩
   obtain⟨K,Eg⟩:=this;exact r c v (λd=>aN Eg (S c d) rfl) j
  exact I.call un Ia I.bare λb d=>by
   have t:=M b d;exact⟨t.2.2.2.1,t.2.1,t.2.2.2.2.1,t.2.2.2.2.2⟩
 self:=λ_ _ _ _ _ st h=>UP st.1 h
def Uy(a ds:dL):dL:=List.zipWith (λc e=>.tup [c,e]) a ds
section
variable{X:Cx}{B:be}{a b:Expr}{f g:Ex}{pos:Pos}
theorem j6{K:Frag} {n:dL} {a:ss} (z:∀m g,Le A H m g->src g a) (o:bA K (hide (A++B) H) n a) (C:Pc K (hide (A++B) H) l vs) (r:bA K (hide (A++B) H) ds vs):Tq K B A H (TC K src l) (Uy n ds):=by
 intro m g f h i;have k:=(aQ _ _).seq<|(Le.app f).seq C;have j:=z m g f;refine⟨λd hd=>?_,λhl=>⟨a,vs,j,k,?_⟩⟩
 .obtain⟨c,e,F,E,rfl⟩:=List.getElem?_zipWith_eq_some.mp hd;obtain⟨u,q,w⟩:=o.get F;obtain⟨v,p,t⟩:=r.get E;refine⟨⟨a,u,vs,v,j,q,k,p⟩,λx L y=>?_⟩
  obtain⟨T,J,I,rfl,s,G,rfl,D⟩:=y;have b:=D vs k;rw[p]at b;cases b;have b:=G a j;rw[q]at b;cases b;exact⟨bL s,sO h s<|.cons (w.mono<|Le.app f)<|.cons (t.mono<|Le.app f) .nil⟩
 unfold Uy at hl;rw[List.length_zipWith]at hl;rw[r.length,o.length];lia
def UO(X:Cx)(B:be)(d:D)(g:dL):Prop:=∀{aa s σ H A v u},ya X aa σ H s->pb X.K (hide (A++B) H) d v->L2.RelV v u->∃o e St a c,SO u o s/\o.isFreed=false/\(∀b∈e,b<=s.heap.objs.size)/\Fs X s.heap.objs.size e St a/\(∀h:Heap,h.get? s.heap.objs.size=some o->St 0 h)/\bA X.K (hide (A++B) H) g c/\∀i f,Le A H i f->a f c
def T3{x1}{p:Pos}(hit:∀st ds,it st=.ok ds->∃x h ws,f st=.ok x/\g st=.ok (.lst ws)/\UO X B x h/\ds=Uy h ws)(O:X.mg "zip"=none)(S:PE X a (tI X.K B f))(d:PE X b (tI X.K B g))(Q:Gl X "zip")(z:starEach [a,b] X.env=(false,eval a X.env)::starEach [b] X.env)(n:starEach [b] X.env=[(false,eval b X.env)]):L2.PI X (.Tuple Uh x1 tp) (.Call (.Name "zip" p) [a,b] [] pos) (qk X.K B it):=by
 intro aa s σ H Rq I Pp;refine yd λT=>?_
 obtain⟨A,st,ds,u,R,q⟩:=Pp;obtain⟨x,h,ws,N,M,U,rfl⟩:=hit st ds R;refine T ?_
 refine Call_<|qO I Q O boot_zip<|Vq (Lb ((bW S (bW d dW n) z) pos aa s σ H (λr H1=>∃v w,r=[v,w]/\aX H H1/\pb X.K (hide _ H1) _ v/\pb X.K (hide _ H1) _ w) I ⟨A,st,_,u,N,λv H1 s1 r1=>⟨A,st,_,u.mono s1,M,λw H2 t K=>⟨v,w,rfl,s1.trans t,r1.mono<|aX.hide t,K⟩⟩⟩) λus s1 ⟨r,H1,I1,r1,v,w,hv,sm,rv,Qg⟩=>?_) z<|by rw[n];rfl
 subst hv;obtain⟨j,i,rfl,m,c⟩:∃j i,us=[j,i]/\L2.RelV v j/\L2.RelV w i:=by
  cases r1 with
  |cons m c=>
   cases c with
   |cons c J=>
    cases J;exact⟨_,_,rfl,m,c⟩
 obtain⟨l,ts,rfl,C,G⟩:=dM.mp Qg;subst c;obtain⟨L,OB,y,hz⟩:=I1.list<|(aQ _ _).seq C;obtain⟨o,fp,St,k,E,f1,f2,f3,Z,Y,W,V⟩:=U I1 rv m;refine NX f1 f2 y.isList λh' D Ve Ze F Vg xg P=>UP D ⟨s1.heap.objs.size+4,[s1.heap.objs.size+4,s1.heap.objs.size+2,s1.heap.objs.size+3,s1.heap.objs.size,s1.heap.objs.size+1],_,TC X.K k l,H1,rfl,I1.kept P,bAn l _ _ _ s1.heap.objs.size _ Z<|SV (by
  obtain⟨o,e,_⟩:=y.isList;exact Vb e) f3,⟨D,Ve,⟨_,_,Ze⟩,Y _ F,Vg⟩,λb d=>?_,q _ H1 sm<|j6 V W C G⟩
 simp at d;rcases d with rfl|rfl|rfl|rfl|rfl<;>exact I1.ph (by simp)<|I1.Ia.fresh<|by simp
theorem U3:∀(z:ac)(ds:dL),Mq z ds=Uy (z.map λc=>.str [c]) ds
 |[],ds=>rfl
 |c::z,[]=>rfl
 |c::z,d::ds=>congrArg _<|U3 z ds
theorem TV{K:Frag}{H:Hp}:∀z:ac,bA K H (z.map λc=>.str [c]) (z.map λc=>V.str ⟨#[c]⟩)
 |[]=>.nil
 |_::z=>.cons (fC.mpr rfl)<|TV z
def bI6(z:ac):UO X B (.str z) (z.map λc=>.str [c]):=by
 intro l s σ H A v u I r e;have j:=fC.mp r;subst j;obtain⟨t,rfl⟩:=(e);refine⟨{cls:=.type<|strIterType ⟨z.toArray⟩,data:=.fields #[.str ⟨z.toArray⟩ t,.int 0 0]},[s.heap.objs.size],λi h=>h.IsStrIter s.heap.objs.size (strIterType ⟨z.toArray⟩) ⟨z.toArray⟩ t i,λ_ L=>L=z.map λc=>V.str ⟨#[c]⟩,_,λa w A E Q q=>wpAny_pyIter_strU q,rfl,λb f=>by rw[Mc.mp f];exact Ib _,⟨λi h ⟨o,q,c,d⟩=>⟨o,q,λv z=>by rw[d]at z;cases z⟩,λi h D ⟨o,q,r⟩ k=>⟨o,k o q,r⟩,λY x p C hh i l n σ H m I hq st=>?_⟩,λh q=>⟨_,q,rfl,rfl⟩,TV z,λ_ _ _=>rfl⟩
 subst hq;rw[Gb];refine⟨_,_,Ŀ (A:=Y.A.in1) hh _ ⟨z.toArray⟩ t<|XU _,st,λ_ _ h=>h,λy v h1 ⟨c,w,h2,h3⟩=>?_,λhl s Q E st g=>bDw (A:=Y.A.in1) hh (XU _) st (by simpa using hl) g,λ_ h=>h⟩
 rw[Fi]at h1;rw[Kt]at h2;rw[h2]at h1;cases h1;exact⟨w,h3⟩
def m6{x1}{p:Pos}(j:X.mg "zip"=none)(m:PE X a (tI X.K B f))(l:PE X b (tI X.K B g))(k:Gl X "zip":=by rfl)(i:starEach [a,b] X.env=(false,eval a X.env)::starEach [b] X.env:=by rfl)(d:starEach [b] X.env=[(false,eval b X.env)]:=by rfl):L2.PI X (.Tuple Uh x1 tp) (.Call (.Name "zip" p) [a,b] [] pos) (qk X.K B<|SE f g):=by
 refine T3 (λst ds hd=>?_) j m l k i d
 obtain⟨x,h,n⟩:=R.ua hd;obtain⟨y,e,c⟩:=R.ua n;split at c
 rotate_left
 .cases c
 cases c;exact⟨_,_,_,h,e,bI6 _,U3 _ _⟩
end
section
variable {a b:Expr} {q:Pos}
def bI7{f:TA}(k:X.mg "range"=none)(m:PA X [a] f)(l:Gl X "range":=by rfl)(i:starEach [a] X.env=[(false,eval a X.env)]:=by rfl) :
  PE X (.Call (.Name "range" p1) [a] [] q) (λc H Q=>f c H λvs d=>∃j:Int,vs=[.int j]/\∀r,d r=none->Q (.ref r) (Ra d r<|.Uo 0 j)):=by
 intro n s c H Q I h;refine Call_<|qO I l k boot_range<|Vq (Lb (m q n s c H _ I h) λp s1 ⟨vs,d,I1,r1,j,e,qq⟩=>?_) i rfl
 subst e;cases r1 with
 |cons r g=>
  cases g;obtain⟨t,rfl⟩:=r;exact call_range_1 ⟨.ref s1.heap.objs.size,_,I1.laid (o:=.Uo 0 j) (λb o e=>bc _ e) (Ib _) ⟨_,_,_,we _ rfl⟩,rfl,qq _<|I1.Ia.fresh<|Ib _⟩
theorem Ϯ(A:X.calm=true):jY X (.type "list") (λvs H Q=>∃r,∃j:Int,vs=[.ref r]/\H r=some (.Uo 0 j)/\-10000000<=j/\j<=10000000/\∀n,H n=none->Q (.ref n) (Ra H n<|.lst<|(List.range j.toNat).map λ(k:Nat)=>V.int (k:Int))):=by
 intro L s σ H vs E Q I r h;obtain⟨l,j,rfl,hl,J,G,q⟩:=h;obtain⟨u,rfl,i⟩:=r.one;obtain rfl:u=Value.ref l:=i;obtain⟨t,u,v,p⟩:=((I.Ia l _ hl));have x:Builtin.Range.rangeSize 0 j 1=j.toNat:=by rw[rangeSize_one];split<;>lia
 refine call_list_range (I.ok.hd A) p (small_one (by lia) (by lia) (by lia)<|by lia) x (by lia) λK F d D c o z=>⟨.ref s.heap.objs.size,_,I.laid (o:=.lst _) c (Ib _) ⟨?_,d.toList,D,?_,by simpa using o⟩,rfl,q _<|I.Ia.fresh<|Nat.le_refl _⟩
 .rw[Gb,Ut,Vm];lia
 obtain⟨C,B⟩:=z;have key:∀(n:Nat)(xs:cr),xs.length=n->(∀(k:Nat) w,xs[k]?=some w->∃t,w=.int (0+k*1) t)->Ca ((List.range n).map λ(k:Nat)=>V.int k) xs:=by
  intro n
  induction n with
  |zero=>intro xs b _;rw[Wq.mp b];exact .nil
  |succ n m=>
   intro xs b g;obtain⟨a,y,rfl⟩:∃a y,xs=a++[y]:=by
    rcases List.eq_nil_or_concat xs with e|⟨a,y,e⟩
    .rw[e]at b;simp at b
    exact⟨a,y,by rw[e,List.concat_eq_append]⟩
   have f:=by simpa using b
   rw[List.range_succ,Fh];refine(m a f λk w c=>?_).append (.cons ?_ .nil)
   .exact g k w (by rwa [zo (gf.mp c).1])
   obtain⟨t,e⟩:=g n y (by rw[SF (by lia),f];simp)
   exact⟨t,by rw[e];simp⟩
 exact key _ _ (by simpa using C) λk w c=>by
  obtain⟨t,e⟩:=B k w (by simpa using c)
  exact⟨t,e⟩
def û{K:Frag} (n:Nat):bA K H (lK 0 n) ((List.range n).map λ(k:Nat)=>V.int (k:Int)):=by
 unfold lK;generalize List.range n=l
 induction l with
 |nil=>exact .nil
 |cons x l a=>exact .cons (bC.mpr<|by rw[Int.zero_add]) a
theorem bAr(o:X.mg "list"=none)(b:X.mg "range"=none)(t:X.calm=true)(u:PE X a (tP X.K B f))(p:Gl X "list":=by rfl)(y:Gl X "range":=by rfl)(g:vf a [] X.env:=by rfl)(k:starEach [Expr.Call (.Name "range" p1) [a] [] q] X.env=(false,eval (.Call (.Name "range" p1) [a] [] q) X.env)::starEach [] X.env:=by rfl) :
  PE X (.Call (.Name "list" p0) [.Call (.Name "range" p1) [a] [] q] [] pos) (tI X.K B<|e1 DD f):=by
 refine cF (qK (Ϯ t) p o rfl<|bW (bI7 b (bW u dW g) y g) dW k) ?_
 rintro σ H Q ⟨A,st,d,e,s,l⟩;obtain⟨x,m,i⟩:=R.ua s;refine⟨A,st,x,e,m,λv z s1 r1=>?_⟩
 cases x<;>first|(cases i)|skip
 rename_i j;obtain⟨c,w⟩:=aM i;cases w;rw[mF]at c;exact⟨j,by rw[r1.int],λr b=>⟨r,j,rfl,bB,by lia,by lia,λn h=>l _ _ (s1.trans<|(bL b).trans<|bL h)<|fB (e.own.mono<|s1.trans<|bL (o:=.Uo 0 j) b) h<|û _⟩⟩
end
def bitAnd_nn{i j:Int}(b:0<=i)(a:0<=j):Builtin.bitAnd i j=((i.toNat&&&j.toNat:Nat):Int):=by
 unfold Builtin.bitAnd;rw[Bf b,Bf a]
theorem bAs{i j:Int}(b:0<=i)(a:0<=j):Builtin.bitOr i j=((i.toNat|||j.toNat:Nat):Int):=by
 unfold Builtin.bitOr Builtin.bitAnd;rw[Ed (by unfold Builtin.bitNot;lia),Ed (by unfold Builtin.bitNot;lia)]
 have e1:Builtin.bitNot (Builtin.bitNot i)=i:=by unfold Builtin.bitNot;lia
 have e2:Builtin.bitNot (Builtin.bitNot j)=j:=by unfold Builtin.bitNot;lia
 unfold Builtin.bitNot;lia
section
variable {a b o:Expr}
def p7(i:PE X a (tP X.K B f))(h:PE X b (tP X.K B g)):PE X (.BinOp a .LShift b pos) (tI X.K B<|e2 Nq f g):=
 wo bGg (Zx (λ_ _ _=>bC.mpr rfl) λx y d e=>by
  unfold Nq at e;split at e
  .obtain⟨c,e⟩:=aM e;cases e;exact⟨_,_,rfl,rfl,c,rfl⟩
  cases e) i h
def bL8(i:PE X a (tP X.K B f))(h:PE X b (tP X.K B g)):PE X (.BinOp a .RShift b pos) (tI X.K B<|e2 Dy f g):=
 wo bGh (Zx (λ_ _ _=>bC.mpr rfl) λx y d e=>by
  unfold Dy at e;split at e
  .obtain⟨c,e⟩:=aM e;cases e;exact⟨_,_,rfl,rfl,c,rfl⟩
  cases e) i h
def o6(i:PE X a (tP X.K B f))(h:PE X b (tP X.K B g)):PE X (.BinOp a .BitAnd b pos) (tI X.K B<|e2 Oq f g):=
 wo bGi (vM (λ_ _ _=>bC.mpr rfl) λx y d e=>by
  unfold Oq at e;split at e
  .obtain⟨c,e⟩:=aM e;cases e;exact⟨_,_,rfl,rfl,by rw[bitAnd_nn c.1 c.2]⟩
  cases e) i h
def BF(i:PE X a (tP X.K B f))(h:PE X b (tP X.K B g)):PE X (.BinOp a .BitOr b pos) (tI X.K B<|e2 Kp f g):=
 wo bJi (vM (λ_ _ _=>bC.mpr rfl) λx y d e=>by
  unfold Kp at e;split at e
  .obtain⟨c,e⟩:=aM e;cases e;exact⟨_,_,rfl,rfl,by rw[bAs c.1 c.2]⟩
  cases e) i h
theorem WV{K:Frag}{H:Hp}:∀{l:lw}{vs:ss},bA K H (l.map D.int) vs->vs=l.map V.int
 |[],vs,h=>cC.mp h
 |i::l,vs,h=>by
  obtain⟨v,r,rfl,b,a⟩:=bG.mp h;rw[bC.mp b,WV a];rfl
theorem Vc:∀{l:lw}{a:cr},Ca (l.map V.int) a->∀(j:Nat)(h:j<a.length),∃i t,l[j]?=some i/\a[j]=.int i t
 |[],a,r,j,h=>by cases r;simp at h
 |i::l,a,r,j,h=>by
  cases r with
  |cons d c=>
   obtain⟨t,rfl⟩:=d;cases j with
   |zero=>exact⟨i,t,rfl,rfl⟩
   |succ j=>
    obtain⟨e,b,g,f⟩:=Vc c j _;exact⟨e,b,by simpa using g,by simpa using f⟩
theorem ŀ:Yo X "list.index" (λx vs H Q=>∃(p:Addr)(l:lw)(k:Int)(n:Nat),x=V.ref p/\vs=[.int k]/\Pc X.K H p (l.map V.int)/\l.findIdx? (λi=>i==k)=some n/\l.length<=10000000/\Q (.int (n:Int)) H):=by
 intro P s σ H x vs v N Q I o r h;refine yd λE=>?_
 obtain⟨p,l,k,n,rfl,rfl,A,B,hl,q⟩:=h;obtain⟨u,rfl,w⟩:=r.one;obtain⟨t,rfl⟩:=(w);subst o;obtain⟨a,b,⟨⟨L,K,e,j⟩,z,d,D,_,C⟩,O⟩:=I.list A;have g:=b.length;rw[Gb]at g;obtain⟨J,G,F⟩:=j8.mp B;subst D C;have f:n<a.length:=by omega
 refine E ?_
 refine uz AG ⟨_,d,rfl⟩ F8 (B8 _ _) (G8 p a.toArray z K j _ (λy=>match y with|.int i _=>i==k|_=>false) n (by simpa using f) (by lia) ?_ λm hm PR=>?_) ⟨d,λy hy=>?_,?_⟩
 .obtain⟨i,c,e1,e2⟩:=Vc b n f;rw[kH,e2];rw[Zc J]at e1;cases e1;exact G
 .have M:=by simpa using hm
  obtain⟨i,c,e1,e2⟩:=Vc b m M;rw[kH,e2];rw[Zc (by lia)]at e1
  cases e1;simpa using (F m PR)
 .obtain⟨m,hm,rfl⟩:=Yq.mp ((by simpa using hy))
  obtain⟨i,c,e1,e2⟩:=Vc b m hm;rw[e2];exact(PySem.MeetsSeq.EqGives.int i k c t).at _ _
 exact⟨.int n,H,I.tok _,⟨_,rfl⟩,q⟩
def bAu(s:PE X o (tP X.K B f))(y:PA X [e] (tA X.K B r))(I:Kj o "index" X.env:=by rfl)
  (L:As xb [e] X.env:=by rfl)
  (h:jm Ob xb:=by rfl) (q:vf e [] X.env:=by rfl) :
  PE X (.Call (.Attribute o "index" Ob) [e] [] xb) (tI X.K B<|Lo UE f r):=by
 refine cF (Kv ZF AG L8 ŀ s y I L h q rfl) ?_
 rintro σ H Q ⟨A,st,d,b,u,k⟩;obtain⟨x,m,E⟩:=R.ua u;obtain⟨xs,J,a⟩:=R.ua E;unfold UE at a;split at a
 .rename_i M j;obtain⟨l,hl,D⟩:=R.ua a;obtain⟨n,t,C⟩:=R.ua D;obtain⟨c,z⟩:=aM C;cases z;have F:=WC hl;subst F;refine⟨A,st,_,b,m,λv P s1 r1=>?_⟩
  obtain⟨p,O,e1,g,i⟩:=r1.lst;have G:=WV i;subst G;refine⟨by rw[e1];exact .inl ⟨rfl,_,g⟩,A,st,_,b.mono s1,J,λN H2 s2 r2=>?_⟩
  obtain⟨w,rfl,K⟩:=WN r2;rw[mF,Gb]at c;exact⟨p,l,j,n,e1,by rw[bC.mp K],s2.seq g,rH t,c,k _ H2 (s1.trans s2)<|bC.mpr rfl⟩
 cases a
def bDx:Yo X "int.bit_length" (λx vs H Q=>∃i:Int,x=.int i/\vs=[]/\Q (.int ((Builtin.Int.intBits i:Nat):Int)) H):=by
 intro e s σ H x vs v d Q I a b h;obtain⟨i,rfl,rfl,q⟩:=h;obtain⟨t,rfl⟩:=(a);have c:=b.zero;subst c;exact call_int_bit_length ⟨.int _,H,I.tok _,⟨_,rfl⟩,q⟩
def bDy(i:Int):Builtin.Int.intBits i=xM i:=by
 unfold Builtin.Int.intBits xM
 by_cases h:i=0
 .rw[Qa h,Qa (by rw[h];rfl)]
 rw[Ea h,Ea (by simpa using h)]
def bI8(h:PE X o (tP X.K B f))(j:Kj o "bit_length" X.env:=by rfl)(c:jm Ob xb:=by rfl) :
  PE X (.Call (.Attribute o "bit_length" Ob) [] [] xb) (tI X.K B<|e1 ED f):=by
 refine cF (kM PySem.F.plainAttrs_int PySem.F.slot_int_bit_length PySem.F.type_int_bit_length bDx h j c) ?_
 rintro σ H Q ⟨A,st,d,e,i,k⟩;obtain⟨x,g,b⟩:=R.ua i;cases x<;>first|(cases b;done)|skip
 cases b;refine⟨A,st,_,e,g,λv H1 s1 a=>⟨by rw[a.int];rfl,_,a.int,rfl,?_⟩⟩
 rw[bDy];exact k _ H1 s1<|bC.mpr rfl
end
section
open PySem.SeqAt
open PySem.AutoSeq1 (wpAny_loadPart')
open PySem.MeetsSeq PySem.MeetsSeq2 PySem.MeetsSeq3
inductive El (A:Around) (s:Shared):List Value->List Value->Bool->Prop where
 |nn:El A s [] [] true
 |nc {w:Value} {ws:cr}:El A s [] (w::ws) true
 |cn {v:Value} {vs:cr}:El A s (v::vs) [] false
 |eq {v w:Value} {vs ws:cr} {b:Bool}:EqAt A s v w true->El A s vs ws b->El A s (v::vs) (w::ws) b
 |lt {v w:Value} {vs ws:cr} {b:Bool}:EqAt A s v w false->(∀(prog:Program)(wd:World)(E Q:am),Q (.bool b) s->wpAny (model prog wd) A (richCompare .LtE v w) Q E s)->El A s (v::vs) (w::ws) b
end
section
variable {a:Expr}
def XM{vs:Ix}(r:KV ia vs):vs.length=ia.length:=by
 induction r with
 |nil=>rfl
 |cons _ _ a=>simp[a]
end
end Pu
namespace Pu
section
open PySem PySem.Spec PyProof.Rows L2
variable {a b:Expr}
def vV{K:Frag}:wX K (Zh λi j=>.bl<|decide (i<j)) Il:=vM (λ_ _ _=>cA.mpr rfl) λx y d e=>by
 unfold Il at e;split at e
 .cases e;exact⟨_,_,rfl,rfl,rfl⟩
 cases e
def bAv{i j:Int}(c:(-18446744073709551616<i/\i<18446744073709551616)\/(-18446744073709551616<j/\j<18446744073709551616)):zy i j:=by
 unfold zy;omega
def jN(k:PE X a (tP X.K B f))(j:PE X b (tP X.K B g)):PE X (.BinOp a .Mult b pos) (tI X.K B<|e2 iZ f g):=by
 refine wo bGd ?_ k j;intro A H x y d v u Q w i h e q;unfold iZ at e;split at e
 .obtain⟨c,e⟩:=aM e;cases e;exact⟨_,_,i.int,h.int,bAv c,q _ H (aX.refl _)<|bC.mpr rfl⟩
 cases e
end
end Pu
namespace Pu
open PySem PySem.Spec PyProof.Rows L2
def bMi{K:Frag} {p:Addr} (s1:aX H H1) (d:H1 p=none) (s2:aX H1 H') (c:H' p=some (.lst vs)) (r:bA K (hide (A++p::B) H') ds vs):∃G,aX H G/\G p=none/\Ra G p (.lst vs)=H'/\bA K (hide (A++B) G) ds vs:=by
 let G:=λb=>if b=p then none else H' b
 refine⟨G,λb o z=>?_,(Qa rfl),?_,r.mono λb o z=>?_⟩
 .show (if b=p then none else H' b)=_
  rw[Ea<|aN (s1 _ _ z) d];exact s2 _ _<|s1 _ _ z
 .funext b
  by_cases a:b=p
  .subst a;rw[bB,c]
  rw[aK a];exact Ea a
 have a:b∉A++p::B:=λw=>by rw[iU w]at z;cases z
 have e:=aQ _ _ _ _ z;rw[cN λw=>a<|mem_mid.mpr<|.inr w]
 show (if b=p then none else H' b)=_
 rwa [Ea λw=>a<|mem_mid.mpr<|.inl w]
section
variable {σ:List (Option V)}
def bAw(I:ya X aa σ H s)(k:∀b u,s.heap.get? b=some u->h'.get? b=some u)(sm:aX H H')(d:∀b,b<s.heap.objs.size->H' b=H b)(new:∀a o,H a=none->H' a=some o->jF X.prog X.w H' h' a o):ya X aa σ H' {s with heap:=h',toks:=t'}:=by
 refine I.un ⟨λb u q _ _ _=>k b u q,λb u q _ _ _=>⟨u.slots,k b u q⟩,λb u q n _=>by rwa [d b<|Vb q],λb u q _=>⟨u,k b u q⟩,λb xs q=>sm _ _ q,λb u xs q=>sm _ _ q,λb f q=>⟨#[],by rw[sm _ _ q];simp⟩⟩ λa o e=>?_
 cases c:H a with
 |none=>exact new a o c e
 |some u=>
  have z:=sm a u c;rw[e]at z;cases z;exact(I.Ia a _ c).Pe (λb v _ q=>k b v q) (λb q=>sm _ _ q) λb xs q=>sm _ _ q
theorem p6:∀{a:sK} {vs:Ix} {j:Nat} {k:Key} {x:Value},KV a vs->vs[j]?=some (k,x)->∃p,a[j]?=some p/\p.1=k/\RelV p.2 x
 |_,_,j,k,x,.nil,e=>by simp at e
 |_,_,0,k,x,.cons h _,e=>by
  simp at e;subst e;exact⟨_,rfl,h.1,h.2⟩
 |_,_,j+1,k,x,.cons _ t,e=>by
  obtain⟨p,e1,e2⟩:=p6 t (by simpa using e)
  exact⟨p,by simpa using e1,e2⟩
end
section
variable {a:Expr} {rest:List Stmt}
def t6(h:PE X e (tF X.K B f))(g:∀st d,f st=.ok d->∃xs,d=.lst xs):PE X e (tI X.K B f):=cF h (by
 rintro σ H Q ⟨A,st,d,a,c,q⟩;obtain⟨xs,rfl⟩:=g st d c;exact⟨A,st,xs,a,c,λp i j s b r=>q _ _ (s.trans<|bL b)<|fB (a.own.mono s) b r⟩)
end
structure DA(K:Frag)(n:Str)(st:Stmt):Prop where
 ex:∃(f:Addr)(fd:FuncData),nsIn K mainGlobals n=some (some<|.ref f)/\Xa K n n st .none f fd
section
variable{P:Program}{w:World}{K:Frag}{h base:Heap}{mg:jp}{n:Str}{st:Stmt}{f:Addr}{ps:wP}{k np m:Nat}{p:im}{bd:Bd}{g:Ex}
def eE{b:re}{kV:Value} (a:nsIn K mainGlobals n=some (some<|.ref f)) (l:K.lookup f=some ⟨oc,b,.func<|fnOf n n (dY st) (cX st) (bD st) .none kV doc pm an qc ct,Oi⟩)
  (c:codeIn K qc n=true) (k:keepIn K (.ref f)=true):DA K n st:=⟨⟨f,_,a,sX l c k⟩⟩
structure Ct(P:Program)(w:World)(K:Frag)(mg:jp)(base h:Heap):Prop where
 X:K.In h
 G:h.Ns mainGlobals mg
def Bn(n:Str)(st:Stmt)(ps:wP):Prop:=∀(kV b d:Value)(f:re)(c e:Value)(a:cr),a.length=ps.length->bindArgs (fnOf n n (dY st) (cX st) (bD st) .none kV b d f c e) ⟨a,[]⟩=pure (ps.zip a)
structure IU(n q:Str)(st:Stmt)(ps:wP):Prop where
 ok:∀(kV doc pm:Value)(an:re)(qc ct:Value)(us:cr),us.length=ps.length->bindArgs (fnOf n q (dY st) (cX st) (bD st) .none kV doc pm an qc ct) ⟨us,[]⟩=pure (ps.zip us):=by intro _ _ _ _ _ _;first|exact O3 rfl|exact ML λ_=>rfl|exact UD λ_ _=>rfl|exact NL λ_ _ _=>rfl|exact Px λ_ _ _ _=>rfl|exact Qx λ_ _ _ _ _=>rfl|exact Q3 λ_ _ _ _ _ _=>rfl
def DA.FI(D:DA K n st)(C:Ct P w K mg base h)(b:Bn n st ps):∃(f:Addr)(c:FuncData),Xa K n n st .none f c/\mg n=some (.ref f)/\Binds K c ps []:=by
 obtain⟨f,c,a,F⟩:=D.ex;exact⟨f,c,F,Sh C.X C.G a,F.Tj b⟩
theorem DA.ok(D:DA K n st)(C:Ct P w K mg base h)(r:∀{f:Addr}{c:FuncData},Xa K n n st .none f c->Ja P w K mg base gc k f c ps (Dc K np<|dI np m bd))(b:IU n n st ps:=by exact {}):Na P w K mg base n k np (dI np m bd):=by
 obtain⟨f,c,F,a,z⟩:=D.FI C b.ok;exact .of (r F) a F.kp z pC
structure MA(K:Frag)(C:Addr)(m:String)(n q:Str)(st:Stmt):Prop where
 ex:∃(f:Addr)(fd:FuncData),Meth K C (ofString m) f/\Xa K n q st .none f fd
def bL9{m:String}{q:Str}{b:re}{kV:Value} (a:findIn K (.ref C) (ofString m)=some (some<|.ref f)) (e:isFn K (.ref f)=true) (l:K.lookup f=some ⟨oc,b,.func<|fnOf n q (dY st) (cX st) (bD st) .none kV doc pm an qc ct,Oi⟩)
  (c:codeIn K qc q=true) (k:keepIn K (.ref f)=true):MA K C m n q st:=⟨⟨f,_,⟨a,e,k⟩,sX l c k⟩⟩
theorem MA.ok{C:Addr}{c m:String}{q:Str}{j:Nat}(D:MA K C m n q st)(_:Ct P w K mg base h)(d:ClsAt K c C)(r:∀{f:Addr}{a:FuncData},Xa K n q st .none f a->Ja P w K mg base gc k f a ps (Dc K np<|dI np j bd))(b:IU n q st ps:=by exact {}):yg P w K mg base c m k np [] (dI np j bd):=by
 obtain⟨f,a,M,F⟩:=D.ex;exact yg.of d M (r F) (F.Tj b.ok) .nil λ_=>.nil
end
structure XA(K:Frag)(c:String)(C:Addr)(wm:cr)(newId:String):Prop where
 a:nsIn K mainGlobals (ofString c)=some (some<|.ref C)
 q:excIn K C wm newId=true
 g1:findIn K (.ref C) "__getattribute__"=some (some<|.builtin "BaseException.__getattribute__")
 g6:findIn K (.ref C) "__getattr__"=some none
 g7:mroIn K C (.type "BaseException")=some true
 g2:findIn K (.ref C) "__class__"=some (some<|.builtin "object.__class__")
 g5:mroIn K C (.type "object")=some true
def XA.at{K:Frag}{c:String}{B:String} (Y:XA K c C wm newId) (F:ExcBaseFacts B newId Xf wm) (b:specialIn K (.builtin "object.__class__") "__get__"=some (some<|.builtin "getset_descriptor.__get__")) (a:takesIn K (.builtin "object.__class__")=some true):∃d,ExcAt K c C d:=bAk F Y.a Y.q Y.g1 Y.g6 Y.g7 Y.g2 b a Y.g5
section
variable {a b:Expr}
def ZN{A:Addr}(a:nsIn X.K mainGlobals (ofString F)=some (some<|.ref A))(b:X.mg x=some (.ref A))(c:Gl X x:=by rfl)(d:Ce x:=by decide):PE X (.Name x pos) (tI X.K B<|eC<|.fn F):=
 Gu (Fx (v:=.ref A) c b rfl d) λ_=>PM.mpr ⟨A,rfl,a⟩
end
open Builtin
theorem DV{l a:Nat}(h:l<n)(d:a<n):Fc (n+4) (n+2) (n+3) n (n+1) l [n,a]:=SV h λb c=>by
 simp at c;lia
section
variable{w:World}{A:Around}
def OX (g:s.heap.IsList l1 MC) (f:s.heap.IsList l ys)
  (h:∀e,IsZip e (s.heap.objs.size+4) (s.heap.objs.size+2) (s.heap.objs.size+3) .none->IsPair e (s.heap.objs.size+2) (.ref s.heap.objs.size) (.ref<|s.heap.objs.size+1)->
   IsPair e (s.heap.objs.size+3) .none .none->e.IsListIter s.heap.objs.size l1 0->e.IsListIter (s.heap.objs.size+1) l 0->e.objs.size=s.heap.objs.size+5->
   (∀c o,s.heap.get? c=some o->e.get? c=some o)->Q (.ref<|s.heap.objs.size+4) {s with heap:=e}) :
  wpAny (model prog w) A (call (.type "zip") [.ref l1,.ref l]) Q E s:=NX (λ_ _ _ _ _ q=>Ft g q) rfl f λe a b c d=>h e a b c ⟨_,d,rfl,rfl⟩
def KZ(d:A.handled=none){it:Addr} (st:s.heap.IsListIter it l i) (c:s.heap.IsList l ys) (b:ys[i]?=none)
  (f:∀a e,Heap.ExtBut it s.heap a->(∃o,a.get? e=some o/\o.cls=.type "StopIteration")->E (.ref e) {s with heap:=a}):wpAny (model prog w) A (Builtin.SmallTypes.nextOf<|.ref it) Q E s:=HG d st c b f
end
abbrev VO(K:Frag)(b a:Addr):It:=TC K (λH L=>Pc K H b L) a
theorem PL:∀(z ds:dL),zP z ds=Uy z ds
 |[],ds=>rfl
 |c::z,[]=>rfl
 |c::z,d::ds=>congrArg _<|PL z ds
section
variable {a b:Expr}
def bDz{K:Frag} {a:dL} {b:ss} (f:Pc K (hide (A++B) H) l1 b) (c:bA K (hide (A++B) H) a b) (e:Pc K (hide (A++B) H) l vs) (r:bA K (hide (A++B) H) ds vs):Tq K B A H (VO K l1 l) (zP a ds):=by
 rw[PL];exact j6 (λh g d=>(aQ _ _).seq<|(Le.app d).seq f) c e r
def bIa(g:dL):UO X B (.lst g) g:=by
 intro M s σ H A v u I r D;obtain⟨a,x,rfl,t,O⟩:=dM.mp r;subst D;obtain⟨T,R,n,U⟩:=I.list<|(aQ _ _).seq t;have j:a<s.heap.objs.size:=by
  obtain⟨o,e,_⟩:=n.isList;exact Vb e
 refine⟨{cls:=.type "list_iterator",data:=.fields #[.ref a,.int 0 0]},[s.heap.objs.size,a],λi h=>h.IsListIter s.heap.objs.size a i,λH L=>Pc X.K H a L,x,λm w A E Q q=>Ft n.isList q,rfl,λb hb=>?_,⟨λi h ⟨o,q,c,d⟩=>⟨o,q,λv z=>by rw[d]at z;cases z⟩,λi h S ⟨o,q,r⟩ k=>⟨o,k o q,r⟩,λY hP hw hK hh i M C σ H P I hq st=>?_⟩,λh q=>⟨_,q,rfl,rfl⟩,O,λW V F=>(aQ _ _).seq<|(Le.app F).seq t⟩
 .simp at hb;rcases hb with rfl|rfl
  .exact Ib _
  exact Fo j
 rw[<-hK]at hq;obtain⟨f,l,p,_⟩:=I.list hq;have hl:=l.length;rw[<-hP,<-hw,hl,<-hK];refine⟨_,_,yz (A:=Y.A.in1) hh s.heap.objs.size a (zd j) f.toArray,⟨st,p.isList⟩,λ_ _ h=>h.1,λy v h1 h2=>?_,λG C Q E st J=>KZ (A:=Y.A.in1) hh st.1 st.2 (by simpa using G) J,λ_ h=>I.Ld h hq⟩
 obtain⟨c,K,N⟩:=l.get h1;rw[Kt,K]at h2;cases h2;exact N
def bE0{x1}{p:Pos}(j:X.mg "zip"=none)(m:PE X a (tI X.K B f))(l:PE X b (tI X.K B g))(k:Gl X "zip":=by rfl)(i:starEach [a,b] X.env=(false,eval a X.env)::starEach [b] X.env:=by rfl)(d:starEach [b] X.env=[(false,eval b X.env)]:=by rfl):L2.PI X (.Tuple Uh x1 tp) (.Call (.Name "zip" p) [a,b] [] pos) (qk X.K B<|tE f g):=by
 refine T3 (λst ds hd=>?_) j m l k i d
 obtain⟨x,h,n⟩:=R.ua hd;obtain⟨y,e,c⟩:=R.ua n;split at c
 rotate_left
 .cases c
 cases c;exact⟨_,_,_,h,e,bIa _,PL _ _⟩
end
end Pu
namespace Pu
open PySem PyProof.Rows
def Ak(h:Heap)(d:Addr)(a:Array DictEntry)(b:Nat):Prop:=∃o,h.get? d=some o/\o.ExactDict/\o.data=.dict a b
def Ak.ty{d:Addr}{a:Array DictEntry} (x:Ak s.heap d a ep):s.TypeIs (.ref d) "dict":=let ⟨o,h,e,_⟩:=x;⟨o,h,e.1⟩
def Ak.at{d:Addr}{a:Array DictEntry} (x:Ak h d a ep) (k:∀o,h.get? d=some o->h'.get? d=some o):Ak h' d a ep:=let ⟨o,e,r⟩:=x;⟨o,k o e,r⟩
def Ak.lt{d:Addr}{a:Array DictEntry} (x:Ak h d a ep):d<h.objs.size:=let ⟨_,e,_⟩:=x;Vb e
section
variable{w:World}{A:Around} {it d:Addr} {es:Array DictEntry}
def LZ(c:(d==sysModules)=false)(x:Ak s.heap d es ep)(q:Q (.ref s.heap.objs.size) {s with heap:=s.heap.push {cls:=.type "dict_keyiterator",data:=.fields #[.ref d,.int 0 0,.int es.size 0,.int ep 0]} }):wpAny (model prog w) A (pyIter<|.ref d) Q E s:=by
 obtain⟨o,a,e,b⟩:=id x;refine dz x.ty F.slot_dict_iter<|gi F.slot_dict_iter x.ty F.entry_dict_iter (qa<|qa<|wpAny_notOrdered_dict x.ty<|Ga<|(?_:wpAny _ _ (Builtin.Dict.showsAll d >>= _) _ _ s))<|F.args_dict_iter_1 _;unfold Builtin.Dict.showsAll;rw[Ea (by rw[c];exact Qh)]
 refine qa<|Ga<|qa<|MP a b<|qa<|dQ a b<|qa<|tm<|Ga ⟨_,rfl,"dict_keyiterator",_,⟨_,we _ rfl,rfl⟩,Wy.lookup,?_⟩;simpa [rawInt] using q
def MZ{e:DictEntry}{Q:v6}(hit:s.heap.IsKeyIter it d i es.size ep)(x:Ak s.heap d es ep)(k:es[i]?=some e)
  (q:∀f,f.IsKeyIter it d (i+1) es.size ep->Heap.SameBut it s.heap f->Q (some e.key) {s with heap:=f}):wpAny (model prog w) A (pyNext<|.ref it) Q E s:=by
 obtain⟨o,b,m,a⟩:=id hit;obtain⟨n,j,_,g⟩:=id x;refine qa<|Dk<|Ll hit.typeIs Wy<|gi Wy hit.typeIs o8 (qa<|Ga<|qa<|qa ?_)<|m8 _
 first|refine qa (RF hit.typeIs<|Ga ?_)|refine qa<|VF hit.typeIs<|Ga ?_
 refine qa<|Aw b a<|((qa<|Ga<|qa<|MP j g ?_):wpAny _ _ _ _ _ s);rw[Ea (by simp)]
 refine qa<|Ga<|qa<|dQ j g ?_;rw[Ea (by simp)]
 refine Ga ?_
 obtain⟨c,l⟩:=vt.mp k;subst l;simp[Array.getElem?_eq_getElem c];refine qa ?_
 first|refine qa (RF hit.typeIs<|Ga ?_)|refine qa<|VF hit.typeIs<|Ga ?_
 refine qa<|wpAny_isOneOf_keyiter hit.typeIs<|((qa<|jr b a (by simp) ?_):wpAny _ _ (setField _ 1 _ >>= _) _ _ s)
 have h:(s.heap.update it (Obj.mapFields (·.setIfInBounds 1 (rawInt<|i+1)))).IsKeyIter it d (i+1) es.size ep:=
  ⟨_,Nl _ b<|Yy<|uw a _,(Obj.cls_mapFields ..).trans m,by rw[uw a];simp[rawInt]⟩
 exact qa<|Ff<|qa<|wpAny_isOneOf_keyiter h.typeIs<|(Ga<|Ga ⟨_,rfl,Ga<|q _ h<|Bt ..⟩)
def V3{Q:v6}(h:A.handled=none)(hit:s.heap.IsKeyIter it d i es.size ep)(x:Ak s.heap d es ep)(g:es.size<=i)
  (q:∀c,Heap.ExtBut it s.heap c->Q none {s with heap:=c}):wpAny (model prog w) A (pyNext<|.ref it) Q E s:=by
 obtain⟨o,a,k,b⟩:=id hit;obtain⟨j,f,_,e⟩:=id x;refine qa<|Dk<|Ll hit.typeIs Wy<|gi Wy hit.typeIs o8 (qa<|Ga<|qa<|qa ?_)<|m8 _
 first|refine qa (RF hit.typeIs<|Ga ?_)|refine qa<|VF hit.typeIs<|Ga ?_
 refine qa<|Aw a b<|((qa<|Ga<|qa<|MP f e ?_):wpAny _ _ _ _ _ s);rw[Ea (by simp)]
 refine qa<|Ga<|qa<|dQ f e ?_;rw[Ea (by simp)]
 refine Ga ?_
 simp[Array.getElem?_eq_none g];refine qa ?_
 first|refine qa (RF hit.typeIs<|Ga ?_)|refine qa<|VF hit.typeIs<|Ga ?_
 refine((qa<|jr a b (by simp) ?_):wpAny _ _ (setField _ 0 .none >>= _) _ _ s)
 refine qa<|qa<|tm (qa<|HH (by first|rfl|(rfl))<|tm (qa<|wpAny_handled ?_)<|by size_fits)<|by size_fits
 rw[h];refine qa<|Ga<|wpAny_throw ?_;exact qa<|Mt ⟨_,we _ rfl,rfl⟩ zw<|Ga<|q _<|((Bt ..).extBut.push _).push _
def Ł(m:A.handled=none)(I:Addr)(p:d≠I):Walks prog w A I [I,d] [I] es.size (λi v=>∃e,es[i]?=some e/\v=e.key) (λi h=>h.IsKeyIter I d i es.size ep/\Ak h d es ep) where
 sub:=λb a=>by simp at a;simp[a]
 frame:=λ_ _ _ st j=>⟨st.1.at λo e=>j I (by simp) o e,st.2.at λo e=>j d (by simp) o e⟩
 item:=λi s Q E k st c=>MZ st.1 st.2 (Cj k) λg n l=>c _ g s.toks ⟨_,Cj k,rfl⟩ ⟨n,st.2.at λo e=>l.extBut d o p e⟩ λb o a e=>l.extBut b o (λh=>a<|by simp[h]) e
 done:=λs Q E st c=>V3 m st.1 st.2 (Ib _) λg f=>c g s.toks λb o a e=>f b o (λh=>a<|by simp[h]) e
 self:=λ_ _ _ _ st c=>wpAny_pyIter_keyiter st.1 c
def W3(lo:(d==sysModules)=false):KdlSrc prog w "dict" d d es.size (λi v=>∃e,es[i]?=some e/\v=e.key) (λh=>Ak h d es ep) where
 type:=λ_ x=>x.ty
 there:=λ_ x=>⟨x.lt,x.lt⟩
 keep:=λ_ _ x b=>x.at λo e=>b d (.inl rfl) o e
 notList:=rfl
 notTuple:=rfl
 hint:=λ_ _ _ _ x a=>PySem.W.kdl_hint_dict x.ty a
 iter:=λ_ _ c x=>⟨_,_,(λ_ _ a=>LZ lo x a),Ł c _<|zd x.lt,⟨⟨_,we _ rfl,rfl,rfl⟩,x.at λ_ e=>bc _ e⟩⟩
end
section
variable{w:World}{A:Around} {T:String} {r d:Addr} {P:Nat->Value->Prop} {OK:Heap->Prop}
def bIb{R:Gc}(K:KdlSrc prog w T r d n P OK)(x:A.handled=none)(t:OK s.heap)(v:n<=sizeLine)
  (q:∀(a:Heap)(g:Nat)(vs:cr),ItemsOf P vs.toArray n->(∀b o,s.heap.get? b=some o->a.get? b=some o)->R vs {s with heap:=a,toks:=g}) :
  wpAny (model prog w) A (collect<|.ref r) R E s:=by
 refine qa<|wpAny_runValue<|Rj entry_proto_collect'<|qa<|tm<|Ga ⟨vm M8 _,Rj entry_list_iadd' ?_⟩;have m:=K.there _ t;have h:∀(a:Heap)(g:Nat)(vs:cr)(c:Nat),ItemsOf P vs.toArray n->(∀b o,s.heap.get? b=some o->a.get? b=some o)->a.get? s.heap.objs.size=some {cls:=.type "list",dict:=none,data:=.seq vs.toArray c,slots := #[]}->
   wpAny (model prog w) A (load s.heap.objs.size >>= λo=>match o.data with|.seq xs _=>pure xs.toList|_=>unsupported "internal:collect") R E {s with heap:=a,toks:=g}:=λa g vs c i k o=>by
  exact qa<|wpAny_load o<|Ga<|q a g vs i k
 refine oi (PySem.W.kdl_extend (s:={s with heap:=s.heap.push {cls:=.type "list",data:=.seq ([]).toArray} })
  (R:=λq j=>q=.ok _/\∃(a:Heap)(g:Nat)(vs:cr)(c:Nat),j={s with heap:=a,toks:=g}/\ItemsOf P vs.toArray n/\(∀b o,s.heap.get? b=some o->a.get? b=some o)/\a.get? s.heap.objs.size=some {cls:=.type "list",dict:=none,data:=.seq vs.toArray c,slots := #[]})
  K x (K.keep _ _ t λb _ o e=>bc _ e) s.heap.objs.size (kr m.1) (kr m.2) _ 0 (we _ rfl)
  (λa g l c k o it=>⟨rfl,a,g,l.toList,c,rfl,by simpa using it,λb u p=>k b u (Nat.ne_of_lt<|Heap.lt_size p)<|Heap.get?_push_of_some _ p,by simpa using o⟩) v) (λfin j y=>?_) λe j y=>nomatch y.1
 cases fin with
 |done f=>
  obtain⟨e,a,g,vs,c,rfl,i,k,o⟩:=y;cases e;exact h a g vs c i k o
 |again B=>
  refine⟨y.1,Um y.2 λq C z=>?_⟩
  obtain⟨rfl,a,g,vs,c,rfl,i,k,o⟩:=z;exact h a g vs c i k o
end
end Pu
namespace Pu
open PySem PySem.Spec PyProof.Rows L2
def Dl(H:Hp):List (List Key×V)->List Addr->Prop:=Paired λa p=>H p=some (.tup<|a.1.map kV)
def Dl.len{a:pi}{ps:be}(h:Dl H a ps):a.length=ps.length:=Paired.length h
def t7{w:World} {c:pi} (ok:de P w H h) (e:H a=some (.dT c)):c.length<=sizeLine/\(a==sysModules)=false/\∃b d ps,Ak h a b d/\Dl H c ps/\b.toList.map (·.key)=ps.map Value.ref:=by
 refine yd λg=>?_
 obtain⟨z,y,xs,r,o,b,d,n,k,j,i,t⟩:=((ok a _ e));refine g ?_
 refine⟨z,y,b,d,xs.map (·.2.1),⟨o,n,k,j⟩,?_,?_⟩
 .have:∀{l:List _} {m:KM},Paired (λp q=>p.1=q.1/\H q.2.1=some (.tup<|p.1.map kV)/\RelV p.2 q.2.2) l m->Dl H l (m.map _):=λ{l m} q=>by
   induction q with
   |nil=>exact .nil
   |cons s _ f=>exact .cons s.2.1 f
  exact this r
 rw[i,vg,vg];rfl
theorem NZ{a:Array DictEntry}{ps:be}{vs:cr}(h:a.toList.map (·.key)=ps.map Value.ref)(it:ItemsOf (λi v=>∃e,a[i]?=some e/\v=e.key) vs.toArray a.size):vs=ps.map Value.ref:=by
 obtain⟨f,d⟩:=it;rw[<-h];refine NP λi=>?_
 cases b:vs[i]? with
 |none=>
  have:=List.getElem?_eq_none_iff.mp b;rw[cg]at f;exact(Xq<|by rw[Gb,Dt];lia).symm
 |some v=>
  obtain⟨e,c,rfl⟩:=d i v (by simpa using b)
  rw[Fi,ir,c];rfl
theorem RJ:∀ps:be,Ca (ps.map V.ref) (ps.map Value.ref)
 |[]=>.nil
 |_::ps=>.cons rfl<|RJ ps
theorem Dl.nq{K:Frag}{A:be}{H:Hp}(w:Own A H):∀{b:pi} {ps:be},Dl H b ps->bA K (hide A H) (b.map λp=>D.tup<|p.1.map jM) (ps.map V.ref)
 |_,_,.nil=>.nil
 |c::_,_,.cons e t=>by
  refine .cons (lC.mpr ⟨_,_,rfl,by rwa [cN<|w.tup e],?_⟩)<|Dl.nq w t
  have:∀a:FM,bA K (hide A H) (a.map jM) (a.map kV):=λa=>by
   induction a with
   |nil=>exact .nil
   |cons k a d=>
    refine .cons ?_ d;cases k with
    |inl i=>exact bC.mpr rfl
    |inr x=>exact fC.mpr (by simp[kV])
  exact this c.1
section
variable {a:Expr}
def YV(k:X.calm=true):jY X (.type "list") (λvs H Q=>∃(r:Addr) (a:pi),vs=[.ref r]/\H r=some (.dT a)/\∀n ps,H n=none->Dl H a ps->Q (.ref n) (Ra H n<|.lst<|ps.map V.ref)):=by
 intro A s σ H vs v Q I r h;obtain⟨l,a,rfl,hl,q⟩:=h;obtain⟨u,rfl,e⟩:=r.one;obtain rfl:u=Value.ref l:=e;obtain⟨x,f,o,z,ps,j,b,c⟩:=t7 I.Ia hl;have d:o.size=a.length:=by
  have:=congrArg List.length c;rw[Gb,Gb,Dt]at this;rw[this,b.len]
 refine kdl_call (W3 f) (I.ok.hd k) j (by rwa [d]) λy w t p g m i=>⟨.ref s.heap.objs.size,_,I.laid (o:=.lst _) g (Ib _) ⟨by rwa [Gb,<-b.len],ps.map Value.ref,p,RJ ps,by rw[<-(NZ c<|by simpa using i)];simpa using m⟩,rfl,q _ _ (I.Ia.fresh<|Nat.le_refl _) b⟩
def bE1(l:X.mg "list"=none)(s:X.calm=true)(t:PE X a (tI X.K B f))(o:Gl X "list":=by rfl)(h:vf a [] X.env:=by rfl):PE X (.Call (.Name "list" p0) [a] [] pos) (tI X.K B<|e1 Hs f):=by
 refine cF (qK (YV s) o l rfl (bW t dW h) (he:=h)) ?_
 rintro σ H Q ⟨A,st,d,g,r,q⟩;obtain⟨x,k,b⟩:=R.ua r;refine⟨A,st,x,g,k,λv E s1 r1=>?_⟩
 unfold Hs at b;split at b
 .obtain⟨c,y⟩:=aM b;cases y;obtain⟨p,z,rfl,u,C⟩:=qH.mp r1;rcases u with ⟨e,_⟩|⟨_,j,e,rfl,rfl⟩
  .cases e
  have w:=g.own.mono s1;exact⟨p,j,rfl,aQ _ _ _ _ e,λn D i m=>q _ _ (s1.trans<|bL i)<|fB w i<|m.nq w⟩
 cases b
end
def Jm(h:Heap)(v:Value)(i j:Int):Prop:=∃a o t u n,v=.ref a/\h.get? a=some o/\o.cls=.type "tuple"/\o.data=.seq #[.int i t,.int j u] n
section
open PySem.W (kat_lt kat_cons kat_go kat_yes kat_no kat_nil kat_one KatTups kat_kind kat_run kat_snds)
variable{prog:Program}{w:World}{A:Around}{E:am}{s:Shared}
def Jm.keep{v:Value}{i j:Int}(p:Jm h v i j)(k:∀a o,h.get? a=some o->o.cls=.type "tuple"->h'.get? a=some o):Jm h' v i j:=by
 obtain⟨a,o,t,u,n,e,c,b,d⟩:=p;exact⟨a,o,t,u,n,e,k a o c b,b,d⟩
def bE2{x:Value}{p q:Do}{C:wv}(m:Jm s.heap x p.1 p.2)(g:Jm s.heap y q.1 q.2)(h:C (ltQ p q) s):wpAny (model prog w) A (keyLt' (tuples' true) x y) C E s:=by
 obtain⟨i,j⟩:=p;obtain⟨k,l⟩:=q;obtain⟨a,o,t,u,n,rfl,v,_,z⟩:=m;obtain⟨b,D,f,d,F,rfl,B,_,r⟩:=g;refine kat_lt v z B r<|kat_cons<|SeqAt.EqAt.int_int i t k f _ _ _ _<|kat_go (λe=>?_) λe=>?_
 .have c:=by unfold ltQ at h;rw[Qa e]at h;exact h
  refine kat_yes<|kat_cons<|SeqAt.EqAt.int_int j u l d _ _ _ _<|kat_go (λe=>?_) λe=>?_
  .have e:=eq_of_beq e;subst e;exact kat_yes<|kat_nil<|by simpa using c
  exact kat_no<|kat_one _ _<|lt_int c
 exact kat_no<|oneLt_int<|by unfold ltQ at h;rw[Ea (by rw[e];exact Qh)]at h;exact h
def bIc{c:GM} {Q:α->Prop} {G:α->ut} {a:Nat->Nat->(Bool->Shared->Prop)->Shared->Prop} (d:∀i j,i<n->j<n->∀C:wv,C (c i j) s->a i j C s) {t:PySem.W.KasT α} (h:Jh c n t Q) (g:G (Ey c t) s):t.kasWp a G s:=by
 induction t with
 |ret _=>exact g
 |ask i j k b=>exact d i j h.1 h.2.1 _<|b _ h.2.2 g
theorem bLa{vs:cr} {P:PySem.Fin->ut} {ps:lv} (G:s.heap.get? a=some (seqObj "list" vs.toArray n)) (F:Paired (λ(x:Do) u=>Jm s.heap u x.1 x.2) ps vs) (du:vs.length<64)
  (q:∀(c:Nat)(Q:Heap),(∀b o,b≠a->s.heap.get? b=some o->Q.get? b=some o)->Q.get? a=some (seqObj "list" ((Gj ps).map λi=>vs.getD i Value.none).toArray c)->P (.done<|.ret .none) {s with heap:=Q}) :
  wpAny (model prog w) A (Builtin.«list.sort» ⟨[.ref a],[]⟩) P E s:=by
 have N:vs.length<=sizeLine:=by rw[Vm];lia
 have hl:=Paired.length F;obtain⟨e1,V⟩:∃e1,(s.heap.update a<|Obj.mapSeq λ_=>(#[])).get? a=some (seqObj "list" #[] e1):=⟨_,get?_update_seq G λ_ => #[]⟩
 have L:∀b o,b≠a->s.heap.get? b=some o->(((s.heap.update a<|Obj.mapSeq λ_=>(#[])).push<|seqObj "tuple" vs.toArray 0).push<|seqObj "list" #[] 0).get? b=some o:=λb o l e=>bc _<|bc _<|by rwa [Zy _ _ _ _ l]
 have r:(((s.heap.update a<|Obj.mapSeq λ_=>(#[])).push<|seqObj "tuple" vs.toArray 0).push<|seqObj "list" #[] 0).get? a=some (seqObj "list" #[] e1):=bc _<|bc _ V
 rw[list_sort_plain];refine qa<|listItems_at G rfl<|qa<|listUpdate_at G rfl (qa<|seqEpoch_at V rfl<|qa<|wpAny_newTuple (qa<|wpAny_newList (Ff ?_)<|Gf _)<|by exact N) (by rwa [cg])<|Gf _
 generalize ((s.heap.update a<|Obj.mapSeq λ_=>(#[])).push _).push (seqObj "list" #[] 0)=h3 at L r
 have tup:∀b o,s.heap.get? b=some o->o.cls=.type "tuple"->h3.get? b=some o:=λb o e k=>L b o (λz=>by
  rw[z,G]at e;cases e;injection k with k
  exact absurd k<|by decide) e
 have W:vs.toArray.size=vs.length:=cg;have T:((Gj ps).map λi=>vs.getD i Value.none).length=vs.length:=by rw[Gb,(xN ps).length_eq,Ut,hl]
 have D:P (.done<|.ret .none) {s with heap:=h3.update a (Obj.mapSeq λ_=>((Gj ps).map λi=>vs.getD i Value.none).toArray)}:=by
  obtain⟨R,Kr⟩:∃R,(h3.update a _).get? a=some (seqObj "list" ((Gj ps).map λi=>vs.getD i Value.none).toArray R):=⟨_,get?_update_seq r λ_=>_⟩
  exact q R _ (λb o l e=>by rw[Zy _ _ _ _ l];exact L b o l e) Kr
 dsimp only
 by_cases H:vs.toArray.size<2
 .rw[Qa H];refine qa<|Ga ?_;rw[Qa H,StateT.run_pure];refine qa<|Ga ?_;have I:(arrOf<|SortSt.mk' general' (vs.toArray.zip vs.toArray) #[] 7 none).map (·.2)=((Gj ps).map λi=>vs.getD i Value.none).toArray:=by
   apply Array.toList_inj.mp;rw[Array.toList_map,ksk_zip,List.map_snd_zip<|Ib _,List.toList_toArray];unfold Gj;rw[Qa (by lia),hl,map_range]
  have d:failedOf (SortSt.mk' general' (vs.toArray.zip vs.toArray) #[] 7 none)=none:=rfl;generalize SortSt.mk' general' (vs.toArray.zip vs.toArray) #[] 7 none=st at I d;rw[I];refine qa<|seqEpoch_at r rfl<|qa<|listUpdate_at r rfl ?_ (Gf _)<|by rw[cg,T];exact Nat.le_succ_of_le N
  rw[d];simp;exact Ga D
 rw[Ea H];have X:∀{ps:lv} {g:cr},Paired (λx u=>Jm s.heap u x.1 x.2) ps g->∃fs:cr,KatTups h3 g fs/\fs.length=g.length/\∀f∈fs,∃n t,f=.int n t:=λ{ps g} h=>by
  induction h with
  |nil=>exact⟨[],.nil,rfl,λ_ h=>nomatch h⟩
  |cons O _ M=>
   obtain⟨fs,K,S,J⟩:=M;obtain⟨b,o,t,u,m,e,l,k,Z⟩:=O;subst e;refine⟨.int _ t::fs,.cons (tup _ _ l k) k Z rfl K,by rw[dg,dg,S],λf d=>?_⟩
   rcases Mb.mp d with rfl|d
   .exact⟨_,t,rfl⟩
   exact J f d
 have U:∀{ps:lv} {g:cr},Paired (λx u=>Jm s.heap u x.1 x.2) ps g->∀i,i<g.length->Jm h3 (g.getD i Value.none) (ps.getD i (0,0)).1 (ps.getD i (0,0)).2:=λ{ps g} h=>by
  induction h with
  |nil=>exact λi B=>absurd B<|nr _
  |cons O _ M=>
   intro i B;cases i with
   |zero=>exact O.keep tup
   |succ i=>exact M i<|sP B
 obtain⟨fs,K,S,J⟩:=X F;refine qa<|kat_kind (T:=.type "int") K (by lia) (λv d=>?_) rfl ?_
 .obtain⟨n,t,rfl⟩:=J v d;exact .now
 rw[Ea H];refine qa (oi (kat_run (Q:=λst' y=>y={s with heap:=h3}/\failedOf st'=none/\(arrOf st').map (·.2)=((Gj ps).map λi=>vs.getD i Value.none).toArray) (G:=λp y=>y={s with heap:=h3}/\p=Ey (d9 ps) (PySem.W.kas_sort vs.length)) rfl (by lia) du (λp st' y _ ha d ⟨g1,g2⟩=>⟨g1,d,?_⟩)<|bIc (λi j B Y C hC=>bE2 (U F i B) (U F j Y) hC) (V0<|by lia) ⟨rfl,rfl⟩) ?_ λ_ _ z=>z)
 .rw[kat_snds rfl ha,g2];unfold Gj;rw[Ea (by lia),hl]
 rintro⟨⟨⟩,st⟩ y ⟨rfl,d,I⟩;rw[I];refine qa<|seqEpoch_at r rfl<|qa<|listUpdate_at r rfl ?_ (Gf _)<|by rw[cg,T];exact Nat.le_succ_of_le N
 rw[d];simp;exact Ga D
def u7(prog:Program)(w:World)(d:Addr)(vs:cr)(s:Shared):Prop:=∀(A:Around)(E:am)(R:Gc),A.handled=none->(∀(a:Heap)(c:Nat),(∀b o,s.heap.get? b=some o->a.get? b=some o)->R vs {s with heap:=a,toks:=c})->wpAny (model prog w) A (collect<|.ref d) R E s
theorem ü{d:Addr} {ps:lv} (col:u7 prog w d us s) (n:A.handled=none) (m:Paired (λ(x:Do) u=>Jm s.heap u x.1 x.2) ps us) (t:us.length<64)
  (q:∀(D:Addr)(f:Heap)(h:Nat)(c:Nat),(∀b o,s.heap.get? b=some o->f.get? b=some o)->(∀b o,s.heap.get? b=some o->b<D)->f.get? D=some (seqObj "list" ((Gj ps).map λi=>us.getD i Value.none).toArray c)->Q (.ref D) {s with heap:=f,toks:=h}) :
  wpAny (model prog w) A (call (.builtin "sorted") [.ref d]) Q E s:=by
 refine Calls.call_function_entry kind_sorted plain_sorted entry_sorted (args_sorted1 _)<|qa<|Ga<|qa<|col _ _ _ n λf h j=>?_
 refine qa<|wpAny_newList ?_<|by rw[Vm];lia
 have o:(f.push<|seqObj "list" us.toArray 0).get? f.objs.size=some _:=we _ rfl;have l:∀b o,s.heap.get? b=some o->(f.push<|seqObj "list" us.toArray 0).get? b=some o:=λb o e=>bc _<|j b o e
 exact qa<|Ff<|gi slot_list_sort ⟨_,o,rfl⟩ entry_list_sort (bLa o (Paired.imp' (λ_ _ p=>p.keep λa o e _=>l a o e) m) (by lia) λc v k r=>⟨_,rfl,(Ga ⟨_,rfl,q _ _ h c (λb ob g=>k b ob (zd<|Vb<|j b ob g)<|l b ob g) (λb ob g=>Vb<|j b ob g) r⟩)⟩)<|args_list_sort _
end
def bE3{w:World} (x:jF P w H h a o):∃u,h.get? a=some u:=by
 cases o with
 |lst xs=>obtain⟨_,_,_,_,e⟩:=x;exact⟨_,e⟩
 |tup xs=>obtain⟨_,_,_,o,e,_⟩:=x;exact⟨_,e⟩
 |dK b=>obtain⟨_,_,_,_,o,_,_,e,_⟩:=x;exact⟨_,e⟩
 |dT b=>obtain⟨_,_,_,_,o,_,_,e,_⟩:=x;exact⟨_,e⟩
 |set S n=>obtain⟨o,_,_,_,e,_⟩:=x;exact⟨_,e⟩
 |ins C i fs=>obtain⟨_,_,_,e,_⟩:=x;exact⟨_,e⟩
 |own y=>obtain⟨_,e⟩:=x;exact⟨_,e⟩
 |xd fs=>obtain⟨_,⟨_,_,_,e,_⟩,_⟩:=x;exact⟨_,e⟩
 |Uo lo g=>obtain⟨_,_,_,e⟩:=x;exact⟨_,e⟩
 |fg ob u=>obtain⟨e,_⟩:=x;exact⟨_,e⟩
 |lm d=>exact⟨_,(x)⟩
 |met f y=>exact⟨_,(x)⟩
 |ext c=>obtain⟨_,⟨_,e⟩,_⟩:=x;exact⟨_,e⟩
section
variable {a:Expr}
theorem u6{H:Hp}:∀{e:pi} {ps:be} {l:lv},Dl H e ps->(e.map λp=>D.tup<|p.1.map jM)=l.map pD->Paired (λ(x:Do) a=>H a=some (.tup [.int x.1,.int x.2])) l ps
 |_,_,[],.nil,_=>.nil
 |_,_,_::_,.nil,h=>nomatch h
 |_,_,[],.cons _ _,h=>nomatch h
 |f::_,_,x::l,.cons i t,h=>by
  injection h with b g
  refine .cons ?_<|u6 t g;rw[i];injection b with b
  match q:f.1,b with
  |[],b=>simp at b
  |[_],b=>simp at b
  |d::c::[],b=>
   simp at b;obtain⟨e1,e2⟩:=b;rcases d with o|k
   .rcases c with n|j
    .injection e1 with e1
     injection e2 with e2
     rw[<-e1,<-e2];rfl
    exact nomatch (show D.str _=D.int _ from e2)
   exact nomatch (show D.str _=D.int _ from e1)
  |d::c::m::r,b=>simp at b
theorem X3(ps:be):∀is:ac,Ca (is.map λi=>(ps.map V.ref).getD i .Hb) (is.map λi=>(ps.map Value.ref).getD i Value.none)
 |[]=>.nil
 |i::is=>by
  refine .cons ?_<|X3 ps is;dsimp only
  by_cases h:i<ps.length
  .rw[kh,kh,Fi,Fi,Zc h];rfl
  rw[kh,kh,Fi,Fi,Xq (by lia)]
  rfl
theorem QL{K:Frag}{H:Hp}{l:lv}{ps:be}(h:∀i,i<l.length->∃a,ps[i]?=some a/\H a=some (.tup [.int (l.getD i (0,0)).1,.int (l.getD i (0,0)).2])):∀is:ac,(∀i∈is,i<l.length)->bA K H ((is.map λi=>l.getD i (0,0)).map pD) (is.map λi=>(ps.map V.ref).getD i .Hb)
 |[],_=>.nil
 |i::is,b=>by
  obtain⟨a,e,d⟩:=h i<|b i Cb;refine .cons (lC.mpr ⟨a,_,?_,d,.cons (bC.mpr rfl)<|.cons (bC.mpr rfl) .nil⟩)<|QL h is λi c=>b i<|Kb _ c
  dsimp only;rw[kh,Fi,e];rfl
theorem OZ(w:X.calm=true) {A:L2.St} {p:Addr} {l:lv} {ps:be} {Q:VK} (I:ya X aa A H s) (pr:Paired (λ(x:Do) a=>H a=some (.tup [.int x.1,.int x.2])) l ps) (N:l.length<64) (col:u7 X.prog X.w p (ps.map Value.ref) s) (q:∀n,H n=none->Q (.ref n) (Ra H n<|.lst<|(Gj l).map λi=>(ps.map V.ref).getD i .Hb)) :
  wpAny (model X.prog X.w) X.A (call (.builtin "sorted") [.ref p]) (λu s1=>∃x F,ya X aa A F s1/\RelV x u/\Q x F) X.xe s:=by
 have y:∀{l:lv} {ps:be},Paired (λx a=>H a=some (.tup [.int x.1,.int x.2])) l ps->Paired (λx u=>Jm s.heap u x.1 x.2) l (ps.map Value.ref):=λ{l ps} h=>by
  induction h with
  |nil=>exact .nil
  |cons P _ M=>
   refine .cons ?_ M;obtain⟨L,f,⟨o,j,w,n,k⟩,_⟩:=I.tuple<|ig.of P;cases f with
   |cons K f=>cases f with
    |cons J f=>
     cases f;obtain⟨t,rfl⟩:=K;obtain⟨G,rfl⟩:=J;exact⟨_,o,t,G,n,rfl,j,w,k⟩
 refine ü col (I.ok.hd w) (y pr) (by rw[Gb,<-Paired.length pr];exact N) λD U T c g C k=>?_
 have E:H D=none:=by
  cases O:H D with
  |none=>rfl
  |some o=>
   obtain⟨u,e⟩:=bE3<|I.Ia D o O;exact absurd (C D u e)<|Gh _
 have d:aX H (Ra H D<|.lst<|(Gj l).map λi=>(ps.map V.ref).getD i .Hb):=bL E
 refine⟨.ref D,_,I.step (ch:=[]) (λ_ z=>nomatch z) (λb o _ _ _ e _=>g b o e) (λb o _ _ _ e _=>⟨o.slots,g b o e⟩) (λb o _ e n=>by rwa [aK<|zd<|C b o e]) (λb o _ e=>⟨o,g b o e⟩) (λb xs e=>d _ _ e) (λb o u e=>d _ _ e) (λb ps e=>⟨#[],by rw[d _ _ e];simp⟩) (λm ⟨o,R,S,j,r⟩=>⟨o,R,S,g _ o j,r⟩) (λb o e=>?_) I.bare,rfl,q _ E⟩
 by_cases B:b=D
 .subst B;rw[bB]at e;cases e;exact⟨by rw[Gb,(xN l).length_eq,Ut,Vm];lia,_,c,X3 ps _,k⟩
 rw[aK B]at e;exact(I.Ia b _ e).Pe (λb v _ q=>g b v q) (λb q=>d _ _ q) λb xs q=>d _ _ q
theorem ł(w:X.calm=true):jY X (.builtin "sorted") (λxs H Q=>∃(p:Addr) (b:pi) (l:lv),xs=[.ref p]/\H p=some (.dT b)/\(b.map λp=>D.tup<|p.1.map jM)=l.map pD/\l.length<64/\∀n ps,H n=none->Paired (λ(x:Do) a=>H a=some (.tup [.int x.1,.int x.2])) l ps->Q (.ref n) (Ra H n<|.lst<|(Gj l).map λi=>(ps.map V.ref).getD i .Hb)):=by
 intro J s σ H xs e Q I r h;obtain⟨p,b,l,rfl,o,t,c,q⟩:=h;obtain⟨u,rfl,g⟩:=vals1 r;cases g;obtain⟨F,m,z,G,ps,v,B,d⟩:=t7 I.Ia o;have pr:=u6 B t;have C:z.size=l.length:=by
  have:=congrArg List.length d;rw[Gb,Gb,Dt]at this;rw[this,(Paired.length pr)]
 refine OZ w I pr c (λA E R hh h=>?_) λn c=>q n ps c pr
 refine bIb (W3 m) hh v (by rw[Vm];lia) λy f e j k=>?_
 rw[NZ d j];exact h y f k
def bId(z:X.mg "sorted"=none)(E:X.calm=true)(G:PE X a (tI X.K B f))(C:Gl X "sorted":=by rfl)(s:vf a [] X.env:=by rfl):PE X (.Call (.Name "sorted" p0) [a] [] pos) (tF X.K B<|e1 Rv f):=by
 refine cF (lZ (ł E) C z bP (bW G dW s) (he:=s)) ?_
 rintro σ H Q ⟨A,st,d,r,D,q⟩;obtain⟨x,w,k⟩:=R.ua D;refine⟨A,st,x,r,w,λv H1 s1 r1=>?_⟩
 unfold Rv at k;split at k
 .obtain⟨l,hl,I⟩:=R.ua k;obtain⟨c,o⟩:=aM I;cases o;obtain⟨p,K,rfl,o,L⟩:=qH.mp r1;rcases o with ⟨m,_⟩|⟨_,u,m,rfl,rfl⟩
  .cases m
  refine⟨p,u,l,rfl,aQ _ _ _ _ m,AM hl,c,λn j y hp=>q n _ H1 s1 y<|QL (λi g=>?_) _ λi g=>Vi.mp<|(xN l).mem_iff.mp g⟩
  have:∀{l:List _}{j:be},Paired (λx a=>H1 a=some (.tup [.int x.1,.int x.2])) l j->∀i,i<l.length->∃a,j[i]?=some a/\H1 a=some (.tup [.int (l.getD i (0,0)).1,.int (l.getD i (0,0)).2]):=λ{l j} h=>by
   induction h with
   |nil=>exact λi g=>absurd g<|nr _
   |cons J _ t=>
    intro i g;cases i with
    |zero=>exact⟨_,rfl,J⟩
    |succ i=>exact t i<|sP g
  obtain⟨b,e,F⟩:=this hp i g;exact⟨b,e,by rwa [cN<|(r.own.mono s1).tup F]⟩
 cases k
theorem Y3{K:Frag}{H:Hp}:∀{l:lv} {vs:ss},bA K H (l.map pD) vs->∃ps:be,vs=ps.map V.ref/\Paired (λ(x:Do) a=>H a=some (.tup [.int x.1,.int x.2])) l ps
 |[],_,h=>⟨[],cC.mp h,.nil⟩
 |x::l,_,h=>by
  obtain⟨v,r,rfl,k,j⟩:=bG.mp h;obtain⟨a,m,rfl,b,e⟩:=lC.mp k;obtain⟨o,q,rfl,d,i⟩:=bG.mp e;obtain⟨n,p,rfl,c,g⟩:=bG.mp i;rw[cC.mp g,bC.mp d,bC.mp c]at b;obtain⟨ps,rfl,f⟩:=Y3 j;exact⟨a::ps,rfl,.cons b f⟩
theorem PZ:∀{ps:be}{a:cr},Ca (ps.map V.ref) a->a=ps.map Value.ref
 |[],_,.nil=>rfl
 |_::_,_,.cons h t=>by
  rw[PZ t];cases h;rfl
def Ń(t:X.calm=true):jY X (.builtin "sorted") (λxs H Q=>∃(p:Addr)(ps:be) (l:lv),xs=[.ref p]/\Pc X.K H p (ps.map V.ref)/\Paired (λ(x:Do) a=>H a=some (.tup [.int x.1,.int x.2])) l ps/\l.length<64/\∀n,H n=none->Q (.ref n) (Ra H n<|.lst<|(Gj l).map λi=>(ps.map V.ref).getD i .Hb)):=by
 intro B s σ H xs w Q I r h;refine yd λv=>?_
 obtain⟨p,ps,l,rfl,k,pr,m,q⟩:=h;obtain⟨u,rfl,d⟩:=vals1 r;cases d;obtain⟨j,f,g,c⟩:=I.list k;have e:=PZ f;subst e;refine v ?_
 refine OZ t I pr m (λA E R y h=>collect_list g.isList ?_<|by rw[Gb]at c ⊢; exact c) q
 exact h _ s.toks λb o z=>by
  rw[Zy _ _ _ _<|zd<|Vb z];exact bc _ z
def bIe(w:X.mg "sorted"=none)(D:X.calm=true)(E:PE X a (tP X.K B f))(y:Gl X "sorted":=by rfl)(m:vf a [] X.env:=by rfl):PE X (.Call (.Name "sorted" p0) [a] [] pos) (tI X.K B<|e1 AN f):=by
 refine cF (lZ (Ń D) y w bP (bW E dW m) (he:=m)) ?_
 rintro σ H Q ⟨A,st,d,j,C,q⟩;obtain⟨x,u,r⟩:=R.ua C;cases x<;>first|(cases r;done)|skip
 rename_i xs;obtain⟨l,hl,I⟩:=R.ua r;obtain⟨c,G⟩:=aM I;cases G;refine⟨A,st,_,j,u,λv H1 s1 r1=>?_⟩
 obtain⟨p,K,e,F,k⟩:=r1.lst;rw[AM hl]at k;obtain⟨b,rfl,pr⟩:=Y3 k;have s:∀{l:lv} {b:be},Paired (λx a=>hide (A++B) H1 a=some (.tup [.int x.1,.int x.2])) l b->Paired (λx a=>H1 a=some (.tup [.int x.1,.int x.2])) l b:=λh=>Paired.imp' (λ_ _ z=>aQ _ _ _ _ z) h
 refine⟨p,b,l,by rw[e],F,s pr,c,λn o=>q _ _ (s1.trans<|bL o)<|fB (j.own.mono s1) o ?_⟩
 refine QL (λi g=>?_) _ λi g=>Vi.mp<|(xN l).mem_iff.mp g
 have:∀{l:lv} {b:be},Paired (λx a=>hide (A++B) H1 a=some (.tup [.int x.1,.int x.2])) l b->∀i,i<l.length->∃a,b[i]?=some a/\hide (A++B) H1 a=some (.tup [.int (l.getD i (0,0)).1,.int (l.getD i (0,0)).2]):=λ{l b} h=>by
  induction h with
  |nil=>exact λi g=>absurd g<|nr _
  |cons J _ t=>
   intro i g;cases i with
   |zero=>exact⟨_,rfl,J⟩
   |succ i=>exact t i<|sP g
 exact this pr i g
end
open Builtin
abbrev jw(h:Heap)(z TI TO a:Addr)(f:Bool):Prop:=h.get? z=some {cls:=.type "zip",dict:=none,data:=.fields #[rawInt a,.bool f,.bool false,.ref TI,.ref TO],slots := #[]}
section
variable{w:World}{A:Around} {z TI TO i1 i2 l2:Addr} {f:Bool} {k:Nat} {xs:xL} {x:Value}
def Z3{Q:wv}(c:jw s.heap z TI TO a f)(g:s.heap.get? a=some oa)(q:∀d,jw d z TI TO a true->Heap.SameBut z s.heap d->Q false {s with heap:=d}):wpAny (model prog w) A (Builtin.SmallTypes.ownedTupleIsFree<|.ref z) Q E s:=by
 refine qa<|Wi c rfl rfl<|((qa<|PySem.W.kdx_alive g<|qa<|Wi c rfl (x:=.bool f) rfl ?_):wpAny _ _ _ _ _ _);cases f with
 |true=>
  exact qa<|Ga<|Ga<|q s.heap c<|Heap.SameBut.refl _ _
 |false=>
  refine qa<|Et c (by simp) λh e b=>Ga<|q h e b
def bE4(j:jw s.heap z TI TO a f)(B:s.heap.get? a=some oa)(K:IsPair s.heap TI (.ref i1) (.ref i2))(F:s.heap.IsListIter i1 l1 k)(C:s.heap.IsListIter i2 l2 k)(J:s.heap.IsList l1 xs)(m:s.heap.IsList l2 ys)(u:xs[k]?=some x)(t:ys[k]?=some y)(D:ZipApart z TI TO i1 i2 l1 l2)
  (q:∀h,jw h z TI TO a true->h.IsListIter i1 l1 (k+1)->h.IsListIter i2 l2 (k+1)->IsPair h s.heap.objs.size x y->h.objs.size=s.heap.objs.size+1->(∀c o,c≠z->c≠i1->c≠i2->s.heap.get? c=some o->h.get? c=some o)->Q (.ref s.heap.objs.size) {s with heap:=h}) :
  wpAny (model prog w) A (Builtin.«zip.__next__» ⟨[.ref z],[]⟩) (λl n=>∃v,l=.done (.ret v)/\Q v n) E s:=by
 show wpAny _ _ (field _ 2 >>= _) _ _ _;refine qa<|Wi j rfl (x:=.bool false) rfl<|qa<|Wi j rfl rfl<|qa<|Sj K rfl<|qa<|Z3 j B λO r b=>qa<|qa<|qa<|Ff<|qa<|EG (F.extBut b.extBut D.i1z) (J.extBut b.extBut D.l1z) u λN p d=>Ga<|Ga<|qa<|qa<|Ff<|qa<|EG ((C.extBut b.extBut D.i2z).extBut d.extBut D.i12.symm) ((m.extBut b.extBut D.l2z).extBut d.extBut D.l2i1) t λM L g=>Ga<|Ga<|Ga ?_
 have i:M.objs.size=s.heap.objs.size:=by rw[g.1,d.1,b.1]
 refine qa<|wpAny_newTuple (Ga ⟨_,rfl,?_⟩)<|by show 2<=sizeLine;decide
 rw[i];exact q _ (bc _<|g.extBut _ _ D.i2z.symm<|d.extBut _ _ D.i1z.symm r) ((p.extBut g.extBut D.i12).at λo e=>bc _ e) (L.at λo e=>bc _ e) (by rw[<-i];exact we _ rfl) (by rw[Hi,i]) λc o I H G e=>bc _<|g.extBut _ _ G<|d.extBut _ _ H<|b.extBut _ _ I e
def bIf{Q:PySem.Fin->ut}(p:A.handled=none)(h:jw s.heap z TI TO a f)(v:s.heap.get? a=some oa)(C:IsPair s.heap TI (.ref i1) (.ref i2))(r:s.heap.IsListIter i1 l1 k)(y:s.heap.IsListIter i2 l2 k)(t:s.heap.IsList l1 xs)(u:s.heap.IsList l2 ys)(he:xs[k]?=none\/ys[k]?=none)(D:ZipApart z TI TO i1 i2 l1 l2)
  (q:∀j e,(∀c o,c≠z->c≠i1->c≠i2->s.heap.get? c=some o->j.get? c=some o)->(∃o,j.get? e=some o/\o.cls=.type "StopIteration")->E (.ref e) {s with heap:=j}) :
  wpAny (model prog w) A (Builtin.«zip.__next__» ⟨[.ref z],[]⟩) Q E s:=by
 show wpAny _ _ (field _ 2 >>= _) _ _ _;refine qa<|Wi h rfl (x:=.bool false) rfl<|qa<|Wi h rfl rfl<|qa<|Sj C rfl<|qa<|Z3 h v λI H b=>?_
 simp only[Bool.false_eq_true,if_false];rw[<-Array.forIn_toList];simp only[forIn_cons,forIn_nil];refine qa<|qa<|qa<|Ff ?_;cases i:xs[k]? with
 |none=>exact qa<|HG p (r.extBut b.extBut D.i1z) (t.extBut b.extBut D.l1z) i λn e d he=>q n e (λc o m l _ x=>(d) _ _ l<|b.extBut _ _ m x) he
 |some x=>
  exact qa<|EG (r.extBut b.extBut D.i1z) (t.extBut b.extBut D.l1z) i λn G d=>Ga<|Ga<|qa<|qa<|Ff<|qa<|HG p ((y.extBut b.extBut D.i2z).extBut d.extBut D.i12.symm) ((u.extBut b.extBut D.l2z).extBut d.extBut D.l2i1) (he.resolve_left<|by rw[i];exact nofun) λF e g he=>q F e (λc o m l B x=>(g) _ _ B<|d.extBut _ _ l<|b.extBut _ _ m x) he
end
open Builtin
def jo(h:Heap)(z TI TO:Addr):Prop:=IsZip h z TI TO .none\/∃a f,jw h z TI TO a f
def jo.ob{z TI TO:Addr}(x:jo h z TI TO):∃c b,Sy h z TI TO c b:=by
 rcases x with x|⟨a,f,x⟩
 .exact⟨_,_,x⟩
 exact⟨_,_,x⟩
def jo.keep{z TI TO:Addr}(x:jo h z TI TO)(k:∀o,h.get? z=some o->h'.get? z=some o):jo h' z TI TO:=by
 rcases x with x|⟨a,f,x⟩
 .exact .inl (k _ x)
 exact .inr ⟨a,f,k _ x⟩
section
variable{w:World}{A:Around} {z TI TO i1 i2 l2:Addr} {k:Nat} {xs:xL} {x:Value}
def Fc.two(D:Fc z TI TO i1 i2 l2 [i1,l1])(a:l1≠i1):ZipApart z TI TO i1 i2 l1 l2:=
 ⟨D.TIz,D.TOz,D.i1z,D.i2z,D.TITO,D.TIi1,D.TIi2,D.TOi1,D.TOi2,D.i12,λe=>D.zf (by simp[e]),λe=>D.Tf (by simp[e]),a,λe=>D.Q9 (by simp[e]),D.lz,D.xI,D.zI,D.U9⟩
def PX(c:Sy s.heap z TI TO (rawInt a) f1)(d:s.heap.get? a=none)(Q:wv)(q:Q true s):wpAny (model prog w) A (Builtin.SmallTypes.ownedTupleIsFree<|.ref z) Q E s:=by
 refine qa<|Wi c rfl rfl<|(?_:wpAny _ _ _ _ _ _);have b:∀{R:Option Obj->Shared->Prop},R none s->wpAny (model prog w) A (loadIfAlive a) R E s:=λ{R} h=>by
  have e:R (s.heap.get? a) s:=by rwa [d]
  exact λ_ _ _=>e
 exact qa<|b<|Ga q
def d4(F:A.handled=none)(g:jo s.heap z TI TO)(B:IsPair s.heap TI (.ref i1) (.ref i2))(i:∃u v,IsPair s.heap TO u v)(r:s.heap.IsListIter i1 l1 k)(p:s.heap.IsListIter i2 l2 k)(t:s.heap.IsList l1 xs)(j:s.heap.IsList l2 ys)(n:xs[k]?=some x)(m:ys[k]?=some y)(D:Fc z TI TO i1 i2 l2 [i1,l1])(l:l1≠i1)
  (q:∀b h,jo b z TI TO->(∃u v,IsPair b TO u v)->b.IsListIter i1 l1 (k+1)->b.IsListIter i2 l2 (k+1)->IsPair b s.heap.objs.size x y->(∀c o,c≠z->c≠TO->c≠i1->c≠i2->s.heap.get? c=some o->b.get? c=some o)->Q (.ref s.heap.objs.size) {s with heap:=b,toks:=h}) :
  wpAny (model prog w) A (Builtin.«zip.__next__» ⟨[.ref z],[]⟩) (λd I=>∃v,d=.done (.ret v)/\Q v I) E s:=by
 obtain⟨Y,X,i⟩:=i;have d:∀b h v,xs[k]?=some v->IsZip b z TI TO (rawInt s.heap.objs.size)->IsPair b TO v y->(b.IsListIter i1 l1 (k+1)/\b.IsList l1 xs)->b.IsListIter i2 l2 (k+1)->IsPair b s.heap.objs.size v y->b.objs.size=s.heap.objs.size+1->(∀c o,c≠z->c≠TO->c≠i1->c≠i2->s.heap.get? c=some o->b.get? c=some o)->Q _ {s with heap:=b,toks:=h}:=λb h v e W V U T S _ R=>by
  rw[n]at e;cases e;exact q b h (.inr ⟨_,_,W⟩) ⟨_,_,V⟩ U.1 T S R
 have C:=(vt.mp n).1;rcases g with g|⟨a,f,g⟩
 .exact JK (yz F i1 l1 l xs) D g (zM g) B i ⟨r,t⟩ C p j m d
 cases G:s.heap.get? a with
 |none=>exact JK (yz F i1 l1 l xs) D g (PX g G) B i ⟨r,t⟩ C p j m d
 |some Z=>exact bE4 g G B r p t j n m (D.two l) λb P O N M _ H=>q b s.toks (.inr ⟨_,_,P⟩) ⟨_,_,H TO _ D.TOz D.TOi1 D.TOi2 i⟩ O N M λc o L _ K J e=>H c o L K J e
def A6{Q:PySem.Fin->ut}(g:A.handled=none)(d:jo s.heap z TI TO)(r:IsPair s.heap TI (.ref i1) (.ref i2))(h:∃u v,IsPair s.heap TO u v)(n:s.heap.IsListIter i1 l1 k)(m:s.heap.IsListIter i2 l2 k)(p:s.heap.IsList l1 xs)(i:s.heap.IsList l2 ys)(he:xs[k]?=none\/ys[k]?=none)(D:Fc z TI TO i1 i2 l2 [i1,l1])(j:l1≠i1)
  (q:∀b e B,(∀c o,c≠z->c≠TO->c≠i1->c≠i2->s.heap.get? c=some o->b.get? c=some o)->(∃o,b.get? e=some o/\o.cls=.type "StopIteration")->E (.ref e) {s with heap:=b,toks:=B}) :
  wpAny (model prog w) A (Builtin.«zip.__next__» ⟨[.ref z],[]⟩) Q E s:=by
 obtain⟨L,K,h⟩:=h;have y:(∀(s:Shared)(Q:am)(E:am),(s.heap.IsListIter i1 l1 k/\s.heap.IsList l1 xs)->(∀b e,Heap.ExtBut i1 s.heap b->(∃o,b.get? e=some o/\o.cls=.type "StopIteration")->E (.ref e) {s with heap:=b})->wpAny (model prog w) A (Builtin.SmallTypes.nextOf<|.ref i1) Q E s)\/(k<xs.size/\ys[k]?=none):=by
  cases l:xs[k]? with
  |none=>exact .inl λs Q E st C=>KZ g st.1 st.2 l C
  |some x=>exact .inr ⟨(vt.mp l).1,he.resolve_left<|by rw[l];exact nofun⟩
 rcases d with d|⟨a,f,d⟩
 .exact OL (yz g i1 l1 j xs) g D d (zM d) r h ⟨n,p⟩ m i y q
 cases t:s.heap.get? a with
 |none=>exact OL (yz g i1 l1 j xs) g D d (PX d t) r h ⟨n,p⟩ m i y q
 |some M=>exact bIf g d t r n m p i he (D.two j) λb e J I=>q b e s.toks (λc o H _ G F x=>J c o H G F x) I
end
def ń{w:World}{K:Frag} {np:Pos} (N a z TI TO f g:Addr) (D:Fc z TI TO f g a [f,N]) (ne:N≠f) :
  Turn P w K (.Name nx np) (VO K N a) [z,TI,TO,f,g] z (λi h=>jo h z TI TO/\IsPair h TI (.ref f) (.ref g)/\(∃u v,IsPair h TO u v)/\h.IsListIter f N i/\h.IsListIter g a i) where
 mem:=by simp
 obj:=λi h st b d=>by
  obtain⟨r,F,⟨u,v,y⟩,⟨o1,q1,c1,d1⟩,⟨o2,q2,c2,d2⟩⟩:=st;obtain⟨v0,v1,r⟩:=r.ob;simp only[mem_cons,not_mem_nil,or_false]at d;rcases d with rfl|rfl|rfl|rfl|rfl
  .exact⟨_,r,λv z=>by cases z⟩
  .exact⟨_,F,λv z=>by cases z⟩
  .exact⟨_,y,λv z=>by cases z⟩
  .exact⟨o1,q1,λv z=>by rw[d1]at z;cases z⟩
  .exact⟨o2,q2,λv z=>by rw[d2]at z;cases z⟩
 keep:=λi h B st k=>by
  obtain⟨r,F,⟨u,v,y⟩,M,L⟩:=st;exact⟨r.keep λo e=>k z (by simp) o e,k TI (by simp) _ F,⟨u,v,k TO (by simp) _ y⟩,M.at λo x=>k f (by simp) o x,L.at λo x=>k g (by simp) o x⟩
 item:=by
  intro X hP hw hK hc i aa s σ H E I V st hg;subst hP hw hK;obtain⟨r,F,y,M,L⟩:=st;obtain⟨v0,v1,Ro⟩:=r.ob;obtain⟨xs1,W,xs,x,Z,Xk,Y,j⟩:=hg;obtain⟨aq,yT,p1,_⟩:=I.list Z;obtain⟨c,cS,LB⟩:=yT.get Xk;obtain⟨its,rv,p,_⟩:=I.list Y;obtain⟨u,hu,ru⟩:=rv.get j;have t:∀b∈[z,TI,TO,f,g],H b=none:=λb d=>(V b d).1
  have J:H s.heap.objs.size=none:=I.Ia.fresh<|Ib _;have S:s.TypeIs (.ref z) "zip":=⟨_,Ro,rfl⟩;have hh:=I.ok.hd hc;unfold pyNext;refine qa<|Dk (Ll (name:=ofString "__next__") S Bk
   (gi Bk S tw
    (d4 (A:=X.A.in1) hh r F y M L p1.isList p.isList (x:=c) (y:=u) (by simpa using cS) (by simpa using hu) D ne λB tk N a2 a3 a4 a5 hk=>wpAny_pure ?_) (PySem.F.args_zip_next_1 _)))
  refine⟨_,rfl,(Ga ?_:wpAny _ _ (pure ()) _ _ _)⟩;have nT:∀b l,H b=some l->b≠s.heap.objs.size:=λb l q=>aN q J
  have nx:∀b l,H b=some l->b≠z/\b≠TO/\b≠f/\b≠g:=λb l q=>⟨aN q<|t z<|by simp,aN q<|t TO<|by simp,aN q<|t f<|by simp,aN q<|t g<|by simp⟩
  have A:∀b:Addr,b∉[z,TI,TO,f,g]->b≠z/\b≠TO/\b≠f/\b≠g:=λb d=>⟨λq=>d (by simp[q]),λq=>d (by simp[q]),λq=>d (by simp[q]),λq=>d<|by simp[q]⟩
  have U:∀b o,s.heap.get? b=some o->b≠s.heap.objs.size:=λb o q=>zd<|Vb q
  have G:∀b o,b∉[z,TI,TO,f,g]->s.heap.get? b=some o->B.get? b=some o:=λb o d q=>hk b o (A b d).1 (A b d).2.1 (A b d).2.2.1 (A b d).2.2.2 q
  have un:Un (Of X.stack) [z,TI,TO,f,g] H (Ra H s.heap.objs.size<|.tup [W,x]) s.heap B:=
   ⟨λb o q n d j=>G b o j q,λb o q n d j=>⟨o.slots,G b o j q⟩,λb o q n j=>by rw[aK<|U b o q];exact n,λb o q j=>⟨o,G b o j q⟩,λb R q=>by rw[aK<|nT b _ q];exact q,λb o l q=>by rw[aK<|nT b _ q];exact q,λb ps q=>⟨#[],by rw[aK<|nT b _ q,FH];exact q⟩⟩
  have Ia:de X.prog X.w (Ra H s.heap.objs.size<|.tup [W,x]) B:=λb l q=>by
   by_cases d:b=s.heap.objs.size
   .subst d;rw[bB]at q;cases q;exact⟨show 2<=sizeLine by decide,[c,u],.cons LB<|.cons ru .nil,_,a5,rfl,_,rfl⟩
   .rw[aK d]at q;refine(I.Ia b l q).Pe (λc v Kh m=>?_) (λc m=>by rw[aK<|nT c _ m];exact m) λc R m=>by rw[aK<|nT c _ m];exact m
    have:∃T,H c=some T:=by
     rcases Kh with z|z
     .exact⟨l,by rw[z];exact q⟩
     .exact⟨_,z⟩
    obtain⟨T,O⟩:=this;obtain⟨e1,e2,e3,e4⟩:=nx c _ O;exact hk c v e1 e2 e3 e4 m
  have I2:ya X aa σ (Ra H s.heap.objs.size<|.tup [W,x]) {s with heap:=B,toks:=tk}:=I.call (g':=s.gens) (t':=tk) (d':=s.drawn) (ch:=[z,TI,TO,f,g]) un Ia I.bare λb d=>by
   have C:=V b d;exact⟨C.2.2.2.1,C.2.1,C.2.2.2.2.1,C.2.2.2.2.2⟩
  refine⟨.ref s.heap.objs.size,_,I2,rfl,⟨_,W,x,rfl,J,λR hy=>by rw[I.Ld hy Z];exact Xk,rfl,λR hy=>by rw[I.Ld hy Y];exact j⟩,⟨N,hk _ _ D.TIz D.TITO D.TIi1 D.TIi2 F,a2,a3,a4⟩,λb d=>?_⟩
  have hbs:∃o,s.heap.get? b=some o:=by
   simp only[mem_cons,not_mem_nil,or_false]at d;obtain⟨_,_,y⟩:=y;obtain⟨o1,q1,_⟩:=M;obtain⟨o2,q2,_⟩:=L;rcases d with rfl|rfl|rfl|rfl|rfl
   .exact⟨_,Ro⟩
   .exact⟨_,F⟩
   .exact⟨_,y⟩
   .exact⟨_,q1⟩
   .exact⟨_,q2⟩
  obtain⟨o,q⟩:=hbs;rw[aK<|U b o q];exact t b d
 done:=by
  intro X hP hw hK hc i aa s σ H E I V st hg;subst hP hw hK;obtain⟨r,F,y,M,L⟩:=st;obtain⟨v0,v1,Ro⟩:=r.ob;obtain⟨xs1,xs,Z,Y,j⟩:=hg;obtain⟨aq,yT,p1,_⟩:=I.list Z;have Xj:=yT.length;obtain⟨its,rv,p,_⟩:=I.list Y;have hl:=rv.length;have S:s.TypeIs (.ref z) "zip":=⟨_,Ro,rfl⟩;have hh:=I.ok.hd hc;unfold pyNext;refine qa<|Dk (Ll (name:=ofString "__next__") S Bk
   (gi Bk S tw
    (A6 (A:=X.A.in1) hh r F y M L p1.isList p.isList (by
     rcases j with j|j
     .exact .inl (by simp;omega)
     .exact .inr (by simp;omega)) D ne λB e tk hk he=>?_) (kG _)))
  obtain⟨o,ho,Fn⟩:=he;refine qa<|Mt (T:="StopIteration") (b:=true) ⟨o,ho,Fn⟩ zw ?_;refine Ga ⟨rfl,?_⟩;have t:∀b∈[z,TI,TO,f,g],H b=none:=λb d=>(V b d).1
  have A:∀b:Addr,b∉[z,TI,TO,f,g]->b≠z/\b≠TO/\b≠f/\b≠g:=λb d=>⟨λq=>d (by simp[q]),λq=>d (by simp[q]),λq=>d (by simp[q]),λq=>d<|by simp[q]⟩
  have G:∀b o,b∉[z,TI,TO,f,g]->s.heap.get? b=some o->B.get? b=some o:=λb o d q=>hk b o (A b d).1 (A b d).2.1 (A b d).2.2.1 (A b d).2.2.2 q
  have un:Un (Of X.stack) [z,TI,TO,f,g] H H s.heap B:=
   ⟨λb o q n d j=>G b o j q,λb o q n d j=>⟨o.slots,G b o j q⟩,λb o q n j=>n,λb o q j=>⟨o,G b o j q⟩,λb R q=>q,λb o l q=>q,λb ps q=>⟨#[],by rw[FH];exact q⟩⟩
  have Ia:de X.prog X.w H B:=λb l q=>by
   refine(I.Ia b l q).Pe (λc v Kh m=>?_) (λc m=>m) λc R m=>m
   have:∃T,H c=some T:=by
    rcases Kh with z|z
    .exact⟨l,by rw[z];exact q⟩
    .exact⟨_,z⟩
   obtain⟨T,O⟩:=this;exact hk c v (aN O<|t z<|by simp) (aN O<|t TO<|by simp) (aN O<|t f<|by simp) (aN O<|t g<|by simp) m
  exact I.call (g':=s.gens) (t':=tk) (d':=s.drawn) (ch:=[z,TI,TO,f,g]) un Ia I.bare λb d=>by
   have C:=V b d;exact⟨C.2.2.2.1,C.2.1,C.2.2.2.2.1,C.2.2.2.2.2⟩
 self:=λ_ i s Q E st h=>by
  obtain⟨v0,v1,r⟩:=st.1.ob;have J:s.TypeIs (.ref z) "zip":=⟨_,r,rfl⟩;refine dz J IG<|gi IG J T8 ?_<|N8 _;refine(?_:wpAny _ _ (ret<|.ref z) _ _ s);exact Ga ⟨_,rfl,"zip",_,J,Bk.lookup,h⟩
end Pu
namespace Pu
open PySem PySem.Calls PyProof.Rows PySem.Spec
open Builtin
section
variable{prog:Program}{w:World}{A:Around}{E:am}{s:Shared}{z TI TO i1 i2 l1 l2 S:Addr}{xs ys:xL}
structure ZW(h:Heap)(z TI TO i1 i2 l1 l2 S:Addr)(xs ys:xL)(k:Nat):Prop where
 st:jo h z TI TO
 ti:IsPair h TI (.ref i1) (.ref i2)
 to:∃u v,IsPair h TO u v
 a:h.IsListIter i1 l1 k
 b:h.IsListIter i2 l2 k
 la:h.IsList l1 xs
 lb:h.IsList l2 ys
theorem ZW.keep{h c:Heap}{k:Nat}(x:ZW h z TI TO i1 i2 l1 l2 S xs ys k)(a:S∉[z,TI,TO,i1,i2,l1,l2])(kp:∀b o,b≠S->h.get? b=some o->c.get? b=some o):ZW c z TI TO i1 i2 l1 l2 S xs ys k:=by
 simp at a;obtain⟨s1,l,j,i,g,f,d⟩:=a;obtain⟨u,v,t⟩:=x.to;exact⟨x.st.keep λo e=>kp z o (bf s1) e,kp _ _ (bf l) x.ti,⟨u,v,kp _ _ (bf j) t⟩,x.a.at λo e=>kp _ o (bf i) e,x.b.at λo e=>kp _ o (bf g) e,x.la.at λo e=>kp _ o (bf f) e,x.lb.at λo e=>kp _ o (bf d) e⟩
def bE5{k:Nat}{x:Value}{Q:v6}(i:A.handled=none)(W:ZW s.heap z TI TO i1 i2 l1 l2 S xs ys k)(D:Fc z TI TO i1 i2 l2 [i1,l1])(f:l1≠i1)(h:xs[k]?=some x)(g:ys[k]?=some y)
  (q:∀a b,ZW a z TI TO i1 i2 l1 l2 S xs ys (k+1)->IsPair a s.heap.objs.size x y->(∀c o,c≠z->c≠TO->c≠i1->c≠i2->s.heap.get? c=some o->a.get? c=some o)->Q (some<|.ref s.heap.objs.size) {s with heap:=a,toks:=b}):wpAny (model prog w) A (pyNext<|.ref z) Q E s:=by
 obtain⟨u,t,r⟩:=W.st.ob;have d:s.TypeIs (.ref z) "zip":=⟨_,r,rfl⟩;refine qa<|Dk<|Ll d Bk (gi Bk d tw
  (d4 i W.st W.ti W.to W.a W.b W.la W.lb h g D f λa b p n m l j hk=>Ga<|q a b ⟨p,hk _ _ D.TIz D.TITO D.TIi1 D.TIi2 W.ti,n,m,l,?_,?_⟩ j hk) (kG _))
 .have Z:=D.two f;exact W.la.at λo e=>hk _ o Z.l1z Z.l1TO Z.l1i1 Z.l1i2 e
 exact W.lb.at λo e=>hk _ o D.lz D.xI D.zI D.U9 e
def bIg{k:Nat}{Q:v6}(f:A.handled=none)(W:ZW s.heap z TI TO i1 i2 l1 l2 S xs ys k)(D:Fc z TI TO i1 i2 l2 [i1,l1])(b:l1≠i1)(he:xs[k]?=none\/ys[k]?=none)
  (q:∀h' tk,(∀c o,c≠z->c≠TO->c≠i1->c≠i2->s.heap.get? c=some o->h'.get? c=some o)->Q none {s with heap:=h',toks:=tk}):wpAny (model prog w) A (pyNext<|.ref z) Q E s:=by
 obtain⟨j,i,g⟩:=W.st.ob;have a:s.TypeIs (.ref z) "zip":=⟨_,g,rfl⟩;refine qa<|Dk<|Ll a Bk (gi Bk a tw
  (A6 f W.st W.ti W.to W.a W.b W.la W.lb he D b λh' e tk hk he=>?_) (kG _))
 obtain⟨o,d,h⟩:=he;exact qa<|Mt ⟨o,d,h⟩ zw<|Ga<|q h' tk hk
def OF(h:Heap)(lo:Addr)(xs ys:xL)(b:be):Prop:=b.Nodup/\∀(j:Nat)(a:Addr),b[j]?=some a->lo<a/\∃x y,xs[j]?=some x/\ys[j]?=some y/\IsPair h a x y
theorem bE7{R:Result->ut}(hh:A.handled=none)(D:Fc z TI TO i1 i2 l2 [i1,l1])(ne:l1≠i1)(p:S∉[z,TI,TO,i1,i2,l1,l2])(hn:min xs.size ys.size<=sizeLine)(lo:Addr)(ou:∀b∈[z,TO,i1,i2,S],b<=lo)(u:Value){Ud:Heap}
  (hR:∀m t acc c g,(∀b o,b∉[S,z,TO,i1,i2]->Ud.get? b=some o->m.get? b=some o)->m.get? S=some {cls:=.type "list",dict:=none,data:=.seq acc c,slots := #[]}->g.length=min xs.size ys.size->OF m lo xs ys g->acc.toList=g.map Value.ref->R (.ok<|.ret u) {s with heap:=m,toks:=t}) :
  ∀(k i:Nat)(h:Heap)(t c:Nat)(acc:xL)(g:be),min xs.size ys.size-i=k->i<=min xs.size ys.size->ZW h z TI TO i1 i2 l1 l2 S xs ys i->(∀b o,b∉[S,z,TO,i1,i2]->Ud.get? b=some o->h.get? b=some o)->
   h.get? S=some {cls:=.type "list",dict:=none,data:=.seq acc c,slots := #[]}->acc.toList=g.map Value.ref->g.length=i->OF h lo xs ys g->lo<h.objs.size->
   codeAny (model prog w) A (.builtin "list.extend.loop" ⟨[.ref S,.ref z,u],[]⟩) R {s with heap:=h,toks:=t}:=by
 have m9:∀{b:Addr},lo<b->b≠z/\b≠TO/\b≠i1/\b≠i2/\b≠S:=λ{b} f=>by
  refine⟨?_,?_,?_,?_,?_⟩ <;> (rintro rfl;exact absurd (ou _<|by simp)<|Nat.not_le_of_lt f)
 have n:S≠z/\S≠TO/\S≠i1/\S≠i2:=by
  simp only[mem_cons,not_mem_nil,or_false,not_or]at p;exact⟨p.1,p.2.2.1,p.2.2.2.1,p.2.2.2.2.1⟩
 have v:∀{b:Addr},b∉[S,z,TO,i1,i2]->b≠S/\b≠z/\b≠TO/\b≠i1/\b≠i2:=λ{b} f=>by
  simpa only[mem_cons,not_mem_nil,or_false,not_or] using f
 intro k
 induction k with
 |zero=>
  intro i h t c acc g hk hi W d F H E q I;refine Rj C8 ?_
  refine qa<|bIg hh W D ne (by
   by_cases J:xs.size<=i
   .exact .inl (BP J)
   exact .inr<|BP<|by lia) λm Z L=>?_
  refine Ga<|hR m Z acc c g (λb o f e=>let ⟨_,Y,X,V,U⟩:=v f;L b o Y X V U (d b o f e)) (L S _ n.1 n.2.1 n.2.2.1 n.2.2.2 F) (by lia) ⟨q.1,λj a hj=>?_⟩ H
  obtain⟨C,x,y,N,M,B⟩:=q.2 j a hj;obtain⟨T,Q,P,O,_⟩:=m9 C;exact⟨C,x,y,N,M,L a _ T Q P O B⟩
 |succ k ih=>
  intro i h t c acc g hk hi W d F H E q I;have J:xs[i]?=some xs[i]:=Cj (by lia)
  have hy:ys[i]?=some ys[i]:=Cj (by lia)
  have r9:acc.size=i:=by rw[<-Dt,H,Gb,E]
  refine Rj C8 ?_
  refine qa<|bE5 hh W D ne J hy λm Z W' K l=>?_
  dsimp only at K l ⊢;have Oo:=l S _ n.1 n.2.1 n.2.2.1 n.2.2.2 F;have r:∀b o,b≠S->m.get? b=some o->(m.update S (Obj.mapSeq (·.push (Value.ref h.objs.size)))).get? b=some o:=λb o f e=>(Ml _ _<|bf f).trans e
  have nS:=kr<|Vb F;refine qa<|Ep Oo rfl (Ga ⟨vm TF _,ih (i+1) _ Z _ _ (g++[h.objs.size]) (by lia) (by lia) (W'.keep p r)
   (λb o f e=>let ⟨b0,Y,X,V,U⟩:=v f;r b o b0 (l b o Y X V U<|d b o f e)) (Nl _ Oo rfl) (by rw[toList_push,H,Fh];rfl) (by rw[Ef,E];rfl) ⟨?_,λj a hj=>?_⟩ ?_⟩) (by rw[r9];lia)<|by rw[Array.size_push,r9];lia
  .refine Bo.mpr ⟨q.1,by simp,λa ha b f=>?_⟩
   rw[Mc.mp f];obtain⟨j,hj⟩:=Rm.mp ha;obtain⟨_,_,_,_,_,B⟩:=q.2 j a hj;exact zd<|Vb B
  .rcases Ao j g.length with G|G|G
   .rw[zo G]at hj;obtain⟨C,x,y,N,M,B⟩:=q.2 j a hj;obtain⟨T,Q,P,O,f5⟩:=m9 C;exact⟨C,x,y,N,M,r a _ f5<|l a _ T Q P O B⟩
   .subst G;have f:=by simpa using hj
    subst f;exact⟨I,_,_,by rwa [E],by rwa [E],r _ _ nS K⟩
   have AA:(g++[h.objs.size])[j]?=none:=Xq (by rw[Ef,um];lia)
   rw[AA]at hj;cases hj
  have e:=r _ _ nS K;exact Rt I<|Vb e
def bB2:typeLookup (.type "zip") "__len__"=pure none:=by kernel_rfl
def Ņ:typeLookup (.type "zip") "__length_hint__"=pure none:=by kernel_rfl
def bB3{Q:wv}(a:s.TypeIs (.ref z) "zip")(q:Q true s):wpAny (model prog w) A (Builtin.List.listLengthHint<|.ref z) Q E s:=by
 exact qa<|yw a bB2<|qa<|yw a Ņ<|Ga q
def bE8{R:Result->ut}(I:A.handled=none)(W:ZW s.heap z TI TO i1 i2 l1 l2 S xs ys 0)(D:Fc z TI TO i1 i2 l2 [i1,l1])(F:l1≠i1)(m:S∉[z,TI,TO,i1,i2,l1,l2])(G:min xs.size ys.size<=sizeLine)(l:∀b∈[z,TO,i1,i2],b<S)(p:s.heap.get? S=some {cls:=.type "list",data:=.seq #[]})
  (J:∀g q acc c i,(∀b o,b∉[S,z,TO,i1,i2]->s.heap.get? b=some o->g.get? b=some o)->g.get? S=some {cls:=.type "list",dict:=none,data:=.seq acc c,slots := #[]}->i.length=min xs.size ys.size->OF g S xs ys i->acc.toList=i.map Value.ref->R (.ok<|.ret .none) {s with heap:=g,toks:=q}) :
  wpAny (model prog w) A.in1 (Builtin.«list.__init__» ⟨[.ref S,.ref z],[]⟩)
   (λt k=>match t with|.done f=>R (.ok f) k|.again x=>x.quiet=true/\codeAny (model prog w) A x R k) (λe k=>R (.error e) k) s:=by
 refine qa<|qa<|Sj p rfl<|Ga<|((qa<|Ep p rfl<|qa<|qr ?_):wpAny _ _ _ _ _ s);have n:=Nl (Obj.mapSeq<|λ_=>(#[])) p rfl
 have r:∀b o,b≠S->s.heap.get? b=some o->(s.heap.update S<|Obj.mapSeq<|λ_=>(#[])).get? b=some o:=λb o d e=>(Ml _ _<|bf d).trans e
 generalize s.heap.update S _=Ud at n r;have B:=W.keep m r;obtain⟨Q,P,M⟩:=B.st.ob;have h:Shared.TypeIs {s with heap:=Ud} (.ref z) "zip":=⟨_,M,rfl⟩
 have E:S≠z:=λe=>m (by simp[e])
 refine qa<|GH h ?_;simp only[show Builtin.List.listSameRef (.ref S) (.ref z)=false by simp[Builtin.List.listSameRef,E]]
 refine qa<|dz h IG<|gi IG h T8 ((Ga ⟨_,rfl,"zip",_,h,Bk.lookup,(qa<|Ff<|bB3 h<|qa<|ur<|qa<|(qa<|Ep n rfl ?_))⟩))<|N8 _;have C:=Nl (Obj.mapSeq (·.push Value.none)) n rfl;refine Ep C rfl ?_
 have y:=Nl (Obj.mapSeq (·.pop)) C rfl;have v:∀b o,b≠S->Ud.get? b=some o->((Ud.update S (Obj.mapSeq (·.push Value.none))).update S (Obj.mapSeq (·.pop))).get? b=some o:=λb o d e=>(Ml _ _<|bf d).trans<|(Ml _ _<|bf d).trans e
 refine Ga ⟨vm TF _,bE7 I D F m G S (λb d=>?_) .none (λg q acc c i N O hl K L=>J g q acc c i N O hl K L)
  _ 0 _ _ _ #[] [] (Nat.sub_zero _) (Gf _) (B.keep m v) (λb o d e=>?_) y rfl rfl ⟨vz,λj a H=>by simp at H⟩ (Vb y)⟩
 .simp at d;rcases d with rfl|rfl|rfl|rfl|rfl
  .exact Fo (l _<|by simp)
  .exact Fo (l _<|by simp)
  .exact Fo (l _<|by simp)
  .exact Fo (l _<|by simp)
  exact Ib _
 have u:b≠S:=λz=>d (by simp[z])
 exact v b o u<|r b o u e
def bE9(B:A.handled=none)(W:∀S,ZW s.heap z TI TO i1 i2 l1 l2 S xs ys 0)(D:Fc z TI TO i1 i2 l2 [i1,l1])(v:l1≠i1)(x:min xs.size ys.size<=sizeLine)
  (q:∀d i acc c g,(∀b o,b∉[z,TO,i1,i2]->s.heap.get? b=some o->d.get? b=some o)->d.get? s.heap.objs.size=some {cls:=.type "list",dict:=none,data:=.seq acc c,slots := #[]}->g.length=min xs.size ys.size->OF d s.heap.objs.size xs ys g->acc.toList=g.map Value.ref->Q (.ref s.heap.objs.size) {s with heap:=d,toks:=i}) :
  wpAny (model prog w) A (call (.type "list") [.ref z]) Q E s:=by
 refine callType_codes (Q₁:=λf k=>f=.ref s.heap.objs.size/\k={s with heap:=s.heap.push {cls:=.type "list",data:=.seq #[]} }) PySem.F.called_list (PySem.F.typeCall_list_1 _) PySem.F.entry_list_init (code_list_new _ ⟨rfl,rfl⟩) λf k G=>?_
 obtain⟨rfl,rfl⟩:=G;have j:(s.heap.push {cls:=.type "list",data:=.seq #[]}).get? s.heap.objs.size=some {cls:=.type "list",data:=.seq #[]}:=we _ rfl;have lt:∀b∈[z,TI,TO,i1,i2,l1,l2],b<s.heap.objs.size:=λb a=>by
  have W:=W 0;obtain⟨_,_,u⟩:=W.st.ob;obtain⟨_,_,t⟩:=W.to;obtain⟨_,r,_⟩:=W.a;obtain⟨_,p,_⟩:=W.b;obtain⟨_,n,_⟩:=W.la;obtain⟨_,m,_⟩:=W.lb;simp at a;rcases a with rfl|rfl|rfl|rfl|rfl|rfl|rfl
  .exact Vb u
  .exact Vb W.ti
  .exact Vb t
  .exact Vb r
  .exact Vb p
  .exact Vb n
  exact Vb m
 have l:s.heap.objs.size∉[z,TI,TO,i1,i2,l1,l2]:=λe=>absurd (lt _ e)<|Gh _
 refine⟨⟨_,j,rfl⟩,PySem.F.args_list_init_2 _ _,bE8 B ((W _).keep l λb o _ e=>bc _ e) D v l x (λb a=>lt b ?_) j λd i acc c g y H hl C F=>⟨rfl,q d i acc c g (λb o a e=>y b o (λz=>?_)<|bc _ e) H hl C F⟩⟩
 .simp at a ⊢;rcases a with h|h|h|h<;>simp[h]
 rcases Mb.mp z with z|z
 .exact absurd (Vb e) (by rw[z];exact Gh _)
 exact a z
end
end Pu
namespace Pu
open PySem PySem.Spec PyProof.Rows L2
open Builtin
theorem ZV{K:Frag}{H:Hp}:∀{d ws:dL}{c vs:ss}(ps:be),bA K H d c->bA K H ws vs->ps.length=min c.length vs.length->(∀(j:Nat)(a:Addr),ps[j]?=some a->∃x y,c[j]?=some x/\vs[j]?=some y/\H a=some (.tup [x,y]))->bA K H (zP d ws) (ps.map V.ref)
 |[],ws,c,vs,ps,r,_,hl,_=>by
  rw[cC.mp r]at hl;rw[Wq.mp hl,zP];exact .nil
  exact λ_ _ _ _ z=>by cases z
 |z::d,[],c,vs,ps,_,r,hl,_=>by
  rw[cC.mp r,ZP,Nat.min_zero]at hl;rw[Wq.mp hl,zP];exact .nil
  exact λ_ _ _ _ _ z=>by cases z
 |z::d,w::ws,c,vs,ps,f,e,hl,h=>by
  obtain⟨u,c,rfl,l,f⟩:=bG.mp f;obtain⟨v,vs,rfl,k,e⟩:=bG.mp e;cases ps with
  |nil=>simp at hl
  |cons a ps=>
   obtain⟨x,y,e1,e2,g⟩:=h 0 a rfl;cases e1;cases e2;refine .cons (lC.mpr ⟨a,_,rfl,g,.cons l<|.cons k .nil⟩)<|ZV ps f e (by simp at hl;omega) λj b i=>?_
   obtain⟨x,y,e1,e2,g⟩:=h (j+1) b (by simpa using i)
   exact⟨x,y,by simpa using e1,by simpa using e2,g⟩
section
variable {a b:Expr}
def i4(O:X.mg "zip"=none)(T:PE X a (tI X.K B f))(c:PE X b (tI X.K B g))(Q:Gl X "zip":=by rfl)(u:starEach [a,b] X.env=(false,eval a X.env)::starEach [b] X.env:=by rfl)(j:starEach [b] X.env=[(false,eval b X.env)]:=by rfl):L2.PI X (.Name nx tp) (.Call (.Name "zip" p1) [a,b] [] pos) (qk X.K B<|tE f g):=by
 intro W s σ H Rq I Pp;refine yd λU=>?_
 obtain⟨A,st,ds,p,S,q⟩:=Pp;obtain⟨x,N,V⟩:=R.ua S;obtain⟨y,M,i⟩:=R.ua V;split at i
 rotate_left
 .cases i
 rename_i zs ws;cases i;refine U ?_
 refine Call_<|qO I Q O boot_zip<|Vq (Lb ((bW T (bW c dW j) u) pos W s σ H (λm H1=>∃v w,m=[v,w]/\aX H H1/\pb X.K (hide (A++B) H1) _ v/\pb X.K (hide _ H1) _ w) I ⟨A,st,_,p,N,λv H1 s1 r1=>⟨A,st,_,p.mono s1,M,λw H2 n K=>⟨v,w,rfl,s1.trans n,r1.mono<|aX.hide n,K⟩⟩⟩) λus s1 ⟨m,H1,I1,r1,v,w,hv,sm,rv,Qg⟩=>?_) u<|by rw[j];rfl
 subst hv;obtain⟨l,ts,rfl,z,F⟩:=dM.mp Qg;obtain⟨h,Xu,rfl,C,JB⟩:=dM.mp rv;obtain rfl:us=[.ref h,.ref l]:=by
  cases r1 with
  |cons J d=>cases d with
   |cons d G=>cases G;rw[J,d]
 obtain⟨aq,oq,t,M9⟩:=I1.list<|(aQ _ _).seq C;have k:=let ⟨o,e,_⟩:=t.isList;Vb e;obtain⟨L,OB,r,hz⟩:=I1.list<|(aQ _ _).seq z;refine OX t.isList r.isList λh' D Ve Y E Z xg P=>UP D ⟨s1.heap.objs.size+4,[s1.heap.objs.size+4,s1.heap.objs.size+2,s1.heap.objs.size+3,s1.heap.objs.size,s1.heap.objs.size+1],_,VO X.K h l,H1,rfl,I1.kept P,ń h l _ _ _ s1.heap.objs.size _ (DV (let ⟨o,e,_⟩:=r.isList;Vb e) k)<|zd k,⟨.inl D,Ve,⟨_,_,Y⟩,E,Z⟩,λb c=>?_,q _ H1 sm<|bDz C JB z F⟩
 simp at c;rcases c with rfl|rfl|rfl|rfl|rfl<;>exact I1.ph (by simp)<|I1.Ia.fresh<|by simp
theorem j4(N:X.mg "list"=none)(hm:X.mg "zip"=none)(hc:X.calm=true)(m:PE X a (tI X.K B f))(r:PE X b (tI X.K B g))(P:Gl X "list":=by rfl)(hg:Gl X "zip":=by rfl)(hs:starEach [a,b] X.env=(false,eval a X.env)::starEach [b] X.env:=by rfl)(ye:starEach [b] X.env=[(false,eval b X.env)]:=by rfl)
  (M:starEach [.Call (.Name "zip" p1) [a,b] [] p2] X.env=(false,eval (.Call (.Name "zip" p1) [a,b] [] p2) X.env)::starEach [] X.env:=by rfl):PE X (.Call (.Name "list" p0) [.Call (.Name "zip" p1) [a,b] [] p2] [] pos) (tI X.K B<|e2 VE f g):=by
 intro aa s σ H Rq I ⟨A,st,d,E,hd,q⟩;obtain⟨x,hx,h2⟩:=R.ua hd;obtain⟨y,hy,F⟩:=R.ua h2;unfold VE at F;split at F
 rotate_left
 .cases F
 rename_i zs ws;cases F;refine ar<|qO I P N (by rfl)<|Vq ?_ M rfl
 refine Calls.spliced_cons ?_
 refine ar<|qO I hg hm boot_zip<|Vq (Lb ((bW m (bW r dW ye) hs) p2 aa s σ H (λvs H1=>∃v w,vs=[v,w]/\aX H H1/\pb X.K (hide (A++B) H1) (.lst zs) v/\pb X.K (hide (A++B) H1) (.lst ws) w) I ⟨A,st,_,E,hx,λv H1 s1 r1=>⟨A,st,_,E.mono s1,hy,λw H2 s2 r2=>⟨v,w,rfl,s1.trans s2,r1.mono<|aX.hide s2,r2⟩⟩⟩) λus s1 ⟨vs,H1,I1,r1,v,w,hv,sm,rv,Qg⟩=>?_) hs<|by rw[ye];rfl
 subst hv;obtain⟨l,n,rfl,hq,rr⟩:=dM.mp Qg;obtain⟨l1,t,rfl,Xi,JB⟩:=dM.mp rv;obtain rfl:us=[.ref l1,.ref l]:=by
  cases r1 with
  |cons ra J=>cases J with
   |cons J rc=>cases rc;rw[show _=Value.ref l1 from ra,show _=Value.ref l from J]
 obtain⟨aq,oq,L,M9⟩:=I1.list<|(aQ _ _).seq Xi;have wj:=let ⟨o,e,_⟩:=L.isList;Vb e;obtain⟨its,OB,K,hz⟩:=I1.list<|(aQ _ _).seq hq;have O:=let ⟨o,e,_⟩:=K.isList;Vb e;refine OX L.isList K.isList λD Qo Ve Ze vh Vg xg k=>(Calls.spliced_nil ?_)
 have e1:=oq.length;have TQ:=OB.length;refine bE9 (I1.ok.hd hc) (λS=>⟨.inl Qo,Ve,⟨_,_,Ze⟩,vh,Vg,L.isList.at λo e=>k _ o e,K.isList.at λo e=>k _ o e⟩) (DV O wj) (zd wj) (by simp;lia) λh' tk Z c h hk hS hl Q Wh=>?_
 have Tw:h.length=min t.length n.length:=by rw[hl];simp[e1,TQ]
 have lo:=λa m=>let ⟨j,i⟩:=Rm.mp m;(Q.2 j a i).1
 have nn:∀a∈h,H1 a=none:=λa m=>I1.Ia.fresh (by have:=lo a m;lia)
 let G:Hp:=λb=>if b∈h then ((t.zip n)[h.idxOf b]?).map (λp=>.tup [p.1,p.2]) else H1 b
 have C:aX H1 G:=λb o e=>by
  show (if b∈h then _ else H1 b)=_
  rw[Ea λz=>by rw[nn b z]at e;cases e]
  exact e
 have T:G D.objs.size=none:=by
  show (if _∈h then _ else H1 _)=_
  rw[Ea λz=>Gh _<|lo _ z]
  exact I1.Ia.fresh (by lia)
 have gA:∀(j:Nat)(a:Addr),h[j]?=some a->∃x y,t[j]?=some x/\n[j]?=some y/\G a=some (.tup [x,y]):=λj a e=>by
  have i:=(gf.mp e).1;have W:j<t.length:=by lia
  have U:j<n.length:=by lia
  refine⟨t[j],n[j],Zc W,Zc U,?_⟩;show (if a∈h then _ else H1 a)=_
  obtain⟨i,ej⟩:=gf.mp e;rw[<-ej,Q.1.idxOf_getElem j i,Zc (by simp;lia)]
  simp
 have I2:ya X aa σ (Ra G D.objs.size<|.lst<|h.map V.ref) {s1 with heap:=h',toks:=tk}:=by
  refine bAw I1 (λb u e=>hk b u (λz=>?_)<|k b u e) (C.trans<|bL T) (λb r=>?_)<|λa o m e=>?_
  .have:=Vb e;simp only[mem_cons,not_mem_nil,or_false]at z;rcases z with rfl|rfl|rfl|rfl<;>first|exact absurd this (Gh _)|exact absurd this<|Nat.not_lt.mpr<|WG _ _
  .have Kk:b<D.objs.size:=ug r (by rw[xg];exact WG _ _)
   rw[aK<|zd Kk];show (if b∈h then _ else H1 b)=_
   rw[Ea λz=>Gh _<|Rt Kk<|lo _ z]
  by_cases r:a=D.objs.size
  .subst r;rw[bB]at e;cases e;refine⟨by rw[Gb,Tw];lia,Z.toList,c,by rw[Wh];exact RJ h,by simpa using hS⟩
  rw[aK r]at e;have Hr:a∈h:=by
   refine yd λz=>?_
   have e':(if a∈h then ((t.zip n)[h.idxOf a]?).map (λp=>HO.tup [p.1,p.2]) else H1 a)=some o:=e
   rw[Ea z,m]at e';cases e'
  obtain⟨j,i⟩:=Rm.mp Hr;obtain⟨x,y,e1,e2,Y⟩:=gA j a i;obtain⟨_,x',y',f1,f2,f3⟩:=Q.2 j a i;rw[Y]at e;cases e;obtain⟨x2,W,U⟩:=oq.get e1;obtain⟨y2,g3,g4⟩:=OB.get e2;rw[Kt,W]at f1;rw[Kt,g3]at f2;obtain rfl:=Gi f1;obtain rfl:=Gi f2;exact⟨show 2<=sizeLine by decide,[_,_],.cons U<|.cons g4 .nil,_,f3,rfl,_,rfl⟩
 exact⟨.ref D.objs.size,_,I2,rfl,q _ _ (sm.trans<|C.trans<|bL T)<|fB (E.own.mono<|sm.trans C) T (ZV h (JB.mono<|aX.hide C) (rr.mono<|aX.hide C) Tw λj a i=>let ⟨x,y,e1,e2,Y⟩:=gA j a i;⟨x,y,e1,e2,by rw[cN<|(E.own.mono sm).free<|nn a<|nj i];exact Y⟩)⟩
end
section
variable {o:Expr}
theorem RL{aa:db}{f:Sg}{H:Hp}{s:Shared}(I:ya X aa f H s){x:D}:∀{ds:dL}{b:ss}{a:cr},bA X.K H ds b->Ca b a->bZ ds=true->∀(m:Nat)(h:m<a.length)(c:m<ds.length),Kl X.K H x a[m]=jd ds[m] x
 |[],b,a,r,v,_,m,h,c=>absurd c<|nr _
 |d::ds,b,a,r,v,p,m,h,c=>by
  obtain⟨z,k,e,j,i⟩:=bG.mp r;subst e;simp at p;cases v with
  |cons v g=>
   cases m with
   |zero=>exact KL I j v p.1
   |succ m=>exact RL I i g p.2 m _ _
theorem ý(S:X.A.units+64<cLine):Yo X "list.index" (λx vs H Q=>∃(p:Addr)(ds:dL)(e:ss)(y:D)(z:V)(n:Nat),x=V.ref p/\vs=[z]/\Pc X.K H p e/\bA X.K H ds e/\pb X.K H y z/\ds.findIdx? (λd=>jd d y)=some n/\ds.length<=10000000/\gU ds<=60/\plain y=true/\bZ ds=true/\Q (.int (n:Int)) H):=by
 intro Y s σ H x vs v P Q I o r h;refine yd λJ=>?_
 obtain⟨p,ds,e,y,z,n,rfl,rfl,E,c,l,F,hl,U,A,f,q⟩:=h;obtain⟨u,rfl,t⟩:=r.one;obtain rfl:v=Value.ref p:=o;obtain⟨a,b,⟨⟨N,M,i,k⟩,B,g,G,_,C⟩,R⟩:=I.list E;have O:=b.length;have Z:=c.length;obtain⟨L,W,K⟩:=j8.mp F;subst G C;have j:n<a.length:=by lia
 refine J ?_
 refine uz AG ⟨_,g,rfl⟩ F8 (B8 _ _) (G8 p a.toArray B M k u (Kl X.K H y) n (by simpa using j) (by lia) ?_ λm T PR=>?_) ⟨g,λw hw=>?_,?_⟩
 .rwa [kH,RL I c b f n j L]
 .rw[kH,RL I c b f m _ _];simpa using (K m PR)
 .exact Cv I l t A c b f (by lia) w (by simpa using hw)
 exact⟨.int n,H,I.tok _,⟨_,rfl⟩,q⟩
def ņ(q:X.A.units+64<cLine)(t:PE X o (tP X.K B f))(C:PA X [e] (tA X.K B r))(K:Kj o "index" X.env:=by rfl)
  (N:As xb [e] X.env:=by rfl)
  (j:jm Ob xb:=by rfl) (s:vf e [] X.env:=by rfl) :
  PE X (.Call (.Attribute o "index" Ob) [e] [] xb) (tI X.K B<|Lo BN f r):=by
 refine cF (Kv ZF AG L8 (ý q) t C K N j s rfl) ?_
 rintro σ H Q ⟨A,st,d,b,z,k⟩;obtain⟨x,m,F⟩:=R.ua z;obtain⟨xs,L,a⟩:=R.ua F;unfold BN at a;split at a
 .rename_i h y;obtain⟨n,u,E⟩:=R.ua a;obtain⟨⟨g,J,I,G⟩,D⟩:=aM E;cases D;refine⟨A,st,_,b,m,λv P s1 r1=>?_⟩
  obtain⟨p,i,e1,c,l⟩:=r1.lst;refine⟨by rw[e1];exact .inl ⟨rfl,_,c⟩,A,st,_,b.mono s1,L,λO H2 s2 r2=>?_⟩
  obtain⟨w,rfl,M⟩:=WN r2;rw[mF]at g;exact⟨p,h,i,y,w,n,e1,rfl,s2.seq c,(l.mono<|aQ _ _).mono s2,M.mono<|aQ _ _,rH u,g,J,I,G,k _ H2 (s1.trans s2)<|bC.mpr rfl⟩
 cases a
end
def bLb(d c:TE):TE:=λσ H Q=>∀p,H p=none->d σ (Ra H p<|.dT []) λx e=>c σ e λy a=>a p=some (.dT [])/\∃b k,x=.ref b/\a b=some (.tup<|k.map kV)/\Q (.ref p) (Ra a p<|.dT [(k,y)])
section
variable {a b:Expr} {tk tv:TE}
def bEa(N:X.A.units+64<cLine)(o:PE X a tk)(m:PE X b tv):PE X (.Dict [some a] [b] pos) (bLb tk tv):=by
 intro G s σ H Q I q;rw[arm_eval_Dict,zip_pairTrees [some a] [b] X.env pos rfl rfl,dictDisplay_pairs _ (by simp[pairTrees]) (by simp[pairTrees])]
 refine qa<|Qt<|qa<|qa<|wpAny_alloc<|qa<|Ff<|qa<|Lb ((Ť o m bC9) G _ σ _ (λi f=>match i with
  |[(x,y)]=>f s.heap.objs.size=some _/\∃b k,x=.ref b/\f b=some (.tup<|k.map kV)/\Q _ (Ra f s.heap.objs.size<|.dT [(k,y)])
  |_=>False) (I.laid (t':=s.toks) (λ_ _ q=>bc _ q) (Ib _)<|XX s.heap I.big)<|q _<|I.Ia.fresh<|Ib s.heap.objs.size) λL M ⟨i,f,g,d,e⟩=>?_
 cases d with
 |nil=>exact e.elim
 |@cons x p _ _ h t=>
  cases t with
  |cons _ _=>exact e.elim
  |nil=>
   obtain⟨u,v⟩:=p;obtain⟨x,y⟩:=x;obtain⟨e1,P,k,e2,l,e⟩:=e;subst e2;cases ((h.1));obtain⟨z,r,xs,d,F⟩:=P6 g.Ia e1;cases d;refine Ff<|qa<|qa<|qa<|wpAny_dictSet_heap (show X.A.units<cLine by omega) (uv g.Ia l) F λO J n=>Ga<|(?_:wpAny _ _ _ _ _ _)
   refine Ga<|Ga<|Ga ?_;obtain⟨q,D,E,j,C,B,A,_,w⟩:=J;refine Ga ⟨.ref s.heap.objs.size,Ra f s.heap.objs.size<|.dT [(k,y)],BD g (by rw[e1];exact True.intro) n ⟨q,j⟩ ⟨show 1<=sizeLine by decide,r,_,(KT.put .nil k l h.2).keeps λc K ec=>?_,q,D,E,j,C,B,A,w⟩,rfl,e⟩
   rwa [aK<|F6 ec e1<|λz=>nomatch z]
def QZ(t:X.A.units+64<cLine)(i:Nat) (j:PE X a (tI X.K B g)) (s:PE X b (tI X.K B f)) (F:X.N.Nodup) (C:X.N[i]?=some x:=by rfl) (q:Loc X.env.scope x:=by exact Pn rfl) (w:ml (.Dict [some a] [b] dp) (some<|.Name x pos') pos.line X.env:=by rfl)
  (D:kl X x:=by first|exact .inl rfl|exact .inr rfl|assumption):PS X (.Assign [.Name x pos'] (.Dict [some a] [b] dp) pos) (tS X.K B<|gE i g f):=gC (jv F C q (bEa t j s) w D) (by
 rintro U σ H ⟨A,st,r,h,y,p⟩;obtain⟨k,j,K⟩:=R.ua y;obtain⟨d,E,J⟩:=R.ua K;obtain⟨⟨Q,P⟩,I⟩:=aM J;cases I;intro a l;refine⟨A,st,k,h.mono<|bL l,j,λu T s1 r1=>⟨A,st,d,(h.mono<|bL l).mono s1,E,λv H2 s2 r2=>?_⟩⟩
 obtain⟨e,S,O,N,M⟩:=sV (r1.mono<|aQ _ _) Q;subst O N;refine⟨(s2 _ _<|s1 _ _ bB),S,e,rfl,s2 _ _ M,?_⟩
 let G:=λb=>if b=a then none else H2 b
 have m:aX H G:=λb o z=>by
  have c:=aN z l;show (if b=a then none else H2 b)=_
  rw[Ea c];exact s2 _ _<|s1 _ _<|by rwa [aK c]
 have n:G a=none:=Qa rfl;have L:Ra H2 a (.dT [(e,v)])=Ra G a (.dT [(e,v)]):=by
  funext b
  by_cases c:b=a
  .subst c;rw[bB,bB]
  rw[aK c,aK c];exact(Ea c).symm
 rw[L];exact p _ _ _ ((Le.of m).trans<|ME n)<|(h.mono m).rq i n (.inr ⟨rfl,[(e,v)],rfl,rfl,rfl⟩)<|.cons ((JZ P r2).mono bDv) .nil)
end
end Pu
namespace Pu
open PySem
structure TI(b:Bool)(t:SetTable):Prop where
 rise:t.place.toList.Pairwise (· < ·)
 g9:t.dummies = #[]
 led:t.led=b
theorem LK(xs:GT)(j:Nat)(q:xs.toList.Pairwise (· < ·)):∀(c lo d:Nat),d-lo<=c->lo<=d->d<=xs.size->(∀(i:Nat)(a:Nat),i<lo->xs[i]?=some a->a<j)->(∀(i:Nat)(a:Nat),d<=i->xs[i]?=some a->j<=a)->
  (∀(i:Nat)(a:Nat),i<SetTable.below.go xs j c lo d->xs[i]?=some a->a<j)/\(∀(i:Nat)(a:Nat),SetTable.below.go xs j c lo d<=i->xs[i]?=some a->j<=a)/\SetTable.below.go xs j c lo d<=xs.size
 |0,lo,d,x,hl,l,o,n=>by
  have e:lo=d:=by lia
  subst e;exact⟨o,n,l⟩
 |c+1,lo,d,x,hl,l,o,n=>by
  unfold SetTable.below.go;have t:∀(i k:Nat)(a b:Nat),i<k->xs[i]?=some a->xs[k]?=some b->a<b:=λi k a b r f u=>by
   rw[<-ir]at f u;obtain⟨p,z⟩:=gf.mp f;obtain⟨A,y⟩:=gf.mp u;have:=qw.mp q i k p A r
   rwa [z,y]at this
  by_cases h:lo<d
  .rw[Qa h];have v:(lo+d)/2<xs.size:=by lia
   have g:=Cj v;have w:xs.getD ((lo+d)/2) j=xs[(lo+d)/2]:=by rw[JG,g];rfl
   dsimp only;rw[w]
   by_cases m:xs[(lo+d)/2] < j
   .rw[Qa m];refine LK xs j q c _ _ (by lia) (by lia) l (λi a p f=>?_) n
    by_cases s:i=(lo+d)/2
    .subst s;rw[g]at f;cases f;exact m
    exact Rt (t i _ a _ (by lia) f g) m
   rw[Ea m];refine LK xs j q c _ _ (by lia) (by lia) (by lia) o λi a p f=>?_
   by_cases s:i=(lo+d)/2
   .subst s;rw[g]at f;lia
   have:=t _ i _ a (by lia) g f;lia
  rw[Ea h];have e:lo=d:=by lia
  subst e;exact⟨o,n,l⟩
theorem eW(xs:GT)(j:Nat)(b:xs.toList.Pairwise (· < ·)):(∀(i:Nat)(a:Nat),i<SetTable.below xs j->xs[i]?=some a->a<j)/\(∀(i:Nat)(a:Nat),SetTable.below xs j<=i->xs[i]?=some a->j<=a)/\SetTable.below xs j<=xs.size:=
 LK xs j b xs.size 0 xs.size (by lia) (Gf _) (Ib _) (λi a h=>absurd h<|nr _) λi a h c=>by
  have:=(vt.mp c).1;lia
theorem Î(xs:GT)(j:Nat)(f:xs.toList.Pairwise (· < ·))(q:xs[SetTable.below xs j]?≠some j):(SetTable.insertAt xs (SetTable.below xs j) j).toList.Pairwise (· < ·):=by
 obtain⟨r,m,s⟩:=eW xs j f;have e:(SetTable.insertAt xs (SetTable.below xs j) j).toList=xs.toList.take (SetTable.below xs j)++j::xs.toList.drop (SetTable.below xs j):=by
  unfold SetTable.insertAt;simp;rw[CG (by simp)]
 rw[e,List.pairwise_append];have n:∀a∈xs.toList.drop _,j<a:=λa i=>by
  obtain⟨k,c⟩:=Rm.mp i;rw[List.getElem?_drop,ir]at c;have:=m _ a (WG _ _) c;rcases Nat.lt_or_eq_of_le this with h|h
  .exact h
  subst h;exfalso;have d:SetTable.below xs j<xs.size:=by have:=(vt.mp c).1;lia
  have t:=m _ _ (Ib _)<|Cj d
  by_cases p:k=0
  .subst p;exact q c
  have o:=vt.mp c;have:=qw.mp f _ _ (by simpa using d) (by simpa using o.1) (by lia)
  rw[Z8,Z8,o.2]at this;lia
 refine⟨f.sublist<|List.take_sublist _ _,List.pairwise_cons.mpr ⟨n,f.sublist<|List.drop_sublist _ _⟩,λa i b d=>?_⟩
 have l:a<j:=by
  obtain⟨k,c⟩:=Rm.mp i;rw[List.getElem?_take]at c;split at c
  .rename_i g;rw[ir]at c;exact r k a g c
  cases c
 rcases Mb.mp d with rfl|d
 .exact l
 exact Rt l<|n b d
theorem RZ(t:SetTable)(hashAt:Nat->Int)(h:Int)(g:t.dummies = #[]):∀(c:Nat)(p:SetTable.Probe)(j:Nat)(d:Option Nat),SetTable.probe.go t hashAt h c p=some (.empty j d)->t.slot j=.empty/\d=p.dummy
 |0,p,j,d,e=>by cases e
 |c+1,p,j,d,e=>by
  unfold SetTable.probe.go at e;cases f:t.slot p.j with
  |empty=>rw[f]at e;cases e;exact⟨f,rfl⟩
  |dummy=>
   unfold SetTable.slot at f;dsimp only at f;split at f
   .cases f
   rw[g]at f;cases f
  |live i=>
   rw[f]at e;dsimp only at e;split at e
   .cases e
   obtain⟨a,b⟩:=RZ t hashAt h g c _ j d e;exact⟨a,b.trans (by
    unfold SetTable.advance;split<;>rfl)⟩
def Ň{t:SetTable}{h:Int} {w:Bool} (f:t.dummies = #[]) (e:t.freeSlot h=some (j,w)):t.slot j=.empty:=by
 unfold SetTable.freeSlot at e;split at e
 .rename_i g d c;obtain⟨a,b⟩:=RZ t _ h f _ _ _ _ c;subst b;cases e;exact a
 cases e
def ň{t:SetTable} (h:t.slot j=.empty):t.place[SetTable.below t.place j]?≠some j:=λe=>by
 unfold SetTable.slot at h;rw[Qa (by rw[e];exact beq_self_eq_true _)]at h
 cases h
theorem TI.put{b:Bool}{t:SetTable}{j:Nat}(x:TI b t)(h:t.slot j=.empty):TI b (t.put j).1:=by
 refine⟨Î t.place j x.rise<|ň h,?_,x.led⟩;show (if SetTable.has t.dummies j then _ else t.dummies)=_
 rw[x.g9];rfl
def þ(n:Nat):(Array.range n).toList.Pairwise (· < ·):=by
 rw[Array.toList_range];exact U8
def TI.Xe{t:SetTable}(x:TI b t)(n:Nat):TI b (t.standIn n):=⟨þ n,rfl,x.led⟩
def TI.jq{t:SetTable}(x:TI b t)(n:Nat):TI b (t.orStandIn n):=by
 unfold SetTable.orStandIn;split
 .exact x
 exact x.Xe n
def TI.lay{t:SetTable}(x:TI b t)(a:sw)(h:Int)(v:Value):TI b (layNew t a h v).2.1:=by
 unfold layNew;split
 .rename_i j w e;exact(x.put<|Ň x.g9 e).jq _
 exact x.Xe _
def TI.GB{t:SetTable}(x:TI b t)(q:sw)(n:Nat):TI b (relayAll t q n).2.1:=by
 unfold relayAll;split
 .rename_i l i e;have y:TI b l:=by
   obtain⟨d,_,e2⟩:=Option.bind_eq_some_iff.mp e;cases e2;refine⟨?_,rfl,x.led⟩;rw[List.map_filterMap];refine(U8).filterMap _ λa j m c g r h=>?_
   have p:c=a:=by
    cases f:(d.getD a none) with
    |none=>rw[f]at g;cases g
    |some k=>rw[f]at g;cases g;rfl
   have o:r=j:=by
    cases f:(d.getD j none) with
    |none=>rw[f]at h;cases h
    |some k=>rw[f]at h;cases h;rfl
   rwa [p,o]
  dsimp only;split
  .exact y
  exact x.Xe _
 exact x.Xe _
theorem TI.fresh(b:Bool):TI b (.fresh 0 0 b):=⟨List.Pairwise.nil,rfl,rfl⟩
def TZ(t:SetTable)(a:sw)(h:Int)(v:Value):(layNew t a h v).1.toList.Perm (a.toList++[(h,v)]):=by
 have p:=layNew_perm t a h v
 rwa [toList_push]at p
def numOf:Value->Int
 |.int n _=>n
 |_=>0
def mw(e:Int×Value):Prop:=∃(n:Int)(t:Tok),e=(hashInt n,.int n t)
structure Xb(b:Bool)(a:Addr)(ns:lw)(es:sw)(ep:Nat)(t:SetTable)(h:Heap):Prop where
 obj:h.get? a=some {cls:=.type "set",dict:=none,data:=.set es ep t,slots := #[]}
 fit:t.fits es.size=true
 ti:TI b t
 perm:(es.toList.map λe=>numOf e.2).Perm ns
 nums:∀e∈es.toList,mw e
def Xb.keep{c:sw} {t:SetTable} (x:Xb b a ns c ep t h) (k:∀o,h.get? a=some o->h'.get? a=some o):Xb b a ns c ep t h':=
 ⟨k _ x.obj,x.fit,x.ti,x.perm,x.nums⟩
theorem Xb.size{b:Bool}{a:Addr}{c:lw}{d:sw}{e:Nat}{t:SetTable}{h:Heap}(x:Xb b a c d e t h):d.size=c.length:=by
 simpa using x.perm.length_eq
def Xb.put{i d:sw} {t t':SetTable} (x:Xb b a ns i ep t h) (f:t'.fits d.size=true) (g:TI b t') (c:(d.toList.map λe=>numOf e.2).Perm So) (nums:∀e∈d.toList,mw e) :
  Xb b a So d (ep+1) t' (h.update a<|Obj.putSet d t'):=by
 refine⟨?_,f,g,c,nums⟩;rw[Nl _ x.obj rfl];rfl
def Cp(a:lw)(k:Int):lw:=if a.any (· == k) then a else a++[k]
def bEb(a:lw)(k:Int):(Cp a k).length<=a.length+1:=by
 unfold Cp;split
 .exact Jo _
 simp
section
variable{w:World}{A:Around}
def bEc{a:List (Int×Value)}(nums:∀e∈a,mw e):ElemsOf (intKind prog w) a:=λe b=>by
 obtain⟨n,t,rfl⟩:=nums e b;exact⟨⟨n,Az prog w n t,rfl⟩,rfl⟩
def bEd{d:List (Int×Value)} (nums:∀e∈d,mw e) (a:(d.map λe=>numOf e.2).Perm ns) (k:Int):(d.findIdx?<|λe=>(intKind prog w).is k e.2).isSome=ns.any (· == k):=by
 rw[List.findIdx?_isSome,mz,jz,jz];constructor
 .rintro⟨e,b,c⟩;obtain⟨n,t,rfl⟩:=nums e b;exact⟨n,a.mem_iff.mp<|ze.mpr ⟨_,b,rfl⟩,Io.mpr<|(intKind prog w).inj _ n k (Az prog w n t) c⟩
 rintro⟨n,h,c⟩;obtain⟨e,b,g⟩:=ze.mp<|a.mem_iff.mpr h;obtain⟨f,t,rfl⟩:=nums e b;refine⟨_,b,?_⟩;rw[<-(Io.mp c),<-(g)];exact Az prog w f t
def TL{Q:v4}(c:Bool)(q:Q () s):wpAny (model prog w) A (match c with|true=>rule "set.scan.the-table-gave-way"|false=>pure ()) Q E s:=by
 cases c with
 |true=>exact ur q
 |false=>exact Ga q
def De{k f:sw}{l:Nat}{t t':SetTable}{d:Bool}{R:Option Bool->Shared->Prop}{g:Bool->Sem Unit}
  (v:∀(c:Bool)(o:Shared)(Q:v4),Q () o->wpAny (model prog w) A (g c) Q E o) (x:Xb b a ns k l t s.heap)
  (u:f.size<scanBound) (j:t'.fits f.size=true) (m:TI b t') (h:(f.toList.map λe=>numOf e.2).Perm So) (nums:∀e∈f.toList,mw e)
  (r:∀(i:Heap) (k:sw) (l:Nat) (t:SetTable),Heap.SameBut a s.heap i->Xb b a So k l t i->R (some true) {s with heap:=i}) :
  wpAny (model prog w) A (storeSet a f t' >>= λ_=>if (!d&&t'.tooFull)=true then g (relayAll t' f<|SetTable.grown f.size).2.2 >>= λ_=>storeSet a (relayAll t' f<|SetTable.grown f.size).1 (relayAll t' f<|SetTable.grown f.size).2.1 >>= λ_=>pure (some true) else pure (some true)) R E s:=by
 have y:=x.put j m h nums;have n:=Bt s.heap a<|Obj.putSet f t';refine qa<|wpAny_storeSet_of x.obj rfl ?_<|UG u
 by_cases q:(!d&&t'.tooFull)=true
 .rw[Qa q];have p:=relayAll_perm t' f<|SetTable.grown f.size;have sz:=by simpa using p.length_eq
  exact qa<|v _ _ _<|qa<|wpAny_storeSet_of y.obj rfl (Ga<|r _ _ _ _ (n.trans<|Bt _ a _)<|y.put (relayAll_fits t' f _) (m.GB f _) ((p.map _).trans h) λe z=>nums e<|p.mem_iff.mp z)<|UG<|by rwa [sz]
 rw[Ea q];exact Ga<|r _ _ _ _ n y
theorem bIh{f:sw}{h:Nat}{t:SetTable}{k:Int}{Q:wv}(x:Xb b a ns f h t s.heap)(G:ns.length+1<scanBound)
  (q:∀(c:Bool)(g:Heap) (f:sw) (h:Nat) (t:SetTable),Heap.SameBut a s.heap g->Xb b a (Cp ns k) f h t g->Q c {s with heap:=g}) :
  wpAny (model prog w) A (setAddHashed a (.int k tk)<|hashInt k) Q E s:=by
 have B:ElemsOf (intKind prog w) f.toList:=bEc x.nums;have m:=bEd (prog:=prog) (w:=w) x.nums x.perm k;have u:∀e∈(layNew t f _ _).1.toList,mw e:=λe i=>by
  rcases ji.mp ((TZ t f _ _).mem_iff.mp i) with i|i
  .exact x.nums e i
  exact⟨k,tk,Mc.mp i⟩
 have l:=by
  have:=(TZ t f (hashInt k)<|.int k tk).map λe=>numOf e.2
  rw[Fh]at this;exact this.trans<|x.perm.append_right _
 have r:(layNew t f (hashInt k)<|.int k tk).1.size<scanBound:=by
  have:=l.length_eq;simp at this;lia
 refine Ff<|qa<|vw x.obj rfl x.fit ?_;dsimp only;rw[Qa<|byScan_of rfl (by rw[x.size];lia) B]
 refine qa<|qa<|ur<|qa<|wpAny_setScan_of (Az prog w k tk) x.obj rfl x.fit B ?_;cases v:f.toList.findIdx? _ with
 |some j=>
  rw[v]at m;have:Cp ns k=ns:=Qa m.symm;rw[this]at q;exact Ga<|Ga<|q false s.heap f h t (Heap.SameBut.refl a s.heap) x
 |none=>
  rw[v]at m;have:Cp ns k=ns++[k]:=by unfold Cp;rw[<-m];rfl
  rw[this]at q;have n:=x.ti.lay f (hashInt k)<|.int k tk;have p:=layNew_fits t f (hashInt k)<|.int k tk;generalize layNew t f _ _=L at l u r n p ⊢;obtain⟨H,C,d,I⟩:=L;refine qa<|TL _ ?_
  by_cases z:C.plain=true
  .rw[Qa z];exact qa<|Ga<|De (λc D F g=>TL c g) x r p n l u λg f h t o y=>Ga<|q true g f h t o y
  rw[Ea z];exact qa<|Ga<|De (λc D F g=>TL c g) x r p n l u λg f h t o y=>Ga<|q true g f h t o y
end
end Pu
namespace Pu
open PySem PyProof.Rows
section
variable{prog:Program}{w:World}{A:Around}{E:am}{s:Shared}
def jt(val:Nat->Int):Nat->List Int
 |0=>[]
 |i+1=>Cp (jt val i)<|val i
theorem o4(val:Nat->Int):∀i,(jt val i).length<=i
 |0=>Ib _
 |i+1=>Yg (bEb _ _)<|Nat.succ_le_succ<|o4 val i
def iW(b:Bool)(a:Addr)(c:lw)(h:Heap):Prop:=∃d e t,Xb b a c d e t h
theorem iW.keep{b:Bool}{a:Addr}{c:lw}{h d:Heap}(x:iW b a c h)(k:∀o,h.get? a=some o->d.get? a=some o):iW b a c d:=
 let ⟨e,f,t,y⟩:=x
 ⟨e,f,t,y.keep k⟩
def bIi{k:Int}{t:Tok}{Q:wv}(x:iW b a ns s.heap)(g:ns.length+1<scanBound)
  (q:∀(c:Bool)(d:Heap),Heap.SameBut a s.heap d->iW b a (Cp ns k) d->Q c {s with heap:=d,toks:=s.toks+1}) :
  wpAny (model prog w) A (setAdd a<|.int k t) Q E s:=by
 obtain⟨l,m,j,y⟩:=x;exact Ff<|qa<|(intKind prog w).pyHash (Az prog w k t)<|bIh y g λc d h i e f z=>q c d f ⟨h,i,e,z⟩
variable{I:Addr}{fp wr:be}{G:Array GenState->Array GenState->Prop}{n:Nat}{P:Nat->Value->Prop}{St:Nat->Shared->Prop}
theorem bEe(W:WalksS prog w A.in1 I fp wr G n P St){R:Result->ut}(a:Addr)(b:Bool)(j:a∉fp)(val:Nat->Int)(Yp:∀i v,P i v->∃t,v=.int (val i) t)(E:n+1<scanBound) :
  ∀(m i:Nat)(s:Shared),i+m=n->St i s->iW b a (jt val i) s.heap->
   (∀f,Moved (a::wr) G s f->iW b a (jt val n) f.heap->R (.ok<|.ret .none) f)->
   codeAny (model prog w) A (.builtin "set.update.loop" ⟨[.ref a,.ref I],[]⟩) R s:=by
 have u:=λh=>j<|W.sub _ h
 have q:∀c∈wr,c∈a::wr:=λc g=>Kb _ g
 intro m
 induction m with
 |zero=>
  intro i s e st x r;subst e;refine Rj F.entry_set_update_loop ?_
  rw[Around.under_plainId F.plain_set_update_loop _];exact qa<|W.done s _ _ st λf k=>Ga<|r f (k.mono q)<|x.keep λo l=>k.heap a o u l
 |succ m D=>
  intro i s e st x r;refine Rj F.entry_set_update_loop<|qa<|W.item i s _ _ (by lia) st λv f pv st' k=>?_
  obtain⟨t,rfl⟩:=Yp i v pv;refine qa<|Ff<|bIi (x.keep λo l=>k.heap a o u l) (by have:=o4 val i;lia) λc H B y=>Ga ⟨vm F.plain_set_update_loop _,?_⟩
  have d:=λc g=>B.2 c g
  refine D (i+1) _ (by lia) (W.frame _ f _ _ st' (Jo _) λc g o l=>?_) y λC p z=>?_
  .rwa [d c λh=>j<|h ▸ g]
  refine r C (Moved.trans W.gtrans ((k.mono q).then_heap (Jo _) λc o g l=>?_) p) z
  rwa [d c λh=>g<|h ▸ Cb]
end
section
variable{prog:Program}{w:World}{A:Around}{E:am}{s:Shared}
def yM(w:World):Bool:=w.params.followText "set-order"
def yN(w:World):Obj:={cls:=.type "set",dict:=none,data:=.set #[] 0 (.fresh 0 0<|!yM w),slots := #[]}
def bEf(a:Value) (q:Q (.ref s.heap.objs.size) {s with heap:=s.heap.push (yN w)}) :
  codeAny (model prog w) A (.call (.builtin "set.__new__") ⟨[.type "set",a],[]⟩) (wants Q E) s:=by
 refine codeAny_of_tree<|(qa<|HH (F.newCall_set_1 a)<|Ga ⟨vm F.plain_set_new _,Rj F.entry_set_new ?_⟩);unfold Builtin.«set.__new__» Builtin.Frozenset.newClass;have sub:=sub_set_self;dsimp only
 wp_walk
 exact xw<|Ga<|qa<|wpAny_alloc<|Ga<|Ga q
def ŉ(w:World) (o:h.get? a=some (yN w)):iW (!yM w) a [] h:=
 ⟨#[],0,_,o,rfl,TI.fresh _,List.Perm.nil,λe b=>nomatch b⟩
def bEg{R:Result->ut}(y:A.handled=none)(o:s.heap.get? a=some (yN w))(t:l≠a)(d:s.heap.IsList l items)(Yp:IntsAre items.toList ns)(p:items.size+1<scanBound)
  (r:∀(g:Heap)(n:Nat),iW (!yM w) a (jt (λi=>ns.getD i 0) items.size) g->(∀b o,b≠a->s.heap.get? b=some o->g.get? b=some o)->R (.ok<|.ret .none) {s with heap:=g,toks:=n}) :
  wpAny (model prog w) A.in1 (Builtin.«set.__init__» ⟨[.ref a,.ref l],[]⟩) (λj s'=>match j with|.done f=>R (.ok f) s'|.again m=>m.quiet=true/\codeAny (model prog w) A m R s') (λe s'=>R (.error e) s') s:=by
 obtain⟨q,c,C,E,z⟩:=id d;obtain⟨L,J,K,D⟩:=q;subst C;have I:=F.sub_list_set;have H:=F.sub_list_frozenset;unfold Builtin.«set.__init__» noKeywords Builtin.Frozenset.updateFrom;generalize u:pyIter=it
 wp_walk
 subst u;refine Ft d<|qa<|wpAny_runValue (bEe ((wz (by simp[y]) _ l (zd<|Vb c) items).toS) a _ (by
  intro h;rcases Mb.mp h with h|h
  .exact(zd<|Vb o) h
  exact t (Mc.mp h).symm) _ (λi v G=>IntsAre.int_at Yp i v<|by rwa [ir]) p items.size 0 _ (DQ _)
  ⟨⟨_,we _ rfl,rfl,rfl⟩,d.push _⟩ (ŉ w<|bc _ o) λs' mv x=>?_)
 rw[Moved.eq_with mv];refine Ga<|Ga<|r s'.heap s'.toks x λb o B k=>mv.heap b o (λhm=>?_)<|bc _ k
 rcases Mb.mp hm with h|h
 .exact B h
 exact absurd (Mc.mp h)<|zd<|Vb k
def bEh(y:A.handled=none)(m:s.heap.IsList l items)(Yp:IntsAre items.toList ns)(p:items.size+1<scanBound)
  (q:∀(a:Heap)(c:Nat),iW (!yM w) s.heap.objs.size (jt (λi=>ns.getD i 0) items.size) a->(∀b o,s.heap.get? b=some o->a.get? b=some o)->Q (.ref s.heap.objs.size) {s with heap:=a,toks:=c}) :
  wpAny (model prog w) A (call (.type "set") [.ref l]) Q E s:=by
 have M:=pz.made;have L:=pz.sub;have K:=F.typeCall_set_1<|.ref l;refine Xt<|codeAny_of_tree<|(Ga ⟨Code.quiet_builtin _ (by decide+kernel),Rj F.entry_type_call ?_⟩)
 rw[Around.under_plain (weight_type_call_type "set" [.ref l] []) rfl]
 repeat (any_goals (first|assumption|wp_step))
 refine Um (bEf (.ref l) (E:=E) (Q:=λv g=>v=.ref s.heap.objs.size/\g={s with heap:=s.heap.push _}) ⟨rfl,rfl⟩) λd g B=>?_
 match d,B with
 |.error e,f=>exact f
 |.ok (.ret v),⟨t,u⟩=>
  subst t;subst u;have ob:(s.heap.push _).get? s.heap.objs.size=some (yN w):=we _ rfl;have z:Shared.TypeIs {s with heap:=s.heap.push (yN w)} (.ref s.heap.objs.size) "set":=⟨_,ob,rfl⟩
  have J:=pz.init.lookup;have I:=pz.init.bind<|.ref s.heap.objs.size
  repeat (any_goals (first|assumption|wp_step))
  refine Um (CP (R:=wants (λr n=>r=.none/\Q _ n) E) pz.init.plain F.entry_set_init (check_set_init_1 z
   (bEg (by simp[y]) ob (let ⟨_,h,_⟩:=m;zd (Vb h)) (m.push _) Yp p λa c x k=>⟨rfl,q a c x λb o j=>k b o (zd<|Vb j)<|bc _ j⟩))) λD n C=>?_
  match D,C with
  |.error e,f=>exact f
  |.ok (.ret _),⟨H,G⟩=>
   repeat (any_goals (first|assumption|wp_step))
end
theorem AJ{a:Type}:∀(xs:List a)(i:Nat)(x:a),xs[i]?=some x->(x::xs.eraseIdx i).Perm xs
 |[],_,_,h=>nomatch h
 |y::xs,0,x,h=>by cases h;exact CH _
 |y::xs,i+1,x,h=>by
  exact(List.Perm.swap y x _).trans ((AJ xs i x<|by simpa using h).cons y)
theorem QX{b:Type}(next:wS):∀(n k:Nat)(left:List b)(a:Array b),left.length=n->(pickOrder.go next n k left a).toList.Perm (a.toList++left)
 |0,k,left,a,h=>by
  cases left with
  |nil=>rw[Ql];exact CH _
  |cons _ _=>cases h
 |n+1,k,left,a,h=>by
  unfold pickOrder.go;have hl:next k%left.length<left.length:=mod_lt _ (by lia)
  have e:=Zc hl;rw[e];refine(QX next n (k+1) _ _ (by rw[t8 hl];lia)).trans ?_
  rw[toList_push,Co];exact(AJ left _ _ e).append_left _
def Μ(next:wS)(xs:Array α):(pickOrder next xs).toList.Perm xs.toList:=QX next xs.size 0 xs.toList #[] Dt
section
variable{w:World}{A:Around}
def Ŋ{s:Shared}{a:Source} {Q:Nat->Shared->Prop} (b:n≠0) (q:∀i d,i<n->Q i {s with drawn:=d}):wpAny (model prog w) A (choose a n) Q E s:=
 λ_ _ _=>⟨b,q _ _<|mod_lt _<|Nat.pos_of_ne_zero b⟩
theorem bEi{a:Type}(n:Nat):∀(xs:List a)(s:Shared)(Q:List a->ut),xs.length=n->(∀ys d,ys.Perm xs->Q ys {s with drawn:=d})->wpAny (model prog w) A (drawOrder n xs) Q E s:=by
 induction n with
 |zero=>
  intro xs s Q h q;have e:=Wq.mp h;subst e;exact Ga<|q [] s.drawn<|CH _
 |succ n c=>
  intro xs s Q h q;have b:xs≠[]:=λe=>by rw[e]at h;cases h
  obtain⟨x,l,rfl⟩:=List.exists_cons_of_ne_nil b;refine((qa<|Ŋ (by simp) λi d hi=>?_):wpAny _ A (choose .order (x::l).length >>= λi=>match (x::l)[i]? with|some y=>drawOrder n _ >>= λr=>pure _|none=>unsupported "internal:drawOrder") Q E s)
  have e:=Zc hi;rw[e];exact qa<|c _ _ _ (by rw[t8 hi];lia) λys g f=>Ga<|q _ g<|(f.cons _).trans<|AJ _ _ _ e
end
def oU:Slot "set_iterator" "__next__" "set_iterator.__next__":=
 .of (owner:="set_iterator") (n:="__next__") (by kernel_rfl) (by decide+kernel) (by decide+kernel) (by decide+kernel) (.inl<|by decide+kernel) (by kernel_rfl)
def zD:entryFor table "set_iterator.__next__"=some Builtin.«set_iterator.__next__» := entryFor_of_tree (by kernel_rfl)
def VD(a:Value):argsOk "set_iterator.__next__" ⟨[a],[]⟩:=by
 kernel_rfl
def UZ:Slot "set_iterator" "__iter__" "set_iterator.__iter__":=
 .of (owner:="set_iterator") (n:="__iter__") (by kernel_rfl) (by decide+kernel) (by decide+kernel) (by decide+kernel) (.inl<|by decide+kernel) (by kernel_rfl)
def ŋ:entryFor table "set_iterator.__iter__"=some Builtin.«dict_keyiterator.__iter__» := entryFor_alias (id':="dict_keyiterator.__iter__") (by kernel_rfl) rfl (by decide+kernel) (by kernel_rfl)
def bB4(a:Value):argsOk "set_iterator.__iter__" ⟨[a],[]⟩:=by
 kernel_rfl
def ÿ:entryFor table "set.__iter__"=some Builtin.«frozenset.__iter__» := entryFor_alias (id':="frozenset.__iter__") (by kernel_rfl) rfl (by decide+kernel) (by kernel_rfl)
def bEj:typeLookup (.type "set") "__len__"=pure (some<|.builtin "set.__len__"):=by kernel_rfl
def yo(first:Value)(i:Nat)(a:Addr)(n b:Nat):Obj:={cls:=.type "set_iterator",dict:=none,data:=.fields #[first,.int i 0,.ref a,.int n 0,.int b 0],slots := #[]}
section
variable{prog:Program}{w:World}{A:Around}{E:am}{s:Shared}
def bEk{e:sw} {t:SetTable} {f:Nat} {v:Value} {Q:v6}
  (d:s.heap.get? I=some (yo (.int c 0) i a e.size ep)) (x:Xb b a ns e ep t s.heap)
  (k:∀(A:Around)(E:am) (Q:x0),Q (some (v,f)) s->wpAny (model prog w) A (setNext a c i ep) Q E s)
  (q:∀g,g.get? I=some (yo (.int f 0) (i+1) a e.size ep)->Heap.SameBut I s.heap g->Q (some v) {s with heap:=g}) :
  wpAny (model prog w) A (pyNext<|.ref I) Q E s:=by
 have h:s.TypeIs (.ref I) "set_iterator":=⟨_,d,rfl⟩;refine qa<|Dk<|Ll h oU<|gi oU h zD (qa<|Ga<|qa<|Aw d rfl ?_)<|VD _;dsimp only;refine qa<|az x.obj rfl x.fit ?_;rw[Ea (by simp)]
 refine qa<|k _ _ _<|qa<|jr d rfl (by simp) ?_
 have j:(s.heap.update I (Obj.mapFields (·.setIfInBounds 0 (rawInt f)))).get? I=some (yo (.int f 0) i a e.size ep):=by
  rw[Nl _ d<|Yy<|uw rfl _];rfl
 refine qa<|jr j rfl (by simp)<|Ga ⟨v,rfl,Ga<|q _ ?_<|(Bt ..).trans<|Bt ..⟩
 rw[Nl _ j<|Yy<|uw rfl _];rfl
def p4{R:am}{Q:Fin->ut}(d:A.handled=none)(r:∀(a:Heap)(e:Addr),(∀b o,s.heap.get? b=some o->a.get? b=some o)->(∃o,a.get? e=some o/\o.cls=.type "StopIteration")->R (.ref e) {s with heap:=a}) :
  wpAny (model prog w) A (newExc (.type "StopIteration") [] >>= λe=>raiseNew e) Q R s:=by
 refine qa<|qa<|tm (qa<|HH (by first|rfl|(rfl))<|tm (qa<|wpAny_handled ?_)<|by size_fits)<|by size_fits
 rw[d];exact qa<|Ga<|wpAny_throw<|r _ _ (λb o c=>bc _<|bc _ c) ⟨_,we _ rfl,rfl⟩
def bIj{b:Bool} {h:sw} {t:SetTable} {Q:v6} (n:A.handled=none)
  (d:s.heap.get? I=some (yo (.int c 0) i a h.size ep)) (x:Xb b a ns h ep t s.heap)
  (l:∀(A:Around)(E:am) (Q:x0),Q none s->wpAny (model prog w) A (setNext a c i ep) Q E s)
  (q:∀f,(∀b o,b≠I->s.heap.get? b=some o->f.get? b=some o)->Q none {s with heap:=f}) :
  wpAny (model prog w) A (pyNext<|.ref I) Q E s:=by
 have g:s.TypeIs (.ref I) "set_iterator":=⟨_,d,rfl⟩;refine qa<|Dk<|Ll g oU<|gi oU g zD (qa<|Ga<|qa<|Aw d rfl ?_)<|VD _;dsimp only;refine qa<|az x.obj rfl x.fit ?_;rw[Ea (by simp)]
 refine qa<|l _ _ _<|qa<|jr d rfl (by simp)<|p4 n λf e k o=>?_
 obtain⟨o,m,p⟩:=o;refine qa<|Mt ⟨o,m,p⟩ zw<|Ga<|q _ λb j r u=>k b j ?_
 rwa [Ml _ _<|bf r]
def Ō{d:sw} {t:SetTable} (x:Xb b a ns d ep t s.heap) (g:yM w=true) (c i:Nat) {Q:x0}
  (q:Q (((pickOrder (w.params.setOrder a ep) d)[i]?).map λe=>(e.2,c)) s):wpAny (model prog w) A (setNext a c i ep) Q E s:=by
 have f:=g;refine qa<|vw x.obj rfl x.fit ?_;dsimp only;refine qa<|qa<|xw<|Ga<|Eo (λ_=>?_) λh=>absurd f h
 rw[Ea (by simp)]
 exact qa<|qa<|vw x.obj rfl x.fit<|qa<|qa<|xw<|Ga<|Eo (λ_=>qa<|xw<|Ga<|Ga q) λh=>absurd f h
def Ss(t:SetTable):wS
 |0=>0
 |i+1=>t.place.getD i 0+1
theorem below_at{t:SetTable}(a:TI b t)(i:Nat)(l:i<=t.place.size):SetTable.below t.place (Ss t i)=i:=by
 obtain⟨d,c,f⟩:=eW t.place _ a.rise;generalize j:SetTable.below t.place _=m at d c f;rcases Ao m i with h|h|h
 .have lt:i-1<t.place.size:=by lia
  have:=c (i-1) _ (by lia)<|Cj lt
  have e:Ss t i=t.place[i-1]+1:=by
   cases i with
   |zero=>lia
   |succ k=>
    show t.place.getD k 0+1=_;rw[JG,Cj (by lia)]
    rfl
  lia
 .exact h
 have g:=d i _ h<|Cj<|by lia
 cases i with
 |zero=>exact absurd g<|nr _
 |succ k=>
  have e:Ss t (k+1)=t.place[k]+1:=by
   show t.place.getD k 0+1=_;rw[JG,(Cj _)];rfl
  have r:=qw.mp a.rise k (k+1) (by simp;lia) (by simp;lia) (by lia)
  simp at r;lia
theorem bB5{b:sw} {t:SetTable} (x:Xb true a ns b ep t s.heap) (f:yM w=false) (d:(!t.plain&&decide (b.size>1))=false) (i:Nat) (g:i<=b.size) {Q:x0}
  (q:Q ((b[i]?).map λe=>(e.2,Ss t<|i+1)) s):wpAny (model prog w) A (setNext a (Ss t i) i ep) Q E s:=by
 have sz:=by
  have:=x.fit;simp[SetTable.fits]at this;exact this.1
 refine qa<|vw x.obj rfl x.fit ?_;dsimp only;refine qa<|qa<|xw<|Ga<|Eo (λh=>absurd ((f).symm.trans h) Qh) λ_=>Eo (λh=>absurd (d.symm.trans h) Qh) λ_=>qa (m:=(if (!t.led && !b.isEmpty)=true then unsupported "set:maker-not-led" else pure ())) ?_
 rw[Ea (by rw[x.ti.led];exact Qh)]
 refine Ga ?_
 rw[below_at x.ti i (by rwa [sz])]
 by_cases c:i<b.size
 .rw[Cj c]at q;rw[Cj c,Cj _];refine Ga ?_
  have:Ss t (i+1)=t.place[i]+1:=by
   show t.place.getD i 0+1=_;rw[JG,Cj _];rfl
  rwa [this]at q
 rw[(BP<|by lia)]at q ⊢
 exact Ga q
def bEl{T:Addr} {d:sw} {t:SetTable} {ys:ac} {e:Int×Value} {y:Nat} {Q:v6}
  (c:s.heap.get? I=some (yo (.ref T) i a d.size ep)) (x:Xb b a ns d ep t s.heap) (h:s.heap.get? T=some {cls:=.type "tuple",data:=.seq (ys.map λ(n:Nat)=>rawInt n).toArray})
  (j:ys[i]?=some y) (he:d[y]?=some e)
  (q:∀f,f.get? I=some (yo (.ref T) (i+1) a d.size ep)->Heap.SameBut I s.heap f->Q (some e.2) {s with heap:=f}) :
  wpAny (model prog w) A (pyNext<|.ref I) Q E s:=by
 have g:s.TypeIs (.ref I) "set_iterator":=⟨_,c,rfl⟩;refine qa<|Dk<|Ll g oU<|gi oU g zD (qa<|Ga<|qa<|Aw c rfl ?_)<|VD _;dsimp only;refine qa<|az x.obj rfl x.fit ?_;rw[Ea (by simp)]
 refine qa<|Sj h rfl ?_;dsimp only;have k:((ys.map λ(n:Nat)=>rawInt n).toArray)[(i:Int).toNat]?=some (.int y 0):=by
  rw[bz,Kt,Fi,j];rfl
 rw[k];refine qa<|qa<|vw x.obj rfl x.fit ?_;dsimp only;rw[Ea (by simp),bz,he]
 refine Ga<|qa<|jr c rfl (by simp)<|Ga ⟨e.2,rfl,Ga<|q _ ?_<|Bt ..⟩
 rw[Nl _ c<|Yy<|uw rfl _];rfl
def bIk{T:Addr}{b:Bool} {f:sw} {t:SetTable} {ys:ac} {Q:v6} (r:A.handled=none)
  (c:s.heap.get? I=some (yo (.ref T) i a f.size ep)) (x:Xb b a ns f ep t s.heap) (l:s.heap.get? T=some {cls:=.type "tuple",data:=.seq (ys.map λ(n:Nat)=>rawInt n).toArray})
  (p:ys[i]?=none)
  (q:∀d,(∀b o,b≠I->s.heap.get? b=some o->d.get? b=some o)->Q none {s with heap:=d}) :
  wpAny (model prog w) A (pyNext<|.ref I) Q E s:=by
 have h:s.TypeIs (.ref I) "set_iterator":=⟨_,c,rfl⟩;refine qa<|Dk<|Ll h oU<|gi oU h zD (qa<|Ga<|qa<|Aw c rfl ?_)<|VD _;dsimp only;refine qa<|az x.obj rfl x.fit ?_;rw[Ea (by simp)]
 refine qa<|Sj l rfl ?_;dsimp only;have y:((ys.map λ(n:Nat)=>rawInt n).toArray)[(i:Int).toNat]?=none:=by
  rw[bz,Kt,Fi,p];rfl
 rw[y];refine qa<|jr c rfl (by simp) ?_
 have v:(s.heap.update I (Obj.mapFields (·.setIfInBounds 0 (rawInt 0)))).get? I=some (yo (.int 0 0) i a f.size ep):=by
  rw[Nl _ c<|Yy<|uw rfl _];rfl
 refine qa<|jr v rfl (by simp)<|p4 r λd e k o=>?_
 obtain⟨o,m,u⟩:=o;refine qa<|Mt ⟨o,m,u⟩ zw<|Ga<|q _ λb j g z=>k b j ?_
 rwa [Ml _ _<|bf g,Ml _ _<|bf g]
def t4{o:Obj} (c:s.heap.get? I=some o) (b:o.cls=.type "set_iterator") (q:Q (.ref I) s):wpAny (model prog w) A (pyIter<|.ref I) Q E s:=by
 have a:s.TypeIs (.ref I) "set_iterator":=⟨o,c,b⟩;exact dz a UZ<|gi UZ a ŋ ((Ga ⟨_,rfl,"set_iterator",_,a,oU.lookup,q⟩))<|bB4 _
def VZ(u:A.handled=none) (r:a≠I) {j:sw} {t:SetTable} (c:wS) (vs:cr)
  (m:∀(s:Shared)(i:Nat),i<=vs.length->Xb b a ns j ep t s.heap->∀(A:Around)(E:am) (Q:x0),Q ((vs[i]?).map λv=>(v,c<|i+1)) s->wpAny (model prog w) A (setNext a (c i) i ep) Q E s) :
  Walks prog w A I [I,a] [I] vs.length (λi v=>vs[i]?=some v) (λi h=>h.get? I=some (yo (.int (c i) 0) i a j.size ep)/\Xb b a ns j ep t h) where
 sub:=λb f=>by rw[Mc.mp f];exact Cb
 frame:=λ_ _ _ st k=>⟨k I Cb _ st.1,st.2.keep λo d=>k a (Kb _ Cb) o d⟩
 item:=λi s Q E n st q=>by
  have e:=Zc n;refine bEk st.1 st.2 (λA E l h=>m s i (Fo n) st.2 A E l<|by rwa [e]) λg x p=>?_
  have k:∀b o,b≠I->s.heap.get? b=some o->g.get? b=some o:=λb o f d=>by rwa [p.2 b f]
  exact q _ g s.toks e ⟨x,st.2.keep λo d=>k a o r d⟩ λb o f d=>k b o (λh=>f<|Mc.mpr h) d
 done:=λs Q E st q=>
  bIj u st.1 st.2 (λA E l h=>m s _ (Ib _) st.2 A E l<|by rwa [Xq<|Ib _]) λg k=>q g s.toks λb o f d=>k b o (λh=>f<|Mc.mpr h) d
 self:=λ_ _ _ _ st q=>t4 st.1 rfl q
def bEm(r:A.handled=none){T:Addr}(p:a≠I)(nT:T≠I) {f:sw} {t:SetTable} (ys:ac) (lt:∀y∈ys,y<f.size) :
  Walks prog w A I [I,a,T] [I] (ys.map λy=>(f.getD y (0,.none)).2).length (λi v=>(ys.map λy=>(f.getD y (0,.none)).2)[i]?=some v)
   (λi h=>h.get? I=some (yo (.ref T) i a f.size ep)/\Xb b a ns f ep t h/\h.get? T=some {cls:=.type "tuple",data:=.seq (ys.map λ(n:Nat)=>rawInt n).toArray}) where
 sub:=λb d=>by rw[Mc.mp d];exact Cb
 frame:=λ_ _ _ st k=>⟨k I Cb _ st.1,st.2.1.keep λo c=>k a (Kb _ Cb) o c,k T (Kb _<|Kb _ Cb) _ st.2.2⟩
 item:=λi s Q E j st q=>by
  rw[Gb]at j;have e:=Zc j;have l:=Cj<|lt _<|Rh j;refine bEl st.1 st.2.1 st.2.2 e l λg u m=>?_
  have k:∀b o,b≠I->s.heap.get? b=some o->g.get? b=some o:=λb o d c=>by rwa [m.2 b d]
  refine q _ g s.toks ?_ ⟨u,st.2.1.keep λo c=>k a o p c,k T _ nT st.2.2⟩ λb o d c=>k b o (λh=>d<|Mc.mpr h) c
  rw[Fi,e];simp[l]
 done:=λs Q E st q=>by
  rw[Gb]at st;exact bIk r st.1 st.2.1 st.2.2 (Xq<|Ib _) λg k=>q g s.toks λb o d c=>k b o (λh=>d<|Mc.mpr h) c
 self:=λ_ _ _ _ st q=>t4 st.1 rfl q
def Nums(vs:cr)(a:lw):Prop:=(vs.map numOf).Perm a/\∀v∈vs,∃n t,v=.int n t
def Xb.Ni{c:sw} {t:SetTable} (x:Xb b a ns c ep t h) {l:List (Int×Value)} (p:l.Perm c.toList):Nums (l.map (·.2)) ns:=by
 refine⟨?_,λv hv=>?_⟩
 .rw[vg];exact(p.map λe=>numOf e.2).trans x.perm
 obtain⟨e,f,rfl⟩:=ze.mp hv;obtain⟨n,d,rfl⟩:=x.nums e<|p.mem_iff.mp f;exact⟨n,d,rfl⟩
def bEn(p:A.handled=none) (x:iW (!yM w) a ns s.heap) (O:ns.length<scanBound)
  (q:∀(I:Addr)(u:Heap)(d:_)(vs:cr)(D:be)(St:Ch),Nums vs ns->(∀b o,s.heap.get? b=some o->u.get? b=some o)->s.heap.objs.size<=I->(∀f∈D,f=a\/s.heap.objs.size<=f)->
   Walks prog w A I D [I] vs.length (λi v=>vs[i]?=some v) St->St 0 u->Q (.ref I) {s with heap:=u,drawn:=d}) :
  wpAny (model prog w) A (pyIter<|.ref a) Q E s:=by
 obtain⟨g,G,t,x⟩:=x;have C:s.TypeIs (.ref a) "set":=⟨_,x.obj,rfl⟩;have n:=Vb x.obj;refine dz C F.slot_set_iter<|gi F.slot_set_iter C ÿ (qa<|qa<|Ga<|(Ga<|qa<|qa<|az x.obj rfl x.fit<|Ga ?_))<|F.args_set_iter_1 _;refine qa<|qa<|vw x.obj rfl x.fit ?_;refine qa<|qa<|xw<|Ga<|Ga ?_;have k:∀(j:Shared)(first:Value),Xb (!yM w) a ns g G t j.heap->Q (.ref j.heap.objs.size) {j with heap:=j.heap.push _}->wpAny (model prog w) A.in1 (setEpoch a >>= λe=>newFields "set_iterator" [first,rawInt 0,.ref a,rawInt g.size,rawInt e] >>= λr=>ret r)
   (λk j=>∃r,k=.done (.ret r)/\∃H K,j.TypeIs r H/\typeLookup (.type H) "__next__"=pure (some K)/\Q r j) E j:=λj first y L=>by
  refine qa<|wpAny_setEpoch_of y.obj rfl y.fit ?_;exact qa<|tm<|Ga ⟨_,rfl,"set_iterator",_,⟨_,we _ rfl,rfl⟩,oU.lookup,L⟩
 by_cases m:(!yM w&&(!t.plain&&decide (g.size>1)))=true
 .refine Eo (λ_=>qa<|bEi g.size (List.range g.size) s _ Ut λys d py=>?_) λh=>absurd m h
  have sz:ys.length<=sizeLine:=UG (by rwa [py.length_eq,Ut,x.size])
  refine qa<|tm (k _ _ (x.keep λo c=>bc _ c) (q _ _ d _ _ _ ?_ (λb o c=>bc _<|bc _ c) ?_ (λf hf=>?_)
   (bEm p ?_ ?_ ys<|λy M=>Vi.mp<|py.mem_iff.mp M) ⟨we _ rfl,x.keep λo c=>bc _<|bc _ c,bc _<|we _ rfl⟩))<|by show (List.map _ ys).toArray.size<=sizeLine;rwa [cg,Gb]
  .have e:(ys.map λy=>(g.getD y (0,.none)).2)=(ys.map λy=>g.getD y (0,.none)).map (·.2):=by rw[vg];rfl
   rw[e];refine x.Ni<|(py.map _).trans<|List.Perm.of_eq<|NP λi=>?_
   by_cases l:i<g.size
   .simp[List.getElem?_map,List.getElem?_range l,getD_eq_getD_getElem?,l]
   simp[l]
  .rw[Hi];exact Jo _
  .rcases Mb.mp hf with h|h
   .exact .inr (by rw[h,Hi];exact Jo _)
   rcases Mb.mp h with h|h
   .exact .inl h
   exact .inr<|Sm (Mc.mp h).symm
  .rw[Hi];exact zd<|Nat.lt_succ_of_lt n
  rw[Hi];exact zd<|Pt _
 refine Eo (λh=>absurd h m) λ_=>qa<|Ga<|k s (.int 0 0) x ?_
 by_cases B:yM w=true
 .refine q s.heap.objs.size _ s.drawn ((pickOrder (w.params.setOrder a G) g).toList.map (·.2)) _ _ (x.Ni<|Μ _ g) (λb o c=>bc _ c) (Ib _) (λf hf=>?_)
   (VZ p (zd n) (λ_=>0) _ λs i l y A E N h=>Ō y B 0 i ?_) ⟨we _ rfl,x.keep λo c=>bc _ c⟩
  .rcases Mb.mp hf with h|h
   .exact .inr (Sm h.symm)
   exact .inl<|Mc.mp h
  rwa [Fi,Option.map_map,ir]at h
 have z:yM w=false:=by revert B;cases yM w<;>intro h<;>first|rfl|exact absurd rfl h
 have J:=by rw[z]at x;exact x
 refine q s.heap.objs.size _ s.drawn (g.toList.map (·.2)) _ _ (x.Ni<|CH _) (λb o c=>bc _ c) (Ib _) (λf hf=>?_)
  (VZ p (zd n) (Ss t) _ λs i l y A E N h=>bB5 y z (by
  rw[z]at m;revert m;cases (!t.plain&&decide (g.size>1)) <;> intro h<;>first|rfl|exact absurd rfl h) i (by simpa using l) ?_) ⟨Heap.get?_push_size _ rfl,J.keep λo c=>Heap.get?_push_of_some _ c⟩
 .rcases Mb.mp hf with h|h
  .exact .inr (Sm h.symm)
  exact .inl<|Mc.mp h
 rwa [Fi,Option.map_map,ir]at h
end
section
variable{w:World}{A:Around}
def bB6{r:Addr}{Q:wv}(a:s.TypeIs (.ref r) "set")(q:Q false s):wpAny (model prog w) A (Builtin.List.listLengthHint<|.ref r) Q E s:=by
 refine qa<|yw a bEj ?_;generalize Sw:("set.__len__")=id0;subst Sw;exact qa<|Mt a sub_set_self<|Eo (λh=>absurd h<|by decide) λ_=>Eo (λ_=>qa<|GH a<|Ga q) λh=>absurd (by decide+kernel) h
def iW.typeIs(x:iW b a ns s.heap):s.TypeIs (.ref a) "set":=let ⟨_,_,_,y⟩:=x;⟨_,y.obj,rfl⟩
def Nums.len{vs:cr} (h:Nums vs ns):vs.length=ns.length:=by
 simpa using h.1.length_eq
def bIl{S:Addr} {R:Result->ut} (T:A.handled=none) (x:iW (!yM w) a ns s.heap) (N:ns.length<scanBound) (z:s.heap.get? S=some {cls:=.type "list",data:=.seq #[] 0}) (F:S≠a)
  (r:∀(m:Heap)(d:_)(M:Nat)(vs:cr)(c:Nat),Nums vs ns->(∀b o,b≠S->s.heap.get? b=some o->m.get? b=some o)->m.get? S=some {cls:=.type "list",dict:=none,data:=.seq vs.toArray c,slots := #[]}->R (.ok<|.ret res) {s with heap:=m,drawn:=d,toks:=M}) :
  wpAny (model prog w) A.in1 (Builtin.List.listExtendWith (.ref S) (.ref a) res) (λB l=>match B with|.done f=>R (.ok f) l|.again q=>q.quiet=true/\codeAny (model prog w) A q R l) (λe l=>R (.error e) l) s:=by
 refine qa<|GH x.typeIs ?_;rw[Ea (by simp[Builtin.List.listSameRef,F])]
 refine qa<|bEn (A:=A.in1) T x N λI m d vs U St E k P O W st=>qa<|Ff<|bB6 (iW.typeIs<|x.keep λo g=>k a o g) ?_
 have G:S∉U:=λh=>by
  rcases O S h with e|e
  .exact F e
  exact absurd (Vb z)<|Nat.not_lt.mpr e
 have K:∀(n:Heap)(u:Nat),St 0 n->(∀b o,b≠S->s.heap.get? b=some o->n.get? b=some o)->n.get? S=some {cls:=.type "list",data:=.seq #[] u}->
   codeAny _ A _ R {s with heap:=n,drawn:=d}:=λn u t Q y=>by
  refine codeAny_extend_loopS W.toS (UG<|by rwa [E.len]) S G res vs.length 0 _ #[] u rfl (Gf _) t y (ItemsOf.nil _) λl p q H X it=>?_
  have V:p=vs.toArray:=by
   apply ext';refine NP λi=>?_
   rw[ir];cases J:p[i]? with
   |some v=>exact(it.2 i v J).symm
   |none=>exact(Xq<|by rw[<-it.1];exact Array.getElem?_eq_none_iff.mp J).symm
  subst V;rw[Moved.eq_with H];refine r l.heap d l.toks vs q E (λb o j g=>H.heap b o (λhm=>?_)<|Q b o j g) X
  rcases Mb.mp hm with h|h
  .exact j h
  exact absurd (Vb g) (by rw[Mc.mp h];exact Nat.not_lt.mpr P)
 refine Eo (λ_=>qa<|ur<|qa<|?_) λ_=>Ga ⟨vm TF _,K m 0 st (λb o _ g=>k b o g)<|k S _ z⟩
 have D:=k S _ z;have C:=Nl (Obj.mapSeq (·.push Value.none)) D rfl;have L:∀b o,b≠S->m.get? b=some o->((m.update S (Obj.mapSeq (·.push Value.none))).update S (Obj.mapSeq (·.pop))).get? b=some o:=λb o j g=>by
  rwa [Ml _ _<|bf j,Ml _ _<|bf j]
 exact qa<|Ep D rfl<|Ep C rfl<|Ga ⟨vm TF _,K _ _ (W.frame 0 _ _ st λb j o g=>L b o (λe=>G<|e ▸ j) g) (λb o j g=>L b o j<|k b o g)<|Nl _ C rfl⟩
def bEo{R:Gc}(u:A.handled=none)(x:iW (!yM w) a ns s.heap)(n:ns.length<scanBound)
  (r:∀(g:Heap)(d:_)(h:Nat)(vs:cr),Nums vs ns->(∀b o,s.heap.get? b=some o->g.get? b=some o)->R vs {s with heap:=g,drawn:=d,toks:=h}) :
  wpAny (model prog w) A (collect<|.ref a) R E s:=by
 refine qa<|wpAny_runValue<|Rj entry_proto_collect'<|qa<|tm<|Ga ⟨vm M8 _,Rj entry_list_iadd' ?_⟩;have t:=let ⟨_,_,_,y⟩:=x;Vb y.obj;have i:∀(g:Heap)(d:_)(h:Nat)(vs:cr)(c:Nat),Nums vs ns->(∀b o,s.heap.get? b=some o->g.get? b=some o)->g.get? s.heap.objs.size=some {cls:=.type "list",dict:=none,data:=.seq vs.toArray c,slots := #[]}->
   wpAny (model prog w) A (load s.heap.objs.size >>= λo=>match o.data with|.seq xs _=>pure xs.toList|_=>unsupported "internal:collect") R E {s with heap:=g,drawn:=d,toks:=h}:=λg d h vs c j k o=>by
  exact qa<|wpAny_load o<|Ga<|r g d h vs j k
 refine oi (bIl (s:={s with heap:=s.heap.push {cls:=.type "list",data:=.seq ([]).toArray} }) (prog:=prog)
  (R:=λq m=>q=.ok _/\∃(g:Heap)(d:_)(h:Nat)(vs:cr)(c:Nat),m={s with heap:=g,drawn:=d,toks:=h}/\Nums vs ns/\(∀b o,s.heap.get? b=some o->g.get? b=some o)/\g.get? s.heap.objs.size=some {cls:=.type "list",dict:=none,data:=.seq vs.toArray c,slots := #[]})
  u (x.keep λo l=>bc _ l) n (we _ rfl) (kr t)
  λg d h vs c j k o=>⟨rfl,g,d,h,vs,c,rfl,j,λb p l=>k b p (zd<|Vb l)<|bc _ l,o⟩) (λfin m y=>?_) λe m y=>nomatch y.1
 cases fin with
 |done f=>
  obtain⟨e,g,d,h,vs,c,rfl,j,k,o⟩:=y;cases e;exact i g d h vs c j k o
 |again v=>
  refine⟨y.1,Um y.2 λq B z=>?_⟩
  obtain⟨rfl,g,d,h,vs,c,rfl,j,k,o⟩:=z;exact i g d h vs c j k o
theorem WZ:∀{vs:cr},(∀v∈vs,∃n t,v=Value.int n t)->IntsAre vs (vs.map Pu.numOf)
 |[],_=>IntsAre.nil
 |v::vs,h=>by
  obtain⟨n,t,rfl⟩:=h v Cb;exact IntsAre.cons _ _<|WZ λv a=>h v<|Kb _ a
theorem ō(m:A.handled=none)(x:iW (!yM w) a ns s.heap)(n:ns.length<64)
  (q:∀(D:Addr)(e:Heap)(d:_)(f:Nat)(out:xL)(So:lw)(c:Nat),IntsAre out.toList So->So.Perm ns->So.Pairwise (· <= ·)->(∀b o,s.heap.get? b=some o->e.get? b=some o)->(∀b o,s.heap.get? b=some o->b<D)->e.get? D=some (seqObj "list" out c)->Q (.ref D) {s with heap:=e,drawn:=d,toks:=f}) :
  wpAny (model prog w) A (call (.builtin "sorted") [.ref a]) Q E s:=by
 refine Calls.call_function_entry kind_sorted plain_sorted entry_sorted (args_sorted1 _)<|qa<|Ga<|qa<|bEo m x (by unfold scanBound;lia) λe d f i g k=>?_
 have h:i.length<64:=by rwa [g.len]
 refine qa<|wpAny_newList ?_<|by rw[Vm];lia
 have o:(e.push _).get? e.objs.size=some (seqObj "list" i.toArray 0):=we _ rfl;refine qa<|Ff<|gi slot_list_sort ⟨_,o,rfl⟩ entry_list_sort (list_sort_tree o (WZ g.2) h λout So e1 e2 e3=>⟨_,rfl,?_⟩)<|args_list_sort _
 obtain⟨c,j⟩:=sortedHeap_at o;refine Ga ⟨_,rfl,q _ _ d f out So c e1 (e2.trans g.1) e3 (λb ob hb=>?_) (λb ob hb=>Vb<|k b ob hb) j⟩
 have l:=Vb<|k b ob hb;rw[sortedHeap_old (zd l) (by rw[Hi];exact Nat.lt_succ_of_lt l)]
 exact bc _<|k b ob hb
end
end Pu
namespace Pu
open PySem PySem.Spec PyProof.Rows L2
theorem RX(a:lw):∀k,k<=a.length->jt (λi=>a.getD i 0) k=bY (a.take k)
 |0,_=>rfl
 |k+1,h=>by
  have e:a.take (k+1)=a.take k++[a.getD k 0]:=by
   rw[KP,kh,Zc<|(by lia)]
   rfl
  rw[e];show Cp _ _=_;rw[RX a k (by lia)]
  unfold bY;rw[List.foldl_append];rfl
def bIm{l m:lw}(h:m.Perm l)(c:m.Pairwise (· <= ·)):m=eF l:=List.Perm.eq_of_pairwise (λa b _ _ e d=>Int.le_antisymm e d) c (AY l)<|h.trans (fG l).symm
theorem XZ:∀{a:cr}{b:lw},IntsAre a b->Ca (b.map V.int) a
 |_,_,.nil=>.nil
 |_,_,.cons n t h=>.cons ⟨t,rfl⟩<|XZ h
def bB7{w:World} (x:jF P w H h a o):∃u,h.get? a=some u:=by
 cases o with
 |lst xs=>obtain⟨_,_,_,_,e⟩:=x;exact⟨_,e⟩
 |tup xs=>obtain⟨_,_,_,o,e,_⟩:=x;exact⟨_,e⟩
 |dK b=>obtain⟨_,_,_,_,o,_,_,e,_⟩:=x;exact⟨_,e⟩
 |dT b=>obtain⟨_,_,_,_,o,_,_,e,_⟩:=x;exact⟨_,e⟩
 |set S n=>obtain⟨o,_,_,_,e,_⟩:=x;exact⟨_,e⟩
 |ins C i fs=>obtain⟨_,_,_,e,_⟩:=x;exact⟨_,e⟩
 |own y=>obtain⟨_,e⟩:=x;exact⟨_,e⟩
 |xd fs=>obtain⟨_,⟨_,_,_,e,_⟩,_⟩:=x;exact⟨_,e⟩
 |Uo lo g=>obtain⟨_,_,_,e⟩:=x;exact⟨_,e⟩
 |fg ob u=>obtain⟨e,_⟩:=x;exact⟨_,e⟩
 |lm d=>exact⟨_,(x)⟩
 |met f y=>exact⟨_,(x)⟩
 |ext c=>obtain⟨_,⟨_,e⟩,_⟩:=x;exact⟨_,e⟩
section
variable {a:Expr}
theorem Ŏ(n:X.calm=true):jY X (.type "set") (λxs H Q=>∃p a,xs=[.ref p]/\Pc X.K H p (a.map V.int)/\a.length<=4000/\∀l,H l=none->Q (.ref l) (Ra H l<|.ext<|iW (!yM X.w) l<|bY a)):=by
 intro D s σ H xs o Q I r h;obtain⟨p,a,rfl,j,hl,q⟩:=h;obtain⟨u,rfl,g⟩:=vals1 r;cases g;obtain⟨c,f,i,w⟩:=I.list j;have b:=f.length;rw[Gb]at b;refine bEh (I.ok.hd n) i.isList (by simpa using IZ f) (by rw[List.size_toArray,<-b];show a.length+1<4096;lia) λA v d m=>?_
 rw[show c.toArray.size=a.length by rw[cg,b],RX a _<|Ib _,QP]at d
 obtain⟨B,C,t,e⟩:=id d;exact⟨.ref s.heap.objs.size,_,I.laid (o:=.ext _) m (Ib _) ⟨d,⟨_,e.obj⟩,λz y x k=>x.keep k⟩,rfl,q _<|I.Ia.fresh<|Ib _⟩
theorem ŏ(F:X.calm=true):jY X (.builtin "sorted") (λxs H Q=>∃p a,xs=[.ref p]/\H p=some (.ext<|iW (!yM X.w) p a)/\a.length<64/\∀l,H l=none->Q (.ref l) (Ra H l<|.lst<|(eF a).map V.int)):=by
 intro R s σ H xs M Q I r h;obtain⟨p,a,rfl,A,C,q⟩:=h;obtain⟨u,rfl,x⟩:=vals1 r;cases x;obtain⟨G,_,_⟩:=I.Ia _ _ A;refine ō (I.ok.hd F) G C λD P d N i S c j B y g t E=>?_
 obtain rfl:=bIm B y;have w:H D=none:=by
  cases J:H D with
  |none=>rfl
  |some o=>
   obtain⟨u,e⟩:=bB7<|I.Ia D o J;exact absurd (t D u e)<|Gh _
 have f:aX H (Ra H D<|.lst<|(eF a).map V.int):=bL w;refine⟨.ref D,Ra H D _,I.step (ch:=[]) (λ_ z=>nomatch z) (λb o _ _ _ e _=>g b o e) (λb o _ _ _ e _=>⟨o.slots,g b o e⟩) (λb o _ e n=>by rwa [aK<|zd<|t b o e]) (λb o _ e=>⟨o,g b o e⟩) (λb xs e=>f _ _ e) (λb o u e=>f _ _ e) (λb O e=>⟨#[],by rw[f _ _ e];simp⟩) (λm ⟨o,K,L,j,r⟩=>⟨o,K,L,g _ o j,r⟩) (λb o e=>?_) I.bare,rfl,q _ w⟩
 by_cases k:b=D
 .subst k;rw[bB]at e;cases e;exact⟨by rw[Gb,((fG a).length_eq),Vm];lia,i.toList,c,XZ j,by simpa using E⟩
 rw[aK k]at e;exact(I.Ia b _ e).Pe (λb v _ q=>g b v q) (λb q=>f _ _ q) λb xs q=>f _ _ q
theorem YZ{K:Frag}{H:Hp}:∀(l:lw),bA K H (l.map D.int) (l.map V.int)
 |[]=>.nil
 |_::l=>.cons (bC.mpr rfl)<|YZ l
def yO(w:X.mg "sorted"=none)(b:X.mg "set"=none)(k:X.calm=true)(C:PE X a (tP X.K B f))(y:Gl X "sorted":=by rfl)(F:Gl X "set":=by rfl)(u:starEach [.Call (.Name "set" p1) [a] [] p2] X.env=(false,eval (.Call (.Name "set" p1) [a] [] p2) X.env)::starEach [] X.env:=by rfl)
  (g:vf a [] X.env:=by rfl):PE X (.Call (.Name "sorted" p0) [.Call (.Name "set" p1) [a] [] p2] [] pos) (tI X.K B<|e1 pU f):=by
 refine cF (lZ (ŏ k) y w bP<|bW (qK (Ŏ k) F b PyProof.Rows.boot_set (bW C dW g) (he:=g)) dW u) ?_
 rintro σ H Q ⟨A,st,d,h,z,q⟩;obtain⟨x,t,r⟩:=R.ua z;cases x<;>first|(cases r)|skip
 obtain⟨l,hl,E⟩:=R.ua r;obtain⟨c,D⟩:=aM E;cases D;refine⟨A,st,_,h,t,λv I s1 r1=>?_⟩
 obtain⟨p,G,e,o,i⟩:=r1.lst;rw[WC hl]at i;rw[MX i]at o;exact⟨p,l,by rw[e],o,c.1,λn j=>⟨n,_,rfl,bB,c.2,λm s=>q _ _ (s1.trans<|(bL j).trans<|bL s)<|fB (h.own.mono<|s1.trans<|bL j) s<|YZ _⟩⟩
end
section
variable {iter c:Expr} {t:Tg} {u:Ex}
def ZZ{is:ac}(y:L2.PI X tg iter (qk X.K B it))(z:∀(B:be)(C:Addr)(g:Shared)(e:Hp)(a:be),PG (eQ X scope C g e a) tg<|tG X.K B t)
  (v:∀(B:be)(C:Addr)(g:Shared)(e:Hp)(a:be),PT (eQ X scope C g e a) c<|tT X.K B u)
  (he:∀(B:be)(C:Addr)(g:Shared)(e:Hp)(a:be),PE (eQ X scope C g e a) elt<|tI X.K B f) (E:X.calm=true:=by rfl) (hsub:Ys is t:=by exact kF) (S:xc X scope is:=by exact .of rfl) (w:∀x,foldedSetIterable iter X.env x=pure x:=by intro _;rfl) :
  PE X (.ListComp elt [⟨tg,iter,[c],0⟩] scope pos) (tF X.K B<|bH is t it u f):=by
 intro i s σ H Q I h;refine yd λF=>?_
 obtain⟨A,st,d,j,D,q⟩:=h;obtain⟨xs,o,M⟩:=R.ua D;obtain⟨hl,L⟩:=aM M;obtain⟨ys,n,K⟩:=R.ua L;cases K;refine F (uX (te:=bj X.K f) (rest:=λb it p=>isTrue c b (eval c b) >>= λok=>if ok=true then (eval elt b >>= λx=>call _ [p,x] >>= λ_=>again<|.compLoop _ 0 it p b) else again (.compLoop _ 0 it p b)) S E y (λC g e a=>LF λB=>z B C g e a) (λ_ _ _=>rJ)
  (λC g e a it p s Q h=>RO h) (λC g e a it p τ H s i vs N Q I h q=>NN rfl (Iy λB=>he B C g e a) (b8 λB=>v B C g e a) τ H s i vs N Q I h (λ_ Q Z m h=>kD Q Z m h) q) w I
  (vF hsub (λτ H Q h=>h) j o hl n λp vs H1 H' s1 hp s2 hv r=>?_) λC p H5 s5 l s3 H3 a τ J I3 W I5 V k=>⟨l,V,λh' Y=>⟨.ref p,H5,OD I3 W J I5 Y,rfl,k⟩⟩)
 obtain⟨G,U,T,P,O⟩:=bMi s1 hp s2 hv r;have:=q p vs G U T O
 rwa [P]at this
end
def Ő(a v d:Value):argsOk "min" ⟨[a],[(ofString "key",v),(ofString "default",d)]⟩:=by kernel_rfl
section
variable {σ:L2.St}
def u4{k:Nat} {u:Value} {Q:VK} (F:Ja X.prog X.w X.K X.mg X.base gc k fa fd ps (Dc X.K np p)) (b:Bb (k+1) X.A) (c:Binds X.K fd ps []) (I:ya X aa σ H s) (r:RelV v u) (h:Dc X.K np p [v] H Q E0) :
  wpAny (model X.prog X.w) X.A.in1 (call (.ref fa) [u]) (EP X aa σ Q) (λ_ _=>False) s:=by
 refine Xt<|Um (F.run X.A.in1 X.stack s H _ [u] [v] Q E0 b.in1 I.Lp.in1 (c s [u] I.Pg<|by simpa using (F.len _ _ _ _ h)) (.cons r .nil) h) λr f a=>?_
 cases r with
 |error e=>exact a.elim
 |ok d=>
  cases d with
  |ret u=>exact I.after a
  |next=>exact False.elim a
  |brk=>exact False.elim a
  |cont=>exact False.elim a
theorem bIn{b:Addr}{e:ss}{ys:dL}{t:Bool} (M:X.A.units+64<cLine) (I:ya X aa σ H s) (B:ig X.K H a vs) (A:ig X.K H b e) (l:bA X.K H xs vs) (k:bA X.K H ys e) (g:gU xs<=60) (r:bZ xs=true) (p:bZ ys=true) (y:rm xs ys=.ok t) (q:Q (.bool t) s):wpAny (model X.prog X.w) X.A.in1 (richCompare .Lt (.ref a)<|.ref b) Q E s:=by
 refine yd λC=>?_
 obtain⟨c,o,v,_⟩:=I.tuple B;obtain⟨L,m,u,_⟩:=I.tuple A;obtain⟨⟨F,D,h,j⟩,f,z,n,g⟩:=id v;obtain⟨⟨N,J,data2,G⟩,i,K,w,d⟩:=id u;subst z g K d;refine C ?_
 refine richCompare_meets_room ⟨_,f,rfl⟩ ⟨_,i,rfl⟩ PySem.F.slot_tuple_lt PySem.F.entry_tuple_lt (PySem.F.args_tuple_lt_2 _ _) (ı a b c.toArray L.toArray n w D J j G t) ⟨f,i,?_,?_⟩ (by lia)
 .exact K3 I (A:=X.A.in1.in1) xs ys l k o m (by lia) r p y
 exact⟨(λx=>nomatch x),q⟩
def B6 {v:Value} (a:Ca zs its) (h:j<zs.length) (c:its.toArray[j]?=some v):RelV zs[j] v:=by
 obtain⟨u,b,q⟩:=a.get<|Zc h;have:=by simpa using c
 rw[b]at this;cases this;exact q
def B4{K:Frag} (a:bA K H ds zs) (h:j<ds.length) (b:j<zs.length):pb K H ds[j] zs[j]:=by
 obtain⟨z,e,q⟩:=a.get<|Zc h;rw[Zc b]at e;cases e;exact q
def C6{it:Addr} (I:ya X aa σ H s) (b:Oj X aa H it) (h:s.heap.get? it=some oI) (c:oI.data=.fields #[.ref l,.int j 0]):ya X (aa++[(it,oI)]) σ H s:=I.Qi λq a=>by
 rcases ji.mp a with a|a
 .exact I.pin q (Lg _ a)
 rw[Mc.mp a];exact⟨h,b.1,b.2.1,b.2.2.1,λv z=>by rw[c]at z;cases z⟩
def i0{S:Addr} (h:H S=some o) (w:nT o=true) (c:Own Z H):Own (S::Z) H:=λa b=>by
 rcases Mb.mp b with z|b
 .rw[z,h];exact w
 exact c a b
theorem bBa {k : Nat}    {g : List D -> R D} (F : Ja X.prog X.w X.K X.mg X.base gc k fa fd ps (Dc X.K 1 g)) (hr : Bb (k + 1) X.A) (E : Binds X.K fd ps []) (hc : X.calm = true) (hu : X.A.units + 64 < cLine)
     {it S:Addr} {dv:Value} {r:D} {Q:VK} (hl:Pc X.K H l zs) (hz:bA X.K (hide (S::Z) H) ds zs) (hZ:Own Z H) (sA:l≠it) (hS:H S=none)
  (hQ:∀v d,aX H d->pb X.K (hide Z d) r v->Q v d):∀(n j:Nat)(f:Shared)(d:Hp)(b kb:D)(p T:V),j+n=ds.length->ya X aa σ d f->Oj X aa d it->f.heap.IsListIter it l j->aX H d->d S=some (.lst [p,T])->
   pb X.K (hide (S::Z) d) b p->pb X.K (hide (S::Z) d) kb T->Zo g b kb (ds.drop j)=.ok r->
   codeAny (model X.prog X.w) X.A (.builtin "min.loop" ⟨[.ref it,.ref fa,.ref S],[(ofString "default",dv)]⟩) (λr f=>match r with|.ok (.ret v)=>EP X aa σ Q v f|.ok _=>False|.error e=>X.xe e f) f:=by
 have nm:(toString "min" ++ toString ".loop")="min.loop":=by decide
 have WH:=hz.length;intro n
 induction n with
 |zero=>
  intro j f d b kb p T hj I fp hit q s rb rk a;refine yd λm=>?_
  obtain⟨h,Y,pl,_⟩:=I.list<|q.seq hl;have W:=wz (prog:=X.prog) (w:=X.w) (A:=X.A.in1) (I.ok.hd hc) it l sA h.toArray;have xg:h.toArray.size=j:=by rw[cg,<-Y.length];lia
  obtain⟨_,Bh,n2,w,l2,o2⟩:=I.yj s;obtain⟨ub,w1,rfl,r3,r4⟩:=w.two;obtain⟨f1,L,f3,K,J,G⟩:=fp;have hSi:=aN s f1;have e:b=r:=by
   rw[cz (by lia)]at a
   cases a;rfl
  subst e;refine m<|Rj FG ?_;rw[Around.under_plainId Xy _];show wpAny _ X.A.in1 (seqItems? (.ref S) >>= _) _ _ f;refine qa<|Sj o2 rfl ?_;refine qa<|Ot<|W.done f _ _ ⟨by rwa [xg],pl.isList⟩ λh' U kk=>?_
  have I1:=I.turned (t':=U) (λb o E e=>kk b o (by simpa using E) e) f1 L K J G
  have B:=kk S _ (by simpa using hSi) o2
  refine qa<|Ep B rfl<|qa<|qr<|Ga ?_;have I2:=I1.Yl (t':=U) (f:=λ_ => #[]) s B rfl .nil<|Gf _
  refine⟨p,_,I2,r3,hQ p _ (λb o e=>?_) ?_⟩
  .rw[aK<|aN e hS];exact q _ _ e
  refine rb.mono λb o e=>?_
  unfold hide at e ⊢
  by_cases i:b∈S::Z
  .rw[Qa i]at e;cases e
  rw[Ea i]at e
  rwa [Ea λz=>i<|Kb _ z,aK λz=>i (by rw[z];exact Cb)]
 |succ n ih=>
  intro j f d b kb p T hj I fp hit q s rb rk a;refine yd λm=>?_
  have C:j<ds.length:=by lia
  have xA:j<zs.length:=by lia
  obtain⟨h,Y,pl,_⟩:=I.list<|q.seq hl;have W:=wz (prog:=X.prog) (w:=X.w) (A:=X.A.in1) (I.ok.hd hc) it l sA h.toArray;have xg:h.toArray.size=zs.length:=by rw[cg,<-Y.length]
  obtain⟨_,Bh,n2,w,l2,o2⟩:=I.yj s;obtain⟨ub,uk,rfl,r3,r4⟩:=w.two;obtain⟨f1,L,f3,K,J,G⟩:=id fp;rw[Zq C]at a;obtain⟨kd,hk,h2⟩:=R.ua a;split at h2
  rotate_left
  .cases h2
  rename_i x y;obtain⟨⟨c1,c2,c3⟩,h3⟩:=aM h2;obtain⟨t,ht,h4⟩:=R.ua h3;obtain⟨a2,va2,rfl,q3,q4⟩:=lC.mp rk;obtain rfl:uk=Value.ref a2:=r4;have own:=i0 s rfl<|hZ.mono q;have rd:=(B4 hz C xA).mono<|aX.hide q;refine m<|Rj FG ?_;refine qa<|Sj o2 rfl ?_;refine qa<|Ot<|W.item j f _ _ (by rwa [xg]) ⟨hit,pl.isList⟩ λv h' U hP Bu kk=>?_
  refine yd λm=>?_
  have I1:=I.turned (t':=U) (λb o E e=>kk b o (by simpa using E) e) f1 L K J G
  obtain⟨oI,TR,uu,Em⟩:=id Bu.1;have MB:=B6 Y xA hP;have I2:=C6 I1 fp TR Em;refine m<|qa<|Ot<|Ff<|oi (u4 F hr E I2 MB ⟨S::Z,[ds[j]],.tup x,own,.cons rd .nil,rfl,hk,λv O s2 w=>(⟨s2,w⟩:aX d O/\pb X.K (hide (S::Z) O) (.tup x) v)⟩) (λu s2 he=>?_) λ_ _ z=>z.elim
  refine yd λm=>?_
  obtain⟨EU,O,N,lx,c,fx⟩:=he;obtain⟨M,va,rfl,q1,q2⟩:=lC.mp fx;obtain rfl:u=Value.ref M:=lx;have A:=N.pin (it,oI)<|Lg _<|Lg _<|Mc.mpr rfl;have Vg:s2.heap.IsListIter it l (j+1):=⟨oI,A.1,uu,Em⟩;refine m<|qa<|Ot<|Ff<|qa<|bIn hu N (ig.of<|aQ _ _ _ _ q1) (ig.of<|c _ _<|aQ _ _ _ _ q3) (q2.mono<|aQ _ _) ((q4.mono<|aQ _ _).mono c) c1 c2 c3 ht<|qa<|Ff<|br<|qa<|qr<|Ga ?_;have Qu:=q.trans c;have P:=c _ _ s;have gq:=(aN P A.2.1).symm;cases t with
  |true=>
   rw[Qa rfl]at h4;simp only[if_true];refine yd λm=>?_
   obtain⟨_,iS,n3,r5,l3,B⟩:=N.yj P;refine m<|qa<|Ep B rfl<|qa<|qr ?_;rw[nm];have I4:=N.Nd.Yl (t':=s2.toks) (f:=λ_ => #[v,.ref M]) (ys:=[zs[j],.ref M]) P B rfl (.cons MB<|.cons rfl .nil) (by rw[Vm];show 2<=_;lia)
   have hd:hide (S::Z) (Ra O S<|.lst [zs[j],.ref M])=hide (S::Z) O:=mV Cb;refine Ga ⟨vm Xy _,ih (j+1) _ _ ds[j] (.tup x) zs[j] (.ref M) (by lia) I4 ?_ ?_ (λb o e=>?_) bB (by rw[hd];exact rd.mono<|aX.hide c) (by rwa [hd]) h4⟩
   .refine⟨?_,L,f3,K,J,G⟩;rw[aK gq];exact A.2.1
   .refine⟨oI,?_,uu,Em⟩;rw[Ml _ _ gq.symm];exact A.1
   rw[aK<|aN e hS];exact Qu _ _ e
  |false=>
   refine qa<|qr ?_;rw[nm];exact Ga ⟨vm Xy _,ih (j+1) _ _ b (.tup y) p (.ref a2) (by lia) N.Nd ⟨A.2.1,L,f3,K,J,G⟩ Vg Qu P (rb.mono<|aX.hide c) (rk.mono<|aX.hide c) h4⟩
end
section
variable{X:Cx}{B:be}{e:Expr}{f:Ex}{pos p kp nI bq Yk:Pos}
theorem ő {k : Nat}    {g : List D -> R D} (F : Ja X.prog X.w X.K X.mg X.base gc k fa fd ps (Dc X.K 1 g)) (hr : Bb (k + 1) X.A) (m : Binds X.K fd ps []) (hc : X.calm = true) (hu : X.A.units + 64 < cLine)
     {E:L2.St} (I:ya X aa E H s) {r:D} {Q:VK} (T:Pc X.K H l zs) (hz:bA X.K (hide Z H) ds zs) (hZ:Own Z H) (hm:Qq g (.lst ds)=.ok r)
  (hQ:∀v H',aX H H'->pb X.K (hide Z H') r v->Q v H'):wpAny (model X.prog X.w) X.A (call (.builtin "min") [.ref l] [(ofString "key",.ref fa),(ofString "default",.none)]) (EP X aa E Q) X.xe s:=by
 have nm:(toString "min" ++ toString ".loop")="min.loop":=by decide
 refine yd λh=>?_
 obtain⟨f,J,p,_⟩:=I.list T;have sA:l≠s.heap.objs.size:=by obtain⟨_,q,_⟩:=p.isList;exact zd<|Vb q
 have fp:=I.ph (Ib _) I.fresh;obtain⟨f1,C,f3,B,A,y⟩:=id fp;refine h<|kmk_tree PySem.F.kind_min PySem.F.plain_min PySem.F.entry_min (Ő _ _ _) ?_;refine qa<|HH (show Builtin.Builtins.bindParams "min" ["key","default"] 0 ⟨[],[(ofString "key",Value.ref fa),(ofString "default",Value.none)]⟩=pure [some<|Value.ref fa,some Value.none] from rfl) ?_
 refine qa<|Ga ?_;refine qa<|Ft p.isList ?_;refine qa<|tm ?_;rw[nm];refine Ga ⟨vm Xy _,?_⟩;have I1:ya X aa E H {s with heap:=s.heap.push {cls:=.type "list_iterator",data:=.fields #[.ref l,.int 0 0]} }:=I.kept λ_ _ q=>bc _ q
 have vh:(s.heap.push {cls:=.type "list_iterator",data:=.fields #[.ref l,.int 0 0]}).IsListIter s.heap.objs.size l 0:=⟨_,we _ rfl,rfl,rfl⟩;have M:s.heap.objs.size<(s.heap.push {cls:=.type "list_iterator",data:=.fields #[.ref l,.int 0 0]}).objs.size:=by rw[Hi];exact Pt _
 generalize s.heap.objs.size=it at *;generalize s.heap.push {cls:=.type "list_iterator",data:=.fields #[.ref l,.int 0 0]}=h1 at *;have w:=I1.Iu (t':=s.toks) .nil<|Gf _;have t:=I1.fresh;have V:(h1.push {cls:=.type "list",data:=.seq ([]).toArray}).IsListIter it l 0:=let ⟨o,a,b,c⟩:=vh;⟨o,bc _ a,b,c⟩;have L:(h1.push {cls:=.type "list",data:=.seq ([]).toArray}).get? h1.objs.size=some {cls:=.type "list",data:=.seq #[] 0}:=we _ rfl;have U:=zd M;dsimp only at w L V t ⊢;generalize h1.objs.size=S at *;have n:aX H (Ra H S<|.lst []):=bL t;have Qo:bA X.K (hide (S::Z) H) ds zs:=hz.mono λb o e=>by
  unfold hide at e ⊢
  by_cases j:b∈Z
  .rw[Qa j]at e;cases e
  rw[Ea j]at e;rw[Ea λz=>(Mb.mp z).elim (λz=>by rw[z,t]at e;cases e) j]
  exact e
 have Y:(Ra H S<|.lst []) it=none:=by rw[aK U];exact f1
 refine yd λh=>?_
 obtain⟨f,J,p,_⟩:=w.list<|n.seq T;have W:=wz (prog:=X.prog) (w:=X.w) (A:=X.A.in1) (w.ok.hd hc) it l sA f.toArray;have xg:f.toArray.size=zs.length:=by rw[cg,<-J.length]
 have WH:=hz.length;cases ds with
 |nil=>
  have P:f.toArray.size=0:=by rw[xg,WH];rfl
  refine h<|Rj FG<|qa<|Sj L rfl<|qa<|Ot<|W.done _ _ _ ⟨by rw[P];exact V,p.isList⟩ λh' G N=>?_
  have I3:=w.turned (t':=G) (λb o m e=>N b o (by simpa using m) e) Y C B A y
  refine qa<|ur<|Ga ?_;cases hm;exact⟨.Hb,_,I3,rfl,hQ _ _ n<|qG.mpr rfl⟩
 |cons d ds=>
  have OR:0<zs.length:=by rw[WH];exact BQ _
  obtain⟨O,hk,h2⟩:=R.ua hm;refine h<|Rj FG<|qa<|Sj L rfl<|qa<|Ot<|W.item 0 _ _ _ (by rw[xg];exact OR) ⟨V,p.isList⟩ λv h' G hP Bu N=>?_
  refine yd λh=>?_
  have I3:=w.turned (t':=G) (λb o m e=>N b o (by simpa using m) e) Y C B A y
  obtain⟨oI,TR,uu,Em⟩:=id Bu.1;have MB:=B6 J OR hP;have I4:=C6 I3 ⟨Y,C,f3,B,A,y⟩ TR Em;have K:=i0 bB rfl<|hZ.mono n;have rd:pb X.K (hide (S::Z)<|Ra H S<|.lst []) d zs[0]:=(B4 Qo (BQ _) OR).mono<|aX.hide n;refine h<|qa<|Ot<|Ff<|oi (u4 F hr m I4 MB ⟨S::Z,[d],O,K,.cons rd .nil,rfl,hk,λv x s2 r2=>(⟨s2,r2⟩:aX (Ra H S<|.lst []) x/\pb X.K (hide (S::Z) x) O v)⟩) (λu s2 he=>?_) λ_ _ z=>z.elim
  refine yd λh=>?_
  obtain⟨EU,x,I5,lx,i,fx⟩:=he;have ye:=i _ _ bB;have pn:=I5.pin (it,oI)<|Lg _<|Lg _<|Mc.mpr rfl;obtain⟨_,iS,n3,r5,l3,o3⟩:=I5.yj ye;refine h<|qa<|Ep o3 rfl ?_;rw[nm];have I6:=I5.Nd.Yl (t':=s2.toks) (f:=λ_ => #[v,u]) ye o3 rfl (.cons MB<|.cons lx .nil) (by rw[Vm];show 2<=_;lia)
  have hd:hide (S::Z) (Ra x S<|.lst [zs[0],EU])=hide (S::Z) x:=mV Cb;refine Ga ⟨vm Xy _,bBa F hr m hc hu T Qo hZ sA t hQ ds.length 1 _ _ d O zs[0] EU (by rw[dg];lia) I6 ?_ ?_ (λb o e=>?_) bB (by rw[hd];exact rd.mono<|aX.hide i) (by rw[hd];exact fx) h2⟩
  .refine⟨?_,C,f3,B,A,y⟩;rw[aK U];exact pn.2.1
  .refine⟨oI,?_,uu,Em⟩;rw[Ml _ _<|bf U];exact pn.1
  .rw[aK<|aN e t];exact i _ _<|n _ _ e
def bIo{k:Nat}{g:im}(h:Na X.prog X.w X.K X.mg X.base x k 1 g)(P:Bb j X.A)(W:k+1<=j)(hc:X.calm=true)(N:X.A.units+64<cLine)(T:X.mg "min"=none)(ha:PE X e (tI X.K B f))(o:Gl X x:=by rfl)(DR:Ce x:=by decide)(Y:Gl X "min":=by rfl)
  (O:vf e [] X.env:=by rfl)
  (he:backTo pos (starEach [e] X.env)=(false,eval e X.env)::backTo pos (starEach [] X.env):=by rfl) (Wf:(backTo pos<|starEach [e] X.env).any (·.1)=false:=by rfl)
  (Cn:(backToKw pos<|keywordEach [⟨some "key",.Name x kp,bq⟩,⟨some "default",.Constant .none jc nI,Yk⟩] X.env).all (·.1.isSome)=true:=by rfl) (n:(backToKw pos<|keywordEach [⟨some "key",.Name x kp,bq⟩,⟨some "default",.Constant .none jc nI,Yk⟩] X.env).any (·.1.isNone)=false:=by rfl)
  (U:(backToKw pos<|keywordEach [⟨some "key",.Name x kp,bq⟩,⟨some "default",.Constant .none jc nI,Yk⟩] X.env).filterMap (·.1)=[("key":Str),("default":Str)]:=by rfl) :
  PE X (.Call (.Name "min" p) [e] [⟨some "key",.Name x kp,bq⟩,⟨some "default",.Constant .none jc nI,Yk⟩] pos) (tI X.K B<|e1 (Qq g) f):=by
 obtain⟨r,fd,ps,F,m,L,bn⟩:=h.ex;intro t s σ H Q I h;obtain⟨A,st,d,z,Z,q⟩:=h;obtain⟨y,M,c⟩:=R.ua Z;obtain⟨ds,rfl⟩:∃ds,y=.lst ds:=by
  unfold Qq at c;split at c
  .exact⟨_,rfl⟩
  .exact⟨_,rfl⟩
  cases c
 refine ar<|qO I Y T rfl (callWith_kw (Lb (bW ha dW O pos t s σ H (λw H1=>∃l a,w=[V.ref l]/\aX H H1/\Pc X.K H1 l a/\bA X.K (hide (A++B) H1) ds a) I ?_) λus s1 ⟨w,H1,I1,r1,l,a,e1,sm,q1,q2⟩=>?_) he Wf Cn n) (by decide) rfl
 .refine⟨A,st,_,z,M,λv H1 s1 r1=>?_⟩
  obtain⟨l,a,rfl,S,ZH⟩:=dM.mp r1;exact⟨l,a,rfl,s1,(aQ _ _).seq S,ZH⟩
 subst e1;obtain⟨u,rfl,E⟩:=r1.one;obtain rfl:u=Value.ref l:=E;refine kws_cons<|Lb (Fx (v:=.ref r) o m rfl DR t s1 σ H1 (λb i=>b=.ref r/\i=H1) I1 ⟨rfl,rfl⟩) λv D ⟨b,i,I2,K,e2,e3⟩=>?_
 subst e2 e3;obtain rfl:v=Value.ref r:=K;refine kws_cons<|Lb (L4 t D σ _ (λb i=>b=.Hb/\i=_) I2 ⟨rfl,rfl⟩) λv s3 ⟨b,H3,I3,J,e4,e5⟩=>kws_nil ?_
 subst e4 e5;obtain rfl:v=Value.none:=J;exact ő F (P.mono W) bn hc N I3 q1 q2 (z.own.mono sm) c λv H' C G=>q v H' (sm.trans C) G
def Xv(K:Frag)(T:Addr)(bs:u8):Prop:=∃(o:Obj)(a:xL)(n:Nat),K.lookup T=some o/\o.cls=.type "tuple"/\o.data=.seq a n/\a.size<=sizeLine/\Ca (bs.map V.bl) a.toList
theorem y0{K:Frag}{H:Hp}:∀(bs:u8),bA K H (bs.map D.bl) (bs.map V.bl)
 |[]=>.nil
 |_::bs=>.cons (cA.mpr rfl)<|y0 bs
def bEp{K:Frag} {T:Addr} {bs:u8} (m:nsIn K mainGlobals (ofString nF)=some (some<|.ref T)) (p:Xv K T bs):wX K (λx y H Q=>DB K x y H Q\/OO x y H Q) (Fy nF bs):=by
 intro A H x y d v u Q w f c e q;unfold Fy at e;split at e
 .rename_i g;obtain⟨rfl,e2⟩:=aM e;have ⟨i,n⟩:∃i,y=.int i:=by
   cases y with
   |int i=>exact⟨i,rfl⟩
   |_=>cases e2
  subst n;have h:=rH<|show Fg (Pu.Ee (bs.map D.bl) i)=.ok d from e2
  have b:pb K (hide A H) (.fn g) v:=by
   rcases f with h|⟨_,l,_,_,_,e1,_⟩
   .exact h
   .cases l<;>cases e1
  obtain⟨a,rfl,j⟩:=PM.mp b;rw[m]at j;cases j;obtain⟨z,o,k⟩:=(y0 (K:=K) (H:=hide A H) bs).Ee h;exact .inl<|.inr<|.inl ⟨T,_,i,z,rfl,c.int,.inr p,o,q _ H (aX.refl _) k⟩
 .exact C3 A H x y d v u Q w f c e q
def v7{a b:Expr} {T:Addr} {bs:u8} (e:nsIn X.K mainGlobals (ofString nF)=some (some<|.ref T)) (k:Xv X.K T bs) (c:X.A.units+64<cLine) (j:PE X a (tP X.K B f)) (i:PE X b (tP X.K B g)) (d:UK b:=by intro _ _;rfl):PE X (.Subscript a b pos) (tI X.K B<|e2 (Fy nF bs) f g):=
 cF (nN (eM.or<|A3 c) j i d) λ_ _ _ h=>Yx (bEp e k) h
def bBb(st:za)(d:D)(h:e1 Rv f st=.ok d):∃xs,d=.lst xs:=by
 obtain⟨x,_,a⟩:=R.ua h;unfold Rv at a;split at a
 .obtain⟨l,_,c⟩:=R.ua a;obtain⟨_,b⟩:=aM c;cases b;exact⟨_,rfl⟩
 cases a
def bEq{a:Expr} (D:X.mg "list"=none) (G:X.calm=true) (I:PE X a (tP X.K B f)) (E:Gl X "list":=by rfl) (m:vf a [] X.env:=by rfl):PE X (.Call (.Name "list" p0) [a] [] pos) (tF X.K B<|e1 Hs f):=by
 refine cF (qK (YV G) E D rfl (bW I dW m) (he:=m)) ?_
 rintro σ H Q ⟨A,st,d,l,F,q⟩;obtain⟨x,C,b⟩:=R.ua F;refine⟨A,st,x,l,C,λv H1 s1 r1=>?_⟩
 unfold Hs at b;split at b
 .obtain⟨c,K⟩:=aM b;cases K;have w:=l.own.mono s1;rcases r1 with h|⟨p,z,o,M,s,e,e2,h,y,r⟩
  .obtain⟨p,s,rfl,J,L⟩:=qH.mp h;rcases J with ⟨k,_⟩|⟨_,g,k,rfl,rfl⟩
   .cases k
   exact⟨p,g,rfl,aQ _ _ _ _ k,λn u i j=>q n _ H1 s1 i<|j.nq w⟩
  cases z<;>cases e;rcases y with ⟨t,_⟩|⟨_,g,rfl,rfl,rfl⟩
  .cases t
  exact⟨p,g,by rw[e2],h,λn u i j=>q n _ H1 s1 i<|j.nq w⟩
 cases b
end
structure eh(P:Program)(w:World)(K:Frag)(mg:jp)(base:Heap)(x:Str)(k np:Nat)(dv:dL)(p:im):Prop where
 ex:∃(fa:Addr)(fd:FuncData)(ps:wP)(ds:cr)(Mf:ss),Ja P w K mg base gc k fa fd ps (Dc K np p)/\mg x=some (.ref fa)/\keepIn K (.ref fa)=true/\Binds K fd ps ds/\Ca Mf ds/\∀H,bA K H dv Mf
 len:∀ds d,p ds=.ok d->ds.length=np
section
def z0{k:Nat} (h:eh X.prog X.w X.K X.mg X.base x k np dv p) (o:Bb j X.A) (s:k<=j) (y:PA X (e::es) (tA X.K B r)) (t:Gl X x:=by rfl) (C:Ce x:=by decide)
  (he:vf e es X.env:=by rfl) (Vf:Aj pos es X.env:=by rfl):PE X (.Call (.Name x p0) (e::es) [] pos) (tI X.K B<|CM p dv r):=by
 obtain⟨I,G,E,ds,J,F,m,l,bd,v,f⟩:=h.ex;refine cF (D0 F (o.mono s) t m l bd v RE y C he Vf) ?_
 rintro σ H Q ⟨A,st,d,a,u,q⟩;obtain⟨xs,n,b⟩:=R.ua u;exact⟨A,st,xs,a,n,λD K s1 g=>⟨A++B,xs++dv,d,a.own.mono s1,g.append<|f _,h.len _ _ b,b,λw z c i=>q w z (s1.trans c) i⟩⟩
end
section
variable {a b:Expr}
def A7(i:PE X e (tI X.K B f))(c:PE X e (tI X.K B g)):PE X e (tI X.K B<|xp f g):=by
 intro b s σ H Q I h;obtain⟨A,st,d,a,j,q⟩:=h;rcases bH2 j with h|h
 .exact i b s σ H Q I ⟨A,st,d,a,h,q⟩
 exact c b s σ H Q I ⟨A,st,d,a,h,q⟩
end
section
variable{X:Cx}{B:be}{a b e:Expr}{f g:Ex}{pos p2:Pos}
section
variable{w:World}{A:Around}
theorem bIp(k n:Nat)(h:k<=n):Builtin.Slice.sliceAdjust none (some (k:Int)) 1 (n:Int)=(0,(k:Int)):=by
 unfold Builtin.Slice.sliceAdjust;lia
theorem bLc{k n:Nat}{u:Tok}{Q:Int×Int×Nat->Shared->Prop}(a:s.heap.IsSliceOf sl .none (.int k u) .none)(h:k<=n)(q:Q (0,1,k) s) :
  wpAny (model prog w) A (Builtin.Slice.sliceApplied (.ref sl)<|pure (n:Int)) Q E s:=by
 obtain⟨c,e1,_,e2⟩:=id a;refine qa<|qa<|Wi e1 e2 rfl<|qa<|Wi e1 e2 rfl<|qa<|Wi e1 e2 rfl<|Ga<|qa<|slicePart_none ?_;show wpAny _ _ (match Builtin.Slice.sliceAdjust none (some k) 1 n with|(lo,b)=>pure (lo,(1:Int),Builtin.Slice.slicePlaces lo b 1)) Q E s
 rw[bIp k n h];show wpAny _ _ (pure ((0),(1),Builtin.Slice.slicePlaces 0 k 1)) Q E s;have:Builtin.Slice.slicePlaces 0 k 1=k:=by
  unfold Builtin.Slice.slicePlaces;simp;split<;>lia
 rw[this];exact Ga q
def bEr(xs:xL)(k:Nat):((List.range k).filterMap λ(j:Nat)=>xs[((0:Int)+(j:Int)*1).toNat]?).toArray=(xs.toList.take k).toArray:=by
 have e:(λ(j:Nat)=>xs[((0:Int)+j*1).toNat]?)=λj=>xs.toList[j]?:=by
  simp
 have:=GK xs.toList k 0;simp at this;rw[<-this];simp
theorem bEs{t:Addr}{k:Nat}{u:Tok} (a:IsTup s.heap t its) (b:s.heap.IsSliceOf sl .none (.int k u) .none) (d:k<its.size) (f:its.size<=sizeLine)
  (q:Q (.ref s.heap.objs.size) {s with heap:=s.heap.push {cls:=.type "tuple",data:=.seq (its.toList.take k).toArray} }):wpAny (model prog w) A (getItem (.ref t)<|.ref sl) Q E s:=by
 obtain⟨c,e1,e,_⟩:=id b;unfold getItem
 try with_reducible refine Ff ?_
 refine qa<|wpAny_sequenceKey a.typeIs rfl<|qa<|Ll a.typeIs slot_tuple_getitem<|gi slot_tuple_getitem a.typeIs entry_tuple_getitem ?_<|args_tuple_getitem _ _;show wpAny _ _ (Builtin.Tuple.tupleItemsOf (.ref t) >>= _) _ E s;refine qa<|tupleItemsOf_ a<|qa<|GH ⟨c,e1,e⟩<|qa<|bLc b (Fo d) ?_;show wpAny _ _ (if ((0)==0&&(1)==1&&k==its.size)=true then _ else _) _ E s
 rw[Ea (by
  have:(k==its.size)=false:=by lia
  rw[this];simp),bEr its k]
 first
  |exact qa<|tm (Ga ⟨_,rfl,Ga q⟩) (by
  show (its.toList.take k).toArray.size<=sizeLine;rw[cg,Bw,Dt];lia)
  |exact qa _
  |exact qa _
  |exact qa _
end
def EB(K:Frag)(k:Nat):tz:=λx lo a H Q=>∃l xs,x=.ref l/\lo=none/\a=some (k:Int)/\ig K H l xs/\k<xs.length/\∀p,H p=none->Q (.ref p) (Ra H p<|.tup<|xs.take k)
def bIq(k:Nat):zq X (EB X.K k):=by
 intro z s σ H x v o n lo y t Q I c g e d h;refine yd λm=>?_
 obtain⟨l,xs,rfl,rfl,rfl,i,w,q⟩:=h;cases c;obtain⟨f,r,a,u⟩:=I.tuple i;have hl:=r.length;refine m ?_
 cases e;cases d with
 |int j p=>
  refine⟨"tuple",_,slot_tuple_getitem.lookup,a.typeIs,?_⟩;refine bEs a g (by rw[cg];omega) (by rw[cg];omega) ?_
  refine⟨.ref s.heap.objs.size,_,I.laid (t':=s.toks) (o:=.tup<|xs.take k) (λb ob q=>bc _ q) (Ib _) ?_,rfl,q _<|I.Ia.fresh<|Ib _⟩
  exact⟨by rw[Bw];omega,_,r.take k,⟨_,we _ rfl,rfl,0,rfl⟩⟩
def bLd{k:Nat}(o:PE X a (tI X.K B f)):PE X (.Subscript a (.Slice none (some<|.Constant (.int (k:Int)) j pk) none p2) pos) (tI X.K B<|Q7 f k):=by
 refine cF (WX (bIq k) o F0<|G0 Gs) ?_
 rintro σ H Q ⟨A,st,d,e,m,q⟩;obtain⟨x,i,b⟩:=R.ua m;refine⟨A,st,x,e,i,λv s s1 r1=>⟨(k:Int),rfl,?_⟩⟩
 split at b
 .obtain⟨c,r⟩:=aM b;cases r;obtain⟨l,h,rfl,p,g⟩:=fV r1;refine⟨l,h,rfl,rfl,rfl,uU (aQ _ _) p,by rw[g.length];exact c,λn hn=>q _ _ (s1.trans<|bL hn) ?_⟩
  exact sO (e.own.mono s1) hn<|g.take k
 .cases b
end
section
variable {σ:L2.St} {b:Addr} {A:Around} {more:sK} {k:Key} {u r:Value}
theorem bIr(I:ya X aa σ H s)(e:H a=some (.dK ia))(l:RelV (kV k) u)(m:RelV v r)(w:ia.length+1<=sizeLine)
  (p:∀d,lY ia k=some d->∀g f,RelV d g->ya X aa σ H f->Q g f) (o:lY ia k=none->∀f,ya X aa σ (Ra H a<|.dK<|Oe ia k v) f->Q r f):wpAny (model X.prog X.w) A (call (.builtin "dict.setdefault") [.ref a,u,r]) Q E s:=by
 obtain⟨z,h,j,b,i⟩:=oy I.Ia e;refine call_meetsIn p8 i.typeIs PySem.F.entry_dict_setdefault (PySem.F.args_dict_setdefault_3 _ _ _) (kt_meets_setdefault _ a (Lv l) h r) ⟨j,i,by rwa [<-b.length],λt Tp=>?_,λhn x Bm hs=>?_⟩
 .have q:=b.val k;rw[Tp]at q;cases c:lY ia k with
  |none=>rw[c]at q;exact q.elim
  |some d=>
   rw[c]at q;exact p d c _ _ q<|I.tok _
 have q:=b.val k;rw[hn]at q;cases c:lY ia k with
 |some d=>rw[c]at q;exact q.elim
 |none=>
  exact o c _<|BD I (by rw[e];exact True.intro) hs (let ⟨q,_,_,n,_⟩:=Bm;⟨q,n⟩)<|S4 (by have:=xF ia k v;lia) h (KV.put b k m) Bm
end
def iO:wE:=λx d H Q=>∃a b k v,x=.ref a/\d=[kV k,v]/\H a=some (.dK b)/\b.length+1<=sizeLine/\(∀c,lY b k=some c->Q c H)/\(lY b k=none->Q v (Ra H a<|.dK<|Oe b k v))
def bEt:Yo X "dict.setdefault" iO:=by
 intro A s σ H x r v t Q I i j h;obtain⟨a,z,k,f,rfl,rfl,e,hl,o,n⟩:=h;cases i;obtain⟨w,u,rfl,m,d⟩:=j.two;exact bIr I e m d hl (λc p y g l b=>⟨c,H,b,l,o c p⟩) λq g b=>⟨f,_,b,d,n q⟩
def Hq(v d:Addr):HO:=.ext λh=>h.IsValuesView v d
section
def SX:Yo X "dict.values" (λx vs H Q=>∃(d:Addr) (c:sK),x=.ref d/\vs=[]/\H d=some (.dK c)/\∀n,H n=none->Q (.ref n) (Ra H n<|Hq n d)):=by
 intro A s σ H x vs v r Q I g i h;obtain⟨d,c,rfl,rfl,a,q⟩:=h;cases g;have p:=i.zero;subst p;obtain⟨w,j,xs,t,f⟩:=oy I.Ia a;refine call_meetsIn dP f.typeIs PySem.F.entry_dict_values (PySem.F.args_dict_values_1 _) (meets_dict_values _ d j) ⟨⟨xs,f⟩,?_⟩;have e:(s.heap.push {cls:=.type "dict_values",data:=.fields #[.ref d]}).get? s.heap.objs.size=some {cls:=.type "dict_values",data:=.fields #[.ref d]}:=we _ rfl;exact⟨.ref s.heap.objs.size,_,I.laid (o:=Hq s.heap.objs.size d) (λb u q=>bc _ q) (Ib _) ⟨⟨_,e,rfl,rfl⟩,⟨_,e⟩,λz y ⟨o,l,m,a⟩ k=>⟨o,k o l,m,a⟩⟩,rfl,q _<|I.Ia.fresh<|Ib _⟩
end
section
variable {σ:L2.St}
def ya.word(I:ya X aa σ H s) {o':HO} (h:H a=some o) (A:∀b,o≠.own b) (y:∀xs,o≠.tup xs) (t:∀xs,X.Oa a≠some (.tup xs)) (r:∀q u,X.Oa a≠some (.fg q u)) (l:∀ps,X.Oa a≠some (.lm ps)) (w:jF X.prog X.w (Ra H a o') s.heap a o'):ya X aa σ (Ra H a o') s:=by
 have f:∀b,H b=none->b≠a:=λb e z=>by rw[z,h]at e;cases e
 have d:∀{b:Addr}{u:Option HO},b≠a->H b=u->Ra H a o' b=u:=λg e=>by rwa [aK g]
 refine⟨I.ok,I.os,I.bare,⟨I.base.keep,I.base.slot,λb o e n hx=>?_,I.base.there,λb xs e=>?_,λb q u e=>?_,λb ps e=>?_⟩,I.loc,I.cell,d (f _ I.free) I.free,λx c e=>d (f _<|I.Qc x c e)<|I.Qc x c e,λp hp=>?_,λb u e=>?_,I.len⟩
 .have:=I.base.free b o e n hx;exact d (f _ this) this
 .exact d (λz=>t xs<|z ▸ e) (I.base.Zf b xs e)
 .exact d (λz=>r q u<|z ▸ e) (I.base.Df b q u e)
 .obtain⟨m,e1⟩:=I.base.Yf b ps e;exact⟨m,d (λz=>l ps<|z ▸ e) e1⟩
 .obtain⟨k,i,j⟩:=I.pin p hp;exact⟨k,d (f _ i) i,j⟩
 by_cases g:b=a
 .subst g;rw[bB]at e;cases e;exact w
 rw[aK g]at e;refine(I.Ia b u e).Pe (λc v _ q=>q) (λc q=>d (λz=>?_) q) λc xs q=>d (λz=>?_) q
 .rw[z,h]at q;exact A b<|Gi q
 rw[z,h]at q;exact y xs<|Gi q
end
def C4{w:World} {xs:Ix} {ob:Obj} (c:h.DictAt (gW P w) a xs ep) (e:h.get? a=some ob) (f:h'.get? a=some ob):h'.DictAt (gW P w) a xs ep:=by
 obtain⟨o,d,b,r⟩:=c;rw[e]at b;cases b;exact⟨ob,d,f,r⟩
section
variable {tn1}
def bEu{K:Frag} (h:atom d=true) (r:pb K H d v):pb K H' d v:=(JZ h r).mono λb u (z:none=some u)=>nomatch z
theorem A0{K:Frag}{H c:Hp}:∀(ds:dL){vs:ss},ds.all atom=true->bA K H ds vs->bA K c ds vs
 |[],vs,_,r=>by
  have:=r.length;cases vs<;>first|exact .nil|simp at this
 |d::ds,vs,h,r=>by
  rw[all_cons,Ho]at h;obtain⟨v,rest,rfl,a,b⟩:=bG.mp r;exact .cons (bEu h.1 a)<|A0 ds h.2 b
end
theorem TX:∀{d:sK} {vs:Ix} {c:cr},KV d vs->c.length=vs.length->(∀(j:Nat)(u:Value),c[j]?=some u->∃k,vs[j]?=some (k,u))->Ca (d.map (·.2)) c
 |[],_,c,r,hl,_=>by
  cases r;rw[Wq.mp hl];exact .nil
 |p::d,_,c,r,hl,h=>by
  cases r with
  |@cons a b i bs g t=>
   cases c with
   |nil=>simp at hl
   |cons u c=>
    obtain⟨k,e⟩:=h 0 u rfl;simp at e;refine .cons ?_<|TX t (by simpa using hl) λj u f=>?_
    .have:=g.2
     rwa [e]at this
    obtain⟨k,e⟩:=h (j+1) u (by simpa using f)
    exact⟨k,by simpa using e⟩
section
variable {a:Expr}
theorem Ā(m:X.calm=true):jY X (.type "list") (λvs H Q=>∃(v d:Addr) (a:sK),vs=[.ref v]/\H v=some (Hq v d)/\H d=some (.dK a)/\a.length<=10000000/\∀n,H n=none->Q (.ref n) (Ra H n (.lst (a.map (·.2))))):=by
 intro L s σ H vs C Q I r h;refine yd λp=>?_
 obtain⟨v,d,a,rfl,f,l,G,q⟩:=h;obtain⟨u,rfl,e⟩:=r.one;obtain rfl:u=Value.ref v:=e;obtain⟨E,F,xs,c,t⟩:=oy I.Ia l;have B:=XM c;obtain⟨K,z⟩:=t.dictAt;obtain⟨A,_,_⟩:=I.Ia v _ f;refine p ?_
 refine kdl_call PySem.W.kdl_values (I.ok.hd m) ⟨A,z⟩ (by lia) λJ D b y g o k=>⟨.ref s.heap.objs.size,_,I.laid (o:=.lst _) g (Ib _) ⟨by rwa [Gb],b.toList,y,?_,by simpa using o⟩,rfl,q _<|I.Ia.fresh<|Nat.le_refl _⟩
 obtain⟨x,w⟩:=k;exact TX c (by simpa using x) λj u i=>w j u (by simpa using i)
def bEv(r:X.mg "list"=none)(u:X.calm=true)(w:PE X a (tI X.K B f))(s:Gl X "list":=by rfl)(C:Kj a "values" X.env:=by rfl)(j:jm Ob xb:=by rfl)
  (o:starEach [.Call (.Attribute a "values" Ob) [] [] xb] X.env=(false,eval (.Call (.Attribute a "values" Ob) [] [] xb) X.env)::starEach [] X.env:=by rfl):PE X (.Call (.Name "list" p0) [.Call (.Attribute a "values" Ob) [] [] xb] [] pos) (tF X.K B<|e1 yv f):=by
 refine cF (qK (Ā u) s r rfl<|bW (kM kP dP H8 SX w C j) dW o) ?_
 rintro σ H Q ⟨A,st,ds,k,t,q⟩;obtain⟨x,l,b⟩:=R.ua t;refine⟨A,st,x,k,l,λv F s1 r1=>?_⟩
 unfold yv at b;split at b
 .obtain⟨c,z⟩:=aM b;cases z;obtain⟨p,E,rfl,y,i⟩:=qH.mp r1;rcases y with ⟨_,d,h,rfl,rfl⟩|⟨h,_⟩
  .have g:=aQ _ _ _ _ h;have hl:=i.length;rw[Gb]at hl;rw[mF]at c;exact⟨.inr<|.inr<|.inl ⟨rfl,.inl ⟨d,g⟩⟩,p,d,rfl,rfl,g,λn e=>⟨n,p,d,rfl,bB,by rwa [aK<|aN g e],by rwa [hl],λm D=>q m _ _ (s1.trans<|bL e) D<|i.mono<|aX.hide<|bL e⟩⟩
  cases h
 cases b
def bEw(g:X.mg "list"=none)(j:X.calm=true)(k:PE X a (tI X.K B f))(i:Gl X "list":=by rfl)(m:Kj a "values" X.env:=by rfl)(c:jm Ob xb:=by rfl)
  (e:starEach [.Call (.Attribute a "values" Ob) [] [] xb] X.env=(false,eval (.Call (.Attribute a "values" Ob) [] [] xb) X.env)::starEach [] X.env:=by rfl):PE X (.Call (.Name "list" p0) [.Call (.Attribute a "values" Ob) [] [] xb] [] pos) (tI X.K B<|e1 yv f):=
 t6 (bEv g j k i m c e) λst d h=>by
  obtain⟨x,_,b⟩:=R.ua h;unfold yv at b;split at b
  .obtain⟨_,l⟩:=aM b;cases l;exact⟨_,rfl⟩
  cases b
end
def bEx{P:List α->Prop}(h:∀a b c d e f g,P [a,b,c,d,e,f,g])(i:List α)(j:i.length=7):P i:=vU (λa=>Q3<|h a) i j
def E6{w:World} {d:pi} (x:jF P w H h a (.dT d)):(a==sysModules)=false/\∃b c ps,Ak h a b c/\Dl H d ps/\b.toList.map (·.key)=ps.map Value.ref:=by
 refine yd λf=>?_
 obtain⟨z,y,xs,r,o,b,c,k,j,i,g,s⟩:=x;refine f ?_
 refine⟨y,b,c,xs.map (·.2.1),⟨o,k,j,i⟩,?_,?_⟩
 .have:∀{l:List _} {m:KM},Paired (λp q=>p.1=q.1/\H q.2.1=some (.tup<|p.1.map kV)/\RelV p.2 q.2.2) l m->Dl H l (m.map _):=λ{l m} q=>by
   induction q with
   |nil=>exact .nil
   |cons n _ e=>exact .cons n.2.1 e
  exact this r
 rw[g,vg,vg];rfl
theorem Dl.at{H:Hp}{a:pi}{ps:be}(h:Dl H a ps):∀{i:Nat}{p:List Key×V},a[i]?=some p->∃b,ps[i]?=some b/\H b=some (.tup<|p.1.map kV):=by
 induction h with
 |nil=>intro i p e;simp at e
 |cons d _ c=>
  intro i p e;cases i with
  |zero=>simp at e;subst e;exact⟨_,rfl,d⟩
  |succ i=>obtain⟨b,e1,e2⟩:=c (by simpa using e);exact⟨b,by simpa using e1,e2⟩
def NU(a:Addr)(ob:Obj)(c:pi):It:=
 ⟨λi H=>H a=some (.fg ob<|.dT c)/\i<c.length,λi H x d=>d=H/\∃p b,c[i]?=some p/\x=V.ref b/\H b=some (.tup<|p.1.map kV),λi H=>H a=some (.fg ob<|.dT c)/\c.length<=i⟩
def ā{w:World}{K:Frag} {it:Addr} {ob:Obj} {m:pi} {l:Array DictEntry} (A:ob.ExactDict) (n:ob.data=.dict l ep) (F:l.size=m.length):Turn P w K tg (NU a ob m) [it] it (λi h=>h.IsKeyIter it a i l.size ep) where
 mem:=Mc.mpr rfl
 obj:=λi h st b f=>by
  rw[Mc.mp f];obtain⟨o,e,c,d⟩:=st;exact⟨o,e,λv z=>by rw[d]at z;cases z⟩
 keep:=λi h Q st k=>st.at<|k it<|Mc.mpr rfl
 item:=by
  intro X L B M J i Z s σ H E I j st g;refine yd λU=>?_
  obtain⟨y,x,V,u,t,r⟩:=j it<|Mc.mpr rfl;obtain⟨D,ok⟩:=I.Ia a _ g.1;obtain⟨_,ng,au,ps,⟨o,O,h2,N⟩,S,T⟩:=E6 ok;rw[D]at O;cases O;rw[n]at N;cases N;obtain⟨p,C⟩:∃p,m[i]?=some p:=⟨_,Zc g.2⟩;obtain⟨b,e1,e2⟩:=S.at C;obtain⟨e,G⟩:∃e,l[i]?=some e:=⟨_,Cj<|by rw[F];exact g.2⟩
  have W:e.key=.ref b:=by
   have:=congrArg (·[i]?) T;simp only[List.getElem?_map,getElem?_toList,G,e1,map_some]at this;exact Gi this
  refine U<|MZ st ⟨ob,D,A,n⟩ G λQ st' R=>?_
  obtain⟨o,q,c,d⟩:=id st';exact⟨_,rfl,Iv q c d rfl ⟨.ref b,H,I.turned (λb o f e=>(R.2 b f).trans e) y x u t r,W ▸ rfl,⟨rfl,p,b,C,rfl,e2⟩,st',λb f=>(j b f).1⟩⟩
 done:=by
  intro X L B M J i Z s σ H E I j st g;subst L B M;obtain⟨y,x,V,u,t,r⟩:=j it<|Mc.mpr rfl;exact V3 (I.ok.hd J) st ⟨ob,(I.Ia a _ g.1).1,A,n⟩ (by rw[F];exact g.2) λQ Y=>⟨rfl,I.turned (λb o f e=>Y b o f e) y x u t r⟩
 self:=λ_ _ _ _ _ st h=>wpAny_pyIter_keyiter st h
def AO(i:Nat):L2.TI:=λσ H R=>∃a b,σ[i]?=some (some<|.ref a)/\H a=some (.dT b)/\∀ob,R (NU a ob b)<|Ra H a<|.fg ob<|.dT b
def E4{b:L2.St} (I:ya X aa b H s) (h:H a=some o) (e:∀xs,o≠.tup xs) (d:∀q u,o≠.fg q u) (c:∀ps,o≠.lm ps):(∀xs,X.Oa a≠some (.tup xs))/\(∀q u,X.Oa a≠some (.fg q u))/\∀ps,X.Oa a≠some (.lm ps):=by
 refine⟨λxs z=>?_,λq u z=>?_,λps z=>?_⟩
 .have:=I.base.Zf a xs z;rw[h]at this;exact e xs<|Gi this
 .have:=I.base.Df a q u z;rw[h]at this;exact d q u<|Gi this
 obtain⟨_,this⟩:=I.base.Yf a ps z;rw[h]at this;exact c _<|Gi this
section
def bBf(t:X.N[i]?=some x:=by rfl)(p:Eh X.env.scope x:=by exact Zi rfl)(G:Ce x:=by decide)(J:Yi x:=by decide):L2.PI X tg (.Name x px) (AO i):=by
 intro n s σ H R I K;refine yd λD=>?_
 obtain⟨a,j,e1,d,q⟩:=K;refine D<|Lb ((kE t p G J) n s σ H (λv h=>v=.ref a/\h=H) I ⟨_,e1,rfl,rfl⟩) λv s1 ⟨M,h,f,r,e2,F⟩=>?_
 subst e2 F;cases r;obtain⟨B,E,O,N,⟨ob,l,k,m⟩,A,C⟩:=E6<|f.Ia a _ d;have hl:E.size=j.length:=by
  have:=congrArg List.length C;rw[Gb,Gb,Dt]at this;rw[this,A.len]
 obtain⟨y,w,u⟩:=E4 f d (λ_ z=>by cases z) (λ_ _ z=>by cases z) λ_ z=>by cases z
 have g:ya X n σ (Ra h a<|.fg ob<|.dT j) s1:=ya.word f d (λ_ z=>by cases z) (λ_ z=>by cases z) y w u ⟨l,(f.Ia a _ d).Pe (λ_ _ _ q=>q) (λc q=>by
  by_cases z:c=a
  .rw[z,d]at q;cases q
  rwa [aK z]) λc L q=>by
  by_cases z:c=a
  .rw[z,d]at q;cases q
  rwa [aK z]⟩
 refine LZ B ⟨ob,l,k,m⟩ ⟨_,[s1.heap.objs.size],_,_,_,rfl,g.kept λb o e=>bc _ e,ā k m hl,⟨_,we _ rfl,rfl,rfl⟩,λb hb=>?_,q ob⟩
 rw[Mc.mp hb];exact g.ph (Ib _)<|g.Ia.fresh<|Ib _
end
def OU(a:Addr)(ob:Obj)(b:sK):It:=
 ⟨λi H=>H a=some (.fg ob<|.dK b)/\i<b.length,λi H x c=>c=H/\∃p,b[i]?=some p/\x=p.2,λi H=>H a=some (.fg ob<|.dK b)/\b.length<=i⟩
def Œ{w:World}{K:Frag} {it:Addr} {ob:Obj} {xs:Ix} (m:KV ia xs) (y:h0.DictAt (gW P w) a xs ep) (g:h0.get? a=some ob):Turn P w K tg (OU a ob ia) [it] it (λi h=>h.IsValIter it a i xs.length ep) where
 mem:=Mc.mpr rfl
 obj:=λi h st b f=>by
  rw[Mc.mp f];obtain⟨o,e,c,d⟩:=st;exact⟨o,e,λv z=>by rw[d]at z;cases z⟩
 keep:=λi h G st k=>st.at<|k it<|Mc.mpr rfl
 item:=by
  intro X D B F C i Q s σ H E I l st j;refine yd λL=>?_
  have hl:=XM m;obtain⟨u,t,M,r,q,n⟩:=l it<|Mc.mpr rfl;obtain⟨⟨k,x⟩,A⟩:∃p,xs[i]?=some p:=⟨_,Zc<|by rw[hl];exact j.2⟩
  obtain⟨p,e1,e2,O⟩:=p6 m A;refine L<|wpAny_pyNext_values_item st (C4 y g (I.Ia a _ j.1).1) A λG st' J=>?_
  obtain⟨o,e,c,d⟩:=id st';exact⟨x,rfl,Iv e c d rfl ⟨p.2,H,I.turned (λb o f e=>(J.2 b f).trans e) u t r q n,O,⟨rfl,p,e1,rfl⟩,st',λb f=>(l b f).1⟩⟩
 done:=by
  intro X D B F C i Q s σ H E I l st j;subst D B F;have hl:=XM m;obtain⟨u,t,M,r,q,n⟩:=l it<|Mc.mpr rfl;exact wpAny_pyNext_values_end (I.ok.hd C) st (C4 y g (I.Ia a _ j.1).1) (Xq<|by rw[hl];exact j.2) λG N=>⟨rfl,I.turned (λb o f e=>N b o f e) u t r q n⟩
 self:=λ_ _ _ _ _ st h=>wpAny_pyIter_valiter st h
def PF(i:Nat):L2.TI:=λσ H R=>∃a b,σ[i]?=some (some<|.ref a)/\H a=some (.dK b)/\∀n ob,H n=none->R (OU a ob b) (Ra (Ra H n<|Hq n a) a<|.fg ob<|.dK b)
section
def bEz(y:X.N[i]?=some x:=by rfl)(t:Eh X.env.scope x:=by exact Zi rfl)(J:Ce x:=by decide)(K:Yi x:=by decide)
  (L:Kj (.Name x px) "values" X.env:=by rfl) (u:jm Ob xb:=by rfl):L2.PI X tg (.Call (.Attribute (.Name x px) "values" Ob) [] [] xb) (PF i):=by
 intro m s σ H R I M;refine yd λF=>?_
 obtain⟨a,f,e1,j,q⟩:=M;refine F<|Lb ((kM kP dP H8 SX (kE y t J K) L u) m s σ H (λv r=>∃n,v=.ref n/\H n=none/\r=Ra H n (Hq n a)) I ⟨_,e1,.inr<|.inr<|.inl ⟨rfl,.inl ⟨f,j⟩⟩,a,f,rfl,rfl,j,λn g=>⟨n,rfl,g,rfl⟩⟩) λv s1 ⟨N,r,d,w,n,e2,g,G⟩=>?_
 subst e2 G;cases w;have h:Ra H n (Hq n a) a=some (.dK f):=by rwa [aK<|aN j g]
 obtain⟨O,E,xs,D,l⟩:=oy d.Ia h;obtain⟨ob,P,S,c,_⟩:=id l;obtain⟨Q,p⟩:=l.dictAt;obtain⟨C,B,A⟩:=E4 d h (λ_ z=>by cases z) (λ_ _ z=>by cases z) λ_ z=>by cases z
 have k:ya X m σ (Ra _ a<|.fg ob<|.dK f) s1:=ya.word d h (λ_ z=>by cases z) (λ_ z=>by cases z) C B A ⟨c,d.Ia a _ h⟩
 refine wpAny_pyIter_values (d.Ia n _ bB).1 p ⟨_,[s1.heap.objs.size],_,_,_,rfl,k.kept λb o e=>bc _ e,Œ D p c,⟨_,we _ rfl,rfl,rfl⟩,λb hb=>?_,q n ob g⟩
 rw[Mc.mp hb];exact k.ph (Ib _)<|k.Ia.fresh<|Ib _
end
section
variable{K:Frag} {st:za}
def RS.DU(r:RS K B A H st σ)(no:∀(j:Nat) k xs,st[j]?≠some (some<|.o k xs)){z:Addr} (a:z∈A) (n:nT o=true:=by rfl):RS K B A (Ra H z o) st σ:=by
 refine⟨r.len,λb hb=>?_,r.Hh,λj d e=>?_,λj k xs e=>(no j k xs e).elim⟩
 .by_cases e:b=z
  .rw[e,bB];exact n
  rw[aK e];exact r.own b hb
 rw[mV<|Dj _ a];exact r.val j d e
def RS.nB(r:RS K B A H st σ)(no:∀(j:Nat) k xs,st[j]?≠some (some<|.o k xs)){z:Addr} (f:H z=none) (n:nT o=true:=by rfl):RS K B (z::A) (Ra H z o) st σ:=by
 have nb:z∉A++B:=λm=>by
  have:=r.own z m;rw[f]at this;cases this
 refine⟨r.len,λb hb=>?_,λb hb hB=>?_,λj d e=>?_,λj k xs e=>(no j k xs e).elim⟩
 .by_cases e:b=z
  .rw[e,bB];exact n
  rw[aK e];exact r.own b<|(Mb.mp hb).resolve_left e
 .rcases Mb.mp hb with e|e
  .exact nb (Lg _<|e ▸ hB)
  exact r.Hh b e hB
 obtain⟨v,e1,q⟩:=r.val j d e;refine⟨v,e1,q.mono λb u w=>?_⟩
 have a:=aQ _ _ _ _ w;have hb:b∉A++B:=λm=>by rw[iU m]at w;cases w
 have c:=aN a f;rw[cN<|show b∉z::A++B from λm=>(Mb.mp m).elim c hb,aK c]
 exact a
def RS.eR(r:RS K B A H st σ)(i:Nat):RS K B A H (st.set i none) σ:=r.weaken (zg ..) λj x e=>by
 rw[Vd]at e;split at e
 .split at e<;>cases e
 exact e
def RS.Sw(r:RS K B A H st σ){p:Nat} (sp:st[p]?=some none):RS K B A H st (σ.set p<|some v):=by
 have b:∀{j:Nat}{x:Sl},st[j]?=some (some x)->p≠j:=λ{j x} e z=>by rw[<-z,sp]at e;cases e
 refine⟨by rw[zg,r.len],r.own,r.Hh,λj d e=>?_,λj k xs e=>?_⟩
 .obtain⟨w,e1,q⟩:=r.val j d e;exact⟨w,by rwa [Vd,Ea<|b e],q⟩
 obtain⟨a,o,g,e1,m,h,i,q,u⟩:=r.lst j k xs e;exact⟨a,o,g,by rwa [Vd,Ea<|b e],m,h,i,q,λl n f c s=>u l n f c<|by rwa [Vd,Ea<|b c]at s⟩
end
def Jj(q:Pq):ss:=[.int q.1,.bl q.2.1,.bl q.2.2.1,.bl q.2.2.2]
def yf(H:Hp):sK->be->List (Int×Pq)->Prop
 |[],a,S=>a=[]/\S=[]
 |c::d,a,S=>∃p r s b,a=p::r/\S=s::b/\c=(.inl s.1,V.ref p)/\H p=some (.lst<|Jj s.2)/\yf H d r b
section
variable{n:Int}{p:Addr}{q:Pq}{w:V}
theorem yf.mono:∀{a:sK} {ps:be} {S:List (Int×Pq)},(∀x∈ps,∀o,H x=some o->H' x=some o)->yf H a ps S->yf H' a ps S
 |[],_,_,_,h=>h
 |g::a,ps,S,k,h=>by
  obtain⟨p,r,s,f,rfl,rfl,e,d,c⟩:=h;exact⟨p,r,s,f,rfl,rfl,e,k p Cb _ d,c.mono λx b=>k x<|Kb _ b⟩
theorem yf.get:∀{b:sK} {ps:be} {S:List (Int×Pq)},yf H b ps S->lY b (.inl n:Key)=some w->∃p,w=.ref p/\p∈ps/\H p=some (.lst<|Jj<|fM S n)
 |[],_,_,_,e=>by cases e
 |i::b,ps,S,h,e=>by
  obtain⟨p,r,s,j,rfl,rfl,rfl,f,d⟩:=h;unfold fM
  by_cases a:s.1=n
  .rw[mC (by rw[a])]at e
   cases e;rw[Qa a];exact⟨p,rfl,Cb,f⟩
  rw[kJ<|λz=>a<|Cw z]at e
  obtain⟨c,e1,e2,g⟩:=yf.get d e;rw[Ea a];exact⟨c,e1,Kb _ e2,g⟩
theorem yf.no:∀{a:sK} {ps:be} {S:List (Int×Pq)},yf H a ps S->lY a (.inl n:Key)=none->fM S n=(0,false,false,false)
 |[],_,_,h,_=>by rw[h.2];rfl
 |d::a,ps,S,h,e=>by
  obtain⟨p,r,s,g,rfl,rfl,rfl,f,c⟩:=h;unfold fM
  by_cases b:s.1=n
  .rw[mC (by rw[b])]at e
   cases e
  rw[kJ<|λz=>b<|Cw z]at e
  rw[Ea b];exact yf.no c e
theorem yf.put:∀{b:sK} {ps:be} {S:List (Int×Pq)},yf H b ps S->ps.Nodup->lY b (.inl n:Key)=some (.ref p)->(∀x∈ps,x≠p->∀o,H x=some o->H' x=some o)->H' p=some (.lst<|Jj q)->yf H' b ps (fK S n q)
 |[],_,_,_,_,e,_,_=>by cases e
 |v::b,ps,S,h,l,e,k,i=>by
  obtain⟨g,r,s,t,rfl,rfl,rfl,m,f⟩:=h;obtain⟨j,d⟩:=ki.mp l;unfold fK
  by_cases a:s.1=n
  .rw[mC (by rw[a])]at e
   cases e;rw[Qa a];exact⟨p,r,_,t,rfl,rfl,by rw[a],i,f.mono λx c=>k x (Kb _ c) λz=>j<|z ▸ c⟩
  rw[kJ<|λz=>a<|Cw z]at e
  rw[Ea a];obtain⟨u,e1,e2,_⟩:=yf.get f e;cases e1;exact⟨g,r,s,_,rfl,rfl,rfl,k g Cb (λz=>j<|z ▸ e2) _ m,yf.put f d e (λx c=>k x<|Kb _ c) i⟩
theorem yf.new:∀{a:sK} {ps:be} {S:List (Int×Pq)},yf H a ps S->lY a (.inl n:Key)=none->(∀x∈ps,∀o,H x=some o->H' x=some o)->H' p=some (.lst<|Jj q)->yf H' (a++[((.inl n:Key),V.ref p)]) (ps++[p]) (fK S n q)
 |[],_,_,h,_,_,b=>by
  obtain⟨rfl,rfl⟩:=h;exact⟨p,[],_,[],rfl,rfl,rfl,b,rfl,rfl⟩
 |j::a,ps,S,h,e,k,b=>by
  obtain⟨d,r,s,l,rfl,rfl,rfl,i,g⟩:=h;unfold fK
  by_cases c:s.1=n
  .rw[mC (by rw[c])]at e
   cases e
  rw[kJ<|λz=>c<|Cw z]at e
  rw[Ea c];exact⟨d,_,s,_,rfl,rfl,rfl,k d Cb _ i,yf.new g e (λx f=>k x<|Kb _ f) b⟩
theorem rO(n:Int)(q:Pq):∀S:List (Int×Pq),fM (fK S n q) n=q
 |[]=>by unfold fK fM;rw[Qa rfl]
 |s::S=>by
  unfold fK
  by_cases a:s.1=n
  .rw[Qa a];unfold fM;rw[Qa rfl]
  rw[Ea a];unfold fM;rw[Ea a,rO n q S]
theorem qM(n:Int)(q a:Pq):∀S:List (Int×Pq),fK (fK S n a) n q=fK S n q
 |[]=>by simp[fK]
 |s::S=>by
  by_cases b:s.1=n
  .simp[fK,b]
  simp[fK,b,qM n q a S]
end
abbrev Lj(a:pi):dL:=a.map λp=>D.tup<|p.1.map jM
structure Xc(K:Frag)(B:be)(G:Hp)(t d p:Nat)(a P:Addr)(ob:Obj)(Wb:pi)(A:be)(H:Hp)(st:za)(σ:Sg)(ia:sK)(ps:be)(S:List (Int×Pq)):Prop where
 rs:RS K B A H st σ
 no:∀(j:Nat) k xs,st[j]?≠some (some<|.o k xs)
 sp:st[p]?=some none
 Ei:σ[t]?=some (some<|.ref a)
 Pj:σ[d]?=some (some<|.ref P)
 told:H a=some (.fg ob<|.dT Wb)
 Xe:H P=some (.dK ia)
 Xh:yf H ia ps S
 ma:a∈A
 mP:P∈A
 ms:∀x∈ps,x∈A
 nd:(a::P::ps).Nodup
 lo:aX G H
 zn:∀z∈A,G z=none
section
variable{K:Frag} {t d p:Nat} {P:Addr} {ob:Obj} {st:za} {ps:be} {S:List (Int×Pq)} {m:Int} {q:Pq}
def mZ(s:aX G H){z:Addr} (h:G z=none):aX G (Ra H z o):=λb u e=>by
 rw[aK<|aN e h];exact s b u e
def Xc.same(n:Xc K B G t d p a P ob Wb A H st σ ia ps S)(s:aX H H'):Xc K B G t d p a P ob Wb A H' st σ ia ps S:=
 ⟨n.rs.mono s,n.no,n.sp,n.Ei,n.Pj,s _ _ n.told,s _ _ n.Xe,n.Xh.mono λx _ o=>s x o,n.ma,n.mP,n.ms,n.nd,n.lo.trans s,n.zn⟩
def Xc.slot(n:Xc K B G t d p a P ob Wb A H st σ ia ps S) {x:D} (b:t≠j) (f:d≠j) (c:p≠j) (r:pb K (hide (A++B) H) x v):Xc K B G t d p a P ob Wb A H (st.set j<|some<|.v x) (σ.set j<|some v) ia ps S:=
 ⟨n.rs.set j r,λl k xs e=>by
  rw[Vd]at e;split at e
  .split at e<;>cases e
  exact n.no l k xs e,by rw[tY c];exact n.sp,by rw[tY b];exact n.Ei,by rw[tY f];exact n.Pj,n.told,n.Xe,n.Xh,n.ma,n.mP,n.ms,n.nd,n.lo,n.zn⟩
theorem Xc.Sw(n:Xc K B G t d p a P ob Wb A H st σ ia ps S){v:V}(b:t≠p)(c:d≠p):Xc K B G t d p a P ob Wb A H st (σ.set p<|some v) ia ps S:=
 ⟨n.rs.Sw n.sp,n.no,n.sp,by rw[tY b];exact n.Ei,by rw[tY c];exact n.Pj,n.told,n.Xe,n.Xh,n.ma,n.mP,n.ms,n.nd,n.lo,n.zn⟩
theorem Xc.put(n:Xc K B G t d p a P ob Wb A H st σ ia ps S)(c:lY ia (.inl m:Key)=some (.ref pp)):Xc K B G t d p a P ob Wb A (Ra H pp<|.lst<|Jj q) st σ ia ps (fK S m q):=by
 obtain⟨k,e,b,_⟩:=n.Xh.get c;cases e;obtain⟨i,h⟩:=ki.mp n.nd;obtain⟨g,f⟩:=ki.mp h;refine⟨n.rs.DU n.no<|n.ms _ b,n.no,n.sp,n.Ei,n.Pj,?_,?_,n.Xh.put f c (λx _ j o e=>by rwa [aK j]) bB,n.ma,n.mP,n.ms,n.nd,mZ n.lo<|n.zn _<|n.ms _ b,n.zn⟩
 .rw[aK λz:a=pp=>i<|z ▸ Kb _ b];exact n.told
 rw[aK λz:P=pp=>g<|z ▸ b];exact n.Xe
theorem Xc.new(n:Xc K B G t d p a P ob Wb A H st σ ia ps S)(s:lY ia (.inl m:Key)=none)(f:H pp=none):Xc K B G t d p a P ob Wb (pp::A) (Ra (Ra H pp<|.lst<|Jj q) P<|.dK<|ia++[((.inl m:Key),V.ref pp)]) st σ (ia++[((.inl m:Key),V.ref pp)]) (ps++[pp]) (fK S m q):=by
 obtain⟨g,l⟩:=ki.mp n.nd;obtain⟨i,k⟩:=ki.mp l;have b:∀x∈A,x≠pp:=λx c z=>by
  have:=n.rs.own x<|Dj _ c;rw[z,f]at this;cases this
 have j:G pp=none:=by
  cases h:G pp with
  |none=>rfl
  |some u=>rw[n.lo _ _ h]at f;cases f
 have r:∀x∈ps,∀o,H x=some o->Ra (Ra H pp<|.lst<|Jj q) P (.dK<|ia++[((.inl m:Key),V.ref pp)]) x=some o:=λx c o e=>by
  rw[aK λz:x=P=>i<|z ▸ c,aK<|b x<|n.ms x c]
  exact e
 refine⟨(n.rs.nB n.no f).DU n.no<|Kb _ n.mP,n.no,n.sp,n.Ei,n.Pj,?_,bB,n.Xh.new s r (by rw[aK (b P n.mP).symm,bB]),Kb _ n.ma,Kb _ n.mP,λx c=>?_,?_,mZ (mZ n.lo j)<|n.zn _ n.mP,λz hz=>?_⟩
 .rw[aK λz:a=P=>g<|z ▸ Cb,aK<|b a n.ma];exact n.told
 .rcases ji.mp c with h|h
  .exact Kb _ (n.ms x h)
  rw[Mc.mp h];exact Cb
 .rw[ki,ki,Bo];refine⟨λh=>?_,λh=>?_,k,ki.mpr ⟨(λh=>nomatch h),vz⟩,λx c y hy=>?_⟩
  .rcases Mb.mp h with h|h
   .exact g (h ▸ Cb)
   rcases ji.mp h with h|h
   .exact g (Kb _ h)
   exact b a n.ma<|Mc.mp h
  .rcases ji.mp h with h|h
   .exact i h
   exact b P n.mP<|Mc.mp h
  rw[Mc.mp hy];exact b x<|n.ms x c
 rcases Mb.mp hz with h|h
 .rw[h];exact j
 exact n.zn z h
def Xc.get(n:Xc K B G t d p a P ob Wb A H st σ ia ps S) (e:bA K iq tv (Wb.map (·.2))) {z:D} (j:Rb true z=true) (r:pb K (hide (A++B) H) z v) :
  ∃o,zO H a v o/\o.isSome=jQ (Lj Wb) z/\∀i,mG (Lj Wb) tv z=some (.int i)->o=some (.int i):=by
 obtain⟨c,b,e1,e2,l⟩:=sV r j;subst e1 e2;obtain⟨h,g⟩:=MD EK c Wb tv e;refine⟨_,.inr ⟨Wb,c,b,.inr ⟨ob,n.told⟩,rfl,aQ _ _ _ _ l,rfl⟩,g,λi hi=>?_⟩
 obtain⟨v,k,f⟩:=h _ hi;rw[k,bC.mp f]
end
abbrev Mh(K:Frag)(p:Nat)(j:Int):TE:=wk (DB K) (lJ p)<|L2.tC<|.int j
abbrev yP(p:Nat)(j:Int):TG:=E7 (lJ p) (L2.tC<|.int j) M6
section
variable{K:Frag}{p:Nat} {xs ys:ss} {j:Int}
def Gv{Q:VK}(e:σ[p]?=some (some<|.ref pp))(h:H pp=some (.lst xs))(a:L2.Ee xs j=some v)(q:Q v H):Mh K p j σ H Q:=⟨_,e,.inl ⟨pp,xs,j,v,rfl,rfl,Pc.of h,a,q⟩⟩
def WD{Q:Sg->xz}{l:Nat}(e:σ[p]?=some (some<|.ref pp))(h:H pp=some (.lst xs))(b:L2.Yj xs.length j=some l)(a:xs.set l v=ys)(q:Q σ (Ra H pp<|.lst ys)):yP p j v σ H Q:=⟨_,e,pp,xs,j,l,rfl,rfl,h,b,by rw[a];exact q⟩
def YM{st:za} {x c:Bool} {Q:VK} (i:RS K B A H st σ) (e:σ[p]?=some (some<|.ref pp)) (h:H pp=some (.lst xs)) (k:L2.Ee xs j=some (.bl x)) (b:il x f st=.ok c) (q:∀a,aX H a->Q (.bl c) a):Hl (Mh K p j) (bj K f) σ H Q:=by
 refine Gv e h k ⟨x,rfl,?_⟩;unfold il at b;cases x with
 |true=>cases b;exact q H<|aX.refl _
 |false=>
  obtain⟨d,l,g⟩:=R.ua<|show (f st).bind _=.ok c from b
  split at g
  .cases g;exact⟨B,A,st,_,i,l,λv a s r=>by rw[cA.mp r];exact q a s⟩
  cases g
end
def ow(K:Frag)(it:ij):L2.TI:=λσ H R=>∃B,qk K B it σ H R
def bMj(h:∀B,L2.PI X tg e<|qk X.K B it):L2.PI X tg e (ow X.K it):=λa s σ H R I ⟨B,q⟩=>h B a s σ H R I q
def Vy(K:Frag)(t p k g:Nat)(f:Ex):TS:=zN (C7 (CF (tB<|GO (lJ g)<|lJ t)<|iN<|wk (Zh λi j=>.bl<|decide (j<i)) (Us (lJ t)<|lJ g)<|Us (lJ t)<|lJ k) (yy<|L2.tC<|.bl false) K6)<|nC (Hl (Mh K p 3)<|bj K f)<|yP p 3
section
variable{K:Frag}{B:be}{G:Hp}{t d p k g:Nat}{a P:Addr}{ob:Obj}{Wb:pi}{A:be}{H:Hp}{st:za}{σ:Sg}{ia:sK}{ps:be}{S:List (Int×Pq)}{m:Int}{pp:Addr}{tv:dL}{key:D}{f:Ex}
structure df(K:Frag)(B:be)(G:Hp)(t d p k:Nat)(a P:Addr)(ob:Obj)(Wb:pi)(tv:dL)(key:D)(m:Int)(pp:Addr)(A:be)(H:Hp)(st:za)(σ:Sg)(ia:sK)(ps:be)(S:List (Int×Pq)):Prop where
 ls:Xc K B G t d p a P ob Wb A H st σ ia ps S
 hv:lY ia (.inl m:Key)=some (.ref pp)
 jh:σ[p]?=some (some<|.ref pp)
 sk:st[k]?=some (some<|.v key)
 kk:Rb true key=true
 km:mG (Lj Wb) tv key=some (.int m)
theorem df.same{b:Hp}(n:df K B G t d p k a P ob Wb tv key m pp A H st σ ia ps S)(s:aX H b):df K B G t d p k a P ob Wb tv key m pp A b st σ ia ps S:=⟨n.ls.same s,n.hv,n.jh,n.sk,n.kk,n.km⟩
theorem df.put(n:df K B G t d p k a P ob Wb tv key m pp A H st σ ia ps S)(q:Pq):df K B G t d p k a P ob Wb tv key m pp A (Ra H pp<|.lst<|Jj q) st σ ia ps (fK S m q):=⟨n.ls.put n.hv,n.hv,n.jh,n.sk,n.kk,n.km⟩
def df.cur(n:df K B G t d p k a P ob Wb tv key m pp A H st σ ia ps S):H pp=some (.lst<|Jj<|fM S m):=by
 obtain⟨_,e,_,h⟩:=n.ls.Xh.get n.hv;cases e;exact h
def df.AS(n:df K B G t d p k a P ob Wb tv key m pp A H st σ ia ps S)(b:bA K iq tv (Wb.map (·.2))){Q:VK}(q:Q (.int m) H):Us (lJ t) (lJ k) σ H Q:=by
 obtain⟨v,e1,r⟩:=n.ls.rs.val k _ n.sk;obtain⟨o,e,_,c⟩:=n.ls.get b n.kk r;have:=c m n.km;subst this;exact⟨_,n.ls.Ei,_,e1,a,_,rfl,e,q⟩
def df.mem(n:df K B G t d p k a P ob Wb tv key m pp A H st σ ia ps S):pp∈A:=by
 obtain⟨_,e,h,_⟩:=n.ls.Xh.get n.hv;cases e;exact n.ls.ms _ h
def WO(K:Frag)(B:be)(G:Hp)(t d p k g:Nat)(a P:Addr)(ob:Obj)(j:pi)(h:dL)(b:D)(m:Int)(n:Addr)(A:be)(o:sK)(ps:be)(S:List (Int×Pq))(f:Ex)(l:dL)(r:Option Bool×za)(s:Hp)(i len:Nat)(e:Sg)(H:Hp):Prop:=
 ∃st c x,e.length=len/\df K B G t d p k a P ob j h b m n A H st e o ps c/\aX (hide A s) (hide A H)/\fM c m=((fM S m).1,(fM S m).2.1,(fM S m).2.2.1,x)/\(∀q,fK c m q=fK S m q)/\Jl (Lj j) h g m f (l.drop i) x st=.ok r
theorem œ(Y:bA K iq tv (Wb.map (·.2)))(ht:t≠g)(hd:d≠g)(hp:p≠g)(hk:k≠g) {b:dL} {r:Option Bool×za} (n:df K B G t d p k a P ob Wb tv key m pp A H st σ ia ps S) (hg:g<σ.length) (hz:it st=.ok b)
  (s:Jl (Lj Wb) tv g m f b (fM S m).2.2.2 st=.ok r)
  (q0:r.1=none->∀u,aX G u->Dn.rt (.bl false) u)
  (q1:∀c W u D,r.1=some c->W.length=σ.length->df K B G t d p k a P ob Wb tv key m pp A u r.2 W ia ps D->(∀q,fK D m q=fK S m q)->fM D m=((fM S m).1,(fM S m).2.1,(fM S m).2.2.1,c)->Dn.nx W u) :
  Zs (ow K it) (jX g) (Vy K t p k g f) Dn σ H:=by
 refine⟨B,A,st,b,n.ls.rs,hz,λJ H1 s1 UA=>?_⟩
 refine⟨λi l τ u=>l=b.length-i/\i<=b.length/\WO K B G t d p k g a P ob Wb tv key m pp A ia ps S f b r H1 i σ.length τ u,
  ⟨b.length,rfl,Gf _,st,S,(fM S m).2.2.2,rfl,n.same s1,aX.refl _,rfl,λ_=>rfl,s⟩,?_⟩
 intro i l τ u hW;refine yd λhG=>?_
 obtain⟨rfl,hi,st',D,x,hl,T,sh,U,hS,s⟩:=hW;obtain⟨i1,i2⟩:=UA A u sh T.ls.rs.own i
 by_cases z:i<b.length
 .obtain⟨go,X⟩:=i1 _<|Zc z;rw[Zq z]at s;unfold Jl at s;obtain⟨ck,s⟩:=aM s;refine hG (.inr ⟨go,λI L=>WO K B G t d p k g a P ob Wb tv key m pp A ia ps S f b r H1 (i+1) σ.length I L,λI L h=>⟨b.length-(i+1),by lia,rfl,z,h⟩,λw H3 hy=>?_⟩)
  have Z:=(X w H3 hy).1;have Qg:=(X w H3 hy).2;have C:=T.same Z;have v:df K B G t d p k a P ob Wb tv key m pp A H3 (st'.set g<|some<|.v b[i]) (τ.set g<|some w) ia ps D:=⟨C.ls.slot ht hd hp Qg,C.hv,by rw[tY hp];exact C.jh,by rw[tY hk];exact C.sk,C.kk,C.km⟩
  have eg:(τ.set g<|some w)[g]?=some (some w):=by rw[Vd,Qa rfl,Qa (by rw[hl];exact hg)]
  obtain⟨o,g1,g2,g3⟩:=v.ls.get Y ck Qg;have step:∀{c}{E:Ends},il x f (st'.set g<|some<|.v b[i])=.ok c->Jl (Lj Wb) tv g m f (b.drop<|i+1) c (st'.set g<|some<|.v b[i])=.ok r->(∀I L,WO K B G t d p k g a P ob Wb tv key m pp A ia ps S f b r H1 (i+1) σ.length I L->E.nx I L)->
    nC (Hl (Mh K p 3)<|bj K f) (yP p 3) E (τ.set g<|some w) H3:=λ{c E} F Og hE=>by
   refine YM v.ls.rs v.jh v.cur (by rw[U];rfl) F λH4 s4=>?_
   have M:=v.same s4;refine WD (ys:=Jj ((fM S m).1,(fM S m).2.1,(fM S m).2.2.1,c)) M.jh M.cur rfl (by rw[U];rfl)<|hE _ _ ?_
   exact⟨_,_,c,by rw[zg,hl],M.put _,by rw[mV M.mem];exact sh.trans<|aX.hide<|Z.trans s4,rO _ _ _,λq=>by rw[qM,hS],Og⟩
  refine⟨w,eg,_,v.ls.Ei,a,o,rfl,g1,_,rfl,?_⟩
  by_cases O:jQ (Lj Wb) b[i]=true
  .rw[Qa O]at s;rw[g2,O,Qa rfl];obtain⟨y,eS,h5⟩:=R.ua s;obtain⟨j,rfl,Q⟩:=bE h5;have:=g3 j<|rH eS;subst this;refine⟨_,v.ls.Ei,_,eg,a,_,rfl,g1,v.AS Y ⟨j,m,rfl,rfl,_,rfl,?_⟩⟩
   by_cases N:m<j
   .rw[Qa N]at Q;cases Q;rw[Qa<|Bf N];exact q0 rfl H3 v.ls.lo
   rw[Ea N]at Q;rw[Ea (by simpa using N)]
   obtain⟨c,F,V⟩:=R.ua Q;exact step F V λ_ _ h=>h
  rw[Ea O]at s;rw[g2,SG.mpr O,Ea Qh];obtain⟨c,F,V⟩:=R.ua s;exact step F V λ_ _ h=>h
 have e:i=b.length:=by lia
 subst e;rw[RP]at s;cases s;exact hG<|.inl ⟨i2<|Ib _,q1 x τ u D rfl hl T hS U⟩
end
theorem yf.self{H:Hp}{m:Int}{w:V}:∀{b:sK} {ps:be} {S:List (Int×Pq)},yf H b ps S->lY b (.inl m:Key)=some w->fK S m (fM S m)=S
 |[],_,_,_,e=>by cases e
 |d::b,ps,S,h,e=>by
  obtain⟨p,r,s,g,rfl,rfl,rfl,f,c⟩:=h;unfold fK fM
  by_cases a:s.1=m
  .rw[Qa a,Qa a,<-a]
  rw[kJ<|λz=>a<|Cw z]at e
  rw[Ea a,Ea a,yf.self c e]
def g8(K:Frag)(t d p k g:Nat)(c b a:Ex)(it:ij):TS:=
 zN (nC (UT K "dict" iO (lJ d)<|uG (Us (lJ t)<|lJ k)<|uG (aw<|uG (L2.tC<|.int 0)<|uG (L2.tC<|.bl false)<|uG (L2.tC<|.bl false)<|uG (L2.tC<|.bl false) Iq) Iq)<|jX p)
 (zN (nC (wk (Zh λi j=>.int<|i+j) (Mh K p 0)<|L2.tC<|.int 1)<|yP p 0)<|zN (nC (Hl (Mh K p 1)<|bj K c)<|yP p 1)<|zN (nC (Hl (Mh K p 2)<|bj K b)<|yP p 2)<|Zs (ow K it) (jX g)<|Vy K t p k g a)
section
variable{K:Frag} {t d p k g:Nat} {P:Addr} {ob:Obj} {st:za} {ps:be} {S S0:List (Int×Pq)} {m:Int} {f1 f2 f3:Ex} {r:Option (List<|Int×Pq)}
def bBh(D:bA K iq tv (Wb.map (·.2)))(M:t≠g)(U:d≠g)(Q:p≠g)(R:k≠g)(n:df K B G t d p k a P ob Wb tv key m pp A H st σ ia ps S)(T:g<σ.length)(W:∀q,fK S m q=fK S0 m q)(O:fM S m=fM S0 m)
  {f r:Bool} {y:dL} {s:Option Bool×za} (Y:il (fM S0 m).2.1 f1 st=.ok f) (X:il (fM S0 m).2.2.1 f2 st=.ok r) (J:it st=.ok y) (N:Jl (Lj Wb) tv g m f3 y (fM S0 m).2.2.2 st=.ok s)
  (F:s.1=none->∀b,aX G b->Dn.rt (.bl false) b)
  (E:∀c o b,s.1=some c->o.length=σ.length->Xc K B G t d p a P ob Wb A b s.2 o ia ps (fK S0 m ((fM S0 m).1+1,f,r,c))->Dn.nx o b) :
  zN (nC (wk (Zh λi j=>.int<|i+j) (Mh K p 0)<|L2.tC<|.int 1)<|yP p 0) (zN (nC (Hl (Mh K p 1)<|bj K f1)<|yP p 1)<|zN (nC (Hl (Mh K p 2)<|bj K f2)<|yP p 2)<|Zs (ow K it) (jX g)<|Vy K t p k g f3) Dn σ H:=by
 have x:=n.cur;rw[O]at x;generalize fM S0 m=q at *;refine Gv n.jh x rfl ⟨q.1,1,rfl,rfl,WD (ys:=Jj (q.1+1,q.2)) n.jh x rfl rfl ?_⟩;have l:=n.put (q.1+1,q.2);have w:=l.cur;rw[rO]at w;refine YM l.ls.rs l.jh w rfl Y λH2 C=>(WD (ys:=Jj (q.1+1,f,q.2.2)) l.jh (C _ _ w) rfl rfl ?_)
 have h:=(l.same C).put (q.1+1,f,q.2.2);have v:=h.cur;rw[rO]at v;refine YM h.ls.rs h.jh v rfl X λH3 z=>(WD (ys:=Jj (q.1+1,f,r,q.2.2.2)) h.jh (z _ _ v) rfl rfl ?_)
 have I:=(h.same z).put (q.1+1,f,r,q.2.2.2);refine œ D M U Q R I T J (by rw[rO];exact N) F λc o b S' V hl u Z L=>E c o b V hl ?_
 have e:=u.ls.Xh.self u.hv;rw[L,rO,Z,qM,qM,qM,W]at e;exact e ▸ u.ls
theorem AW{H:Hp}:∀a:FM,bA K H (a.map jM) (a.map kV)
 |[]=>.nil
 |k::a=>by
  refine .cons ?_<|AW a;cases k with
  |inl i=>exact bC.mpr rfl
  |inr x=>exact fC.mpr (by simp[kV])
def BW(a:FM):Rb true (.tup<|a.map jM)=true:=by
 show (true&&(a.map jM).all LO)=true;rw[Bool.true_and,List.all_map,ww];intro k _;cases k<;>rfl
def bBi(O:bA K iq tv (Wb.map (·.2)))(IA:t≠p)(UH:d≠p)(LR:t≠k)(JR:d≠k)(N:p≠k)(ht:t≠g)(hd:d≠g)(hp:p≠g)(hk:k≠g)(n:Xc K B G t d p a P ob Wb A H st σ ia ps S){b:Addr}{h:FM}(hb:H b=some (.tup<|h.map kV))(J:p<σ.length)(Z:k<σ.length)(L:g<σ.length)(yb:ia.length+1<=sizeLine)
  (W:Mm (Lj Wb) tv k g f1 f2 f3 it (.tup (h.map jM)::xs) S st=.ok r)
  (q0:r=none->∀l,aX G l->Dn.rt (.bl false) l)
  (q1:∀C x l st' s z u,x.length=σ.length->Xc K B G t d p a P ob Wb C l st' x s z u->s.length<=ia.length+1->Mm (Lj Wb) tv k g f1 f2 f3 it xs u st'=.ok r->Dn.nx x l) :
  g8 K t d p k g f1 f2 f3 it Dn (σ.set k<|some<|.ref b) H:=by
 refine yd λhG=>?_
 unfold Mm at W;obtain⟨y,U,h2⟩:=R.ua W;obtain⟨m,rfl,h3⟩:=bE h2;obtain⟨x1,Xk,h4⟩:=R.ua h3;obtain⟨x2,F,h5⟩:=R.ua h4;obtain⟨zs,hz,h6⟩:=R.ua h5;obtain⟨T,I,X⟩:=R.ua h6;have Q:pb K (hide (A++B) H) (.tup<|h.map jM) (.ref b):=lC.mpr ⟨_,_,rfl,by rwa [cN<|n.rs.own.tup hb],AW h⟩
 have f:=n.slot LR JR N Q;have ek:(σ.set k<|some<|.ref b)[k]?=some (some<|.ref b):=by rw[Vd,Qa rfl,Qa Z]
 have sk:(st.set k<|some<|.v<|.tup<|h.map jM)[k]?=some (some<|.v<|.tup<|h.map jM):=by rw[Vd,Qa rfl,Qa (by rw[n.rs.len];exact Z)]
 obtain⟨o,g1,_,g3⟩:=f.get O (BW h) Q;have:=g3 m<|rH U;subst this;have v:∀{C:be}{l:Hp} {s:sK} {z:be} {u:List (Int×Pq)} {D:Addr},Xc K B G t d p a P ob Wb C l (st.set k<|some<|.v<|.tup<|h.map jM) (σ.set k<|some<|.ref b) s z u->lY s (.inl m:Key)=some (.ref D)->s.length<=ia.length+1->(∀q,fK u m q=fK S m q)->fM u m=fM S m->
   zN (nC (wk (Zh λi j=>.int<|i+j) (Mh K p 0)<|L2.tC<|.int 1)<|yP p 0) (zN (nC (Hl (Mh K p 1)<|bj K f1)<|yP p 1)<|zN (nC (Hl (Mh K p 2)<|bj K f2)<|yP p 2)<|Zs (ow K it) (jX g)<|Vy K t p k g f3) Dn ((σ.set k<|some<|.ref b).set p<|some<|.ref D) l:=λ{C l s z u D} n2 hv M hS hq=>by
  refine bBh O ht hd hp hk ⟨n2.Sw IA UH,hv,by rw[Vd,Qa rfl,Qa (by rw[zg];exact J)],sk,BW h,rH U⟩ (by rw[zg,zg];exact L) hS hq Xk F hz I (λe=>?_) λc x H2 e hl n3=>?_
  .obtain⟨E,Y⟩:=T;cases e;cases X;exact q0 rfl
  obtain⟨E,Y⟩:=T;cases e;exact q1 C x H2 Y s z _ (by rw[hl,zg,zg]) n3 M X
 refine hG ⟨_,f.Pj,.inr<|.inr<|.inl ⟨rfl,.inl ⟨ia,f.Xe⟩⟩,_,f.Ei,_,ek,a,_,rfl,g1,show 4<=sizeLine by decide,λpn hn=>⟨P,ia,.inl m,.ref pn,rfl,rfl,bL hn _ _ f.Xe,yb,λw hw=>?_,λhw=>?_⟩⟩
 .obtain⟨D,e,_,_⟩:=f.Xh.get hw;subst e;exact v (f.same<|bL hn) hw (Jo _) (λ_=>rfl) rfl
 have e:Oe ia (.inl m:Key) (.ref pn)=ia++[((.inl m:Key),V.ref pn)]:=by
  unfold Oe;rw[UJ,hw];rfl
 rw[e];refine v (f.new (q:=(0,false,false,false)) hw hn) ?_ (by rw[Ef];exact Ib _) (λq=>qM m q _ S) (by rw[rO,f.Xh.no hw])
 unfold lY at hw ⊢;rw[List.find?_append,Option.map_eq_none_iff.mp hw];simp
end
theorem yf.at{H:Hp}:∀{b:sK} {ps:be} {S:List (Int×Pq)} {i:Nat} {a:Key×V},yf H b ps S->b[i]?=some a->∃x s,a.2=.ref x/\x∈ps/\S[i]?=some s/\H x=some (.lst<|Jj s.2)
 |[],_,_,_,_,_,e=>by simp at e
 |a::b,ps,S,0,c,h,e=>by
  obtain⟨p,r,s,l,rfl,rfl,rfl,f,d⟩:=h;simp at e;subst e;exact⟨p,s,rfl,Cb,rfl,f⟩
 |a::b,ps,S,i+1,c,h,e=>by
  obtain⟨p,r,s,l,rfl,rfl,rfl,f,d⟩:=h;obtain⟨x,g,e1,e2,k,j⟩:=yf.at d (by simpa using e)
  exact⟨x,g,e1,Kb _ e2,by simpa using k,j⟩
theorem yf.mem{H:Hp}:∀{a:sK} {ps:be} {S:List (Int×Pq)} {x:Addr},yf H a ps S->x∈ps->∃o,H x=some o
 |[],_,_,_,h,m=>by rw[h.1]at m;cases m
 |d::a,ps,S,x,h,m=>by
  obtain⟨p,r,s,f,rfl,rfl,rfl,c,b⟩:=h;rcases Mb.mp m with e|e
  .exact⟨_,e ▸ c⟩
  exact yf.mem b e
theorem EV(x:D)(h:plain x=true):∀ds:dL,bZ ds=true->bZ (ds++[x])=true
 |[],_=>by simp[h]
 |d::ds,a=>by
  rw[oW,Ho]at a;rw[Vt,oW,a.1,EV x h ds a.2];rfl
theorem UX(x:D)(h:Fe x<=1):∀ds:dL,gU ds<=1->gU (ds++[x])<=1
 |[],_=>by simp[lU];exact h
 |d::ds,a=>by
  rw[lU]at a;have:=UX x h ds (by lia)
  rw[Vt,lU];lia
theorem yf.len{H:Hp}:∀{a:sK} {ps:be} {S:List (Int×Pq)},yf H a ps S->S.length=a.length
 |[],_,_,h=>by rw[h.2];rfl
 |c::a,ps,S,h=>by
  obtain⟨p,r,s,e,rfl,rfl,rfl,d,b⟩:=h;rw[dg,dg,yf.len b]
def QF(K:Frag)(p:Nat):TT:=CF (tB<|Mh K p 1)<|CF (tB<|Mh K p 2)<|l_ (iN<|wk (Zh λi j=>.bl<|decide (j<i)) (Mh K p 0)<|L2.tC<|.int 1)<|tB<|Mh K p 3
def bF1{K:Frag}{p:Nat} {x:Addr} {s:Pq} {Q:KB} (e:τ[p]?=some (some<|.ref x)) (h:H x=some (.lst<|Jj s)) (q:Q (s.2.1&&(s.2.2.1&&(decide (1<s.1)||s.2.2.2))) H):QF K p τ H Q:=by
 obtain⟨c,y,z,w⟩:=s;refine Gv e h rfl ⟨y,rfl,?_⟩;cases y with
 |false=>exact q
 |true=>
  refine Gv e h rfl ⟨z,rfl,?_⟩;cases z with
  |false=>exact q
  |true=>
   refine Gv e h rfl ⟨c,1,rfl,rfl,_,rfl,?_⟩;dsimp only at q ⊢
   by_cases a:1<c
   .rw[Qa<|Bf a];rw[Bf a]at q;exact q
   rw[Ea (by simpa using a)]
   rw[Ed a]at q;exact Gv e h rfl ⟨w,rfl,q⟩
def Ă{S:List (Int×Pq)} {s:Int×Pq} (h:S[i]?=some s):ap (S.take<|i+1)=(ap (S.take i) && !(s.2.2.1&&(s.2.2.2.1&&(decide (1<s.2.1)||s.2.2.2.2)))):=by
 unfold ap;rw[KP,h,List.all_append];simp
section
variable{K:Frag}{B:be}{G:Hp}{t d p k g bd:Nat}{a P:Addr}{ob:Obj}{Wb:pi}{A:be}{H:Hp}{st:za}{σ:Sg}{ia:sK}{ps:be}{S:List (Int×Pq)}{f1 f2 f3:Ex}{it:ij}{Dn:Ends}
theorem bF2(n:Xc K B G t d p a P ob Wb A H st σ ia ps S)(Z:p<σ.length)(hb:bd<σ.length)(hl:ia.length<=1000000)(q:∀c,aX G c->Dn.rt (.bl<|ap S) c) :
  zN (nC (tx [p] (PF d) (jX p) (QF K p)<|lJ p)<|jX bd) (yy<|wk (ft K false) (lJ bd)<|aw Iq) Dn σ H:=by
 refine⟨P,ia,n.Pj,n.Xe,λnv DS hn z hz=>?_⟩
 have J:∀{b:Addr}{o:HO},Ra (Ra H nv<|Hq nv P) P (.fg DS<|.dK ia) b=some o->b≠z:=λe=>aN e hz
 have N:P≠z:=J bB;have X:=(ki.mp (ki.mp n.nd).2).1;have W:yf (Ra (Ra H nv<|Hq nv P) P<|.fg DS<|.dK ia) ia ps S:=n.Xh.mono λx C o e=>by rw[aK λz:x=P=>X<|z ▸ C,aK<|aN e hn];exact e
 have r:∀x∈ps,x≠z:=λx C=>(W.mem C).elim λ_ e=>J e
 have R:G z=none:=by
  cases h:G z with
  |none=>rfl
  |some u=>
   have:=n.lo _ _ h;rw[aK N.symm]at hz
   by_cases e:z=nv
   .rw[e,bB]at hz;cases hz
   rw[aK e,this]at hz;cases hz
 have gn:G nv=none:=by
  cases h:G nv with
  |none=>rfl
  |some u=>rw[n.lo _ _ h]at hn;cases hn
 refine⟨λi l τ k c=>l=ia.length-i/\i<=ia.length/\p<τ.length/\c z=some (.lst k)/\c P=some (.fg DS<|.dK ia)/\yf c ia ps S/\aX G c/\k.length<=i/\∃ds,bA K (hide [z] c) ds k/\bZ ds=true/\gU ds<=1/\ds.isEmpty=ap (S.take i),
  ⟨ia.length,rfl,Gf _,by rw[HK];exact Z,bB,by rw[aK N,bB],W.mono λx C o e=>by rw[aK<|J e];exact e,mZ (mZ (mZ n.lo gn)<|n.zn _ n.mP) R,Gf _,[],.nil,rfl,Gf _,rfl⟩,?_⟩
 intro i l τ k c hW;refine yd λQ=>?_
 obtain⟨rfl,hi,M,m,D,E,g,fI,ds,F,I,V,O⟩:=hW
 by_cases j:i<ia.length
 .refine Q ⟨m,.inr ⟨⟨D,j⟩,λx H2 hy=>?_⟩⟩
  obtain⟨rfl,kv,e1,rfl⟩:=hy;obtain⟨x,s,e2,Y,e3,U⟩:=E.at e1;rw[e2];have T:(τ.set p<|some<|.ref x)[p]?=some (some<|.ref x):=by rw[Vd,Qa rfl,Qa M]
  have L:=r x Y;refine bF1 T U ?_
  have v:=Ă e3;cases f:(s.2.2.1&&(s.2.2.2.1&&(decide (1<s.2.1)||s.2.2.2.2))) with
  |true=>
   rw[Qa rfl];rw[f,Bool.not_true,oz]at v;refine⟨_,T,m,?_,ia.length-(i+1),by lia,rfl,j,by rw[zg];exact M,bB,by rw[aK N];exact D,E.mono λy hy o e=>?_,mZ g R,by rw[Ef];show k.length+1<=_;lia,ds++[.lst [.int s.2.1,.bl s.2.2.1,.bl s.2.2.2.1,.bl s.2.2.2.2]],?_,?_,?_,?_⟩
   .have:sizeLine=16777216:=rfl;lia
   .rw[aK<|r y hy];exact e
   .rw[mV<|Mc.mpr rfl];refine F.append (.cons (dM.mpr ⟨x,Jj s.2,rfl,?_,?_⟩) .nil)
    .rw[cN λw=>L<|Mc.mp w];exact U
    exact .cons (bC.mpr rfl)<|.cons (cA.mpr rfl)<|.cons (cA.mpr rfl)<|.cons (cA.mpr rfl) .nil
   .exact EV _ (by simp) ds I
   .exact UX _ (by simp[lU,Fe]) ds V
   rw[v];cases ds<;>rfl
  |false=>
   rw[Ea Qh];rw[f,Bool.not_false,Bool.and_true]at v;exact⟨ia.length-(i+1),by lia,rfl,j,by rw[zg];exact M,m,D,E,g,by lia,ds,F,I,V,by rw[v];exact O⟩
 have e:i=ia.length:=by lia
 subst e;refine Q ⟨m,.inl ⟨⟨D,Ib _⟩,_,by rw[Vd,Qa rfl,Qa hb],Gf _,λy hy=>⟨.lst ds,.lst [],dM.mpr ⟨z,k,rfl,bL hy _ _ m,(F.mono<|aQ _ _).mono<|bL hy⟩,dM.mpr ⟨y,[],rfl,bB,.nil⟩,⟨by unfold Fe;lia,by unfold plain;exact I,rfl⟩,?_⟩⟩⟩
 have:=q (Ra c y<|.lst [])<|g.trans<|bL hy;rw[CG<|Sm E.len]at O;rw[<-O]at this;cases ds with
 |nil=>exact this
 |cons x xs=>exact this
def bMk(K:Frag)(t d p k g bd:Nat)(c b a:Ex)(it:ij):TS:=
 zN (nC mM<|jX d) (zN (Zs (AO t) (jX k)<|g8 K t d p k g c b a it)<|zN (nC (tx [p] (PF d) (jX p) (QF K p)<|lJ p)<|jX bd)<|yy<|wk (ft K false) (lJ bd)<|aw Iq)
theorem bIt(K9:t≠d)(IA:t≠p)(UH:d≠p)(LR:t≠k)(JR:d≠k)(W:p≠k)(ht:t≠g)(hd:d≠g)(hp:p≠g)(hk:k≠g)(h:tS K B (HF t d p k g bd f1 f2 f3 it) Dn σ H):bMk K t d p k g bd f1 f2 f3 it Dn σ H:=by
 refine yd λI=>?_
 obtain⟨A,st,r,C,c,D⟩:=h;unfold HF at c;split at c
 case h_2=>cases c
 rename_i ks F Lh;obtain⟨⟨⟨c1,c2⟩,c3,U,G,l3,l4,l5⟩,c⟩:=aM c;obtain⟨N,V,h2⟩:=R.ua c;cases h2;obtain⟨a,o,us,e1,T,h1,ko,q,u⟩:=C.lst t _ _ Lh;rcases ko with ⟨z,_⟩|⟨_,Wb,rfl,rfl,rfl⟩
 .cases z
 have Z:bA K iq F (Wb.map (·.2)):=A0 F c1 q;rw[C.len]at U G l3 l4 l5;have lt:=(gf.mp e1).1;have E:∀b v,aX (hide A H) v->b=R7 N->Dn.rt (.bl b) v:=λb v s e=>by
  refine D A (.bl b) v (λx o w=>?_)<|e ▸ cA.mpr rfl
  have hx:x∉A:=λm=>by rw[iU m]at w;cases w
  rw[cN hx];exact s x o w
 refine I λP y=>?_
 have Q:=aN h1 y;refine⟨a,Wb,by rw[tY K9];exact e1,by rw[aK Q];exact h1,λob=>?_⟩
 have L:(Lj Wb).length=Wb.length:=Gb ..;have M:RS K B A H (((st.set t none).set d none).set p none) σ:=((C.eR t).eR d).eR p;have no:∀(j:Nat) k xs,(((st.set t none).set d none).set p none)[j]?≠some (some<|.o k xs):=λj k xs e=>by
  have:=ww.mp c3 _<|nj e;cases this
 have sd:(((st.set t none).set d none).set p none)[d]?=some none:=by
  rw[tY UH,Vd,Qa rfl,Qa (by rw[zg,C.len];exact U)]
 have sp:(((st.set t none).set d none).set p none)[p]?=some none:=by
  rw[Vd,Qa rfl,Qa (by rw[zg,zg,C.len];exact G)]
 have s0:Xc K B (hide A H) t d p a P ob Wb (P::A) (Ra (Ra H P<|.dK []) a<|.fg ob<|.dT Wb) (((st.set t none).set d none).set p none) (σ.set d<|some<|.ref P) [] [] []:=by
  refine⟨((M.Sw sd).nB no y).DU no<|Kb _ T,no,sp,by rw[tY K9];exact e1,by rw[Vd,Qa rfl,Qa U],bB,by rw[aK Q.symm,bB],⟨rfl,rfl⟩,Kb _ T,Cb,(λ_ h=>nomatch h),by simp[Q],mZ (mZ (aQ _ _) ?_)<|iU T,λz hz=>?_⟩
  .cases w:hide A H P with
   |none=>rfl
   |some u=>rw[aQ _ _ _ _ w]at y;cases y
  rcases Mb.mp hz with e|e
  .rw[e];cases w:hide A H P with
   |none=>rfl
   |some u=>rw[aQ _ _ _ _ w]at y;cases y
  exact iU e
 refine⟨λi l τ v=>l=Wb.length-i/\i<=Wb.length/\∃J st' ia ps S,τ.length=σ.length/\Xc K B (hide A H) t d p a P ob Wb J v st' τ ia ps S/\ia.length<=i/\Mm (Lj Wb) F k g f1 f2 f3 it ((Lj Wb).drop i) S st'=.ok N,
  ⟨Wb.length,rfl,Gf _,_,_,[],[],[],zg ..,s0,Gf _,V⟩,?_⟩
 intro i l τ v hW;refine yd λI=>?_
 obtain⟨rfl,hi,J,st',ia,ps,S,hl,n,hkl,c⟩:=hW;have fI:Wb.length<=1000000:=by
  have:=Z.length;rw[Gb]at this
  rwa [this]
 by_cases f:i<Wb.length
 .rw[Zq (by rw[L];exact f)]at c
  refine I<|.inr ⟨⟨n.told,f⟩,λX Y=>∃J st' ia ps S,X.length=σ.length/\Xc K B (hide A H) t d p a P ob Wb J Y st' X ia ps S/\ia.length<=i+1/\Mm (Lj Wb) F k g f1 f2 f3 it ((Lj Wb).drop<|i+1) S st'=.ok N,λX Y h=>⟨Wb.length-(i+1),by lia,rfl,f,h⟩,λx Y hy=>?_⟩
  obtain⟨rfl,pr,b,YR,rfl,hb⟩:=hy;have ek:(Lj Wb)[i]'(by rw[L];exact f)=.tup (pr.1.map jM):=by
   have:=(gf.mp YR).2;rw[Ht,this]
  rw[ek]at c;refine bBi Z IA UH LR JR W ht hd hp hk n hb (by rw[hl];exact G) (by rw[hl];exact l3) (by rw[hl];exact l4) ?_ c (λe H3 s=>E _ _ s<|by rw[e];rfl) λA2 Ds H3 Wg xS O S2 vj n2 hle Pr=>⟨A2,Wg,xS,O,S2,vj.trans hl,n2,by lia,Pr⟩
  have:sizeLine=16777216:=rfl;lia
 have e:i=Wb.length:=by lia
 subst e;rw[cz<|Sm L]at c;cases c;exact I<|.inl ⟨⟨n.told,Ib _⟩,bF2 n (by rw[hl];exact G) (by rw[hl];exact l5) (by lia) λH3 s=>E _ _ s rfl⟩
end
section
variable {t d p k g bd:Nat} {f1 f2 f3:Ex} {S0 b1 b2 b3 b4 b5 S2 S3:Stmt} {iter:Expr}
def bIu(s:PassesOwn (model X.prog X.w) X.A X.env X.xe)(w:X.calm=true)(G:PS X S0 (nC mM<|jX d))(u:L2.PI X tg iter (AO t))(v:PG X tg (jX k))
  (F:PS X b1 (nC (UT X.K "dict" iO (lJ d)<|uG (Us (lJ t)<|lJ k)<|uG (aw<|uG (L2.tC<|.int 0)<|uG (L2.tC<|.bl false)<|uG (L2.tC<|.bl false)<|uG (L2.tC<|.bl false) Iq) Iq)<|jX p))
  (E:PS X b2 (nC (wk (Zh λi j=>.int<|i+j) (Mh X.K p 0)<|L2.tC<|.int 1)<|yP p 0)) (D:PS X b3 (nC (Hl (Mh X.K p 1)<|bj X.K f1)<|yP p 1)) (C:PS X b4 (nC (Hl (Mh X.K p 2)<|bj X.K f2)<|yP p 2))
  (A:PS X b5 (Zs (ow X.K it) (jX g)<|Vy X.K t p k g f3)) (z:PS X S2 (nC (tx [p] (PF d) (jX p) (QF X.K p)<|lJ p)<|jX bd)) (y:PS X S3 (yy<|wk (ft X.K false) (lJ bd)<|aw Iq))
  (a:[t,d,p,k,g].Nodup:=by decide) (r:∀x,foldedSetIterable iter X.env x=pure x:=by intro _;rfl) :
  Te X [S0,.For tg iter [b1,b2,b3,b4,b5] [] pos,S2,S3] (tS X.K B<|HF t d p k g bd f1 f2 f3 it):=by
 refine Nx (kI G<|kI (ZL s w u v (kI F<|kI E<|kI D<|kI C<|zB A) r)<|kI z<|zB y) λJ σ H h=>?_
 simp at a;obtain⟨⟨q,o,n,m⟩,⟨l,f,e⟩,⟨c,b⟩,I⟩:=a;exact bIt q o l n f c m e b I h
end
section
variable{y:Str}{p3:Pos}
def XO(i:Nat)(n:X.N[i]?=some x:=by rfl)(v:Eh X.env.scope x:=by exact Zi rfl)(d:Ce x:=by decide)(c:Yi x:=by decide):PE X (.Name x pos) (lJ i):=kE n v d c
def Yv(i:Nat){j:Int} (n:X.N[i]?=some x:=by rfl) (v:Eh X.env.scope x:=by exact Zi rfl) (d:Ce x:=by decide) (c:Yi x:=by decide):PE X (.Subscript (.Name x p1) (.Constant (.int j) m p2) p3) (Mh X.K i j):=nN eM (kE n v d c) Gs (by intro _ _;rfl)
theorem BO(i k:Nat)(f:X.A.units+64<cLine)(n:X.N[i]?=some x:=by rfl)(v:Eh X.env.scope x:=by exact Zi rfl)(d:Ce x:=by decide)(c:Yi x:=by decide)(a:X.N[k]?=some y:=by rfl)(v2:Eh X.env.scope y:=by exact Zi rfl)(b:Ce y:=by decide)(e:Yi y:=by decide):PE X (.Subscript (.Name x p1) (.Name y p2) p3) (Us (lJ i)<|lJ k):=bC8 (by lia) (kE n v d c) (kE a v2 b e) (by intro _ _;rfl)
theorem bIw(i k:Nat)(f:X.A.units+64<cLine)(n:X.N[i]?=some x:=by rfl)(v:Eh X.env.scope x:=by exact Zi rfl)(d:Ce x:=by decide)(c:Yi x:=by decide)(a:X.N[k]?=some y:=by rfl)(v2:Eh X.env.scope y:=by exact Zi rfl)(b:Ce y:=by decide)(e:Yi y:=by decide)(h:behindInMarks .In (.Name y p2)=false:=by rfl):PT X (.Compare (.Name x p1) [.In] [.Name y p2] p3) (tB<|GO (lJ i)<|lJ k):=bG3 (bGr (by lia) (kE n v d c)<|kE a v2 b e) h
def YO(i:Nat)(d:X.N.Nodup)(b:X.N[i]?=some x:=by rfl)(a:Loc X.env.scope x:=by exact Pn rfl)(c:kl X x:=by first|exact .inl rfl|exact .inr rfl|assumption):PG X (.Name x pos) (jX i):=B0 d b a c
def i8(i:Nat) (he:PE X e te) (f:X.N.Nodup) (c:X.N[i]?=some x:=by rfl) (a:Loc X.env.scope x:=by exact Pn rfl) (b:ml e (some<|.Name x p1) pos.line X.env:=by rfl) (d:kl X x:=by first|exact .inl rfl|exact .inr rfl|assumption):PS X (.Assign [.Name x p1] e pos) (nC te<|jX i):=jv f c a he b d
def B7(i:Nat){j:Int} (he:PE X e te) (n:X.N[i]?=some x:=by rfl) (v:Eh X.env.scope x:=by exact Zi rfl) (d:Ce x:=by decide) (c:Yi x:=by decide) (b:swapsWithSole [.Subscript (.Name x p1) (.Constant (.int j) m p2) p3] e pos.line X.env=pure false:=by rfl) (a:swappedStores [.Subscript (.Name x p1) (.Constant (.int j) m p2) p3] e X.env=pure none:=by rfl)
  (f:(assignEach [.Subscript (.Name x p1) (.Constant (.int j) m p2) p3] X.env).map (·.2)=[assign (.Subscript (.Name x p1) (.Constant (.int j) m p2) p3) X.env]:=by rfl):PS X (.Assign [.Subscript (.Name x p1) (.Constant (.int j) m p2) p3] e pos) (nC te<|yP i j):=WL he (N4 (kE n v d c) Gs set_list) b a f
def CO(i:Nat){j:Int}{k:Nat} {h g b a:Pos} (he:∀B,PE X e<|tI X.K B f) (n:X.N[i]?=some x:=by rfl) (v:Eh X.env.scope x:=by exact Zi rfl) (d:Ce x:=by decide) (c:Yi x:=by decide)
  (o:swapsWithSole [.Subscript (.Name x p1) (.Constant (.int j) m p2) p3] (.BoolOp .Or [.Subscript (.Name x h) (.Constant (.int j) k g) b,e] a) pos.line X.env=pure false:=by rfl) (l:swappedStores [.Subscript (.Name x p1) (.Constant (.int j) m p2) p3] (.BoolOp .Or [.Subscript (.Name x h) (.Constant (.int j) k g) b,e] a) X.env=pure none:=by rfl)
  (p:(assignEach [.Subscript (.Name x p1) (.Constant (.int j) m p2) p3] X.env).map (·.2)=[assign (.Subscript (.Name x p1) (.Constant (.int j) m p2) p3) X.env]:=by rfl):PS X (.Assign [.Subscript (.Name x p1) (.Constant (.int j) m p2) p3] (.BoolOp .Or [.Subscript (.Name x h) (.Constant (.int j) k g) b,e] a) pos) (nC (Hl (Mh X.K i j)<|bj X.K f)<|yP i j):=B7 i (J6 (Yv i n v d c)<|UL<|Iy he) n v d c o l p
def bF3(i:Nat){is:ac} {a:Expr} {k:L2.TI} {g:TG} (S:xc X scope is) (B:L2.PI X tg a k) (D:∀(C:Addr)(f:Shared)(d:Hp)(c:be),PG (eQ X scope C f d c) tg g) (y:∀(C:Addr)(f:Shared)(d:Hp)(c:be),PT (eQ X scope C f d c) e tt)
  (he:∀(C:Addr)(f:Shared)(d:Hp)(c:be),PE (eQ X scope C f d c) elt te) (mono:∀j H (Q m:VK),(∀v n,Q v n->m v n)->te j H Q->te j H m) (F:X.calm=true) (G:X.N.Nodup) (t:X.N[i]?=some x:=by rfl) (w:Loc X.env.scope x:=by exact Pn rfl)
  (R:swapsWith (.ListComp elt [⟨tg,a,[e],0⟩] scope pos) (some<|.Name x p1) p2.line X.env=pure true:=by rfl)
  (E:kl X x:=by first|exact .inl rfl|exact .inr rfl|assumption) (z:∀x,foldedSetIterable a X.env x=pure x:=by intro _;rfl):PS X (.Assign [.Name x p1] (.ListComp elt [⟨tg,a,[e],0⟩] scope pos) p2) (nC (tx is k g tt te)<|jX i):=by
 intro l s σ H Z I h;rw[exec_Assign_Name_used _ _ _ _ R];exact qa<|Qt<|qa<|qa<|oi (uX (te:=te) (rest:=λb it p=>isTrue e b (eval e b) >>= λok=>if ok=true then (eval elt b >>= λx=>call _ [p,x] >>= λ_=>again<|.compLoop _ 0 it p b) else again (.compLoop _ 0 it p b)) S F B D (λ_ _ _=>rJ)
  (λC f d c it p s Q h=>RO h) (λC f d c it p j H s l o N Q I h q=>NN rfl (he C f d c) (y C f d c) j H s l o N Q I h (mono j) q) z I h λC p W T V U Y c j J O L M K u=>IX G t w E J O L M K λr P=>⟨_,_,P,u⟩) (λ_ r A=>Ga<|Ga A) λ_ _ e=>e
def bBl(a:Sg)(H:Hp)(Q b:VK)(m:∀v c,Q v c->b v c)(h:lJ i a H Q):lJ i a H b:=let ⟨v,e,q⟩:=h;⟨v,e,m _ _ q⟩
end
section
def xa(c:X.N[i]?=some x:=by rfl)(a:Eh X.env.scope x:=by exact Zi rfl)(b:Ce x:=by decide)
  (d:Yi x:=by decide):PE X (.Name x pos) (tP X.K B<|aA i):=Aa<|aD c a b d
def Wa{i:Int}:PE X (.Constant (.int i) j pos) (tP X.K B<|eC<|.int i):=Aa dZ
def Pd{P:wP}{a:Scope}(h:N.Nodup/\N.take P.length=P/\(∀x∈P,a.names.lookup x=some .local\/a.names.lookup x=some .cell)/\∀y∈a.names,y.2≠.free:=by decide+kernel)(k:a.kind=.function:=by rfl)(c:a.isCoroutine=false:=by rfl)(b:a.isGenerator=false:=by rfl):Wc N P a:=⟨k,c,b,h.1,h.2.1,h.2.2.1,h.2.2.2⟩
def cD{k:Nat} (h:Na X.prog X.w X.K X.mg X.base x k np p) (d:PA X (e::es) (tA X.K B r)) (a:Bb j X.A:=by assumption) (b:k<=j:=by decide) (c:Gl X x:=by rfl) (f:Ce x:=by decide)
  (he:vf e es X.env:=by rfl) (Vf:Aj pos es X.env:=by rfl):PE X (.Call (.Name x p0) (e::es) [] pos) (tI X.K B<|aV p r):=bDb h a b d c f he Vf
end
end Pu
set_option maxHeartbeats 4000000
namespace Pu
open PySem PySem.Spec PyProof.Rows L2
def top(i:Nat):Stmt:=PySem.Challenge.pw_looprank_k53_whole_word_or_paper.main.body.getD i<|.Pass ⟨0,0,0,0⟩
def Jn(s:Stmt)(j:Nat):Stmt:=match s with
 |.ClassDef _ _ _ b _ _ _ _ _ _ _=>b.getD j<|.Pass ⟨0,0,0,0⟩
 |_=>.Pass ⟨0,0,0,0⟩
abbrev yQ:Stmt:=top 49
abbrev BJ:Stmt:=top 50
abbrev tZ:Stmt:=top 51
abbrev CJ:Stmt:=top 52
abbrev uA:Stmt:=top 53
abbrev DJ:Stmt:=top 54
abbrev EJ:Stmt:=top 24
abbrev FJ:Stmt:=top 25
abbrev MK:Stmt:=top 26
abbrev yR:Stmt:=top 36
abbrev rP:Stmt:=top 37
abbrev SJ:Stmt:=top 23
abbrev vW:Stmt:=top 27
abbrev vX:Stmt:=top 28
abbrev uB:Stmt:=top 29
abbrev uC:Stmt:=top 38
abbrev nY:Stmt:=top 39
abbrev rQ:Stmt:=top 40
abbrev uD:Stmt:=top 41
abbrev nZ:Stmt:=top 9
abbrev pO:Stmt:=top 33
abbrev rR:Stmt:=top 34
abbrev yS:Stmt:=top 21
abbrev GJ:Stmt:=top 13
abbrev HJ:Stmt:=top 14
abbrev jO:Stmt:=Jn (top 19) 1
abbrev fO:Stmt:=Jn (top 35) 0
abbrev jD:Stmt:=top 42
abbrev vY:Stmt:=top 55
abbrev yU:Stmt:=top 57
abbrev uE:Stmt:=top 58
abbrev vZ:Stmt:=top 59
abbrev uF:Stmt:=top 43
abbrev qN:Stmt:=top 44
abbrev wA:Stmt:=top 56
abbrev rT:Stmt:=top 60
abbrev rW:Stmt:=top 61
abbrev iH:Stmt:=top 45
abbrev oA:Stmt:=top 46
abbrev lX:Stmt:=top 47
abbrev oE:Stmt:=top 15
abbrev NK:Stmt:=top 16
abbrev yV:Stmt:=top 17
abbrev yW:Stmt:=top 18
abbrev eV:Stmt:=Jn (top 19) 0
abbrev gp:Stmt:=top 62
abbrev Qd(N:wP)(k:Nat)(st:Stmt):Prop:=Wc N (N.take k)<|bD st
theorem gP{w:World}{K:Frag} {st:Stmt} {f:Addr} {k:Nat} (F:Xa K x qual st dV f fd) (S:Wc N ps (bD st))
  (e:∀{b:Value}{A:Around}{a:AT}{s:Shared}{H:Hp}{E:XK}{B:be},Bb k (A.deeper<|envOfC qual (bD st) s.heap.objs.size f b)->N.Nodup->
   Te (qm gc P w K mg base N qual (bD st) f b A a s H E).si (cX st) (tS K B bd)) (c:ps.length=np:=by rfl) (d:N.length=n:=by rfl):Ja P w K mg base gc (k+1) f fd ps (Dc K np<|dI np n bd):=bL1 F S np n bd c d λ_ _ _ _ _ _ _ h=>e h S.nd
theorem ϯ:Qd ["_law_script","_law_k"] 2 yQ:=Pd
theorem Ï:Qd ["_law_cell_here","_law_k","_law_many","_law_number"] 3 BJ:=Pd
theorem Ν:Qd ["_law_cell_here","_law_many","_law_count","_law_row","_law_k"] 3 tZ:=Pd
theorem Ð:Qd ["_law_script","_law_start","_law_most","_law_count","_law_first","_law_many","_law_steps","_law_ranks","_law_k","_law_j","_law_rank"] 4 CJ:=Pd
theorem Ξ:Qd ["_law_cell_here","_law_steps","_law_ranks","_law_many","_law_way","_law_at","_law_twice","_law_k","_law_turned","_law_rank","_law_goal"] 3 uA:=Pd
theorem Ñ:Qd ["_law_script","_law_cell_here","_law_count","_law_most","_law_one_here","_law_other"] 1 DJ:=Pd
theorem Ò:Qd ["bits","room"] 2 EJ:=Pd
theorem Ó:Qd ["bits","room"] 1 FJ:=Pd
theorem Ŕ:Qd ["sets","bits","rooms"] 1 MK:=Pd
theorem ϰ:Qd ["wanted","p","q"] 3 yR:=Pd
theorem ς:Qd ["sides","wanted","found","p","q"] 2 rP:=Pd
theorem ă:Qd ["rooms","bits","room"] 1 SJ:=Pd
theorem Ϙ:Qd ["steps","allowed","rooms","seen","room","middle"] 2 vW:=Pd
theorem ϙ:Qd ["steps","part","rooms"] 2 vX:=Pd
theorem Ο:Qd ["steps","allowed","seen","parts","room","part","other"] 2 uB:=Pd
theorem Ρ:Qd ["sides","p","q","ranks","place","pair"] 3 uC:=Pd
theorem V':Qd ["sides","part","places","place"] 2 nY:=Pd
theorem υ:Qd ["sides","wanted","found","p","q","parts","part"] 2 rQ:=Pd
theorem Τ:Qd ["sides","wanted","start","words","met","turn","here","letter","goal","there"] 3 uD:=Pd
theorem X':Qd ["word"] 1 nZ:=Pd
theorem ζ:Qd ["one","other"] 2 pO:=Pd
theorem χ:Qd ["one","other","steps","left","right"] 2 rR:=Pd
theorem ϱ:Qd ["steps","start","allowed","ways","met","place","here","letter","room"] 3 yS:=Pd
theorem Ô:Qd ["thing"] 1 GJ:=Pd
theorem Õ:Qd ["thing","limit"] 2 HJ:=Pd
theorem wY:Qd ["self","thing"] 2 jO:=Pd
theorem sY:Qd ["self","one","other","left","right","steps","fronts","pair","goal"] 5 fO:=Pd
theorem Υ:Qd ["one","other","wanted","left","right","sides","places","words","place"] 5 jD:=Pd
theorem Ϛ:Qd ["_law_one_here","_law_other","_law_left","_law_right","_law_found","_law_at","_law_goal","_law_here","_law_there"] 4 vY:=Pd
theorem ϲ:Qd ["_law_one_here","_law_other","_law_wanted","_law_pairs_here","_law_rows_here","_law_high","_law_low","_law_here","_law_there"] 4 yU:=Pd
theorem Φ:Qd ["_law_one_here","_law_other","_law_pairs_here","_law_high","_law_low","_law_numbers","_law_told","_law_stand","_law_pair","_law_bad","_law_number","_law_place","_law_goal"] 6 uE:=Pd
theorem ϛ:Qd ["_law_one_here","_law_other","_law_wanted","_law_left","_law_right","_law_paper_here","_law_pairs_here","_law_high","_law_low","_law_numbers","_law_row"] 6 vZ:=Pd
theorem Χ:Qd ["sides","p","q","seen","rising","place"] 3 uF:=Pd
theorem CW:Qd ["one","other","wanted","left","right","sides","p","q"] 5 qN:=Pd
theorem Ϝ:Qd ["_law_machine","_law_word","_law_room","_law_letter","_law_seen","_law_rooms","_law_place","_law_steps","_law_ranks","_law_front","_law_turn","_law_one_here"] 3 wA:=Pd
theorem ψ:Qd ["_law_first","_law_second","_law_wanted","_law_left","_law_right","_law_refused_here","e"] 5 rT:=Pd
theorem ω:Qd ["_law_one_here","_law_other","_law_first","_law_second","_law_wanted","_law_left","_law_right","_law_word"] 7 rW:=Pd
theorem Α:Qd ["one","other","left","right"] 4 iH:=Pd
theorem Ö:Qd ["one","other","left","right"] 4 oA:=Pd
theorem ϳ:Qd ["one","other","left","right"] 4 lX:=Pd
theorem Y':Qd ["thing","most"] 2 oE:=Pd
theorem ŕ:Qd ["thing","letters","rooms","room"] 3 NK:=Pd
theorem ϴ:Qd ["thing","row"] 1 yV:=Pd
theorem ϵ:Qd ["thing","rooms","rank"] 2 yW:=Pd
theorem pQ:Qd ["self","steps","ranks","row"] 3 eV:=Pd
theorem bIy:Qd ["_law_script","_law_first","_law_second","_law_asked","_law_number","_law_one_here","_law_other","_law_left","_law_right","_law_wanted","_law_here","_law_there","_law_word","_law_alone","_law_step","_law_k"] 1 gp:=Pd
section
variable{P:Program}{w:World}{K:Frag}{mg:jp}{base:Heap}{fa:Addr}{fd:FuncData}{dV:Value}
variable(bQ:mg "len"=none)
def Ø(F:Xa K "_law_cell" "_law_cell" yQ dV fa fd):Ja P w K mg base gc 1 fa fd ["_law_script","_law_k"] (Dc K 2 dJ):=gP F ϯ λb a=>(aH (iV (cB Ts vV xa<|Aa<|fW bQ xa) (aW<|bU<|bT xa xa) dU)<|aH (iV (cB fJ fX (Aa<|fW bQ xa) Wa) (aW<|bU<|dO (Aa<|jN Wa xa) Wa) dU)<|aW<|bU<|dO (Aa<|bT xa<|Aa<|jG (Aa<|jN xa Wa)<|Aa<|fW bQ xa)<|Aa<|jN Wa xa)
theorem Ą(F:Xa K "_law_mix" "_law_mix" BJ dV fa fd):Ja P w K mg base gc 1 fa fd ["_law_cell_here","_law_k","_law_many"] (Dc K 3 bM):=gP F Ï λb a=>(aH (cG<|jG (Aa<|jN (Aa<|dO (Aa<|dO (Aa<|jG xa Wa)<|Aa<|jN Wa xa) Wa) Wa) Wa)<|aH (cG<|jG (Aa<|jN (Aa<|jG (Aa<|jN xa xa) Wa) Wa) Wa)<|aW<|bU<|jG (Aa<|jG (Aa<|jN xa xa) Wa) xa)
variable(cV:mg "range"=none)
def ϝ(F:Xa K "_law_digits" "_law_digits" tZ dV fa fd):Ja P w K mg base gc 1 fa fd ["_law_cell_here","_law_many","_law_count"] (Dc K 3 oG):=gP F Ν λb a=>(aH (tW<|cp aL)<|aH (jZ (uW cV xa) bO<|aH (by exact Gq 3<|jG xa xa)<|by exact aW<|cG<|IE xa xa)<|aW<|xo [3]<|bU aD)
variable(cY:Na P w K mg base "_law_cell" 1 2 dJ)(Ka:Na P w K mg base "_law_mix" 1 3 bM)(ke:Na P w K mg base "_law_digits" 1 3 oG)
def ą(F:Xa K "_law_one" "_law_one" CJ dV fa fd):Ja P w K mg base gc 2 fa fd ["_law_script","_law_start","_law_most","_law_count"] (Dc K 4 qU):=gP F Ð λb a=>(aH (cG<|cD cY<|aB aD<|aB aD aL)<|aH (cG<|dO Wa<|Aa<|cD Ka<|aB aD<|aB dZ<|aB aD aL)<|aH (Qs (uW cV xa) (λ_ _ _ _ _=>bO)<|λ_ _ _ _ _=>eU (uW cV xa) (λ_ _ _ _ _=>bO)<|λ_ _ _ _ _=>cD Ka<|aB (cD cY<|aB aD<|aB (dO (Aa<|dO xa Wa) xa) aL)<|aB aD<|aB aD aL)<|aH (iV (cB fJ fX (Aa<|cD Ka<|aB aD<|aB dZ<|aB dZ aL) Wa) (aW<|Qs (uW cV xa) (λ_ _ _ _ _=>bO)<|λ_ _ _ _ _=>cD ke<|aB (cD cY<|aB aD<|aB (dO (Aa<|dO xa Wa) xa) aL)<|aB aD<|aB aD aL) dU)<|aH (Qs (uW cV xa) (λ_ _ _ _ _=>bO)<|λ_ _ _ _ _=>cD Ka<|aB (cD cY<|aB aD<|aB (dO (Aa<|dO xa Wa) xa) aL)<|aB dZ<|aB (dO Wa<|Aa<|cD Ka<|aB aD<|aB dZ<|aB dZ aL) aL)<|aH (iV (cB fJ fX (Aa<|cD Ka<|aB aD<|aB dZ<|aB dZ aL) Wa) (aW<|Qs (gD aD) (λ_ _ _ _ _=>bO)<|λ_ _ _ _ _=>dO xa<|Aa<|jN (Aa<|jG (Aa<|cD cY<|aB aD<|aB aD aL)<|Aa<|bKq Wa Wa) Wa) dU)<|aW<|bU<|sU<|aB aD<|aB aD aL)
def Ϟ(F:Xa K "_law_beside" "_law_beside" uA dV fa fd):Ja P w K mg base gc 2 fa fd ["_law_cell_here","_law_steps","_law_ranks"] (Dc K 3 jC):=gP F Ξ λb a=>(aH (cG<|fW bQ xa)<|aH (cG<|cD Ka<|aB aD<|aB dZ<|aB dZ aL)<|aH (iV (cB fJ fX xa Wa) (aW<|bU<|sU<|aB aD<|aB (eU (gD aD) (λ_ _ _ _ _=>bO)<|λ_ _ _ _ _=>dO xa Wa) aL) dU)<|aH (iV (cB fJ fX xa Wa) (aH (by exact cG<|cD Ka<|aB aD<|aB dZ<|aB aD aL)<|by exact aW<|bU<|sU<|aB aD<|aB (dO (Aa<|dO (Aa<|QO xa SM<|TM xa)<|Aa<|sU<|aB (dO (Aa<|bT xa xa) Wa) aL)<|Aa<|QO xa (TM<|Aa<|dO xa Wa) SM) aL) dU)<|aH (iV (PW.pt<|Vv (cB fJ fX xa Wa)<|Bv<|cB Ts vV xa Wa) (aH (by exact tW<|cp aL)<|by exact aH (by exact jZ (uW cV<|Aa<|jN Wa xa) bO<|aW<|Gq 6<|eU (gD<|bT xa<|Aa<|jG xa xa) (λ_ _ _ _ _=>bO)<|λ_ _ _ _ _=>dO xa<|Aa<|jN xa<|Aa<|cD Ka<|aB aD<|aB (dO (Aa<|dO Wa<|Aa<|jN Wa xa) xa)<|aB dZ aL)<|by exact aW<|xo [6]<|bU<|sU<|aB aD<|aB (dO xa<|Aa<|eU (gD aD) (λ_ _ _ _ _=>bO)<|λ_ _ _ _ _=>dO xa Wa) aL) dU)<|aH (iV (cB fJ fX xa Wa) (aH (by exact Qs (uW cV xa) (λ_ _ _ _ _=>bO)<|λ_ _ _ _ _=>eU (gD<|bT xa<|Aa<|Z6 xa Wa) (λ_ _ _ _ _=>bO)<|λ_ _ _ _ _=>jG (Aa<|dO xa Wa) xa)<|by exact aW<|bU<|sU<|aB aD<|aB (eU (uW cV xa) (λ_ _ _ _ _=>bO)<|λ_ _ _ _ _=>bT xa<|Aa<|Z6 xa Wa) aL) dU)<|aW<|bU<|sU<|aB aD<|aB (eU (gD aD) (λ_ _ _ _ _=>bO)<|λ_ _ _ _ _=>dO xa Wa) aL)
variable(rY:Na P w K mg base "_law_one" 2 4 qU)(je:Na P w K mg base "_law_beside" 2 3 jC)
def Ć(F:Xa K "_law_two" "_law_two" DJ dV fa fd):Ja P w K mg base gc 3 fa fd ["_law_script"] (Dc K 1 vG):=gP F Ñ λb a=>(aH (cG<|cD cY<|aB aD<|aB dZ aL)<|aH (cG<|dO Wa<|Aa<|cD Ka<|aB aD<|aB dZ<|aB dZ aL)<|aH (cG dZ)<|aH (iV (cB fJ fX (Aa<|cD Ka<|aB aD<|aB dZ<|aB dZ aL) Wa) (aW<|cG dZ) dU)<|aH (cG<|cD rY<|aB aD<|aB dZ<|aB aD<|aB aD aL)<|aH (cG<|cD rY<|aB aD<|aB dZ<|aB aD<|aB aD aL)<|aH (iV (cB Jv JE (Aa<|cD Ka<|aB aD<|aB dZ<|aB dZ aL) Wa) (aW<|cG<|cD je<|aB (cD cY<|aB aD<|aB dZ aL)<|aB (bT xa Wa)<|aB (bT xa Wa) aL) dU)<|aW<|bU<|sU<|aB aD<|aB aD<|aB (cD Ka<|aB aD<|aB dZ<|aB (fW bQ<|Aa<|bT xa Wa) aL)<|aB (cD Ka<|aB aD<|aB dZ<|aB (fW bQ<|Aa<|bT xa Wa) aL) aL)
theorem ć(F:Xa K "has_room" "has_room" EJ dV fa fd):Ja P w K mg base gc 1 fa fd ["bits","room"] (Dc K 2 nJ):=gP F Ò λb a=>(aW<|bU<|fH fJ fX (Aa<|o6 (Aa<|bL8 xa xa) Wa) Wa)
variable(gQ:Na P w K mg base "has_room" 1 2 nJ)
def Ĉ(F:Xa K "rooms_of" "rooms_of" FJ dV fa fd):Ja P w K mg base gc 2 fa fd ["bits"] (Dc K 1 iM):=gP F Ó λb a=>(aW<|bU<|yK (uW cV<|Aa<|bI8 xa) (λ_ _ _ _ _=>bO) (λ_ _ _ _ _=>gO<|cD gQ<|aB aD<|aB aD aL)<|λ_ _ _ _ _=>aD)
theorem bBm(F:Xa K "joined" "joined" MK dV fa fd):Ja P w K mg base gc 1 fa fd ["sets"] (Dc K 1 XC):=gP F Ŕ λb a=>(aH (cG dZ)<|aH (jZ (gD aD) bO<|aW<|cG<|BF xa xa)<|aW<|bU aD)
variable{Ec:Addr}(fv_JUST_ONE:nsIn K mainGlobals (ofString "JUST_ONE")=some (some<|.ref Ec))
variable(gH:mg (ofString "JUST_ONE")=some (.ref Ec))
variable{lc:Addr}(fv_ONE_ALONE:nsIn K mainGlobals (ofString "ONE_ALONE")=some (some<|.ref lc))
variable(jW:mg (ofString "ONE_ALONE")=some (.ref lc))(Yd:Xv K Ec [false,true,true,false])(md:Xv K lc [false,true,false,false])
include fv_JUST_ONE gH fv_ONE_ALONE jW Yd md in
theorem Ù(F:Xa K "is_wanted" "is_wanted" yR dV fa fd):Ja P w K mg base gc 1 fa fd ["wanted","p","q"] (Dc K 3 lV):=gP F ϰ λa b=>(aW<|bU<|A7 (bT xa<|Aa<|dO (Aa<|jN (Aa<|jG xa Wa) Wa)<|Aa<|jG xa Wa)<|A7 (v7 fv_JUST_ONE Yd a.units xa<|Aa<|dO (Aa<|jN (Aa<|jG xa Wa) Wa)<|Aa<|jG xa Wa)<|v7 fv_ONE_ALONE md a.units xa<|Aa<|dO (Aa<|jN (Aa<|jG xa Wa) Wa)<|Aa<|jG xa Wa)
variable(jP:Na P w K mg base "is_wanted" 1 3 lV)
variable{qb:Addr}(Ha:ClsAt K "Sides" qb)
variable(bR:eZ K qb (ofString "lefts"))(Pa:eZ K qb (ofString "rights"))(Pb:mg "sorted"=none)(jg:mg "set"=none)
def Ψ(F:Xa K "wanted_ranks" "wanted_ranks" rP dV fa fd):Ja P w K mg base gc 2 fa fd ["sides","wanted"] (Dc K 2 gZ):=gP F ς λb a=>(aH (tW<|cp aL)<|aH (jZ (gD<|yO Pb jg rfl<|Aa<|iG Ha bR xa) bO<|aW<|j7 2<|ZZ (gD<|yO Pb jg rfl<|Aa<|iG Ha Pa xa) (λ_ _ _ _ _=>bO) (λ_ _ _ _ _=>gO<|cD jP<|aB aD<|aB aD<|aB aD aL)<|λ_ _ _ _ _=>lW<|aB aD<|aB aD aL)<|aW<|xo [2]<|bU aD)
theorem Ŗ(F:Xa K "bits_of" "bits_of" SJ dV fa fd):Ja P w K mg base gc 1 fa fd ["rooms"] (Dc K 1 nO):=gP F ă λb a=>(aH (cG dZ)<|aH (jZ (gD aD) bO<|aW<|cG<|BF xa<|Aa<|p7 Wa xa)<|aW<|bU aD)
variable(cZ:Na P w K mg base "rooms_of" 2 1 iM)(Rc:Na P w K mg base "bits_of" 1 1 nO)
def Ϸ(F:Xa K "seen_among" "seen_among" vW dV fa fd):Ja P w K mg base gc 3 fa fd ["steps","allowed"] (Dc K 2 mJ):=gP F Ϙ λa b=>(aH (cG<|cD cZ<|aB aD aL)<|aH bDk<|aH (jZ (gD aD) bO<|aW<|Ms a.units 3 aD<|o6 (Aa<|BF (Aa<|cD Rc<|aB (bT xa xa) aL)<|Aa<|p7 Wa xa) xa)<|aH (jZ (gD aD) bO<|aW<|jZ (gD aD) bO<|aW<|iV (gO<|cD gQ<|aB (bT eO xa)<|aB aD aL) (aW<|Ms a.units 3 aD<|BF (Aa<|bT eO xa)<|Aa<|bT eO xa) dU)<|aW<|xo [3]<|bU aD)
def ϸ(F:Xa K "goes_round" "goes_round" vX dV fa fd):Ja P w K mg base gc 3 fa fd ["steps","part"] (Dc K 2 pY):=gP F ϙ λb a=>(aH (cG<|cD cZ<|aB aD aL)<|aW<|bU<|bM9 (fH Jv JE (Aa<|fW bQ xa) Wa)<|bKs<|fH VM WM (Aa<|bT xa Wa)<|Aa<|bT xa<|Aa<|bT xa Wa)
variable(iY:Na P w K mg base "seen_among" 3 2 mJ)(Ke:Na P w K mg base "goes_round" 3 2 pY)
def ϟ(F:Xa K "parts_among" "parts_among" uB dV fa fd):Ja P w K mg base gc 4 fa fd ["steps","allowed"] (Dc K 2 oH):=gP F Ο λb a=>(aH (cG<|cD iY<|aB aD<|aB aD aL)<|aH (tW<|cp aL)<|aH (jZ (gD<|cD cZ<|aB aD aL) bO<|aH (by exact cG<|cD Rc<|aB (yK (gD<|cD cZ<|aB (bT xa xa) aL) (λ_ _ _ _ _=>bO) (λ_ _ _ _ _=>gO<|cD gQ<|aB (bT xa xa)<|aB aD aL)<|λ_ _ _ _ _=>aD) aL)<|by exact aW<|iV (PW.pt<|Vv (cB uY uZ xa eO)<|Bv<|gO<|cD Ke<|aB aD<|aB aD aL) (aW<|Gq 3 aD) dU)<|aW<|xo [3]<|bU aD)
variable(cR:mg "list"=none)(Xd:mg "zip"=none)(jf:mg "enumerate"=none)
def Ϡ(F:Xa K "kept_places" "kept_places" uC dV fa fd):Ja P w K mg base gc 2 fa fd ["sides","p","q"] (Dc K 3 kY):=gP F Ρ λb a=>(aH (cG<|j4 cR Xd rfl (iG Ha bR xa)<|iG Ha Pa xa)<|aW<|bU<|cD Rc<|aB (yK (bDu jf aD) (λ_ _ _ _ _=>sW rfl<|cQ<|cQ mW) (λ_ _ _ _ _=>PW.pt<|Vv (cB ny ay (Aa<|bT xa Wa) xa)<|Bv<|cB ny ay (Aa<|bT xa Wa) xa) (λ_ _ _ _ _=>aD) (hsub:=sF)) aL)
variable(wR:mg "max"=none)
def η(F:Xa K "greatest_ranks" "greatest_ranks" nY dV fa fd):Ja P w K mg base gc 3 fa fd ["sides","part"] (Dc K 2 jR):=gP F V' λb a=>(aH (cG<|cD cZ<|aB aD aL)<|aW<|bU<|lW<|aB (XN wR rfl<|Aa<|eU (gD aD) (λ_ _ _ _ _=>bO)<|λ_ _ _ _ _=>bT (Aa<|iG Ha bR xa) xa)<|aB (XN wR rfl<|Aa<|eU (gD aD) (λ_ _ _ _ _=>bO)<|λ_ _ _ _ _=>bT (Aa<|iG Ha Pa xa) xa) aL)
variable(fY:Na P w K mg base "wanted_ranks" 2 2 gZ)(ve:Na P w K mg base "parts_among" 4 2 oH)(Bc:Na P w K mg base "kept_places" 2 3 kY)(Tc:Na P w K mg base "greatest_ranks" 3 2 jR)(Za:eZ K qb (ofString "steps"))
def Ω(F:Xa K "wanted_parts" "wanted_parts" rQ dV fa fd):Ja P w K mg base gc 5 fa fd ["sides","wanted"] (Dc K 2 dF):=gP F υ λb a=>(aH (tW<|cp aL)<|aH (jZ (gD<|cD fY<|aB aD<|aB aD aL) (sW rfl<|cQ<|cQ mW)<|aH (by exact cG<|cD ve<|aB (iG Ha Za xa)<|aB (cD Bc<|aB aD<|aB aD<|aB aD aL) aL)<|by exact aW<|j7 2<|ZZ (gD aD) (λ_ _ _ _ _=>bO) (λ_ _ _ _ _=>cB fJ fX (Aa<|cD Tc<|aB aD<|aB aD aL)<|Aa<|lW<|aB aD<|aB aD aL)<|λ_ _ _ _ _=>aD)<|aW<|xo [2]<|bU aD)
variable{Hg:Tok}(Ae:mg "LETTERS"=some (.str "abc" Hg))
def ϡ(F:Xa K "first_round" "first_round" uD dV fa fd):Ja P w K mg base gc 2 fa fd ["sides","wanted","start"] (Dc K 3 oJ):=gP F Τ λa b=>(aH (QZ a.units 3 (lW<|aB aD<|aB (i7 Wa)<|aB (i7 Wa) aL) (vy []) b)<|aH (tW<|bEq cR rfl eO)<|aH (cG dZ)<|aH (ND (cB Ts vV xa<|Aa<|fW bQ eO)<|aH (by exact cG<|bT eO xa)<|by exact aH (by exact jZ (m6 Xd (S5 [97,98,99] Ae)<|bT (Aa<|iG Ha Za xa)<|Aa<|bT xa Wa) (sW rfl<|cQ<|cQ mW)<|aH (by exact cG<|lW<|aB aD<|aB (X5 wR rfl (Aa<|bT xa Wa)<|Aa<|bT (Aa<|iG Ha bR xa) xa)<|aB (X5 wR rfl (Aa<|bT xa Wa)<|Aa<|bT (Aa<|iG Ha Pa xa) xa) aL)<|by exact aH (by exact iV (PW.pt<|Vv (cB fJ fX xa xa)<|Bv<|gO<|cD jP<|aB aD<|aB (bT xa Wa)<|aB (bT xa Wa) aL) (aW<|bU<|dO (Aa<|bT eO xa) xa) dU)<|by exact aW<|iV (cB uY uZ xa eO) (aH (by exact Ms a.units 3 aD<|dO (Aa<|bT eO xa) xa)<|by exact aW<|Gq 4 aD) dU)<|by exact aW<|cG<|dO xa Wa)<|aW<|bU Dq)
def θ(F:Xa K "place_in_order" "place_in_order" nZ dV fa fd):Ja P w K mg base gc 1 fa fd ["word"] (Dc K 1 cH):=gP F X' λb a=>(aW<|bU<|lW<|aB (dO (Aa<|fW bQ<|Aa<|bT xa Wa)<|Aa<|fW bQ<|Aa<|bT xa Wa)<|aB (fW bQ<|Aa<|bT xa Wa)<|aB (bT xa Wa)<|aB (bT xa Wa) aL)
variable{Ta:Addr}(Ma:ClsAt K "Machine" Ta)
variable(dB:eZ K Ta (ofString "letters"))
def Β(F:Xa K "check_letters" "check_letters" pO dV fa fd):Ja P w K mg base gc 1 fa fd ["one","other"] (Dc K 2 jA):=gP F ζ λb a=>(aW<|iV (cB rK rM (Aa<|iG Ma dB xa)<|Aa<|iG Ma dB xa) (aW QD) dU)
variable(cT:eZ K Ta (ofString "many"))(Fb:eZ K Ta (ofString "steps"))
def ϊ(F:Xa K "paired_steps" "paired_steps" rR dV fa fd):Ja P w K mg base gc 1 fa fd ["one","other"] (Dc K 2 mK):=gP F χ λb a=>(aH (LL 2 a)<|aH (jZ (uW cV<|Aa<|iG Ma cT xa) bO<|aW<|jZ (uW cV<|Aa<|iG Ma cT xa) bO<|aW<|Ms b.units 2 (lW<|aB aD<|aB aD aL)<|j4 cR Xd rfl (bT (Aa<|iG Ma Fb xa) xa)<|bT (Aa<|iG Ma Fb xa) xa)<|aW<|xo [2]<|bU aD)
def Ú(F:Xa K "ways_from" "ways_from" yS dV fa fd):Ja P w K mg base gc 1 fa fd ["steps","start","allowed"] (Dc K 3 sE):=gP F ϱ λa b=>(aH (QZ a.units 3 aD (vy []) b)<|aH (tW<|cp<|aB aD aL)<|aH (cG dZ)<|aH (ND (cB Ts vV xa<|Aa<|fW bQ eO)<|aH (by exact cG<|bT eO xa)<|by exact aH (by exact jZ (m6 Xd (S5 [97,98,99] Ae)<|bT xa xa) (sW rfl<|cQ<|cQ mW)<|aW<|iV (PW.pt<|Vv (cB VM WM xa xa)<|Bv<|cB uY uZ xa eO) (aH (by exact Ms a.units 3 aD<|dO (Aa<|bT eO xa) xa)<|by exact aW<|Gq 4 aD) dU)<|by exact aW<|cG<|dO xa Wa)<|aW<|xo [3]<|bU aD)
variable(bJ:mg "isinstance"=none)(oj:mg "int"=none)(lh:mg "bool"=none)
def ĉ(F:Xa K "is_whole" "is_whole" GJ dV fa fd):Ja P w K mg base gc 1 fa fd ["thing"] (Dc K 1 jH):=gP F Ô λb a=>(aW<|bU<|Fq (mY ty_int bJ oj xa)<|Av<|bKt<|mY ty_bool bJ lh xa)
variable(lN:Na P w K mg base "is_whole" 1 1 jH)
def Ċ(F:Xa K "is_below" "is_below" HJ dV fa fd):Ja P w K mg base gc 2 fa fd ["thing","limit"] (Dc K 2 jJ):=gP F Õ λb a=>(aW<|bU<|Fq (cD lN<|aB aD aL)<|Fq (fH fN RM xa Wa)<|Av<|fH Ts vV xa xa)
variable(lO:Na P w K mg base "is_below" 2 2 jJ)
def yX(F:Xa K "check_room" "Machine.check_room" jO dV fa fd):Ja P w K mg base gc 3 fa fd ["self","thing"] (Dc K 2 cM):=gP F wY λb a=>(aW<|iV (uV<|gO<|cD lO<|aB aD<|aB (iG Ma cT xa) aL) (aW QD) dU)
variable(lH:Na P w K mg base "check_letters" 1 2 jA)(Jd:Na P w K mg base "paired_steps" 1 2 mK)(rf:Na P w K mg base "ways_from" 1 3 sE)(Ab:yg P w K mg base "Machine" "check_room" 3 2 [] cM)(Va:eZ K qb (ofString "pairs"))(Zb:eZ K qb (ofString "fronts"))(Eb:eZ K Ta (ofString "ranks"))
def ι(F:wq K "__init__" "Sides.__init__" fO fa fd):Ja P w K mg base gc 4 fa fd ["self","one","other","left","right"] (QB K "Sides" 4 dD):=by
 refine L3 (k:=3) F sY "Sides" 4 9 iB rfl rfl λc A a s H E B b=>?_
 have d:=sY.nd;exact aH (MN<|cD lH<|aB aD<|aB aD aL)<|aH (MN<|Y5 (pl:=_) Ab aD<|aB aD aL)<|aH (MN<|Y5 (pl:=_) Ab aD<|aB aD aL)<|aH (cG<|cD Jd<|aB aD<|aB aD aL)<|aH (cG<|cD rf<|aB aD<|aB (lW<|aB aD<|aB aD aL)<|aB (bE1 cR rfl aD) aL)<|aH (vP 0 Ha Va<|t6 (bId Pb rfl aD) bBb)<|aH (vP 0 Ha Zb<|eU (gD<|iG Ha Va eO) (λ_ _ _ _ _=>bO)<|λ_ _ _ _ _=>bT xa xa)<|aH (vP 0 Ha Za<|eU (gD<|iG Ha Va eO) (λ_ _ _ _ _=>bO)<|λ_ _ _ _ _=>eU (gD<|bT xa xa) (λ_ _ _ _ _=>bO)<|λ_ _ _ _ _=>ņ b.units (Aa<|iG Ha Va eO)<|aB aD aL)<|aH (vP 0 Ha bR<|eU (gD<|iG Ha Va eO) (λ_ _ _ _ _=>bO)<|λ_ _ _ _ _=>bT (Aa<|iG Ma Eb xa)<|Aa<|bT xa Wa)<|aW<|vP 0 Ha Pa<|eU (gD<|iG Ha Va eO) (λ_ _ _ _ _=>bO)<|λ_ _ _ _ _=>bT (Aa<|iG Ma Eb xa)<|Aa<|bT xa Wa
variable(IJ:Na P w K mg base "joined" 1 1 XC)(Ya:Na P w K mg base "wanted_parts" 5 2 dF)(ue:Na P w K mg base "first_round" 2 3 oJ)(Uc:Na P w K mg base "place_in_order" 1 1 cH)(ud:Lf P w K mg base "Sides" 4 4 dD)(Wm:mg "min"=none)
def Ϣ(F:Xa K "wanted_word" "wanted_word" jD dV fa fd):Ja P w K mg base gc 6 fa fd ["one","other","wanted","left","right"] (Dc K 5 fL):=gP F Υ λa b=>(aH (cG<|Dv ud a (by decide)<|aB aD<|aB aD<|aB aD<|aB aD aL)<|aH (cG<|cD cZ<|aB (cD IJ<|aB (cD Ya<|aB aD<|aB aD aL) aL) aL)<|aH (Qs (gD aD) (λ_ _ _ _ _=>bO)<|λ_ _ _ _ _=>lW<|aB (bT (Aa<|iG Ha Zb xa) xa)<|aB (cD ue<|aB aD<|aB aD<|aB aD aL) aL)<|aW<|bU<|bIo Uc a (by decide) rfl a.units Wm aD)
def Ϲ(F:Xa K "_law_pairs" "_law_pairs" vY dV fa fd):Ja P w K mg base gc 1 fa fd ["_law_one_here","_law_other","_law_left","_law_right"] (Dc K 4 pZ):=gP F Ϛ λb a=>(aH (tW<|cp<|aB (lW<|aB aD<|aB aD aL) aL)<|aH (cG dZ)<|aH (ND (cB Ts vV xa<|Aa<|fW bQ eO)<|aH (by exact iF (bT eO xa)<|sW rfl<|cQ<|cQ mW)<|by exact aH (by exact jZ (i4 Xd (bT xa xa)<|bT xa xa) bO<|aW<|iV (cB uY uZ xa eO) (aW<|Gq 4 aD) dU)<|by exact aW<|cG<|dO xa Wa)<|aW<|xo [4]<|bU<|bIe Pb rfl eO)
def Û(F:Xa K "_law_rows" "_law_rows" yU dV fa fd):Ja P w K mg base gc 1 fa fd ["_law_one_here","_law_other","_law_wanted","_law_pairs_here"] (Dc K 4 sH):=gP F ϲ λb a=>(aH (tW<|cp aL)<|aH (jZ (gD<|yO Pb jg rfl<|Aa<|eU (gD aD) (λ_ _ _ _ _=>sW rfl<|cQ<|cQ mW) (λ_ _ _ _ _=>bT (Aa<|bT xa Wa) xa) (hsub:=sF)) bO<|aW<|jZ (gD<|yO Pb jg rfl<|Aa<|eU (gD aD) (λ_ _ _ _ _=>sW rfl<|cQ<|cQ mW) (λ_ _ _ _ _=>bT (Aa<|bT xa Wa) xa) (hsub:=sF)) bO<|aW<|iV (gO<|bT xa<|Aa<|dO (Aa<|jN Wa<|Aa<|jG xa Wa)<|Aa<|jG xa Wa) (aW<|Gq 4<|lW<|aB aD<|aB aD aL) dU)<|aW<|xo [4]<|bU aD)
def ϣ(F:Xa K "_law_ladder" "_law_ladder" uE dV fa fd):Ja P w K mg base gc 1 fa fd ["_law_one_here","_law_other","_law_pairs_here","_law_high","_law_low","_law_numbers"] (Dc K 6 kZ):=gP F Φ λb a=>(aH (by exact iV (PW.pt<|iw (uV<|gO<|mY ty_list bJ cR xa)<|wy<|cB rK rM (Aa<|fW bQ xa)<|Aa<|fW bQ xa) (aW<|bU pN) dU)<|by exact aH (by exact LL 6 a)<|by exact aH (by exact jZ (bE0 Xd aD aD) (sW rfl<|cQ<|cQ mW)<|aW<|iV (PW.pt<|Vv (cB ny ay (Aa<|bT (Aa<|bT xa Wa)<|Aa<|bT xa Wa) xa)<|Bv<|cB ny ay (Aa<|bT (Aa<|bT xa Wa)<|Aa<|bT xa Wa) xa) (aH (by exact iV (PW.pt<|iw (uV<|gO<|mY ty_int bJ oj xa)<|iw (gO<|mY ty_bool bJ lh xa)<|wy<|cB Ts vV xa Wa) (aW<|bU pN) dU)<|by exact aW<|Ms b.units 6 aD aD)<|aW<|iV (cB į İ xa<|Aa Dq) (aW<|bU pN) dU)<|by exact bIu (t:=6) (d:=7) (p:=11) (k:=8) (g:=12) (bd:=9) YG rfl (by exact i8 7 YX a) (by exact bBf) (by exact YO 8 a) (by exact i8 11 (Kv kP p8 PySem.F.type_dict_setdefault bEt (XO 7)<|bW (BO 6 8 b.units)<|bW (aE<|bW Gs<|bW ly<|bW ly<|bW ly dW) dW) a) (by exact B7 11<|L6 O4 (Yv 11) Gs) (by exact CO 11 λ_=>by exact fH fJ fX (Aa<|bT (Aa<|bT xa Wa)<|Aa<|bT xa Wa) xa<|Rx _) (by exact CO 11 λ_=>by exact fH fJ fX (Aa<|bT (Aa<|bT xa Wa)<|Aa<|bT xa Wa) xa<|Rx _) (by exact ZL YG rfl (bMj λ_=>by exact i4 Xd (bT (Aa<|bT xa Wa)<|Aa<|bT xa Wa)<|bT (Aa<|bT xa Wa)<|Aa<|bT xa Wa) (YO 12 a)<|kI (ZM (PW.pt<|YD (bIw 12 6 b.units)<|PK<|RK Jv (BO 6 12 b.units) (BO 6 8 b.units)<|VC _ (by decide)<|by decide) (zB<|VL ly) QK)<|zB<|CO 11 λ_=>by exact fH fJ fX xa xa<|Rx _) (by exact bF3 9 (is:=[11]) (.of rfl) bEz (λ_ _ _ _=>YO 11 a) (λ_ _ _ _=>PW.pt<|YD (XD<|Yv 11)<|YD (XD<|Yv 11)<|PK<|PW.pt<|G6 (RK Jv (Yv 11) Gs<|VC _ (by decide)<|by decide)<|M4<|XD<|Yv 11) (λ_ _ _ _=>XO 11) bBl rfl a)<|by exact VL<|C0 fJ (XO 9) (aE dW)<|VC _ (by decide)<|by decide)
variable(qI:Na P w K mg base "_law_pairs" 1 4 pZ)(mf:Na P w K mg base "_law_rows" 1 4 sH)(pe:Na P w K mg base "_law_ladder" 1 6 kZ)(Ii:mg "tuple"=none)
def Ϻ(F:Xa K "_law_paper" "_law_paper" vZ dV fa fd):Ja P w K mg base gc 2 fa fd ["_law_one_here","_law_other","_law_wanted","_law_left","_law_right","_law_paper_here"] (Dc K 6 qC):=gP F ϛ λb a=>(aH (cG<|cD qI<|aB (bT xa Wa)<|aB (bT xa Wa)<|aB aD<|aB aD aL)<|aH (iV (PW.pt<|iw (uV<|gO<|mY ty_list bJ cR xa)<|wy<|cB rK rM (Aa<|yK (gD aD) (λ_ _ _ _ _=>bO) (λ_ _ _ _ _=>uV<|gO<|mY ty_tuple bJ Ii xa)<|λ_ _ _ _ _=>aD)<|Aa<|sU aL) (aW<|bU pN) dU)<|aH (iV (cB rK rM (Aa<|yK (gD aD) (λ_ _ _ _ _=>bO) (λ_ _ _ _ _=>cB rK rM (Aa<|fW bQ xa) Wa)<|λ_ _ _ _ _=>fW bQ xa)<|Aa<|sU aL) (aW<|bU pN) dU)<|aH (iV (cB rK rM (Aa<|eU (gD aD) (λ_ _ _ _ _=>bO)<|λ_ _ _ _ _=>bLd (k:=2) aD)<|Aa<|cD mf<|aB aD<|aB aD<|aB aD<|aB aD aL) (aW<|bU pN) dU)<|aH (jZ (gD aD) (sW rfl<|cQ<|cQ<|cQ mW)<|aW<|iV (uV<|gO<|cD pe<|aB aD<|aB aD<|aB aD<|aB aD<|aB aD<|aB aD aL) (aW<|bU pN) dU)<|aW<|bU pN)
def Ϥ(F:Xa K "numbers_for" "numbers_for" uF dV fa fd):Ja P w K mg base gc 4 fa fd ["sides","p","q"] (Dc K 3 lA):=gP F Χ λb a=>(aH (cG<|cD iY<|aB (iG Ha Za xa)<|aB (cD Bc<|aB aD<|aB aD<|aB aD aL) aL)<|aH (cG<|yO Pb jg rfl<|Aa<|bEw cR rfl aD)<|aW<|bU<|eU (uW cV<|Aa<|fW bQ<|Aa<|iG Ha Va xa) (λ_ _ _ _ _=>bO)<|λ_ _ _ _ _=>bKu (cB VM WM xa xa) (bAu xa<|aB (bT xa xa) aL) Dq)
variable(oV:Na P w K mg base "numbers_for" 4 3 lA)
variable{Ua:Addr}{mh:cr}(Ad:ExcAt K "NoPaper" Ua mh)
variable(lQ:mg (ofString "NoPaper")=some (.ref Ua))
def ŗ(F:Xa K "ladders" "ladders" qN dV fa fd):Ja P w K mg base (Wo P w) 6 fa fd ["one","other","wanted","left","right"] (ox K 5 jT):=by
 refine bMf (k:=5) (sm:=false) F CW 5 8 MW rfl rfl λd A a s H E B W b c=>?_
 have e:=CW.nd;refine d6 (s1:=false) (s2:=false) ?_ ?_
 .exact Z5 (s1:=false) (cG<|Dv ud b (by decide)<|aB aD<|aB aD<|aB aD<|aB aD aL)
 refine d6 (s1:=false) (s2:=false) ?_ ?_
 .exact m7 (bMe (s1:=false) (cB rK rM (Aa<|cD Ya<|aB aD<|aB aD aL)<|Aa<|sU aL) (YN<|m7<|x_raise c Ad lQ rfl<|aB (vy _) aL) bL2)
 exact YN<|Z5 (s1:=false)<|bU<|eU (gD<|cD fY<|aB aD<|aB aD aL) (λ_ _ _ _ _=>sW rfl<|cQ<|cQ mW) (λ_ _ _ _ _=>lW<|aB aD<|aB aD<|aB (cD oV<|aB aD<|aB aD<|aB aD aL) aL) (hsub:=sF)
def ϻ(F:Xa K "_law_plain" "_law_plain" wA dV fa fd):Ja P w K mg base gc 1 fa fd ["_law_machine","_law_word","_law_room"] (Dc K 3 iQ):=gP F Ϝ λb a=>(aH (iF aD<|sW rfl<|cQ<|cQ mW)<|aH (iF aD<|sW rfl<|cQ<|cQ mW)<|aH (jZ (gD aD) bO<|aW<|cG<|bT (Aa<|bT xa xa)<|Aa<|J3 (Aa<|vy [97,98,99])<|aB aD aL)<|aH (LL 4 a)<|aH (tW<|cp aL)<|aH (cG dZ)<|aH (ND (cB uY uZ (Aa<|lW<|aB aD<|aB aD aL) eO)<|aH (by exact Ms b.units 4 (lW<|aB aD<|aB aD aL)<|fW bQ eO)<|by exact aH (by exact Gq 5 aD)<|by exact aH (by exact cG<|bT (Aa<|bT xa xa)<|Aa<|J3 (Aa<|vy [97,98,99])<|aB (bT xa xa) aL)<|by exact aW<|cG<|jG (Aa<|dO xa Wa)<|Aa<|fW bQ xa)<|aW<|bU<|jG (Aa<|XN wR rfl<|Aa<|eU (gD<|QO eO (TM<|Aa<|bT eO<|Aa<|lW<|aB aD<|aB aD aL) SM) (λ_ _ _ _ _=>bO)<|λ_ _ _ _ _=>bT xa xa) Wa)
variable(oF:cf P w K mg base "ladders" 6 5 jT)
variable{gb:Addr}{kg:cr}(kf:ExcAt K "RankError" gb kg)
variable(qJ:mg (ofString "RankError")=some (.ref gb))(Jc:Im K Ua true "NoPaper")(vc:Im K Ua false "NoMachine")(Nc:Im K Ua false "NoRoom")(Qb:Im K Ua false "OtherLetters")(Ub:Xo K (.ref gb) true "NoMachine")(wc:Xo K (.ref gb) true "NoPaper")(yc:Xo K (.ref gb) true "NoRoom")(Jb:Xo K (.ref gb) true "OtherLetters")
include bJ Ad lQ oF kf qJ Jc vc Nc Qb Ub wc yc Jb in
theorem ϋ(F:Xa K "_law_refused" "_law_refused" rT dV fa fd):Ja P w K mg base gc 7 fa fd ["_law_first","_law_second","_law_wanted","_law_left","_law_right"] (Dc K 5 mL):=gP F ψ λe d=>(aH (cG pN)<|aH (bL4 (λ_ _ _ b=>YN<|bL3<|bDq oF b e (by decide)<|aB aD<|aB aD<|aB aD<|aB aD<|aB aD aL)<|bI2 6 Ad lQ (by intro c a;simp only[mem_cons,not_mem_nil,or_false]at a;rcases a with rfl<;>assumption) (by intro c a;simp only[mem_cons,not_mem_nil,or_false]at a;rcases a with rfl|rfl|rfl<;>assumption) d (λ_=>aW<|cG<|bI1 qJ bJ (by intro c a;simp only[mem_cons,not_mem_nil,or_false]at a;rcases a with rfl|rfl|rfl|rfl<;>assumption) (by intro c a;cases a) xa) bDr)<|aW<|bU aD)
variable(dG:Na P w K mg base "wanted_word" 6 5 fL)(Je:Na P w K mg base "_law_paper" 2 6 qC)(qd:Na P w K mg base "_law_plain" 1 3 iQ)(Gd:Na P w K mg base "_law_refused" 7 5 mL)
def ό(F:Xa K "_law_settled" "_law_settled" rW dV fa fd):Ja P w K mg base gc 8 fa fd ["_law_one_here","_law_other","_law_first","_law_second","_law_wanted","_law_left","_law_right"] (Dc K 7 mO):=gP F ω λb a=>(aH (cG<|cD dG<|aB aD<|aB aD<|aB aD<|aB aD<|aB aD aL)<|aH (iV (cB cy dy xa<|Aa Dq) (aW<|bU<|cD Je<|aB aD<|aB aD<|aB aD<|aB aD<|aB aD<|aB (cD (cf.calm oF)<|aB aD<|aB aD<|aB aD<|aB aD<|aB aD aL) aL) dU)<|aH (iV (uV<|gO<|bT xa<|Aa<|dO (Aa<|jN Wa<|Aa<|cD qd<|aB aD<|aB aD<|aB aD aL)<|Aa<|cD qd<|aB aD<|aB aD<|aB aD aL) (aW<|bU pN) dU)<|aW<|bU<|cD Gd<|aB aD<|aB aD<|aB aD<|aB aD<|aB aD aL)
def ύ(F:Xa K "parting_word" "parting_word" iH dV fa fd):Ja P w K mg base gc 7 fa fd ["one","other","left","right"] (Dc K 4 rF):=gP F Α λb a=>(aW<|bU<|cD dG<|aB aD<|aB aD<|aB (ZN fv_JUST_ONE gH)<|aB aD<|aB aD aL)
def ċ(F:Xa K "is_alike" "is_alike" oA dV fa fd):Ja P w K mg base gc 6 fa fd ["one","other","left","right"] (Dc K 4 jK):=gP F Ö λa b=>(aW<|bU<|fH fJ fX (Aa<|cD Ya<|aB (Dv ud a (by decide)<|aB aD<|aB aD<|aB aD<|aB aD aL)<|aB (ZN fv_JUST_ONE gH) aL)<|Aa<|sU aL)
def Ü(F:Xa K "is_within" "is_within" lX dV fa fd):Ja P w K mg base gc 6 fa fd ["one","other","left","right"] (Dc K 4 iJ):=gP F ϳ λa b=>(aW<|bU<|fH fJ fX (Aa<|cD Ya<|aB (Dv ud a (by decide)<|aB aD<|aB aD<|aB aD<|aB aD aL)<|aB (ZN fv_ONE_ALONE jW) aL)<|Aa<|sU aL)
def μ(F:Xa K "is_filled_list" "is_filled_list" oE dV fa fd):Ja P w K mg base gc 1 fa fd ["thing","most"] (Dc K 2 eN):=gP F Y' λb a=>(aW<|bU<|Fq (mY ty_list bJ cR xa)<|Fq (fH fN RM (Aa<|fW bQ xa) Wa)<|Av<|fH ny ay (Aa<|fW bQ xa) xa)
variable(yZ:mg "all"=none)
def bBn(F:Xa K "is_row" "is_row" NK dV fa fd):Ja P w K mg base gc 3 fa fd ["thing","letters","rooms"] (Dc K 3 YC):=gP F ŕ λb a=>(aW<|bU<|Fq (fH fJ fX (Aa<|fW bQ xa) xa)<|Av<|AF yZ rfl<|Aa<|eU (gD aD) (λ_ _ _ _ _=>bO)<|λ_ _ _ _ _=>cD lO<|aB aD<|aB aD aL)
variable(iI:Na P w K mg base "is_filled_list" 1 2 eN)(rh:Na P w K mg base "is_row" 3 3 YC)
variable{Se:Tok}(Ie:mg "MOST_ROOMS"=some (.int 8 Se))
variable{Md:Tok}(Fd:mg "MOST_LETTERS"=some (.int 3 Md))
def Ý(F:Xa K "are_steps" "are_steps" yV dV fa fd):Ja P w K mg base gc 4 fa fd ["thing"] (Dc K 1 sI):=gP F ϴ λb a=>(aH (iV (uV<|gO<|cD iI<|aB aD<|aB (T5 Ie) aL) (aW<|bU pN) dU)<|aH (iV (uV<|gO<|AF yZ rfl<|Aa<|eU (gD aD) (λ_ _ _ _ _=>bO)<|λ_ _ _ _ _=>cD iI<|aB aD<|aB (T5 Fd) aL) (aW<|bU pN) dU)<|aW<|bU<|AF yZ rfl<|Aa<|eU (gD aD) (λ_ _ _ _ _=>bO)<|λ_ _ _ _ _=>cD rh<|aB aD<|aB (fW bQ<|Aa<|bT xa Wa)<|aB (fW bQ xa) aL)
def Þ(F:Xa K "are_ranks" "are_ranks" yW dV fa fd):Ja P w K mg base gc 2 fa fd ["thing","rooms"] (Dc K 2 sJ):=gP F ϵ λb a=>(aH (iV (PW.pt<|iw (uV<|gO<|mY ty_list bJ cR xa)<|wy<|cB rK rM (Aa<|fW bQ xa) xa) (aW<|bU pN) dU)<|aW<|bU<|AF yZ rfl<|Aa<|eU (gD aD) (λ_ _ _ _ _=>bO)<|λ_ _ _ _ _=>Fq (cD lN<|aB aD aL)<|Av<|fH fN RM xa Wa)
variable(sZ:Na P w K mg base "are_steps" 4 1 sI)(pf:Na P w K mg base "are_ranks" 2 2 sJ)
def P'(F:wq K "__init__" "Machine.__init__" eV fa fd):Ja P w K mg base gc 5 fa fd ["self","steps","ranks"] (QB K "Machine" 2 fP):=by
 refine L3 (k:=4) F pQ "Machine" 2 4 iR rfl rfl λb A a s H E B d=>?_
 have c:=pQ.nd;exact aH (iV (uV<|gO<|cD sZ<|aB aD aL) (aW QD) dU)<|aH (iV (uV<|gO<|cD pf<|aB aD<|aB (fW bQ xa) aL) (aW QD) dU)<|aH (vP 0 Ma Fb<|eU (gD aD) (λ_ _ _ _ _=>bO)<|λ_ _ _ _ _=>Fv cR xa)<|aH (vP 0 Ma Eb<|Fv cR xa)<|aH (vP 0 Ma cT<|fW bQ xa)<|aW<|vP 0 Ma dB<|fW bQ<|Aa<|bT xa Wa
variable(wB:Na P w K mg base "_law_two" 3 1 vG)(Hd:Na P w K mg base "_law_settled" 8 7 mO)(Kd:Na P w K mg base "parting_word" 7 4 rF)(Rf:Na P w K mg base "is_alike" 6 4 jK)(qf:Na P w K mg base "is_within" 6 4 iJ)(sf:eh P w K mg base "is_alike" 6 4 [.int 0,.int 0] jK)(Me:eh P w K mg base "is_within" 6 4 [.int 0,.int 0] iJ)(Af:Lf P w K mg base "Machine" 5 2 fP)
def bLg(F:Xa K "law" "law" gp dV fa fd):Ja P w K mg base gc 9 fa fd ["_law_script"] (Dc K 1 Sv):=gP F bIy λa b=>(aH (iF (cD wB<|aB aD aL)<|sW rfl<|cQ<|cQ<|cQ<|cQ mW)<|aH (cG<|Dv Af a (by decide)<|aB (eU (gD<|bT xa Wa) (λ_ _ _ _ _=>bO)<|λ_ _ _ _ _=>Fv cR xa)<|aB (Fv cR<|Aa<|bT xa Wa) aL)<|aH (cG<|Dv Af a (by decide)<|aB (eU (gD<|bT xa Wa) (λ_ _ _ _ _=>bO)<|λ_ _ _ _ _=>Fv cR xa)<|aB (Fv cR<|Aa<|bT xa Wa) aL)<|aH (cG<|bAr cR cV rfl Wa)<|aH (iV (PW.pt<|iw (cB Jv JE (Aa<|fW bQ<|Aa<|bT xa Wa) Wa)<|wy<|cB Jv JE (Aa<|fW bQ<|Aa<|bT xa Wa) Wa) (aW<|Qs (uW cV Wa) (λ_ _ _ _ _=>bO)<|λ_ _ _ _ _=>cD Ka<|aB (cD cY<|aB aD<|aB dZ aL)<|aB aD<|aB dZ aL) dU)<|aH (jZ (gD aD) bO<|aH (by exact cG<|lW<|aB (fH fJ fX (Aa<|jG xa Wa) Wa)<|aB (fH fJ fX (Aa<|jG (Aa<|IE xa Wa) Wa) Wa)<|aB (fH fJ fX (Aa<|jG (Aa<|IE xa Wa) Wa) Wa)<|aB (fH fJ fX (Aa<|IE xa Wa) Wa) aL)<|by exact aW<|iV (uV<|gO<|cD Hd<|aB aD<|aB aD<|aB aD<|aB aD<|aB aD<|aB aD<|aB aD aL) (aW<|bU pN) dU)<|aH (jZ (gD<|sU<|aB (lW<|aB aD<|aB aD aL)<|aB (lW<|aB dZ<|aB dZ aL) aL) (sW rfl<|cQ<|cQ mW)<|aH (by exact cG<|cD Kd<|aB aD<|aB aD<|aB aD<|aB aD aL)<|by exact aH (by exact iV (cB rK rM xa<|Aa<|cD dG<|aB aD<|aB aD<|aB (lW<|aB pN<|aB pN<|aB pN<|aB pN aL)<|aB aD<|aB aD aL) (aW<|bU pN) dU)<|by exact aH (by exact iV (cB rK rM (Aa<|cD Rf<|aB aD<|aB aD<|aB aD<|aB aD aL)<|Aa<|fH cy dy xa<|Aa Dq) (aW<|bU pN) dU)<|by exact aH (by exact cG<|cD dG<|aB aD<|aB aD<|aB (lW<|aB pN<|aB pN<|aB pN<|aB pN aL)<|aB aD<|aB aD aL)<|by exact aW<|iV (cB rK rM (Aa<|cD qf<|aB aD<|aB aD<|aB aD<|aB aD aL)<|Aa<|fH cy dy xa<|Aa Dq) (aW<|bU pN) dU)<|aW<|bU<|Fq (fH fJ fX (Aa<|z0 sf a (by decide)<|aB aD<|aB aD aL)<|Aa<|fH cy dy xa<|Aa Dq)<|Av<|fH fJ fX (Aa<|z0 Me a (by decide)<|aB aD<|aB aD aL)<|Aa<|fH cy dy xa<|Aa Dq)
end
theorem all_mk {l : OpenLaw} {w : World} {K : Frag}    {BE Zl SA : String} {Hw : List Value} (FE : ExcBaseFacts BE Zl SA Hw) (X : K.In h) (G : h.Ns mainGlobals mg) (hfa : mg "law" = some (.ref fa))
      {ef:Addr} {gh:Addr} {Dd:Addr} {QH:Addr} {NS ON:re} {FT:pc} {ES kS MQ YS Dz FQ:Value} {UQ:Addr} {OS PN:re} {IT:pc} {GS lS NQ ZS Ez GQ:Value} {SU:Addr} {XB:Value} {zC:re} {FC:pc} {WT:Nat} {Ru:Tok} {Su:Tok} {VQ:Addr} {QS QN:re} {JT:pc} {HS mS OQ aT Fz HQ:Value} {TU:Addr} {YB:Value} {BC:re} {GC:pc} {XT:Nat} {Tu:Tok} {Uu:Tok} {WQ:Addr} {SS RN:re} {MT:pc} {IS pS PQ fT Gz IQ:Value} {UU:Addr} {kC:Value} {CC:re} {HC:pc} {YT:Nat} {Vu:Tok} {Wu:Tok} {XQ:Addr} {US SN:re} {NT:pc} {JS qS QQ gT Hz JQ:Value} {VU:Addr} {sC:Value} {DC:re} {IC:pc} {ZT:Nat} {Rn:Tok} {Sn:Tok} {YQ:Addr} {VS TN:re} {OT:pc} {KS rS RQ lT Iz KQ:Value} {WU:Addr} {xC:Value} {EC:re} {JC:pc} {kU:Nat} {Tn:Tok} {Vn:Tok} {RH:Addr} {WS UN:re} {QT:pc} {LS vS SQ mT Jz LQ:Value} {ZQ:Addr} {XS Jy:re} {RT:pc} {MS VA Mz AB Zt Lz:Value} {zi:re} {Ai:pc} {gj:Nat} {Oh:re} {Ph:pc} {yi:Nat}
  (Ma:ClsAt K "Machine" Ta)
  (P:makesIn K Ta=true)
  (O:keepIn K (.ref Ta)=true)
  (Y:ClsAt K "Sides" qb)
  (T:makesIn K qb=true)
  (S:keepIn K (.ref qb)=true)
  (p:findIn K (.ref Ta) (ofString "letters")=some none)
  (z:findIn K (.ref Ta) (ofString "many")=some none)
  (u:findIn K (.ref Ta) (ofString "ranks")=some none)
  (t:findIn K (.ref Ta) (ofString "steps")=some none)
  (y:findIn K (.ref qb) (ofString "fronts")=some none)
  (E:findIn K (.ref qb) (ofString "lefts")=some none)
  (D:findIn K (.ref qb) (ofString "pairs")=some none)
  (x:findIn K (.ref qb) (ofString "rights")=some none)
  (B:findIn K (.ref qb) (ofString "steps")=some none)
  (y3:specialIn K (.builtin "object.__class__") "__get__"=some (some<|.builtin "getset_descriptor.__get__"))
  (y4:takesIn K (.builtin "object.__class__")=some true)
  (Jg:XA K "NoMachine" ef Hw Zl)
  (bi:XA K "NoPaper" Ua Hw Zl)
  (jj:XA K "NoRoom" gh Hw Zl)
  (ff:XA K "OtherLetters" Dd Hw Zl)
  (Kg:XA K "RankError" gb Hw Zl)
  (k:mroIn K ef (.ref Ua)=some false)
  (n:mroIn K Ua (.ref Ua)=some true)
  (q:mroIn K gh (.ref Ua)=some false)
  (d:mroIn K Dd (.ref Ua)=some false)
  (g:kitOne K (.ref ef) (.ref gb)=some true)
  (j:kitOne K (.ref Ua) (.ref gb)=some true)
  (m:kitOne K (.ref gh) (.ref gb)=some true)
  (c:kitOne K (.ref Dd) (.ref gb)=some true)
  (b:nsIn K mainGlobals "JUST_ONE"=some (some<|.ref Ec))
  (f:nsIn K mainGlobals "ONE_ALONE"=some (some<|.ref lc))
  (D1:DA K "_law_cell" yQ)
  (D2:DA K "_law_mix" BJ)
  (D3:DA K "_law_digits" tZ)
  (D4:DA K "_law_one" CJ)
  (D5:DA K "_law_beside" uA)
  (D6:DA K "_law_two" DJ)
  (D7:DA K "has_room" EJ)
  (D8:DA K "rooms_of" FJ)
  (D9:DA K "joined" MK)
  (v_:DA K "is_wanted" yR)
  (w_:DA K "wanted_ranks" rP)
  (x_:DA K "bits_of" SJ)
  (y_:DA K "seen_among" vW)
  (z_:DA K "goes_round" vX)
  (A_:DA K "parts_among" uB)
  (B_:DA K "kept_places" uC)
  (C_:DA K "greatest_ranks" nY)
  (D_:DA K "wanted_parts" rQ)
  (E_:DA K "first_round" uD)
  (F_:DA K "place_in_order" nZ)
  (G_:DA K "check_letters" pO)
  (H_:DA K "paired_steps" rR)
  (I_:DA K "ways_from" yS)
  (J_:DA K "is_whole" GJ)
  (K_:DA K "is_below" HJ)
  (Y_:MA K Ta "check_room" "check_room" "Machine.check_room" jO)
  (a27:findIn K (.ref qb) (ofString "__init__")=some (some<|.ref QH))
  (e27:isFn K (.ref QH)=true)
  (l27:K.lookup QH=some ⟨ES,NS,.func<|fnOf "__init__" "Sides.__init__" (dY fO) (cX fO) (bD fO) .none kS MQ YS ON Dz FQ,FT⟩)
  (c27:codeIn K Dz "Sides.__init__"=true)
  (k27:keepIn K (.ref QH)=true)
  (a28:nsIn K mainGlobals "wanted_word"=some (some<|.ref UQ))
  (l28:K.lookup UQ=some ⟨GS,OS,.func<|fnOf "wanted_word" "wanted_word" (dY jD) (cX jD) (bD jD) (.ref SU) lS NQ ZS PN Ez GQ,IT⟩)
  (t28:K.lookup SU=some ⟨XB,zC,.seq #[.int 0 Ru,.int 0 Su] WT,FC⟩)
  (c28:codeIn K Ez "wanted_word"=true)
  (k28:keepIn K (.ref UQ)=true)
  (L_:DA K "_law_pairs" vY)
  (M_:DA K "_law_rows" yU)
  (N_:DA K "_law_ladder" uE)
  (O_:DA K "_law_paper" vZ)
  (P_:DA K "numbers_for" uF)
  (a34:nsIn K mainGlobals "ladders"=some (some<|.ref VQ))
  (l34:K.lookup VQ=some ⟨HS,QS,.func<|fnOf "ladders" "ladders" (dY qN) (cX qN) (bD qN) (.ref TU) mS OQ aT QN Fz HQ,JT⟩)
  (t34:K.lookup TU=some ⟨YB,BC,.seq #[.int 0 Tu,.int 0 Uu] XT,GC⟩)
  (c34:codeIn K Fz "ladders"=true)
  (k34:keepIn K (.ref VQ)=true)
  (Q_:DA K "_law_plain" wA)
  (R_:DA K "_law_refused" rT)
  (S_:DA K "_law_settled" rW)
  (a38:nsIn K mainGlobals "parting_word"=some (some<|.ref WQ))
  (l38:K.lookup WQ=some ⟨IS,SS,.func<|fnOf "parting_word" "parting_word" (dY iH) (cX iH) (bD iH) (.ref UU) pS PQ fT RN Gz IQ,MT⟩)
  (t38:K.lookup UU=some ⟨kC,CC,.seq #[.int 0 Vu,.int 0 Wu] YT,HC⟩)
  (c38:codeIn K Gz "parting_word"=true)
  (k38:keepIn K (.ref WQ)=true)
  (a39:nsIn K mainGlobals "is_alike"=some (some<|.ref XQ))
  (l39:K.lookup XQ=some ⟨JS,US,.func<|fnOf "is_alike" "is_alike" (dY oA) (cX oA) (bD oA) (.ref VU) qS QQ gT SN Hz JQ,NT⟩)
  (t39:K.lookup VU=some ⟨sC,DC,.seq #[.int 0 Rn,.int 0 Sn] ZT,IC⟩)
  (c39:codeIn K Hz "is_alike"=true)
  (k39:keepIn K (.ref XQ)=true)
  (a40:nsIn K mainGlobals "is_within"=some (some<|.ref YQ))
  (l40:K.lookup YQ=some ⟨KS,VS,.func<|fnOf "is_within" "is_within" (dY lX) (cX lX) (bD lX) (.ref WU) rS RQ lT TN Iz KQ,OT⟩)
  (t40:K.lookup WU=some ⟨xC,EC,.seq #[.int 0 Tn,.int 0 Vn] kU,JC⟩)
  (c40:codeIn K Iz "is_within"=true)
  (k40:keepIn K (.ref YQ)=true)
  (T_:DA K "is_filled_list" oE)
  (U_:DA K "is_row" NK)
  (V_:DA K "are_steps" yV)
  (W_:DA K "are_ranks" yW)
  (a45:findIn K (.ref Ta) (ofString "__init__")=some (some<|.ref RH))
  (e45:isFn K (.ref RH)=true)
  (l45:K.lookup RH=some ⟨LS,WS,.func<|fnOf "__init__" "Machine.__init__" (dY eV) (cX eV) (bD eV) .none vS SQ mT UN Jz LQ,QT⟩)
  (c45:codeIn K Jz "Machine.__init__"=true)
  (k45:keepIn K (.ref RH)=true)
  (a46:nsIn K mainGlobals "law"=some (some<|.ref ZQ))
  (l46:K.lookup ZQ=some ⟨MS,XS,.func<|fnOf "law" "law" (dY gp) (cX gp) (bD gp) .none VA Mz AB Jy Zt Lz,RT⟩)
  (c46:codeIn K Zt "law"=true)
  (k46:keepIn K (.ref ZQ)=true)
  (Q:nsIn K mainGlobals "LETTERS"=some (some<|.str "abc" Hg))
  (A:nsIn K mainGlobals "MOST_LETTERS"=some (some<|.int 3 Md))
  (H:nsIn K mainGlobals "MOST_ROOMS"=some (some<|.int 8 Se))
  (M:K.lookup Ec=some ⟨.type "tuple",zi,.seq #[.bool false,.bool true,.bool true,.bool false] gj,Ai⟩)
  (I:K.lookup lc=some ⟨.type "tuple",Oh,.seq #[.bool false,.bool true,.bool false,.bool false] yi,Ph⟩)
  (z_all:nsIn K mainGlobals "all"=some none)
  (z_bool:nsIn K mainGlobals "bool"=some none)
  (J:nsIn K mainGlobals "enumerate"=some none)
  (z_int:nsIn K mainGlobals "int"=some none)
  (F:nsIn K mainGlobals "isinstance"=some none)
  (z_len:nsIn K mainGlobals "len"=some none)
  (Z:nsIn K mainGlobals "list"=some none)
  (z_max:nsIn K mainGlobals "max"=some none)
  (z_min:nsIn K mainGlobals "min"=some none)
  (V:nsIn K mainGlobals "range"=some none)
  (z_set:nsIn K mainGlobals "set"=some none)
  (R:nsIn K mainGlobals "sorted"=some none)
  (U:nsIn K mainGlobals "tuple"=some none)
  (z_zip:nsIn K mainGlobals "zip"=some none) :
  ∃fd:FuncData,(∀(s:Shared)(v:Value),BindsTo s fd ⟨[v],[]⟩ [("_law_script",v)])/\∀base:Heap,K.In base->base.Ns mainGlobals mg->Ja l.prog w K mg base gc 9 fa fd ["_law_script"] (Dc K 1 Sv):=by
 have e:=hfa.symm.trans<|Sh X G a46;cases e;have dB:eZ K Ta (ofString "letters"):=p;have cT:eZ K Ta (ofString "many"):=z;have Eb:eZ K Ta (ofString "ranks"):=u;have Fb:eZ K Ta (ofString "steps"):=t;have Zb:eZ K qb (ofString "fronts"):=y;have bR:eZ K qb (ofString "lefts"):=E;have Va:eZ K qb (ofString "pairs"):=D;have Pa:eZ K qb (ofString "rights"):=x;have Za:eZ K qb (ofString "steps"):=B;obtain⟨Ip,zr⟩:=Jg.at FE y3 y4;have i:=Jg.a;have Mp:=Sh X G i;obtain⟨mh,Ad⟩:=bi.at FE y3 y4;have o:=bi.a;have lQ:=Sh X G o;obtain⟨Iw,Pz⟩:=jj.at FE y3 y4;have r:=jj.a;have Nw:=Sh X G r;obtain⟨xm,rn⟩:=ff.at FE y3 y4;have a:=ff.a;have Cm:=Sh X G a;obtain⟨kg,kf⟩:=Kg.at FE y3 y4;have L:=Kg.a;have qJ:=Sh X G L;have vc:Im K Ua false "NoMachine":=OE X i k;have Jc:Im K Ua true "NoPaper":=OE X o n;have Nc:Im K Ua false "NoRoom":=OE X r q;have Qb:Im K Ua false "OtherLetters":=OE X a d;have Ub:=QE i g;have wc:=QE o j;have yc:=QE r m;have Jb:=QE a c;have JU:=R4 (st:=fO) l27 c27 k27;have b27:=JU.binds (ps:=["self","one","other","left","right"]) λ_ _ _ _ _ _=>Qx<|λ_ _ _ _ _=>rfl
 have MI:=sX (st:=jD) l28 c28 k28;have Ky:Binds K _ ["one","other","wanted","left","right"] []:=MI.binds (m:=5) t28 rfl rfl λ_ _ _ _ _ _=>Qx<|λ_ _ _ _ _=>⟨_,rfl,rfl⟩
 have NI:=sX (st:=qN) l34 c34 k34;have Ly:Binds K _ ["one","other","wanted","left","right"] []:=NI.binds (m:=5) t34 rfl rfl λ_ _ _ _ _ _=>Qx<|λ_ _ _ _ _=>⟨_,rfl,rfl⟩
 have OI:=sX (st:=iH) l38 c38 k38;have My:Binds K _ ["one","other","left","right"] []:=OI.binds (m:=4) t38 rfl rfl λ_ _ _ _ _ _=>Px<|λ_ _ _ _=>⟨_,rfl,rfl⟩
 have yx:=sX (st:=oA) l39 c39 k39;have Ny:Binds K _ ["one","other","left","right"] []:=yx.binds (m:=4) t39 rfl rfl λ_ _ _ _ _ _=>Px<|λ_ _ _ _=>⟨_,rfl,rfl⟩
 have Oy:Binds K _ ["one","other","left","right"] [.int 0 Rn,.int 0 Sn]:=yx.binds (m:=2) t39 rfl rfl λ_ _ _ _ _ _=>UD<|λ_ _=>⟨_,rfl,rfl⟩
 have Ax:=sX (st:=lX) l40 c40 k40;have Py:Binds K _ ["one","other","left","right"] []:=Ax.binds (m:=4) t40 rfl rfl λ_ _ _ _ _ _=>Px<|λ_ _ _ _=>⟨_,rfl,rfl⟩
 have Qy:Binds K _ ["one","other","left","right"] [.int 0 Tn,.int 0 Vn]:=Ax.binds (m:=2) t40 rfl rfl λ_ _ _ _ _ _=>UD<|λ_ _=>⟨_,rfl,rfl⟩
 have KU:=R4 (st:=eV) l45 c45 k45;have b45:=KU.binds (ps:=["self","steps","ranks"]) λ_ _ _ _ _ _=>NL<|λ_ _ _=>rfl
 have LU:=sX (st:=gp) l46 c46 k46;have b46:=LU.Tj (ps:=["_law_script"]) λ_ _ _ _ _ _=>ML<|λ_=>rfl
 have yZ:=Ek X G z_all;have lh:=Ek X G z_bool;have jf:=Ek X G J;have oj:=Ek X G z_int;have bJ:=Ek X G F;have N:=Ek X G z_len;have W:=Ek X G Z;have wR:=Ek X G z_max;have Wm:=Ek X G z_min;have cV:=Ek X G V;have jg:=Ek X G z_set;have Pb:=Ek X G R;have Ii:=Ek X G U;have Xd:=Ek X G z_zip;have Ae:=Sh X G Q;have Fd:=Sh X G A;have Ie:=Sh X G H;have Yd:Xv K Ec [false,true,true,false]:=⟨_,_,_,M,rfl,rfl,(show 4<=sizeLine by decide),.cons rfl<|.cons rfl<|.cons rfl<|.cons rfl<|.nil⟩
 have md:Xv K lc [false,true,false,false]:=⟨_,_,_,I,rfl,rfl,(show 4<=sizeLine by decide),.cons rfl<|.cons rfl<|.cons rfl<|.cons rfl<|.nil⟩
 have gH:=Sh X G b;have jW:=Sh X G f;refine⟨fnOf "law" "law" (dY gp) (cX gp) (bD gp) .none VA Mz AB Jy Zt Lz,λs v=>.of_eq rfl,λbase _ _=>?_⟩
 have C:Ct l.prog w K mg base h:=⟨X,G⟩;have cY:=D1.ok C<|Ø N;have Ka:=D2.ok C Ą;have ke:=D3.ok C<|ϝ cV;have rY:=D4.ok C<|ą cV cY Ka ke;have je:=D5.ok C<|Ϟ N cV Ka;have wB:=D6.ok C<|Ć N cY Ka rY je;have gQ:=D7.ok C ć;have cZ:=D8.ok C<|Ĉ cV gQ;have IJ:=D9.ok C bBm;have jP:=v_.ok C<|Ù b gH f jW Yd md;have fY:=w_.ok C<|Ψ jP Y bR Pa Pb jg;have Rc:=x_.ok C Ŗ;have iY:=y_.ok C<|Ϸ gQ cZ Rc;have Ke:=z_.ok C<|ϸ N cZ;have ve:=A_.ok C<|ϟ gQ cZ Rc iY Ke;have Bc:=B_.ok C<|Ϡ Y bR Pa Rc W Xd jf;have Tc:=C_.ok C<|η Y bR Pa cZ wR;have Ya:=D_.ok C<|Ω Y fY ve Bc Tc Za;have ue:=E_.ok C<|ϡ N jP Y bR Pa W Xd wR Za Ae;have Uc:=F_.ok C<|θ N;have lH:=G_.ok C<|Β Ma dB;have Jd:=H_.ok C<|ϊ cV W Xd Ma cT Fb;have rf:=I_.ok C<|Ú N Xd Ae;have lN:=J_.ok C<|ĉ bJ oj lh;have lO:=K_.ok C<|Ċ lN;have Ab:=Y_.ok C Ma<|yX Ma cT lO;have Bg:=ι (P:=l.prog) (w:=w) (mg:=mg) (base:=base) Y bR Pa Pb W Za Ma lH Jd rf Ab Va Zb Eb JU;have ud:=Lf.of Y ⟨T,a27,e27,S⟩ Bg b27<|Sh X G Y.ns;have Vh:=Ϣ (P:=l.prog) (w:=w) (mg:=mg) (base:=base) Y cZ Zb IJ Ya ue Uc ud Wm MI;have dG:=Na.of Vh (Sh X G a28) MI.kp Ky pC;have qI:=L_.ok C<|Ϲ N Pb Xd;have mf:=M_.ok C<|Û Pb jg;have pe:=N_.ok C<|ϣ N W Xd bJ oj lh;have Je:=O_.ok C<|Ϻ N W bJ qI mf pe Ii;have oV:=P_.ok C<|Ϥ N cV Y Pb jg iY W Bc Za Va;have Rl:=ŗ (P:=l.prog) (w:=w) (mg:=mg) (base:=base) fY Ya ud oV Ad lQ NI;have oF:=cf.of Rl (Sh X G a34) NI.kp Ly;have qd:=Q_.ok C<|ϻ N wR;have Gd:=R_.ok C<|ϋ bJ Ad lQ oF kf qJ Jc vc Nc Qb Ub wc yc Jb;have Hd:=S_.ok C (ό oF dG Je qd Gd) ⟨λ_ _ _ _ _ _=>bEx λ_ _ _ _ _ _ _=>rfl⟩
 have oh:=ύ (P:=l.prog) (w:=w) (mg:=mg) (base:=base) b gH dG OI;have Kd:=Na.of oh (Sh X G a38) OI.kp My pC;have nh:=ċ (P:=l.prog) (w:=w) (mg:=mg) (base:=base) b gH Ya ud yx;have Rf:=Na.of nh (Sh X G a39) yx.kp Ny pC;have sf:eh l.prog w K mg base "is_alike" 6 4 [.int 0,.int 0] jK:=⟨⟨_,_,_,_,[.int<|0,.int<|0],nh,Sh X G a39,yx.kp,Oy,(.cons ⟨_,rfl⟩<|.cons ⟨_,rfl⟩<|.nil),λ_=>.cons (bC.mpr rfl)<|.cons (bC.mpr rfl)<|.nil⟩,pC⟩
 have Ng:=Ü (P:=l.prog) (w:=w) (mg:=mg) (base:=base) f jW Ya ud Ax;have qf:=Na.of Ng (Sh X G a40) Ax.kp Py pC;have Me:eh l.prog w K mg base "is_within" 6 4 [.int 0,.int 0] iJ:=⟨⟨_,_,_,_,[.int<|0,.int<|0],Ng,Sh X G a40,Ax.kp,Qy,(.cons ⟨_,rfl⟩<|.cons ⟨_,rfl⟩<|.nil),λ_=>.cons (bC.mpr rfl)<|.cons (bC.mpr rfl)<|.nil⟩,pC⟩
 have iI:=T_.ok C<|μ N W bJ;have rh:=U_.ok C<|bBn N lO yZ;have sZ:=V_.ok C<|Ý N yZ iI rh Ie Fd;have pf:=W_.ok C<|Þ N W bJ lN yZ;have Nf:=P' (P:=l.prog) (w:=w) (mg:=mg) (base:=base) N W Ma dB cT Fb Eb sZ pf KU;have Af:=Lf.of Ma ⟨P,a45,e45,O⟩ Nf b45<|Sh X G Ma.ns;have Rz:=bLg (P:=l.prog) (w:=w) (mg:=mg) (base:=base) N cV cY Ka W dG wB Hd Kd Rf qf sf Me Af LU;exact Rz
theorem bF4{q:Program} {K:Params->Frag} {k:be} {t:Nat} {r:PySem.W.RowW} {d:DefRec} {l:List (Str×Expr)} {run:Value->cr->Sem Value} (e:∀P,k=(K P).map (·.1)) (h:WalkO q loose XP (InK K) r d l run):PySem.W.WalkX q loose XP (PySem.W.X.obsZ k) (PySem.W.X.valZ K n t) r d l run:=
 λw J u p s G y a o m I i H kV F E D C B A c b j L z x v g f=>h w J u p s G (PySem.W.InK.keeps w _ _ (PySem.W.X.z_facts e y).2.1 L.keeps) a o m I i H kV F E D C B A c b j z x v g f
theorem walk{l:OpenLaw}{q:Program} {i:Os} {d:DefRec} {K:Params->Frag} (j:l.most=some 63) (n:d.params.defaults=[])
  (k:∀(w:World)(h:Heap),i w h->(K w.params).In h)
  (b:∀c:lw,c.length<=63->Sv [.lst<|c.map D.int]=.ok (.bl true))
  (F:∀(w:World)(mg:jp)(g:Addr)(h:Heap),(K w.params).In h->h.Ns mainGlobals mg->mg d.name=some (.ref g)->
   ∃e:FuncData,(∀(s:Shared)(u:Value),BindsTo s e ⟨[u],[]⟩ [("_law_script",u)])/\∀base:Heap,(K w.params).In base->base.Ns mainGlobals mg->Ja l.prog w (K w.params) mg base gc 9 g e ["_law_script"] (Dc (K w.params) 1 Sv)) :
  WalkO q loose XP i l.row.toRowW d [] (λf vs=>PySem.call f vs):=
 L2.tq (n:=63) (k:=9) (x:="_law_script") (CX:=λ_=>gc) (sp:=λw=>Dc (K w.params) 1 Sv) j (by decide) n ⟨rfl,by decide,by decide⟩ k F (λ_ _ a c hl _ m=>bHw m<|b c hl) λ_ _ _ _ _ z=>z
end Pu
set_option genInjectivity false
set_option genSizeOf false
structure PySem.W.Fast where (tw12090013181944395567 tw13531182635141141957 tw13151357149338364937 tw15521184071133173956 tw2243706329657732187 tw10696292869905930822 tw8974677906361971013 tw33346172796966445 tw16151057175393363701 tw6107865449242126100 tw18080907854190587873 tw1736529248543291903 tw7190142372383130634 tw14151992521123873086 tw5260326959105650716 tw3833266021527165917 tw1598388331169569091 tw9556718321345977055 tw9765362709927310356 tw195739661354017790 tw11632291297788653190 tw11113672775450529376 tw1324523581152805173 tw9670694937037656461 tw15132390422524686993 tw15037040940695834652 tw9489238975074725989 tw12682354409643075808 tw4957059007702709548 tw1444476876395831949 tw7721743452443177389 tw7249374769773405173 tw12925842605900591108 tw8577269211680086204 tw5838306810933128822 tw10284726177569065887 tw7742428085543504738 tw12746357862974121634 tw2905943038258831252 tw16685207482758200624 tw759444139248849469 tw4113123715388134963 tw15683714089288811073 tw4447110846194943633 tw652445955840529731 tw8779046779108326747 tw6827996063974602009 tw11402794295662359074 tw16076893023523152995 tw4034167967091917398 tw1304054493742334457 tw8610242566573780801 tw11941466556349440479 tw16970938520724731789 tw17020640210873903942 tw6318789910234610139 tw4762162337447899719 tw6737385152641217215 tw1083480359629911767 tw7914574379634771213 tw17095169107536337408 tw4415277436362720849 tw12355793452477195162 tw13060931481272545565 tw14924456621660127272 tw7882122989995044402 tw15334478660071215408 tw13676124005887670372 tw3071920134728782172 tw14778853350187556391 tw11684054263721743336 tw14921186308954649497 tw12509070889638008904 tw15857864346382380882 tw18358591861370180428 tw12215452456432098377 tw6949544737499138289 tw1664201002346229147 tw17671245076282409669 tw4197857711964836795 tw7554566068741082749 tw9780834309946863367 tw10606512852976185172 tw5495161698077009008 tw1581746048526904131 tw11298025664152699399 tw7483648692189801447 tw14269567250585170477 tw11890409939893760180 tw798997489891063104 tw16254717675140515530 tw16409362837501166661 tw8567823420235109220 tw16611164901120934072 tw5174812039174118507 tw11980407106213717081 tw9275123357493421867 tw8948486469563157913 tw11200115268679176046 tw17538849262729594870 tw11838552545912972026 tw2028610627996516711 tw10762717777363075315 tw6092926096251878422 tw14653054137843257104 tw17092037565783813720 tw11537609222546120377 tw10167006530132954915 tw5015341848085812084 tw14922934802090920827 tw398325177017699606 tw8180443571916846332 tw6414070955380690809 tw16972631283804764175 tw1238592655086011196 tw11766332974198452002 tw2124675189057904361 tw14714206238167821571 tw1936351235834322696 tw9590155119593853192 tw229072777345786214 tw18324233131486703130 tw2188236307730713742 tw3617758884991288572 tw10087134373578986754 tw17582565011050407363 tw7673268676150305294 tw2509382216689190106 tw15490086191160958279 tw14761260831497893532 tw10851918827124977046 tw6578860885567203611 tw9996804663576692015 tw16587148371692850344 tw4499752586102264549 tw8299873666837949416 tw8577027201458938908 tw3011191267857915561 tw11522536360514170138 tw11444021248702248532 tw3334187934008924027 tw14386557271405091645 tw2762129333910979009 tw4168818725445003349 tw6912310783472324688 tw3336432370643144883 tw16881502485953512255 tw10754622471207328370 tw15702195576374474432 tw5361106337220690673:Nat)
open PySem PySem.W PyProof.Rows
set_option maxRecDepth 100000 in
set_option maxHeartbeats 0 in
theorem PySem.Challenge.cw_looprank_k53_whole_word_or_paper_holds : PySem.Challenge.rw_looprank_k53_whole_word_or_paper.Holds := by
 w_on;o_law;z_head;(case hw=>w_witness2)
 k_fill
 refine Pu.bF4 (λP=>by kernel_rfl) (Pu.walk (l:=PySem.Challenge.rw_looprank_k53_whole_word_or_paper) rfl rfl (λw h Y=>Y) Pu.law_true ?F)
 case F=>
  intro w mg fa h KX G hmg;refine' Pu.all_mk PySem.F.excBase_ValueError KX G hmg ⟨?x_Machine,?x1_Machine,?x2_Machine,?x3_Machine,?x4_Machine⟩ ?x5_Machine ?x6_Machine ⟨?x_Sides,?x1_Sides,?x2_Sides,?x3_Sides,?x4_Sides⟩ ?x5_Sides ?x6_Sides ?w_Machine_letters ?w_Machine_many ?w_Machine_ranks ?w_Machine_steps ?w_Sides_fronts ?w_Sides_lefts ?w_Sides_pairs ?w_Sides_rights ?w_Sides_steps ?y3 ?y4 (Pu.XA.mk ?y_NoMachine ?y0_NoMachine ?y1_NoMachine ?y6_NoMachine ?y7_NoMachine ?y2_NoMachine ?y5_NoMachine) (Pu.XA.mk ?y_NoPaper ?y0_NoPaper ?y1_NoPaper ?y6_NoPaper ?y7_NoPaper ?y2_NoPaper ?y5_NoPaper) (Pu.XA.mk ?y_NoRoom ?y0_NoRoom ?y1_NoRoom ?y6_NoRoom ?y7_NoRoom ?y2_NoRoom ?y5_NoRoom) (Pu.XA.mk ?y_OtherLetters ?y0_OtherLetters ?y1_OtherLetters ?y6_OtherLetters ?y7_OtherLetters ?y2_OtherLetters ?y5_OtherLetters) (Pu.XA.mk ?y_RankError ?y0_RankError ?y1_RankError ?y6_RankError ?y7_RankError ?y2_RankError ?y5_RankError) ?ja_NoPaper_NoMachine ?ja_NoPaper_NoPaper ?ja_NoPaper_NoRoom ?ja_NoPaper_OtherLetters ?jk_RankError_NoMachine ?jk_RankError_NoPaper ?jk_RankError_NoRoom ?jk_RankError_OtherLetters ?fv_JUST_ONE ?fv_ONE_ALONE (Pu.eE ?a1 ?l1 ?c1 ?k1) (Pu.eE ?a2 ?l2 ?c2 ?k2) (Pu.eE ?a3 ?l3 ?c3 ?k3) (Pu.eE ?a4 ?l4 ?c4 ?k4) (Pu.eE ?a5 ?l5 ?c5 ?k5) (Pu.eE ?a6 ?l6 ?c6 ?k6) (Pu.eE ?a7 ?l7 ?c7 ?k7) (Pu.eE ?a8 ?l8 ?c8 ?k8) (Pu.eE ?a9 ?l9 ?c9 ?k9) (Pu.eE ?a10 ?l10 ?c10 ?k10) (Pu.eE ?a11 ?l11 ?c11 ?k11) (Pu.eE ?a12 ?l12 ?c12 ?k12) (Pu.eE ?a13 ?l13 ?c13 ?k13) (Pu.eE ?a14 ?l14 ?c14 ?k14) (Pu.eE ?a15 ?l15 ?c15 ?k15) (Pu.eE ?a16 ?l16 ?c16 ?k16) (Pu.eE ?a17 ?l17 ?c17 ?k17) (Pu.eE ?a18 ?l18 ?c18 ?k18) (Pu.eE ?a19 ?l19 ?c19 ?k19) (Pu.eE ?a20 ?l20 ?c20 ?k20) (Pu.eE ?a21 ?l21 ?c21 ?k21) (Pu.eE ?a22 ?l22 ?c22 ?k22) (Pu.eE ?a23 ?l23 ?c23 ?k23) (Pu.eE ?a24 ?l24 ?c24 ?k24) (Pu.eE ?a25 ?l25 ?c25 ?k25) (Pu.bL9 ?a26 ?e26 ?l26 ?c26 ?k26) ?a27 ?e27 ?l27 ?c27 ?k27 ?a28 ?l28 ?t28 ?c28 ?k28 (Pu.eE ?a29 ?l29 ?c29 ?k29) (Pu.eE ?a30 ?l30 ?c30 ?k30) (Pu.eE ?a31 ?l31 ?c31 ?k31) (Pu.eE ?a32 ?l32 ?c32 ?k32) (Pu.eE ?a33 ?l33 ?c33 ?k33) ?a34 ?l34 ?t34 ?c34 ?k34 (Pu.eE ?a35 ?l35 ?c35 ?k35) (Pu.eE ?a36 ?l36 ?c36 ?k36) (Pu.eE ?a37 ?l37 ?c37 ?k37) ?a38 ?l38 ?t38 ?c38 ?k38 ?a39 ?l39 ?t39 ?c39 ?k39 ?a40 ?l40 ?t40 ?c40 ?k40 (Pu.eE ?a41 ?l41 ?c41 ?k41) (Pu.eE ?a42 ?l42 ?c42 ?k42) (Pu.eE ?a43 ?l43 ?c43 ?k43) (Pu.eE ?a44 ?l44 ?c44 ?k44) ?a45 ?e45 ?l45 ?c45 ?k45 ?a46 ?l46 ?c46 ?k46 ?v_LETTERS ?v_MOST_LETTERS ?v_MOST_ROOMS ?ub_JUST_ONE ?ub_ONE_ALONE ?z_all ?z_bool ?z_enumerate ?z_int ?z_isinstance ?z_len ?z_list ?z_max ?z_min ?z_range ?z_set ?z_sorted ?z_tuple ?z_zip
  (case x_Machine|x1_Machine|x2_Machine|x3_Machine|x4_Machine|x5_Machine|x6_Machine|x_Sides|x1_Sides|x2_Sides|x3_Sides|x4_Sides|x5_Sides|x6_Sides|w_Machine_letters|w_Machine_many|w_Machine_ranks|w_Machine_steps|w_Sides_fronts|w_Sides_lefts|w_Sides_pairs|w_Sides_rights|w_Sides_steps|y3=>k_is)
  (case y4|y_NoMachine=>k_is)
  (case y0_NoMachine=>k_exc)
  (case y1_NoMachine|y6_NoMachine|y7_NoMachine|y2_NoMachine|y5_NoMachine|y_NoPaper=>k_is)
  (case y0_NoPaper=>k_exc)
  (case y1_NoPaper|y6_NoPaper|y7_NoPaper|y2_NoPaper|y5_NoPaper|y_NoRoom=>k_is)
  (case y0_NoRoom=>k_exc)
  (case y1_NoRoom|y6_NoRoom|y7_NoRoom|y2_NoRoom|y5_NoRoom|y_OtherLetters=>k_is)
  (case y0_OtherLetters=>k_exc)
  (case y1_OtherLetters|y6_OtherLetters|y7_OtherLetters|y2_OtherLetters|y5_OtherLetters|y_RankError=>k_is)
  (case y0_RankError=>k_exc)
  (case y1_RankError|y6_RankError|y7_RankError|y2_RankError|y5_RankError|ja_NoPaper_NoMachine|ja_NoPaper_NoPaper|ja_NoPaper_NoRoom|ja_NoPaper_OtherLetters=>k_is)
  (case jk_RankError_NoMachine|jk_RankError_NoPaper|jk_RankError_NoRoom|jk_RankError_OtherLetters=>kit_is)
  (case fv_JUST_ONE|fv_ONE_ALONE|a1|l1|c1|k1|a2|l2|c2|k2|a3|l3|c3|k3|a4|l4|c4|k4|a5|l5|c5|k5|a6|l6=>k_is)
  (case c6|k6|a7|l7|c7|k7|a8|l8|c8|k8|a9|l9|c9|k9|a10|l10|c10|k10|a11|l11|c11|k11|a12|l12=>k_is)
  (case c12|k12|a13|l13|c13|k13|a14|l14|c14|k14|a15|l15|c15|k15|a16|l16|c16|k16|a17|l17|c17|k17|a18|l18=>k_is)
  (case c18|k18|a19|l19|c19|k19|a20|l20|c20|k20|a21|l21|c21|k21|a22|l22|c22|k22|a23|l23|c23|k23|a24|l24=>k_is)
  (case c24|k24|a25|l25|c25|k25|a26|e26|l26|c26|k26|a27|e27|l27|c27|k27|a28|l28|t28|c28|k28|a29|l29|c29=>k_is)
  (case k29|a30|l30|c30|k30|a31|l31|c31|k31|a32|l32|c32|k32|a33|l33|c33|k33|a34|l34|t34|c34|k34|a35|l35=>k_is)
  (case c35|k35|a36|l36|c36|k36|a37|l37|c37|k37|a38|l38|t38|c38|k38|a39|l39|t39|c39|k39|a40|l40|t40|c40=>k_is)
  (case k40|a41|l41|c41|k41|a42|l42|c42|k42|a43|l43|c43|k43|a44|l44|c44|k44|a45|e45|l45|c45|k45|a46|l46=>k_is)
  (case c46|k46|v_LETTERS|v_MOST_LETTERS|v_MOST_ROOMS|ub_JUST_ONE|ub_ONE_ALONE|z_all|z_bool|z_enumerate|z_int|z_isinstance|z_len|z_list|z_max|z_min|z_range|z_set|z_sorted|z_tuple|z_zip=>k_is)
