import PyProof.Rows.All
import Wide.All
import OpenK.AllK
import Wide.FinOn
import Lean
import PyProof.EqAt
import PyProof.EqKinds
import PyProof.TupleCall
import PyProof.P3Eq
import PyProof.NeKinds
import PyProof.NsDelKeeps
import PyProof.RulesAs
import PyProof.ExcAttrAll.ValueError
import KE.KSortKey
import KE.KSortTup
import KE.KDictLaws
import KE.KDictLetter
import KE.KItemsList
import KE.KMinKey
import PySem.Challenge.RW_looprank_k56_joints
set_option Elab.async false
set_option linter.all false
set_option maxRecDepth 100000
def xa:=@PySem.wpAny_bind
def vc:=@PySem.Heap.get?_push_of_some
def Ua:=@PySem.wpAny_pure
def Be:=@List.getElem?_eq_getElem
def Lc:=@List.mem_cons_of_mem
def Zb:=@List.mem_cons_self
def qc:=@List.mem_cons
def xg:=@List.getElem?_eq_some_iff
def Ce:=@List.mem_singleton
def Af:=@PySem.Heap.get?_push_size
def Tc:=@PySem.Heap.lt_size
def Ec:=@Nat.le_refl
def bf:=@decide_eq_false
def Yc:=@List.length_map
def Pa:=@if_neg
def oh:=@List.mem_append_right
def Kh:=@List.getD_eq_getElem?_getD
def ph:=@Nat.lt_of_lt_of_le
def ff:=@Nat.ne_of_lt
def gf:=@List.mem_map
def Lh:=@List.size_toArray
def Mh:=@List.getElem?_set
def Kb:=@if_pos
def Lk:=@Array.getElem?_eq_getElem
def qh:=@List.map_append
def Pg:=@List.length_append
def fg:=@List.length_cons
def fh:=@decide_eq_true
def Ni:=@decide_eq_true_eq
def Wh:=@List.mem_append
def gh:=@PySem.wpAny_holding
def Xh:=@PySem.Heap.size_push
def gj:=@List.getElem_mem
def Kl:=@List.mem_append_left
def Ij:=@List.getElem?_map
def Gh:=@List.map_map
def kn:=@PySem.Heap.get?_update_other
def Nh:=@Nat.le_trans
def Bm:=@List.mem_of_getElem?
def mn:=@List.mem_iff_getElem?
def rn:=@PySem.Heap.get?_update_self
def Oi:=@Nat.lt_irrefl
def Cm:=@PySem.mem_of_lookup
def ak:=@PySem.wpAny_call_entry
def Wf:=@List.map_cons
def Ip:=@PySem.wpAny_callSpecial?_slot
def zq:=@List.getElem?_append_left
def Jj:=@List.mem_range
def Nk:=@List.mem_filter
def fu:=@PyProof.Rows.callWith_type1
def jo:=@Bool.false_ne_true
def Aq:=@PySem.F.slot_zip_next
def vn:=@List.length_singleton
def gu:=@Array.getElem?_eq_some_iff
def zj:=@PySem.W.kia_one
def Dm:=@PySem.codeAny_builtin
def oo:=@PySem.wpAny_newObj_type
def Ll:=@PySem.wpAny_seqItems
def Jp:=@Nat.lt_trichotomy
def Bq:=@PySem.wpAny_Call_Name_kw
def qo:=@Option.some.inj
def Pr:=@List.map_congr_left
def ck:=@List.lookup_cons
def iu:=@List.getElem?_eq_none
def yz:=@PySem.F.slot_dict_keyiterator_next
def xn:=@List.nodup_cons
def rh:=@Nat.zero_le
def Nw:=@List.length_eq_zero_iff
def Kp:=@PySem.wpAny_ite_split
def Pk:=@PySem.wpAny_field
def yn:=@PySem.plainId_quiet
def Em:=@PySem.codeAny_mono
def ju:=@beq_eq_false_iff_ne
def dk:=@PySem.wpAny_mono
def Qr:=@of_decide_eq_true
def Rr:=@List.nodup_append
def ku:=@PySem.Heap.SameBut.update
def uh:=@Ne.symm
def Cq:=@PySem.wpAny_updateSeq
def nu:=@PySem.wpAny_setField_rec
def Qk:=@PySem.W.mg_none_of
def RG:=@PySem.wpAny_typeNameOfWhole_keyiter
def Mp:=@PySem.wpAny_attempt
def ou:=@PySem.wpAny_truthy_bool
def Np:=@Nat.lt_succ_self
def Ow:=@Nat.add_sub_cancel_left
def SG:=@List.idxOf_lt_length_of_mem
def Sr:=@Array.getElem?_toList
def Az:=@PySem.F.plain_min_loop
def Fm:=@beq_iff_eq
def Bz:=@PySem.Obj.isFreed_of_fields
def Qw:=@PySem.Obj.data_mapFields
def UG:=@List.pairwise_iff_getElem
def Ur:=@PySem.wpAny_setField
def VG:=@PySem.F.plain_extend_loop
def Cz:=@List.drop_eq_getElem_cons
def qu:=@PySem.wpAny_passesOwn
def su:=@Bool.eq_iff_iff
def Rw:=@List.append_assoc
def WG:=@PySem.wpAny_typeNameOf_keyiter
def Sw:=@PySem.wpAny_setState_of
def so:=@List.append_nil
def Pp:=@PySem.sizeLine_eq
def Dz:=@List.length_pos_iff
def XG:=@PySem.wpAny_getItem_str_slice
def Ez:=@Array.length_toList
def Fz:=@PySem.wpAny_setEntries_of
def Tw:=@PySem.wpAny_isInstance
def Uw:=@PySem.wpAny_askSetting
def uo:=@List.length_set
def tu:=@PySem.wpAny_tryCatch
def YG:=@PySem.wpAny_nextOf_list_item
def ZG:=@PySem.F.entry_zip_next
def Vr:=@Nat.le_of_lt
def Wr:=@Nat.ne_of_gt
def kH:=@Classical.choose_spec
def AH:=@List.cons_lt_cons_iff
def BH:=@PySem.wpAny_nextOf_list_end
def CH:=@Array.getD_eq_getD_getElem?
def wu:=@List.zip_cons_cons
def Gz:=@PySem.wpAny_pyIter_list
def GP:=@List.getElem?_append_right
def DH:=@List.mem_iff_getElem
def Ww:=@PySem.W.callWith_K
def HP:=@Classical.byContradiction
def Xw:=@PySem.wpAny_fieldsOf
def Hz:=@List.all_eq_true
def Iz:=@List.any_eq_true
def Jz:=@List.getElem?_toArray
def EH:=@List.filterMap_cons
def Yw:=@Int.toNat_natCast
def Xr:=@Bool.and_eq_true
def FH:=@PySem.Heap.get?_update_ne
def Yr:=@PySem.wpAny_letGo
def xu:=@Nat.lt_trans
def Zw:=@PySem.wpAny_standAt
def GH:=@PySem.tupleKind_room_in1
def HH:=@Int.emod_lt_of_pos
def Kz:=@PySem.wpAny_specialOf
def IP:=@PySem.F.plainAttrs_list
def JP:=@PySem.F.args_zip_next_1
def KP:=@PySem.F.slot_list_append
def LP:=@List.take_of_length_le
def MP:=@List.pairwise_lt_range
def NP:=@List.drop_of_length_le
def OP:=@Array.getElem?_eq_none
def QP:=@PySem.F.entry_min_loop
def t8:=@List.takeWhile_append_dropWhile
def Zr:=@PySem.wpAny_rule
def yu:=@Nat.not_lt_zero
def IH:=@PySem.wpAny_pyIter_slot
def JH:=@PySem.fits_of_scanBound
def Lz:=@Nat.mul_le_mul
def Mz:=@PySem.isSubtype_stop
def RP:=@PySem.W.methodCall_KW
def ax:=@List.any_map
def bx:=@Nat.add_zero
def cx:=@Nat.zero_add
def UP:=@List.length_filter_le
def fx:=@List.length_range
def v8:=@PySem.F.args_dict_keyiterator_next_1
def KH:=@List.length_take
def LH:=@List.getElem_map
def MH:=@List.range'_succ
def OH:=@Nat.le_add_right
def w8:=@PySem.F.entry_dict_keyiterator_next
def VP:=@Nat.mul_le_mul_right
def ZP:=@Nat.eq_of_testBit_eq
def dQ:=@PySem.wpAny_updateSeq_pair
def zu:=@List.any_cons
def Oh:=@PySem.W.mg_of
def QH:=@PySem.wpAny_execs_nil
def oQ:=@PySem.W.plainGet_of
def RH:=@PySem.post_val_or_str
def A8:=@PySem.Calls.Name_function_global
def B8:=@Int.fdiv_eq_ediv_of_nonneg
def C8:=@Array.perm_iff_toList_perm
def E8:=@List.dropWhile_cons_of_pos
def F8:=@List.takeWhile_cons_of_pos
def G8:=@PySem.F.args_object_init_3
def H8:=@List.length_eraseIdx_of_lt
def sQ:=@Int.natCast_nonneg
def Nz:=@Nat.le_of_eq
def Oz:=@Nat.sub_self
def AQ:=@List.length_range'
def BQ:=@List.getElem?_cons_succ
def Pz:=@PySem.F.called_set
def Qp:=@Nat.le_succ
def SH:=@Bool.and_false
def TH:=@List.lt_irrefl
def I8:=@Nat.lt_pow_two_of_testBit
def J8:=@PySem.F.entry_extend_loop
def UH:=@List.Perm.refl
def CQ:=@List.any_eq_false
def DQ:=@PySem.W.kitx_list
def EQ:=@PySem.W.kitx_dict
def gx:=@PySem.wpAny_call
def FQ:=@Option.isSome_map
def GQ:=@Nat.le_of_succ_le
def K8:=@List.filterMap_cons_some
def HQ:=@PySem.wpAny_dictEntries
def IQ:=@List.ext_getElem?
def L8:=@PyProof.Rows.boot_sorted
def M8:=@PySem.F.args_list_append_2
def Qz:=@List.cons_append
def Rz:=@Int.emod_nonneg
def N8:=@decide_eq_false_iff_not
def VH:=@PySem.wpAny_onRaise
def O8:=@PySem.F.plain_list_iadd
def P8:=@PySem.F.slot_list_index
def JQ:=@Nat.mod_eq_of_lt
def KQ:=@Nat.zero_testBit
def LQ:=@List.take_length
def Q8:=@List.getElem?_set_self
def R8:=@PySem.W.cellsFrom_some
def S8:=@Nat.testBit_lt_two_pow
def T8:=@List.append_eq_nil_iff
def U8:=@List.find?_cons_of_pos
def V8:=@List.find?_cons_of_neg
def W8:=@List.range_succ_eq_map
def X8:=@PySem.F.typeCall_zip_2
def Y8:=@Nat.lt_of_succ_lt_succ
def MQ:=@List.of_mem_zip
def NQ:=@List.length_nil
def WH:=@List.pairwise_map
def Z8:=@PySem.F.newCall_zip_2
def b9:=@PySem.F.entry_zip_new
def OQ:=@PySem.wpAny_dictEpoch
def d9:=@PySem.F.slot_zip_iter
def Sz:=@List.foldl_cons
def Tz:=@PySem.Walks.list
def Uz:=@PySem.intKind_is
def f9:=@List.getElem?_set_ne
def g9:=@Array.mem_toList_iff
def i9:=@Nat.pow_le_pow_right
def j9:=@List.range_eq_range'
def m9:=@List.getElem_toArray
def n9:=@Array.getElem_toList
def PQ:=@List.nodup_nil
def QQ:=@Nat.testBit_or
def XH:=@PySem.wpAny_of_eq
def RQ:=@Nat.add_assoc
def SQ:=@List.lt_trans
def TQ:=@Bool.false_or
def Vz:=@Option.getD_some
def YH:=@Nat.not_lt
def UQ:=@Nat.sub_zero
def VQ:=@Nat.le_total
def WQ:=@Nat.mul_comm
def Wz:=@Prod.ext
def jx:=@Iff.rfl
section
open PySem PySem.Spec PyProof.Rows
abbrev ac:=List Nat
abbrev am:=List (List Nat)
abbrev be:=Value->Shared->Prop
abbrev bv:=List Addr
abbrev ca:=List Value
abbrev ce:=List (Addr×Obj)
abbrev dL:=Str->Option Value
abbrev f8:=List (Nat×Nat)
abbrev jp:=Array (Int×Value)
abbrev li:=List Int
abbrev na:=Array (Option Value)
abbrev pc:=Option Addr
abbrev pi:=List (Int×Int)
abbrev pp:=Shared->Prop
abbrev re:=List String
abbrev ss:=Nat->Nat
abbrev sB:=Bool->Shared->Prop
abbrev sK:=List Bool
abbrev tz:=Option Value->Shared->Prop
abbrev ut:=List Str
abbrev u8:=Unit->Shared->Prop
abbrev v4:=List ((Nat×Nat)×List Nat)
abbrev wn:=Nat×Nat
abbrev wE:=Array Value
abbrev wP:=Option (Value×Nat)->Shared->Prop
abbrev xz:=List Env
abbrev xL:=List (Str×Addr)
abbrev At:=Option Int
abbrev AC:=List (Str×Value)
abbrev Da:=Nat->Nat->Bool
abbrev Do:=Int×Int
abbrev Fa:=Nat->Heap->Prop
abbrev FM:=Nat->Prop
abbrev Gc:=Array Nat
abbrev GM:=Nat×Nat->List Nat
abbrev GT:=List Value->Shared->Prop
abbrev IN:=Nat->Nat->Prop
abbrev IR:=Nat->Bool
abbrev KM:=World->Heap->Prop
abbrev M2:=Nat×Nat->Nat
abbrev No:=Nat×Nat->List Nat->List (Nat×Nat)
end
open PySem.Str(ofString)
namespace L2
open PySem PySem.Spec PyProof.Rows
abbrev Key:=Sum Int Str
abbrev _root_.Db:=List Key
def cw:Key->Value->Bool
 |.inl k,v=>Value.isInt k v
 |.inr x,v=>Value.isStrOf x v
def bOt(w:World):Key->Int
 |.inl k=>hashInt k
 |.inr x=>hashStr w x
def iG:∀{k:Key}{v:Value},cw k v=true->(∃i t,k=Sum.inl i/\v=Value.int i t)\/(∃x t,k=Sum.inr x/\v=Value.str x t)
 |.inl i,v,h=>by
  obtain⟨t,e⟩:=Value.isInt_shape h;exact .inl ⟨i,t,rfl,e⟩
 |.inr x,v,h=>by
  obtain⟨t,e⟩:=Value.isStrOf_shape h;exact .inr ⟨x,t,rfl,e⟩
def ĺ(i:Int)(t:Tok):cw (.inl i) (.int i t)=true:=by simp[cw,Value.isInt]
def Ļ(x:Str)(t:Tok):cw (.inr x) (.str x t)=true:=by simp[cw,Value.isStrOf]
def Z4(a b:Int):decide ((Sum.inl a:Key)=Sum.inl b)=(a==b):=by
 by_cases e:a=b
 .subst e;simp
 rw[bf<|λq=>e<|Sum.inl.inj q]
 exact(ju.mpr e).symm
def d5(a b:Str):decide ((Sum.inr a:Key)=Sum.inr b)=decide (a=b):=by
 by_cases e:a=b
 .simp
 rw[bf<|λq=>e<|Sum.inr.inj q,bf e]
def i5(a:Int)(b:Str):decide ((Sum.inl a:Key)=Sum.inr b)=false:=bf (λq=>nomatch q)
def n5(a:Str)(b:Int):decide ((Sum.inr a:Key)=Sum.inl b)=false:=bf (λq=>nomatch q)
def lL(prog:Program)(w:World):PySem.KeyKind prog w Key where
 is:=cw
 hash:=bOt w
 inj:=λv a b g d=>by
  rcases iG g with ⟨i,t,rfl,rfl⟩|⟨x,t,rfl,rfl⟩
  .rcases iG d with ⟨j,u,rfl,e⟩|⟨y,u,rfl,e⟩
   .injection e with e1 _;rw[e1]
   .exact nomatch e
  .rcases iG d with ⟨j,u,rfl,e⟩|⟨y,u,rfl,e⟩
   .exact nomatch e
   .injection e with e1 _;rw[e1]
 byValue:=λk v h=>by
  rcases iG h with ⟨i,t,rfl,rfl⟩|⟨x,t,rfl,rfl⟩ <;> rfl
 pyHash:=λc h=>by
  rcases iG c with ⟨i,t,rfl,rfl⟩|⟨x,t,rfl,rfl⟩
  .exact wpAny_pyHash_int h
  .exact wpAny_pyHash_str h
 eqBool:=λf c h=>by
  rcases iG f with ⟨i,t,rfl,rfl⟩|⟨x,t,rfl,rfl⟩
  .rcases iG c with ⟨j,u,rfl,rfl⟩|⟨y,u,rfl,rfl⟩
   .rw[Z4]at h;exact wpAny_eqBool_int h
   .rw[i5]at h;exact SeqAt.EqAt.int_str i t y u _ _ _ _ h
  .rcases iG c with ⟨j,u,rfl,rfl⟩|⟨y,u,rfl,rfl⟩
   .rw[n5]at h;exact SeqAt.EqAt.str_int x t j u _ _ _ _ h
   .rw[d5]at h;exact wpAny_eqBool_str h
 «strs» := λk x t v h=>by
  rcases iG h with ⟨i,u,rfl,e⟩|⟨y,u,rfl,e⟩
  .exact nomatch e
  .injection e with e1 _
   subst e1;cases v<;>rfl
def ò(prog:Program)(w:World)(i:Int)(t:Tok):(lL prog w).is (.inl i) (.int i t)=true:=ĺ i t
def ó(prog:Program)(w:World)(x:Str)(t:Tok):(lL prog w).is (.inr x) (.str x t)=true:=Ļ x t
inductive V where
 |xc|bl (b:Bool)|int (i:Int)|str (x:Str)|ZH (b:Array UInt8)|Eu (b:UInt64)|ref (a:Addr)|ty (n:String)
 deriving DecidableEq
abbrev _root_.lw:=List V
abbrev _root_.wS:=List (List Key×V)
abbrev _root_.zn:=List (Str×V)
abbrev _root_.Fk:=List (Key×V)
def RelV:V->Value->Prop
 |.xc,u=>u=Value.none
 |.bl b,u=>u=Value.bool b
 |.int i,u=>∃t,u=Value.int i t
 |.str x,u=>∃t,u=Value.str x t
 |.ZH b,u=>∃t,u=Value.bytes b t
 |.Eu b,u=>∃t,u=Value.float b t
 |.ref a,u=>u=Value.ref a
 |.ty n,u=>u=Value.type n
abbrev Ka:List V->List Value->Prop:=Paired RelV
theorem Ka.length(r:Ka xs us):xs.length=us.length:=Paired.length r
theorem Ka.get:∀{xs:lw}{a:ca}{i:Nat}{x:V},Ka xs a->xs[i]?=some x->∃u,a[i]?=some u/\RelV x u
 |_,_,_,_,.nil,e=>by simp at e
 |_,_,0,_,.cons r _,e=>by simp at e;subst e;exact⟨_,rfl,r⟩
 |_,_,i+1,x,.cons _ t,e=>by
  obtain⟨u,c,b⟩:=Ka.get t (by simpa using e)
  exact⟨u,by simpa using c,b⟩
theorem Ka.append:∀{xs ys:lw}{b a:ca},Ka xs b->Ka ys a->Ka (xs++ys) (b++a)
 |_,_,_,_,.nil,s=>s
 |_,_,_,_,.cons r t,s=>.cons r<|Ka.append t s
theorem Ka.take:∀{xs:lw}{a:ca}(n:Nat),Ka xs a->Ka (xs.take n) (a.take n)
 |_,_,0,_=>.nil
 |_,_,_+1,.nil=>.nil
 |_,_,n+1,.cons r t=>.cons r<|Ka.take n t
theorem Ka.drop:∀{xs:lw}{a:ca}(n:Nat),Ka xs a->Ka (xs.drop n) (a.drop n)
 |_,_,0,r=>r
 |_,_,_+1,.nil=>.nil
 |_,_,n+1,.cons _ t=>Ka.drop n t
def zO:Option V->Option Value->Prop
 |some v,some u=>RelV v u
 |none,none=>True
 |_,_=>False
def KV{a:Type}:List (a×V)->List (a×Value)->Prop:=Paired λ(p:a×V)(q:a×Value)=>p.1=q.1/\RelV p.2 q.2
def kV:Key->V
 |.inl i=>.int i
 |.inr x=>.str x
inductive HO where
 |lst (xs:lw)
 |tup (xs:lw)
 |dK (Ca:Fk)|dT (Ca:wS)
 |set (S:Int->Bool) (n:Nat)
 |ins (C dx:Addr) (fs:zn)
 |own (x:Addr)
 |xd (fs:zn)
 |met (f x:Addr)
 |Sx (lo hi:Int)
 |Vk (o:Obj) (u:HO)
 |dq (ps:wE)
 |ext (φ:Heap->Prop)
abbrev Hp:=Addr->Option HO
abbrev _root_.wv:=Hp->Prop
abbrev _root_.KB:=List V->Hp->Prop
abbrev _root_.KF:=Hp->List V->Prop
abbrev _root_.On:=Bool->Hp->Prop
def Tb(H:Hp)(a:Addr)(o:HO):Hp:=λb=>if b=a then some o else H b
def bO:Tb H a o a=some o:=by unfold Tb;rw[Kb rfl]
def aZ{a b:Addr}(h:b≠a):Tb H a o b=H b:=by unfold Tb;rw[Pa h]
def S6{H:Hp}(h:H a=some o)(c:H b=some u)(d:o≠u):a≠b:=by
 intro e;subst e;rw[h]at c;exact d<|qo c
def aU{H:Hp}(h:H a=some o)(c:H b=none):a≠b:=by
 intro e;subst e;rw[h]at c;cases c
section
variable(P:Program)(w:World)
def lX(H:Hp)(h:Heap)(a:Addr):HO->Prop
 |.lst c=>c.length<=sizeLine/\∃(b:ca)(n:Nat),Ka c b/\h.get? a=some {cls:=.type "list",data:=.seq b.toArray n}
 |.tup c=>c.length<=sizeLine/\∃b:ca,Ka c b/\IsTup h a b.toArray
 |.dK e=>e.length<=sizeLine/\(a==sysModules)=false/\∃j,KV e j/\h.DictOf (lL P w) a j
 |.dT e=>e.length<=sizeLine/\(a==sysModules)=false/\∃c:List (List Key×Addr×Value),
   Paired (λ(p:List Key×V)(q:List Key×Addr×Value)=>p.1=q.1/\H q.2.1=some (.tup<|p.1.map kV)/\RelV p.2 q.2.2) e c/\
   ∃o m y,h.get? a=some o/\o.ExactDict/\o.data=.dict m y/\m.toList=c.map (entryOfKey<|tupleKind<|lL P w)/\(c.map (·.1)).Nodup
 |.set S n=>h.SetOf (intKind P w) a S n
 |.ins C g fs=>H g=some (.own a)/\fs.length<=1000/\g≠a/\h.get? a=some (PySem.W.instObj C g)/\
   ∃d,h.Ns1 g d/\(∀f,zO (fs.lookup f)<|d f)/\PySem.Within d (fs.map (·.1))
 |.own _=>∃o,h.get? a=some o
 |.xd fs=>∃d,h.Ns1 a d/\∀f,zO (fs.lookup f)<|d f
 |.Sx lo s=>∃t u v,h.get? a=some {cls:=.type "range",data:=.fields #[.int lo t,.int s u,.int 1 v]}
 |.Vk o u=>h.get? a=some o/\lX H h a u
 |.dq r=>h.get? a=some {cls:=.none,data:=.fields r}
 |.met f x=>h.get? a=some (PySem.W.methodObj (.ref f)<|.ref x)
 |.ext i=>i h/\(∃o,h.get? a=some o)/\∀l k:Heap,i l->(∀o,l.get? a=some o->k.get? a=some o)->i k
def Bf(H:Hp)(h:Heap):Prop:=∀a o,H a=some o->lX P w H h a o
end
section
variable{P:Program}{w:World}{H H':Hp}{h h':Heap}{a:Addr}{o:HO}
theorem lX.lt(x:lX P w H h a o):a<h.objs.size:=by
 cases o with
 |lst b=>obtain⟨_,_,_,_,e⟩:=x;exact Tc e
 |tup b=>obtain⟨_,_,_,p⟩:=x;exact p.lt
 |dK c=>obtain⟨_,_,_,_,o,_,_,e,_⟩:=x;exact Tc e
 |dT c=>obtain⟨_,_,_,_,o,_,_,e,_⟩:=x;exact Tc e
 |set S n=>obtain⟨o,_,_,_,e,_⟩:=x;exact Tc e
 |ins C j fs=>obtain⟨_,_,_,e,_⟩:=x;exact Tc e
 |own y=>obtain⟨_,e⟩:=x;exact Tc e
 |xd fs=>obtain⟨_,⟨_,_,_,e,_⟩,_⟩:=x;exact Tc e
 |Sx lo i=>obtain⟨_,_,_,e⟩:=x;exact Tc e
 |Vk ob u=>obtain⟨e,_⟩:=x;exact Tc e
 |dq g=>exact Tc<|x
 |met f y=>exact Tc<|x
 |ext d=>obtain⟨_,⟨_,e⟩,_⟩:=x;exact Tc e
theorem Paired.Tq{d c:Type}{F G:d->c->Prop}:∀{g:List d}{e:List c},Paired F g e->(∀a b,F a b->G a b)->Paired G g e
 |_,_,.nil,_=>.nil
 |_,_,.cons r t,f=>.cons (f _ _ r)<|Paired.Tq t f
def Paired.imp'{d c:Type}{F G:d->c->Prop}(f:∀a b,F a b->G a b){g:List d}{e:List c}(r:Paired F g e):Paired G g e:=Paired.Tq r f
def lX.Dh(x:lX P w H h a o)(k:∀b u,(b=a\/H b=some (.own a))->h.get? b=some u->h'.get? b=some u)
  (E:∀b,H b=some (.own a)->H' b=some (.own a)) (D:∀b xs,H b=some (.tup xs)->H' b=some (.tup xs)):lX P w H' h' a o:=by
 induction o with
 |lst xs=>obtain⟨z,j,n,r,e⟩:=x;exact⟨z,j,n,r,k _ _ (.inl rfl) e⟩
 |tup xs=>obtain⟨z,j,r,ob,e,c⟩:=x;exact⟨z,j,r,ob,k _ _ (.inl rfl) e,c⟩
 |dK F=>obtain⟨z,y,s,r,ob,g,i,e,c⟩:=x;exact⟨z,y,s,r,ob,g,i,k _ _ (.inl rfl) e,c⟩
 |dT F=>
  obtain⟨z,y,xs,r,ob,g,i,e,c⟩:=x;exact⟨z,y,xs,Paired.Tq r λp q z=>⟨z.1,D _ _ z.2.1,z.2.2⟩,ob,g,i,k _ _ (.inl rfl) e,c⟩
 |set S n=>obtain⟨ob,g,i,t,e,c⟩:=x;exact⟨ob,g,i,t,k _ _ (.inl rfl) e,c⟩
 |ins C K fs=>
  obtain⟨d,z,A,e,m,⟨l,g,i,e2,c⟩,r⟩:=x;exact⟨E _ d,z,A,k _ _ (.inl rfl) e,m,⟨l,g,i,k _ _ (.inr d) e2,c⟩,r⟩
 |own y=>obtain⟨ob,e⟩:=x;exact⟨ob,k _ _ (.inl rfl) e⟩
 |xd fs=>obtain⟨m,⟨l,g,i,e,c⟩,r⟩:=x;exact⟨m,⟨l,g,i,k _ _ (.inl rfl) e,c⟩,r⟩
 |Sx lo J=>obtain⟨t,u,v,e⟩:=x;exact⟨t,u,v,k _ _ (.inl rfl) e⟩
 |Vk ob u B=>obtain⟨e,q⟩:=x;exact⟨k _ _ (.inl rfl) e,B q⟩
 |dq I=>
  exact k a _ (.inl rfl) x
 |met f y=>
  exact k a _ (.inl rfl) x
 |ext G=>obtain⟨p,⟨o,e⟩,st⟩:=x;exact⟨st _ _ p λo q=>k _ _ (.inl rfl) q,⟨o,k _ _ (.inl rfl) e⟩,st⟩
theorem Bf.lt(x:Bf P w H h)(e:H a=some o):a<h.objs.size:=(x a o e).lt
def Bf.fresh(x:Bf P w H h)(e:h.objs.size<=a):H a=none:=by
 cases q:H a with
 |none=>rfl
 |some u=>exact absurd (ph (x.lt q) e)<|Oi _
def Bf.kept(x:Bf P w H h)(k:∀b u,h.get? b=some u->h'.get? b=some u):Bf P w H h':=λa o e=>
 (x a o e).Dh (λb u _ q=>k b u q) (λ_ q=>q) λ_ _ q=>q
def Bf.laid(x:Bf P w H h)(k:∀b u,h.get? b=some u->h'.get? b=some u)(i:h.objs.size<=a)(d:lX P w (Tb H a o) h' a o):Bf P w (Tb H a o) h':=λb u e=>by
 have f:=x.fresh i
 by_cases g:b=a
 .subst g;rw[bO]at e;cases e;exact d
 rw[aZ g]at e;exact(x b u e).Dh (λc v _ q=>k c v q) (λc q=>by rwa [aZ<|aU q f]) λc j q=>by rwa [aZ<|aU q f]
end
def Rd(H:Hp)(a:Addr)(u:HO):Prop:=H a=some u\/∃o,H a=some (.Vk o u)
def Rd.ok{w:World}(r:Rd H a u)(x:Bf P w H h):lX P w H h a u:=by
 rcases r with r|⟨o,r⟩
 .exact x a u r
 obtain⟨_,q⟩:=x a _ r;exact q
def Gk:Option HO->Prop
 |some (.lst _)=>True
 |some (.dK _)=>True
 |some (.dT _)=>True
 |some (.set _ _)=>True
 |some (.ins _ _ _)=>True
 |some (.ext _)=>True
 |_=>False
section
variable{P:Program}{w:World}{H:Hp}{h h':Heap}{x e:Addr}{o':HO}
def Bf.write(ok:Bf P w H h)(l:Gk (H x))(he:e=x\/H e=some (.own x))(k:∀b u,b≠e->h.get? b=some u->h'.get? b=some u)(m:∃u,h'.get? e=some u)
  (g:lX P w (Tb H x o') h' x o'):Bf P w (Tb H x o') h':=λb u q=>by
 have d:∀c y,H c=some (.own y)->c≠x:=λc y r z=>by subst z;rwa [r]at l
 by_cases f:b=x
 .subst f;rw[bO]at q;cases q;exact g
 rw[aZ f]at q
 by_cases a:b=e
 .have j:H b=some (.own x):=by
   rcases he with z|z
   .exact absurd (a.trans z) f
   rwa [a]
  rw[q]at j;cases j;obtain⟨v,n⟩:=m;exact⟨v,by rwa [a]⟩
 refine(ok b u q).Dh (λc v hc r=>k c v ?_ r) (λc r=>by rwa [aZ<|d c b r]) λc i r=>by rwa [aZ<|(λc i r z=>by subst z;rwa [r]at l) c i r]
 rcases hc with rfl|hc
 .exact a
 rintro rfl;rcases he with z|z
 .exact d c b hc z
 rw[hc]at z;cases z;exact f rfl
end
structure Un(fs ex:bv)(H H':Hp)(h h':Heap):Prop where
 keep:∀b o,h.get? b=some o->H b=none->b∉fs->b∉ex->h'.get? b=some o
 slot:∀b o,h.get? b=some o->H b=none->b∈fs->b∉ex->∃sl,h'.get? b=some {o with slots:=sl}
 free:∀b o,h.get? b=some o->H b=none->b∉ex->H' b=none
 there:∀b o,h.get? b=some o->b∉ex->∃o',h'.get? b=some o'
 Fi:∀b xs,H b=some (.tup xs)->H' b=some (.tup xs)
 Rh:∀b o u,H b=some (.Vk o u)->H' b=some (.Vk o u)
 Ei:∀b ps,H b=some (.dq ps)->∃more,H' b=some (.dq<|ps++more)
section
variable{fs fs' ex ex':bv}{H H1 H2:Hp}{h h1 h2 h':Heap}{a x e:Addr}{o:HO}
def Un.any(u:Un fs ex H H1 h h1){b:Addr}{ob:Obj}(q:h.get? b=some ob)(n:H b=none)(a:b∉ex):∃d,h1.get? b=some {ob with slots:=d}:=by
 by_cases c:b∈fs
 .exact u.slot b ob q n c a
 exact⟨ob.slots,u.keep b ob q n c a⟩
def Un.kept(k:∀b u,h.get? b=some u->h'.get? b=some u):Un fs ex H H h h':=
 ⟨λb ob q _ _ _=>k b ob q,λb ob q _ _ _=>⟨ob.slots,k b ob q⟩,λ_ _ _ n _=>n,λb ob q _=>⟨ob,k b ob q⟩,λ_ _ q=>q,λ_ _ _ q=>q,λ_ a q=>⟨#[],by rw[q];simp⟩⟩
def Un.refl:Un fs ex H H h h:=Un.kept λ_ _ q=>q
def Un.laid(k:∀b u,h.get? b=some u->h'.get? b=some u)(e:h.objs.size<=a)(c:H a=none):Un fs ex H (Tb H a o) h h' where
 keep:=λb u q _ _ _=>k b u q
 slot:=λb u q _ _ _=>⟨u.slots,k b u q⟩
 free:=λb u q n _=>by rwa [aZ<|ff<|ph (Tc q) e]
 there:=λb u q _=>⟨u,k b u q⟩
 Fi:=λb d q=>by rwa [aZ<|aU q c]
 Rh:=λb u d q=>by rwa [aZ<|aU q c]
 Ei:=λb f q=>⟨#[],by rw[aZ<|aU q c,q];simp⟩
def Un.write(c:Gk (H x))(he:e=x\/H e=some (.own x))(k:∀b u,b≠e->h.get? b=some u->h'.get? b=some u)(l:∃u,h'.get? e=some u):Un fs ex H (Tb H x o) h h':=by
 have f:∀b,H b=none->b≠x:=λb n z=>by subst z;rwa [n]at c
 have g:∀b,H b=none->b≠e:=λb n z=>by
  subst z;rcases he with r|r
  .exact f b n r
  rw[n]at r;cases r
 have d:∀b u,H b=some u->¬ Gk (some u)->b≠x:=λb u q j z=>by subst z;rw[q]at c;exact j c
 refine⟨λb u q n _ _=>k b u (g b n) q,λb u q n _ _=>⟨u.slots,k b u (g b n) q⟩,λb u q n _=>by rwa [aZ<|f b n],λb u q _=>?_,
  λb i q=>by rwa [aZ<|d b _ q λz=>z],λb u i q=>by rwa [aZ<|d b _ q λz=>z],λb m q=>⟨#[],by rw[aZ<|d b _ q λz=>z,q];simp⟩⟩
 by_cases a:b=e
 .subst a;exact l
 exact⟨u,k b u a q⟩
end
def trk(h:Heap)(H:Hp):bv:=(List.range h.objs.size).filter λa=>(H a).isSome
def Aw(h:Heap)(H:Hp):Heap:=PySem.W.hideAll h<|trk h H
def ļ(h:Heap)(H:Hp):(Aw h H).objs.size=h.objs.size:=PySem.W.hideAll_size _ _
def aZ4{h:Heap}{H:Hp}(e:h.get? b=some o)(n:H b=none):(Aw h H).get? b=some o:=
 PySem.W.hideAll_get _ e λa=>by
  have q:=(Nk.mp a).2;rw[n]at q;simp at q
def bDo(e:(Aw h H).get? b=some o):h.get? b=some o/\H b=none:=by
 have a:=PySem.W.of_hideAll _ e;refine⟨a,?_⟩;cases q:H b with
 |none=>rfl
 |some x=>
  have z:(Aw h H).get? b=none:=PySem.W.hideAll_none _<|Nk.mpr ⟨Jj.mpr<|Tc a,by simp[q]⟩
  rw[z]at e;cases e
def bDp(g h:Heap)(L:Addr):ce:=(List.range h.objs.size).filterMap λa=>if a=L\/(g.get? a).isSome=true then none else (h.get? a).map λo=>(a,o)
def rest(g h:Heap)(L d:Addr):ce:=(bDp g h L).filter λp=>decide (p.1≠d)
structure Mod(K:PySem.W.Frag)(mg:dL)(base:Heap):Prop where
 Tj:K.In base
 glob:base.Ns mainGlobals mg
 blt:∃mb,base.Ns builtinsNs mb/\∀x:Str,x≠"__name__"->mb x=bootBuiltins x
 nolimit:base.NoLimit
structure Cx where
 prog:Program
 w:World
 K:PySem.W.Frag
 mg:dL
 base:Heap
 A:Around
 N:ut
 La:Shared
 gb:Hp
 env:Env
 outer:xz
 stack:xz
 ex:bv
 fn:Str->Bool
 calm:Bool
 pn:ce
 xe:be
def Xg(l:xz):bv:=l.filterMap (·.frame)
abbrev Cx.fs(X:Cx):bv:=Xg X.outer
def Ik(a:Scope)(x:Str):Prop:=a.names.lookup x=some .local\/a.names.lookup x=some .cell\/a.names.lookup x=some .free
def Loc(a:Scope)(x:Str):Prop:=a.names.lookup x=some .local\/a.names.lookup x=some .cell
def Look(env:Env)(h:Heap)(m:dL)(x:Str)(u:Value):Prop:=
 (env.kindOf x=some .local/\m x=some u)\/((env.kindOf x=some .cell\/env.kindOf x=some .free)/\∃c,env.cells.lookup x=some c/\h.IsCell c (some u))
structure Cx.Ok(X:Cx):Prop where
 mod:Mod X.K X.mg X.base
 kind:X.env.scope.kind=.function
 glob:X.env.globals=mainGlobals
 blt:X.env.builtins=builtinsNs
 above:X.La.heap.objs.size<=X.env.locals
 inj:∀x y c,X.env.cells.lookup x=some c->X.env.cells.lookup y=some c->x=y
 has:∀x,(X.env.kindOf x=some .cell\/X.env.kindOf x=some .free)->∃c,X.env.cells.lookup x=some c
 Au:∀x c,X.fn x=true->X.env.cells.lookup x=some c->X.La.heap.objs.size<=c
 hd:X.calm=true->X.A.handled=none
 frames:X.A.frames=some X.stack
 Xx:X.stack=X.outer\/(X.stack=X.env::X.outer/\X.env.frame=some X.env.locals)
 xx:∀b∈X.ex,b≠X.env.locals/\∀x c,X.env.cells.lookup x=some c->c≠b
 bs:∀b o,X.base.get? b=some o->X.La.heap.get? b=some o/\X.gb b=none
 Cn:X.base.objs.size<=X.La.heap.objs.size
 jl:∀b o,X.base.get? b=some o->b∉X.ex
 Uk:∀b∈X.ex,b∉X.fs
 Ig:X.La.heap.FunFrames X.base X.outer
 Rp:∀b∈X.fs,X.gb b=none
structure Ea(X:Cx)(aa:ce)(σ:List (Option V))(H:Hp)(s:Shared):Prop where
 ok:X.Ok
 os:s.os=X.La.os
 bare:AllBare s.gens
 base:Un X.fs X.ex X.gb H X.La.heap s.heap
 loc:∃m,s.heap.Ns X.env.locals m/\∀(i:Nat)(x:Str)(v:V),X.N[i]?=some x->σ[i]?=some (some v)->Ik X.env.scope x->∃u,RelV v u/\Look X.env s.heap m x u
 cell:∀x c,X.env.cells.lookup x=some c->∃v,s.heap.IsCell c v
 free:H X.env.locals=none
 kf:∀x c,X.env.cells.lookup x=some c->H c=none
 pin:∀p∈X.pn++aa,s.heap.get? p.1=some p.2/\H p.1=none/\p.1≠X.env.locals/\p.1∉X.fs/\∀v,p.2.data≠.cell v
 Xa:Bf X.prog X.w H s.heap
 len:σ.length=X.N.length
section
variable{X:Cx}{aa:ce}{σ:List (Option V)}{H H':Hp}{s:Shared}{h':Heap}
def Cx.Ok.SS(ok:X.Ok){b:Addr}{o:Obj}(e:X.base.get? b=some o):b∉X.fs:=λa=>by
 have:=(ok.Ig.mem a).1;rw[e]at this;cases this
theorem Ea.bs(I:Ea X aa σ H s):∀b o,X.base.get? b=some o->s.heap.get? b=some o/\H b=none:=λb o e=>
 ⟨I.base.keep b o (I.ok.bs b o e).1 (I.ok.bs b o e).2 (I.ok.SS e)<|I.ok.jl b o e,I.base.free b o (I.ok.bs b o e).1 (I.ok.bs b o e).2<|I.ok.jl b o e⟩
def Ea.bk(I:Ea X aa σ H s):∀b o,X.base.get? b=some o->s.heap.get? b=some o:=λb o e=>(I.bs b o e).1
theorem Ea.mod(I:Ea X aa σ H s):Mod X.K X.mg X.base:=I.ok.mod
def Ea.Hf(I:Ea X aa σ H s):X.K.In s.heap:=I.ok.mod.Tj.keeps I.bk
theorem Ea.lt(I:Ea X aa σ H s):X.env.locals<s.heap.objs.size:=let ⟨_,a,_⟩:=I.loc;a.lt
def Ea.sz(I:Ea X aa σ H s):X.La.heap.objs.size<=s.heap.objs.size:=Nh I.ok.above<|Vr I.lt
def Ea.US(I:Ea X aa σ H s){a:Addr}(h:s.heap.objs.size<=a):a∉X.fs:=λc=>by
 obtain⟨_,o,b,_⟩:=I.ok.Ig.mem c;exact absurd (ph (Tc b)<|Nh I.sz h)<|Oi _
def Ea.Cu(I:Ea X aa σ H s):∀x c,X.env.cells.lookup x=some c->c≠X.env.locals:=λx c e z=>by
 obtain⟨v,o,a,b⟩:=I.cell x c e;obtain⟨m,⟨g,h,i,f,d,_⟩,_⟩:=I.loc;rw[z,f]at a;cases a;rw[d]at b;cases b
theorem Ea.Ig(I:Ea X aa σ H s):s.heap.FunFrames X.base X.outer:=by
 have all:∀(l:xz),(∀b∈Xg l,b∈X.fs)->X.La.heap.FunFrames X.base l->s.heap.FunFrames X.base l:=by
  intro l
  induction l with
  |nil=>intro _ _;trivial
  |cons p r g=>
   intro f k;obtain⟨m,⟨L,o,a,j,i,n⟩,h⟩:=k;have d:=f L (by unfold Xg;rw[EH,a];exact Zb)
   obtain⟨q,e⟩:=I.base.slot L o i (I.ok.Rp L d) d λz=>I.ok.Uk L z d
   exact⟨m,⟨L,_,a,j,e,n⟩,g (λb c=>f b<|by unfold Xg;rw[EH,a];exact Lc _ c) h⟩
 exact all X.outer (λ_ c=>c) I.ok.Ig
theorem Ea.stack(I:Ea X aa σ H s):s.heap.FunFrames X.base X.stack:=by
 rcases I.ok.Xx with e|⟨e,b⟩
 .rw[e];exact I.Ig
 rw[e];obtain⟨m,a,_⟩:=I.loc;exact .cons (by rw[I.ok.kind];decide) b a (Heap.get?_none_of_le<|Nh I.ok.Cn I.ok.above) I.Ig
def Ea.Al(I:Ea X aa σ H s):∀b∈Xg X.stack,b∈X.env.locals::X.fs:=λb a=>by
 rcases I.ok.Xx with e|⟨e,c⟩
 .rw[e]at a;exact Lc _ a
 rw[e]at a;unfold Xg at a
 rwa [EH,c]at a
def Ea.ai(I:Ea X aa σ H s):∀b∈Xg X.stack,H b=none:=λb a=>by
 rcases qc.mp (I.Al b a) with e|a
 .rw[e];exact I.free
 obtain⟨_,o,c,_⟩:=I.ok.Ig.mem a;exact I.base.free b o c (I.ok.Rp b a) λz=>I.ok.Uk b z a
def Ea.step{t':Nat}{d':Drawn}{ch:bv}(I:Ea X aa σ H s)
  (w:∀b∈ch,(b∈X.ex\/X.La.heap.objs.size<=b)/\b≠X.env.locals/\(∀x c,X.env.cells.lookup x=some c->c≠b)/\∀p∈X.pn++aa,p.1≠b)
  (keep:∀b o,b≠X.env.locals->b∉X.fs->b∉ch->s.heap.get? b=some o->H b=none->h'.get? b=some o)
  (g:∀b o,b≠X.env.locals->b∈X.fs->b∉ch->s.heap.get? b=some o->H b=none->∃C,h'.get? b=some {o with slots:=C}) (free:∀b o,b∉ch->s.heap.get? b=some o->H b=none->H' b=none)
  (there:∀b o,b∉ch->s.heap.get? b=some o->∃o',h'.get? b=some o')
  (S:∀b xs,H b=some (.tup xs)->H' b=some (.tup xs)) (R:∀b o u,H b=some (.Vk o u)->H' b=some (.Vk o u)) (T:∀b ps,H b=some (.dq ps)->∃t,H' b=some (.dq<|ps++t))
  (K:∀m,s.heap.Ns X.env.locals m->h'.Ns X.env.locals m) (Q:Bf X.prog X.w H' h') (P:AllBare g') :
  Ea X aa σ H' {s with heap:=h',gens:=g',drawn:=d',toks:=t'}:=by
 have J:∀b o,X.La.heap.get? b=some o->b≠X.env.locals:=λb o e=>ff<|ph (Tc e) I.ok.above
 have A:∀b o,X.La.heap.get? b=some o->b∉X.ex->b∉ch:=λb o e a h=>by
  rcases (w b h).1 with z|z
  .exact a z
  exact absurd (ph (Tc e) z)<|Oi _
 have f:∀x c,X.env.cells.lookup x=some c->∀v,s.heap.IsCell c v->h'.IsCell c v:=λx c e v ⟨o,j,D⟩=>by
  have y:=λz=>(w c z).2.2.1 x c e rfl
  by_cases G:c∈X.fs
  .obtain⟨C,q⟩:=g c o (I.Cu x c e) G y j<|I.kf x c e;exact⟨_,q,D⟩
  exact⟨o,keep c o (I.Cu x c e) G y j<|I.kf x c e,D⟩
 refine⟨I.ok,I.os,P,⟨λb o e n h a=>?_,λb o e n h a=>?_,λb o e n a=>?_,λb o e a=>?_,λb xs e=>S b xs<|I.base.Fi b xs e,λb o xs e=>R b o xs<|I.base.Rh b o xs e,λb ps e=>?_⟩,?_,λx c e=>?_,?_,λx c e=>?_,λp hp=>?_,Q,I.len⟩
 .exact keep b o (J b o e) h (A b o e a) (I.base.keep b o e n h a) (I.base.free b o e n a)
 .obtain⟨C,e1⟩:=I.base.slot b o e n h a;obtain⟨B,e2⟩:=g b _ (J b o e) h (A b o e a) e1<|I.base.free b o e n a;exact⟨B,e2⟩
 .obtain⟨o',e1⟩:=I.base.there b o e a;exact free b o' (A b o e a) e1<|I.base.free b o e n a
 .obtain⟨o',e1⟩:=I.base.there b o e a;exact there b o' (A b o e a) e1
 .obtain⟨M,e1⟩:=I.base.Ei b ps e;obtain⟨L,e2⟩:=T b _ e1;exact⟨M++L,by rw[e2,Array.append_assoc]⟩
 .obtain⟨m,N,O⟩:=I.loc;refine⟨m,K m N,λi x v e1 e2 e3=>?_⟩
  obtain⟨u,r,l⟩:=O i x v e1 e2 e3;refine⟨u,r,?_⟩;rcases l with l|⟨k,c,e,z⟩
  .exact .inl l
  exact .inr ⟨k,c,e,f x c e _ z⟩
 .obtain⟨v,z⟩:=I.cell x c e;exact⟨v,f x c e v z⟩
 .obtain⟨m,⟨o,_,_,j,_⟩,_⟩:=I.loc;exact free _ o (λz=>(w _ z).2.1 rfl) j I.free
 .obtain⟨v,o,j,D⟩:=I.cell x c e;exact free c o (λz=>(w c z).2.2.1 x c e rfl) j<|I.kf x c e
 obtain⟨e,n,F,E,d⟩:=I.pin p hp;have y:=λz=>(w p.1 z).2.2.2 p hp rfl
 exact⟨keep p.1 p.2 F E y e n,free p.1 p.2 y e n,F,E,d⟩
def Ea.un{t':Nat}(I:Ea X aa σ H s)(u:Un X.fs [] H H' s.heap h')(j:Bf X.prog X.w H' h'):Ea X aa σ H' {s with heap:=h',toks:=t'}:=by
 obtain⟨m,⟨o,t,v,c,r⟩,_⟩:=id I.loc;obtain⟨l,i⟩:=u.any c I.free (by simp)
 exact I.step (ch:=[]) (λ_ z=>nomatch z) (λb o _ a _ e n=>u.keep b o e n a<|by simp) (λb o _ a _ e n=>u.slot b o e n a<|by simp) (λb o _ e n=>u.free b o e n<|by simp) (λb o _ e=>u.there b o e<|by simp) u.Fi u.Rh u.Ei (λq h=>by
  obtain⟨p,g,k,d,f⟩:=h;rw[c]at d;cases d;exact⟨_,g,k,i,f⟩) j I.bare
def Ea.call{t':Nat}{d':Drawn}(I:Ea X aa σ H s)(u:Un (Xg X.stack) ch H H' s.heap h')(t:Bf X.prog X.w H' h')(l:AllBare g')
  (g:∀b∈ch,(b∈X.ex\/X.La.heap.objs.size<=b)/\b≠X.env.locals/\(∀x c,X.env.cells.lookup x=some c->c≠b)/\∀p∈X.pn++aa,p.1≠b) :
  Ea X aa σ H' {s with heap:=h',gens:=g',drawn:=d',toks:=t'}:=by
 obtain⟨m,⟨o,B,C,f,r⟩,_⟩:=id I.loc;obtain⟨w,d⟩:=u.any f I.free λz=>(g _ z).2.1 rfl
 exact I.step g (λb o d q a e n=>u.keep b o e n (λz=>(qc.mp<|I.Al b z).elim d q) a) (λb o _ _ a e n=>u.any e n a) (λb o a e n=>u.free b o e n a) (λb o a e=>u.there b o e a) u.Fi u.Rh u.Ei (λA k=>by
  obtain⟨y,j,v,h,i⟩:=k;rw[f]at h;cases h;exact⟨_,j,v,d,i⟩) t l
def Ea.turned{t':Nat}{it:Addr}(I:Ea X aa σ H s)(k:∀b o,b≠it->s.heap.get? b=some o->h'.get? b=some o)(g:H it=none)(a:it≠X.env.locals)
  (j:it∈X.ex\/X.La.heap.objs.size<=it) (i:∀x c,X.env.cells.lookup x=some c->c≠it) (h:∀p∈X.pn++aa,p.1≠it):Ea X aa σ H {s with heap:=h',toks:=t'}:=by
 have d:∀b u,H b=some u->b≠it:=λb u e z=>by rw[z,g]at e;cases e
 refine I.step (ch:=[it]) (λb hb=>?_) (λb o _ _ hc e _=>k b o (λz=>hc<|by simp[z]) e) (λb o _ _ hc e _=>⟨o.slots,k b o (λz=>hc<|by simp[z]) e⟩) (λ_ _ _ _ n=>n)
  (λb o hc e=>⟨o,k b o (λz=>hc<|by simp[z]) e⟩) (λ_ _ e=>e) (λ_ _ _ e=>e) (λb w e=>⟨#[],by rw[e];simp⟩) (λm hm=>?_) (λb u e=>?_) I.bare
 .have e:=by simpa using hb
  subst e;exact⟨j,a,i,h⟩
 .obtain⟨o,l,t,f,r⟩:=hm;exact⟨o,l,t,k _ o (uh a) f,r⟩
 refine(I.Xa b u e).Dh (λc v hc q=>k c v ?_ q) (λ_ q=>q) λ_ _ q=>q
 rcases hc with z|z
 .rw[z];exact d b u e
 exact d c _ z
def Ea.tok(I:Ea X aa σ H s)(t:Nat):Ea X aa σ H {s with toks:=t}:=I.un Un.refl I.Xa
theorem Ea.kept{t':Nat}(I:Ea X aa σ H s)(k:∀b u,s.heap.get? b=some u->h'.get? b=some u):Ea X aa σ H {s with heap:=h',toks:=t'}:=I.un (Un.kept k)<|I.Xa.kept k
theorem Ea.laid{a:Addr}{t':Nat}(I:Ea X aa σ H s)(k:∀b u,s.heap.get? b=some u->h'.get? b=some u)(d:s.heap.objs.size<=a)(c:lX X.prog X.w (Tb H a o) h' a o) :
  Ea X aa σ (Tb H a o) {s with heap:=h',toks:=t'}:=I.un (Un.laid k d<|I.Xa.fresh d)<|I.Xa.laid k d c
theorem Ea.write{e:Addr}{t':Nat}(I:Ea X aa σ H s)(c:Gk (H x))(he:e=x\/H e=some (.own x))(k:∀b u,b≠e->s.heap.get? b=some u->h'.get? b=some u)(d:∃u,h'.get? e=some u)
  (a:lX X.prog X.w (Tb H x o) h' x o):Ea X aa σ (Tb H x o) {s with heap:=h',toks:=t'}:=I.un (Un.write c he k d)<|I.Xa.write c he k d a
def Ea.Zh{a:ce}(I:Ea X aa σ H s)(h:∀p∈a,s.heap.get? p.1=some p.2/\H p.1=none/\p.1≠X.env.locals/\p.1∉X.fs/\∀v,p.2.data≠.cell v):Ea X a σ H s:=
 ⟨I.ok,I.os,I.bare,I.base,I.loc,I.cell,I.free,I.kf,λp b=>(Wh.mp b).elim (λz=>I.pin p<|Kl _ z)<|h p,I.Xa,I.len⟩
def WY{N:ut}(c:N.Nodup){i j:Nat}{x:Str}(a:N[i]?=some x)(b:N[j]?=some x):i=j:=by
 obtain⟨e,e1⟩:=xg.mp a;obtain⟨d,e2⟩:=xg.mp b;exact(List.getElem_inj c).mp (e1.trans e2.symm)
def HX{E:be}{i:Nat}{Q:u8}(I:Ea X aa σ H s)(Y:X.N.Nodup)(B:X.N[i]?=some x)(l:Loc X.env.scope x)(r:RelV v u)
  (h:∀K,Ea X aa (σ.set i<|some v) H K->(∃a,Heap.SameBut a s.heap K.heap/\(a=X.env.locals\/X.env.cells.lookup x=some a))->Q () K) (hf:X.fn x=true\/X.env.scope.names.lookup x=some .local:=by first|exact .inl rfl|exact .inr rfl|assumption):wpAny M A (storeName X.env x u) Q E s:=by
 obtain⟨m,R,W⟩:=id I.loc;have WA:i<σ.length:=by rw[I.len];exact(xg.mp B).1
 have Cu:=I.Cu;have g:∀{a:Addr}{h':Heap},(∃o,s.heap.get? a=some o/\H a=none)->Heap.SameBut a s.heap h'->Bf X.prog X.w H h':=λ{a h'} ha f b ob e=>by
  obtain⟨_,_,Qj⟩:=ha;refine(I.Xa b ob e).Dh (λc C hc q=>(f.2 c ?_).trans q) (λ_ q=>q) λ_ _ q=>q
  rintro rfl;rcases hc with rfl|hc
  .rw[Qj]at e;cases e
  rw[Qj]at hc;cases hc
 rcases l with t|t
 .refine wpAny_storeName_local t R (λh' gS f=>?_) (by rw[I.ok.kind];rfl)
  obtain⟨oL,_,_,P,_⟩:=id R;refine h _ ⟨I.ok,I.os,I.bare,⟨λb o e n hb l=>?_,λb o e n hb l=>?_,I.base.free,λb o e l=>?_,I.base.Fi,I.base.Rh,I.base.Ei⟩,⟨_,gS,λj y v' e1 e2 e3=>?_⟩,λy c e=>?_,I.free,I.kf,λp hp=>?_,g ⟨oL,P,I.free⟩ f,by simpa using I.len⟩ ⟨_,f,.inl rfl⟩
  .exact(f.2 b<|ff<|ph (Tc e) I.ok.above).trans (I.base.keep b o e n hb l)
  .obtain⟨J,e1⟩:=I.base.slot b o e n hb l;exact⟨J,(f.2 b<|ff<|ph (Tc e) I.ok.above).trans e1⟩
  .obtain⟨N,e1⟩:=I.base.there b o e l;exact⟨N,(f.2 b<|ff<|ph (Tc e) I.ok.above).trans e1⟩
  .by_cases w:j=i
   .subst w;rw[B]at e1;cases e1;rw[Q8 WA]at e2;cases e2;exact⟨u,r,.inl ⟨t,by simp⟩⟩
   rw[f9<|uh w]at e2;obtain⟨G,L,q⟩:=W j y v' e1 e2 e3;refine⟨G,L,?_⟩;rcases q with ⟨k,e⟩|⟨k,c,e,z⟩
   .refine .inl ⟨k,?_⟩;have:y≠x:=λe=>w (WY Y e1<|e ▸ B)
    simp[this,e]
   exact .inr ⟨k,c,e,z.sameBut f<|Cu y c e⟩
  .obtain⟨C,z⟩:=I.cell y c e;exact⟨C,z.sameBut f<|Cu y c e⟩
  obtain⟨e,n,D,O,d⟩:=I.pin p hp;exact⟨(f.2 p.1 D).trans e,n,D,O,d⟩
 have S:X.fn x=true:=by
  rcases hf with z|z
  .exact z
  rw[z]at t;cases t
 obtain⟨c,hc⟩:=I.ok.has x<|.inl t;obtain⟨C,z⟩:=I.cell x c hc;refine wpAny_storeName_cell I.ok.kind t hc z<|λh' U f=>?_
 obtain⟨oc,Z,V⟩:=id z;refine h {s with heap:=h'} ⟨I.ok,I.os,I.bare,⟨λb o e n hb l=>?_,λb o e n hb l=>?_,I.base.free,λb o e l=>?_,I.base.Fi,I.base.Rh,I.base.Ei⟩,⟨m,R.sameBut f<|uh<|Cu x c hc,λj y v' e1 e2 e3=>?_⟩,λy F e=>?_,I.free,I.kf,λp hp=>?_,g ⟨oc,Z,I.kf x c hc⟩ f,by simpa using I.len⟩ ⟨c,f,.inr hc⟩
 .exact(f.2 b<|ff<|ph (Tc e)<|I.ok.Au x c S hc).trans (I.base.keep b o e n hb l)
 .obtain⟨J,e1⟩:=I.base.slot b o e n hb l;exact⟨J,(f.2 b<|ff<|ph (Tc e)<|I.ok.Au x c S hc).trans e1⟩
 .obtain⟨N,e1⟩:=I.base.there b o e l;exact⟨N,(f.2 b<|ff<|ph (Tc e)<|I.ok.Au x c S hc).trans e1⟩
 .by_cases w:j=i
  .subst w;rw[B]at e1;cases e1;rw[Q8 WA]at e2;cases e2;exact⟨u,r,.inr ⟨.inl t,c,hc,U⟩⟩
  rw[f9<|uh w]at e2;obtain⟨G,L,q⟩:=W j y v' e1 e2 e3;refine⟨G,L,?_⟩;rcases q with q|⟨k,F,e,z'⟩
  .exact .inl q
  refine .inr ⟨k,F,e,z'.sameBut f ?_⟩;rintro rfl;exact w<|WY Y e1<|I.ok.inj _ _ _ e hc ▸ B
 .by_cases T:F=c
  .subst T;exact⟨_,U⟩
  obtain⟨w2,z2⟩:=I.cell y F e;exact⟨w2,z2.sameBut f T⟩
 obtain⟨e,n,D,O,d⟩:=I.pin p hp;refine⟨(f.2 p.1 ?_).trans e,n,D,O,d⟩;intro q;rw[q,Z]at e;exact d C (by rwa [<-(qo e)])
def vg{E:be}{i:Nat}{Q:u8}(I:Ea X aa σ H s)(e:X.N.Nodup)(c:X.N[i]?=some x)(b:Loc X.env.scope x)(r:RelV v u)
  (h:∀a,Ea X aa (σ.set i<|some v) H a->Q () a) (d:X.fn x=true\/X.env.scope.names.lookup x=some .local:=by first|exact .inl rfl|exact .inr rfl|assumption):wpAny M A (storeName X.env x u) Q E s:=
 HX I e c b r (λa f _=>h a f) d
def Ea.vo{a:Shared}(I:Ea X aa σ H s)(d:a.os=s.os)(u:Un (Xg X.stack) ch H H' s.heap a.heap)(f:Bf X.prog X.w H' a.heap)(e:AllBare a.gens)
  (g:∀b∈ch,(b∈X.ex\/X.La.heap.objs.size<=b)/\b≠X.env.locals/\(∀x c,X.env.cells.lookup x=some c->c≠b)/\∀p∈X.pn++aa,p.1≠b):Ea X aa σ H' a:=by
 obtain⟨h',j,k,h,i⟩:=a;subst d;exact I.call u f e g
end
abbrev XK:=Value->Option Addr->Hp->Prop
abbrev St:=List<|Option V
abbrev VK:=V->wv
abbrev _root_.sw:=V->Option Int->Option Int->Hp->VK->Prop
abbrev _root_.wf:=V->List V->Hp->VK->Prop
abbrev _root_.Go:=List V->Hp->VK->Prop
abbrev _root_.GE:=V->Hp->VK->Prop
abbrev TE:=St->Hp->VK->Prop
abbrev TT:=St->Hp->(Bool->Hp->Prop)->Prop
abbrev TA:=St->Hp->(List V->Hp->Prop)->Prop
structure Ends where
 nx:St->wv
 rt:VK
 bk:St->wv:=λ_ _=>False
 ct:St->wv:=λ_ _=>False
abbrev TS:=Ends->St->wv
def EP(X:Cx)(aa:ce)(b:St)(Q:VK)(u:Value)(c:Shared):Prop:=∃v a,Ea X aa b a c/\RelV v u/\Q v a
def TP(X:Cx)(aa:ce)(c:St)(Q:On)(b:Bool)(d:Shared):Prop:=∃a,Ea X aa c a d/\Q b a
def AP(X:Cx)(aa:ce)(c:St)(Q:KB)(d:ca)(e:Shared):Prop:=∃a b,Ea X aa c b e/\Ka a d/\Q a b
def SP(X:Cx)(aa:ce)(D:Ends)(f:Flow)(c:Shared):Prop:=
 match f with
 |.next=>∃b a,Ea X aa b a c/\D.nx b a
 |.brk=>∃b a,Ea X aa b a c/\D.bk b a
 |.cont=>∃b a,Ea X aa b a c/\D.ct b a
 |.ret u=>∃v b a,Ea X aa b a c/\RelV v u/\D.rt v a
def PE(X:Cx)(e:Expr)(t:TE):Prop:=
 ∀(b:ce) (s:Shared) (a:St) (H:Hp) (Q:VK),Ea X b a H s->t a H Q->wpAny (model X.prog X.w) X.A (eval e X.env) (EP X b a Q) X.xe s
def PT(X:Cx)(e:Expr)(t:TT):Prop:=
 ∀(b:ce) (s:Shared) (a:St) (H:Hp) (Q:On),Ea X b a H s->t a H Q->wpAny (model X.prog X.w) X.A (isTrue e X.env<|eval e X.env) (TP X b a Q) X.xe s
def PW(X:Cx)(e:Expr)(t:TT):Prop:=
 ∀(whole:Sem Value) (b:ce) (s:Shared) (a:St) (H:Hp) (Q:On),Ea X b a H s->t a H Q->wpAny (model X.prog X.w) X.A (isTrue e X.env whole) (TP X b a Q) X.xe s
def PW.pt{X:Cx}{t:TT}(h:PW X e t):PT X e t:=h _
def PA(X:Cx)(d:List Expr)(t:TA):Prop:=
 ∀(b:Pos) (c:ce) (s:Shared) (a:St) (H:Hp) (Q:KB),Ea X c a H s->t a H Q->wpAny (model X.prog X.w) X.A (spliced<|backTo b<|starEach d X.env) (AP X c a Q) X.xe s
def PS(X:Cx)(st:Stmt)(t:TS):Prop:=
 ∀(b:ce) (s:Shared) (a:St) (H:Hp) (D:Ends),Ea X b a H s->t D a H->wpAny (model X.prog X.w) X.A (exec st X.env) (SP X b D) X.xe s
def Ae(X:Cx)(st:List Stmt)(t:TS):Prop:=
 ∀(b:ce) (s:Shared) (a:St) (H:Hp) (D:Ends),Ea X b a H s->t D a H->wpAny (model X.prog X.w) X.A (execs st X.env) (SP X b D) X.xe s
def Cc{b:Type}{t:Sem b}{Q c:b->pp}{E:be}(h:wpAny M A t Q E s)(d:∀a s,Q a s->c a s):wpAny M A t c E s:=dk h d λ_ _ x=>x
section
variable{X:Cx}
def Q7(i:Nat):TE:=λa H Q=>∃v,a[i]?=some (some v)/\Q v H
def tC(v:V):TE:=λ_ H Q=>Q v H
def vQ{i:Nat}(q:X.N[i]?=some x)(k:Ik X.env.scope x)(d:(x==("__debug__":Str))=false:=by decide)(w:(x==("__classdict__":Str))=false:=by decide):PE X (.Name x pos) (Q7 i):=by
 intro t s j H Q I h;obtain⟨v,e,h⟩:=h;obtain⟨m,n,p⟩:=I.loc;obtain⟨u,r,l⟩:=p i x v q e k;have b:EP X t j Q u s:=⟨v,H,I,r,h⟩;rcases l with ⟨a,o⟩|⟨a,c,f,g⟩
 .exact wpAny_Name (wpAny_loadName_local I.ok.kind a n o b) d
 rcases a with a|a
 .exact wpAny_Name (wpAny_loadName_cell I.ok.kind a f g b) d
 exact wpAny_Name (wpAny_loadName_free I.ok.kind a f g b w) d
def bIh{i j pos}:PE X (.Constant (.int i) j pos) (tC<|.int i):=λ_ _ _ H _ I h=>wpAny_Constant_int ⟨.int i,H,I.tok _,⟨_,rfl⟩,h⟩
def bLr{b j pos}:PE X (.Constant (.bool b) j pos) (tC<|.bl b):=λ_ _ _ H _ I h=>Constant_bool ⟨.bl b,H,I,rfl,h⟩
def o5{j pos}:PE X (.Constant .none j pos) (tC .xc):=λ_ _ _ H _ I h=>Constant_none ⟨.xc,H,I,rfl,h⟩
def bIi{x j pos}:PE X (.Constant (.str x) j pos) (tC<|.str x):=λ_ _ _ H _ I h=>Calls.Constant_str ⟨.str x,H,I.tok _,⟨_,rfl⟩,h⟩
def Gl(X:Cx)(x:Str):Prop:=X.env.kindOf x=some .globalImplicit
abbrev dg(x:Str):Prop:=(x==("__debug__":Str))=false
abbrev Vo(x:Str):Prop:=(x==("__classdict__":Str))=false
theorem Wo{a:Scope}(h:(match a.names.lookup x with|some .local|some .cell|some .free=>true|_=>false)=true):Ik a x:=by
 unfold Ik;split at h<;>simp_all
theorem bq{a:Scope}(h:(match a.names.lookup x with|some .local|some .cell=>true|_=>false)=true):Loc a x:=by
 unfold Loc;split at h<;>simp_all
abbrev Pm(X:Cx)(x:Str):Prop:=X.fn x=true\/X.env.scope.names.lookup x=some .local
abbrev Oe(e:Expr)(a:List Expr)(E:Env):Prop:=starEach (e::a) E=(false,eval e E)::starEach a E
abbrev lh(p:Pos)(a:List Expr)(E:Env):Prop:=(backTo p<|starEach a E).any (·.1)=false
abbrev aq(p:Pos)(a:List Expr)(E:Env):Prop:=((backTo p<|starEach a E).all (λx=>!x.1)&&(backToKw p<|keywordEach [] E).all (λx=>x.1.isSome)
 && decide (a.length+([]:List Keyword).length+(if ([]:List Keyword).isEmpty then 0 else 1)<30))=true
abbrev Ak(o:Expr)(m:Str)(E:Env):Prop:=attributeBase o m E (eval o E)=eval o E
abbrev Pn(a c:Pos):Prop:=(a.endLine==c.line)=true
abbrev Bk(e:Expr)(t:Option Expr)(l:Nat)(E:Env):Prop:=swapsWith e t l E=pure false
def xQ{E:be}{Q:be}(I:Ea X aa σ H s)(b:Gl X x)(a:X.mg x=some u)(h:Q u s)
  (c:dg x:=by decide):wpAny (model X.prog X.w) X.A (eval (.Name x pos) X.env) Q E s:=
 A8 I.ok.kind b (Calls.loadGlobal_global (by rw[I.ok.glob];exact I.mod.glob.keeps I.bk) a h) c
def vR{E:be}{Q:be}(I:Ea X aa σ H s)(d:Gl X x)(c:X.mg x=none)(a:bootBuiltins x=some u)(h:Q u s)
  (b:x≠"__name__":=by decide) (e:dg x:=by decide):wpAny (model X.prog X.w) X.A (eval (.Name x pos) X.env) Q E s:=by
 obtain⟨i,g,f⟩:=I.mod.blt;exact A8 I.ok.kind d (Calls.loadGlobal_builtin (by rw[I.ok.glob];exact I.mod.glob.keeps I.bk) c (by rw[I.ok.blt];exact g.keeps I.bk) ((f x b).trans a) h) e
def dE(b:Gl X x)(a:X.mg x=some u)(r:RelV v u)(c:dg x:=by decide):PE X (.Name x pos) (tC v):=
 λ_ _ _ H _ I h=>xQ I b a ⟨v,H,I,r,h⟩ c
def bDq(d:Gl X x)(c:X.mg x=none)(a:bootBuiltins x=some u)(r:RelV v u)(b:x≠"__name__":=by decide)(e:dg x:=by decide):PE X (.Name x pos) (tC v):=
 λ_ _ _ H _ I h=>vR I d c a ⟨v,H,I,r,h⟩ b e
variable{a b:Expr}{ta tb:TE}{pos:Pos}
def tB(t:TE):TT:=λa H Q=>t a H λx b=>∃c,x=.bl c/\Q c b
def bIj{t:TE}(h:PE X e t)(he:∀whole,isTrue e X.env whole=(do let v <- whole;standAt e.pos;holding [v] (truthy v)):=by intro _;rfl):PT X e (tB t):=by
 intro c s a H Q I b;refine isTrue_plain (Cc (h c s a H _ I b) λv f ⟨x,H1,I1,r1,q1⟩=>?_)<|he _
 obtain⟨d,rfl,q⟩:=q1;cases r1;exact ou ⟨H1,I1,q⟩
variable{tA UI:TT}{rest:List Expr}
def bOu(t u:TT):TT:=λa H Q=>t a H λc b=>if c=true then u a b Q else Q false b
def tOr(t u:TT):TT:=λa H Q=>t a H λc b=>if c=true then Q true b else u a b Q
def bOv(t:TT):TT:=λa H Q=>t a H λc b=>Q (!c) b
def bDr(d:PT X a tA):PW X (.BoolOp .And [a] pos) tA:=by
 intro g f s b H Q I h;refine isTrue_and<|Cc (d f s b H Q I h) λc i e=>?_
 cases c with
 |true=>exact isTrue_and_nil e
 |false=>exact e
def bIk(d:PT X a tA):PW X (.BoolOp .Or [a] pos) tA:=by
 intro g f s b H Q I h;refine isTrue_or<|Cc (d f s b H Q I h) λc i e=>?_
 cases c with
 |false=>exact isTrue_or_nil e
 |true=>exact e
def bIl(m:PT X a tA)(l:PW X (.BoolOp .And (b::rest) pos) UI):PW X (.BoolOp .And (a::b::rest) pos) (bOu tA UI):=by
 intro j f s d H Q I h;refine isTrue_and<|Cc (m f s d H _ I h) λc k ⟨i,g,e⟩=>?_
 cases c with
 |true=>exact l j f k d i Q g e
 |false=>exact⟨i,g,e⟩
def bLs(m:PT X a tA)(l:PW X (.BoolOp .Or (b::rest) pos) UI):PW X (.BoolOp .Or (a::b::rest) pos) (tOr tA UI):=by
 intro j f s d H Q I h;refine isTrue_or<|Cc (m f s d H _ I h) λc k ⟨i,g,e⟩=>?_
 cases c with
 |true=>exact⟨i,g,e⟩
 |false=>exact l j f k d i Q g e
def bIm(c:PT X a tA):PT X (.UnaryOp .Not a pos) (bOv tA):=by
 intro d s b H Q I h;exact isTrue_not<|c d s b H _ I h
def bLt(d tb:TE):TE:=λa H Q=>d a H λx b=>∃c,x=.bl c/\if c=true then tb a b Q else Q (.bl false) b
def bOw(d tb:TE):TE:=λa H Q=>d a H λx b=>∃c,x=.bl c/\if c=true then Q (.bl true) b else tb a b Q
def bLu(b:TE):TE:=λa H Q=>b a H λx d=>∃c,x=.bl c/\Q (.bl<|!c) d
def p5{op}{t:TE}(h:PE X a t):PE X (.BoolOp op [a] pos) t:=λd s b H Q I c=>BoolOp_one<|h d s b H Q I c
def bIn(m:PE X a ta)(l:PE X (.BoolOp .And (b::rest) pos) tb):PE X (.BoolOp .And (a::b::rest) pos) (bLt ta tb):=by
 intro f s e H Q I h;refine BoolOp_and<|Cc (m f s e H _ I h) λv j ⟨x,i,g,k,d⟩=>?_
 obtain⟨c,rfl,d⟩:=d;cases k;refine ou ?_
 cases c with
 |true=>exact l f j e i Q g d
 |false=>exact⟨.bl false,i,g,rfl,d⟩
def bLv(m:PE X a ta)(l:PE X (.BoolOp .Or (b::rest) pos) tb):PE X (.BoolOp .Or (a::b::rest) pos) (bOw ta tb):=by
 intro f s e H Q I h;refine BoolOp_or<|Cc (m f s e H _ I h) λv j ⟨x,i,g,k,d⟩=>?_
 obtain⟨c,rfl,d⟩:=d;cases k;refine ou ?_
 cases c with
 |false=>exact l f j e i Q g d
 |true=>exact⟨.bl true,i,g,rfl,d⟩
def bIo(f:PE X a ta):PE X (.UnaryOp .Not a pos) (bLu ta):=by
 intro g s d H Q I h;refine UnaryOp_<|Cc (f g s d H _ I h) λv k ⟨x,j,i,e,b⟩=>?_
 obtain⟨c,rfl,b⟩:=b;cases e;exact not_of<|ou ⟨.bl<|!c,j,i,rfl,b⟩
end
def ue(K:PySem.W.Frag)(H:Hp)(a:Addr)(xs:lw):Prop:=
 Rd H a (.lst xs)\/
  ∃(o:Obj)(b:wE)(n:Nat),K.lookup a=some o/\o.cls=.type "list"/\o.dict=none/\o.data=.seq b n/\b.size<=sizeLine/\Ka xs b.toList
def eh(K:PySem.W.Frag)(H:Hp)(a:Addr)(xs:lw):Prop:=
 Rd H a (.tup xs)\/
  ∃(o:Obj)(b:wE)(n:Nat),K.lookup a=some o/\o.cls=.type "tuple"/\o.data=.seq b n/\b.size<=sizeLine/\Ka xs b.toList
def bOx:Value->Option V
 |.none=>some .xc
 |.bool b=>some<|.bl b
 |.int i _=>some<|.int i
 |.str x _=>some<|.str x
 |.bytes b _=>some<|.ZH b
 |.float b _=>some<|.Eu b
 |.ref a=>some<|.ref a
 |.type n=>some<|.ty n
 |_=>none
def RelV.abs(r:RelV x u):bOx u=some x:=by
 cases x with
 |xc=>cases r;rfl
 |bl _=>cases r;rfl
 |int _=>obtain⟨t,rfl⟩:=r;rfl
 |str _=>obtain⟨t,rfl⟩:=r;rfl
 |ZH _=>obtain⟨t,rfl⟩:=r;rfl
 |Eu _=>obtain⟨t,rfl⟩:=r;rfl
 |ref _=>cases r;rfl
 |ty _=>cases r;rfl
def RelV.inj{x y:V}{u:Value}(r:RelV x u)(q:RelV y u):x=y:=qo<|r.abs.symm.trans q.abs
theorem Ka.inj:∀{xs ys:lw}{a:ca},Ka xs a->Ka ys a->xs=ys
 |_,_,_,.nil,.nil=>rfl
 |_,_,_,.cons r t,.cons c b=>by rw[r.inj c,Ka.inj t b]
section
variable{X:Cx}{aa:ce}{σ:St}{H:Hp}{s:Shared}{a:Addr}{xs ys:lw}
def ue.of{K:PySem.W.Frag}(h:H a=some (.lst xs)):ue K H a xs:=.inl<|.inl h
def eh.of{K:PySem.W.Frag}(h:H a=some (.tup xs)):eh K H a xs:=.inl<|.inl h
theorem Ea.list(I:Ea X aa σ H s)(h:ue X.K H a xs):∃b:ca,Ka xs b/\PlainL s.heap a b.toArray/\xs.length<=sizeLine:=by
 rcases h with h|⟨o,b,n,d,g,f,c,i,r⟩
 .obtain⟨z,b,n,r,e⟩:=h.ok I.Xa;exact⟨b,r,⟨_,n,e,rfl,rfl,rfl⟩,z⟩
 refine⟨b.toList,r,⟨o,n,I.Hf a o d,g,f,by simpa using c⟩,?_⟩
 have e:=r.length;simp at e;lia
def Ea.tuple(I:Ea X aa σ H s)(h:eh X.K H a xs):∃b:ca,Ka xs b/\IsTup s.heap a b.toArray/\xs.length<=sizeLine:=by
 rcases h with h|⟨o,b,n,d,f,c,g,r⟩
 .obtain⟨z,b,r,p⟩:=h.ok I.Xa;exact⟨b,r,p,z⟩
 refine⟨b.toList,r,⟨o,I.Hf a o d,f,n,by simpa using c⟩,?_⟩
 have e:=r.length;simp at e;omega
def Ea.dh(I:Ea X aa σ H s)(h:ue X.K H a xs)(i:ue X.K H a ys):xs=ys:=by
 obtain⟨g,r,⟨o,n,e,_,_,d⟩,_⟩:=I.list h;obtain⟨m,f,⟨k,l,b,_,_,c⟩,_⟩:=I.list i;rw[e]at b;cases b;rw[d]at c;injection c with j _
 have:=by simpa using congrArg Array.toList j
 subst this;exact r.inj f
def Ea.bj(I:Ea X aa σ H s)(h:eh X.K H a xs)(i:eh X.K H a ys):xs=ys:=by
 obtain⟨g,r,⟨o,e,_,n,d⟩,_⟩:=I.tuple h;obtain⟨m,f,⟨k,b,_,l,c⟩,_⟩:=I.tuple i;rw[e]at b;cases b;rw[d]at c;injection c with j _
 have:=by simpa using congrArg Array.toList j
 subst this;exact r.inj f
end
abbrev Cx.Ui(X:Cx)(E:be):Cx:={X with xe:=E}
abbrev Cx.Ve(X:Cx):Cx:=X.Ui λ_ _=>False
theorem Cx.Ok.Ui{X:Cx}(ok:X.Ok)(E:be):(X.Ui E).Ok:=
 ⟨ok.mod,ok.kind,ok.glob,ok.blt,ok.above,ok.inj,ok.has,ok.Au,ok.hd,ok.frames,ok.Xx,ok.xx,ok.bs,ok.Cn,ok.jl,ok.Uk,ok.Ig,ok.Rp⟩
def Cx.Ok.wg{X:Cx}{E:be}(ok:(X.Ui E).Ok):X.Ok:=
 ⟨ok.mod,ok.kind,ok.glob,ok.blt,ok.above,ok.inj,ok.has,ok.Au,ok.hd,ok.frames,ok.Xx,ok.xx,ok.bs,ok.Cn,ok.jl,ok.Uk,ok.Ig,ok.Rp⟩
section
variable{X:Cx}{aa:ce}{σ:St}{H:Hp}{s:Shared}{E:be}
theorem Ea.Ui(I:Ea X aa σ H s)(E:be):Ea (X.Ui E) aa σ H s:=⟨I.ok.Ui E,I.os,I.bare,I.base,I.loc,I.cell,I.free,I.kf,I.pin,I.Xa,I.len⟩
theorem Ea.wg(I:Ea (X.Ui E) aa σ H s):Ea X aa σ H s:=⟨I.ok.wg,I.os,I.bare,I.base,I.loc,I.cell,I.free,I.kf,I.pin,I.Xa,I.len⟩
theorem SP.wg{D:Ends}(h:SP (X.Ui E) aa D f s'):SP X aa D f s':=by
 cases f with
 |next=>obtain⟨a,b,I,q⟩:=h;exact⟨a,b,I.wg,q⟩
 |brk=>obtain⟨a,b,I,q⟩:=h;exact⟨a,b,I.wg,q⟩
 |cont=>obtain⟨a,b,I,q⟩:=h;exact⟨a,b,I.wg,q⟩
 |ret u=>obtain⟨v,a,b,I,r,q⟩:=h;exact⟨v,a,b,I.wg,r,q⟩
theorem Ae.Ve{st:List Stmt}{t:TS}(h:Ae X.Ve st t):Ae X st t:=λaa s σ H D I a=>
 dk (h aa s σ H D (I.Ui _) a) (λ_ _ q=>q.wg) λ_ _ z=>False.elim z
end
section
variable{X:Cx}{st:Stmt}{rest:List Stmt}{t u:TS}{e:Expr}{te:TE}{pos:Pos}
def bLw:TS:=λD a H=>D.nx a H
def bOy(t u:TS):TS:=λD a H=>t {D with nx:=u D} a H
def kM:Ae X [] bLw:=λ_ _ a H _ I h=>QH ⟨a,H,I,h⟩
def JD(g:PS X st t)(e:Ae X rest u):Ae X (st::rest) (bOy t u):=by
 intro a s b H D I h;refine wpAny_execs_cons<|Cc (g a s b H {D with nx:=u D} I h) λf d q=>?_
 cases f with
 |next=>
  obtain⟨c,j,i,q⟩:=q;exact e a d c j D i q
 |ret v=>exact q
 |brk=>exact q
 |cont=>exact q
def fE(b:PS X st t):Ae X [st] t:=by
 intro c s a H D I h;refine wpAny_execs_cons<|Cc (b c s a H D I h) λf d q=>?_
 cases f with
 |next=>exact QH q
 |ret v=>exact q
 |brk=>exact q
 |cont=>exact q
def Ea.quiet(I:Ea X aa σ H s):interactive X.env=false:=by simp[interactive,I.ok.kind]
def bLx(te:TE):TS:=λD a H=>te a H λ_ b=>D.nx a b
def sy(he:PE X e te)(c:Bk e none pos.line X.env:=by rfl):PS X (.Expr e pos) (bLx te):=by
 intro d s a H D I h;exact wpAny_Expr_any (Cc (he d s a H _ I h) λv i ⟨x,g,f,j,b⟩=>⟨a,g,f,b⟩) I.quiet c
def bOz(te:TE):TS:=λD a H=>te a H D.rt
def nN(he:PE X e te):PS X (.Return (some e) pos) (bOz te):=by
 intro d s a H D I h;exact wpAny_Return_some<|Cc (he d s a H _ I h) λv i ⟨x,g,f,b,c⟩=>⟨x,a,g,f,b,c⟩
def bP0(c:TT)(t u:TS):TS:=λD a H=>c a H λb d=>if b=true then t D a d else u D a d
def DO(l:PT X c tc)(n:Ae X a t)(m:Ae X b u):PS X (.If c a b pos) (bP0 tc t u):=by
 intro f s e H D I h;refine wpAny_If<|Cc (l f s e H _ I h) λd g ⟨k,j,i⟩=>?_
 cases d with
 |true=>exact n f g e k D j i
 |false=>exact m f g e k D j i
end
abbrev TG:=V->St->Hp->(St->wv)->Prop
abbrev vp:=List V->St->Hp->(St->wv)->Prop
def PG(X:Cx)(a:Expr)(t:TG):Prop:=
 ∀(d:ce) (s:Shared) (b:St) (H:Hp) (v:V) (u:Value) (Q:St->wv),Ea X d b H s->RelV v u->t v b H Q->
  wpAny (model X.prog X.w) X.A (assign a X.env u) (λ_ f=>∃c e,Ea X d c e f/\Q c e) X.xe s
def Xn(X:Cx)(g:List Expr)(t:vp):Prop:=
 ∀(e:ce) (s:Shared) (a:St) (H:Hp) (c:lw) (d:ca) (Q:St->wv),Ea X e a H s->Ka c d->t c a H Q->
  wpAny (model X.prog X.w) X.A (assignInOrder ((assignEach g X.env).map (·.2)) d) (λ_ h=>∃b f,Ea X e b f h/\Q b f) X.xe s
abbrev kP:=V->V->V->Hp->(Hp->Prop)->Prop
def R7(X:Cx)(t:kP):Prop:=
 ∀(d:ce) (s:Shared) (a:St) (H:Hp) (o i v:V) (b c u:Value) (Q:wv),Ea X d a H s->RelV o b->RelV i c->RelV v u->t o i v H Q->
  wpAny (model X.prog X.w) X.A (setItem b c u) (λ_ f=>∃e,Ea X d a e f/\Q e) X.xe s
section
variable{X:Cx}{pos:Pos}
def T6(i:Nat):TG:=λv a H Q=>Q (a.set i<|some v) H
def E2{i:Nat}(d:X.N.Nodup)(b:X.N[i]?=some x)(a:Loc X.env.scope x)(c:Pm X x:=by first|exact .inl rfl|exact .inr rfl|assumption):PG X (.Name x pos) (T6 i):=by
 intro j s f H v u Q I r h;exact wpAny_assign_Name<|vg I d b a r (λg e=>⟨_,H,e,h⟩) c
def bP1:vp:=λb a H Q=>b=[]/\Q a H
def bLz(t:TG)(u:vp):vp:=λc a H Q=>∃v r,c=v::r/\t v a H λb d=>u r b d Q
def bDs:Xn X [] bP1:=by
 intro d s a H b c Q I r h;obtain⟨e,h⟩:=h;exact assignInOrder_nil ⟨a,H,I,h⟩
def aZ8{e:Expr}{t:TG}(k:PG X e t)(j:Xn X es u)
  (i:(assignEach (e::es) X.env).map (·.2)=assign e X.env::(assignEach es X.env).map (·.2):=by rfl):Xn X (e::es) (bLz t u):=by
 intro a s b H n p Q I r h;obtain⟨v,o,e1,h⟩:=h;subst e1;cases r with
 |cons r f=>
  rw[i];exact assignInOrder_cons<|Cc (k a s b H _ _ _ I r h) λ_ d ⟨c,m,l,g⟩=>j a d c m _ _ Q l f g
def bP2(K:PySem.W.Frag)(n:Nat)(t:vp):TG:=λv c H Q=>∃a b,v=.ref a/\eh K H a b/\b.length=n/\t b c H Q
def bIq{k:Nat}{t:vp}{n:Nat}(w:X.calm=true)(h:Xn X es t)
  (p:(assignEach es X.env).length=n:=by rfl) (y:(assignEach es X.env).findIdx? (·.1)=none:=by rfl):PG X (.Tuple es k pos) (bP2 X.K n t):=by
 intro x s f H v u Q I r c;obtain⟨a,g,e1,m,q,c⟩:=c;subst e1;cases r;obtain⟨i,d,l,z⟩:=I.tuple m;exact assign_Tuple_tuple (I.ok.hd w) l (by simp[p,<-q,d.length]) y λA j=>h x _ f H g _ Q (I.kept λb o e=>j b o (ff<|Tc e) e) (by simpa using d) c
def bP3(b c:TE)(t:kP):TG:=λv a H Q=>b a H λo f=>c a f λi e=>t o i v e λd=>Q a d
def bIr{t:kP}(p:PE X o to)(q:PE X i ti)(n:R7 X t)
  (w:∀v,assign (.Subscript o i pos) X.env v=(do
   let a <- holding [v] (eval o X.env)
   let b <- holding [v,a] (eval i X.env)
   standAt pos
   holding [v,a,b] (setItem a b v)
   release [v,a,b] []):=by intro _;rfl):PG X (.Subscript o i pos) (bP3 to ti t):=by
 intro d s c H v u Q I r h;rw[w];refine xa<|gh<|Cc (p d s c H _ I h) λa f ⟨x,E,B,j,m⟩=>?_
 refine xa<|gh<|Cc (q d f c E _ B m) λb e ⟨y,D,A,g,l⟩=>?_
 exact xa<|Zw<|xa<|gh<|Cc (n d e c D x y v a b u _ A j g r l) λ_ F ⟨C,z,k⟩=>wpAny_release ⟨c,C,z,k⟩
def S7(te:TE)(g:TG):TS:=λD a H=>te a H λx b=>g x a b D.nx
def t5(he:PE X e te)(f:PG X tg g)(d:swapsWithSole [tg] e pos.line X.env=pure false:=by rfl)(c:swappedStores [tg] e X.env=pure none:=by rfl)
  (i:(assignEach [tg] X.env).map (·.2)=[assign tg X.env]:=by rfl):PS X (.Assign [tg] e pos) (S7 te g):=by
 intro b s a H D I h;refine wpAny_Assign_stores (Cc (he b s a H _ I h) λv s1 ⟨x,H1,I1,r1,q1⟩=>?_) d c
 rw[i];exact Cc (f b s1 a H1 x v _ I1 r1 q1) λ_ j q=>q
def Nv{i:Nat}(k:X.N.Nodup)(g:X.N[i]?=some x)(d:Loc X.env.scope x)(he:PE X e te)(f:Bk e (some<|.Name x pos') pos.line X.env:=by rfl)(j:Pm X x:=by first|exact .inl rfl|exact .inr rfl|assumption) :
  PS X (.Assign [.Name x pos'] e pos) (S7 te<|T6 i):=by
 intro l s a H D I h;exact wpAny_Assign_Name (Cc (he l s a H _ I h) λv q ⟨y,o,n,b,c⟩=>vg n k g d b (λp m=>⟨_,o,m,c⟩) j) f
def bIs(c:TT)(tb:TS):TS:=λD a H=>∃W:Nat->St->wv,(∃m,W m a H)/\∀m a H,W m a H->
 c a H λb f=>if b=true then ∃N:St->wv,(∀d g,N d g->∃e,e < m/\W e d g)/\tb {D with nx:=N,ct:=N,bk:=D.nx} a f else D.nx a f
def aZa(r:PassesOwn (model X.prog X.w) X.A X.env X.xe)(J:PT X c tc)(K:Ae X body tb):PS X (.While c body [] pos) (bIs tc tb):=by
 intro o s z H D I h;obtain⟨W,⟨G,B⟩,turn⟩:=h;refine wpAny_While<|codeAny_whileLoop (λn F=>∃q y,Ea X o q y F/\W n q y) ?_ G ⟨z,H,I,B⟩
 rintro n E ⟨e,x,L,A⟩;refine qu r<|Cc (J o E e x _ L<|turn n e x A) λb C ⟨w,u,i⟩=>?_
 cases b with
 |true=>
  obtain⟨N,t,i⟩:=i;refine qu r<|Cc (K o C e w _ u i) λf M g=>?_
  cases f with
  |next=>
   obtain⟨a,d,p,k⟩:=g;obtain⟨l,m,j⟩:=t a d k;exact⟨l,m,a,d,p,j⟩
  |cont=>
   obtain⟨a,d,p,k⟩:=g;obtain⟨l,m,j⟩:=t a d k;exact⟨l,m,a,d,p,j⟩
  |brk=>exact g
  |ret v=>exact g
 |false=>
  exact QH ⟨e,w,u,i⟩
end
structure It where
 go:Nat->Hp->Prop
 ay:Nat->Hp->V->Hp->Prop
 stop:Nat->Hp->Prop
def Jk(X:Cx)(aa:ce)(H:Hp)(b:Addr):Prop:=
 H b=none/\b≠X.env.locals/\b∉X.fs/\(b∈X.ex\/X.La.heap.objs.size<=b)/\(∀x c,X.env.cells.lookup x=some c->c≠b)/\∀p∈X.pn++aa,p.1≠b
def Ea.Mj{X:Cx}{d:Hp}{b:Addr}(I:Ea X aa σ H s)(a:s.heap.objs.size<=b)(f:d b=none):Jk X aa d b:=by
 refine⟨f,Wr<|ph I.lt a,I.US a,.inr<|Nh I.sz a,λx c e z=>?_,λp hp z=>?_⟩
 .obtain⟨v,q⟩:=I.cell x c e;exact absurd (ph q.lt<|by rwa [z])<|Oi _
 exact absurd (ph (Tc (I.pin p hp).1)<|by rwa [z])<|Oi _
structure Turn(P:Program)(w:World)(K:PySem.W.Frag)(tg:Expr)(J:It)(fp:bv)(it:Addr)(tn:Fa):Prop where
 mem:it∈fp
 obj:∀i h,tn i h->∀b∈fp,∃o,h.get? b=some o/\∀v,o.data≠.cell v
 keep:∀i h h',tn i h->(∀b∈fp,∀o,h.get? b=some o->h'.get? b=some o)->tn i h'
 item:∀(X:Cx),X.prog=P->X.w=w->X.K=K->X.calm=true->∀(i:Nat) (aa:ce) (s:Shared) (σ:St) (H:Hp) (E:be),Ea X aa σ H s->(∀b∈fp,Jk X aa H b)->tn i s.heap->J.go i H->
  wpAny (model P w) X.A (pyNext<|.ref it) (λr s1=>∃u,r=some u/\
   wpAny (model P w) X.A (letOwnedTupleGo tg (.ref it) u) (λ_ s2=>∃x H',Ea X aa σ H' s2/\RelV x u/\J.ay i H x H'/\tn (i+1) s2.heap/\∀b∈fp,H' b=none) E s1) E s
 done:∀(X:Cx),X.prog=P->X.w=w->X.K=K->X.calm=true->∀(i:Nat) (aa:ce) (s:Shared) (σ:St) (H:Hp) (E:be),Ea X aa σ H s->(∀b∈fp,Jk X aa H b)->tn i s.heap->J.stop i H->
  wpAny (model P w) X.A (pyNext<|.ref it) (λr s1=>r=none/\Ea X aa σ H s1) E s
 self:∀(A:Around)(i:Nat)(s:Shared)(Q:be)(E:be),tn i s.heap->Q (.ref it) s->wpAny (model P w) A (pyIter<|.ref it) Q E s
abbrev TI:=St->Hp->(It->wv)->Prop
def qV(X:Cx)(aa:ce)(f:St)(tg:Expr)(R:It->wv)(g:Value)(s2:Shared):Prop:=
 ∃(d:Addr)(e:bv)(c:Fa)(J:It)(a:Hp),g=.ref d/\Ea X aa f a s2/\Turn X.prog X.w X.K tg J e d c/\c 0 s2.heap/\(∀b∈e,Jk X aa a b)/\R J a
def PI(X:Cx)(tg a:Expr)(d:TI):Prop:=
 ∀(c:ce) (s:Shared) (b:St) (H:Hp) (R:It->wv),Ea X c b H s->d b H R->
  wpAny (model X.prog X.w) X.A (eval a X.env) (λv e=>wpAny (model X.prog X.w) X.A (pyIter v) (qV X c b tg R) X.xe e) X.xe s
def IF{E:be}{s:Shared}{Q:u8}(b:s.heap.get? it=some o)(e:o.cls=.type n)(d:o.data=.fields vs)
  (c:["enumerate","zip","dict_itemiterator","dict_reverseitemiterator","odict_iterator","itertools.zip_longest","itertools.pairwise"].contains n=false) (a:Q () s):wpAny M A (letOwnedTupleGo tg (.ref it) u) Q E s:=by
 cases tg<;>first
  |exact Ua a
  |(cases u<;>first
    |exact Ua a
    | (refine xa (wpAny_load b ?_)
       rw[e,d];show wpAny M A (if (["enumerate","zip","dict_itemiterator","dict_reverseitemiterator","odict_iterator","itertools.zip_longest","itertools.pairwise"].contains n&&vs[0]?==some _)=true then _ else _) Q E s
       rw[Pa (by intro h;rw[c]at h;cases h)]
       exact Ua a))
def GJ(K:PySem.W.Frag)(a:Addr):It:=
 ⟨λi H=>∃b x,ue K H a b/\b[i]?=some x,λi H x c=>c=H/\∀b,ue K H a b->b[i]?=some x,λi H=>∃b,ue K H a b/\b.length<=i⟩
def HJ(K:PySem.W.Frag)(a:Addr):It:=
 ⟨λi H=>∃b x,eh K H a b/\b[i]?=some x,λi H x c=>c=H/\∀b,eh K H a b->b[i]?=some x,λi H=>∃b,eh K H a b/\b.length<=i⟩
def fy(lo:Int)(n:Nat):It:=⟨λi _=>i<n,λi H x a=>a=H/\x=.int (lo+i),λi _=>n<=i⟩
theorem Ľ{w:World}{K:PySem.W.Frag}(a it:Addr):Turn P w K tg (GJ K a) [it] it (λi h=>h.IsListIter it a i) where
 mem:=by simp
 obj:=λi h st b f=>by
  have e:=by simpa using f
  subst e;obtain⟨o,e,c,d⟩:=st;exact⟨o,e,λv z=>by rw[d]at z;cases z⟩
 keep:=λi h L st k=>st.at λo e=>k it (by simp) o e
 item:=by
  intro X t q y J i W s M H E I l st r;subst t q y;obtain⟨N,x,j,G⟩:=r;obtain⟨n,m,p,R⟩:=I.list j;obtain⟨u,T,Q⟩:=m.get G;obtain⟨F,D,U,C,B,A⟩:=l it (by simp)
  refine wpAny_pyNext_list_item st p.isList (by simpa using T) λL g O=>?_
  obtain⟨o,e,c,d⟩:=id g;exact⟨u,rfl,IF e c d rfl ⟨x,H,(I.turned (λb o f e=>(O.2 b f).trans e) F D C B A),Q,⟨rfl,λY S=>by rwa [I.dh S j]⟩,g,λb f=>(l b f).1⟩⟩
 done:=by
  intro X t q y J i W s M H E I l st r;subst t q y;obtain⟨N,j,G⟩:=r;obtain⟨n,m,p,R⟩:=I.list j;obtain⟨F,D,U,C,B,A⟩:=l it (by simp)
  have Z:=m.length;exact wpAny_pyNext_list_end (I.ok.hd J) st p.isList (by simp;lia) λL V=>⟨rfl,I.turned (λb o f e=>V b o f e) F D C B A⟩
 self:=λ_ _ _ _ _ st h=>wpAny_pyIter_listiter st h
def ĕ{w:World}{K:PySem.W.Frag}(a it:Addr):Turn P w K tg (HJ K a) [it] it (λi h=>h.IsTupleIter it a i) where
 mem:=by simp
 obj:=λi h st b f=>by
  have e:=by simpa using f
  subst e;obtain⟨o,e,c,d⟩:=st;exact⟨o,e,λv z=>by rw[d]at z;cases z⟩
 keep:=λi h L st k=>st.at λo e=>k it (by simp) o e
 item:=by
  intro X t q y J i W s M H E I l st r;subst t q y;obtain⟨N,x,j,G⟩:=r;obtain⟨n,m,p,R⟩:=I.tuple j;obtain⟨u,T,Q⟩:=m.get G;obtain⟨F,D,U,C,B,A⟩:=l it (by simp)
  refine wpAny_pyNext_tuple_item st (p) (by simpa using T) λL g O=>?_
  obtain⟨o,e,c,d⟩:=id g;exact⟨u,rfl,IF e c d rfl ⟨x,H,(I.turned (λb o f e=>(O.2 b f).trans e) F D C B A),Q,⟨rfl,λY S=>by rwa [I.bj S j]⟩,g,λb f=>(l b f).1⟩⟩
 done:=by
  intro X t q y J i W s M H E I l st r;subst t q y;obtain⟨N,j,G⟩:=r;obtain⟨n,m,p,R⟩:=I.tuple j;obtain⟨F,D,U,C,B,A⟩:=l it (by simp)
  have Z:=m.length;exact wpAny_pyNext_tuple_end (I.ok.hd J) st (p) (by simp;omega) λL V=>⟨rfl,I.turned (λb o f e=>V b o f e) F D C B A⟩
 self:=λ_ _ _ _ _ st h=>wpAny_pyIter_tupleiter st h
theorem Ė{w:World}{K:PySem.W.Frag}(it:Addr)(lo:Int)(n:Nat):Turn P w K tg (fy lo n) [it] it (λi h=>IsRangeIter h it (lo+(i:Nat)*1) ((n:Int)-(i:Nat)) 1) where
 mem:=by simp
 obj:=λi h st b a=>by
  have e:=by simpa using a
  subst e;exact⟨_,st,λv z=>by
   cases z⟩
 keep:=λi h y st k=>k it (by simp) _ st
 item:=by
  intro X u r x g i G s A H E I d st f;subst u r x;obtain⟨q,p,D,m,l,j⟩:=d it (by simp)
  refine(Walks.range (prog:=X.prog) (w:=X.w) (I.ok.hd g) it lo 1 n).item i s _ _ f st λv y J C c B=>?_
  obtain⟨t,rfl⟩:=C;refine⟨_,rfl,IF c rfl rfl rfl ⟨.int _,H,(I.turned (λb o a e=>B b o (by simpa using a) e) q p m l j),⟨t,?_⟩,⟨rfl,rfl⟩,c,λb a=>(d b a).1⟩⟩
  rw[Int.mul_one]
 done:=by
  intro X u r x g i G s A H E I d st f;obtain⟨q,p,D,m,l,j⟩:=d it (by simp)
  exact wpAny_pyNext_range_end (I.ok.hd g) st (by have:n<=i:=f;lia) λy F=>⟨rfl,I.turned (λb o a e=>F b o a e) q p m l j⟩
 self:=λ_ _ _ _ _ st h=>wpAny_pyIter_rangeiter st h
section
variable{X:Cx}{tg:Expr}
theorem XY{R:It->wv}{E:be}{lo a:Int}{t:Tok}{d:Nat}(I:Ea X aa σ H s)(i : -(2^62)<=lo)(h:lo<2^62)(g : -(2^62)<=a)(f:a<2^62)
  (q:R (fy lo (a-lo).toNat) H):wpAny (model X.prog X.w) X.A (pyIter<|.ref s.heap.objs.size) (qV X aa σ tg R) E {s with heap:=s.heap.push {cls:=.type "range",data:=.fields #[.int lo t,.int a u,.int 1 v]},toks:=d}:=by
 refine wpAny_pyIter_range (IsRange.new ..) (small_one i h g f) ?_
 have c:Ea X aa σ H {s with heap:=s.heap.push {cls:=.type "range",data:=.fields #[.int lo t,.int a u,.int 1 v]},toks:=d}:=I.kept λb o e=>vc _ e
 refine⟨(s.heap.push {cls:=.type "range",data:=.fields #[.int lo t,.int a u,.int 1 v]}).objs.size,[(s.heap.push {cls:=.type "range",data:=.fields #[.int lo t,.int a u,.int 1 v]}).objs.size],_,_,H,rfl,
  c.kept λb o e=>vc _ e,Ė _ lo (a-lo).toNat,?_,λb hb=>?_,q⟩
 .have e1:lo+((0:Nat))*1=lo:=by simp
  have e2:(((a-lo).toNat):Int)-((0:Nat))=Builtin.Range.rangeSize lo a 1:=by rw[rangeSize_one];split<;>lia
  rw[e1,e2];exact Af _ rfl
 have e:b=(s.heap.push {cls:=.type "range",data:=.fields #[.int lo t,.int a u,.int 1 v]}).objs.size:=by simpa using hb
 subst e;exact c.Mj (Ec _)<|c.Xa.fresh<|Ec _
def bM1(c:TA):TI:=λa H R=>c a H λb d=>∃j:Int,b=[.int j]/\-(2^62)<=j/\j<2^62/\R (fy 0 j.toNat) d
def bM2(c:TA):TI:=λa H R=>c a H λb d=>∃i j:Int,b=[.int i,.int j]/\(-(2^62)<=i/\i<2^62/\-(2^62)<=j/\j<2^62)/\R (fy i (j-i).toNat) d
theorem ľ{a:Expr}(k:Gl X "range")(i:X.mg "range"=none)(l:PA X [a] ta)(g:starEach [a] X.env=[(false,eval a X.env)]:=by rfl):PI X tg (.Call (.Name "range" p) [a] [] pos) (bM1 ta):=by
 intro m s c H R I h;refine Call_<|vR I k i boot_range<|fu (Cc (l pos m s c H _ I h) λo u ⟨n,v,I1,r1,b⟩=>?_) g rfl
 obtain⟨j,e,b,f,q⟩:=b;subst e;cases r1 with
 |cons r d=>
  cases d;obtain⟨t,rfl⟩:=r;exact call_range_1<|XY I1 (by lia) (by lia) b f<|by simpa using q
def Ŀ{a b:Expr}(v:Gl X "range")(u:X.mg "range"=none)(w:PA X [a,b] ta)(o:starEach [a,b] X.env=[(false,eval a X.env),(false,eval b X.env)]:=by rfl)(f:starEach [b] X.env=[(false,eval b X.env)]:=by rfl) :
  PI X tg (.Call (.Name "range" p) [a,b] [] pos) (bM2 ta):=by
 intro x s g H R I h;refine Call_<|vR I v u boot_range<|fu (Cc (w pos x s g H _ I h) λz B ⟨y,C,I1,r1,d⟩=>?_) (by rw[o,f])<|by rw[f];rfl
 obtain⟨i,j,e,⟨d,n,m,l⟩,q⟩:=d;subst e;cases r1 with
 |cons r c=>
  cases c with
  |cons k c=>
   cases c;obtain⟨t,rfl⟩:=r;obtain⟨A,rfl⟩:=k;exact call_range_2<|XY I1 d n m l q
def bP4(e:TI)(g:TG)(tb:TS):TS:=λD a H=>e a H λJ j=>∃W:Nat->Nat->St->wv,(∃m,W 0 m a j)/\∀i m a H,W i m a H->
 (J.stop i H/\D.nx a H)\/(J.go i H/\∃N:St->wv,(∀c b,N c b->∃d,d < m/\W (i+1) d c b)/\∀x b,J.ay i H x b->g x a b λf h=>tb {D with nx:=N,ct:=N,bk:=D.nx} f h)
def sN(a:bv)(h:Heap):ce:=a.filterMap λb=>(h.get? b).map λo=>(b,o)
def xR{a:bv}{h:Heap}{b:Addr}(c:b∈a)(e:h.get? b=some o):(b,o)∈sN a h:=List.mem_filterMap.mpr ⟨b,c,by rw[e];rfl⟩
def ŀ{p:Addr×Obj}(a:p∈sN fp h):p.1∈fp/\h.get? p.1=some p.2:=by
 obtain⟨b,c,e⟩:=List.mem_filterMap.mp a;cases q:h.get? b with
 |none=>rw[q]at e;cases e
 |some o=>
  rw[q]at e;have d:=qo e;subst d;exact⟨c,q⟩
def Ea.pinned{a:bv}(I:Ea X aa σ H s)(i:∀b∈a,Jk X aa H b)(h:∀b∈a,∃o,s.heap.get? b=some o/\∀v,o.data≠.cell v):Ea X (aa++sN a s.heap) σ H s:=
 I.Zh λp g=>(Wh.mp g).elim (λz=>I.pin p<|oh _ z) λz=>by
  obtain⟨c,e⟩:=ŀ z;obtain⟨l,k,j,_⟩:=i p.1 c;obtain⟨o,f,d⟩:=h p.1 c;rw[e]at f;cases f;exact⟨e,l,k,j,d⟩
def Ea.Xe{aa pl:ce}(I:Ea X (aa++pl) σ H s):Ea X aa σ H s:=I.Zh λp a=>I.pin p<|oh _<|Kl _ a
def bIt(A:PassesOwn (model X.prog X.w) X.A X.env X.xe)(R:X.calm=true)(hi:PI X tg iter wi)(hg:PG X tg g)(a:Ae X body tb)
  (hs:∀x,foldedSetIterable iter X.env x=pure x:=by intro _;rfl):PS X (.For tg iter body [] pos) (bP4 wi g tb):=by
 intro t s M H D I h;refine wpAny_For (Cc (hi t s M H _ I h) λv s1 h1=>Cc h1 λGS s2 h2=>?_) hs
 obtain⟨it,C,O,J,H2,e,I2,T,Ti,S,W,⟨m0,w0⟩,turn⟩:=h2;subst e;have G:∀{l:Hp},(∀b∈C,l b=none)->∀b∈C,Jk X t l b:=λhn b a=>⟨hn b a,(S b a).2⟩
 refine codeAny_forLoop_any (λn Q=>∃i w l,Ea X t w l Q/\O i Q.heap/\(∀b∈C,l b=none)/\W i n w l) ?_ m0 ⟨0,M,H2,I2,Ti,λb a=>(S b a).1,w0⟩
 rintro n P ⟨i,B,E,V,Y,U,w3⟩;rcases turn i n B E w3 with ⟨y,qn⟩|⟨go,N,hN,step⟩
 .refine qu A (Cc (T.done X rfl rfl rfl R i t P B E X.xe V (G U) Y y) λr s4 ⟨hr,I4⟩=>?_)
  subst hr;exact QH ⟨B,E,I4,qn⟩
 refine qu A<|Cc (T.item X rfl rfl rfl R i t P B E X.xe V (G U) Y go) λr s4 ⟨u,hr,h4⟩=>?_
 subst hr;refine qu A<|Cc h4 λ_ s5 ⟨x,Z,I5,r5,y5,q,L⟩=>?_
 refine qu A<|Cc (hg _ s5 B Z x u _ (I5.pinned (G L)<|T.obj _ _ q) r5<|step x Z y5) λ_ s6 ⟨F,H6,I6,q6⟩=>qu A<|Cc (a _ s6 F H6 _ I6 q6) λf K p=>?_
 have again:∀{c:St}{k:Hp},Ea X _ c k K->N c k->∃m,m<n/\∃i w l,Ea X t w l K/\O i K.heap/\(∀b∈C,l b=none)/\W i m w l:=λ{c k} j z=>by
  obtain⟨m',hm,w7⟩:=hN c k z;refine⟨m',hm,i+1,c,k,j.Xe,T.keep _ _ _ q λb a o e=>(j.pin (b,o)<|oh _<|oh _<|xR a e).1,λb a=>?_,w7⟩
  obtain⟨o,e,d⟩:=T.obj _ _ q b a;exact(j.pin (b,o)<|oh _<|oh _<|xR a e).2.1
 cases f with
 |next=>obtain⟨c,k,j,z⟩:=p;exact again j z
 |cont=>obtain⟨c,k,j,z⟩:=p;exact again j z
 |brk=>obtain⟨c,k,j,p⟩:=p;exact⟨c,k,j.Xe,p⟩
 |ret v=>obtain⟨x7,c,k,j,r7,p⟩:=p;exact⟨x7,c,k,j.Xe,r7,p⟩
end
abbrev R2:=V->GE
def Yf(X:Cx)(f:Value->Value->Sem Value)(r:R2):Prop:=
 ∀(b:ce) (s:Shared) (a:St) (H:Hp) (x y:V) (v u:Value) (Q:VK),Ea X b a H s->RelV x v->RelV y u->r x y H Q->
  wpAny (model X.prog X.w) X.A (f v u) (EP X b a Q) X.xe s
def QJ(X:Cx)(f:Value->Sem Value)(r:GE):Prop:=
 ∀(b:ce) (s:Shared) (a:St) (H:Hp) (x:V) (v:Value) (Q:VK),Ea X b a H s->RelV x v->r x H Q->
  wpAny (model X.prog X.w) X.A (f v) (EP X b a Q) X.xe s
def lY(X:Cx)(f:Value)(r:Go):Prop:=
 ∀(d:ce) (s:Shared) (a:St) (H:Hp) (b:lw) (c:ca) (Q:VK),Ea X d a H s->Ka b c->r b H Q->
  wpAny (model X.prog X.w) X.A (call f c) (EP X d a Q) X.xe s
def KC(r:R2)(b tb:TE):TE:=λa H Q=>b a H λx d=>tb a d λy c=>r x y c Q
def tUn(r:GE)(b:TE):TE:=λa H Q=>b a H λx c=>r x c Q
def rI(C:Int->Int->Prop)(g:Int->Int->V):R2:=λx y H Q=>∃i j,x=.int i/\y=.int j/\C i j/\Q (g i j) H
def kl(g:Int->Int->V):R2:=λx y H Q=>∃i j,x=.int i/\y=.int j/\Q (g i j) H
def rU(g:Int->V):GE:=λx H Q=>∃i,x=.int i/\Q (g i) H
section
variable{X:Cx}{a b c:Expr}{ta tb tc:TE}{pos:Pos}
def lP(o:PE X a ta)(n:PE X b tb){aa:ce}{s:Shared}{c:St}{H:Hp}{R:V->V->Hp->Prop}(I:Ea X aa c H s)
  (h:ta c H λx e=>tb c e λy d=>R x y d) {Q:be} {f:Value->Value->Sem Value}
  (m:∀v u s2 x y d,Ea X aa c d s2->RelV x v->RelV y u->R x y d->wpAny (model X.prog X.w) X.A (f v u) Q X.xe s2) :
  wpAny (model X.prog X.w) X.A (eval a X.env) (λv p=>wpAny (model X.prog X.w) X.A (eval b X.env) (λu q=>wpAny (model X.prog X.w) X.A (f v u) Q X.xe q) X.xe p) X.xe s:=by
 exact Cc (o aa s c H _ I h) λv g ⟨x,e,t,j,l⟩=>Cc (n aa g c e _ t l) λu s2 ⟨y,d,r,i,k⟩=>m v u s2 x y d r j i k
def bM3(g:Yf X (binaryOp op) r)(j:PE X a ta)(i:PE X b tb):PE X (.BinOp a op b pos) (KC r ta tb):=by
 intro k s c H Q I h;exact wpAny_BinOp<|lP j i I h λv u d x y m l f e q=>g k d c m x y v u Q l f e q
def bM4{r:GE}(g:QJ X (unaryOp op) r)(i:PE X a ta):PE X (.UnaryOp op a pos) (tUn r ta):=by
 intro c s b H Q I h;exact UnaryOp_<|Cc (i c s b H _ I h) λv d ⟨x,k,j,e,f⟩=>g c d b k x v Q j e f
def Qx{f:Value->Value->Sem Value}{C:Int->Int->Prop}{g:Int->Int->Int}
  (rule:∀(i j:Int)(t u:Tok)(s:Shared)(Q:be)(E:be),C i j->Q (.int (g i j) s.toks) {s with toks:=s.toks+1}->wpAny (model X.prog X.w) X.A (f (.int i t)<|.int j u) Q E s) :
  Yf X f (rI C λi j=>.int<|g i j):=by
 intro k s e H x y v u Q I c b h;obtain⟨i,j,rfl,rfl,d,q⟩:=h;obtain⟨t,rfl⟩:=c;obtain⟨a,rfl⟩:=b;exact rule i j t a s _ _ d ⟨.int<|g i j,H,I.tok _,⟨_,rfl⟩,q⟩
def CG{f:Value->Value->Sem Value}{g:Int->Int->Int}
  (rule:∀(i j:Int)(t u:Tok)(s:Shared)(Q:be)(E:be),Q (.int (g i j) s.toks) {s with toks:=s.toks+1}->wpAny (model X.prog X.w) X.A (f (.int i t)<|.int j u) Q E s) :
  Yf X f (kl λi j=>.int<|g i j):=by
 intro e s d H x y v u Q I c b h;obtain⟨i,j,rfl,rfl,q⟩:=h;obtain⟨t,rfl⟩:=c;obtain⟨a,rfl⟩:=b;exact rule i j t a s _ _ ⟨.int<|g i j,H,I.tok _,⟨_,rfl⟩,q⟩
def DG{f:Value->Value->Sem Value}{g:Int->Int->Bool}
  (rule:∀(i j:Int)(t u:Tok)(s:Shared)(Q:be)(E:be),Q (.bool<|g i j) s->wpAny (model X.prog X.w) X.A (f (.int i t)<|.int j u) Q E s) :
  Yf X f (kl λi j=>.bl<|g i j):=by
 intro e s d H x y v u Q I c b h;obtain⟨i,j,rfl,rfl,q⟩:=h;obtain⟨t,rfl⟩:=c;obtain⟨a,rfl⟩:=b;exact rule i j t a s _ _ ⟨.bl<|g i j,H,I,rfl,q⟩
def bP5(i j:Int):Prop:=0<j/\j<1073741824
def T7(i j:Int):Prop:=0<=j/\j<=1000000/\i.natAbs<2^64
def cz(i j:Int):Prop:=(-(2^64)<i/\i<2^64)\/(-(2^64)<j/\j<2^64)
def cz.ok(h:cz i j):IntMulOk i j:=by
 rcases h with ⟨b,a⟩|⟨b,a⟩
 .exact .of_left (intBits_le_64 b a)
 exact .of_right<|intBits_le_64 b a
def ė(k:Nat):(0:Int)<=2^k:=by
 exact sQ _
def bIv:Yf X (binaryOp .Add) (kl λi j=>.int<|i+j):=CG λ_ _ _ _ _ _ _ q=>add_int q
def bIw:Yf X (binaryOp .Sub) (kl λi j=>.int<|i-j):=CG λ_ _ _ _ _ _ _ q=>sub_int q
def bIx:Yf X (binaryOp .Mult) (rI cz λi j=>.int<|i*j):=Qx λ_ _ _ _ _ _ _ a q=>mul_int q a.ok
theorem bDv:Yf X (binaryOp .FloorDiv) (rI bP5 λi j=>.int<|i/j):=Qx λi j _ _ _ _ _ a q=>by
 have c:=a.1;have b:=a.2;exact floordiv_int (by lia) (by rwa [B8 i (by lia)])<|.inl<|PyProof.noPylong_small<|by lia
theorem bIy:Yf X (binaryOp .Mod) (rI (λ_ j=>0<j) λi j=>.int<|i%j):=Qx λi j _ _ _ _ _ a q=>by
 exact mod_int' (by lia) (by rwa [Int.fmod_eq_emod_of_nonneg i (by lia)])
def bIz:Yf X (binaryOp .Pow) (rI T7 λi j=>.int<|i^j.toNat):=Qx λ_ _ _ _ _ _ _ a q=>pow_int_small a.1 a.2.1 a.2.2 q
def bJ0:Yf X (binaryOp .LShift) (rI T7 λi j=>.int<|i*2^j.toNat):=Qx λ_ _ _ _ _ _ _ a q=>lshift_int_small a.1 a.2.1 a.2.2 q
def bJ1:Yf X (binaryOp .RShift) (rI (λ_ j=>0<=j) λi j=>.int<|i/2^j.toNat):=Qx λi j _ _ _ _ _ a q=>
 rshift_int a (by rwa [B8 i<|ė _])
def bJ2:Yf X (binaryOp .BitAnd) (kl λi j=>.int<|Builtin.bitAnd i j):=CG λ_ _ _ _ _ _ _ q=>and_int q
def bM6:Yf X (binaryOp .BitOr) (kl λi j=>.int<|Builtin.bitOr i j):=CG λ_ _ _ _ _ _ _ q=>or_int q
def unI{f:Value->Sem Value}{g:Int->Int}
  (rule:∀(i:Int)(t:Tok)(s:Shared)(Q:be)(E:be),Q (.int (g i) s.toks) {s with toks:=s.toks+1}->wpAny (model X.prog X.w) X.A (f<|.int i t) Q E s) :
  QJ X f (rU λi=>.int<|g i):=by
 intro c s b H x v Q I a h;obtain⟨i,rfl,q⟩:=h;obtain⟨t,rfl⟩:=a;exact rule i t s _ _ ⟨.int<|g i,H,I.tok _,⟨_,rfl⟩,q⟩
def bJ3:QJ X (unaryOp .USub) (rU λi=>.int<|-i):=unI λ_ _ _ _ _ q=>neg_int q
def tN{Q:VK}{k a:Bool}(I:Ea X aa σ H s)(q:Q (.bl k) H)(e:k=a):EP X aa σ Q (.bool a) s:=by
 subst e;exact⟨.bl k,H,I,rfl,q⟩
def Qy:Yf X (compareOp .Lt) (kl λi j=>.bl<|decide (i<j)):=DG λ_ _ _ _ _ _ _ q=>lt_int q
def EO:Yf X (compareOp .LtE) (kl λi j=>.bl<|decide (i<=j)):=DG λ_ _ _ _ _ _ _ q=>le_int q
def U6:Yf X (compareOp .Gt) (kl λi j=>.bl<|decide (j<i)):=DG λ_ _ _ _ _ _ _ q=>gt_int q
def FO:Yf X (compareOp .GtE) (kl λi j=>.bl<|decide (j<=i)):=DG λ_ _ _ _ _ _ _ q=>ge_int q
def Ł:Yf X (compareOp .In) (λx y H Q=>∃i j,x=.str i/\y=.str j/\Q (.bl<|!(Builtin.Str.occurrences j i 0 j.length 1).isEmpty) H):=by
 intro e s c H x y v u Q I b a h;obtain⟨i,j,rfl,rfl,q⟩:=h;obtain⟨t,rfl⟩:=b;obtain⟨d,rfl⟩:=a;exact in_str<|tN I q rfl
def bJ4:Yf X (compareOp .Is) (λx y H Q=>y=.xc/\Q (.bl<|decide (x=.xc)) H):=by
 intro d s c H x y v u Q I b a h;obtain⟨rfl,q⟩:=h;cases a;refine is_none_gen<|tN I q ?_;cases x<;>first
  |(rfl)
  |(obtain⟨t,rfl⟩:=b;rfl)
def Ö:Yf X (compareOp .NotIn) (λx y H Q=>∃i j,x=.str i/\y=.str j/\Q (.bl<|!(!(Builtin.Str.occurrences j i 0 j.length 1).isEmpty)) H):=by
 intro e s c H x y v u Q I b a h;obtain⟨i,j,rfl,rfl,q⟩:=h;obtain⟨t,rfl⟩:=b;obtain⟨d,rfl⟩:=a;exact notIn_str<|tN I q rfl
def Yf.or{f:Value->Value->Sem Value}(h:Yf X f r)(e:Yf X f r'):Yf X f (λx y H Q=>r x y H Q\/r' x y H Q):=by
 intro d s a H x y v u Q I c b q;rcases q with q|q
 .exact h d s a H x y v u Q I c b q
 exact e d s a H x y v u Q I c b q
def u5(b:Expr){op:CmpOp}(h:op≠.In:=by decide)(a:op≠.NotIn:=by decide):behindInMarks op b=false:=by
 have e1:(op==CmpOp.In)=false:=by cases op<;>first|rfl|exact absurd rfl h
 have e2:(op==CmpOp.NotIn)=false:=by cases op<;>first|rfl|exact absurd rfl a
 cases b<;>simp[behindInMarks,e1,e2]
def bDw(g:Yf X (compareOp op) r)(k:PE X a ta)(j:PE X b tb)(i:behindInMarks op b=false):PE X (.Compare a [op] [b] pos) (KC r ta tb):=by
 intro l s c H Q I h;exact wpAny_Compare1 (lP k j I h λv u d x y n m f e q=>g l d c n x y v u Q m f e q) i
def bM7(t:TE):TT:=λa H Q=>t a H λx b=>∃k,x=.bl k/\Q k b
def bDx(o:Yf X (compareOp op) r)(t:PE X a ta)(q:PE X b tb)(p:behindInMarks op b=false):PT X (.Compare a [op] [b] pos) (bM7<|KC r ta tb):=by
 intro f s d H Q I h;refine wpAny_isTrue_Compare1 (Cc (t f s d H _ I h) λv i ⟨x,C,A,l,n⟩=>Cc (q f i d C _ A n) λu g ⟨y,B,w,j,m⟩=>
  Cc (o f g d B x y v u _ w l j m) λc D ⟨z,H3,I3,r3,k,e,q3⟩=>?_) p
 subst e;cases r3;exact ou ⟨H3,I3,q3⟩
def Gy:(sizeLine:Nat)<2^63:=by decide
def Ę:Yf X (binaryOp .Add) (λx y H Q=>∃i j,x=.str i/\y=.str j/\i.length+j.length<=sizeLine/\Q (.str<|i++j) H):=by
 intro g s e H x y v u Q I c b h;obtain⟨i,j,rfl,rfl,d,q⟩:=h;obtain⟨t,rfl⟩:=c;obtain⟨a,rfl⟩:=b;exact add_str (λa f=>⟨.str _,H,I.tok _,⟨_,rfl⟩,q⟩) d
def vals1{x:V}(r:Ka [x] us):∃u,us=[u]/\RelV x u:=by
 cases r with
 |cons b a=>cases a;exact⟨_,rfl,b⟩
def vals2{x y:V}(r:Ka [x,y] us):∃u a,us=[u,a]/\RelV x u/\RelV y a:=by
 cases r with
 |cons e d=>
  cases d with
  |cons c b=>cases b;exact⟨_,_,rfl,e,c⟩
def ł(b:X.calm=true):lY X (.builtin "max") (λxs H Q=>∃i j,xs=[.int i,.int j]/\Q (.int<|if j>i then j else i) H):=by
 intro m s c H xs e Q I r h;obtain⟨i,j,rfl,q⟩:=h;obtain⟨u,d,rfl,⟨t,rfl⟩,⟨g,rfl⟩⟩:=vals2 r;refine max_two_ints (I.ok.hd b) λl f k=>⟨_,H,I.kept k,?_,q⟩
 by_cases a:j>i
 .rw[Kb a,Kb a];exact⟨_,rfl⟩
 rw[Pa a,Pa a];exact⟨_,rfl⟩
def Ń(b:X.calm=true):lY X (.builtin "min") (λxs H Q=>∃i j,xs=[.int i,.int j]/\Q (.int<|if j<i then j else i) H):=by
 intro m s c H xs e Q I r h;obtain⟨i,j,rfl,q⟩:=h;obtain⟨u,d,rfl,⟨t,rfl⟩,⟨g,rfl⟩⟩:=vals2 r;refine min_two_ints (I.ok.hd b) λl f k=>⟨_,H,I.kept k,?_,q⟩
 by_cases a:j<i
 .rw[Kb a,Kb a];exact⟨_,rfl⟩
 rw[Pa a,Pa a];exact⟨_,rfl⟩
def ń:lY X (.type "int") (λxs H Q=>(∃i,xs=[.int i]/\Q (.int i) H)\/∃k,xs=[.bl k]/\Q (.int<|if k then 1 else 0) H):=by
 intro d s b H xs c Q I r h;rcases h with ⟨i,rfl,q⟩|⟨k,rfl,q⟩
 .obtain⟨u,rfl,t,rfl⟩:=vals1 r;exact call_int_int ⟨.int i,H,I,⟨_,rfl⟩,q⟩
 obtain⟨u,rfl,a⟩:=vals1 r;cases a;exact call_int_bool ⟨.int _,H,I.tok _,⟨_,rfl⟩,q⟩
end
structure Hk(h:Heap)(x dx C:Addr)(mA:dL):Prop where
 obj:h.get? x=some (PySem.W.instObj C dx)
 ns:h.Ns1 dx mA
 ne:dx≠x
def Ņ{h:Heap}{d:dL}(n:h.Ns1 dx d):∃c,h.get? dx=some c/\∀b,PySem.W.lookIn b c=some (d b):=by
 obtain⟨o,l,p,g,k,j,_,i⟩:=n;refine⟨o,g,λb=>?_⟩
 have e:=i b;unfold nsFind findBy at e;rw[<-Array.find?_toList]at e;unfold PySem.W.lookIn;rw[k];dsimp only;split
 .rename_i y q;rw[q]at e;exact congrArg some e
 rename_i q;rw[q]at e;have a:l.toList.any (·.refKey)=false:=by
  rw[CQ];intro y f;obtain⟨z,t,m⟩:=j y<|g9.mp f;simp[DictEntry.refKey,m]
 rw[Pa (by rw[a];exact jo)]
 exact congrArg some e
def Hk.look{c:dL}(I:Hk h x dx C c):∃b,PySem.W.InstAt h x (PySem.W.instObj C dx) C (some b)/\∀a,PySem.W.lookIn a b=some (c a):=
 let ⟨b,d,e⟩:=Ņ I.ns
 ⟨b,⟨I.obj,rfl,rfl,d⟩,e⟩
section
variable{prog:Program}{w:World}{A:Around}{E:be}{s:Shared}{K:PySem.W.Frag}{x dx C f:Addr}{mA:dL}{name:Str}{v:Value}
def get_map{Q:be}(X:K.In s.heap)(I:Hk s.heap x dx C mA)(d:PySem.W.plainGet K C name=true)(c:PySem.W.hasDictIn K C=true)
  (e:PySem.W.findIn K (.ref C) name=some none) (a:mA name=some v) (f:PySem.W.handedIn v=true) (h:Q v {s with toks:=s.toks+1}) :
  wpAny (model prog w) A (getAttr (.ref x) name expr) Q E s:=by
 obtain⟨g,J,b⟩:=I.look;exact PySem.W.get_value X J (oQ d).1 (PySem.W.findObj_own c e rfl<|by rw[b,a]) f h
def aZf{Q:Value×List Value->Shared->Prop}(X:K.In s.heap)(I:Hk s.heap x dx C mA)(a:PySem.W.plainGet K C name=true)
  (g:PySem.W.findIn K (.ref C) name=some (some<|.ref f)) (d:PySem.W.isFn K (.ref f)=true) (c:mA name=none) (h:Q (.ref f,[.ref x]) s) :
  wpAny (model prog w) A (getMethod (.ref x) name pl) Q E s:=by
 obtain⟨b,J,e⟩:=I.look;exact PySem.W.method_fn X J (oQ a).1 (oQ a).2 g (Fm.mp d) (by show (PySem.W.lookIn name b).map _=some false;rw[e,c];rfl) h
theorem bDy{Q:u8}(X:K.In s.heap)(I:Hk s.heap x dx C mA)
  (k:PySem.W.findIn K (.ref C) "__setattr__"=some (some<|.builtin "object.__setattr__")) (l:PySem.W.plainOver K C=true) (j:PySem.W.takerIn K C name=some none) (m:PySem.W.hasDictIn K C=true)
  (i:PySem.Within mA ns) (r:ns.length<=sizeLine)
  (h:∀a,Hk a x dx C (λy=>if y=name then some v else mA y)->Heap.SameBut dx s.heap a->Q () {s with heap:=a,toks:=s.toks+2}) :
  wpAny (model prog w) A (setAttr (.ref x) name v) Q E s:=by
 obtain⟨t,J,z⟩:=I.look;refine PySem.W.set_plain X J k<|PySem.W.osa_open X J l j λb=>?_
 obtain⟨B,n,q⟩:=PySem.W.any_some m;refine xa<|Ua<|xa<|xa<|wpAny_loadPart I.obj<|xa<|PySem.W.Looks.here (PySem.W.looks_clsIn X n) ?_;rw[q];refine Ua<|xa<|Ua<|xa<|wpAny_nsSet1 I.ns λa g f=>?_
 obtain⟨u,o,p,c,d,e⟩:=g.count<|PySem.Within.cons name v i;exact xa<|wpAny_lookBehind c (by rw[d];exact pastItsLine_dict<|Nh e<|by rw[fg];lia)<|Ua<|h _ ⟨(f.2 _<|uh I.ne).trans I.obj,g,I.ne⟩ f
def YY{R:Result->pp}{vs:ca}{b:AC}(X:K.In s.heap)(c:PySem.W.makesIn K C=true)
  (d:PySem.W.findIn K (.ref C) "__init__"=some (some<|.ref f)) (e:PySem.W.typeIn K (.ref f)=some (.type "function"))
  (h:codeAny (model prog w) (A.under<|.builtin "type.__call__" ⟨.ref C::vs,b⟩) (.call (.ref f) ⟨.ref (s.heap.objs.size+1)::vs,b⟩) (PySem.W.InitBack (s.heap.objs.size+1) R)
   {s with heap:=(s.heap.push PySem.W.emptyDict).push (PySem.W.instObj C s.heap.objs.size)}) :
  codeAny (model prog w) A (.call (.ref C) ⟨vs,b⟩) R s:=by
 exact PySem.W.make_core (PySem.W.makes_of X c) (PySem.W.looks_findIn X d) (λa=>PySem.W.bind_fn X a e) (.inl rfl) h
end
def zT(f:Str)(v:V):List (Str×V)->List (Str×V)
 |[]=>[(f,v)]
 |(g,x)::r=>if g=f then (g,v)::r else (g,x)::zT f v r
theorem HW(f g:Str)(v:V):∀fs:zn,(zT f v fs).lookup g=if g=f then some v else fs.lookup g
 |[]=>by
  show List.lookup g [(f,v)]=_
  by_cases h:g=f
  .simp[List.lookup,(beq_iff_eq.mpr h),if_pos h]
  simp only[List.lookup,(beq_eq_false_iff_ne.mpr h),if_neg h]
 |(k,x)::r=>by
  rw[show zT f v _=(if k=f then (k,v)::r else (k,x)::zT f v r) from rfl]
  by_cases a:k=f
  .rw[Kb a]
   by_cases h:g=k
   .simp[List.lookup,(beq_iff_eq.mpr h),if_pos<|h.trans a]
   simp[List.lookup,(beq_eq_false_iff_ne.mpr h),if_neg (λe:g=f=>h<|e.trans a.symm)]
  rw[Pa a]
  by_cases h:g=k
  .simp only[List.lookup,(beq_iff_eq.mpr h),if_neg (λe:g=f=>a<|h.symm.trans e)]
  simp[List.lookup,(beq_eq_false_iff_ne.mpr h)];exact HW f g v r
theorem QK(f:Str)(v:V):∀fs:zn,f∈(zT f v fs).map (·.1)/\∀g,g∈fs.map (·.1)->g∈(zT f v fs).map (·.1)
 |[]=>⟨by simp[zT],λg h=>by simp at h⟩
 |(k,x)::r=>by
  obtain⟨c,b⟩:=QK f v r;rw[show zT f v _=(if k=f then (k,v)::r else (k,x)::zT f v r) from rfl]
  by_cases a:k=f
  .subst a;exact⟨by simp,λg h=>by simpa using h⟩
  rw[Pa a];refine⟨?_,λg h=>?_⟩
  .exact Lc _ c
  rcases qc.mp h with e|e
  .exact qc.mpr (.inl e)
  exact Lc _<|b g e
theorem IW(f:Str)(v:V):∀fs:zn,(zT f v fs).length<=fs.length+1
 |[]=>by simp[zT]
 |(k,x)::r=>by
  have b:=IW f v r;rw[show zT f v _=(if k=f then (k,v)::r else (k,x)::zT f v r) from rfl]
  by_cases a:k=f
  .rw[Kb a,fg,fg];lia
  rw[Pa a,fg,fg];lia
def zO.some_of(r:zO (some v) o):∃u,o=some u/\RelV v u:=by
 cases o with
 |none=>exact(r).elim
 |some u=>exact⟨u,rfl,r⟩
def zO.none_of(r:zO none o):o=none:=by
 cases o with
 |none=>rfl
 |some u=>exact(r).elim
def ņ(r:RelV v u):PySem.W.handedIn u=true:=by
 cases v with
 |xc=>cases (r);rfl
 |bl b=>cases (r);rfl
 |int i=>obtain⟨t,e⟩:=(r);cases e;rfl
 |str x=>obtain⟨t,e⟩:=(r);cases e;rfl
 |ZH b=>obtain⟨t,e⟩:=(r);cases e;rfl
 |Eu b=>obtain⟨t,e⟩:=(r);cases e;rfl
 |ref a=>cases (r);rfl
 |ty n=>cases (r);rfl
section
variable{P:Program}{w:World}{H H':Hp}{h h':Heap}{a C dx:Addr}{fs fs':zn}
def gE(g:Bf P w H h)(e:H a=some (.ins C dx fs)):∃b,Hk h a dx C b/\(∀f,zO (fs.lookup f)<|b f)/\PySem.Within b (fs.map (·.1))/\fs.length<=1000/\H dx=some (.own a):=by
 obtain⟨d,z,c,ob,b,n,r,q⟩:=((g a _ e));exact⟨b,⟨ob,n,c⟩,r,q,z,d⟩
end
structure Wm(K:PySem.W.Frag)(C:Addr):Prop where
 pg:PySem.W.plainGet K C Str.empty=true
 hd:PySem.W.hasDictIn K C=true
 po:PySem.W.plainOver K C=true
 sa:PySem.W.findIn K (.ref C) "__setattr__"=some (some<|.builtin "object.__setattr__")
def Wm.get{K:PySem.W.Frag}(c:Wm K C)(f:Str):PySem.W.plainGet K C f=true:=c.pg
def bV(K:PySem.W.Frag)(C:Addr)(f:Str):Prop:=PySem.W.findIn K (.ref C) f=some none
def bV.MC{K:PySem.W.Frag}(n:bV K C f):PySem.W.takerIn K C f=some none:=by
 unfold PySem.W.takerIn;rw[n];rfl
structure Meth(K:PySem.W.Frag)(C:Addr)(m:Str)(f:Addr):Prop where
 at_:PySem.W.findIn K (.ref C) m=some (some<|.ref f)
 fn:PySem.W.isFn K (.ref f)=true
 kp:PySem.W.keepIn K (.ref f)=true
section
variable{X:Cx}{aa:ce}{σ:St}{H:Hp}{s:Shared}{a C dx:Addr}{fs:zn}{f:Str}{v:V}{A:Around}{E:be}
def ę{Q:be}(I:Ea X aa σ H s)(e:H a=some (.ins C dx fs))(c:Wm X.K C)(n:bV X.K C f)(l:fs.lookup f=some v)
  (h:∀u d,Ea X aa σ H d->RelV v u->Q u d):wpAny (model X.prog X.w) A (getAttr (.ref a) f b) Q E s:=by
 obtain⟨j,O,r,_,_,_⟩:=gE I.Xa e;obtain⟨u,i,g⟩:=zO.some_of (by rw[<-l];exact r f)
 exact get_map I.Hf O (c.get f) c.hd n i (ņ g)<|h u _ (I.tok _) g
def eK{Q:Value×List Value->Shared->Prop}(I:Ea X aa σ H s)(e:H a=some (.ins C dx fs))(c:Wm X.K C)(k:Meth X.K C m g)(l:fs.lookup m=none)
  (h:Q (.ref g,[.ref a]) s):wpAny (model X.prog X.w) A (getMethod (.ref a) m pl) Q E s:=by
 obtain⟨b,O,r,_,_,_⟩:=gE I.Xa e;exact aZf I.Hf O (c.get m) k.at_ k.fn (zO.none_of<|by rw[<-l];exact r m) h
theorem Ě{Q:u8}(I:Ea X aa σ H s)(e:H a=some (.ins C dx fs))(c:Wm X.K C)(n:bV X.K C f)(w:fs.length<1000)(v:RelV y u)
  (h:∀j,Ea X aa σ (Tb H a<|.ins C dx<|zT f y fs) j->Q () j):wpAny (model X.prog X.w) A (setAttr (.ref a) f u) Q E s:=by
 obtain⟨l,O,r,i,_,m⟩:=gE I.Xa e;refine bDy I.Hf O c.sa c.po n.MC c.hd i (by rw[Yc,Pp];lia) λx d k=>h _<|I.write (by rw[e];exact True.intro) (.inr m) (λb q p z=>(k.2 b p).trans z) (let ⟨o,_,_,t,_⟩:=d.ns;⟨o,t⟩)<|⟨by rwa [aZ O.ne],?_,O.ne,d.obj,_,d.ns,λg=>?_,λg hg=>?_⟩
 .have:=IW f y fs;lia
 .rw[HW]
  by_cases q:g=f
  .rwa [Kb q,Kb q]
  rw[Pa q,Pa q];exact r g
 by_cases q:g=f
 .rw[q];exact(QK f y fs).1
 refine(QK f y fs).2 g (i g λz=>hg ?_)
 show (if g=f then some u else l g)=none
 rwa [Pa q]
def Ea.made(I:Ea X aa σ H s):Ea X aa σ (Tb (Tb H s.heap.objs.size<|.own<|s.heap.objs.size+1) (s.heap.objs.size+1)<|.ins C s.heap.objs.size [])
  {s with heap:=(s.heap.push PySem.W.emptyDict).push (PySem.W.instObj C s.heap.objs.size)}:=by
 have e1:(s.heap.push PySem.W.emptyDict).get? s.heap.objs.size=some PySem.W.emptyDict:=Af s.heap rfl;refine(I.laid (o:=.own _) (t':=s.toks) (λb u q=>vc _ q) (Ec _) ⟨_,e1⟩).laid (λb u q=>vc _ q) (Nz<|Xh _ _) ?_
 have a:s.heap.objs.size≠s.heap.objs.size+1:=ff<|Np _;refine⟨by rw[aZ a,bO],rh _,a,(by
  have:=Af (s.heap.push PySem.W.emptyDict) (o:=PySem.W.instObj C s.heap.objs.size) rfl
  rwa [Xh]at this),λ_=>none,(Heap.Ns1.of_empty<|⟨PySem.W.emptyDict, #[],_,e1,rfl,(λe d=>absurd d<|by simp),λ_=>rfl⟩).at λo q=>vc _ q,λ_=>True.intro,λy c=>absurd rfl c⟩
def bDz{w:World}{f:Str}{s:Shared}{Q:be}(a:Ak e f env)
  (h:wpAny (model prog w) A (eval e env) (λo b=>wpAny (model prog w) A (getAttr o f true) Q E b) E s):wpAny (model prog w) A (eval (.Attribute e f pos) env) Q E s:=
 Attribute_any_ h (by rw[arm_eval_Attribute,a])
end
def bP6(K:PySem.W.Frag)(d:TE)(f:Str):TE:=λc H Q=>d c H λx b=>∃a C e fs v,x=.ref a/\b a=some (.ins C e fs)/\Wm K C/\bV K C f/\fs.lookup f=some v/\Q v b
def bP7(K:PySem.W.Frag)(g e:TE)(f:Str):TS:=λD b H=>e b H λy h=>g b h λx d=>∃a C c fs,x=.ref a/\d a=some (.ins C c fs)/\Wm K C/\bV K C f/\fs.length<1000/\
 D.nx b (Tb d a<|.ins C c<|zT f y fs)
section
variable{X:Cx}{o e value:Expr}{f:Str}{pos pos' tpos:Pos}{ta tv:TE}
def bJ5(he:PE X e ta)(i:Ak e f X.env):PE X (.Attribute e f pos) (bP6 X.K ta f):=by
 intro m s b H Q I h;refine bDz i<|Cc (he m s b H _ I h) λu y ⟨x,r,p,d,a,C,z,fs,v,j,k,c,n,l,q⟩=>?_
 subst j;obtain rfl:u=Value.ref a:=d;exact ę p k c n l λt w o g=>⟨v,r,o,g,q⟩
def v5(j:PE X o ta)(g:PE X value tv)(i:Bk value (some<|.Attribute o f pos') pos.line X.env):PS X (.Assign [.Attribute o f pos'] value pos) (bP7 X.K ta tv f):=by
 intro d s b H D I h;refine plainObj_wpAny_Assign_Attribute (Cc (g d s b H _ I h) λu e ⟨y,p,m,ry,q⟩=>Cc (j d e b p _ m q) λov t ⟨x,w,I2,rx,a,C,v,fs,ex,ea,c,n,l,q2⟩=>?_) i
 subst ex;obtain rfl:ov=Value.ref a:=rx;exact Ě I2 ea c n l ry λr k=>⟨b,_,k,q2⟩
end
section
variable{X:Cx}{aa:ce}{σ:St}{H:Hp}{s:Shared}{A:Around}{E:be}{Q:be}{c:Value}{b:Bool}
inductive Jh (K:PySem.W.Frag) (H:Hp):V->Value->Prop where
 |xc:Jh K H .xc (.type "NoneType")
 |bl (x:Bool):Jh K H (.bl x) (.type "bool")
 |int (i:Int):Jh K H (.int i) (.type "int")
 |str (x:Str):Jh K H (.str x) (.type "str")
 |Eu (x:UInt64):Jh K H (.Eu x) (.type "float")
 |lst {a:Addr} {xs:lw} (e:H a=some (.lst xs)):Jh K H (.ref a) (.type "list")
 |Vk {a:Addr} {o:Obj} {xs:lw} (e:H a=some (.Vk o<|.lst xs)):Jh K H (.ref a) (.type "list")
 |tup {a:Addr} {xs:lw} (e:H a=some (.tup xs)):Jh K H (.ref a) (.type "tuple")
 |dK {a:Addr} {Ca:Fk} (e:H a=some (.dK Ca)):Jh K H (.ref a) (.type "dict")
 |dT {a:Addr} {Ca:wS} (e:H a=some (.dT Ca)):Jh K H (.ref a) (.type "dict")
 |ins {a C dx:Addr} {fs:zn} (e:H a=some (.ins C dx fs)) (cl:Wm K C) (ha:PySem.W.findIn K (.ref C) "__class__"=some (some<|.builtin "object.__class__"))
   (hn:PySem.W.specialIn K (.builtin "object.__class__") "__get__"=some (some<|.builtin "getset_descriptor.__get__")) (S9:PySem.W.takesIn K (.builtin "object.__class__")=some true)
   (hm:PySem.W.mroIn K C (.type "object")=some true):Jh K H (.ref a) (.ref C)
def Ň{t:Value}(I:Ea X aa σ H s)(d:RelV x u)(ty:Jh X.K H x t)(e:PySem.W.kitOne X.K t c=some b)(h:∀m,Q (.bool b) {s with toks:=m}) :
  wpAny (model X.prog X.w) A (call (.builtin "isinstance") [u,c]) Q E s:=by
 cases ty with
 |xc=>cases (d);exact zj PySem.W.kitx_none I.Hf True.intro e (λz=>nomatch z) h
 |bl y=>cases (d);exact zj PySem.W.kitx_bool I.Hf True.intro e (λz=>nomatch z) h
 |int i=>obtain⟨t,q⟩:=(d);cases q;exact zj PySem.W.kitx_int I.Hf True.intro e (λz=>nomatch z) h
 |str y=>obtain⟨t,q⟩:=(d);cases q;exact zj PySem.W.kitx_str I.Hf True.intro e (λz=>nomatch z) h
 |Eu y=>obtain⟨t,q⟩:=(d);cases q;exact zj PySem.W.kitx_float I.Hf True.intro e (λz=>nomatch z) h
 |@lst a k f=>
  cases (show u=Value.ref a from d)
  obtain⟨_,_,n,_,g⟩:=((I.Xa a _ f));exact zj DQ I.Hf ⟨_,g,rfl⟩ e (λz=>nomatch z) h
 |@Vk a ob k f=>
  cases (d);obtain⟨_,_,_,n,_,g⟩:=((I.Xa a _ f));exact zj DQ I.Hf ⟨_,g,rfl⟩ e (λz=>nomatch z) h
 |@tup a k f=>
  cases (d);obtain⟨_,_,_,p⟩:=((I.Xa a _ f));obtain⟨o,g,j,_⟩:=p;exact zj PySem.W.kitx_tuple I.Hf ⟨o,g,j⟩ e (λz=>nomatch z) h
 |@dK a G f=>
  cases (d);obtain⟨_,_,K,_,p⟩:=((I.Xa a _ f));obtain⟨o,B,D,g,j,_⟩:=p;exact zj EQ I.Hf ⟨o,g,j.1⟩ e (λz=>nomatch z) h
 |@dT a G f=>
  cases (show u=Value.ref a from d)
  obtain⟨_,_,k,_,o,B,D,g,j,_⟩:=((I.Xa a _ f));exact zj EQ I.Hf ⟨o,g,j.1⟩ e (λz=>nomatch z) h
 |@ins a C N fs f l w r F v=>
  cases (d);obtain⟨M,O,_⟩:=gE I.Xa f;obtain⟨L,J,_⟩:=O.look;exact zj (PySem.W.kitx_own (l.get _) l.hd w r F v) I.Hf J e (λz=>nomatch z) h
end
structure Cb(k:Nat)(A:Around):Prop where
 hd:A.handled=none
 dp:A.depth+3*k+5<recursionLimit
 un:A.units+16*k+200<cLine
theorem Cb.mono{j k:Nat}(r:Cb k A)(h:j<=k):Cb j A:=⟨r.hd,by have:=r.dp;lia,by have:=r.un;lia⟩
theorem Cb.deeper{k:Nat}(r:Cb (k+1) A)(env:Env):Cb k (A.deeper env):=
 ⟨r.hd,by have:=r.dp;show A.depth+1+3*k+5<_;lia,by have:=r.un;show A.units+3+16*k+200<_;lia⟩
theorem Cb.in1{k:Nat}(r:Cb (k+1) A):Cb k A.in1:=
 ⟨r.hd,by have:=r.dp;lia,by have:=r.un;lia⟩
def ě{A:Around}{C:Addr}{a:ca}{b:AC}:(A.under<|.builtin "type.__call__" ⟨.ref C::a,b⟩).depth=A.depth+1:=by
 first|rfl|simp
def Ĝ{A:Around}{C:Addr}{a:ca}{b:AC}:(A.under<|.builtin "type.__call__" ⟨.ref C::a,b⟩).units=A.units+1:=by
 first|rfl|simp
theorem Cb.make{k:Nat}{A:Around}(r:Cb (k+1) A)(C:Addr)(a:ca)(b:AC):Cb k (A.under<|.builtin "type.__call__" ⟨.ref C::a,b⟩):=
 ⟨r.hd,by have:=r.dp;rw[ě];lia,by have:=r.un;rw[Ĝ];lia⟩
theorem Cb.depth{k:Nat}(r:Cb k A):A.depth<recursionLimit:=by have:=r.dp;lia
theorem Cb.units{k:Nat}(r:Cb k A):A.units+64<cLine:=by have:=r.un;lia
def U7:TA:=λ_ H Q=>Q [] H
def bM9(d:TE)(c:TA):TA:=λa H Q=>d a H λx f=>c a f λb e=>Q (x::b) e
section
variable{X:Cx}{e:Expr}{es:List Expr}{te:TE}{t:TA}{pos:Pos}
def fJ:PA X [] U7:=λ_ _ _ _ H Q I h=>Calls.spliced_nil ⟨[],H,I,.nil,h⟩
def cM(m:PE X e te)(l:PA X es t)(k:Oe e es X.env:=by rfl):PA X (e::es) (bM9 te t):=by
 intro pos b s a H Q I h;rw[k];refine Calls.spliced_cons<|Cc (m b s a H _ I h) λu d ⟨x,q,o,g,j⟩=>?_
 exact Cc (l pos b d a q _ o j) λr v ⟨c,p,n,f,i⟩=>⟨x::c,p,n,.cons g f,i⟩
def bP8(t:TA):TE:=λc H Q=>t c H λa b=>a.length<=sizeLine/\∀p,b p=none->Q (.ref p) (Tb b p<|.tup a)
def bP9(t:TA):TE:=λc H Q=>t c H λa b=>a.length<=sizeLine/\∀p,b p=none->Q (.ref p) (Tb b p<|.lst a)
def bJ6{x1}(h:PA X es t):PE X (.Tuple es x1 pos) (bP8 t):=by
 intro j s d H Q I i;exact wpAny_Tuple_spliced<|Cc (h pos j s d H _ I i) λg a ⟨f,k,c,r,z,q⟩=>⟨by rwa [<-r.length],(⟨.ref a.heap.objs.size,Tb k a.heap.objs.size<|.tup f,c.laid (λb u e=>vc _ e) (Ec _)<|⟨z,g,r,⟨_,Af _ rfl,rfl,_,rfl⟩⟩,rfl,q _<|c.Xa.fresh<|Ec _⟩)⟩
def A5(h:PA X es t):PE X (.List es pos) (bP9 t):=by
 intro j s d H Q I i;exact wpAny_List_spliced<|Cc (h pos j s d H _ I i) λg a ⟨f,k,c,r,z,q⟩=>⟨by rwa [<-r.length],(⟨.ref a.heap.objs.size,Tb k a.heap.objs.size<|.lst f,c.laid (λb u e=>vc _ e) (Ec _)<|⟨z,g,0,r,Af _ rfl⟩,rfl,q _<|c.Xa.fresh<|Ec _⟩)⟩
end
abbrev Sp:=List V->Hp->VK->XK->Prop
abbrev gq:=List Env->Hp->Shared->XK->be
structure cj(P:Program)(w:World)(K:PySem.W.Frag)(mg:dL)(base:Heap)(A:Around)(outer:xz)(s:Shared)(H:Hp):Prop where
 frames:A.frames=some outer
 mod:Mod K mg base
 bs:∀b o,base.get? b=some o->s.heap.get? b=some o/\H b=none
 Cn:base.objs.size<=s.heap.objs.size
 Ig:s.heap.FunFrames base outer
 Rp:∀b∈Xg outer,H b=none
 Xa:Bf P w H s.heap
 bare:AllBare s.gens
def CE(a:xz)(P:Program)(w:World)(H:Hp)(s:Shared)(Q:VK)(u:Value)(b:Shared):Prop:=
 ∃v c,b.os=s.os/\AllBare b.gens/\Un (Xg a) [] H c s.heap b.heap/\Bf P w c b.heap/\RelV v u/\Q v c
def CR(CX:gq)(a:xz)(P:Program)(w:World)(H:Hp)(s:Shared)(Q:VK)(E:XK)(r:Result)(b:Shared):Prop:=
 match r with
 |.ok (.ret u)=>CE a P w H s Q u b
 |.ok _=>False
 |.error e=>CX a H s E e b
structure Ha(P:Program)(w:World)(K:PySem.W.Frag)(mg:dL)(base:Heap)(CX:gq)(k:Nat)(f:Addr)(fd:FuncData)(ps:ut)(sp:Sp):Prop where
 len:∀vs H Q E,sp vs H Q E->vs.length=ps.length
 run:∀(A:Around)(outer:xz)(s:Shared)(H:Hp)(args:Args)(us:ca)(vs:lw)(Q:VK)(E:XK),Cb k A->cj P w K mg base A outer s H->BindsTo s fd args (ps.zip us)->Ka vs us->sp vs H Q E->
  codeAny (model P w) A (.call (.ref f) args) (CR CX outer P w H s Q E) s
def cj.make{w:World}{K:PySem.W.Frag}{mg:dL}{A:Around}(e:cj P w K mg base A outer s H)(C:Addr)(a:ca)(b:AC) :
  cj P w K mg base (A.under<|.builtin "type.__call__" ⟨.ref C::a,b⟩) outer s H:=⟨by first|exact e.frames|(simpa [Around.under,Code.envs,Code.isFrame,pushEnvs] using e.frames),e.mod,e.bs,e.Cn,e.Ig,e.Rp,e.Xa,e.bare⟩
theorem cj.in1{w:World}{K:PySem.W.Frag}{mg:dL}(e:cj P w K mg base A outer s H) :
  cj P w K mg base A.in1 outer s H:=⟨e.frames,e.mod,e.bs,e.Cn,e.Ig,e.Rp,e.Xa,e.bare⟩
section
variable{X:Cx}{aa:ce}{σ:St}{H:Hp}{s s':Shared}
def Ea.yo(I:Ea X aa σ H s):cj X.prog X.w X.K X.mg X.base X.A X.stack s H:=
 ⟨I.ok.frames,I.ok.mod,I.bs,Nh I.ok.Cn I.sz,I.stack,I.ai,I.Xa,I.bare⟩
def Ea.after(I:Ea X aa σ H s)(h:CE X.stack X.prog X.w H s Q u s'):EP X aa σ Q u s':=by
 obtain⟨v,f,os,a,un,e,r,q⟩:=h;obtain⟨i,g,d,t,c⟩:=s';obtain rfl:c=s.os:=os;exact⟨v,f,I.call un e a<|λb z=>absurd z<|by simp,r,q⟩
end
def bMa(sp:Sp)(Ld:lw)(E:XK)(t:TA):TE:=λa H Q=>t a H λb c=>sp (b++Ld) c Q E
def V6(C:Addr)(m:Str)(sp:Sp)(Ld:lw)(E:XK)(e:TE)(t:TA):TE:=λb H Q=>e b H λx c=>∃a f fs,x=.ref a/\c a=some (.ins C f fs)/\fs.lookup m=none/\
 t b c λd g=>sp (x::(d++Ld)) g Q E
def bMb(C:Addr)(sp:Sp)(Ld:lw)(E:XK)(t:TA):TE:=λc H Q=>t c H λd b=>∀x a,b x=none->b a=none->a≠x->
 sp (.ref x::(d++Ld)) (Tb (Tb b a<|.own x) x<|.ins C a []) (λv e=>v=.xc/\Q (.ref x) e) E
def Binds(K:PySem.W.Frag)(c:FuncData)(ps:ut)(b:ca):Prop:=
 ∀(s:Shared)(a:ca),K.In s.heap->(a++b).length=ps.length->BindsTo s c ⟨a,[]⟩ (ps.zip<|a++b)
def Binds.all{K:PySem.W.Frag}{ps:ut}(h:∀a:ca,a.length=ps.length->bindArgs fd ⟨a,[]⟩=pure (ps.zip a)):Binds K fd ps []:=λs a _ b=>by
 rw[so]at b ⊢;exact .of_eq<|h a b
def Et(CX:gq)(X:Cx)(E:XK):Prop:=∀(c:ce) (b:St) (H:Hp) (s:Shared) (e:Value) (a:Shared),Ea X c b H s->CX X.stack H s E e a->X.xe e a
section
variable{X:Cx}{CX:gq}{k:Nat}{f C:Addr}{fd:FuncData}{ps:ut}{sp:Sp}{Ld:lw}{ds:ca}{E:XK}{x m:Str}{p pos Fb:Pos}{e o:Expr}{es:List Expr}{ta:TE}{t:TA}
def AN(F:Ha X.prog X.w X.K X.mg X.base CX k f fd ps sp)(g:Cb k X.A)(j:Binds X.K fd ps ds)(i:Ka Ld ds)(d:Et CX X E)
  (I:Ea X aa σ H s) (r:Ka vs us) (h:sp (vs++Ld) H Q E):wpAny (model X.prog X.w) X.A (call (.ref f) us) (EP X aa σ Q) X.xe s:=by
 have b:=r.append i;refine gx<|Em (F.run X.A X.stack s H _ _ _ Q E g I.yo (j s us I.Hf<|by rw[<-b.length];exact F.len _ _ _ _ h) b h) λr c a=>?_
 cases r with
 |error e=>exact d aa σ H s e c I a
 |ok l=>
  cases l with
  |ret u=>exact I.after a
  |next=>exact False.elim a
  |brk=>exact False.elim a
  |cont=>exact False.elim a
def F2(F:Ha X.prog X.w X.K X.mg X.base CX k f fd ps sp)(g:Cb k X.A)(l:Gl X x)(i:X.mg x=some (.ref f))(j:PySem.W.keepIn X.K (.ref f)=true)(n:Binds X.K fd ps ds)(m:Ka Ld ds)(d:Et CX X E)
  (o:PA X (e::es) t) (c:dg x:=by decide) (he:Oe e es X.env:=by rfl) (hpl:lh pos es X.env:=by rfl) :
  PE X (.Call (.Name x p) (e::es) [] pos) (bMa sp Ld E t):=by
 intro u s b H Q I h;exact Bq<|xQ I l i (Ww I.ok.mod.Tj j (Cc (o pos u s b H _ I h) λw y ⟨v,z,a,r,q⟩=>⟨a.Hf,(AN F g n m d a r q)⟩) he hpl) c
def mM(he:PE X o ta)(c:Wm X.K C)(g:Meth X.K C m f)(F:Ha X.prog X.w X.K X.mg X.base CX k f fd ps sp)(y:Cb k X.A)(A:Binds X.K fd ps ds)(z:Ka Ld ds)(v:Et CX X E)(B:PA X (e::es) t)
  (D:Oe e es X.env:=by rfl) (hpl:lh pos es X.env:=by rfl)
  (w:eval (.Call (.Attribute o m Fb) (e::es) [] pos) X.env=(do
   let d <- eval o X.env
   standAt Fb.atName
   let (f,first) <- holding [d] (getMethod d m pl)
   callWith pos f first (backTo pos<|starEach (e::es) X.env) (backToKw pos<|keywordEach [] X.env)):=by rfl) :
  PE X (.Call (.Attribute o m Fb) (e::es) [] pos) (V6 C m sp Ld E ta t):=by
 intro i s b H Q I h;refine RP (Cc (he i s b H _ I h) λu s1 ⟨x,H1,I1,rx,a,K,fs,ex,ea,l,q⟩=>?_) w
 subst ex;obtain rfl:u=Value.ref a:=rx;exact eK I1 ea c g l<|Ww I.ok.mod.Tj g.kp (Cc (B pos i s1 b H1 _ I1 q) λG J ⟨n,L,j,r,p⟩=>⟨j.Hf,(AN (vs:=.ref a::n) F y A z v j (.cons rfl r) p)⟩) D hpl
def aZi(he:PE X o ta)(c:Wm X.K C)(d:Meth X.K C m f)(F:Ha X.prog X.w X.K X.mg X.base CX k f fd ps sp)(j:Cb k X.A)(p:Binds X.K fd ps ds)(n:Ka Ld ds)(g:Et CX X E)
  (i:eval (.Call (.Attribute o m Fb) [] [] pos) X.env=(do
   let b <- eval o X.env
   standAt Fb.atName
   let (f,first) <- holding [b] (getMethod b m pl)
   callWith pos f first (backTo pos<|starEach [] X.env) (backToKw pos<|keywordEach [] X.env)):=by rfl) :
  PE X (.Call (.Attribute o m Fb) [] [] pos) (V6 C m sp Ld E ta U7):=by
 intro r s e H Q I h;refine RP (Cc (he r s e H _ I h) λu t ⟨x,w,I1,rx,a,v,fs,ex,ea,l,q⟩=>?_) i
 subst ex;obtain rfl:u=Value.ref a:=rx;exact eK I1 ea c d l<|PySem.W.callWith_K0 I1.Hf d.kp<|AN (vs:=[.ref a]) F j p n g I1 (.cons rfl .nil) q
structure Mk(K:PySem.W.Frag)(C f:Addr):Prop where
 makes:PySem.W.makesIn K C=true
 init:PySem.W.findIn K (.ref C) "__init__"=some (some<|.ref f)
 fn:PySem.W.isFn K (.ref f)=true
 kp:PySem.W.keepIn K (.ref C)=true
def aZj{Q:VK}(M:Mk X.K C f)(F:Ha X.prog X.w X.K X.mg X.base CX k f fd ps sp)(n:Cb (k+1) X.A)(p:Binds X.K fd ps ds)(o:Ka Ld ds)
  (m:Et CX X E) (I:Ea X aa σ H s) (r:Ka vs us)
  (h:∀x b,H x=none->H b=none->b≠x->sp (.ref x::(vs++Ld)) (Tb (Tb H b<|.own x) x<|.ins C b []) (λv y=>v=.xc/\Q (.ref x) y) E) :
  wpAny (model X.prog X.w) X.A (call (.ref C) us) (EP X aa σ Q) X.xe s:=by
 have g:=h _ s.heap.objs.size (I.Xa.fresh<|Qp _) (I.Xa.fresh<|Ec _)<|ff<|Np _;have c:=Ea.made (C:=C) I;have d:Ka (V.ref (s.heap.objs.size+1)::(vs++Ld)) _:=.cons rfl<|r.append o;refine gx<|YY I.Hf M.makes M.init (Fm.mp M.fn)<|Em (F.run _ X.stack _ _ _ _ _ _ E (n.make C us [])
  (c.yo.make C us []) (p _ _ c.Hf (by
  have e:=d.length;rw[F.len _ _ _ _ g]at e;exact e.symm)) d g) λr i a=>?_
 cases r with
 |error e=>exact m aa σ _ _ e i c a
 |ok q=>
  cases q with
  |ret u=>
   obtain⟨v,z,w,j,t,l⟩:=c.after a;subst t;exact⟨j,⟨V.ref _,z,w,rfl,l⟩⟩
  |next=>exact False.elim a
  |brk=>exact False.elim a
  |cont=>exact False.elim a
def G2(M:Mk X.K C f)(F:Ha X.prog X.w X.K X.mg X.base CX k f fd ps sp)(g:Cb (k+1) X.A)(j:Gl X x)(i:X.mg x=some (.ref C))(m:Binds X.K fd ps ds)(l:Ka Ld ds)(d:Et CX X E)
  (n:PA X (e::es) t) (c:dg x:=by decide) (he:Oe e es X.env:=by rfl) (hpl:lh pos es X.env:=by rfl) :
  PE X (.Call (.Name x p) (e::es) [] pos) (bMb C sp Ld E t):=by
 intro o s b H Q I h;exact Bq<|xQ I j i (Ww I.ok.mod.Tj M.kp (Cc (n pos o s b H _ I h) λv w ⟨u,y,a,r,q⟩=>⟨a.Hf,(aZj M F g m l d a r q)⟩) he hpl) c
end
structure Dd(N P:ut)(sc:Scope):Prop where
 kind:sc.kind=.function
 co:sc.isCoroutine=false
 gen:sc.isGenerator=false
 nd:N.Nodup
 pre:N.take P.length=P
 Zp:∀x∈P,sc.names.lookup x=some .local\/sc.names.lookup x=some .cell
 yv:∀y∈sc.names,y.2≠.free
theorem IX{kindOf:Str->Option NameKind}{x:Str}:∀{binds:AC} {m:dL},(∀v,(x,v)∉binds)->bindL kindOf binds m x=m x
 |[],_,_=>rfl
 |(n,v)::r,m,h=>by
  unfold bindL;rw[IX λw a=>h w<|Lc _ a]
  split
  .have:x≠n:=by rintro rfl;exact h v Zb
   simp[this]
  rfl
theorem JX{kindOf:Str->Option NameKind}{x:Str}:∀{binds:AC} {m:dL},(∀v,(x,v)∉binds)->bindC kindOf binds m x=m x
 |[],_,_=>rfl
 |(n,v)::r,m,h=>by
  unfold bindC;rw[JX λw a=>h w<|Lc _ a]
  split
  .rfl
  have:x≠n:=by rintro rfl;exact h v Zb
  simp[this]
theorem LX{kindOf:Str->Option NameKind}:∀{P:ut}{vs:ca}{i:Nat}{m:dL},P.Nodup->P[i]?=some x->vs[i]?=some v->kindOf x=some .local->
  bindL kindOf (P.zip vs) m x=some v
 |[],_,_,_,_,h,_,_=>by simp at h
 |_::_,[],_,_,_,_,h,_=>by simp at h
 |p::P,w::vs,0,m,c,b,a,d=>by
  simp at b a;subst b;subst a;show bindL kindOf ((p,w)::P.zip vs) m p=_;unfold bindL;rw[IX λv e=>(xn.mp c).1 (MQ e).1,Kb d]
  simp
 |p::P,w::vs,i+1,m,c,b,a,d=>by
  unfold bindL;exact LX (xn.mp c).2 (by simpa using b) (by simpa using a) d
theorem MX{kindOf:Str->Option NameKind}:∀{P:ut}{vs:ca}{i:Nat}{m:dL},P.Nodup->P[i]?=some x->vs[i]?=some v->kindOf x≠some .local->
  bindC kindOf (P.zip vs) m x=some v
 |[],_,_,_,_,h,_,_=>by simp at h
 |_::_,[],_,_,_,_,h,_=>by simp at h
 |p::P,w::vs,0,m,c,b,a,d=>by
  simp at b a;subst b;subst a;show bindC kindOf ((p,w)::P.zip vs) m p=_;unfold bindC;rw[JX λv e=>(xn.mp c).1 (MQ e).1,Pa d]
  simp
 |p::P,w::vs,i+1,m,c,b,a,d=>by
  unfold bindC;exact MX (xn.mp c).2 (by simpa using b) (by simpa using a) d
def start(N:ut)(vs:lw):St:=vs.map some++List.replicate (N.length-vs.length) none
def Kk(CX:gq)(P:Program)(w:World)(K:PySem.W.Frag)(mg:dL)(base:Heap)(N:ut)(b:Str)(a:Scope)(f:Addr)(c:Value)(A:Around)(outer:xz)(s:Shared)(H:Hp)(E:XK):Cx where
 prog:=P
 w:=w
 K:=K
 mg:=mg
 base:=base
 A:=A.deeper<|envOfC b a s.heap.objs.size f c
 N:=N
 La:=s
 gb:=H
 env:=envOfC b a s.heap.objs.size f c
 outer:=outer
 stack:=envOfC b a s.heap.objs.size f c::outer
 ex:=[]
 calm:=true
 fn:=λ_=>true
 pn:=[]
 xe:=λe g=>wpAny (model P w) (A.deeper<|envOfC b a s.heap.objs.size f c) (leaving (envOfC b a s.heap.objs.size f c) e) (λ_ d=>CX outer H s E e d) (λh d=>CX outer H s E h d) g
def ZY{a:Scope}(h:a.names.lookup x=some .cell):∃c,(cellsFrom n a.names []).lookup x=some c:=by
 exact Option.isSome_iff_exists.mp<|R8 a.names n []<|.inl h
theorem ň{w:World}{K:PySem.W.Frag}{mg:dL}{A:Around}{vs:lw}
  (S:Dd N ps scope) (D:A.handled=none) (d:cj P w K mg base A outer s H) (G:vs.length=ps.length) (r:Ka vs us)
  (x:InCallC s s.heap.objs.size (bindL (envOfC qual scope s.heap.objs.size f cd).kindOf (ps.zip us) λ_=>none) (cellsFrom (s.heap.objs.size+1) scope.names []) (bindC (envOfC qual scope s.heap.objs.size f cd).kindOf (ps.zip us) λ_=>none) s1) :
  Ea (Kk CX P w K mg base N qual scope f cd A outer s H E) [] (start N vs) H s1:=by
 have C:ps.length<=N.length:=by have:=congrArg List.length S.pre;rw[KH]at this;lia
 obtain⟨m,F,rfl,o⟩:=x.done;have g:∀b:Addr,b∉(Kk CX P w K mg base N qual scope f cd A outer s H E).ex:=λb z=>absurd (show b∈([]) from z) (by simp)
 refine⟨⟨d.mod,S.kind,rfl,rfl,Ec _,λy z c m h2=>?_,λy hy=>?_,λy c _ h=>?_,λ_=>D,Around.frames_deeper d.frames,.inr ⟨rfl,rfl⟩,λb z=>absurd z<|g b,d.bs,d.Cn,λb _ _=>g b,λb z=>absurd z<|g b,d.Ig,d.Rp⟩,
  rfl,d.bare,Un.kept o,⟨_,x.toInCall.ns,λi y v m h2 I=>?_⟩,λy c h=>⟨_,x.cell y c h⟩,d.Xa.fresh<|Ec _,λy c h=>?_,λp j=>absurd (show p∈([]) from j) (by simp),d.Xa.kept o,?_⟩
 .exact name_of_addr x.apart (Cm m) (Cm h2)
 .rcases hy with hy|hy
  .exact ZY hy
  exact absurd rfl<|S.yv _<|Cm hy
 .exact Vr (x.above y c<|Cm h)
 .have l:i<vs.length:=by
   unfold start at h2
   by_cases l:i<vs.length
   .exact l
   rw[GP (by simpa using l),List.getElem?_replicate]at h2
   split at h2<;>cases h2
  obtain⟨u,n,B⟩:=r.get (by
   unfold start at h2;rw[zq (by simpa using l),List.getElem?_map]at h2
   cases e:vs[i]? with
   |none=>rw[e]at h2;cases h2
   |some a=>rw[e]at h2;cases h2;rfl)
  have j:ps[i]?=some y:=by
   rwa [<-S.pre,List.getElem?_take_of_lt (by lia)]
  have t:ps.Nodup:=by rw[<-S.pre];exact S.nd.sublist<|List.take_sublist _ _
  refine⟨u,B,?_⟩;rcases S.Zp y (Bm j) with k|k
  .exact .inl ⟨k,LX t j n k⟩
  obtain⟨c,e⟩:=ZY k;refine .inr ⟨.inl k,c,e,?_⟩;have q:=x.cell y c e
  rwa [MX t j n (by show scope.names.lookup y≠_;rw[k];decide)]at q
 .exact d.Xa.fresh (Vr<|x.above y c<|Cm h)
 unfold start;show _=N.length;rw[Pg,Yc,List.length_replicate];lia
def JF{w:World}{K:PySem.W.Frag}{mg:dL}{k:Nat}{kV y:Value}{p:pc}
  {G:na} {sp:Sp} (lk:K.lookup f=some ⟨y,p,.func<|PySem.W.fnOf name qual params body scope dV kV doc pm an bc ct,G⟩) (I:PySem.W.codeIn K bc qual=true) (S:Dd N ps scope)
  (len:∀vs H Q E,sp vs H Q E->vs.length=ps.length)
  (L:∀(A:Around)(outer:xz)(s:Shared)(H:Hp)(vs:lw)(Q:VK)(E:XK),Cb k (A.deeper<|envOfC qual scope s.heap.objs.size f bc)->sp vs H Q E->
   ∃t,Ae (Kk CX P w K mg base N qual scope f bc A outer s H E) body t/\t {nx:=λ_ a=>Q .xc a,rt:=Q} (start N vs) H) :
  Ha P w K mg base CX (k+1) f (PySem.W.fnOf name qual params body scope dV kV doc pm an bc ct) ps sp:=by
 refine⟨len,λA outer s H j M vs Q E hr e0 hb r hsp=>?_⟩
 have l:=e0.mod.Tj.keeps λb o e=>(e0.bs b o e).1
 refine codeAny_call_function hr.depth (l _ _ lk) rfl S.co S.gen rfl (PySem.W.codeRec_of l I)<|hb _ _ _ _<|wpAny_newFunctionEnv_cells S.kind (λ⟨n,v⟩ z=>by
  rcases S.Zp n (MQ z).1 with q|q
  .exact .inl q
  exact .inr ⟨q,R8 _ _ _<|.inl q⟩) λF D m x=>?_
 subst D;refine⟨(e0.mod.nolimit.keeps λb o e=>(e0.bs b o e).1).keeps x.toInCall.keep,codeAny_func ?_⟩
 obtain⟨t,B,C⟩:=L A outer s H vs Q E (hr.deeper _) hsp;refine dk (B [] m _ H _ (ň S hr.hd e0 (len _ _ _ _ hsp) r x) C) (λfl h c=>?_) λe h c=>c
 have d:∀{g:St}{a:Hp}{v:V}{u:Value},Ea (Kk CX P w K mg base N qual scope f bc A outer s H E) [] g a h->RelV v u->Q v a->CE outer P w H s Q u h:=
  λ{g a v u} J i q=>⟨v,a,J.os,J.bare,J.base,J.Xa,i,q⟩
 cases fl with
 |ret u=>
  obtain⟨v,g,a,J,i,q⟩:=c;exact d J i q
 |next=>
  obtain⟨g,a,J,q⟩:=c;exact d (v:=V.xc) J rfl q
 |brk=>
  obtain⟨_,_,_,q⟩:=c;exact False.elim q
 |cont=>
  obtain⟨_,_,_,q⟩:=c;exact False.elim q
section
variable{X:Cx}{x:Str}{p pos:Pos}{e:Expr}{es:List Expr}{t:TA}{id T:String}{r:Go}
def j_(r:Go)(t:TA):TE:=λa H Q=>t a H λb c=>r b c Q
def nU(o:lY X (.builtin id) r)(n:Gl X x)(m:X.mg x=none)(k:bootBuiltins x=some (.builtin id))(q:PA X (e::es) t)(l:x≠"__name__":=by decide)(j:dg x:=by decide)
  (he:Oe e es X.env:=by rfl) (hpl:lh pos es X.env:=by rfl):PE X (.Call (.Name x p) (e::es) [] pos) (j_ r t):=by
 intro b s a H Q I h;exact Bq<|vR I n m k (PyProof.Rows.callWith_builtin1 (Cc (q pos b s a H _ I h) λd f ⟨c,v,u,g,i⟩=>o b f a v c d Q u g i) he hpl) l j
def nM(o:lY X (.type T) r)(n:Gl X x)(m:X.mg x=none)(k:bootBuiltins x=some (.type T))(q:PA X (e::es) t)(l:x≠"__name__":=by decide)(j:dg x:=by decide)
  (he:Oe e es X.env:=by rfl) (hpl:lh pos es X.env:=by rfl):PE X (.Call (.Name x p) (e::es) [] pos) (j_ r t):=by
 intro b s a H Q I h;exact Bq<|vR I n m k (fu (Cc (q pos b s a H _ I h) λd f ⟨c,v,u,g,i⟩=>o b f a v c d Q u g i) he hpl) l j
end
end L2
namespace HT
open PySem PyProof.Rows
section
open PySem.SeqAt
open PySem.AutoSeq1 (wpAny_loadPart')
open PySem.MeetsSeq PySem.MeetsSeq2 PySem.MeetsSeq3
end
section
variable{prog:Program}{w:World}{A:Around}{E:be}{s:Shared}
def Sf(n d:Nat):Option Int->Nat
 |none=>d
 |some v=>if v<0 then (v+(n:Int)).toNat else min v.toNat n
def Di(n d:Nat):Sf n d none=d:=rfl
def rj(n d k:Nat):Sf n d (some (k:Int))=min k n:=by
 show (if (k:Int)<0 then ((k:Int)+(n:Int)).toNat else min (k:Int).toNat n)=min k n
 rw[Pa (by omega),Yw]
end
end HT
namespace L2
open PySem PySem.Spec PyProof.Rows
abbrev TO:=St->Hp->(Option Int->Hp->Prop)->Prop
def PO(X:Cx)(e:Option Expr)(t:TO):Prop:=
 ∀(b:ce) (s:Shared) (a:St) (H:Hp) (Q:Option Int->Hp->Prop),Ea X b a H s->t a H Q->
  wpAny (model X.prog X.w) X.A (evalPart e X.env) (λu d=>∃o c,Ea X b a c d/\IsPart u o/\Q o c) X.xe s
def bE0:TO:=λ_ H Q=>Q none H
def bMc(t:TE):TO:=λa H Q=>t a H λx b=>∃i,x=.int i/\Q (some i) b
section
variable{X:Cx}{e:Expr}{te:TE}{lo hi:Option Expr}{tl th:TO}{pos p2:Pos}
def bE1:PO X none bE0:=by
 intro b s a H Q I h;exact Ua ⟨none,H,I,.none,h⟩
def bE2(h:PE X e te):PO X (some e) (bMc te):=by
 intro f s a H Q I d;refine Cc (h f s a H _ I d) λu k ⟨x,j,g,b,c⟩=>?_
 obtain⟨i,rfl,q⟩:=c;obtain⟨t,rfl⟩:=b;exact⟨some i,j,g,.int i t,q⟩
def Dt(X:Cx)(r:sw):Prop:=
 ∀(e:ce) (s:Shared) (a:St) (H:Hp) (x:V) (v c b:Value) (lo hi:At) (d:Addr) (Q:VK),Ea X e a H s->RelV x v->s.heap.IsSliceOf d c b .none->IsPart c lo->IsPart b hi->r x lo hi H Q->
  ∃T id,typeLookup (.type T) "__getitem__"=pure (some<|.builtin id)/\s.TypeIs v T/\wpAny (model X.prog X.w) X.A (getItem v<|.ref d) (EP X e a Q) X.xe s
def Dt.or{r g:sw}(h:Dt X r)(m:Dt X g):Dt X (λx lo a H Q=>r x lo a H Q\/g x lo a H Q):=by
 intro l s b H x v d c lo a e Q I f k j i q;rcases q with q|q
 .exact h l s b H x v d c lo a e Q I f k j i q
 exact m l s b H x v d c lo a e Q I f k j i q
def tSl(r:sw)(te:TE)(b c:TO):TE:=λa H Q=>te a H λx f=>b a f λl e=>c a e λu d=>r x l u d Q
def AZ{r:sw}(z:Dt X r)(he:PE X e te)(A:PO X lo tl)(w:PO X hi th):PE X (.Subscript e (.Slice lo hi none p2) pos) (tSl r te tl th):=by
 intro c s a H Q I h;refine Subscript_<|Cc (he c s a H _ I h) λv j ⟨x,K,F,k,o⟩=>?_
 refine wpAny_Slice<|Cc (A c j a K _ F o) λg i ⟨l,J,E,t,n⟩=>Cc (w c i a J _ E n) λf d ⟨u,G,D,p,m⟩=>Ua ?_
 obtain⟨T,id,C,y,B⟩:=z c {d with heap:=d.heap.push {cls:=.type "slice",data:=.fields #[g,f,.none]} } a G x v g f l u d.heap.objs.size Q (D.kept λb ob q=>vc _ q) k (Heap.IsSliceOf.new ..) t p m
 exact tail_any y C B (by with_unfolding_all rfl)
def dz(xs:lw)(lo a:At):lw:=(xs.drop<|HT.Sf xs.length 0 lo).take<|HT.Sf xs.length xs.length a-HT.Sf xs.length 0 lo
theorem ô(xs:lw)(lo a:At):(dz xs lo a).length<=xs.length:=by
 unfold dz;rw[KH,List.length_drop];lia
end
def wk(n:Nat)(i:Int):Option Nat:=if 0<=i then (if i<n then some i.toNat else none) else if -(n:Int)<=i then some (i+n).toNat else none
def Ye{a:Type}(xs:List a)(i:Int):Option a:=(wk xs.length i).bind λj=>xs[j]?
theorem bE3{n:Nat}(h:wk n i=some j):seqIndex? i n=some j/\j<n/\-(n:Int)<=i/\i<n:=by
 unfold wk at h
 by_cases b:0<=i
 .rw[Kb b]at h
  by_cases a:i<n
  .rw[Kb a]at h;exact⟨by rw[seqIndex_of b a,(qo h)],by lia,by lia,a⟩
  rw[Pa a]at h;cases h
 rw[Pa b]at h
 by_cases a : -n<=i
 .rw[Kb a]at h;exact⟨by rw[seqIndex_neg (by lia) a,(qo h)],by lia,a,by lia⟩
 rw[Pa a]at h;cases h
def sM{a:Type}{xs:List a}{v:a}(h:Ye xs i=some v):∃j,seqIndex? i xs.length=some j/\xs[j]?=some v/\j<xs.length/\-(xs.length:Int)<=i/\i<xs.length:=by
 unfold Ye at h;cases e:wk xs.length i with
 |none=>rw[e]at h;cases h
 |some j=>
  rw[e]at h;obtain⟨f,d,c,b⟩:=bE3 e;exact⟨j,f,h,d,c,b⟩
theorem Dc{a:Type}{xs:List a}{j:Nat}{v:a}(h:xs[j]?=some v):Ye xs (j:Int)=some v:=by
 have b:=(xg.mp h).1;have e:wk xs.length j=some j:=by
  unfold wk;rw[Kb (by lia),Kb (by lia)];simp
 unfold Ye;rwa [e]
def Gj{a:Type}(xs:List a)(v:a):Ye (xs++[v]) (-1)=some v:=by
 have b:(xs++[v]).length=xs.length+1:=by simp
 have e:wk (xs++[v]).length (-1)=some xs.length:=by
  unfold wk;rw[b,Pa (by decide),Kb (by omega)]
  congr 1;omega
 unfold Ye;rw[e];show (xs++[v])[xs.length]?=some v;simp
def AM(b:Expr):Prop:=∀o i,subscripted b false o i=operate [o,i] (getItem o i)
def qp(X:Cx)(r:R2):Prop:=
 ∀(b a:Expr) (d:ce) (s:Shared) (c:St) (H:Hp) (x y:V) (v u:Value) (Q:VK),Ea X d c H s->RelV x v->RelV y u->r x y H Q->
  subscripted a false v u=operate [v,u] (getItem v u)->wpAny (model X.prog X.w) X.A (subscriptTail b a v u) (EP X d c Q) X.xe s
def jq(X:Cx)(id:String)(r:wf):Prop:=
 ∀(d:ce) (s:Shared) (a:St) (H:Hp) (x:V) (b:lw) (v:Value) (c:ca) (Q:VK),Ea X d a H s->RelV x v->Ka b c->r x b H Q->
  wpAny (model X.prog X.w) X.A (call (.builtin id)<|v::c) (EP X d a Q) X.xe s
section
variable{X:Cx}{a b:Expr}{ta tb:TE}{pos:Pos}
def qp.or(h:qp X r)(i:qp X r'):qp X (λx y H Q=>r x y H Q\/r' x y H Q):=by
 intro a b g s c H x y v u Q I e d q f;rcases q with q|q
 .exact h a b g s c H x y v u Q I e d q f
 exact i a b g s c H x y v u Q I e d q f
def W6(i:qp X r)(k:PE X a ta)(j:PE X b tb)(g:AM b):PE X (.Subscript a b pos) (KC r ta tb):=by
 intro l s c H Q I h;exact Subscript_<|lP k j I h λv u d x y n m f e q=>i a b l d c n x y v u Q m f e q<|g _ _
def V7(K:PySem.W.Frag):R2:=λx y H Q=>∃p a i v,x=.ref p/\y=.int i/\ue K H p a/\Ye a i=some v/\Q v H
def W7(K:PySem.W.Frag):R2:=λx y H Q=>∃p a i v,x=.ref p/\y=.int i/\eh K H p a/\Ye a i=some v/\Q v H
def X7:R2:=λx y H Q=>∃z i c,x=.str z/\y=.int i/\z.length<=sizeLine/\Ye z.cps.toList i=some c/\Q (.str ⟨#[c]⟩) H
theorem bE4:qp X (V7 X.K):=by
 intro c d J s n H x y v u Q I A o h k;obtain⟨p,L,i,z,rfl,rfl,B,D,q⟩:=h;cases A;obtain⟨t,rfl⟩:=o;obtain⟨f,r,e,M⟩:=I.list B;obtain⟨j,b,G,O,F,E⟩:=sM D;obtain⟨w,m,K⟩:=r.get G;have C:=r.length;have N:=Gy;have a:EP X J n Q w s:=⟨z,H,I,K,q⟩
 by_cases l:0<=i
 .have g:=by
   rw[seqIndex_of l E]at b;exact qo b
  exact item_listR e.isList l (by lia) (by rw[g];simpa using m) a k
 have g:(i+f.toArray.size).toNat=j:=by
  rw[seqIndex_neg (by lia) F]at b
  rw[Lh,<-C];exact qo b
 exact subscriptTail_builtinR e.isList.typeIs slot_list_getitem.lookup
  (wpAny_getItem_list_neg e.isList (by lia) (by rw[Lh] <;> lia) (by lia) (by rw[g];simpa using m) ⟨rfl,a⟩) k
theorem bJ7:qp X (W7 X.K):=by
 intro a b K s A H x y v u Q I e d h g;obtain⟨p,B,i,z,rfl,rfl,k,l,q⟩:=h;cases e;obtain⟨t,rfl⟩:=d;obtain⟨f,r,c,C⟩:=I.tuple k;obtain⟨j,J,m,G,F,E⟩:=sM l;obtain⟨w,n,o⟩:=r.get m;have D:=Gy;exact subscriptTail_builtinR c.typeIs slot_tuple_getitem.lookup
  (getItem_tuple c (by lia) (by lia) (by rwa [Lh,<-(r.length)]) (by simpa using n) ⟨rfl,(⟨z,H,I,o,q⟩)⟩) g
theorem bJ8:qp X X7:=by
 intro a b C s p H x y v u Q I f e h g;obtain⟨z,i,c,rfl,rfl,w,l,q⟩:=h;obtain⟨t,rfl⟩:=f;obtain⟨r,rfl⟩:=e;obtain⟨j,d,o,B,n,m⟩:=sM l;have k:z.cps.toList.length=z.length:=by simp[Str.length]
 rw[k]at d n m;have A:=Gy;exact tail_any (typeIs_str s z t) slot_str_getitem.lookup (getItem_str (by
  rw[(bf<|by lia),(bf<|by lia),Bool.or_false]) (by rw[d];simpa using o) ⟨.str _,H,I.tok _,⟨_,rfl⟩,q⟩) g
def RT(K:PySem.W.Frag):R2:=λx y H Q=>V7 K x y H Q\/W7 K x y H Q\/X7 x y H Q
def B5:qp X (RT X.K):=bE4.or<|bJ7.or bJ8
theorem Ea.lst{aa:ce}{b:St}{H:Hp}{s:Shared}{p:Addr}{xs:lw}(I:Ea X aa b H s)(h:H p=some (.lst xs)) :
  ∃(a:ca)(n:Nat),Ka xs a/\s.heap.get? p=some {cls:=.type "list",data:=.seq a.toArray n}/\xs.length<=sizeLine:=by
 obtain⟨z,a,n,r,e⟩:=I.Xa p _ h;exact⟨a,n,r,e,z⟩
theorem Ø(lo a:At)(n:Nat):(sliceBounds lo a none n).1=((HT.Sf n 0 lo:Nat):Int)/\(sliceBounds lo a none n).2.1=((HT.Sf n n a:Nat):Int)/\(sliceBounds lo a none n).2.2=1:=by
 refine⟨?_,?_,rfl⟩
 .cases lo with
  |none=>simp[sliceBounds,HT.Sf]
  |some i=>
   simp only[sliceBounds,HT.Sf,Option.getD_none]
   by_cases h:i<0
   .simp only[h,if_true] <;> lia
   simp only[h,if_false] <;> lia
 cases a with
 |none=>simp[sliceBounds,HT.Sf]
 |some i=>
  simp only[sliceBounds,HT.Sf,Option.getD_none]
  by_cases h:i<0
  .simp only[h,if_true] <;> lia
  simp only[h,if_false] <;> lia
def Ϸ(a:ca)(lo b:At):slicePick a.toArray lo b none=((a.drop<|HT.Sf a.length 0 lo).take<|HT.Sf a.length a.length b-HT.Sf a.length 0 lo).toArray:=by
 obtain⟨e,d,c⟩:=Ø lo b a.toArray.size;unfold slicePick;rw[e,d,c];simp only[sliceRange_one,pick_run] <;> rfl
def bPa(K:PySem.W.Frag):sw:=λx lo c H Q=>∃a b,x=.ref a/\ue K H a b/\∀p,H p=none->Q (.ref p) (Tb H p<|.lst<|dz b lo c)
theorem J2:Dt X (bPa X.K):=by
 intro w s o H x v t p lo n u Q I f m i g h;obtain⟨a,d,rfl,l,q⟩:=h;cases f;obtain⟨j,r,c,k⟩:=I.list l;have e:=r.length;refine⟨"list",_,slot_list_getitem.lookup,c.isList.typeIs,(wpAny_getItem_list_slice c.isList m i g .none (by simp) ?_<|by rw[Lh] <;> lia)⟩
 rw[Ϸ,<-e];refine⟨.ref s.heap.objs.size,_,I.laid (λb ob q=>vc _ q) (Ec _) ?_,rfl,q _<|I.Xa.fresh<|Ec _⟩
 exact⟨Nh (ô d lo n) k,_,0,(r.drop _).take _,Af _ rfl⟩
theorem Ù:lY X (.builtin "len") (λxs H Q=>∃p ys,xs=[.ref p]/\(ue X.K H p ys\/eh X.K H p ys)/\Q (.int ys.length) H):=by
 intro l s i H xs j Q I r h;obtain⟨p,ys,rfl,a,q⟩:=h;obtain⟨u,rfl,f⟩:=vals1 r;cases f;have k:=Gy;rcases a with a|a
 .obtain⟨e,c,d,g⟩:=I.list a;have b:=c.length;exact Calls.call_len_list d.isList (by simp only[List.size_toArray] <;> lia) ⟨.int ys.length,H,I.tok _,⟨s.toks+1,by rw[Lh,b]⟩,q⟩
 obtain⟨e,c,d,g⟩:=I.tuple a;have b:=c.length;exact len_tuple d (by simp only[List.size_toArray] <;> lia) ⟨.int ys.length,H,I.tok _,⟨s.toks+1,by rw[Lh,b]⟩,q⟩
theorem Ú:lY X (.builtin "len") (λxs H Q=>∃z,xs=[.str z]/\z.length<=sizeLine/\Q (.int z.length) H):=by
 intro e s a H xs b Q I r h;obtain⟨z,rfl,c,q⟩:=h;obtain⟨u,rfl,t,rfl⟩:=vals1 r;have d:=Gy;exact len_str (by lia) ⟨.int z.length,H,I.tok _,⟨_,rfl⟩,q⟩
def lY.or{r d:Go}(h:lY X f r)(g:lY X f d):lY X f (λxs H Q=>r xs H Q\/d xs H Q):=by
 intro e s a H xs b Q I c q;rcases q with q|q
 .exact h e s a H xs b Q I c q
 exact g e s a H xs b Q I c q
def ϸ:lY X (.type "tuple") (λxs H Q=>∃p ys,xs=[.ref p]/\((ue X.K H p ys/\∀l,H l=none->Q (.ref l) (Tb H l<|.tup ys))\/(eh X.K H p ys/\Q (.ref p) H))):=by
 intro m s j H xs n Q I r h;obtain⟨p,ys,rfl,h⟩:=h;obtain⟨u,rfl,k⟩:=vals1 r;cases k;rcases h with ⟨f,q⟩|⟨f,q⟩
 .obtain⟨a,c,d,g⟩:=I.list f;have t:=c.length;refine call_tuple_list d.isList (λh' kp=>?_) (by simp<;>omega)
  have i:Ea X m j H {s with heap:=h'}:=I.kept kp
  exact⟨.ref h'.objs.size,_,(i.laid (λb o e=>vc _ e) (Ec _)<|show lX X.prog X.w _ _ _ (.tup ys) from ⟨g,a,c,IsTup.new _ _⟩),rfl,q _<|i.Xa.fresh<|Ec _⟩
 obtain⟨a,c,d,g⟩:=I.tuple f;exact call_tuple_same d ⟨.ref p,H,I,rfl,q⟩
def PU(K:PySem.W.Frag)(T:String)(x:V)(H:Hp):Prop:=match x with
 |.str _=>T="str"
 |.int _=>T="int"
 |.ref p=>(T="list"/\∃b,ue K H p b)\/(T="tuple"/\∃o,K.lookup p=some o/\o.cls=.type "tuple"/\o.dict=none)\/
   (T="dict"/\((∃a,H p=some (.dK a))\/∃a,H p=some (.dT a)))\/(T="set"/\∃S n,H p=some (.set S n))
 |_=>False
def C5(I:Ea X aa σ H s)(r:RelV x v)(ty:PU X.K T x H) :
  s.TypeIs v T/\∀a,v=.ref a->∃ob,s.heap.get? a=some ob/\ob.dict=none:=by
 cases x with
 |str z=>
  obtain⟨t,rfl⟩:=r;cases (ty);exact⟨typeIs_str s z t,λ_ e=>nomatch e⟩
 |int i=>
  obtain⟨t,rfl⟩:=r;cases (ty);exact⟨typeIs_int s i t,λ_ e=>nomatch e⟩
 |ref p=>
  cases r;rcases ty with ⟨rfl,m,j⟩|⟨rfl,o,b,k,f⟩|⟨rfl,b⟩|⟨rfl,S,n,b⟩
  .obtain⟨h,_,g,_⟩:=I.list j;refine⟨g.isList.typeIs,λa e=>?_⟩
   cases e;obtain⟨o,n,e,c,f,_⟩:=g;exact⟨o,e,f⟩
  .refine⟨⟨o,I.Hf p o b,k⟩,λa e=>?_⟩
   cases e;exact⟨o,I.Hf _ o b,f⟩
  .have z:∃o,s.heap.get? p=some o/\o.ExactDict:=by
    rcases b with ⟨l,b⟩|⟨l,b⟩
    .obtain⟨_,_,_,_,o,_,_,e,d,_⟩:=I.Xa p _ b;exact⟨o,e,d⟩
    obtain⟨_,_,_,_,o,_,_,e,d,_⟩:=I.Xa p _ b;exact⟨o,e,d⟩
   obtain⟨o,e,d⟩:=z;refine⟨⟨o,e,d.1⟩,λa e2=>?_⟩
   cases e2;exact⟨o,e,d.2.1⟩
  obtain⟨o,_,_,_,e,d,_⟩:=I.Xa p _ b;refine⟨⟨o,e,d.1⟩,λa e2=>?_⟩
  cases e2;exact⟨o,e,d.2.1⟩
 |_=>exact False.elim ty
def bPb(K:PySem.W.Frag)(T:String)(r:wf)(c:TE):TE:=λb H Q=>c b H λx a=>PU K T x a/\r x [] a Q
def tBM(K:PySem.W.Frag)(T:String)(r:wf)(d:TE)(t:TA):TE:=λa H Q=>d a H λx b=>PU K T x b/\t a b λc e=>r x c e Q
variable{o e:Expr}{es:List Expr}{to:TE}{t:TA}{name:Str}{Fb Nb:Pos}{T id:String}{r:wf}
def bJ9(i:PlainAttrs T)(a:Slot T name id)(q:typeOf (.builtin id)=pure (.type "method_descriptor"))(k:jq X id r)(j:PE X o to)
  (n:Ak o name X.env:=by rfl) (t:Pn Fb Nb:=by rfl):PE X (.Call (.Attribute o name Fb) [] [] Nb) (bPb X.K T r to):=by
 intro d s b H Q I h;refine wpAny_Call_method0_late n t<|Cc (j d s b H _ I h) λv f ⟨x,p,e,c,ty,g⟩=>?_
 obtain⟨m,l⟩:=C5 e c ty;exact⟨T,id,i,a,q,m,l,Calls.callWith_builtin rfl<|PySem.evalArgs_none<|k d f b p x [] v [] Q e c .nil g⟩
def LF(u:PlainAttrs T)(a:Slot T name id)(K:typeOf (.builtin id)=pure (.type "method_descriptor"))(z:jq X id r)(y:PE X o to)(A:PA X (e::es) t)
  (E:Ak o name X.env:=by rfl)
  (n:aq Nb (e::es) X.env:=by rfl)
  (L:Pn Fb Nb:=by rfl) (w:Oe e es X.env:=by rfl) (D:lh Nb es X.env:=by rfl) :
  PE X (.Call (.Attribute o name Fb) (e::es) [] Nb) (tBM X.K T r to t):=by
 intro c s b H Q I h;refine wpAny_Call_method_late E n L rfl<|Cc (y c s b H _ I h) λv l ⟨x,J,g,d,ty,q⟩=>?_
 obtain⟨C,B⟩:=C5 g d ty;refine⟨T,id,u,a,K,C,B,?_⟩;have f:=A Nb c l b J _ g q;rw[w]at f ⊢;exact Calls.callWith_builtin (by show (false||(backTo Nb _).any (·.1))=false;rw[D] <;> rfl)<|Calls.evalArgs_plain<|Cc f λj k ⟨i,G,F,m,p⟩=>z c k b G x i v j Q F d m p
end
def pV(X:Cx)(id:String)(r:wf):Prop:=
 ∀(d:ce) (s:Shared) (a:St) (H:Hp) (x:V) (b:lw) (v:Value) (c:ca) (Q:VK),Ea X d a H s->RelV x v->Ka b c->r x b H Q->
  wpAny (model X.prog X.w) X.A (call (.builtin id)<|v::c) (EP X d a Q) X.xe s
def Ka.one:∀{x:V}{a:ca},Ka [x] a->∃u,a=[u]/\RelV x u
 |_,_,.cons r .nil=>⟨_,rfl,r⟩
def Ka.two:∀{x y:V}{a:ca},Ka [x,y] a->∃u v,a=[u,v]/\RelV x u/\RelV y v
 |_,_,_,.cons r (.cons q .nil)=>⟨_,_,rfl,r,q⟩
def Ka.zero:∀{a:ca},Ka [] a->a=[]
 |_,.nil=>rfl
theorem Ka.reverse(h:Ka xs us):Ka xs.reverse us.reverse:=by
 induction h with
 |nil=>exact .nil
 |cons r t a=>rw[List.reverse_cons,List.reverse_cons];exact Ka.append a<|.cons r .nil
section
variable{X:Cx}{aa:ce}{σ:St}{H:Hp}{s:Shared}{l b:Addr}{xs ys zs:lw}
def Ea.Nm{a b:ca}{f:Array Value->Array Value}{t':Nat}(I:Ea X aa σ H s)(j:H l=some (.lst xs))
  (e:s.heap.get? l=some {cls:=.type "list",data:=.seq a.toArray n}) (h:f a.toArray=b.toArray) (d:Ka ys b) (c:ys.length<=sizeLine) :
  Ea X aa σ (Tb H l<|.lst ys) {s with heap:=s.heap.update l<|Obj.mapSeq f,toks:=t'}:=by
 have q:=PySem.IsL.update e f;rw[h]at q;exact I.write (by rw[j];exact trivial) (.inl rfl) (λk u i g=>(kn s.heap _<|uh i).trans g) ⟨_,q⟩<|⟨c,b,_,d,q⟩
def Ea.uv{t':Nat}(I:Ea X aa σ H s)(b:Ka ys its)(a:ys.length<=sizeLine) :
  Ea X aa σ (Tb H s.heap.objs.size<|.lst ys) {s with heap:=s.heap.push {cls:=.type "list",data:=.seq its.toArray},toks:=t'}:=
 I.laid (λ_ _ q=>vc _ q) (Ec _) ⟨a,its,0,b,Af _ rfl⟩
theorem Ea.fresh(I:Ea X aa σ H s):H s.heap.objs.size=none:=I.Xa.fresh<|Ec _
def Ea.Vj(I:Ea X aa σ H s)(b:H l=some (.lst xs)):xs.length<=sizeLine/\∃(a:ca)(n:Nat),Ka xs a/\xs.length=a.length/\s.heap.get? l=some {cls:=.type "list",data:=.seq a.toArray n}:=by
 obtain⟨z,a,n,r,e⟩:=I.Xa l _ b;exact⟨z,a,n,r,r.length,e⟩
theorem aZn{n:Nat}(h:n<=sizeLine):Builtin.List.listTooLong n=false:=by
 exact bf (by lia)
end
section
variable{X:Cx}
def bE5:wf:=λx b H Q=>∃l a y,x=.ref l/\b=[y]/\H l=some (.lst a)/\a.length<sizeLine/\Q .xc (Tb H l<|.lst<|a++[y])
theorem ŉ:pV X "list.append" bE5:=by
 intro p s g H x j v k Q I c d h;obtain⟨l,i,y,rfl,rfl,b,m,q⟩:=h;cases c;obtain⟨u,rfl,f⟩:=d.one;obtain⟨z,a,n,r,o,e⟩:=I.Vj b;refine call_meets KP ⟨_,e,rfl⟩ F.entry_list_append (M8 _ _) (PySem.list_append l a.toArray n u<|by rw[Lh];lia) ⟨e,(⟨.xc,_,I.Nm b e (by simp) (r.append<|.cons f .nil) ?_,rfl,q⟩)⟩
 rw[Pg,vn];lia
def bE6:wf:=λx d H Q=>∃l b c a,x=.ref l/\d=[.ref b]/\H l=some (.lst c)/\H b=some (.lst a)/\c.length+a.length<=sizeLine/\Q .xc (Tb H l<|.lst<|c++a)
theorem Ŋ:pV X "list.extend" bE6:=by
 intro E s p H x A v B Q I g i h;obtain⟨l,b,y,t,rfl,rfl,d,o,C,q⟩:=h;cases g;obtain⟨u,rfl,j⟩:=i.one;cases j;obtain⟨z,a,n,r,D,e⟩:=I.Vj d;obtain⟨w,c,m,k,G,e2⟩:=I.Vj o;have f:a.toArray.size+c.toArray.size<=sizeLine:=by rw[Lh,Lh];lia
 refine call_meets F.slot_list_extend ⟨_,e,rfl⟩ F.entry_list_extend (F.args_list_extend_2 _ _)
  (AutoSeq1.list_extend_list_list_0 l a.toArray n b c.toArray m (by
  rw[aZn f,SH];exact jo) (by lia)<|by lia) ⟨e,e2,(⟨.xc,_,I.Nm d e (by simp) (r.append k) ?_,rfl,q⟩)⟩
 rw[Pg];lia
end
end L2
namespace Att
open PySem PySem.W PySem.Calls PyProof.Rows
def Ψ:∀(c:li)(vs:ca),WellAll P h vs (c.map WData.int)->IntsAre vs c:=by
 intro c
 induction c with
 |nil=>
  intro vs w;cases w;exact .nil
 |cons n c d=>
  intro vs w;cases w with
  |cons a b=>
   cases a;exact .cons _ _<|d _ b
theorem ŋ{l:OpenLaw}(m:l.most=some n){P:Params}{h:Heap}{b:List WData}{c:ca}
  (g:l.row.toRowW.claim.pre b=true) (u:WellAll P h c b) :
  ∃a vs e,c=[Value.ref a]/\b=[WData.list<|e.map WData.int]/\h.get? a=some {cls:=.type "list",data:=.seq vs.toArray}/\IntsAre vs e/\e.length<=n:=by
 obtain⟨d,r,rfl,t,s⟩:=hasAllW_cons<|(pre_splitW g).1;obtain rfl:=hasAllW_nil s;obtain⟨w,rfl,p⟩:=hasW_list t;obtain⟨e,rfl⟩:=items_int p;cases u with
 |cons j i=>
  cases i;cases j with
  |list k v=>exact⟨_,_,e,rfl,rfl,k,Ψ e _ v,(by
  have f:=condW_of (by
   have o:=(holds_andW<|(pre_splitW g).2).1
   rwa [m]at o) (w_not<|w_lt w_lit<|w_len_list<|w_arg rfl)
  rw[Yc]at f;refine Nat.le_of_not_lt λq=>?_
  first
   |(exact absurd f rfl)
   |(lia))⟩
def Ō(l:OpenLaw)(a:List WData):l.row.toRowW.claim.post a (.bool true) a=true:=
 postW_of
  ((by first|rfl|decide|simp))
  ((w_eq_bool (w_res rfl) w_lit)) rfl
def Hj{l:OpenLaw}{z:(dL)->Heap->Prop}{y:KM}{d:DefRec}
  (E:l.most=some n) (O:d.params.defaults=[])
  (call:∀(w:World)(s b:Shared)(mg m:dL)(g:Addr)(o:Obj)(k j e:Value)(a:Addr)(vs:ca)(i:li),
   Ground q loose [] z w s mg m b.heap->y w b.heap->
   b.heap.get? g=some o->o.data=.func (docDef d.name d.params d.body d.scope k j e)->b.heap.CodeRec j d.name->mg d.name=some (.ref g)->
   b.heap.get? a=some {cls:=.type "list",data:=.seq vs.toArray}->IntsAre vs i->i.length<=n->b.gens = #[]->
   codeAny (model l.prog w) callerA (.call (.ref g) ⟨[.ref a],[]⟩) (λr h=>r=.ok (.ret<|.bool true)/\OldK b.heap h.heap/\h.os=b.os/\AllBare h.gens) b) :
  WalkO q loose z y l.row.toRowW d [] (λf vs=>PySem.call f vs):=by
 intro w s b mg m G Y g o k j e M kV D I P v p H x t S R u B Q T;obtain rfl:M=.none:=Dflts.none v O;obtain rfl:kV=.none:=Dflts.noKw v;obtain⟨a,vs,i,rfl,rfl,N,c,A⟩:=ŋ E R Q;refine enter_call<|Em (call w s b mg m g o k j e a vs i G Y D (fd_plain I) P p N c A H) λr h C=>?_
 obtain⟨rfl,L,K,J⟩:=C;exact⟨.inl ⟨.bool true,.bool true,[],rfl,λ_=>rfl,.bool true,Ō l _,λ_=>⟨List.Pairwise.nil,λ_ F=>(nomatch F)⟩⟩,L,K,J⟩
end Att
namespace L2
open PySem PySem.Spec PyProof.Rows
theorem Ag:∀{vs:ca}{a:li},IntsAre vs a->Ka (a.map V.int) vs
 |_,_,.nil=>.nil
 |_,_,.cons n t h=>.cons ⟨t,rfl⟩<|Ag h
def Bt(H:Hp):Prop:=∀b,H b=none\/∃o a,H b=some (.Vk o<|.lst a)
def aZo{w:World}{K:PySem.W.Frag}{mg B:dL}{k:Nat}{x:Str}{c:Shared}{vs:ca}
  (Q:K.In c.heap) (R:c.heap.Ns mainGlobals mg) (f:c.heap.Ns builtinsNs B) (E:∀x:Str,x≠"__name__"->B x=bootBuiltins x) (dS:c.heap.NoLimit) (Y:c.gens = #[])
  (p:c.heap.get? a=some {cls:=.type "list",data:=.seq vs.toArray}) (J:IntsAre vs ns) (hl:ns.length<=sizeLine) (X:Cb k callerA)
  (F:∀base:Heap,K.In base->base.Ns mainGlobals mg->Ha P w K mg base CX k fa fd [x] sp) (QA:∀(s:Shared)(u:Value),BindsTo s fd ⟨[u],[]⟩ [(x,u)])
  (C:∀H:Hp,Bt H->ue K H a (ns.map V.int)->sp [.ref a] H (λv _=>v=.bl true) λ_ _ _=>False)
  (RR:∀H e g,CX [] H c (λ_ _ _=>False) e g->False) :
  codeAny (model P w) callerA (.call (.ref fa) ⟨[.ref a],[]⟩) (λr g=>r=.ok (.ret<|.bool true)/\OldK c.heap g.heap/\g.os=c.os/\AllBare g.gens) c:=by
 have I:=Ag J;have j:∀H:Hp,Bt H->ue K H a (ns.map V.int)->Bf P w H c.heap->(∀b,H b≠none->b=a)->(H a≠none->K.lookup a=none)->
   codeAny (model P w) callerA (.call (.ref fa) ⟨[.ref a],[]⟩) (λr g=>r=.ok (.ret<|.bool true)/\OldK c.heap g.heap/\g.os=c.os/\AllBare g.gens) c:=by
  intro H L Z N M hK;have O:∀{b:Addr}{o:Obj},c.heap.get? b=some o->H b=none->(Aw c.heap H).get? b=some o:=λe n=>aZ4 e n
  have A:∀{b:Addr}{o:Obj}{t:Array DictEntry}{y:Nat},c.heap.get? b=some o->o.data=.dict t y->H b=none:=λ{b o t y} e d=>by
   cases q:H b with
   |none=>rfl
   |some u=>
    have G:=M b (by rw[q];simp)
    subst G;rw[p]at e;cases e;cases d
  have i:∀{b:Addr}{m:dL},c.heap.Ns b m->(Aw c.heap H).Ns b m:=λ{b m} ⟨o,t,y,e,d,r⟩=>⟨o,t,y,O e<|A e d,d,r⟩
  have S:=λb o e=>O (Q b o e) (by
   cases q:H b with
   |none=>rfl
   |some u=>
    have G:=M b (by rw[q];simp)
    subst G;rw[hK (by rw[q];simp)]at e;cases e)
  refine Em ((F _ S<|i R).run callerA [] c H _ [.ref a] [.ref a] _ _ X (⟨rfl,(⟨S,i R,⟨B,i f,E⟩,let ⟨U,h1,h2⟩:=dS;⟨U,i h1,h2⟩⟩),λb o e=>bDo e,Nz<|ļ _ _,trivial,λb f=>absurd (show b∈([]) from f) (by simp),N,.of_eq Y⟩) (QA c<|.ref a) (.cons rfl .nil)<|C H L Z) λr g h=>?_
  cases r with
  |error e=>exact(RR H e g h).elim
  |ok fl=>
   cases fl with
   |next=>exact False.elim h
   |brk=>exact False.elim h
   |cont=>exact False.elim h
   |ret u=>
    obtain⟨v,H',os,l,un,W,T,q⟩:=h;subst q;obtain rfl:u=Value.bool true:=T;refine⟨rfl,OldK.of_keep λb o e=>?_,os,l⟩
    cases q:H b with
    |none=>exact un.keep b o e q (by intro z;exact absurd (show b∈([]) from z)<|by simp) (by simp)
    |some u=>
     rcases L b with z|⟨ob,xs,z⟩
     .rw[q]at z;cases z
     obtain⟨e1,_⟩:=N b _ z;obtain⟨e2,_⟩:=W b _<|un.Rh b ob _ z;rw[e]at e1;cases e1;exact e2
 cases D:K.lookup a with
 |some o=>
  have e:=Q a o D;rw[p]at e;cases e;refine j _ (λ_=>.inl rfl) (.inr ⟨_,vs.toArray,_,D,rfl,rfl,rfl,by rwa [Lh,(J.length)],by simpa using I⟩) (λb u z=>by cases z) (λb z=>absurd rfl z) λz=>absurd rfl z
 |none=>
  refine j (λb=>if b=a then some _ else none) (λb=>?_) (.inl<|.inr ⟨{cls:=.type "list",data:=.seq vs.toArray},Kb rfl⟩) (λb u z=>?_) (λb z=>?_) λ_=>D
  .by_cases f:b=a
   .exact .inr ⟨_,_,Kb f⟩
   exact .inl<|Pa f
  .by_cases f:b=a
   .cases ((Kb f).symm.trans z);subst f;exact⟨p,by rwa [Yc],vs,_,I,p⟩
   cases ((Pa f).symm.trans z)
  by_cases f:b=a
  .exact f
  exact absurd (Pa f) z
def Zq{l:PySem.W.OpenLaw}{k:Nat}{M:(dL)->Heap->Prop}{t:KM}{d:DefRec}{K:Params->PySem.W.Frag}{CX:World->gq}{sp:World->Sp}{x:Str}
  (A:l.most=some n) (R:n<=sizeLine) (P:d.params.defaults=[]) (z:Cb k callerA)
  (D:∀(w:World)(h:Heap),t w h->(K w.params).In h)
  (F:∀(w:World)(mg:dL)(g:Addr)(h:Heap),(K w.params).In h->h.Ns mainGlobals mg->mg d.name=some (.ref g)->
   ∃p:FuncData,(∀(s:Shared)(u:Value),BindsTo s p ⟨[u],[]⟩ [(x,u)])/\
    ∀base:Heap,(K w.params).In base->base.Ns mainGlobals mg->Ha l.prog w (K w.params) mg base (CX w) k g p [x] (sp w))
  (j:∀(w:World)(H:Hp)(a:Addr)(c:li),c.length<=n->Bt H->ue (K w.params) H a (c.map V.int)->sp w [.ref a] H (λv _=>v=.bl true) λ_ _ _=>False)
  (Q:∀(w:World)(H:Hp)(s:Shared)(e:Value)(i:Shared),CX w [] H s (λ_ _ _=>False) e i->False) :
  PySem.W.WalkO q loose M t l.row.toRowW d [] (λf vs=>PySem.call f vs):=by
 refine Att.Hj A P λw La O mg T g o S X L a vs c G Y U W Z m N b r B=>?_
 have y:=D w _ Y;obtain⟨p,C,J⟩:=F w mg g _ y G.T.g m;exact aZo y G.T.g G.T.b G.T.builtins G.T.nolimit B N b (Nh r R) z J C (λH I E=>j w H a c r I E) λH e i=>Q w H O e i
def fD(s:Stmt):Arguments:=match s with
 |.FunctionDef _ a _ _ _ _ _ _ _ _=>a
 |_=>{posonlyargs:=[],args:=[],vararg:=none,kwonlyargs:=[],kw_defaults:=[],kwarg:=none,defaults:=[]}
def dI(s:Stmt):List Stmt:=match s with
 |.FunctionDef _ _ b _ _ _ _ _ _ _=>b
 |_=>[]
def bD(s:Stmt):Scope:=match s with
 |.FunctionDef _ _ _ _ _ _ a _ _ _=>a
 |_=>{kind:=.function,names:=[],isGenerator:=false,isCoroutine:=false}
abbrev wc:gq:=λ_ _ _ _ _ _=>False
abbrev E0:XK:=λ_ _ _=>False
def zr{X:Cx}:Et wc X E0:=λ_ _ _ _ _ _ _ h=>h.elim
structure zt(K:PySem.W.Frag)(x qual:Str)(st:Stmt)(f:Addr)(fd:FuncData):Prop where
 ex:∃(oc:Value)(od:pc)(kV doc pm:Value)(an:pc)(bc ct:Value) (Zi:na),
  fd=PySem.W.fnOf x qual (fD st) (dI st) (bD st) .none kV doc pm an bc ct/\K.lookup f=some ⟨oc,od,.func fd,Zi⟩/\PySem.W.codeIn K bc qual=true
 kp:PySem.W.keepIn K (.ref f)=true
section
variable{P:Program}{w:World}{K:PySem.W.Frag}{mg:dL}{base:Heap}
def zt.ok{st:Stmt}{k:Nat}{sp:Sp}(F:zt K x qual st f fd)(S:Dd N ps (bD st))(len:∀vs H Q E,sp vs H Q E->vs.length=ps.length)
  (i:∀(b:Value)(A:Around)(a:xz)(s:Shared)(H:Hp)(vs:lw)(Q:VK)(E:XK),Cb k (A.deeper<|envOfC qual (bD st) s.heap.objs.size f b)->sp vs H Q E->
   ∃t,Ae (Kk wc P w K mg base N qual (bD st) f b A a s H E).Ve (dI st) t/\t {nx:=λ_ j=>Q .xc j,rt:=Q} (start N vs) H):Ha P w K mg base wc (k+1) f fd ps sp:=by
 obtain⟨n,m,kV,e,l,p,b,o,r,rfl,lk,g⟩:=F.ex;refine JF lk g S len λA a s H vs Q E d c=>?_
 obtain⟨t,h,q⟩:=i b A a s H vs Q E d c;exact⟨t,h.Ve,q⟩
def zt.binds{st:Stmt}{ps:ut}(F:zt K x qual st f fd)
  (h:∀(kV a c:Value)(g:pc)(e d:Value)(b:ca),b.length=ps.length->bindArgs (PySem.W.fnOf x qual (fD st) (dI st) (bD st) .none kV a c g e d) ⟨b,[]⟩=pure (ps.zip b)):Binds K fd ps []:=by
 obtain⟨j,i,kV,a,c,g,e,d,k,rfl,lk,l⟩:=F.ex;exact .all<|h kV a c g e d
def bJa{st:Stmt}{b:Value}{a:pc}{d:na}{kV:Value}(l:K.lookup f=some ⟨b,a,.func<|PySem.W.fnOf x qual (fD st) (dI st) (bD st) .none kV doc pm an bc ct,d⟩)
  (c:PySem.W.codeIn K bc qual=true) (k:PySem.W.keepIn K (.ref f)=true):zt K x qual st f (PySem.W.fnOf x qual (fD st) (dI st) (bD st) .none kV doc pm an bc ct):=⟨⟨b,a,kV,doc,pm,an,bc,ct,d,rfl,l,c⟩,k⟩
end
section
variable{X:Cx}
def pv(i:Nat){x:Str}{a:Pos}(d:X.N[i]?=some x:=by rfl)(b:Ik X.env.scope x:=by exact Wo rfl)(c:dg x:=by decide)
  (e:Vo x:=by decide):PE X (.Name x a) (Q7 i):=vQ d b c e
end
def aR(H a:Hp):Prop:=∀b o,H b=some o->a b=some o
def aR.refl(H:Hp):aR H H:=λ_ _ h=>h
def aR.trans(a:aR H H1)(b:aR H1 H2):aR H H2:=λc o h=>b c o<|a c o h
def aR.free(e:aR H H'){l:Addr}(h:H' l=Option.none):H l=Option.none:=by
 cases q:H l with
 |none=>rfl
 |some o=>
  rw[e l o q]at h;cases h
def aR.seq{K:PySem.W.Frag}(e:aR H H')(h:ue K H a xs):ue K H' a xs:=by
 rcases h with (h|⟨o,h⟩)|h
 .exact .inl (.inl<|e _ _ h)
 .exact .inl (.inr ⟨o,e _ _ h⟩)
 exact .inr h
section
variable{κ:Type}[DecidableEq κ]
def El(b:List (κ×V))(k:κ):Option V:=(b.find? λa=>decide (a.1=k)).map (·.2)
def Mg(b:List (κ×V))(k:κ)(v:V):List (κ×V):=
 if (b.any λa=>decide (a.1=k))=true then b.map (λa=>if a.1=k then (a.1,v) else a) else b++[(k,v)]
def X6(b:List (κ×V))(k:κ):List (κ×V):=b.filter λa=>decide (a.1≠k)
def zU{p:κ×V}{r:List (κ×V)}{k:κ}(e:p.1=k):El (p::r) k=some p.2:=by simp[El,e]
def zV{p:κ×V}{r:List (κ×V)}{k:κ}(e:¬ p.1=k):El (p::r) k=El r k:=by simp[El,e]
theorem BZ(k:κ):∀a:List (κ×V),(a.any λb=>decide (b.1=k))=(El a k).isSome
 |[]=>rfl
 |p::r=>by
  rw[zu]
  by_cases e:p.1=k
  .simp[zU e,decide_eq_true e]
  rw[zV e,bf e];exact BZ k r
theorem JW(a:List (κ×V))(k:κ)(v:V):(Mg a k v).length<=a.length+1:=by
 unfold Mg;split
 .rw[Yc];lia
 rw[Pg,fg,NQ];lia
def zO.Gf(r:zO o u):o.isSome=u.isSome:=by
 cases o with
 |none=>cases u with
  |none=>rfl
  |some _=>exact(r).elim
 |some _=>cases u with
  |none=>exact(r).elim
  |some _=>rfl
theorem zO.getD(r:zO o u)(a:RelV d d'):RelV (o.getD d) (u.getD d'):=by
 cases o with
 |none=>cases u with
  |none=>exact a
  |some _=>exact(r).elim
 |some _=>cases u with
  |none=>exact(r).elim
  |some _=>exact r
def KV.val(r:KV Ca vs)(k:κ):zO (El Ca k) (valueAt vs k):=by
 induction r with
 |nil=>exact True.intro
 |@cons p q f a h t g=>
  obtain⟨c,i⟩:=h
  by_cases e:p.1=k
  .have b:valueAt (q::a) k=some q.2:=by simp[valueAt,List.find?_cons,(c.symm.trans e)]
   rwa [zU e,b]
  have d:¬ q.1=k:=λz=>e<|c.trans z
  have b:valueAt (q::a) k=valueAt a k:=by simp[valueAt,d]
  rwa [zV e,b]
theorem KV.any(r:KV Ca vs)(k:κ):(Ca.any λa=>decide (a.1=k))=vs.any λa=>decide (a.1=k):=by
 induction r with
 |nil=>rfl
 |cons h t b=>rw[zu,zu,b,h.1]
def KV.Av(r:KV Ca vs)(k:κ){y:V}{u:Value}(c:RelV y u) :
  KV (Ca.map λa=>if a.1=k then (a.1,y) else a) (vs.map λa=>if a.1=k then (a.1,u) else a):=by
 induction r with
 |nil=>exact .nil
 |@cons p q i g h t d=>
  rw[Wf,Wf];refine .cons ?_ d;obtain⟨b,f⟩:=h
  by_cases e:p.1=k
  .rw[Kb e,Kb<|b.symm.trans e];exact⟨b,c⟩
  rw[Pa e,Pa<|λz=>e<|b.trans z];exact⟨b,f⟩
def KV.put(r:KV Ca vs)(k:κ){y:V}{u:Value}(a:RelV y u):KV (Mg Ca k y) (stored vs k u):=by
 unfold Mg stored;rw[r.any k]
 by_cases e:(vs.any λb=>decide (b.1=k))=true
 .rw[Kb e,Kb e];exact r.Av k a
 rw[Pa e,Pa e];exact Paired.snoc r ⟨rfl,a⟩
def KV.drop(r:KV Ca vs)(k:κ):KV (X6 Ca k) (without vs k):=by
 unfold KV at r ⊢;unfold X6 without
 induction r with
 |nil=>exact .nil
 |@cons p q j i h t d=>
  obtain⟨c,f⟩:=h;rw[List.filter_cons,List.filter_cons]
  by_cases e:p.1=k
  .have a:¬ decide (p.1≠k)=true:=by simp[e]
   have b:¬ decide (q.1≠k)=true:=by simp[c.symm.trans e]
   rw[Pa a,Pa b];exact d
  .have g:¬ q.1=k:=λz=>e (c.trans z)
   have a:decide (p.1≠k)=true:=by simp[e]
   have b:decide (q.1≠k)=true:=by simp[g]
   rw[Kb a,Kb b];exact .cons ⟨c,f⟩ d
theorem KV.length(r:KV Ca vs):Ca.length=vs.length:=Paired.length r
end
def Ry{w:World}{k:Key}(r:RelV (kV k) u):(lL P w).is k u=true:=by
 cases k with
 |inl i=>obtain⟨t,e⟩:=(r);subst e;exact ò P w i t
 |inr x=>obtain⟨t,e⟩:=(r);subst e;exact ó P w x t
theorem NX{w:World}:∀{a:Db}{b:ca},Ka (a.map kV) b->ItemsAre (lL P w) a b
 |[],_,r=>by cases r;exact .nil
 |k::a,_,r=>by
  cases r with
  |cons h t=>exact .cons (Ry h)<|NX t
abbrev KT(H:Hp):List (List Key×V)->List (List Key×Addr×Value)->Prop:=Paired λp q=>p.1=q.1/\H q.2.1=some (.tup<|p.1.map kV)/\RelV p.2 q.2.2
def KT.val(r:KT H Ca xs)(k:Db):zO (El Ca k) ((atKey xs k).map (·.2)):=by
 induction r with
 |nil=>exact True.intro
 |@cons p q f a h t g=>
  obtain⟨c,_,i⟩:=h
  by_cases e:p.1=k
  .have b:atKey (q::a) k=some q.2:=by simp[atKey,List.find?_cons,(c.symm.trans e)]
   rwa [zU e,b]
  have d:¬ q.1=k:=λz=>e<|c.trans z
  have b:atKey (q::a) k=atKey a k:=by simp[atKey,d]
  rwa [zV e,b]
def KT.Av(r:KT H Ca xs)(k:Db){y:V}{u:Value}(d:RelV y u) :
  KT H (Ca.map λb=>if b.1=k then (b.1,y) else b) (xs.map<|putAt k u):=by
 induction r with
 |nil=>exact .nil
 |@cons p q j i h t f=>
  rw[Wf];refine .cons ?_ f;obtain⟨a,c,g⟩:=h;unfold putAt
  by_cases e:p.1=k
  .rw[Kb e,Kb<|a.symm.trans e];exact⟨a,c,d⟩
  rw[Pa e,Pa<|λz=>e<|a.trans z];exact⟨a,c,g⟩
def KT.put(r:KT H Ca xs)(k:Db){b:Addr}{y:V}{u:Value}(d:H b=some (.tup<|k.map kV))(a:RelV y u) :
  KT H (Mg Ca k y) (storedH xs k b u):=by
 have e:(Ca.any λc=>decide (c.1=k))=(atKey xs k).isSome:=by
  rw[BZ,(r.val k).Gf,FQ]
 unfold Mg storedH;rw[e]
 by_cases q:(atKey xs k).isSome=true
 .rw[Kb q,Kb q];exact r.Av k a
 rw[Pa q,Pa q];exact Paired.snoc r ⟨rfl,d,a⟩
def KT.keeps{a:Hp}(r:KT H Ca xs)(c:∀b ys,H b=some (.tup ys)->a b=some (.tup ys)):KT a Ca xs:=
 Paired.Tq r λ_ _ z=>⟨z.1,c _ _ z.2.1,z.2.2⟩
section
variable{P:Program}{w:World}{H:Hp}{h:Heap}{a:Addr}
def Y6(ok:Bf P w H h)(e:Rd H a u):lX P w H h a u:=e.ok ok
def dw(ok:Bf P w H h)(e:Rd H a (.dK Ca)):Ca.length<=sizeLine/\(a==sysModules)=false/\∃vs,KV Ca vs/\h.DictOf (lL P w) a vs:=
 (Y6 ok e)
def bMg(ok:Bf P w H h)(e:H a=some (.dK Ca)):Ca.length<=sizeLine/\(a==sysModules)=false/\∃vs,KV Ca vs/\h.DictOf (lL P w) a vs:=dw ok<|.inl e
def Ov{c:Db}(ok:Bf P w H h)(e:H a=some (.tup<|c.map kV)):(tupleKind<|lL P w).is h c a:=by
 obtain⟨_,b,r,o,g,f,n,d⟩:=((ok a _ e));exact⟨o,b.toArray,n,g,f,d,by simpa using NX r⟩
def Sy(ok:Bf P w H h)(e:Rd H a (.dT Ca)):Ca.length<=sizeLine/\(a==sysModules)=false/\
  ∃xs,KT H Ca xs/\h.DictOfH (tupleKind<|lL P w) a xs:=by
 obtain⟨z,y,xs,r,o,n,s,k,j,i,g,f⟩:=((Y6 ok e));refine⟨z,y,xs,r,o,n,s,k,j,i,g,λx b=>?_,f⟩
 have all:∀{l:List _}{m:List _},KT H l m->∀x∈m,(tupleKind<|lL P w).is h x.1 x.2.1:=by
  intro l m q
  induction q with
  |nil=>intro x b;exact nomatch b
  |@cons p q v u c t d=>
   intro x b;rcases qc.mp b with e|b
   .subst e;exact Ov ok (by rw[<-c.1];exact c.2.1)
   exact d x b
 exact all r x b
def Z6(ok:Bf P w H h)(e:H a=some (.dT Ca)):Ca.length<=sizeLine/\(a==sysModules)=false/\
  ∃xs,KT H Ca xs/\h.DictOfH (tupleKind<|lL P w) a xs:=Sy ok<|.inl e
end
def xm(H:Hp)(a:Addr)(y:V)(r:Option V):Prop:=
 (∃c k,Rd H a (.dK c)/\y=kV k/\r=El c k)\/∃c k b,Rd H a (.dT c)/\y=.ref b/\H b=some (.tup<|k.map kV)/\r=El c k
def tq(H:Hp)(a:Addr)(y v:V)(d:Hp):Prop:=
 (∃c k,H a=some (.dK c)/\y=kV k/\c.length<sizeLine/\d=Tb H a (.dK<|Mg c k v))\/
 ∃c k b,H a=some (.dT c)/\y=.ref b/\H b=some (.tup<|k.map kV)/\c.length<sizeLine/\d=Tb H a (.dT<|Mg c k v)
theorem xm.k{H:Hp}{k:Key}(e:H a=some (.dK Ca)):xm H a (kV k) (El Ca k):=.inl ⟨Ca,k,.inl e,rfl,rfl⟩
def xm.t{H:Hp}{k:Db}(e:H a=some (.dT Ca))(c:H b=some (.tup<|k.map kV)):xm H a (.ref b) (El Ca k):=.inr ⟨Ca,k,b,.inl e,rfl,c,rfl⟩
theorem tq.k{H:Hp}{k:Key}(e:H a=some (.dK Ca))(b:Ca.length<sizeLine):tq H a (kV k) v (Tb H a<|.dK<|Mg Ca k v):=.inl ⟨Ca,k,e,rfl,b,rfl⟩
def tq.t{H:Hp}{k:Db}(e:H a=some (.dT Ca))(d:H b=some (.tup<|k.map kV))(c:Ca.length<sizeLine) :
  tq H a (.ref b) v (Tb H a<|.dT<|Mg Ca k v):=.inr ⟨Ca,k,b,e,rfl,d,c,rfl⟩
section
variable{X:Cx}{aa:ce}{σ:St}{H:Hp}{s:Shared}{a:Addr}{y v:V}{u r:Value}{o:Option V}{A:Around}{E:be}
def Ea.big(I:Ea X aa σ H s):sysModules<s.heap.objs.size:=by
 exact xu (by decide)<|(I.mod.glob.keeps I.bk).lt
def ō{Q:be}(r:A.units+1<cLine)(I:Ea X aa σ H s)(g:xm H a y (some v))(q:RelV y u)(h:∀d o,Ea X aa σ H o->RelV v d->Q d o) :
  wpAny (model X.prog X.w) A (getItem (.ref a) u) Q E s:=by
 rcases g with ⟨B,k,e,j,l⟩|⟨B,k,b,e,j,x,l⟩
 .subst j;obtain⟨z,w,D,c,m⟩:=dw I.Xa e;obtain⟨d,f,n⟩:=zO.some_of (by rw[l];exact c.val k)
  exact wpAny_getItem_of (Ry q) m.mapOf f<|h d _ (I.tok _) n
 subst j;cases (q);obtain⟨z,w,C,c,m⟩:=Sy I.Xa e;obtain⟨d,f,n⟩:=zO.some_of (by rw[l];exact c.val k)
 obtain⟨p,t,i⟩:=Option.map_eq_some_iff.mp f;refine wpAny_getItem_heap (GH r) (Ov I.Xa x) m t ?_
 rw[i];exact h d _ (I.tok _) n
def bPc{Q:be}(n:A.units+1<cLine)(I:Ea X aa σ H s)(g:xm H a y o)(m:RelV y u)(h:∀j,Ea X aa σ H j->Q (.bool o.isSome) j) :
  wpAny (model X.prog X.w) A (compareOp .In u<|.ref a) Q E s:=by
 rcases g with ⟨r,k,e,f,l⟩|⟨r,k,b,e,f,p,l⟩
 .subst f;obtain⟨z,d,v,c,i⟩:=dw I.Xa e;refine wpAny_in_of (Ry m) d i.mapOf ?_
  rw[<-(c.val k).Gf,<-l];exact h _<|I.tok _
 subst f;cases (m);obtain⟨z,d,t,c,i⟩:=Sy I.Xa e;refine wpAny_in_heap (GH n) (Ov I.Xa p) d i ?_
 have q:=(c.val k).Gf;rw[FQ]at q;rw[<-q,<-l];exact h _<|I.tok _
def bE7{Q:be}(n:A.units+1<cLine)(I:Ea X aa σ H s)(g:xm H a y o)(m:RelV y u)(h:∀j,Ea X aa σ H j->Q (.bool<|!o.isSome) j) :
  wpAny (model X.prog X.w) A (compareOp .NotIn u<|.ref a) Q E s:=by
 rcases g with ⟨r,k,e,f,l⟩|⟨r,k,b,e,f,p,l⟩
 .subst f;obtain⟨z,d,v,c,i⟩:=dw I.Xa e;refine wpAny_notIn_of (Ry m) d i.mapOf ?_
  rw[<-(c.val k).Gf,<-l];exact h _<|I.tok _
 subst f;cases (m);obtain⟨z,d,t,c,i⟩:=Sy I.Xa e;refine wpAny_notIn_heap (GH n) (Ov I.Xa p) d i ?_
 have q:=(c.val k).Gf;rw[FQ]at q;rw[<-q,<-l];exact h _<|I.tok _
def BM{t':Nat}{ob:HO}(I:Ea X aa σ H s)(d:Gk (H a))(e:Heap.SameBut a s.heap h')(he:∃q,h'.get? a=some q)(c:lX X.prog X.w (Tb H a ob) h' a ob) :
  Ea X aa σ (Tb H a ob) {s with heap:=h',toks:=t'}:=
 I.write d (.inl rfl) (λb q f z=>(e.2 b f).trans z) he c
def bJb{w:World}{d:Heap}{c:Fk}(z:c.length<=sizeLine)(e:(a==sysModules)=false)(b:KV c vs)(dd:d.DictOf (lL P w) a vs) :
  lX P w H' d a (.dK c):=⟨z,e,vs,b,dd⟩
theorem Ŏ{Q:u8}(J:A.units+1<cLine)(I:Ea X aa σ H s)(g:tq H a y v H')(x:RelV y u)(B:RelV v r)(h:∀w,Ea X aa σ H' w->Q () w) :
  wpAny (model X.prog X.w) A (setItem (.ref a) u r) Q E s:=by
 rcases g with ⟨t,k,e,n,l,o⟩|⟨t,k,b,e,n,C,l,o⟩
 .subst n o;obtain⟨z,m,F,d,p⟩:=bMg I.Xa e;have G:F.length<=sizeLine:=by rwa [<-d.length]
  exact wpAny_setItem_pairs (Ry x) p λO i j=>h _<|BM I (by rw[e];exact True.intro) j (let ⟨q,_,_,f,_⟩:=i;⟨q,f⟩)<|bJb (by have:=JW t k v;lia) m (d.put k B) i
 subst n o;cases (x);obtain⟨z,m,D,d,p⟩:=Z6 I.Xa e;have G:D.length<=sizeLine:=by rwa [<-Paired.length d]
 refine wpAny_setItem_heap (GH J) (Ov I.Xa C) p λO i j=>h _ ?_
 obtain⟨q,P,R,f,N,M,L,_,K⟩:=i;refine BM I (by rw[e];exact True.intro) j ⟨q,f⟩ ⟨(by have:=JW t k v;lia),m,_,(d.put k C B).keeps λc S ec=>?_,q,P,R,f,N,M,L,K⟩
 rwa [aZ<|S6 ec e<|λz=>nomatch z]
end
section
variable{X:Cx}{aa:ce}{σ:St}{H:Hp}{s:Shared}{a:Addr}{Ca:Fk}{k:Key}{u:Value}{A:Around}{E:be}
theorem bMh{Q:be}(I:Ea X aa σ H s)(e:Rd H a (.dK Ca))(h:∀t c,Ea X aa σ H c->Q (.int Ca.length t) c):wpAny (model X.prog X.w) A (call (.builtin "len") [.ref a]) Q E s:=by
 obtain⟨z,d,g,b,f⟩:=dw I.Xa e;refine call_len_dict d f (by rw[<-b.length];rw[Pp]at z;lia) ?_
 rw[<-b.length];exact h _ _<|I.tok _
end
def õ{X:Cx}(I:Ea X aa σ H s)(g:xm H a y o):s.TypeIs (.ref a) "dict":=by
 rcases g with ⟨d,k,e,_,_⟩|⟨d,k,b,e,_,_,_⟩
 .obtain⟨_,_,h,_,c⟩:=dw I.Xa e;exact c.typeIs
 obtain⟨_,_,f,_,c⟩:=Sy I.Xa e;exact c.typeIs
def Qd(e ty d:TE):TS:=λD b H=>d b H λv h=>e b h λx g=>ty b g λy f=>∃a c,x=.ref a/\tq f a y v c/\D.nx b c
def aZp{w:World}(h:Heap)(a:sysModules<h.objs.size):lX P w H (h.push {cls:=.type "dict",data:=.dict #[]}) h.objs.size (.dK []):=
 ⟨rh _,ju.mpr<|uh<|ff a,[],.nil,Heap.DictOf.new h⟩
def CZ{w:World}(h:Heap)(a:sysModules<h.objs.size):lX P w H (h.push {cls:=.type "dict",data:=.dict #[]}) h.objs.size (.dT []):=
 ⟨rh _,ju.mpr<|uh<|ff a,[],.nil,_, #[],0,Af _ rfl,⟨rfl,rfl,rfl⟩,rfl,rfl,PQ⟩
def bJc:TE:=λ_ H Q=>∀p,H p=none->Q (.ref p) (Tb H p<|.dK [])
def bJd:TE:=λ_ H Q=>∀p,H p=none->Q (.ref p) (Tb H p<|.dT [])
section
variable{X:Cx}{pos:Pos}
def aZq:PE X (.Dict [] [] pos) bJc:=λb s a H Q I h=>
 wpAny_Dict_empty ⟨.ref s.heap.objs.size,_,I.laid (λ_ _ q=>vc _ q) (Ec _)<|aZp s.heap I.big,rfl,h _<|I.Xa.fresh<|Ec _⟩
def aZr:PE X (.Dict [] [] pos) bJd:=λb s a H Q I h=>
 wpAny_Dict_empty ⟨.ref s.heap.objs.size,_,I.laid (λ_ _ q=>vc _ q) (Ec _)<|CZ s.heap I.big,rfl,h _<|I.Xa.fresh<|Ec _⟩
end
def E5:List (TE×TE)->St->Hp->(List (V×V)->Hp->Prop)->Prop
 |[],_,H,Q=>Q [] H
 |(c,b)::r,a,H,Q=>c a H λx g=>b a g λy f=>E5 r a f λd e=>Q ((x,y)::d) e
abbrev VV:List (V×V)->List (Value×Value)->Prop:=Paired λp q=>RelV p.1 q.1/\RelV p.2 q.2
def PJ(X:Cx)(d:Pos)(b:List (Option Expr))(a:List Expr)(j:List (TE×TE)):Prop:=
 ∀(f:ce) (s:Shared) (c:St) (H:Hp) (Q:List (V×V)->Hp->Prop),Ea X f c H s->E5 j c H Q->
  wpAny (model X.prog X.w) X.A (evalPairs<|pairTrees b a X.env d) (λh i=>∃e g,Ea X f c g i/\VV e h/\Q e g) X.xe s
def bE8{X:Cx}:PJ X pos [] [] []:=λb s a H Q I h=>pairTrees_nil_walk ⟨[],H,I,.nil,h⟩
def aZt{X:Cx}{k v:Expr}(p:PE X k tk)(n:PE X v tv)(o:PJ X pos ks vs OU) :
  PJ X pos (some k::ks) (v::vs) ((tk,tv)::OU):=λc s a H Q I h=>
 pairTrees_cons_walk (Cc (p c s a H _ I h) λu e ⟨x,A,t,g,l⟩=>Cc (n c e a A _ t l) λC d ⟨y,z,r,f,j⟩=>
  Cc (o c d a z _ r j) λB D ⟨m,w,q,b,i⟩=>⟨(x,y)::m,w,q,.cons ⟨g,f⟩ b,i⟩)
structure M1(X:Cx)(o:Expr)(m:Str)(Fb:Pos)(e:Expr)(Nb:Pos):Prop where
 base:Ak o m X.env
 Lj:aq Nb [e] X.env
 line:Pn Fb Nb
 n_:backTo Nb (starEach [e] X.env)=[(false,eval e X.env)]
end L2
set_option maxHeartbeats 1000000
open PySem.W (Frag findIn mroIn clsIn specialIn takesIn nsIn notCls keepIn kitOne kia_one fnOf codeIn callWith_K excIn mg_of isFn KdlSrc OpenLaw makesIn mg_none_of WalkO InK)
open List (foldl_cons mem_cons_self mem_cons_of_mem all_cons map_cons length_cons length_append length_singleton pairwise_map length_map cons_append zip_cons_cons find?_cons nodup_cons length_range getElem?_cons_succ getD_eq_getElem?_getD append_nil Nodup length_zip drop_eq_getElem_cons mem_cons any_cons length_set drop_zero forIn_cons lookup_cons getElem?_toArray not_mem_nil forIn_nil)
open Nat (zero_le succ_mul mod_lt add_sub_cancel_left lt_succ_self le_succ not_lt_zero)
open Array (ext' getElem?_toList toList_push getD_eq_getD_getElem?)
open Int (toNat_natCast emod_nonneg)
open Option (getD_some map_some)
open Bool (and_eq_true or_eq_true)
variable{α β:Type}{c m f' newId:String}{n np i q j ch c' x1 t' ep:Nat}{b v':Bool}{l a C fa D' I Ra Ga Hd Ya Na Aa Oa Ba yb Ob Mb:PySem.Addr}{tg e o elt value:PySem.Expr}{x qual name:PySem.Str}{op:PySem.CmpOp}{y dV oc f1:PySem.Value}{z rk u ks Ta la lb:ac}{E Q Qf:PySem.Value->PySem.Shared->Prop}{ys items:Array PySem.Value}{S T U:am}{s s':PySem.Shared}{P prog:PySem.Program}{v:L2.V}{al:IR}{vs Ld zs:List L2.V}{B A fp Z:List PySem.Addr}{qa sq:f8}{ns:li}{ws:sK}{H H' H1 H0 G:L2.Hp}{Dn:L2.Ends}{X Y:L2.Cx}{es Kj:List PySem.Expr}{pos p0 pos' p2 p1 Fb Nb dp tp:PySem.Pos}{gv:Int->Int->L2.V}{fd:PySem.FuncData}{ps N loose:List PySem.Str}{sm Hm:PySem.Stmt}{h h' base h0:PySem.Heap}{M:PySem.Model}{env:PySem.Env}{body vm:List PySem.Stmt}{mg:PySem.Str->Option PySem.Value}{scope:PySem.Scope}{aa:List (PySem.Addr×PySem.Obj)}{te:L2.TE}{tt:L2.TT}{pl:PySem.Sem Bool}{Zi:Array (Option PySem.Value)}{sp:L2.Sp}{outer fl:List PySem.Env}{tl Xz us An:List PySem.Value}{h₀:PySem.ExceptHandler}{hs:List PySem.ExceptHandler}{CX:L2.gq}{Ca:List (List L2.Key×L2.V)}{oa:PySem.Obj}{cs:re}{Vf We Eh:PySem.Tok}{XP:(PySem.Str->Option PySem.Value)->PySem.Heap->Prop}
namespace Pu
inductive D where
 |xc|bl (b:Bool)|int (i:Int)|str (s:ac)|tup (xs:List D)|lst (xs:List D)
 |Ug (t:Bool) (ks vs:List D)
 |ins (c:String) (ns:re) (xs:List D)
 |Dg (c:String) (ns:re) (xs:List D)
 |fn (f:String)
abbrev _root_.db:=List D
abbrev _root_.AT:=D->Bool
abbrev _root_.Ix:=List (List D)
inductive R (α:Type) where
 |ok (a:α)|exc (x:D)|bad
abbrev _root_.cr:=List D->R D
abbrev _root_.v6:=List (String×(List D->R D))
abbrev _root_.Ch:=D->R D
@[inline] def R.bind{c b:Type}(r:R c)(f:c->R b):R b:=match r with
 |.ok a=>f a
 |.exc x=>.exc x
 |.bad=>.bad
def R.Dq(a:α)(f:α->R β):(R.ok a).bind f=f a:=rfl
def R.ua{r:R α}{f:α->R β}{b:β}(h:r.bind f=.ok b):∃a,r=.ok a/\f a=.ok b:=by
 cases r with
 |ok a=>exact⟨a,rfl,h⟩
 |exc x=>exact nomatch h
 |bad=>exact nomatch h
noncomputable section
open Classical in
def aP{a:Type}(c:Prop)(r:R a):R a:=if c then r else .bad
def aD{c:Prop}(h:c):aP c r=r:=Kb h
def aM{c:Prop}{a:α}(h:aP c r=.ok a):c/\r=.ok a:=by
 unfold aP at h;split at h
 .exact⟨by assumption,h⟩
 exact nomatch h
inductive OK where
 |l|d (t:Bool) (ks:db)|i (n:Nat) (c:String) (ns:re)
def Yp:OK->List D->D
 |.l,a=>.lst a
 |.d t ks,a=>.Ug t ks a
 |.i _ c ns,a=>.ins c ns a
inductive Sl where
 |v (d:D)|o (k:OK) (xs:db)
abbrev _root_.im:=Option Sl
abbrev za:=List<|Option Sl
abbrev Ex:=za->R D
inductive Fl where
 |nx (st:za)|rt (d:D)|bk (st:za)|ct (st:za)
abbrev Bd:=za->R Fl
@[irreducible] def big:Nat:=10000000
def rE:big=10000000:=by unfold big;rfl
def fK(h:n<=10000000):n<=big:=by rwa [rE]
def Ft(h:n<10000000):n<big:=by rwa [rE]
def iE{n:Int}(h:n<=10000000):n<=(big:Int):=by rwa [rE]
def CM{n:Int}(h : -10000000<=n) : -(big:Int)<=n:=by rwa [rE]
def Sf(n d:Nat):Option Int->Nat
 |none=>d
 |some v=>if v<0 then (v+(n:Int)).toNat else min v.toNat n
def wk(n:Nat)(i:Int):Option Nat:=if 0<=i then (if i<n then some i.toNat else none) else if -(n:Int)<=i then some (i+n).toNat else none
def Ye{a:Type}(xs:List a)(i:Int):Option a:=(wk xs.length i).bind λj=>xs[j]?
def cut{a:Type}(xs:List a)(lo b:At):List a:=(xs.drop<|Sf xs.length 0 lo).take<|Sf xs.length xs.length b-Sf xs.length 0 lo
def Ci{b:Type}:Option b->R b
 |some a=>.ok a
 |none=>.bad
abbrev Og:=D->Ch
def eQ:Og
 |.int i,.int j=>.ok<|.int<|i+j
 |.str x,.str y=>aP (x.length+y.length<=big)<|.ok<|.str<|x++y
 |.lst x,.lst y=>aP (x.length+y.length<=big)<|.ok<|.lst<|x++y
 |_,_=>.bad
def Wt:Og
 |.int i,.int j=>.ok<|.int<|i-j
 |_,_=>.bad
def Uy:Og
 |.int i,.int j=>aP (0<j/\j<1073741824)<|.ok<|.int<|i/j
 |_,_=>.bad
def tE:Og
 |.int i,.int j=>aP (0<j)<|.ok<|.int<|i%j
 |_,_=>.bad
def mP:Og
 |.int i,.int j=>aP (0<=j/\j<=1000000/\i.natAbs<18446744073709551616)<|.ok<|.int<|i^j.toNat
 |_,_=>.bad
def zp:Ch
 |.int i=>.ok<|.int<|-i
 |_=>.bad
def Y7:AT
 |.int _=>true
 |.str _=>true
 |_=>false
def Nc(t:Bool)(d:D):Bool:=match d with
 |.int _=>!t
 |.str _=>!t
 |.tup a=>t&&a.all Y7
 |_=>false
mutual
def Bg:D->D->Bool
 |.int i,.int j=>i==j
 |.str x,.str y=>x==y
 |.tup x,.tup y=>Ap x y
 |_,_=>false
def Ap:List D->List D->Bool
 |[],[]=>true
 |a::x,b::y=>Bg a b&&Ap x y
 |_,_=>false
end
def pL(a vs:db)(k:D):Option D:=((a.zip vs).find? λp=>Bg p.1 k).map (·.2)
def mC(a:db)(k:D):Bool:=a.any λx=>Bg x k
def qW(a:db)(k:D):db:=if mC a k=true then a else a++[k]
def qX(a vs:db)(k v:D):db:=if mC a k=true then (a.zip vs).map (λp=>if Bg p.1 k=true then v else p.2) else vs++[v]
def jb:Og
 |.Ug t ks vs,k=>aP (Nc t k=true)<|Ci<|pL ks vs k
 |.lst x,.int i=>Ci<|Ye x i
 |.tup x,.int i=>Ci<|Ye x i
 |.str x,.int i=>aP (x.length<=big)<|Ci<|(Ye x i).map λc=>.str [c]
 |_,_=>.bad
mutual
def ae:D->D->Bool
 |.xc,.xc=>true
 |.bl a,.bl b=>a==b
 |.bl a,.int j=>(if a then (1:Int) else 0)==j
 |.int i,.bl b=>i==(if b then (1:Int) else 0)
 |.int i,.int j=>i==j
 |.str x,.str y=>x==y
 |.tup x,.tup y=>pM x y
 |.lst x,.lst y=>pM x y
 |_,_=>false
def pM:List D->List D->Bool
 |[],[]=>true
 |a::x,b::y=>ae a b&&pM x y
 |_,_=>false
end
mutual
def zg:D->Nat
 |.tup x=>jR x+1
 |.lst x=>jR x+1
 |.xc=>0
 |.bl _=>0
 |.int _=>0
 |.str _=>0
 |.Ug _ _ _=>0
 |.ins _ _ _=>0
 |.Dg _ _ _=>0
 |.fn _=>0
def jR:List D->Nat
 |[]=>0
 |a::x=>max (zg a)<|jR x
end
mutual
def plain:AT
 |.tup x=>dR x
 |.lst x=>dR x
 |.xc=>true
 |.bl _=>true
 |.int _=>true
 |.str _=>true
 |.Ug _ _ _=>false
 |.ins _ _ _=>false
 |.Dg _ _ _=>false
 |.fn _=>false
def dR:List D->Bool
 |[]=>true
 |a::x=>plain a&&dR x
end
def Me:Og:=λa b=>aP (zg a<=64/\plain a=true/\plain b=true)<|.ok<|.bl<|ae a b
def Hi:Og:=λa b=>aP (zg a<=64/\plain a=true/\plain b=true)<|.ok<|.bl<|!ae a b
def Ym:List D->List D->R Bool
 |[],[]=>.ok false
 |[],_::_=>.ok true
 |_::_,[]=>.ok false
 |a::x,b::y=>if ae a b=true then Ym x y else match a,b with
  |.int i,.int j=>.ok<|decide (i<j)
  |.str s,.str t=>.ok<|decide (s<t)
  |_,_=>.bad
def tx:Og
 |.int i,.int j=>.ok<|.bl<|decide (i<=j)
 |_,_=>.bad
def qx:Og
 |.int i,.int j=>.ok<|.bl<|decide (j<i)
 |_,_=>.bad
def ox:Og
 |.int i,.int j=>.ok<|.bl<|decide (j<=i)
 |_,_=>.bad
def kI:Ch
 |.Ug false ks _=>.ok<|.int ks.length
 |.lst x=>.ok<|.int x.length
 |.tup x=>.ok<|.int x.length
 |.str x=>aP (x.length<=big)<|.ok<|.int x.length
 |_=>.bad
def Zn:AT
 |.ins _ _ _=>false
 |.Dg _ _ _=>false
 |.fn _=>false
 |_=>true
def Xs:AT
 |.xc=>true
 |_=>false
def oP:AT
 |.str _=>true
 |_=>false
def Xt:AT
 |.bl _=>true
 |_=>false
def isIn:AT
 |.bl _=>true
 |.int _=>true
 |_=>false
def gz:AT
 |.tup _=>true
 |_=>false
def Z7:AT
 |.Ug _ _ _=>true
 |_=>false
def Bw:AT
 |.lst _=>true
 |_=>false
def nO(x y:ac)(lo:Nat):Option Nat:=(List.range' lo<|x.length+1-lo).find? λi=>decide (i+y.length<=x.length)&&((x.drop i).take y.length==y)
def zW:Option Nat->Int
 |some i=>i
 |none=>-1
def xT(x y:ac):ac:=(((x.dropWhile λc=>y.contains c).reverse).dropWhile λc=>y.contains c).reverse
abbrev sr:=D->cr
def MF:sr
 |.str x,[.str y]=>.ok<|.int<|zW<|nO x y 0
 |.str x,[.str y,.int i]=>aP (0<=i)<|.ok<|.int<|zW<|nO x y i.toNat
 |_,_=>.bad
def Hy:sr
 |.str x,[.str y]=>(Ci<|nO x y 0).bind λi=>.ok<|.int i
 |_,_=>.bad
def WE:sr
 |.str x,[.str y]=>aP (x.length<=big)<|.ok<|.str<|xT x y
 |_,_=>.bad
def lq:D->D->R D
 |.int i,.int j=>.ok<|.int<|if j>i then j else i
 |_,_=>.bad
def Vy:D->D->R D
 |.int i,.int j=>.ok<|.int<|if j<i then j else i
 |_,_=>.bad
def inD(x:D)(ys:db):Bool:=ys.any λy=>ae y x
def sx:D->D->R D
 |k,.Ug t ks _=>aP (Nc t k=true)<|.ok<|.bl<|mC ks k
 |x,.lst ys=>aP (jR ys<=60/\plain x=true/\dR ys=true)<|.ok<|.bl<|inD x ys
 |x,.tup ys=>aP (jR ys<=60/\plain x=true/\dR ys=true)<|.ok<|.bl<|inD x ys
 |.str x,.str y=>.ok<|.bl (nO y x 0).isSome
 |_,_=>.bad
def vU:D->D->R D
 |k,.Ug t ks _=>aP (Nc t k=true)<|.ok<|.bl<|!mC ks k
 |x,.lst ys=>aP (jR ys<=60/\plain x=true/\dR ys=true)<|.ok<|.bl<|!inD x ys
 |x,.tup ys=>aP (jR ys<=60/\plain x=true/\dR ys=true)<|.ok<|.bl<|!inD x ys
 |.str x,.str y=>.ok<|.bl<|!(nO y x 0).isSome
 |_,_=>.bad
def q9:D->D->R D
 |x,.xc=>.ok<|.bl<|Xs x
 |.bl a,.bl b=>.ok<|.bl<|a==b
 |_,_=>.bad
def aA(i:Nat):Ex:=λst=>match st[i]? with
 |some (some<|.v d)=>.ok d
 |_=>.bad
def dF(i:Nat):Ex:=λst=>match st[i]? with
 |some (some<|.v d)=>.ok d
 |some (some<|.o k a)=>.ok<|Yp k a
 |_=>.bad
def eC(d:D):Ex:=λ_=>.ok d
def e2(op:Og)(f g:Ex):Ex:=λst=>(f st).bind λx=>(g st).bind λy=>op x y
def e1(op:Ch)(f:Ex):Ex:=λst=>(f st).bind op
def eB(p:AT)(f:Ex):Ex:=λst=>(f st).bind λx=>aP (Zn x=true)<|.ok<|.bl<|p x
def lm{a:Type}(d:D)(f:Bool->R a):R a:=match d with
 |.bl b=>f b
 |_=>.bad
def xU{f:Bool->R α}{a:α}(h:lm d f=.ok a):∃b,d=.bl b/\f b=.ok a:=by
 cases d<;>first|exact⟨_,rfl,h⟩|exact nomatch h
def pN(f g:Ex):Ex:=λst=>(f st).bind λx=>lm x λb=>if b=true then g st else .ok (.bl false)
def Bj(f g:Ex):Ex:=λst=>(f st).bind λx=>lm x λb=>if b=true then .ok (.bl true) else g st
def mF(f:Ex):Ex:=λst=>(f st).bind λx=>lm x λb=>.ok<|.bl<|!b
abbrev mh:=za->R (List D)
def aK:mh:=λ_=>.ok []
def aC(f:Ex)(r:mh):mh:=λst=>(f st).bind λx=>(r st).bind λa=>.ok<|x::a
def oZ(r:mh):Ex:=λst=>(r st).bind λa=>aP (a.length<=big)<|.ok<|.tup a
def iQ(r:mh):Ex:=λst=>(r st).bind λa=>aP (a.length<=big)<|.ok<|.lst a
def aV(p:cr)(r:mh):Ex:=λst=>(r st).bind p
def ik(m:sr)(f:Ex)(r:mh):Ex:=λst=>(f st).bind λx=>(r st).bind λa=>m x a
def Vp(d:D){a:Type}(f:Int->R a):R a:=match d with
 |.int i=>f i
 |_=>.bad
def XE{f:Int->R α}{a:α}(h:Vp d f=.ok a):∃i,d=.int i/\f i=.ok a:=by
 cases d<;>first|exact⟨_,rfl,h⟩|exact nomatch h
abbrev xt:=za->R (Option Int)
def uY:xt:=λ_=>.ok none
def rR(f:Ex):xt:=λst=>(f st).bind λx=>Vp x λi=>.ok<|some i
def BR(x:D)(lo b:At):R D:=match x with
 |.lst a=>.ok<|.lst<|cut a lo b
 |.str a=>aP (a.length<=big)<|.ok<|.str<|cut a lo b
 |_=>.bad
def jk(f:Ex)(lo a:xt):Ex:=λst=>(f st).bind λx=>(lo st).bind λl=>(a st).bind λh=>BR x l h
abbrev Wn:=za->R (List D)
def Cd(f:Ex):Wn:=λst=>(f st).bind λx=>match x with
 |.lst a=>.ok a
 |.tup a=>.ok a
 |.str a=>aP (a.length<=big)<|.ok<|a.map λc=>.str [c]
 |_=>.bad
def pO(lo:Int)(n:Nat):db:=(List.range n).map λ(k:Nat)=>.int<|lo+(k:Int)
def pA(f:Ex):Wn:=λst=>(f st).bind λx=>Vp x λj=>aP (-(big:Int)<=j/\j<=(big:Int))<|.ok<|pO 0 j.toNat
def EG(f g:Ex):Wn:=λst=>(f st).bind λx=>(g st).bind λy=>Vp x λi=>Vp y λj=>aP (-(big:Int)<=i/\i<=(big:Int)/\-(big:Int)<=j/\j<=(big:Int))<|.ok<|pO i (j-i).toNat
abbrev Tg:=D->za->R za
def Pb(i:Nat):Tg:=λd st=>.ok<|st.set i<|some<|.v d
def Qv:ac->db->za->R za
 |[],[],st=>.ok st
 |i::is,d::a,st=>Qv is a<|st.set i<|some<|.v d
 |_,_,_=>.bad
def Xj(is:ac):Tg:=λd st=>match d with
 |.tup a=>Qv is a st
 |.lst a=>Qv is a st
 |_=>.bad
def mK(tg:Tg)(c f:Ex)(st:za):List D->R (List D)
 |[]=>.ok []
 |d::e=>(tg d st).bind λa=>(c a).bind λx=>lm x λb=>if b=true then (f a).bind λy=>(mK tg c f st e).bind λys=>.ok (y::ys) else mK tg c f st e
def Sk(is:ac)(st:za):za:=is.foldl (λs i=>s.set i none) st
def bU(is:ac)(tg:Tg)(it:Wn)(c f:Ex):Ex:=λst=>(it st).bind λa=>aP (a.length<=big)<|(mK tg c f (Sk is st) a).bind λys=>.ok<|.lst ys
def cA:Ex:=λ_=>.ok<|.bl true
def Cw(r:R Fl)(f:za->R Fl):R Fl:=r.bind λx=>match x with
 |.nx st=>f st
 |.rt d=>.ok<|.rt d
 |.bk st=>.ok<|.bk st
 |.ct st=>.ok<|.ct st
def cX:Bd:=λst=>.ok<|.nx st
def aW(a b:Bd):Bd:=λst=>Cw (a st) b
def cV(i:Nat)(f:Ex):Bd:=λst=>(f st).bind λd=>.ok<|.nx<|st.set i<|some<|.v d
def tH(i:Nat)(f:Ex):Bd:=λst=>(f st).bind λd=>match d with
 |.lst a=>.ok<|.nx<|st.set i<|some<|.o .l a
 |_=>.bad
def Dw(tg:Tg)(f:Ex):Bd:=λst=>(f st).bind λd=>(tg d st).bind λa=>.ok<|.nx a
def Bp(i:Nat)(f:Ex):Bd:=λst=>(f st).bind λd=>match st[i]? with
 |some (some<|.o .l a)=>aP (a.length<big)<|.ok<|.nx<|st.set i<|some<|.o .l<|a++[d]
 |_=>.bad
def Yt(i:Nat)(f:Ex):Bd:=λst=>(f st).bind λd=>match d with
 |.lst ys=>(match st[i]? with
  |some (some<|.o .l a)=>aP (a.length+ys.length<=big)<|.ok<|.nx<|st.set i<|some<|.o .l<|a++ys
  |_=>.bad)
 |_=>.bad
def gw(i:Nat)(t:Bool):Bd:=λst=>.ok<|.nx<|st.set i<|some<|.o (.d t []) []
def Qd(i:Nat)(g f:Ex):Bd:=λst=>(f st).bind λd=>(g st).bind λk=>match st[i]? with
 |some (some<|.o (.d t ks) vs)=>aP (Nc t k=true/\vs.length<big)<|.ok<|.nx<|st.set i<|some<|.o (.d t<|qW ks k)<|qX ks vs k d
 |_=>.bad
def gQ(i:Nat)(c f:String)(e:Ex):Bd:=λst=>(e st).bind λd=>match st[i]? with
 |some (some<|.o (.i n c' ns) a)=>aP (c'=c/\f∉ns/\ns.length<900)<|.ok<|.nx<|st.set i<|some<|.o (.i n c'<|ns++[f])<|a++[d]
 |_=>.bad
def cN(c f:String):Ch
 |.ins c' ns a=>aP (c'=c)<|Ci<|(ns.zip a).lookup f
 |_=>.bad
def rT(c m:String)(p:cr)(b:db)(f:Ex)(r:mh):Ex:=λst=>(f st).bind λx=>(r st).bind λa=>match x with
 |.ins c' ns _=>aP (c'=c/\m∉ns)<|p<|x::(a++b)
 |_=>.bad
def F5:Bd:=λ_=>.bad
def As(st:za)(i:Nat):za:=match st[i]? with
 |some (some<|.o k a)=>st.set i<|some<|.v<|Yp k a
 |_=>st
def Rm(is:ac)(b:Bd):Bd:=λst=>b<|is.foldl As st
def cG(f:Ex):Bd:=λst=>(f st).bind λd=>.ok<|.rt d
def rF(f:Ex):Bd:=λst=>(f st).bind λ_=>.ok<|.nx st
def Pd(c:Ex)(a b:Bd):Bd:=λst=>(c st).bind λx=>lm x λq=>if q=true then a st else b st
def Uc(tg:Tg)(a:Bd):db->za->R Fl
 |[],st=>.ok<|.nx st
 |d::c,st=>(tg d st).bind λe=>(a e).bind λx=>match x with
  |.nx b=>Uc tg a c b
  |.ct b=>Uc tg a c b
  |.bk b=>.ok<|.nx b
  |.rt v=>.ok<|.rt v
def tK(tg:Tg)(it:Wn)(a:Bd):Bd:=λst=>(it st).bind λb=>Uc tg a b st
def jL(c:Ex)(a:Bd):Nat->za->R Fl
 |0,_=>.bad
 |n+1,st=>(c st).bind λx=>lm x λq=>if q=true then (a st).bind λx=>(match x with
  |.nx b=>jL c a n b
  |.ct b=>jL c a n b
  |.bk b=>.ok<|.nx b
  |.rt v=>.ok<|.rt v) else .ok (.nx st)
def Rv(n:Nat)(c:Ex)(a:Bd):Bd:=λst=>jL c a n st
def dD(a n:Nat)(b:Bd)(c:db):R D:=
 aP (c.length=a) ((b<|c.map (λd=>some<|.v d)++List.replicate (n-a) none).bind λx=>match x with
  |.nx _=>.ok .xc
  |.rt d=>.ok d
  |_=>.bad)
def wK(c:String)(a n:Nat)(b:Bd)(x:Nat)(e:db):R D:=
 aP (e.length=a) ((b<|some (.o (.i x c []) [])::(e.map (λd=>some<|.v d)++List.replicate (n-a-1) none)).bind λ(fl:Fl)=>match fl with
  |.nx st=>(match (st[0]?:Option (Option Sl)) with
   |some (some<|.o (.i y c' ns) f)=>aP (y=x)<|.ok<|.ins c' ns f
   |_=>.bad)
  |_=>.bad)
open Classical in
def uq(c:String)(a n:Nat)(b:Bd)(e:db):R D:=if h:∃d,∀x,wK c a n b x e=.ok d then .ok (choose h) else .bad
def bEa{b:Bd}(h:∀x,wK c np n b x ds=.ok d):uq c np n b ds=.ok d:=by
 unfold uq;rw[dif_pos _];have:=kH (p:=λd=>∀x,wK c np n b x ds=.ok d) ⟨d,h⟩ 0
 rw[h 0]at this;exact this.symm
def K2{b:Bd}(h:uq c np n b ds=.ok d)(x:Nat):wK c np n b x ds=.ok d:=by
 unfold uq at h;split at h
 .rename_i e
  rwa [(kH e x)]
 cases h
end
end Pu
variable{d:Pu.D}{ds xs dv:List Pu.D}{r:Pu.mh}{f g:Pu.Ex}{st' s1:Pu.za}{p:List Pu.D->Pu.R Pu.D}{it:Pu.Wn}{L bd Rk:Pu.Bd}{x5:Option Pu.Sl}{tb:List (String×(List Pu.D->Pu.R Pu.D))}{hl:List (List String×List String×(String->Pu.Bd))}
namespace Pu
@[simp] theorem bg1:1<=big:=fK (by decide)
@[simp] theorem bg2:2<=big:=fK (by decide)
@[simp] theorem bg3:3<=big:=fK (by decide)
@[simp] theorem bN(a:α)(f:α->R β):(R.ok a).bind f=f a:=rfl
@[simp] theorem BN(b:Bool)(f:Bool->R α):lm (.bl b) f=f b:=rfl
@[simp] theorem bO7(i:Int)(f:Int->R α):Vp (.int i) f=f i:=rfl
@[simp] theorem bO8(st:za)(f:za->R Fl):Cw (.ok<|.nx st) f=f st:=rfl
@[simp] theorem bO9(d:D)(f:za->R Fl):Cw (.ok<|.rt d) f=.ok (.rt d):=rfl
@[simp] theorem qK(i:Nat)(st:za):aA i st=(match st[i]? with|some (some<|.v d)=>R.ok d|_=>.bad):=rfl
@[simp] theorem bMk(i:Nat)(st:za):dF i st=(match st[i]? with|some (some<|.v d)=>R.ok d|some (some<|.o k xs)=>.ok (Yp k xs)|_=>.bad):=rfl
@[simp] theorem bMl(d:D)(st:za):eC d st=.ok d:=rfl
@[simp] theorem GO(op:Og)(f g:Ex)(st:za):e2 op f g st=(f st).bind λx=>(g st).bind λy=>op x y:=rfl
@[simp] theorem iw(op:Ch)(f:Ex)(st:za):e1 op f st=(f st).bind op:=rfl
@[simp] theorem bPt(p:AT)(f:Ex)(st:za):eB p f st=(f st).bind λx=>aP (Zn x=true) (.ok<|.bl<|p x):=rfl
@[simp] theorem N2(f g:Ex)(st:za):pN f g st=(f st).bind λx=>lm x λb=>if b=true then g st else .ok (.bl false):=rfl
@[simp] theorem bJg(f g:Ex)(st:za):Bj f g st=(f st).bind λx=>lm x λb=>if b=true then .ok (.bl true) else g st:=rfl
@[simp] theorem bEb(f:Ex)(st:za):mF f st=(f st).bind λx=>lm x λb=>.ok (.bl<|!b):=rfl
@[simp] theorem bOa(st:za):aK st=.ok []:=rfl
@[simp] theorem aZx(f:Ex)(r:mh)(st:za):aC f r st=(f st).bind λx=>(r st).bind λxs=>.ok (x::xs):=rfl
@[simp] theorem bEc(r:mh)(st:za):oZ r st=(r st).bind λxs=>aP (xs.length<=big) (.ok<|.tup xs):=rfl
@[simp] theorem bEd(r:mh)(st:za):iQ r st=(r st).bind λxs=>aP (xs.length<=big) (.ok<|.lst xs):=rfl
@[simp] theorem bMm(p:cr)(r:mh)(st:za):aV p r st=(r st).bind p:=rfl
@[simp] theorem bPd(m:sr)(f:Ex)(r:mh)(st:za):ik m f r st=(f st).bind λx=>(r st).bind λxs=>m x xs:=rfl
@[simp] theorem bMn(st:za):uY st=.ok none:=rfl
@[simp] theorem bMo(f:Ex)(st:za):rR f st=(f st).bind λx=>Vp x λi=>.ok (some i):=rfl
@[simp] theorem bJh(f:Ex)(lo a:xt)(st:za):jk f lo a st=(f st).bind λx=>(lo st).bind λl=>(a st).bind λh=>BR x l h:=rfl
@[simp] theorem bEe(f:Ex)(st:za):pA f st=(f st).bind λx=>Vp x λj=>aP (-(big:Int)<=j/\j<=(big:Int)) (.ok<|pO 0 j.toNat):=rfl
@[simp] theorem bEf(f g:Ex)(st:za):EG f g st=(f st).bind λx=>(g st).bind λy=>Vp x λi=>Vp y λj=>aP (-(big:Int)<=i/\i<=(big:Int)/\-(big:Int)<=j/\j<=(big:Int)) (.ok<|pO i (j-i).toNat):=rfl
@[simp] theorem bMp(tg:Tg)(b:Bd)(st:za):Uc tg b [] st=.ok (.nx st):=rfl
def RK(tg:Tg)(b:Bd)(d:D)(c:db)(st:za):Uc tg b (d::c) st=(tg d st).bind λs1=>(b s1).bind λx=>match x with
  |.nx a=>Uc tg b c a
  |.ct a=>Uc tg b c a
  |.bk a=>.ok<|.nx a
  |.rt v=>.ok (.rt v):=rfl
def qY(c:Ex)(b:Bd)(n:Nat)(st:za):jL c b (n+1) st=(c st).bind λx=>lm x λq=>if q=true then (b st).bind λx=>(match x with
  |.nx s2=>jL c b n s2
  |.ct s2=>jL c b n s2
  |.bk s2=>.ok<|.nx s2
  |.rt v=>.ok<|.rt v) else .ok (.nx st):=rfl
@[simp] theorem bJi(f:Ex)(st:za):Cd f st=(f st).bind λx=>match x with|.lst xs=>.ok xs|.tup xs=>.ok xs|.str xs=>aP (xs.length<=big) (.ok<|xs.map λc=>.str [c])|_=>.bad:=rfl
@[simp] theorem OX(n:Nat)(c:Ex)(b:Bd)(st:za):Rv n c b st=jL c b n st:=rfl
@[simp] theorem bEg(i:Nat)(f:Ex)(st:za):Bp i f st=(f st).bind λd=>match st[i]? with|some (some<|.o .l xs)=>aP (xs.length<big) (.ok<|.nx<|st.set i<|some<|.o .l<|xs++[d])|_=>.bad:=rfl
@[simp] theorem aZy(i:Nat)(f:Ex)(st:za):tH i f st=(f st).bind λd=>match d with|.lst xs=>.ok (.nx<|st.set i<|some<|.o .l xs)|_=>.bad:=rfl
@[simp] theorem bEh(i:Nat)(f:Ex)(st:za):Yt i f st=(f st).bind λd=>match d with|.lst ys=>(match st[i]? with|some (some<|.o .l xs)=>aP (xs.length+ys.length<=big) (.ok<|.nx<|st.set i<|some<|.o .l<|xs++ys)|_=>.bad)|_=>.bad:=rfl
@[simp] theorem aZz(i:Nat)(c f:String)(e:Ex)(st:za):gQ i c f e st=(e st).bind λd=>match st[i]? with|some (some<|.o (.i n c' ns) xs)=>aP (c'=c/\f∉ns/\ns.length<900) (.ok<|.nx<|st.set i<|some<|.o (.i n c'<|ns++[f])<|xs++[d])|_=>.bad:=rfl
@[simp] theorem kZ(c f b:String)(a:re)(xs:db):cN c f (.ins b a xs)=aP (b=c) (Ci<|(a.zip xs).lookup f):=rfl
@[simp] theorem bA0(c m:String)(p:cr)(a:db)(f:Ex)(r:mh)(st:za):rT c m p a f r st=(f st).bind λx=>(r st).bind λxs=>match x with|.ins c' ns _=>aP (c'=c/\m∉ns) (p<|x::(xs++a))|_=>.bad:=rfl
@[simp] theorem bPe(is:ac)(b:Bd)(st:za):Rm is b st=b (is.foldl As st):=rfl
@[simp] theorem bPf(st:za)(i:Nat):As st i=(match st[i]? with|some (some<|.o k xs)=>st.set i (some<|.v<|Yp k xs)|_=>st):=rfl
@[simp] theorem bOb(f:Ex)(st:za):rF f st=(f st).bind λ_=>.ok (.nx st):=rfl
@[simp] theorem bOc(x y:ac):MF (.str x) [.str y]=.ok (.int<|zW<|nO x y 0):=rfl
@[simp] theorem bMq(x y:ac):WE (.str x) [.str y]=aP (x.length<=big) (.ok<|.str<|xT x y):=rfl
@[simp] theorem bHo(i:Nat):zW (some i)=i:=rfl
@[simp] theorem bMr(x:db):kI (.tup x)=.ok (.int x.length):=rfl
@[simp] theorem bOd(i j:Int):ox (.int i) (.int j)=.ok (.bl<|decide (j<=i)):=rfl
@[simp] theorem bMs(b:Int):Zn (.int b)=true:=rfl
@[simp] theorem bMt(b:ac):Zn (.str b)=true:=rfl
@[simp] theorem bMu(b:db):Zn (.tup b)=true:=rfl
@[simp] theorem bMv(b:db):Zn (.lst b)=true:=rfl
@[simp] theorem bPg(i:Nat)(d:D)(st:za):Pb i d st=.ok (st.set i<|some<|.v d):=rfl
@[simp] theorem bOe(st:za):Sk [] st=st:=rfl
@[simp] theorem bMw(i:Nat)(is:ac)(st:za):Sk (i::is) st=Sk is (st.set i none):=rfl
def nA(tg:Tg)(c f:Ex)(st:za)(d:D)(a:db):mK tg c f st (d::a)=(tg d st).bind λs1=>(c s1).bind λx=>lm x λb=>if b=true then (f s1).bind λy=>(mK tg c f st a).bind λys=>.ok (y::ys) else mK tg c f st a:=rfl
@[simp] theorem DZ(is:ac)(tg:Tg)(it:Wn)(c f:Ex)(st:za):bU is tg it c f st=(it st).bind λxs=>aP (xs.length<=big) ((mK tg c f (Sk is st) xs).bind λys=>.ok<|.lst ys):=rfl
@[simp] theorem bMx(st:za):cX st=.ok (.nx st):=rfl
@[simp] theorem O2(a b:Bd)(st:za):aW a b st=Cw (a st) b:=rfl
@[simp] theorem bEi(i:Nat)(f:Ex)(st:za):cV i f st=(f st).bind λd=>.ok (.nx<|st.set i<|some<|.v d):=rfl
@[simp] theorem bOf(tg:Tg)(f:Ex)(st:za):Dw tg f st=(f st).bind λd=>(tg d st).bind λs1=>.ok (.nx s1):=rfl
@[simp] theorem uy(f:Ex)(st:za):cG f st=(f st).bind λd=>.ok (.rt d):=rfl
@[simp] theorem bJj(c:Ex)(a b:Bd)(st:za):Pd c a b st=(c st).bind λx=>lm x λq=>if q=true then a st else b st:=rfl
@[simp] theorem bEj(tg:Tg)(it:Wn)(a:Bd)(st:za):tK tg it a st=(it st).bind λxs=>Uc tg a xs st:=rfl
@[simp] theorem bMy(i j:Int):eQ (.int i) (.int j)=.ok (.int<|i+j):=rfl
@[simp] theorem bOg(i j:Int):tx (.int i) (.int j)=.ok (.bl<|decide (i<=j)):=rfl
@[simp] theorem bJk(x y:D):Me x y=aP (zg x<=64/\plain x=true/\plain y=true) (.ok<|.bl<|ae x y):=rfl
@[simp] theorem bJl(x y:D):Hi x y=aP (zg x<=64/\plain x=true/\plain y=true) (.ok<|.bl<|!ae x y):=rfl
@[simp] theorem bOh:zg .xc=0:=by unfold zg;rfl
@[simp] theorem bPh(b:Bool):zg (.bl b)=0:=by unfold zg;rfl
@[simp] theorem bOi(i:Int):zg (.int i)=0:=rfl
@[simp] theorem bOj(s:ac):zg (.str s)=0:=rfl
@[simp] theorem bOk(x:db):zg (.tup x)=jR x+1:=by conv=>lhs;unfold zg
@[simp] theorem bOl(x:db):zg (.lst x)=jR x+1:=by conv=>lhs;unfold zg
@[simp] theorem bLe:plain .xc=true:=by unfold plain;rfl
@[simp] theorem bMz(b:Bool):plain (.bl b)=true:=rfl
@[simp] theorem bLf(i:Int):plain (.int i)=true:=rfl
@[simp] theorem bLg(s:ac):plain (.str s)=true:=rfl
@[simp] theorem bLh(x:db):plain (.tup x)=dR x:=by conv=>lhs;unfold plain
@[simp] theorem bLi(x:db):plain (.lst x)=dR x:=by conv=>lhs;unfold plain
@[simp] theorem bLj(t:Bool)(k v:db):plain (.Ug t k v)=false:=rfl
@[simp] theorem bLk(c:String)(n:re)(v:db):plain (.ins c n v)=false:=rfl
@[simp] theorem bLl(c:String)(n:re)(v:db):plain (.Dg c n v)=false:=rfl
@[simp] theorem bN0(f:String):plain (.fn f)=false:=rfl
@[simp] theorem bJm:dR []=true:=by unfold dR;rfl
@[simp] theorem ö(a:D)(x:db):dR (a::x)=(plain a&&dR x):=by conv=>lhs;unfold dR
@[simp] theorem bN1:jR []=0:=by unfold jR;rfl
@[simp] theorem PX(a:D)(x:db):jR (a::x)=max (zg a) (jR x):=by conv=>lhs;unfold jR
@[simp] theorem bOm(i j:Int):ae (.int i) (.int j)=(i==j):=by unfold ae;rfl
@[simp] theorem bOn(i j:ac):ae (.str i) (.str j)=(i==j):=rfl
@[simp] theorem bHp:ae .xc .xc=true:=by unfold ae;rfl
@[simp] theorem bLm(a:Bool)(b:Bool):ae (.bl a) (.bl b)=(a==b):=by unfold ae;rfl
@[simp] theorem bHq(x:db)(y:db):ae (.tup x) (.tup y)=pM x y:=by conv=>lhs;unfold ae
@[simp] theorem bHr(x:db)(y:db):ae (.lst x) (.lst y)=pM x y:=by conv=>lhs;unfold ae
@[simp] theorem bEk:pM [] []=true:=by unfold pM;rfl
@[simp] theorem bA1(a b:D)(x y:db):pM (a::x) (b::y)=(ae a b&&pM x y):=by conv=>lhs;unfold pM
@[simp] theorem bN2(x:db):kI (.lst x)=.ok (.int x.length):=rfl
@[simp] theorem bOo(x:db)(i:Int):jb (.tup x) (.int i)=Ci (Ye x i):=rfl
@[simp] theorem bOp(x:db)(i:Int):jb (.lst x) (.int i)=Ci (Ye x i):=rfl
@[simp] theorem bOq(x:ac)(l h:At):BR (.str x) l h=aP (x.length<=big) (.ok<|.str<|cut x l h):=rfl
@[simp] theorem bPu(xs:db):Yp .l xs=.lst xs:=rfl
@[simp] theorem bPv(t:Bool)(a xs:db):Yp (.d t a) xs=.Ug t a xs:=rfl
@[simp] theorem bPw(n:Nat)(c:String)(a:re)(xs:db):Yp (.i n c a) xs=.ins c a xs:=rfl
@[simp] theorem bN3(a:α):Ci (some a)=.ok a:=rfl
@[simp] theorem gR{c:Prop}{r:R α}(h:c):aP c r=r:=aD h
@[simp] theorem bEl{b:Bd} (h:ds.length=np):dD np n b ds=(b<|ds.map (λd=>some<|.v d)++List.replicate (n-np) none).bind λx=>match x with
  |.nx _=>.ok .xc
  |.rt d=>.ok d
  |_=>.bad:=aD h
def L5{xs:List α}{i:Int}(a:0<=i)(h:i<xs.length):Ye xs i=some (xs[i.toNat]'(by omega)):=by
 unfold Ye wk;rw[Kb a,Kb h];exact Be _
theorem Dc{xs:List α}{i:Nat}(h:i<xs.length):Ye xs (i:Int)=some xs[i]:=by
 rw[L5 (by lia) (by lia)]
 simp
def Qt:Ch
 |.lst x=>.ok<|.lst x
 |.tup x=>.ok<|.lst x
 |_=>.bad
def kx:List D->R (List Bool)
 |[]=>.ok []
 |.bl b::r=>(kx r).bind λx=>.ok<|b::x
 |_::_=>.bad
def Ar:List D->R (List Int)
 |[]=>.ok []
 |.int i::r=>(Ar r).bind λx=>.ok<|i::x
 |_::_=>.bad
def jw:db->R (List<|List Nat)
 |[]=>.ok []
 |.str s::r=>(jw r).bind λx=>.ok<|s::x
 |_::_=>.bad
def Gr:Ch
 |.lst x=>(kx x).bind λl=>.ok<|.bl<|l.all id
 |_=>.bad
def Zm:List Int->Int
 |[]=>0
 |i::r=>r.foldl (λa b=>if b>a then b else a) i
noncomputable def Br:Ch
 |.lst x=>(Ar x).bind λl=>aP (0<l.length)<|.ok<|.int<|Zm l
 |_=>.bad
def Cr(a:ac):List (List Nat)->List Nat
 |[]=>[]
 |[x]=>x
 |x::r=>x++a++Cr a r
noncomputable def mw:sr
 |.str a,[.lst x]=>(jw x).bind λl=>aP ((l.map List.length).sum+l.length*a.length<=big)<|.ok<|.str<|Cr a l
 |_,_=>.bad
theorem M5:∀{x:db}{l:sK},kx x=.ok l->x=l.map D.bl
 |[],l,h=>by cases h;rfl
 |d::x,l,h=>by
  cases d<;>first|(cases h)|skip
  obtain⟨c,b,a⟩:=R.ua h;cases a;rw[M5 b];rfl
theorem sL:∀{x:db}{l:li},Ar x=.ok l->x=l.map D.int
 |[],l,h=>by cases h;rfl
 |d::x,l,h=>by
  cases d<;>first|(cases h)|skip
  obtain⟨c,b,a⟩:=R.ua h;cases a;rw[sL b];rfl
theorem EZ:∀{x:db} {l:am},jw x=.ok l->x=l.map D.str
 |[],l,h=>by cases h;rfl
 |d::x,l,h=>by
  cases d<;>first|(cases h)|skip
  obtain⟨c,b,a⟩:=R.ua h;cases a;rw[EZ b];rfl
theorem P2:∀(l:sK),kx (l.map D.bl)=.ok l
 |[]=>rfl
 |b::l=>by show (kx _).bind _=_;rw[P2 l];rfl
theorem CD:∀(l:li),Ar (l.map D.int)=.ok l
 |[]=>rfl
 |b::l=>by show (Ar _).bind _=_;rw[CD l];rfl
theorem QX:∀(l:am),jw (l.map D.str)=.ok l
 |[]=>rfl
 |b::l=>by show (jw _).bind _=_;rw[QX l];rfl
theorem DD:∀(r:li)(a:Int),a<=r.foldl (λa b=>if b>a then b else a) a/\(∀x∈r,x<=r.foldl (λa b=>if b>a then b else a) a)/\(r.foldl (λa b=>if b>a then b else a) a=a\/r.foldl (λa b=>if b>a then b else a) a∈r)
 |[],a=>⟨Int.le_refl _,λ_ h=>(by cases h),.inl rfl⟩
 |b::r,a=>by
  obtain⟨d,e,c⟩:=DD r _;rw[Sz];refine⟨Int.le_trans (by split<;>lia) d,λx hx=>?_,?_⟩
  .rcases qc.mp hx with rfl|hx
   .exact Int.le_trans (by split<;>lia) d
   exact e x hx
  rcases c with c|c
  .rw[c];split
   .exact .inr Zb
   exact .inl rfl
  exact .inr<|Lc _ c
theorem mE{l:li}{m:Int}(c:m∈l)(b:∀x∈l,x<=m):Zm l=m:=by
 cases l with
 |nil=>cases c
 |cons i r=>
  obtain⟨h,d,a⟩:=DD r i;have g:Zm (i::r)<=m:=by
   rcases a with a|a
   .exact b _ (by show r.foldl _ i∈_;rw[a];exact Zb)
   exact b _<|Lc _ a
  have f:m<=Zm (i::r):=by
   rcases qc.mp c with e|e
   .rwa [e]
   exact d _ e
  lia
def R.Ve{a:Type}(r:R a):R a:=match r with
 |.exc _=>.bad
 |r=>r
def R.Lg{r:R α}{a:α}(h:r.Ve=.ok a):r=.ok a:=by
 cases r with
 |ok b=>exact h
 |exc x=>cases h
 |bad=>cases h
@[simp] theorem bOr(a:α):(R.ok a).Ve=.ok a:=rfl
def Qg(b:Bd):Bd:=λst=>(b st).Ve
def Ql(f:Ex):Ex:=λst=>(f st).Ve
def ug(p:cr):cr:=λds=>R.Ve<|p ds
noncomputable def xV(c:String)(r:mh):Bd:=λst=>(r st).Ve.bind λxs=>aP (xs.length<=100)<|.exc<|.Dg c [] []
def Ew:List (List String×List String×(String->Bd))->String->za->R Fl
 |[],_,_=>.bad
 |(a,d,b)::hs,c,st=>if c∈a then (b c st).Ve else if c∈d then Ew hs c st else .bad
def TR(b:Bd):String->Bd:=λ_=>b
def Zt(b:Bd)(a:List (List String×List String×(String->Bd))):Bd:=λst=>match b st with
 |.exc (.Dg c [] [])=>Ew a c st
 |.exc _=>.bad
 |r=>r
def jM(p:cr)(r:mh):Ex:=λst=>(r st).Ve.bind p
noncomputable def pP(c m:String)(p:cr)(a:db)(f:Ex)(r:mh):Ex:=λst=>(f st).Ve.bind λx=>(r st).Ve.bind λxs=>match x with
 |.ins c' ns _=>aP (c'=c/\m∉ns)<|p<|x::(xs++a)
 |_=>.bad
def wx(op:Og)(f g:Ex):Ex:=λst=>(f st).bind λx=>(g st).Ve.bind λy=>(op x y).Ve
inductive υ where
 |nx (Uh:Ix) (st:za)|rt (d:D)
abbrev NB:=List db->za->R υ
def SO(i:Nat):Bd:=λst=>match st[i]? with
 |some (some<|.o .l xs)=>.ok<|.rt<|.lst xs
 |_=>.bad
def mq(a:Bd)(i:Nat):Bd:=λst=>match a st with
 |.ok (.nx s)=>SO i s
 |_=>.bad
def tL(l:li):li:=l.foldl (λqa x=>if qa.any (· == x) then qa else qa++[x]) []
def wL:Nat->List D->List D
 |_,[]=>[]
 |n,d::ds=>.tup [.int (n:Int),d] :: wL (n+1) ds
def b8(f:Ex):Wn:=λst=>(f st).bind λx=>match x with
 |.lst xs=>.ok<|wL 0 xs
 |_=>.bad
def atom:AT
 |.xc=>true
 |.bl _=>true
 |.int _=>true
 |.str _=>true
 |_=>false
def Wy:AT
 |.lst xs=>xs.all atom
 |_=>false
noncomputable section
def CN:Ch
 |.lst xs=>aP (xs.all atom=true)<|.ok<|.lst xs
 |_=>.bad
def Sv:Ch
 |.lst xs=>aP (xs.length<=big/\xs.all Wy=true)<|.ok<|.lst xs
 |_=>.bad
def FA(f:Ex):Ex:=λst=>(f st).bind λd=>aP (atom d=true)<|.ok d
def YC:D->List D
 |.lst xs=>xs
 |_=>[]
theorem Q2:∀{xs:db},xs.all Wy=true->(xs.map YC).map D.lst=xs
 |[],_=>rfl
 |x::xs,h=>by
  rw[all_cons,Xr]at h;rw[Wf,Wf,Q2 h.2];cases x<;>first|rfl|exact nomatch h.1
open Classical in
def pB(c:String)(a n:Nat)(b:Bd)(d:db):R D:=if h:∃r,∀x,wK c a n b x d=r then choose h else .bad
def AL{b:Bd} {r:R D} (h:∀x,wK c np n b x ds=r):pB c np n b ds=r:=by
 unfold pB;rw[dif_pos _];have:=kH (p:=λr=>∀x,wK c np n b x ds=r) ⟨r,h⟩ 0
 rw[h 0]at this;exact this.symm
def FZ{b:Bd} (h:pB c np n b ds≠.bad) (x:Nat):wK c np n b x ds=pB c np n b ds:=by
 unfold pB at h ⊢;split at h
 .rename_i e;rw[dif_pos e];exact kH e x
 exact(h rfl).elim
def BA:Ch
 |.lst xs=>.ok<|.tup xs
 |_=>.bad
end
def zX:List Nat->List D->List D
 |c::z,d::ds=>.tup [.str [c],d] :: zX z ds
 |_,_=>[]
def NF(f g:Ex):Wn:=λst=>(f st).bind λx=>(g st).bind λy=>match x,y with
 |.str z,.lst ds=>.ok<|zX z ds
 |_,_=>.bad
noncomputable section
def Hr:Og
 |.int i,.int j=>aP (0<=j/\j<=1000000/\i.natAbs<18446744073709551616)<|.ok<|.int<|i*2^j.toNat
 |_,_=>.bad
def pz:Og
 |.int i,.int j=>aP (0<=j)<|.ok<|.int<|i/2^j.toNat
 |_,_=>.bad
def Ir:Og
 |.int i,.int j=>aP (0<=i/\0<=j)<|.ok<|.int ((i.toNat&&&j.toNat:Nat):Int)
 |_,_=>.bad
def Gq:Og
 |.int i,.int j=>aP (0<=i/\0<=j)<|.ok<|.int ((i.toNat|||j.toNat:Nat):Int)
 |_,_=>.bad
end
def zY(i:Int):Nat:=if i=0 then 0 else i.natAbs.log2+1
def nE:Ch
 |.int i=>.ok<|.int (zY i:Nat)
 |_=>.bad
def ao:Og
 |.int i,.int j=>.ok<|.bl<|decide (i<j)
 |_,_=>.bad
noncomputable def lZ:Og
 |.int i,.int j=>aP ((-18446744073709551616<i/\i<18446744073709551616)\/(-18446744073709551616<j/\j<18446744073709551616))<|.ok<|.int<|i*j
 |_,_=>.bad
@[simp] theorem BL(i j:Int):ao (.int i) (.int j)=.ok (.bl<|decide (i<j)):=rfl
end Pu
variable{nb:Pu.NB}
namespace Pu
noncomputable section
def ym(l:li):li:=l.mergeSort λa b=>decide (a<=b)
def wM(l:li):(ym l).Perm l:=List.mergeSort_perm _ _
def bA6(l:li):(ym l).Pairwise (· <= ·):=by
 have h:=List.pairwise_mergeSort (le:=λa b:Int=>decide (a<=b)) (λa b c e d=>by
  have:=Qr e;have:=Qr d;exact fh<|by omega) (λa b=>by
  rcases Int.le_total a b with h|h
  .simp[h]
  .simp[h]) l
 exact h.imp λh=>Qr h
def pE:Ch
 |.lst x=>(Ar x).bind λl=>aP (l.length<=4000/\(tL l).length<64)<|.ok<|.lst<|(ym<|tL l).map D.int
 |_=>.bad
def vq:Ch
 |.int i=>.ok<|.int i
 |.bl b=>.ok<|.int<|if b then 1 else 0
 |_=>.bad
end
def Cp:List D->List D->List D
 |c::z,d::y=>.tup [c,d] :: Cp z y
 |_,_=>[]
noncomputable section
def zv:db->R (List<|Int×Int)
 |[]=>.ok []
 |.tup [.int i,.int j] :: x=>(zv x).bind λl=>.ok<|(i,j)::l
 |_=>.bad
def pD(p:Do):D:=.tup [.int p.1,.int p.2]
theorem N5:∀{x:db} {l:pi},zv x=.ok l->x=l.map pD
 |[],_,h=>by cases h;rfl
 |d::x,l,h=>by
  unfold zv at h;split at h
  .simp_all
  .rename_i i j c e;cases e;obtain⟨m,a,b⟩:=R.ua h;cases b;rw[N5 a];rfl
  cases h
end
noncomputable section
open PySem.W PyProof.Rows
def qz{b:Type}(c:Da):KasT b->b
 |.ret a=>a
 |.ask i j k=>qz c<|k<|c i j
def Ji{b:Type}(c:Da)(n:Nat):KasT b->(b->Prop)->Prop
 |.ret a,Q=>Q a
 |.ask i j k,Q=>i<n/\j<n/\Ji c n (k<|c i j) Q
def Ji.run{c:Da} {Q:α->Prop} {t:KasT α} (h:Ji c n t Q):Q (qz c t):=by
 induction t with
 |ret _=>exact h
 |ask i j k a=>exact a _ h.2.2
theorem Ji.bind{b d:Type}{c:Da}{n:Nat}{P:b->Prop}{Q:d->Prop}{f:b->KasT d}(g:∀a,P a->Ji c n (f a) Q){t:KasT b}(h:Ji c n t P):Ji c n (t.bind f) Q:=by
 induction t with
 |ret a=>exact g a h
 |ask i j k e=>exact⟨h.1,h.2.1,e _ h.2.2⟩
def yj(n:Nat)(p:Gc):Prop:=0<n/\p.toList.Perm (List.range n)
section
variable{c:Da} {p:Gc}
def yj.lt(h:yj n p)(i:Nat):p.getD i 0<n:=by
 by_cases a:i<p.size
 .rw[show p.getD i 0=p[i] by simp[a]]
  exact Jj.mp<|h.2.mem_iff.mp<|g9.mpr<|Array.getElem_mem a
 rw[show p.getD i 0=0 by simp[a]]
 exact h.1
def yj.rev(h:yj n p)(i j:Nat):yj n (kas_rev p i j):=⟨h.1,(C8.mp<|mirror_perm _ _ _ _).trans h.2⟩
theorem DN(h:yj n p):∀(f m:Nat),Ji c n (kas_asc p f m) λ_=>True
 |0,_=>trivial
 |f+1,m=>⟨h.lt _,h.lt _,by dsimp only;split;exact trivial;exact DN h f _⟩
theorem qE:∀(f:Nat){p:Gc}(m q:Nat),yj n p->Ji c n (kas_desc f p m q) λr=>yj n r.1
 |0,_,_,_,h=>h
 |f+1,p,m,q,h=>⟨h.lt _,h.lt _,by
  dsimp only
  by_cases e:c (p.getD m 0) (p.getD (m-1) 0)=true
  .rw[Kb e];split
   .exact qE f _ _ (h.rev _ _)
   exact qE f _ _ h
  rw[Pa e];exact⟨h.lt _,h.lt _,by dsimp only;split;exact h;exact qE f _ _ h⟩⟩
def T2(h:yj n p)(m z:Nat):Ji c n (kas_tail3 m z p) λr=>yj n r.2:=by
 refine Ji.bind (λ_ _=>?_)<|DN (h.rev _ _) _ _
 exact h.rev _ _
def GZ(h:yj n p)(m z:Nat):Ji c n (kas_descPart m z p) λr=>yj n r.2:=Ji.bind (λr a=>by
 split
 .exact T2 (a.rev _ _) _ _
 exact T2 a _ _) (qE _ _ _ h)
def bA9(h:yj n p)(z:Nat):Ji c n (kas_count z p) λr=>yj n r.2:=Ji.bind (λm _=>by
 split
 .exact h
 split
 .exact⟨h.lt _,h.lt _,by dsimp only;split;exact h;exact GZ (h.rev _ _) _ _⟩
 exact GZ h _ _) (DN h _ _)
theorem HZ(h:yj n p)(k:Nat):∀(f l r:Nat),Ji c n (kas_place p k f l r) λ_=>True
 |0,_,_=>trivial
 |f+1,l,r=>by
  unfold kas_place;split
  .exact trivial
  exact⟨h.lt _,h.lt _,by dsimp only;split<;>exact HZ h k f _ _⟩
theorem O5:∀(f:Nat){p:Gc}(k:Nat),yj n p->Ji c n (kas_bin f p k) (yj n)
 |0,_,_,h=>h
 |f+1,p,k,h=>Ji.bind (λl _=>O5 f (k+1) ⟨h.1,(C8.mp<|bubble_perm _ _ _).trans h.2⟩)<|HZ h k _ _ _
def U2(h:0<n):Ji c n (kas_sort n) (yj n):=Ji.bind (λr a=>by
 split
 .exact O5 _ _ a
 exact a) (bA9 ⟨h,.refl _⟩ _)
end
def ltQ(x y:Do):Bool:=if x.1==y.1 then decide (x.2<y.2) else decide (x.1<y.1)
def p9(l:pi)(i j:Nat):Bool:=ltQ (l.getD i (0,0))<|l.getD j (0,0)
def fm(l:pi):ac:=if l.length<2 then List.range l.length else (qz (p9 l)<|kas_sort l.length).toList
def FG(l:pi):pi:=(fm l).map λi=>l.getD i (0,0)
def map_range{d:α}(l:List α):((List.range l.length).map λi=>l.getD i d)=l:=List.ext_getElem (by simp) λi b a=>by simp[a]
def KD(l:pi):(fm l).Perm (List.range l.length):=by
 unfold fm;split
 .exact .refl _
 exact(Ji.run<|U2<|by omega).2
def ŏ(l:pi):(FG l).Perm l:=by
 have:=(KD l).map λi=>l.getD i (0,0)
 rwa [map_range]at this
def Tv:Ch
 |.Ug true ks _=>aP (ks.length<=big)<|.ok<|.lst ks
 |_=>.bad
def Xy:Ch
 |.Ug true ks _=>(zv ks).bind λl=>aP (l.length<64)<|.ok<|.lst<|(FG l).map pD
 |_=>.bad
end
noncomputable section
def OF:Og
 |.lst z,.lst w=>.ok<|.lst<|Cp z w
 |_,_=>.bad
def UO:sr
 |.lst xs,[y]=>(Ci<|xs.findIdx? λd=>ae d y).bind λn=>aP (xs.length<=big/\jR xs<=60/\plain y=true/\dR xs=true)<|.ok<|.int (n:Int)
 |_,_=>.bad
def YE(i:Nat)(g f:Ex):Bd:=λst=>(g st).bind λk=>(f st).bind λd=>aP (Nc true k=true/\atom d=true)<|.ok<|.nx<|st.set i<|some<|.o (.d true [k]) [d]
def EN(p:cr)(a:db)(r:mh):Ex:=λst=>(r st).bind λxs=>p<|xs++a
def nq(g:cr):D->D->List D->R D
 |b,_,[]=>.ok b
 |b,a,d::ds=>(g [d]).bind λk=>match k,a with
  |.tup x,.tup y=>aP (jR x<=60/\dR x=true/\dR y=true)<|(Ym x y).bind λt=>if t=true then nq g d k ds else nq g b a ds
  |_,_=>.bad
def Jr(g:cr):Ch
 |.lst []=>.ok .xc
 |.lst (d::ds)=>(g [d]).bind λk=>nq g d k ds
 |_=>.bad
def gP(f g:Ex):Ex:=λst=>match f st with
 |.bad=>g st
 |r=>r
def bJn{st:za} (h:gP f g st=.ok d):f st=.ok d\/g st=.ok d:=by
 unfold gP at h;split at h
 .exact .inr h
 .exact .inl h
def fG(c:String)(b:Bool):Ch
 |.ins c' _ _=>aP (c'=c)<|.ok<|.bl b
 |_=>.bad
def zZ(a:re)(f:String):Ch
 |.ins c ns fs=>aP (c∈a)<|cN c f<|.ins c ns fs
 |_=>.bad
def fV(tb:v6)(m:String)(f:Ex)(r:mh):Ex:=λst=>(f st).bind λx=>match x with
 |.ins c ns fs=>match tb.lookup c with
  |some p=>rT c m p [] f r st
  |none=>.bad
 |_=>.bad
def Iy(c m:String)(p:cr)(f:Ex)(r:mh):Ex:=λst=>(f st).Ve.bind λx=>match x with
 |.ins c' ns fs=>aP (c'=c/\m∉ns)<|(r st).bind λxs=>(p<|.ins c' ns fs::(xs++[])).Ve
 |_=>.bad
def vy(tb:v6)(m:String)(f:Ex)(r:mh):Ex:=λst=>(f st).Ve.bind λx=>match x with
 |.ins c ns fs=>match tb.lookup c with
  |some p=>Iy c m p f r st
  |none=>.bad
 |_=>.bad
abbrev eI(n:Int):Ex:=eC<|.int n
def tQ:re:=["Both","Either","Less","Unlike","Nor"]
def nW:re:=["Both","Either","Less","Unlike","Nor"]
def ø:Bd:=aW (Pd (e2 ao (aA 1)<|e1 kI<|aA 0) (cG<|e2 jb (aA 0)<|aA 1) cX)<|aW (Pd (e2 Me (e1 kI<|aA 0)<|eI 0) (cG<|e2 eQ (e2 lZ (eI 48271)<|aA 1)<|eI 7) cX)<|cG<|e2 eQ (e2 jb (aA 0)<|e2 tE (e2 lZ (aA 1)<|eI 7)<|e1 kI<|aA 0)<|e2 lZ (eI 7919)<|aA 1
def dX:cr:=dD 2 2 ø
def ĝ:Bd:=aW (cV 3<|e2 tE (e2 lZ (e2 eQ (e2 eQ (e2 tE (aA 0)<|eI 2147483647)<|e2 lZ (eI 7919)<|aA 1)<|eI 104729)<|eI 48271)<|eI 2147483629)<|aW (cV 3<|e2 tE (e2 lZ (e2 tE (e2 lZ (aA 3)<|aA 3)<|eI 2147483647)<|eI 69621)<|eI 2147483587)<|cG<|e2 tE (e2 tE (e2 lZ (aA 3)<|aA 3)<|eI 2147483629)<|aA 2
def bI:cr:=dD 3 4 ĝ
def yZ(st:za):R Fl:=(aW (Bp 3<|e2 tE (aA 0)<|aA 1)<|cV 0<|e2 Uy (aA 0)<|aA 1) st
def Ϲ:Bd:=aW (tH 3<|iQ aK)<|aW (tK (Pb 4) (pA<|aA 2) yZ)<|Rm [3]<|cG<|aA 3
def mL:cr:=dD 3 5 Ϲ
def YV(st:za):R D:=(aV bI<|aC (aV dX<|aC (aA 0)<|aC (e2 eQ (e2 eQ (aA 1)<|eI 1)<|aA 8) aK)<|aC (aA 9)<|aC (aA 5) aK) st
def xW(st:za):R D:=(bU [9] (Pb 9) (pA<|aA 3) cA YV) st
def rZ(st:za):R D:=(aV mL<|aC (aV dX<|aC (aA 0)<|aC (e2 eQ (e2 eQ (aA 1)<|eI 1)<|aA 8) aK)<|aC (aA 5)<|aC (aA 3) aK) st
def xX(st:za):R D:=(aV bI<|aC (aV dX<|aC (aA 0)<|aC (e2 eQ (e2 eQ (aA 1)<|eI 1)<|aA 8) aK)<|aC (eI 5)<|aC (e2 eQ (eI 2)<|aV bI<|aC (aA 4)<|aC (eI 2)<|aC (eI 4) aK) aK) st
def sE(st:za):R D:=(e2 eQ (aA 10)<|e2 lZ (e2 tE (aV dX<|aC (aA 0)<|aC (aA 1) aK)<|e2 mP (eI 10)<|eI 29)<|eI 2) st
def RW:Bd:=aW (cV 4<|aV dX<|aC (aA 0)<|aC (aA 1) aK)<|aW (cV 5<|e2 eQ (eI 1)<|aV bI<|aC (aA 4)<|aC (eI 1)<|aC (aA 2) aK)<|aW (cV 6<|bU [8] (Pb 8) (pA<|aA 5) cA xW)<|aW (Pd (e2 Me (aV bI<|aC (aA 4)<|aC (eI 4)<|aC (eI 2) aK)<|eI 0) (cV 6<|bU [8] (Pb 8) (pA<|aA 5) cA rZ) cX)<|aW (cV 7<|bU [8] (Pb 8) (pA<|aA 5) cA xX)<|aW (Pd (e2 Me (aV bI<|aC (aA 4)<|aC (eI 3)<|aC (eI 8) aK)<|eI 0) (cV 7<|bU [10] (Pb 10) (Cd<|aA 7) cA sE) cX)<|cG<|iQ<|aC (aA 6)<|aC (aA 7) aK
def tR:cr:=dD 4 11 RW
def mV(st:za):R D:=(e2 eQ (aA 9)<|eI 2) st
def zA(st:za):R D:=(e2 eQ (aA 10)<|e2 lZ (aA 3)<|aV bI<|aC (aA 0)<|aC (e2 eQ (e2 eQ (eI 3)<|e2 lZ (eI 5)<|aA 7)<|aA 10)<|aC (eI 2) aK) st
def mW(st:za):R Fl:=(Bp 6<|bU [10] (Pb 10) (Cd<|e2 jb (aA 1)<|e2 tE (aA 7)<|aA 3) cA zA) st
def iD(st:za):R D:=(e2 eQ (aA 9)<|eI 2) st
def zB(st:za):R D:=(e2 tE (e2 eQ (aA 10)<|eI 1)<|aA 3) st
def rG(st:za):R D:=(bU [10] (Pb 10) (Cd<|e2 jb (aA 1)<|e2 Wt (aA 7)<|eI 1) cA zB) st
def rH(st:za):R D:=(e2 jb (aA 2)<|e2 Wt (aA 7)<|eI 1) st
def zE(st:za):R D:=(e2 eQ (aA 9)<|eI 1) st
def Ϻ:Bd:=aW (cV 3<|e1 kI<|aA 1)<|aW (cV 4<|aV bI<|aC (aA 0)<|aC (eI 1)<|aC (eI 5) aK)<|aW (Pd (e2 Me (aA 4)<|eI 0) (cG<|iQ<|aC (aA 1)<|aC (bU [9] (Pb 9) (Cd<|aA 2) cA mV) aK) cX)<|aW (Pd (e2 Me (aA 4)<|eI 1) (aW (cV 5<|aV bI<|aC (aA 0)<|aC (eI 2)<|aC (aA 3) aK)<|cG<|iQ<|aC (aA 1)<|aC (e2 eQ (e2 eQ (jk (aA 2) uY<|rR<|aA 5)<|iQ<|aC (e2 eQ (e2 jb (aA 2)<|aA 5)<|eI 1) aK)<|jk (aA 2) (rR<|e2 eQ (aA 5)<|eI 1) uY) aK) cX)<|aW (Pd (pN (e2 Me (aA 4)<|eI 2)<|e2 ao (aA 3)<|eI 4) (aW (tH 6<|iQ aK)<|aW (tK (Pb 7) (pA<|e2 lZ (eI 2)<|aA 3) mW)<|Rm [6]<|cG<|iQ<|aC (aA 6)<|aC (e2 eQ (aA 2)<|bU [9] (Pb 9) (Cd<|aA 2) cA iD) aK) cX)<|aW (Pd (e2 Me (aA 4)<|eI 3) (aW (cV 8<|bU [7] (Pb 7) (pA<|aA 3) cA rG)<|cG<|iQ<|aC (aA 8)<|aC (bU [7] (Pb 7) (pA<|aA 3) cA rH) aK) cX)<|cG<|iQ<|aC (aA 1)<|aC (bU [9] (Pb 9) (Cd<|aA 2) cA zE) aK
def jX:cr:=dD 3 11 Ϻ
def SW:Bd:=aW (cV 1<|aV dX<|aC (aA 0)<|aC (eI 0) aK)<|aW (cV 2<|e2 eQ (eI 1)<|aV bI<|aC (aA 1)<|aC (eI 1)<|aC (eI 3) aK)<|aW (cV 3<|eI 4)<|aW (Pd (e2 Me (aV bI<|aC (aA 1)<|aC (eI 2)<|aC (eI 16) aK)<|eI 0) (cV 3<|eI 5) cX)<|aW (cV 4<|aV tR<|aC (aA 0)<|aC (eI 1)<|aC (aA 3)<|aC (aA 2) aK)<|aW (cV 5<|aV tR<|aC (aA 0)<|aC (eI 10)<|aC (aA 3)<|aC (aA 2) aK)<|aW (Pd (e2 qx (aV bI<|aC (aA 1)<|aC (eI 3)<|aC (eI 4) aK)<|eI 0) (cV 5<|aV jX<|aC (aV dX<|aC (aA 0)<|aC (eI 10) aK)<|aC (e2 jb (aA 4)<|eI 0)<|aC (e2 jb (aA 4)<|eI 1) aK) cX)<|cG<|iQ<|aC (aA 4)<|aC (aA 5)<|aC (aV bI<|aC (aA 1)<|aC (eI 4)<|aC (e1 kI<|e2 jb (aA 4)<|eI 0) aK)<|aC (aV bI<|aC (aA 1)<|aC (eI 5)<|aC (e1 kI<|e2 jb (aA 5)<|eI 0) aK) aK
def xY:cr:=dD 1 6 SW
def rJ:Bd:=Pd (Ql<|e2 Hi (e1 (cN "Machine" "letters")<|aA 0)<|e1 (cN "Machine" "letters")<|aA 1) (xV "OtherLetters"<|aC (eC<|.str [116,104,101,32,116,119,111,32,109,97,99,104,105,110,101,115,32,104,97,118,101,32,110,111,116,32,97,115,32,109,97,110,121,32,108,101,116,116,101,114,115]) aK) cX
def cD:cr:=dD 2 2 rJ
def wN:Bd:=cG<|pN (eB Bw<|aA 0)<|pN (e2 ox (e1 kI<|aA 0)<|eI 1)<|e2 tx (e1 kI<|aA 0)<|aA 1
def fL:cr:=dD 2 2 wN
def kK:Bd:=cG<|pN (eB isIn<|aA 0)<|mF<|eB Xt<|aA 0
def lA:cr:=dD 1 1 kK
def nK:Bd:=cG<|pN (aV lA<|aC (aA 0) aK)<|pN (e2 ox (aA 0)<|eI 0)<|e2 ao (aA 0)<|aA 1
def lB:cr:=dD 2 2 nK
def UW(st:za):R D:=(aV lB<|aC (aA 3)<|aC (aA 2) aK) st
def bAc:Bd:=cG<|pN (e2 Me (e1 kI<|aA 0)<|aA 1)<|e1 Gr<|bU [3] (Pb 3) (Cd<|aA 0) cA UW
def LD:cr:=dD 3 4 bAc
def NV(st:za):R D:=(aV fL<|aC (aA 1)<|aC (eI 3) aK) st
def OV(st:za):R D:=(aV LD<|aC (aA 1)<|aC (e1 kI<|e2 jb (aA 0)<|eI 0)<|aC (e1 kI<|aA 0) aK) st
def ù:Bd:=aW (Pd (mF<|aV fL<|aC (aA 0)<|aC (eI 8) aK) (cG<|eC<|.bl false) cX)<|aW (Pd (mF<|e1 Gr<|bU [1] (Pb 1) (Cd<|aA 0) cA NV) (cG<|eC<|.bl false) cX)<|cG<|e1 Gr<|bU [1] (Pb 1) (Cd<|aA 0) cA OV
def uZ:cr:=dD 1 2 ù
def vV(st:za):R D:=(pN (aV lA<|aC (aA 2) aK)<|e2 ox (aA 2)<|eI 0) st
def ú:Bd:=aW (Pd (Bj (mF<|eB Bw<|aA 0)<|e2 Hi (e1 kI<|aA 0)<|aA 1) (cG<|eC<|.bl false) cX)<|cG<|e1 Gr<|bU [2] (Pb 2) (Cd<|aA 0) cA vV
def vA:cr:=dD 2 3 ú
def jN:Bd:=aW (Pd (Ql<|mF<|aV uZ<|aC (aA 1) aK) (xV "NoMachine"<|aC (eC<|.str [115,116,101,112,115,32,97,114,101,32,111,110,101,32,116,111,32,101,105,103,104,116,32,108,105,115,116,115,32,111,102,32,111,110,101,32,116,111,32,116,104,114,101,101,32,114,111,111,109,115,44,32,97,108,108,32,97,115,32,108,111,110,103]) aK) cX)<|aW (Pd (Ql<|mF<|aV vA<|aC (aA 2)<|aC (e1 kI<|aA 1) aK) (xV "NoMachine"<|aC (eC<|.str [114,97,110,107,115,32,97,114,101,32,97,32,108,105,115,116,32,119,105,116,104,32,97,32,119,104,111,108,101,32,110,117,109,98,101,114,32,102,114,111,109,32,48,32,111,110,32,102,111,114,32,101,97,99,104,32,114,111,111,109]) aK) cX)<|aW (Qg<|gQ 0 "Machine" "steps"<|e1 Sv<|aA 1)<|aW (Qg<|gQ 0 "Machine" "ranks"<|e1 CN<|aA 2)<|aW (Qg<|gQ 0 "Machine" "many"<|FA<|e1 kI<|aA 1)<|Qg<|gQ 0 "Machine" "letters"<|FA<|e1 kI<|e2 jb (aA 1)<|eI 0
def aY:cr:=pB "Machine" 2 4 jN
def wO:Bd:=aW (rF<|jM cD<|aC (aA 1)<|aC (aA 2) aK)<|aW (Qg<|gQ 0 "Joint" "inner"<|aV (ug aY)<|aC (e1 (cN "Machine" "steps")<|aA 1)<|aC (e1 (cN "Machine" "ranks")<|aA 1) aK)<|Qg<|gQ 0 "Joint" "outer"<|aV (ug aY)<|aC (e1 (cN "Machine" "steps")<|aA 2)<|aC (e1 (cN "Machine" "ranks")<|aA 2) aK
def Μ:cr:=pB "Joint" 2 3 wO
def zF:Bd:=aW (rF<|jM cD<|aC (aA 1)<|aC (aA 2) aK)<|aW (Qg<|gQ 0 "Both" "inner"<|aV (ug aY)<|aC (e1 (cN "Machine" "steps")<|aA 1)<|aC (e1 (cN "Machine" "ranks")<|aA 1) aK)<|Qg<|gQ 0 "Both" "outer"<|aV (ug aY)<|aC (e1 (cN "Machine" "steps")<|aA 2)<|aC (e1 (cN "Machine" "ranks")<|aA 2) aK
def rK:cr:=pB "Both" 2 3 zF
def vB:Bd:=aW (rF<|jM cD<|aC (aA 1)<|aC (aA 2) aK)<|aW (Qg<|gQ 0 "Either" "inner"<|aV (ug aY)<|aC (e1 (cN "Machine" "steps")<|aA 1)<|aC (e1 (cN "Machine" "ranks")<|aA 1) aK)<|Qg<|gQ 0 "Either" "outer"<|aV (ug aY)<|aC (e1 (cN "Machine" "steps")<|aA 2)<|aC (e1 (cN "Machine" "ranks")<|aA 2) aK
def nY:cr:=pB "Either" 2 3 vB
def zG:Bd:=aW (rF<|jM cD<|aC (aA 1)<|aC (aA 2) aK)<|aW (Qg<|gQ 0 "Less" "inner"<|aV (ug aY)<|aC (e1 (cN "Machine" "steps")<|aA 1)<|aC (e1 (cN "Machine" "ranks")<|aA 1) aK)<|Qg<|gQ 0 "Less" "outer"<|aV (ug aY)<|aC (e1 (cN "Machine" "steps")<|aA 2)<|aC (e1 (cN "Machine" "ranks")<|aA 2) aK
def rM:cr:=pB "Less" 2 3 zG
def vC:Bd:=aW (rF<|jM cD<|aC (aA 1)<|aC (aA 2) aK)<|aW (Qg<|gQ 0 "Unlike" "inner"<|aV (ug aY)<|aC (e1 (cN "Machine" "steps")<|aA 1)<|aC (e1 (cN "Machine" "ranks")<|aA 1) aK)<|Qg<|gQ 0 "Unlike" "outer"<|aV (ug aY)<|aC (e1 (cN "Machine" "steps")<|aA 2)<|aC (e1 (cN "Machine" "ranks")<|aA 2) aK
def nZ:cr:=pB "Unlike" 2 3 vC
def CV:Bd:=aW (rF<|jM cD<|aC (aA 1)<|aC (aA 2) aK)<|aW (Qg<|gQ 0 "Nor" "inner"<|aV (ug aY)<|aC (e1 (cN "Machine" "steps")<|aA 1)<|aC (e1 (cN "Machine" "ranks")<|aA 1) aK)<|Qg<|gQ 0 "Nor" "outer"<|aV (ug aY)<|aC (e1 (cN "Machine" "steps")<|aA 2)<|aC (e1 (cN "Machine" "ranks")<|aA 2) aK
def tU:cr:=pB "Nor" 2 3 CV
def KW:Bd:=aW (Pd (Ql<|e2 Me (aA 0)<|eI 0) (cG<|jM rK<|aC (aA 1)<|aC (aA 2) aK) cX)<|aW (Pd (Ql<|e2 Me (aA 0)<|eI 1) (cG<|jM nY<|aC (aA 1)<|aC (aA 2) aK) cX)<|aW (Pd (Ql<|e2 Me (aA 0)<|eI 2) (cG<|jM rM<|aC (aA 1)<|aC (aA 2) aK) cX)<|aW (Pd (Ql<|e2 Me (aA 0)<|eI 3) (cG<|jM nZ<|aC (aA 1)<|aC (aA 2) aK) cX)<|cG<|jM tU<|aC (aA 1)<|aC (aA 2) aK
def jJ:cr:=dD 3 3 KW
def Û:Bd:=cG<|e2 jb (iQ<|aC (oZ<|aC (eC<|.bl true)<|aC (eC<|.bl false)<|aC (eC<|.bl false)<|aC (eC<|.bl false) aK)<|aC (oZ<|aC (eC<|.bl true)<|aC (eC<|.bl true)<|aC (eC<|.bl true)<|aC (eC<|.bl false) aK)<|aC (oZ<|aC (eC<|.bl false)<|aC (eC<|.bl true)<|aC (eC<|.bl false)<|aC (eC<|.bl false) aK)<|aC (oZ<|aC (eC<|.bl false)<|aC (eC<|.bl true)<|aC (eC<|.bl true)<|aC (eC<|.bl false) aK)<|aC (oZ<|aC (eC<|.bl false)<|aC (eC<|.bl false)<|aC (eC<|.bl false)<|aC (eC<|.bl true) aK) aK)<|aA 0
def oA:cr:=dD 1 1 Û
def Ü:Bd:=aW (cV 1<|iQ<|aC (gP (e1 (fG "Both" true)<|aA 0)<|gP (e1 (fG "Either" false)<|aA 0)<|gP (e1 (fG "Less" false)<|aA 0)<|gP (e1 (fG "Unlike" false)<|aA 0)<|e1 (fG "Nor" false)<|aA 0)<|aC (gP (e1 (fG "Both" false)<|aA 0)<|gP (e1 (fG "Either" true)<|aA 0)<|gP (e1 (fG "Less" false)<|aA 0)<|gP (e1 (fG "Unlike" false)<|aA 0)<|e1 (fG "Nor" false)<|aA 0)<|aC (gP (e1 (fG "Both" false)<|aA 0)<|gP (e1 (fG "Either" false)<|aA 0)<|gP (e1 (fG "Less" true)<|aA 0)<|gP (e1 (fG "Unlike" false)<|aA 0)<|e1 (fG "Nor" false)<|aA 0)<|aC (gP (e1 (fG "Both" false)<|aA 0)<|gP (e1 (fG "Either" false)<|aA 0)<|gP (e1 (fG "Less" false)<|aA 0)<|gP (e1 (fG "Unlike" true)<|aA 0)<|e1 (fG "Nor" false)<|aA 0) aK)<|cG<|e2 eQ (aA 1)<|iQ<|aC (gP (e1 (fG "Both" false)<|aA 0)<|gP (e1 (fG "Either" false)<|aA 0)<|gP (e1 (fG "Less" false)<|aA 0)<|gP (e1 (fG "Unlike" false)<|aA 0)<|e1 (fG "Nor" true)<|aA 0) aK
def sH:cr:=dD 1 2 Ü
def Ý:Bd:=cG<|pN (aA 1)<|aA 2
def ZV:cr:=dD 3 3 Ý
def ϙ:Bd:=cG<|Bj (aA 1)<|aA 2
def DV:cr:=dD 3 3 ϙ
def Þ:Bd:=cG<|pN (aA 1)<|mF<|aA 2
def AW:cr:=dD 3 3 Þ
def Ϛ:Bd:=cG<|e2 Hi (aA 1)<|aA 2
def EV:cr:=dD 3 3 Ϛ
def û:Bd:=cG<|pN (mF<|aA 1)<|mF<|aA 2
def LW:cr:=dD 3 3 û
def fH:v6:=[("Both",ZV),("Either",DV),("Less",AW),("Unlike",EV),("Nor",LW)]
def ϻ:Bd:=cG<|oZ<|aC (fV fH "truth" (aA 0)<|aC (eC<|.bl true)<|aC (eC<|.bl true) aK)<|aC (fV fH "truth" (aA 0)<|aC (eC<|.bl true)<|aC (eC<|.bl false) aK)<|aC (fV fH "truth" (aA 0)<|aC (eC<|.bl false)<|aC (eC<|.bl true) aK)<|aC (fV fH "truth" (aA 0)<|aC (eC<|.bl false)<|aC (eC<|.bl false) aK) aK
def gC:cr:=dD 1 1 ϻ
def tV:v6:=[("Both",gC),("Either",gC),("Less",gC),("Unlike",gC),("Nor",gC)]
def Ω(st:za):R D:=(aA 3) st
def ϊ(st:za):R D:=(mF<|eB Xt<|aA 3) st
def À:Bd:=aW (cV 2<|iQ<|aC (fV fH "truth" (aA 0)<|aC (eC<|.bl true)<|aC (eC<|.bl true) aK)<|aC (fV fH "truth" (aA 0)<|aC (eC<|.bl true)<|aC (eC<|.bl false) aK)<|aC (fV fH "truth" (aA 0)<|aC (eC<|.bl false)<|aC (eC<|.bl true) aK)<|aC (fV fH "truth" (aA 0)<|aC (eC<|.bl false)<|aC (eC<|.bl false) aK) aK)<|aW (Pd (Bj (e2 Hi (bU [3] (Pb 3) (Cd<|aA 2) ϊ Ω)<|iQ aK)<|e2 Hi (e1 BA<|aA 2)<|aA 1) (cG<|eC<|.bl false) cX)<|cG<|pN (e2 Me (fV tV "leads" (aA 0) aK)<|aA 1)<|eB gz<|fV tV "leads" (aA 0) aK
def qL:cr:=dD 2 4 À
def Ğ:Bd:=cG<|e2 Me (e2 Ir (e2 pz (aA 0)<|aA 1)<|eI 1)<|eI 1
def pQ:cr:=dD 2 2 Ğ
def BW(st:za):R D:=(aA 1) st
def CW(st:za):R D:=(aV pQ<|aC (aA 0)<|aC (aA 1) aK) st
def ğ:Bd:=cG<|bU [1] (Pb 1) (pA<|e1 nE<|aA 0) CW BW
def jO:cr:=dD 1 2 ğ
def VW(st:za):R Fl:=(cV 1<|e2 Gq (aA 1)<|aA 2) st
def bAd:Bd:=aW (cV 1<|eI 0)<|aW (tK (Pb 2) (Cd<|aA 0) VW)<|cG<|aA 1
def MD:cr:=dD 1 3 bAd
def ü:Bd:=cG<|e2 jb (aA 0)<|e2 eQ (e2 lZ (e2 tE (aA 1)<|eI 2)<|eI 2)<|e2 tE (aA 2)<|eI 2
def nP:cr:=dD 3 3 ü
def pR(st:za):R D:=(oZ<|aC (aA 3)<|aC (aA 4) aK) st
def wR(st:za):R D:=(aV nP<|aC (aA 1)<|aC (aA 3)<|aC (aA 4) aK) st
def wU(st:za):R Fl:=(Yt 2<|bU [4] (Pb 4) (Cd<|e1 pE<|e1 (cN "Sides" "rights")<|aA 0) wR pR) st
def ϛ:Bd:=aW (tH 2<|iQ aK)<|aW (tK (Pb 3) (Cd<|e1 pE<|e1 (cN "Sides" "lefts")<|aA 0) wU)<|Rm [2]<|cG<|aA 2
def oE:cr:=dD 2 5 ϛ
def qZ(st:za):R Fl:=(cV 1<|e2 Gq (aA 1)<|e2 Hr (eI 1)<|aA 2) st
def Ő:Bd:=aW (cV 1<|eI 0)<|aW (tK (Pb 2) (Cd<|aA 0) qZ)<|cG<|aA 1
def pU:cr:=dD 1 3 Ő
def FV(st:za):R Fl:=(Qd 3 (aA 4)<|e2 Ir (e2 Gq (aV pU<|aC (e2 jb (aA 0)<|aA 4) aK)<|e2 Hr (eI 1)<|aA 4)<|aA 1) st
def tW(st:za):R Fl:=(Pd (aV pQ<|aC (e2 jb (dF 3)<|aA 4)<|aC (aA 5) aK) (Qd 3 (aA 4)<|e2 Gq (e2 jb (dF 3)<|aA 4)<|e2 jb (dF 3)<|aA 5) cX) st
def GV(st:za):R Fl:=(tK (Pb 4) (Cd<|aA 2) tW) st
def ß:Bd:=aW (cV 2<|aV jO<|aC (aA 1) aK)<|aW (gw 3 false)<|aW (tK (Pb 4) (Cd<|aA 2) FV)<|aW (tK (Pb 5) (Cd<|aA 2) GV)<|Rm [3]<|cG<|aA 3
def sI:cr:=dD 2 6 ß
def à:Bd:=aW (cV 2<|aV jO<|aC (aA 1) aK)<|cG<|Bj (e2 qx (e1 kI<|aA 2)<|eI 1)<|e2 sx (e2 jb (aA 2)<|eI 0)<|e2 jb (aA 0)<|e2 jb (aA 2)<|eI 0
def sJ:cr:=dD 2 3 à
def ϋ(st:za):R D:=(aA 6) st
def ό(st:za):R D:=(aV pQ<|aC (e2 jb (aA 2)<|aA 6)<|aC (aA 4) aK) st
def rN(st:za):R Fl:=(aW (cV 5<|aV pU<|aC (bU [6] (Pb 6) (Cd<|aV jO<|aC (e2 jb (aA 2)<|aA 4) aK) ό ϋ) aK)<|Pd (pN (e2 vU (aA 5)<|dF 3)<|aV sJ<|aC (aA 0)<|aC (aA 5) aK) (Bp 3<|aA 5) cX) st
def Á:Bd:=aW (cV 2<|aV sI<|aC (aA 0)<|aC (aA 1) aK)<|aW (tH 3<|iQ aK)<|aW (tK (Pb 4) (Cd<|aV jO<|aC (aA 1) aK) rN)<|Rm [3]<|cG<|aA 3
def qM:cr:=dD 2 7 Á
def zH(st:za):R D:=(aA 4) st
def rO(st:za):R D:=(pN (e2 tx (e2 jb (aA 5)<|eI 0)<|aA 1)<|e2 tx (e2 jb (aA 5)<|eI 1)<|aA 2) st
def Â:Bd:=aW (cV 3<|e2 OF (e1 (cN "Sides" "lefts")<|aA 0)<|e1 (cN "Sides" "rights")<|aA 0)<|cG<|aV pU<|aC (bU [4,5] (Xj [4,5]) (b8<|aA 3) rO zH) aK
def qN:cr:=dD 3 6 Â
def ψ(st:za):R D:=(e2 jb (e1 (cN "Sides" "rights")<|aA 0)<|aA 3) st
def ω(st:za):R D:=(e2 jb (e1 (cN "Sides" "lefts")<|aA 0)<|aA 3) st
def Ν:Bd:=aW (cV 2<|aV jO<|aC (aA 1) aK)<|cG<|oZ<|aC (e1 Br<|bU [3] (Pb 3) (Cd<|aA 2) cA ω)<|aC (e1 Br<|bU [3] (Pb 3) (Cd<|aA 2) cA ψ) aK
def lM:cr:=dD 2 4 Ν
def wV(st:za):R D:=(aA 6) st
def wW(st:za):R D:=(e2 Me (aV lM<|aC (aA 0)<|aC (aA 6) aK)<|oZ<|aC (aA 3)<|aC (aA 4) aK) st
def wX(st:za):R Fl:=(aW (cV 5<|aV qM<|aC (e1 (cN "Sides" "steps")<|aA 0)<|aC (aV qN<|aC (aA 0)<|aC (aA 3)<|aC (aA 4) aK) aK)<|Yt 2<|bU [6] (Pb 6) (Cd<|aA 5) wW wV) st
def Ϝ:Bd:=aW (tH 2<|iQ aK)<|aW (tK (Xj [3,4]) (Cd<|aV oE<|aC (aA 0)<|aC (aA 1) aK) wX)<|Rm [2]<|cG<|aA 2
def oF:cr:=dD 2 7 Ϝ
def fW(st:za):R Fl:=(aW (cV 9<|oZ<|aC (aA 8)<|aC (e2 lq (e2 jb (aA 6)<|eI 1)<|e2 jb (e1 (cN "Sides" "lefts")<|aA 0)<|aA 8)<|aC (e2 lq (e2 jb (aA 6)<|eI 2)<|e2 jb (e1 (cN "Sides" "rights")<|aA 0)<|aA 8) aK)<|aW (Pd (pN (e2 Me (aA 8)<|aA 2)<|aV nP<|aC (aA 1)<|aC (e2 jb (aA 9)<|eI 1)<|aC (e2 jb (aA 9)<|eI 2) aK) (cG<|e2 eQ (e2 jb (dF 3)<|aA 6)<|aA 7) cX)<|Pd (e2 vU (aA 9)<|dF 3) (aW (Qd 3 (aA 9)<|e2 eQ (e2 jb (dF 3)<|aA 6)<|aA 7)<|Bp 4<|aA 9) cX) st
def mX(st:za):R Fl:=(aW (cV 6<|e2 jb (dF 4)<|aA 5)<|aW (tK (Xj [7,8]) (NF (eC<|.str [97,98,99])<|e2 jb (e1 (cN "Sides" "steps")<|aA 0)<|e2 jb (aA 6)<|eI 0) fW)<|cV 5<|e2 eQ (aA 5)<|eI 1) st
def mY(st:za):R D:=(e2 ao (aA 5)<|e1 kI<|dF 4) st
def Ã:Bd:=aW (YE 3 (oZ<|aC (aA 2)<|aC (e1 zp<|eI 1)<|aC (e1 zp<|eI 1) aK)<|eC<|.str [])<|aW (tH 4<|e1 Tv<|dF 3)<|aW (cV 5<|eI 0)<|aW (Rv 100000 mY mX)<|cG<|eC .xc
def qO:cr:=dD 3 10 Ã
def Ξ:Bd:=cG<|oZ<|aC (e2 eQ (e1 kI<|e2 jb (aA 0)<|eI 0)<|e1 kI<|e2 jb (aA 0)<|eI 1)<|aC (e1 kI<|e2 jb (aA 0)<|eI 0)<|aC (e2 jb (aA 0)<|eI 0)<|aC (e2 jb (aA 0)<|eI 1) aK
def cY:cr:=dD 1 1 Ξ
def pW(st:za):R Fl:=(Qd 2 (oZ<|aC (aA 3)<|aC (aA 4) aK)<|e2 OF (e2 jb (e1 (cN "Machine" "steps")<|aA 0)<|aA 3)<|e2 jb (e1 (cN "Machine" "steps")<|aA 1)<|aA 4) st
def wY(st:za):R Fl:=(tK (Pb 4) (pA<|e1 (cN "Machine" "many")<|aA 1) pW) st
def ϝ:Bd:=aW (gw 2 true)<|aW (tK (Pb 3) (pA<|e1 (cN "Machine" "many")<|aA 0) wY)<|Rm [2]<|cG<|aA 2
def oG:cr:=dD 2 5 ϝ
def vW(st:za):R Fl:=(Pd (pN (e2 sx (aA 8)<|aA 2)<|e2 vU (aA 8)<|dF 3) (aW (Qd 3 (aA 8)<|e2 eQ (e2 jb (dF 3)<|aA 6)<|aA 7)<|Bp 4<|aA 8) cX) st
def PV(st:za):R Fl:=(aW (cV 6<|e2 jb (dF 4)<|aA 5)<|aW (tK (Xj [7,8]) (NF (eC<|.str [97,98,99])<|e2 jb (aA 0)<|aA 6) vW)<|cV 5<|e2 eQ (aA 5)<|eI 1) st
def vX(st:za):R D:=(e2 ao (aA 5)<|e1 kI<|dF 4) st
def ý:Bd:=aW (YE 3 (aA 1)<|eC<|.str [])<|aW (tH 4<|iQ<|aC (aA 1) aK)<|aW (cV 5<|eI 0)<|aW (Rv 100000 vX PV)<|Rm [3]<|cG<|aA 3
def vD:cr:=dD 3 9 ý
def rA:Bd:=Pd (mF<|aV lB<|aC (aA 1)<|aC (e1 (cN "Machine" "many")<|aA 0) aK) F5 cX
def bW:cr:=dD 2 2 rA
def Α(st:za):R D:=(e2 jb (aA 6)<|aA 7) st
def Β(st:za):R D:=(ik UO (e1 (cN "Sides" "pairs")<|dF 0)<|aC (aA 8) aK) st
def tX(st:za):R D:=(bU [8] (Pb 8) (Cd<|e2 jb (aA 5)<|aA 7) cA Β) st
def tY(st:za):R D:=(e2 jb (e1 (cN "Machine" "ranks")<|aA 1)<|e2 jb (aA 7)<|eI 0) st
def tZ(st:za):R D:=(e2 jb (e1 (cN "Machine" "ranks")<|aA 2)<|e2 jb (aA 7)<|eI 1) st
def iV:Bd:=aW (rF<|aV (ug cD)<|aC (aA 1)<|aC (aA 2) aK)<|aW (rF<|rT "Machine" "check_room" bW [] (aA 1)<|aC (aA 3) aK)<|aW (rF<|rT "Machine" "check_room" bW [] (aA 2)<|aC (aA 4) aK)<|aW (cV 5<|aV oG<|aC (aA 1)<|aC (aA 2) aK)<|aW (cV 6<|aV vD<|aC (aA 5)<|aC (oZ<|aC (aA 3)<|aC (aA 4) aK)<|aC (e1 Tv<|aA 5) aK)<|aW (gQ 0 "Sides" "pairs"<|e1 Xy<|aA 6)<|aW (gQ 0 "Sides" "fronts"<|bU [7] (Pb 7) (Cd<|e1 (cN "Sides" "pairs")<|dF 0) cA Α)<|aW (gQ 0 "Sides" "steps"<|bU [7] (Pb 7) (Cd<|e1 (cN "Sides" "pairs")<|dF 0) cA tX)<|aW (gQ 0 "Sides" "lefts"<|bU [7] (Pb 7) (Cd<|e1 (cN "Sides" "pairs")<|dF 0) cA tY)<|gQ 0 "Sides" "rights"<|bU [7] (Pb 7) (Cd<|e1 (cN "Sides" "pairs")<|dF 0) cA tZ
def lN:cr:=uq "Sides" 4 9 iV
def zJ(st:za):R D:=(oZ<|aC (e2 jb (e1 (cN "Sides" "fronts")<|aA 5)<|aA 8)<|aC (aV qO<|aC (aA 5)<|aC (aA 2)<|aC (aA 8) aK) aK) st
def Ä:Bd:=aW (cV 5<|aV lN<|aC (aA 0)<|aC (aA 1)<|aC (aA 3)<|aC (aA 4) aK)<|aW (cV 6<|aV jO<|aC (aV MD<|aC (aV oF<|aC (aA 5)<|aC (aA 2) aK) aK) aK)<|aW (cV 7<|bU [8] (Pb 8) (Cd<|aA 6) cA zJ)<|cG<|e1 (Jr cY)<|aA 7
def gD:cr:=dD 5 9 Ä
def HV(st:za):R Fl:=(cV 2<|e2 jb (e2 jb (aA 7)<|aA 2)<|ik Hy (eC<|.str [97,98,99])<|aC (aA 3) aK) st
def IV(st:za):R Fl:=(aW (Qd 4 (oZ<|aC (aA 2)<|aC (aA 6) aK)<|e1 kI<|dF 5)<|aW (Bp 5<|aA 2)<|aW (cV 2<|e2 jb (e2 jb (aA 7)<|aA 2)<|ik Hy (eC<|.str [97,98,99])<|aC (e2 jb (aA 10)<|aA 6) aK)<|cV 6<|e2 tE (e2 eQ (aA 6)<|eI 1)<|e1 kI<|aA 10) st
def JV(st:za):R D:=(e2 vU (oZ<|aC (aA 2)<|aC (aA 6) aK)<|dF 4) st
def Ϟ(st:za):R D:=(e2 jb (aA 8)<|aA 11) st
def á:Bd:=aW (Dw (Xj [7,8])<|aA 0)<|aW (Dw (Xj [9,10])<|aA 1)<|aW (cV 2<|eI 0)<|aW (tK (Pb 3) (Cd<|aA 9) HV)<|aW (gw 4 true)<|aW (tH 5<|iQ aK)<|aW (cV 6<|eI 0)<|aW (Rv 100000 JV IV)<|cG<|e2 Me (e2 tE (e1 Br<|bU [11] (Pb 11) (Cd<|jk (dF 5) (rR<|e2 jb (dF 4)<|oZ<|aC (aA 2)<|aC (aA 6) aK) uY) cA Ϟ)<|eI 2)<|eI 0
def jP:cr:=dD 2 12 á
def Ε:Bd:=cG<|EN gD [.int 0,.int 0]<|aC (e1 (zZ tQ "inner")<|aA 0)<|aC (e1 (zZ nW "outer")<|aA 0)<|aC (fV tV "leads" (aA 0) aK) aK
def eZ:cr:=dD 1 1 Ε
def lO:v6:=[("Both",eZ),("Either",eZ),("Less",eZ),("Unlike",eZ),("Nor",eZ)]
def þ:Bd:=aW (cV 6<|fV lO "some_word" (aA 0) aK)<|aW (Pd (Bj (e2 Hi (aA 6)<|EN gD [.int 0,.int 0]<|aC (aA 3)<|aC (aA 4)<|aC (aA 5) aK)<|e2 Hi (fV lO "some_word" (aA 0) aK)<|aA 6) (cG<|eC<|.bl false) cX)<|aW (Pd (e2 q9 (aA 6)<|eC .xc) (cG<|eC<|.bl true) cX)<|cG<|e2 jb (aA 5)<|e2 eQ (e2 lZ (eI 2)<|e1 vq<|mF<|aV jP<|aC (aA 1)<|aC (aA 6) aK)<|e1 vq<|mF<|aV jP<|aC (aA 2)<|aC (aA 6) aK
def vG:cr:=dD 6 7 þ
def ϟ:Bd:=aW (cV 3<|eC<|.bl false)<|aW (Zt (rF<|jM jJ<|aC (aA 0)<|aC (aA 1)<|aC (aA 2) aK)<|(["OtherLetters"],["NoMachine","NoRoom","NoWord"],TR<|cV 3<|eC<|.bl true)::[])<|cG<|aA 3
def lC:cr:=dD 3 4 ϟ
def RX:Bd:=cG<|pN (eB oP<|aA 0)<|e2 Me (ik WE (aA 0)<|aC (jk (eC<|.str [97,98,99]) uY<|rR<|aA 1) aK)<|eC<|.str []
def lQ:cr:=dD 2 2 RX
def xZ:Bd:=aW (Pd (Bj (mF<|eB gz<|aA 0)<|e2 Hi (e1 kI<|aA 0)<|eI 2) (cG<|eC<|.bl false) cX)<|cG<|pN (aV lQ<|aC (e2 jb (aA 0)<|eI 0)<|aC (aA 1) aK)<|pN (aV lQ<|aC (e2 jb (aA 0)<|eI 1)<|aC (aA 1) aK)<|e2 Hi (e2 jb (aA 0)<|eI 1)<|eC<|.str []
def dN:cr:=dD 2 2 xZ
def iW(st:za):R Fl:=(aW (cV 1<|e2 jb (e2 jb (e1 (cN "Machine" "steps")<|aA 0)<|aA 1)<|ik MF (eC<|.str [97,98,99])<|aC (aA 4) aK)<|Bp 3<|aA 1) st
def fY:Bd:=aW (tH 3<|iQ<|aC (aA 1) aK)<|aW (tK (Pb 4) (Cd<|aA 2) iW) cX
def zP:Bd:=mq fY 3
def cH:cr:=dD 3 5 zP
def pX(st:za):R Fl:=(aW (Qd 4 (e2 jb (dF 3)<|e1 zp<|eI 1)<|e2 Wt (e1 kI<|dF 3)<|eI 1)<|Yt 3<|jk (rT "Machine" "rooms_along" cH [] (aA 0)<|aC (e2 jb (dF 3)<|e1 zp<|eI 1)<|aC (e2 jb (aA 1)<|eI 1) aK) (rR<|eI 1) uY) st
def pY(st:za):R D:=(e2 vU (e2 jb (dF 3)<|e1 zp<|eI 1)<|dF 4) st
def LV:Bd:=aW (Qg<|rF<|rT "Machine" "check_room" bW [] (aA 0)<|aC (aA 2) aK)<|aW (Pd (Ql<|mF<|aV dN<|aC (aA 1)<|aC (e1 (cN "Machine" "letters")<|aA 0) aK) (xV "NoWord"<|aC (eC<|.str [116,104,105,115,32,105,115,32,110,111,32,101,110,100,108,101,115,115,32,119,111,114,100,32,111,102,32,116,104,101,32,109,97,99,104,105,110,101,39,115,32,108,101,116,116,101,114,115]) aK) cX)<|aW (Qg<|tH 3<|rT "Machine" "rooms_along" cH [] (aA 0)<|aC (aA 2)<|aC (e2 jb (aA 1)<|eI 0) aK)<|aW (Qg<|gw 4 false)<|aW (Qg<|Rv 100000 pY pX)<|aW (Qg<|cV 5<|e2 jb (dF 4)<|e2 jb (dF 3)<|e1 zp<|eI 1)<|Qg<|cG<|oZ<|aC (jk (dF 3) uY<|rR<|aA 5)<|aC (jk (dF 3) (rR<|aA 5)<|rR<|e1 zp<|eI 1) aK
def iY:cr:=dD 3 6 LV
def Ο(st:za):R D:=(e2 jb (e1 (cN "Machine" "ranks")<|aA 0)<|aA 4) st
def MV:Bd:=aW (cV 3<|wx jb (pP "Machine" "walk" iY [] (aA 0)<|aC (aA 1)<|aC (aA 2) aK)<|eI 1)<|Qg<|cG<|e2 Me (e2 tE (e1 Br<|bU [4] (Pb 4) (Cd<|aA 3) cA Ο)<|eI 2)<|eI 0
def gM:cr:=dD 3 5 MV
def DW:Bd:=cG<|vy fH "truth" (aA 0)<|aC (pP "Machine" "lets" gM [.int 0] (e1 (zZ tQ "inner")<|aA 0)<|aC (aA 1) aK)<|aC (pP "Machine" "lets" gM [.int 0] (e1 (zZ nW "outer")<|aA 0)<|aC (aA 1) aK) aK
def bR:cr:=dD 2 2 DW
def vE:v6:=[("Both",ug bR),("Either",ug bR),("Less",ug bR),("Unlike",ug bR),("Nor",ug bR)]
def Ϡ:Bd:=aW (cV 2<|eC<|.bl false)<|aW (Zt (rF<|gP (pP "Both" "lets" bR [] (aA 0)<|aC (aA 1) aK)<|gP (pP "Either" "lets" bR [] (aA 0)<|aC (aA 1) aK)<|gP (pP "Less" "lets" bR [] (aA 0)<|aC (aA 1) aK)<|gP (pP "Unlike" "lets" bR [] (aA 0)<|aC (aA 1) aK)<|pP "Nor" "lets" bR [] (aA 0)<|aC (aA 1) aK)<|(["NoWord"],["NoMachine","NoRoom","OtherLetters"],TR<|cV 2<|eC<|.bl true)::[])<|cG<|aA 2
def iZ:cr:=dD 2 3 Ϡ
def QV(st:za):R D:=(e2 jb (eC<|.str [97,98,99])<|aA 4) st
def RV(st:za):R D:=(e2 jb (eC<|.str [97,98,99])<|aV bI<|aC (aA 0)<|aC (e2 eQ (eI 20)<|aA 3)<|aC (aA 2) aK) st
def ÿ:Bd:=aW (Pd (e2 Me (e2 tE (aA 0)<|eI 2)<|eI 1) (cG<|ik mw (eC<|.str [])<|aC (bU [4] (Pb 4) (Cd<|aV mL<|aC (e2 Uy (aA 0)<|eI 2)<|aC (aA 2)<|aC (aA 1) aK) cA QV) aK) cX)<|cG<|ik mw (eC<|.str [])<|aC (bU [3] (Pb 3) (pA<|aA 1) cA RV) aK
def rB:cr:=dD 3 5 ÿ
def bEn(st:za):R D:=(e1 Qt<|aA 18) st
def bEo(st:za):R D:=(e1 Qt<|aA 18) st
def bEp(st:za):R D:=(eI 0) st
def bEq(st:za):R D:=(e2 Me (aA 5)<|aA 12) st
def V2(st:za):R Fl:=(aW (cV 13<|aV dX<|aC (aA 0)<|aC (aA 12) aK)<|aW (cV 14<|aV rB<|aC (aV dX<|aC (aA 0)<|aC (e2 eQ (aA 12)<|eI 1) aK)<|aC (e2 eQ (eI 1)<|aV bI<|aC (aA 13)<|aC (eI 2)<|aC (eI 9) aK)<|aC (aA 3) aK)<|aW (cV 15<|oZ<|aC (aV rB<|aC (aA 13)<|aC (aV bI<|aC (aA 13)<|aC (eI 1)<|aC (eI 10) aK)<|aC (aA 3) aK)<|aC (aA 14) aK)<|aW (cV 16<|e2 jb (aA 11)<|e2 eQ (e2 lZ (eI 2)<|e1 vq<|mF<|aV jP<|aC (aA 6)<|aC (aA 15) aK)<|e1 vq<|mF<|aV jP<|aC (aA 7)<|aC (aA 15) aK)<|aW (cV 17<|fV vE "lets" (aA 10)<|aC (aA 15) aK)<|Pd (Bj (mF<|eB Xt<|aA 17)<|e2 Hi (aA 17)<|aA 16) (cG<|eC<|.bl false) cX) st
def W2(st:za):R Fl:=(aW (cV 10<|aV (ug jJ)<|aC (aA 5)<|aC (aA 1)<|aC (aA 2) aK)<|aW (cV 11<|aV oA<|aC (aA 5) aK)<|aW (Pd (Bj (mF<|gP (e1 (fG "Both" true)<|aA 10)<|gP (e1 (fG "Either" true)<|aA 10)<|gP (e1 (fG "Less" true)<|aA 10)<|gP (e1 (fG "Unlike" true)<|aA 10)<|e1 (fG "Nor" true)<|aA 10)<|e2 Hi (aV sH<|aC (aA 10) aK)<|bU [12] (Pb 12) (pA<|eI 5) cA bEq) (cG<|eC<|.bl false) cX)<|aW (Pd (Bj (e2 Hi (e1 (cN "Machine" "steps")<|e1 (zZ tQ "inner")<|aA 10)<|e2 jb (aA 6)<|eI 0)<|Bj (e2 Hi (e1 (cN "Machine" "steps")<|e1 (zZ nW "outer")<|aA 10)<|e2 jb (aA 7)<|eI 0)<|e2 Hi (e1 (cN "Machine" "ranks")<|e1 (zZ nW "outer")<|aA 10)<|e2 jb (aA 7)<|eI 1) (cG<|eC<|.bl false) cX)<|aW (Pd (Bj (mF<|aV qL<|aC (aA 10)<|aC (aA 11) aK)<|mF<|aV vG<|aC (aA 10)<|aC (aA 6)<|aC (aA 7)<|aC (aA 1)<|aC (aA 2)<|aC (aA 11) aK) (cG<|eC<|.bl false) cX)<|aW (Pd (Bj (mF<|aV lC<|aC (aA 5)<|aC (aA 1)<|aC (aA 4) aK)<|mF<|aV lC<|aC (aA 5)<|aC (aA 4)<|aC (aA 2) aK) (cG<|eC<|.bl false) cX)<|aW (Pd (Bj (mF<|aV iZ<|aC (aA 10)<|aC (oZ<|aC (eC<|.str [])<|aC (eC<|.str []) aK) aK)<|Bj (mF<|aV iZ<|aC (aA 10)<|aC (oZ<|aC (eC<|.str [])<|aC (eC<|.str [100]) aK) aK)<|mF<|aV iZ<|aC (aA 10)<|aC (eC .xc) aK) (cG<|eC<|.bl false) cX)<|tK (Pb 12) (EG (eI 19)<|e2 lq (eI 21)<|e2 Vy (eI 39)<|e1 kI<|aA 0) V2) st
def bN5:Bd:=aW (Dw (Xj [6,7,8,9])<|aV xY<|aC (aA 0) aK)<|aW (cV 1<|aV (ug aY)<|aC (bU [18] (Pb 18) (Cd<|e2 jb (aA 6)<|eI 0) cA bEn)<|aC (e1 Qt<|e2 jb (aA 6)<|eI 1) aK)<|aW (cV 2<|aV (ug aY)<|aC (bU [18] (Pb 18) (Cd<|e2 jb (aA 7)<|eI 0) cA bEo)<|aC (e1 Qt<|e2 jb (aA 7)<|eI 1) aK)<|aW (cV 3<|e1 (cN "Machine" "letters")<|aA 1)<|aW (cV 4<|aV (ug aY)<|aC (iQ<|aC (bU [12] (Pb 12) (pA<|e2 eQ (eI 1)<|e2 tE (aA 3)<|eI 3) cA bEp) aK)<|aC (iQ<|aC (eI 1) aK) aK)<|aW (tK (Pb 5) (pA<|eI 5) W2)<|cG<|eC<|.bl true
def ow:cr:=dD 1 19 bN5
end
instance:Coe D Sl:=⟨.v⟩
instance:Coe Int D:=⟨.int⟩
instance:Coe Nat D:=⟨λn=>.int n⟩
@[simp] theorem bLn(x:D)(f:α->R β):(R.exc x:R α).bind f=.exc x:=rfl
@[simp] theorem bPi(b:Bd)(st:za):Qg b st=(b st).Ve:=rfl
@[simp] theorem bPj(f:Ex)(st:za):Ql f st=(f st).Ve:=rfl
@[simp] theorem bLo(c:String)(r:mh)(st:za):xV c r st=(r st).Ve.bind λxs=>aP (xs.length<=100) (.exc<|.Dg c [] []):=rfl
@[simp] theorem bLp(p:cr)(r:mh)(st:za):jM p r st=(r st).Ve.bind p:=rfl
@[simp] theorem bOs(b:Bd)(a:List (List String×List String×(String->Bd)))(st:za):Zt b a st=(match b st with|.exc (.Dg c [] [])=>Ew a c st|.exc _=>.bad|r=>r):=rfl
@[simp] theorem bAe(x:db):Gr (.lst x)=(kx x).bind λl=>.ok (.bl<|l.all id):=rfl
theorem bAf{x:db}{l:sK}(h:x=l.map D.bl)(a:∀b∈l,b=true):Gr (.lst x)=.ok (.bl true):=by
 subst h;rw[bAe,P2];simp_all
def Ke(m:Int)(x:ac):Prop:=∀c∈x,97<=c/\(c:Int)<97+m
theorem aN{a b:Bd}{st:za}{r:R Fl}(h:a st=.ok (.nx st'))(c:b st'=r):aW a b st=r:=by
 simp_all
def bA{a b:Bd}{st:za}{r:R Fl}(h:a st=.ok (.nx st))(c:b st=r):aW a b st=r:=aN h c
def nC{a b:Bd}{st:za} (h:a st=.ok (.rt d)):aW a b st=.ok (.rt d):=by
 rw[O2,h];rfl
def bT{b:Bd} {d:D} (h:ds.length=np) (a:b (ds.map (λd=>some<|.v d)++List.replicate (n-np) none)=.ok (.rt d)):dD np n b ds=.ok d:=by
 rw[bEl h,a];rfl
def MW(n:Nat):pO 0 n=(List.range n).map λ(k:Nat)=>D.int (k:Int):=by
 refine Pr λk _=>?_
 rw[Int.zero_add]
theorem ED{tg:Tg}{c f:Ex}{st:za}(g:D->D):∀(a:db),(∀d∈a,∃s1,tg d st=.ok s1/\c s1=.ok (.bl true)/\f s1=.ok (g d))->mK tg c f st a=.ok (a.map g)
 |[],_=>rfl
 |d::a,h=>by
  obtain⟨s1,e1,e2,e⟩:=h d Zb;rw[nA,e1];simp[e2,e,ED g a λd b=>h d<|mem_cons_of_mem _ b]
theorem bH{st:za} (h:f st=.ok d):cV i f st=.ok (.nx<|st.set i d):=by simp_all
def sO{st:za} (h:f st=.ok (.lst xs)):tH i f st=.ok (.nx<|st.set i<|some<|.o .l xs):=by rw[aZy,h,bN]
theorem aQ{st:za} {x:R D} (h:r st=.ok ds) (a:p ds=x):aV p r st=x:=by simp_all
theorem aJ{op:Og} {st:za} {x y:D} {z:R D} (b:f st=.ok x) (a:g st=.ok y) (h:op x y=z):e2 op f g st=z:=by simp_all
theorem pZ{c:Ex}{a b:Bd}{st:za}{r:R Fl}(h:c st=.ok (.bl true))(d:a st=r):Pd c a b st=r:=by simp_all
theorem gO{c:Ex}{a b:Bd}{st:za}{r:R Fl}(h:c st=.ok (.bl false))(d:b st=r):Pd c a b st=r:=by simp_all
def yC{st:za}{p q:Bool}(b:f st=.ok (.bl p))(a:p=true->g st=.ok (.bl q)):pN f g st=.ok (.bl<|p&&q):=by
 rw[N2,b];cases p with
 |true=>rw[a rfl];rfl
 |false=>rfl
def zK{st:za}{p q:Bool}(b:f st=.ok (.bl p))(a:p=false->g st=.ok (.bl q)):Bj f g st=.ok (.bl<|p||q):=by
 rw[bJg,b];cases p with
 |true=>rfl
 |false=>rw[a rfl];rfl
theorem mG{st:za}{p:Bool}(a:f st=.ok (.bl p)):mF f st=.ok (.bl<|!p):=by simp_all
theorem cJ{st:za} (h:f st=.ok d):cG f st=.ok (.rt d):=by simp_all
theorem lD{tg:Tg} {st:za} {r:R Fl} (h:it st=.ok xs) (a:Uc tg L xs st=r):tK tg it L st=r:=by simp_all
theorem aO{st:za}{d:D} (h:f st=.ok d) (a:r st=.ok ds):aC f r st=.ok (d::ds):=by simp_all
def gY{st:za} (h:r st=.ok ds) (a:ds.length<=1000:=by exact Qr rfl):iQ r st=.ok (.lst ds):=by rw[bEd,h,bN,aD<|fK<|Nh a<|by decide]
def kJ{i j:Int}(h:0<j):tE (.int i) (.int j)=.ok (.int<|i%j):=aD h
def X2{i j:Int}(h:0<j/\j<1073741824):Uy (.int i) (.int j)=.ok (.int<|i/j):=aD h
def oH(i j:Int):Me (.int i) (.int j)=.ok (.bl<|decide (i=j)):=by
 exact aD ⟨rh 64,rfl,rfl⟩
def bJo(i j:Int):Hi (.int i) (.int j)=.ok (.bl<|!decide (i=j)):=by
 exact aD ⟨rh 64,rfl,rfl⟩
def Uv{st:za} (h:f st=.ok d) (a:st[i]?=some (some<|.o .l xs)) (b:xs.length<1000000):Bp i f st=.ok (.nx<|st.set i<|some<|.o .l<|xs++[d]):=by
 rw[bEg,h,a];exact aD<|Ft<|xu b<|by decide
theorem pw{st:za} (h:f st=.ok (.int n)) (a:n<=1000000):pA f st=.ok ((List.range n).map λ(k:Nat)=>D.int (k:Int)):=by
 rw[bEe,h,<-MW];exact aD ⟨CM (by lia),iE<|by lia⟩
def lU{E C:Ex}{is:ac}{tg:Tg} {st:za} {ys:db} (h:it st=.ok xs) (a:xs.length<=1000000) (b:mK tg C E (Sk is st) xs=.ok ys):bU is tg it C E st=.ok (.lst ys):=by
 rw[DZ,h,bN,aD<|fK<|Nh a<|by decide,b,bN]
def CL{c:Ex}{b:Bd}{st:za} {r:R Fl} (a:c st=.ok (.bl true)) (d:b st=.ok (.nx st')) (e:jL c b n st'=r):jL c b (n+1) st=r:=by
 rwa [qY,a,bN,d]
def SX{c:Ex}{b:Bd}{st:za} (a:c st=.ok (.bl false)):jL c b (n+1) st=.ok (.nx st):=by rw[qY,a,bN,BN,Pa jo]
def nD{tg:Tg} {d:D}{st:za} {r:R Fl} (a:tg d st=.ok s1) (b:L s1=.ok (.nx s2)) (c:Uc tg L ds s2=r):Uc tg L (d::ds) st=r:=by
 rwa [RK,a,bN,b]
theorem gU{i:Int} (h:Ye xs i=some d):jb (.lst xs) (.int i)=.ok d:=by
 simp_all
theorem GG{p q:Nat}(h:p<q):decide ((p:Int)<(q:Int))=true:=fh (by lia)
theorem d8{p q:Nat}(h:¬ p<q):decide ((p:Int)<(q:Int))=false:=bf (by lia)
def gF{r:R D}{p q:Bool}(h:r=.ok (.bl p))(e:p=q):r=.ok (.bl q):=by rw[h,e]
def pC{st:za} (h:f st=.ok (.lst xs)):Cd f st=.ok xs:=by rw[bJi,h,bN]
def FN{st:za}{ys:db}(h:f st=.ok (.lst ys))(a:st[i]?=some (some<|.o .l xs))(b:xs.length+ys.length<=big):Yt i f st=.ok (.nx<|st.set i<|some<|.o .l<|xs++ys):=by
 rw[bEh,h,a];exact aD b
def good(m:Int)(x:ac):Bool:=x.all λc=>decide (97<=c/\(c:Int)<97+m)
def ND{m:Int}{x:ac}:good m x=true↔Ke m x:=by
 unfold good Ke;simp
theorem Y2{m:Int}(b:1<=m)(d:m<=3){c:Nat}:c∈cut [97,98,99] none (some m)↔97<=c/\(c:Int)<97+m:=by
 have a:m=1\/m=2\/m=3:=by lia
 rcases a with rfl|rfl|rfl
 .show c∈[97]↔_;simp;lia
 .show c∈[97,98]↔_;simp;lia
 show c∈[97,98,99]↔_;simp;lia
theorem SV{b:Type}(p:b->Bool):∀x:List b,x.dropWhile p=[]↔∀c∈x,p c=true
 |[]=>by simp
 |a::x=>by
  cases h:p a with
  |true=>rw[E8 h,SV p x];simp[h]
  |false=>simp[h]
theorem takeWhile_all{b:Type}(p:b->Bool):∀(x:List b)(c:b),c∈x.takeWhile p->p c=true
 |[],c,h=>by simp at h
 |a::x,c,h=>by
  cases d:p a with
  |true=>
   rw[F8 d]at h;rcases qc.mp h with rfl|h
   .exact d
   exact takeWhile_all p x c h
  |false=>simp_all
theorem strip_nil(x y:ac):xT x y=[]↔∀c∈x,c∈y:=by
 unfold xT;rw[List.reverse_eq_nil_iff,SV];constructor
 .intro h;have d:∀c∈x.dropWhile (λc=>y.contains c),c∈y:=λc a=>by simp_all
  have b:=λc a=>by
   simpa using takeWhile_all (λc=>y.contains c) x c a
  intro c a;rw[<-t8 (l:=x)]at a;exact(Wh.mp a).elim (b c) (d c)
 intro h c a;rw[List.mem_reverse]at a;simpa using h c (List.IsSuffix.subset (List.dropWhile_suffix _) a)
theorem AK(x:ac)(m:Int)(b:1<=m)(d:m<=3)(h:x.length<=1000000):lQ [.str x,.int m]=.ok (.bl<|good m x):=by
 unfold lQ RX;have e:(xT x (cut [97,98,99] none<|some m)==[])=good m x:=by
  rw[su,Fm,strip_nil,ND];exact⟨λz c a=>(Y2 b d).mp<|z c a,λz c a=>(Y2 b d).mpr<|z c a⟩
 simp[oP,show x.length<=big from fK (by lia),e]
def ύ(d:D)(m:D)(a:gz d=false)(b:Zn d=true):dN [d,m]=.ok (.bl false):=by
 unfold dN xZ;simp[a,b]
def vY(x y:D)(m:Int)(p q:Bool)(c:lQ [x,.int m]=.ok (.bl p))(b:lQ [y,.int m]=.ok (.bl q))(a:plain y=true)(d:zg y<=64):dN [.tup [x,y],.int m]=.ok (.bl<|p&&(q && !ae y (.str []))):=by
 unfold dN xZ;have f:Ye [x,y] 0=some x:=rfl;have e:Ye [x,y] 1=some y:=rfl;cases p<;>cases q<;>simp[gz,f,e,c,b,a,d]
def ja(l:ac):db:=l.map λ(x:Nat)=>D.int (x:Int)
structure Rc(S:am)(rk:ac)(c:Nat):Prop where
 one:1<=S.length
 most:S.length<=8
 c1:1<=c
 c3:c<=3
 row:∀r∈S,r.length=c/\∀x∈r,x<S.length
 rm:rk.length=S.length
def cc(S:am):db:=S.map λr=>D.lst<|ja r
theorem DL{tg:Tg}{c f:Ex}{st:za}{P:D->D->Prop}:∀(a:db),(∀d∈a,∃s1 y,tg d st=.ok s1/\c s1=.ok (.bl true)/\f s1=.ok y/\P d y)->∃ys,mK tg c f st a=.ok ys/\ys.length=a.length/\∀y∈ys,∃d∈a,P d y
 |[],_=>⟨[],rfl,rfl,λ_ h=>nomatch h⟩
 |d::a,h=>by
  obtain⟨s1,y,e1,e2,i,l⟩:=h d Zb;obtain⟨ys,g,e,k⟩:=DL a λd b=>h d<|Lc _ b
  refine⟨y::ys,?_,by simp[e],λz j=>?_⟩
  .rw[nA,e1];simp[e2,i,g]
  grind
def Ġ{lo:Int} (h:d∈pO lo n):∃k:Nat,k<n/\d=.int (lo+k):=by
 obtain⟨k,b,a⟩:=gf.mp h;exact⟨k,Jj.mp b,a.symm⟩
theorem Z2:∀(ys:db)(c n:Nat),(∀y∈ys,∃r:ac,y=.lst (ja r)/\r.length=c/\∀x∈r,x<n)->∃S:am,ys=cc S/\∀r∈S,r.length=c/\∀x∈r,x<n
 |[],_,_,_=>⟨[],rfl,λ_ h=>nomatch h⟩
 |y::ys,c,n,h=>by
  obtain⟨r,rfl,d⟩:=h y Zb;obtain⟨S,rfl,b⟩:=Z2 ys c n λy a=>h y<|Lc _ a
  refine⟨r::S,rfl,λr' hr=>?_⟩
  rcases qc.mp hr with rfl|hr
  .exact d
  exact b r' hr
def i3{xs:List α}{i:Int}(b:0<=i)(h:i<xs.length):∃a∈xs,Ye xs i=some a:=⟨_,gj _,L5 b h⟩
theorem OD{E:Ex}{st:za}{v:Nat}{xs:db}(a:st[v]?=some (some<|.v<|.lst xs))(e:xs.length<=100000)(h:∀d∈xs,E ((st.set j none).set j d)=.ok (.bl true)):e1 Gr (bU [j] (Pb j) (Cd<|aA v) cA E) st=.ok (.bl true):=by
 have e2:xs.map (λ_=>D.bl true)=(xs.map λ_=>true).map D.bl:=by simp
 simp[a,show xs.length<=big from fK (by lia),(ED (tg:=Pb j) (c:=cA) _ xs λd c=>⟨_,rfl,rfl,h d c⟩)]
 rw[e2];exact bAf rfl λb f=>by simp_all
def PF(n:Int):AT
 |.int i=>decide (0<=i)&&decide (i<n)
 |_=>false
def TX(i:Int):lA [.int i]=.ok (.bl true):=by
 unfold lA kK;simp[isIn,Xt]
def bAg(d:D)(b:Zn d=true):lA [d]=.ok (.bl<|isIn d && !Xt d):=by
 unfold lA kK;cases a:isIn d<;>simp[b,a]
def bAh(d:D)(n:Int)(b:Zn d=true):lB [d,.int n]=.ok (.bl<|PF n d):=by
 have a:=bAg d b;unfold lB nK;cases d<;>first|(simp[a,isIn,Xt,PF])|skip
 rename_i i
 by_cases h0:0<=i<;>simp[h0]
def ő{x:Nat}(h:x<n):lB [.int x,.int n]=.ok (.bl true):=by
 unfold lB nK;simp[(TX x),h]
theorem UX(xs:db)(m:Int):fL [.lst xs,.int m]=.ok (.bl<|decide (1<=(xs.length:Int))&&decide ((xs.length:Int)<=m)):=by
 unfold fL wN
 by_cases h:1<=xs.length
 .have h':(1:Int)<=xs.length:=by lia
  simp[Bw,h,h']
 have h':¬ (1:Int)<=xs.length:=by lia
 simp[Bw,h']
def bG(r:ac):(ja r).length=r.length:=by unfold ja;simp
def iR(S:am):(cc S).length=S.length:=by unfold cc;simp
def lE{r:ac} (h:d∈ja r):∃x∈r,d=.int (x:Nat):=by
 obtain⟨x,b,a⟩:=gf.mp h;exact⟨x,b,a.symm⟩
def xE{S:am} (h:d∈cc S):∃r∈S,d=.lst (ja r):=by
 obtain⟨x,b,a⟩:=gf.mp h;exact⟨x,b,a.symm⟩
theorem bJp(r:ac)(n:Nat)(h:∀x∈r,x<n)(e:r.length<=1000):LD [.lst<|ja r,.int r.length,.int n]=.ok (.bl true):=by
 refine bT rfl ?_
 have c:e2 Me (e1 kI<|aA 0) (aA 1) [D.lst<|ja r,r.length,n,none]=.ok (.bl true):=by simp[bG]
 show cG _ [some _,some _,some _,none]=_;rw[uy,N2,c,(OD rfl (by rw[bG];lia) (λd b=>by
  obtain⟨x,a,rfl⟩:=lE b;simp[UW,ő<|h x a]))]
 rfl
def mD(S:am)(rk:ac)(c:Nat):D:=.ins "Machine" ["steps","ranks","many","letters"] [.lst<|cc S,.lst<|ja rk,.int S.length,.int c]
section
variable {c:Nat}
def Rc.WT(M:Rc S rk c):∃r T,S=r::T/\r.length=c:=by
 cases S with
 |nil=>exact absurd M.one (by simp)
 |cons r T=>exact⟨r,T,rfl,(M.row r Zb).1⟩
def Rc.J5(M:Rc S rk c):∃r,r∈S/\Ye (cc S) 0=some (.lst<|ja r)/\r.length=c:=by
 obtain⟨r,T,rfl,h⟩:=M.WT;refine⟨r,Zb,?_,h⟩;simpa [cc] using (Dc (xs:=cc<|r::T) (i:=0)<|by simp[cc])
theorem bAi(M:Rc S rk c):uZ [.lst<|cc S]=.ok (.bl true):=by
 obtain⟨e,l,j,g⟩:=M.J5;have n:=M.one;have m:=M.most;have f1:=UX (cc S) 8;rw[iR]at f1;have k:fL [.lst<|cc S,.int 8]=.ok (.bl true):=by rw[f1];congr 2;simp;lia
 refine bT rfl<|bA (by simp[k])<|bA ?_ ?_
 .rw[bJj,bEb,(OD rfl (by rw[iR];lia) (λd b=>by
  obtain⟨r,a,rfl⟩:=xE b;have f:=UX (ja r) 3;rw[bG,(M.row r a).1]at f;have h:=M.c3;have h0:=M.c1;simp[NV,f];lia))];rfl
 rw[uy,(OD rfl (by rw[iR];lia) (λd b=>by
  obtain⟨r,a,rfl⟩:=xE b;have h:=M.c3;have i:(ja e).length=r.length:=by rw[bG,g,(M.row r a).1]
  simp[OV,j,i,iR,(bJp r S.length (M.row r a).2<|by rw[(M.row r a).1];lia)]))];rfl
theorem bAj(M:Rc S rk c):vA [.lst<|ja rk,.int S.length]=.ok (.bl true):=by
 have e:=M.most;have f:=OD (E:=vV) (st:=[some _,S.length,none]) (j:=2) (v:=0) rfl (by rw[bG,M.rm];lia) (λd a=>by
  obtain⟨x,b,rfl⟩:=lE a;simp[vV,TX])
 refine bT rfl<|bA (by simp[Bw,bG,M.rm]) ?_
 simp_all
def EL:cN "Machine" "many" (mD S rk c)=.ok (.int S.length):=by unfold mD;rw[kZ,aD rfl];rfl
def nQ:cN "Machine" "letters" (mD S rk c)=.ok (.int c):=by unfold mD;rw[kZ,aD rfl];rfl
def qC:cN "Machine" "steps" (mD S rk c)=.ok (.lst<|cc S):=by unfold mD;rw[kZ,aD rfl];rfl
def WW(l:ac):(ja l).all atom=true:=Hz.mpr λd a=>by
 obtain⟨x,_,rfl⟩:=lE a;rfl
def bAk(S:am):(cc S).all Wy=true:=Hz.mpr λd a=>by
 obtain⟨x,_,rfl⟩:=xE a;exact WW x
theorem iy(M:Rc S rk c):aY [.lst<|cc S,.lst<|ja rk]=.ok (mD S rk c):=by
 obtain⟨g,h,f,b⟩:=M.J5;have i:=M.most;refine AL λx=>?_
 unfold wK;rw[aD<|show ([D.lst<|cc S,D.lst<|ja rk]).length=2 from rfl]
 have e:Sv (.lst<|cc S)=.ok _:=aD ⟨by rw[iR];exact fK (by lia),bAk S⟩
 have d:CN (.lst _)=.ok _:=aD<|WW rk;have a:jN [some<|.o (.i x "Machine" []) [],D.lst<|cc S,D.lst<|ja rk,none]=.ok (.nx [some<|.o (.i x "Machine" ["steps","ranks","many","letters"]) [.lst<|cc S,.lst<|ja rk,.int S.length,.int c],D.lst<|cc S,D.lst<|ja rk,none]):=by
  refine bA (by simp[(bAi M)])<|bA (by simp[iR,(bAj M)])<|aN (st':=[some<|.o (.i x "Machine" ["steps"]) [.lst<|cc S],D.lst<|cc S,D.lst<|ja rk,none]) (by simp[e])<|aN (st':=[some<|.o (.i x "Machine" ["steps","ranks"]) [.lst<|cc S,.lst<|ja rk],D.lst<|cc S,D.lst<|ja rk,none]) (by simp[d])<|aN (st':=[some<|.o (.i x "Machine" ["steps","ranks","many"]) [.lst<|cc S,.lst<|ja rk,.int S.length],D.lst<|cc S,D.lst<|ja rk,none]) (by simp[FA,atom,iR]) ?_
  simp[FA,atom,f,bG,b]
 show (jN [some _,some _,some _,none]).bind _=_;rw[a];simp[mD]
end
def VX(x:Nat)(l:ac):ja (x::l)=.int (x:Nat)::ja l:=rfl
def bAl(r:ac)(S:am):cc (r::S)=.lst (ja r)::cc S:=rfl
theorem uA:∀l:ac,dR (ja l)=true/\jR (ja l)=0/\pM (ja l) (ja l)=true
 |[]=>⟨rfl,by unfold ja;simp,by unfold ja;simp[pM]⟩
 |x::l=>by
  obtain⟨c,b,a⟩:=uA l;rw[VX];simp_all
theorem WX:∀S:am,dR (cc S)=true/\jR (cc S)<=1/\pM (cc S) (cc S)=true
 |[]=>⟨rfl,by unfold cc;simp,by unfold cc;simp⟩
 |r::S=>by
  obtain⟨f,e,d⟩:=WX S;obtain⟨c,b,a⟩:=uA r;rw[bAl];simp_all
theorem bEs(l:ac):Hi (.lst<|ja l) (.lst<|ja l)=.ok (.bl false)/\Me (.lst<|ja l) (.lst<|ja l)=.ok (.bl true):=by
 obtain⟨c,b,a⟩:=uA l;simp_all
theorem P5(S:am):Hi (.lst<|cc S) (.lst<|cc S)=.ok (.bl false)/\Me (.lst<|cc S) (.lst<|cc S)=.ok (.bl true):=by
 obtain⟨d,f,c⟩:=WX S;have e:zg (.lst<|cc S)<=2:=by unfold zg;lia
 have b:ae (.lst<|cc S) (.lst<|cc S)=true:=by exact c
 have a:=by exact d
 rw[bJl,bJk,aD ⟨by lia,a,a⟩,aD ⟨by lia,a,a⟩,b]
 exact⟨rfl,rfl⟩
structure qf(S:am)(rk:ac)(c:Nat):Prop where
 most:S.length<=64
 c1:1<=c
 c3:c<=3
 row:∀r∈S,r.length=c/\∀x∈r,x<S.length
def Rc.w{c:Nat}(M:Rc S rk c):qf S rk c:=⟨Nh M.most (by decide),M.c1,M.c3,M.row⟩
section
variable{S:am}{rk:ac}{c:Nat}
def yd(S:am)(q a:Nat):Nat:=(S.getD q []).getD a 0
theorem Ht(M:qf S rk c){q a:Nat}(b:q<S.length)(g:a<c):∃r,Ye (cc S) (q:Int)=some (.lst<|ja r)/\Ye (ja r) (a:Int)=some (.int<|yd S q a)/\yd S q a<S.length:=by
 have d:=M.row S[q] (gj b);have f:a<S[q].length:=by rwa [d.1]
 have e:yd S q a=S[q][a]:=by
  simp[yd,List.getElem?_eq_getElem b,List.getElem?_eq_getElem f]
 refine⟨S[q],?_,?_,?_⟩
 .rw[Dc (by rwa [iR])];simp[cc]
 .rw[Dc (by rwa [bG]),e];simp[ja]
 simp_all
theorem IZ{m:Nat}(h:m<=3){ch:Nat}(b:97<=ch)(a:(ch:Int)<97+m):nO [97,98,99] [ch] 0=some (ch-97):=by
 have:ch=97\/ch=98\/ch=99:=by lia
 rcases this with rfl|rfl|rfl<;>rfl
theorem AE(M:qf S rk c){q ch:Nat}(a:q<S.length)(d:97<=ch)(b:(ch:Int)<97+c):∃r,Ye (cc S) (q:Int)=some (.lst<|ja r)/\Ye (ja r) (((ch-97:Nat)):Int)=some (.int<|yd S q<|ch-97)/\yd S q (ch-97)<S.length:=Ht M a (by lia)
def runs(S:am):Nat->List Nat->List Nat
 |_,[]=>[]
 |q,ch::x=>yd S q (ch-97)::runs S (yd S q<|ch-97) x
def qw(S:am):Nat->List Nat->Nat
 |q,[]=>q
 |q,ch::x=>qw S (yd S q<|ch-97) x
end
theorem mO:∀(n:Nat)(l:ac),l.Nodup->(∀x∈l,x<n)->l.length<=n
 |0,l,_,h=>by
  cases l with
  |nil=>exact Ec _
  |cons x l=>exact absurd (h x Zb) (by lia)
 |n+1,l,a,h=>by
  have b:=mO n _ (a.erase n) λx c=>by
   grind
  grind
theorem u3(g:Nat)(l:ac):inD (.int g) (ja l)=decide (g∈l):=by
 unfold inD ja;rw[ax]
 by_cases h:g∈l
 .rw[fh h,Iz];exact⟨g,h,by simp⟩
 rw[bf h,CQ];intro x a;have:¬ (x:Int)=g:=λz=>h (by grind)
 simp[ae,this]
def Vv{q:Nat}(a:q<S.length):Ye (cc S) (q:Int)=some (.lst<|ja S[q]):=by
 rw[Dc (by rwa [iR])]
 unfold cc;rw[LH]
section
variable {c:Nat}
def FL{st:za}(d:f st=.ok (mD S rk c))(a:r st=.ok xs)(b:m∉["steps","ranks","many","letters"]):rT "Machine" m p dv f r st=p (mD S rk c::(xs++dv)):=by
 rw[bA0,d,a];exact aD ⟨rfl,b⟩
theorem YW(M:Rc S rk c)(a t:im)(g:a=some (.v<|mD S rk c)):∀(x:ac)(q:Nat)(b:ac)(l:im),q<S.length->Ke c x->b.length+x.length<=1000000->∃d,Uc (Pb 4) iW (x.map λch=>D.str [ch]) [a,q,t,some<|.o .l<|ja b,l] =
  .ok (.nx [a,qw S q x,t,some<|.o .l<|ja<|b++runs S q x,d])
 |[],q,b,l,_,_,_=>⟨l,by simp[qw,runs]⟩
 |ch::x,q,b,l,h,f,hl=>by
  rw[fg]at hl;obtain⟨j,i⟩:=f ch Zb;obtain⟨r,e1,e2,m⟩:=AE M.w h j i;obtain⟨d,e⟩:=YW M a t g x _ (b++[yd S q<|ch-97]) (D.str [ch]) m (λz k=>f z<|Lc _ k) (by rw[Pg,vn];lia)
  refine⟨d,?_⟩;have n:ja (b++[yd S q<|ch-97])=ja b++[D.int<|yd S q<|ch-97]:=by unfold ja;simp
  rw[n]at e;rw[Wf,RK,show runs S q (ch::x)=yd S q _::runs S _ x from rfl,show b++yd S q (ch-97)::runs S _ x=b++[yd S q<|ch-97]++runs S (yd S q<|ch-97) x by simp,show qw S q (ch::x)=qw S _ x from rfl,<-e]
  subst g;simp[iW,qC,e1,(IZ M.c3 j i),e2,bG,show b.length<big from Ft (by lia)]
theorem bAn(M:Rc S rk c){q:Nat}(d:q<S.length)(x:ac)(b:Ke c x)(g:x.length<=500000):cH [mD S rk c,.int q,.str x]=.ok (.lst<|ja<|q::runs S q x):=by
 obtain⟨a,e⟩:=YW M _ _ rfl x q [q] none d b (by simp;lia)
 refine bT rfl ?_
 have f:fY [mD S rk c,q,D.str x,none,none]=.ok (.nx [mD S rk c,qw S q x,D.str x,some<|.o .l<|ja<|[q]++runs S q x,a]):=by
  refine aN (st':=[mD S rk c,q,D.str x,some<|.o .l<|ja [q],none]) (by simp[ja])<|aN (by
   simp[show x.length<=big from fK (by lia)]
   exact e) rfl
 show mq fY 3 [some _,some _,some _,none,none]=_;unfold mq;rw[f];rfl
theorem Gj{xs:List α}{a:α}(h:xs.getLast?=some a):Ye xs (-1)=some a:=by
 have h0:xs≠[]:=λz=>by rw[z]at h;cases h
 have b:=Dz.mpr h0;rw[List.getLast?_eq_getElem?]at h;unfold Ye wk
 rwa [Pa (by decide),Kb (by lia),show ((-1:Int)+xs.length).toNat=xs.length-1 by lia]
def Œ{r:ac}{a:Nat}(h:r.getLast?=some a):(ja r).getLast?=some (.int a):=by
 unfold ja;rw[List.getLast?_map,h];rfl
end
def join_one(l:ac):Cr [] (l.map λc=>[c])=l:=by
 induction l with
 |nil=>rfl
 |cons a l d=>
  cases l with
  |nil=>rfl
  |cons b l=>
   show [a]++[]++Cr [] _=_;rw[d];rfl
theorem bEt(l:ac)(h:l.length<=1000000):mw (.str []) [.lst<|l.map λc=>D.str [c]]=.ok (.str l):=by
 have e:(l.map λc=>D.str [c])=(l.map λc=>[c]).map D.str:=by simp
 have hs:((l.map λc=>[c]).map List.length).sum=l.length:=by
  rw[Gh]
  induction l with
  |nil=>rfl
  |cons a l b=>rw[Wf,List.sum_cons,b (by simp at h;lia) (by simp)];simp;lia
 show (jw _).bind _=_;rw[e,QX];simp only[bN];rw[aD (by rw[hs];simp;exact fK<|by lia),join_one]
def cy(c:ac)(i:Nat):Nat:=c.getD (i%c.length) 0
def lt(b c:ac)(i:Nat):Nat:=if i<b.length then b.getD i 0 else cy c (i-b.length)
def bN7{c:ac} (h:i<c.length):cy c i=c.getD i 0:=by unfold cy;rw[JQ h]
def Q5(c:ac)(i:Nat):cy c (i+c.length)=cy c i:=by unfold cy;rw[Nat.add_mod_right]
theorem VO{b c:ac} (h:b.length<=i):lt b c i=cy c (i-b.length):=by unfold lt;rw[Pa (by lia)]
theorem bJq{b c:ac} (h:b.length<=i):lt b c (i+c.length)=lt b c i:=by
 rw[VO h,VO (by lia),<-Q5 c (i-b.length)]
 congr 1;lia
def Di(n d:Nat):Sf n d none=d:=rfl
theorem rj(n d k:Nat):Sf n d (some (k:Int))=min k n:=by
 show (if k<0 then ((k:Int)+n).toNat else min (k:Int).toNat n)=_
 rw[Pa (by lia),Yw]
theorem R5(x:List α)(n:Nat):cut x none (some (n:Int))=x.take n:=by
 unfold cut;rw[Di,rj];grind
def GN(x:List α)(n:Nat)(h:n<=x.length):cut x (some (n:Int)) none=x.drop n:=by
 unfold cut;rw[Di,rj,Nat.min_eq_left h,LP (by simp)]
theorem DE{b t:ac}{n:Nat}(h:b.length<=n):∀k,lt b t (n+k*t.length)=lt b t n
 |0=>by simp
 |k+1=>by
  rw[succ_mul,<-RQ,<-DE h k];unfold lt;rw[Pa (by lia),Pa (by lia),show n+k*t.length+t.length-b.length=n+k*t.length-b.length+t.length by lia,Q5]
theorem HN{c:Int}{b t:ac}(g:Ke c b)(f:Ke c t)(j:1<=t.length)(n:Nat):97<=lt b t n/\(lt b t n:Int)<97+c:=by
 have a:∀(x:ac)(i:Nat),i<x.length->Ke c x->97<=x.getD i 0/\(x.getD i 0)<97+c:=λx i h d=>by
  have e:x.getD i 0=x[i]:=by simp_all
  rw[e];exact d _<|gj h
 unfold lt;split
 .exact a _ _ (by assumption) g
 exact a _ _ (mod_lt _ j) f
def fw(S:am)(f:ss)(q:Nat):ss
 |0=>q
 |n+1=>yd S (fw S f q n)<|f n-97
structure Lp(S:am)(f:ss)(q s e:Nat):Prop where
 lt:s<e
 RI:∀n,s<=n->f (n+(e-s))=f n
 eq:fw S f q s=fw S f q e
section
variable{f:ss}{s e s2 e2:Nat}
theorem Lp.step(L:Lp S f q s e):∀k,fw S f q (s+k+(e-s))=fw S f q (s+k)
 |0=>by
  have:=L.lt;rw[bx,show s+(e-s)=e by lia]
  exact L.eq.symm
 |k+1=>by
  rw[show s+(k+1)+(e-s)=(s+k+(e-s))+1 by lia]
  show yd S _ _=yd S (fw S f q<|s+k) (f (s+k)-97);rw[(L.step k),(L.RI (s+k)<|by lia)]
theorem Lp.at(L:Lp S f q s e)(n:Nat)(h:s<=n):fw S f q (n+(e-s))=fw S f q n:=by
 have:=L.step<|n-s
 rwa [show s+(n-s)=n by lia]at this
theorem Lp.mul(L:Lp S f q s e):∀(k n:Nat),s<=n->fw S f q (n+k*(e-s))=fw S f q n
 |0,n,_=>by simp
 |k+1,n,h=>by
  rw[succ_mul,<-RQ,L.at _ (by lia),L.mul k n h]
theorem Lp.into(L:Lp S f q s e)(n:Nat)(h:s<=n):∃m,s<=m/\m<e/\fw S f q n=fw S f q m:=by
 have hl:=L.lt;have b:=mod_lt (n-s) (show 0<e-s by lia)
 have:=L.mul ((n-s)/(e-s)) (s+(n-s)%(e-s)) (by lia)
 have a:=Nat.mod_add_div (n-s)<|e-s;grind
theorem Lp.sub(L:Lp S f q s e)(d:Lp S f q s2 e2)(n:Nat)(h:s<=n):∃m,s2<=m/\m<e2/\fw S f q n=fw S f q m:=by
 have hl:=L.lt;have g:s2*1<=s2*(e-s):=Nat.mul_le_mul_left _ (by lia)
 obtain⟨m,a,b,c⟩:=d.into (n+s2*(e-s)) (by lia)
 exact⟨m,a,b,by rw[<-c,L.mul s2 n h]⟩
end
def Lf(S:am)(f:ss)(q s e:Nat):ac:=(List.range' s<|e-s).map<|fw S f q
theorem wy{f:ss}{s e r:Nat}:r∈Lf S f q s e↔∃n,s<=n/\n<e/\fw S f q n=r:=by
 unfold Lf;grind
def mx(rk l:ac):Int:=Zm<|l.map λr=>((rk.getD r 0:Nat):Int)
def bEu{l:li}(h:l≠[]):Zm l∈l/\∀x∈l,x<=Zm l:=by
 cases l with
 |nil=>exact(h rfl).elim
 |cons i r=>
  obtain⟨c,b,a⟩:=DD r i;refine⟨?_,λx hx=>?_⟩
  .rcases a with a|a
   .show r.foldl _ i∈_;rw[a];exact Zb
   exact Lc _ a
  rcases qc.mp hx with rfl|hx
  .exact c
  exact b x hx
def bEv{l c:ac}(g:l≠[])(h:∀r,r∈l↔r∈c):mx rk l=mx rk c:=by
 obtain⟨a,b⟩:=bEu (l:=c.map λr=>((rk.getD r 0))) (by simpa using (λz=>by
  cases l with
  |nil=>exact g rfl
  |cons a l=>have:=(h a).mp Zb;rw[z]at this;cases this))
 refine mE ?_ λx f=>?_
 .obtain⟨r,e,d⟩:=gf.mp a;rw[mx,<-d];exact gf.mpr ⟨r,(h r).mpr e,rfl⟩
 obtain⟨r,e,d⟩:=gf.mp f;exact b x<|gf.mpr ⟨r,(h r).mp e,d⟩
def Ev(S:am)(rk:ac)(f:ss)(q:Nat)(v:Bool):Prop:=∃s e,Lp S f q s e/\v=decide (mx rk (Lf S f q s e)%2=0)
def JN{f:ss}{s e:Nat}(h:s<e):Lf S f q s e≠[]:=λz=>by
 have:fw S f q s∈Lf S f q s e:=wy.mpr ⟨s,Ec _,h,rfl⟩;rw[z]at this;cases this
def Ev.alone{f:ss} {v:Bool} (h:Ev S rk f q v) (j:Ev S rk f q v'):v=v':=by
 obtain⟨s,e,L,rfl⟩:=h;obtain⟨k,e2,g,rfl⟩:=j;rw[bEv (JN L.lt) λr=>?_]
 rw[wy,wy];constructor
 .rintro⟨n,d,i,rfl⟩;obtain⟨m,a,b,c⟩:=L.sub g n d;exact⟨m,a,b,c.symm⟩
 rintro⟨n,d,i,rfl⟩;obtain⟨m,a,b,c⟩:=g.sub L n d;exact⟨m,a,b,c.symm⟩
theorem NW:∀(n:Nat)(l:ac),l.Nodup->(∀x∈l,x<n)->l.length<=n
 |0,l,_,h=>by
  cases l with
  |nil=>simp
  |cons a l=>exact absurd (h a Zb) (by lia)
 |n+1,l,b,h=>by
  have d:=NW n _ (b.erase n) (λx c=>by
   grind)
  grind
theorem least{P:FM}:∀n,P n->∃m,m<=n/\P m/\∀k,k<m->¬ P k:=by
 intro n
 induction n using Nat.strongRecOn with
 |ind n g=>
  intro h
  by_cases f:∃k,k<n/\P k
  .obtain⟨k,e,d⟩:=f;obtain⟨m,a,b,c⟩:=g k e d;exact⟨m,by lia,b,c⟩
  exact⟨n,Ec _,h,λk e d=>f ⟨k,e,d⟩⟩
theorem OW(g:ss)(n:Nat)(h:∀i,g i<n):∃J,J<=n/\(∃i,i<J/\g i=g J)/\∀j,j<J->∀i,i<j->g i≠g j:=by
 have q:∃J,J<=n/\∃i,i<J/\g i=g J:=by
  by_cases d:∃J,J<=n/\∃i,i<J/\g i=g J
  .exact d
  have l:((List.range<|n+1).map g).Nodup:=by
   rw[List.nodup_iff_pairwise_ne,WH];refine List.Pairwise.imp_of_mem ?_ MP;intro a b r p k;exact(λi j f e z=>d ⟨j,e,i,f,z⟩) a b k (by have:=Jj.mp p;lia)
  have:=NW n _ l (λx d=>by obtain⟨i,_,rfl⟩:=gf.mp d;exact h i)
  simp at this;lia
 obtain⟨J,s,o⟩:=q;obtain⟨m,a,b,c⟩:=least (P:=λJ=>∃i,i<J/\g i=g J) J o
 exact⟨m,by lia,b,λj e i f z=>c j e ⟨i,f,z⟩⟩
theorem SK{C:Ex}{L:Bd}(st:Nat->za)(J:Nat)(c:∀j,j<J->C (st j)=.ok (.bl true)/\L (st j)=.ok (.nx<|st<|j+1))(b:C (st J)=.ok (.bl false)):∀(k a:Nat),k<=J->k<a->jL C L a (st<|J-k)=.ok (.nx<|st J)
 |0,a,_,d=>by
  obtain⟨m,rfl⟩:∃m,a=m+1:=⟨a-1,by lia⟩
  rw[qY,UQ,b];rfl
 |k+1,a,h,d=>by
  obtain⟨m,rfl⟩:∃m,a=m+1:=⟨a-1,by lia⟩
  obtain⟨f,e⟩:=c (J-(k+1)) (by lia)
  have g:=SK st J c b k m (by lia) (by lia)
  rw[qY,f];simp[e]
  rwa [show J-(k+1)+1=J-k by lia]
section
variable {c:Nat} {f:ss}
def DM{s:Nat}:Lf S f q s s=[]:=by unfold Lf;rw[Oz];rfl
theorem PD{s e:Nat}(h:s<e):Lf S f q s e=fw S f q s::Lf S f q (s+1) e:=by
 unfold Lf;rw[show e-s=(e-(s+1))+1 by lia,MH,Wf]
theorem xy{s m e:Nat}(b:s<=m)(a:m<=e):Lf S f q s m++Lf S f q m e=Lf S f q s e:=by
 unfold Lf;have:=List.range'_append_1 (s:=s) (m:=m-s) (n:=e-m);rw[show s+(m-s)=m by lia,show m-s+(e-m)=e-s by lia]at this
 rw[<-qh,this]
theorem bEw{s:Nat}:Lf S f q s (s+1)=[fw S f q s]:=by rw[PD (by lia),DM]
def vH{s e:Nat}:(Lf S f q s e).length=e-s:=by unfold Lf;simp
theorem GL{s e:Nat}(h:s<=e):Lf S f q s (e+1)=Lf S f q s e++[fw S f q e]:=by rw[<-bEw,xy h (by lia)]
def bAr{s e:Nat}(h:s<=e):(Lf S f q s<|e+1).getLast?=some (fw S f q e):=by rw[GL h,List.getLast?_append];rfl
theorem JZ:∀(x:ac)(n:Nat),(∀i,i<x.length->x.getD i 0=f (n+i))->runs S (fw S f q n) x=Lf S f q (n+1) (n+1+x.length)
 |[],n,_=>by rw[NQ,DM];rfl
 |ch::x,n,h=>by
  have h0:=by simpa using (h 0<|by simp)
  have e:yd S (fw S f q n) (ch-97)=fw S f q (n+1):=by rw[h0];rfl
  rw[fg,PD (by lia),show n+1+(x.length+1)=n+1+1+x.length by lia,<-JZ x (n+1) (λi a=>by
   rw[show n+1+i=n+(i+1) by lia,<-(h (i+1)<|by simp;lia)]
   simp),<-e]
  rfl
theorem tw(M:Rc S rk c)(a:∀n,97<=f n/\(f n:Int)<97+c)(b:q<S.length):∀n,fw S f q n<S.length
 |0=>b
 |n+1=>by
  obtain⟨_,_,_,h⟩:=AE M.w (tw M a b n) (a n).1 (a n).2;exact h
end
section
variable{K V:Nat->D}{g:ss}(hK:∀i j,Bg (K i) (K j)=decide (g i=g j))
include hK
theorem v3{m:Nat}(h:∀i,i<j->g i≠g m):mC ((List.range j).map K) (K m)=false:=by
 unfold mC;simp_all
def KZ{m:Nat}(h:i<j)(e:g i=g m):mC ((List.range j).map K) (K m)=true:=by
 unfold mC;rw[ax,Iz];exact⟨i,Jj.mpr h,by simp[hK,e]⟩
theorem LZ{m:Nat}(h:i<j)(e:g i=g m)(b:∀a,a<i->g a≠g m):pL ((List.range j).map K) ((List.range j).map V) (K m)=some (V i):=by
 unfold pL;rw[List.zip_map',List.find?_map];have:(List.range j).find? ((λp:D×D=>Bg p.1<|K m) ∘ λa=>(K a,V a))=some i:=by
  simp_all
 rw[this];rfl
end
def QD(F:Nat->D)(j:Nat):(List.range j).map F++[F j]=(List.range<|j+1).map F:=by rw[List.range_succ,qh];rfl
def wZ(a b:ac):ja a++ja b=ja (a++b):=by unfold ja;rw[qh]
def bAs(a:α)(x:List α):cut (a::x) (some 1) none=x:=by
 simpa using (GN (a::x) 1<|by simp)
theorem bEx(x y:List α)(a:α)(n:Nat)(h:x.length=n):cut (x++y++[a]) (some (n:Int)) (some<|-1)=y:=by
 subst h;have l:(x++y++[a]).length=x.length+y.length+1:=by simp;lia
 unfold cut;have e1:Sf (x++y++[a]).length 0 (some x.length)=x.length:=by
  rw[l];show (if (x.length<0) then ((x.length:Int)+((x.length+y.length+1))).toNat else min (x.length:Int).toNat _)=_;lia
 have e2:Sf (x++y++[a]).length (x++y++[a]).length (some<|-1)=x.length+y.length:=by
  rw[l];unfold Sf;simp;lia
 rw[e1,e2,Rw,List.drop_left,show x.length+y.length-x.length=y.length by lia,List.take_left]
section
variable {c:Nat}
theorem ġ(M:Rc S rk c){b t:ac}(a:Ke c b)(d:Ke c t)(f:1<=t.length)(e:t.length<=10000)(bl:b.length<=10000):dN [.tup [.str b,.str t],.int c]=.ok (.bl true):=by
 have h:=M.c1;have g:=M.c3;rw[vY _ _ c true true (by rw[AK b c (by lia) (by lia) (by lia),ND.mpr a]) (by rw[AK t c (by lia) (by lia) (by lia),ND.mpr d]) rfl (by simp)]
 have:t≠[]:=λz=>by simp_all
 simp[this]
theorem XX(M:Rc S rk c){f:ss}(d:∀n,97<=f n/\(f n:Int)<97+c)(b:q<S.length)(x:ac)(e:x.length<=10000)(a:Ke c x)(n:Nat)(h:∀i,i<x.length->x.getD i 0=f (n+i)):cH [mD S rk c,.int<|fw S f q n,.str x]=.ok (.lst<|ja<|Lf S f q n<|n+x.length+1):=by
 rw[bAn M (tw M d b n) x a (by lia),JZ x n h,PD (s:=n) (by lia),show n+x.length+1=n+1+x.length by lia]
def KN{b t:ac} (h:i<b.length):b.getD i 0=lt b t (0+i):=by unfold lt;rw[cx,Kb h]
theorem S5{b t:ac} (j:Nat) (h:i<t.length):t.getD i 0=lt b t (b.length+j*t.length+i):=by
 rw[show b.length+j*t.length+i=b.length+i+j*t.length by lia,DE (by lia),<-bN7 h]
 unfold lt;rw[Pa (by lia),show b.length+i-b.length=i by lia]
theorem œ(M:Rc S rk c)(u:q<S.length){b t:ac}(F:Ke c b)(G:Ke c t)(P:1<=t.length)(C:t.length<=10000)(bl:b.length<=10000):∃i J,i<J/\J<=S.length/\fw S (lt b t) q (b.length+i*t.length)=fw S (lt b t) q (b.length+J*t.length)/\(∀j,j<J->∀i,i<j->fw S (lt b t) q (b.length+i*t.length)≠fw S (lt b t) q (b.length+j*t.length))/\
  ∃(L r O N:db)(K:Nat),cH [mD S rk c,.int q,.str b]=.ok (.lst L)/\
   jL pY pX 100000 [mD S rk c,D.tup [.str b,.str t],q,some<|.o .l L,some<|.o (.d false []) [],none]=.ok (.nx [mD S rk c,D.tup [.str b,.str t],q,some<|.o .l r,some<|.o (.d false O) N,none])/\
   Ye r (-1)=some (.int K)/\pL O N (.int K)=some (.int ((b.length+i*t.length:Nat):Int))/\cut r none (some ((b.length+i*t.length:Nat):Int))=ja (Lf S (lt b t) q 0<|b.length+i*t.length)/\
   cut r (some ((b.length+i*t.length:Nat):Int)) (some<|-1)=ja (Lf S (lt b t) q (b.length+i*t.length)<|b.length+J*t.length):=by
 have z:=HN F G P;have h8:=M.most;generalize I:(λi=>fw S (lt b t) q<|b.length+i*t.length)=g
 obtain⟨J,X,⟨i,h,e⟩,w⟩:=OW g S.length (λi=>by rw[<-I];exact tw M z u _)
 have o:∀i,fw S (lt b t) q (b.length+i*t.length)=g i:=λi=>by rw[<-I]
 refine⟨i,J,h,X,by rw[o,o,e],λj y i h=>by rw[o,o];exact w j y i h,?_⟩
 have A:∀i j,Bg (.int<|g i) (.int<|g j)=decide (g i=g j):=λi j=>by
  rw[su];unfold Bg;simp;lia
 have Y:J*t.length<=8*10000:=Lz (by lia) C
 obtain⟨ks,m⟩:∃ks:Nat->List D,∀j,ks j=(List.range j).map λi=>D.int (g i):=⟨_,λ_=>rfl⟩
 obtain⟨vs,p⟩:∃vs:Nat->List D,∀j,vs j=(List.range j).map λi=>D.int ((b.length+i*t.length:Nat):Int):=⟨_,λ_=>rfl⟩
 have GI:∀j,(vs j).length=j:=λj=>by rw[p];simp
 obtain⟨f,k⟩:∃f:Nat->List D,∀j,f j=ja (Lf S (lt b t) q 0<|b.length+j*t.length+1):=⟨_,λ_=>rfl⟩
 have E:∀j,((f j).length:Int)-1=((b.length+j*t.length:Nat):Int):=λj=>by rw[k,bG,vH];lia
 have d:∀j,Ye (f j) (-1)=some (.int<|g j):=λj=>by
  rw[<-o,k];exact Gj<|Œ<|bAr<|by lia
 have Dx:∀j,j<J->pY [mD S rk c,D.tup [.str b,.str t],q,some<|.o .l<|f j,some<|.o (.d false<|ks j)<|vs j,none]=.ok (.bl true)/\pX [mD S rk c,D.tup [.str b,.str t],q,some<|.o .l<|f j,some<|.o (.d false<|ks j)<|vs j,none]=.ok (.nx [mD S rk c,D.tup [.str b,.str t],q,some<|.o .l<|f<|j+1,some<|.o (.d false<|ks<|j+1)<|vs<|j+1,none]):=λj y=>by
  have l:=v3 A<|λi h=>w j y i h
  have U:j*t.length<=8*10000:=Nh (VP _<|by lia) Y
  rw[<-m]at l;have hl:e2 jb (dF 3) (e1 zp<|eI 1) [mD S rk c,D.tup [.str b,.str t],q,some<|.o .l<|f j,some<|.o (.d false<|ks j)<|vs j,none]=.ok (.int<|g j):=aJ rfl rfl<|gU<|d j;refine⟨aJ hl rfl (by
   show aP (Nc false (.int<|g j)=true) (R.ok<|D.bl<|!mC (ks j) (.int<|g j))=_;rw[aD (c:=Nc false (.int<|g j)=true) rfl,l];rfl),?_⟩
  have Ju:=XX M z u t C G (b.length+j*t.length)<|λi h=>S5 j h
  rw[o]at Ju;have p1:qW (ks j) (.int<|g j)=ks (j+1):=by
   unfold qW;rw[Pa (by rw[l];decide),m,m]
   exact QD (λi=>D.int<|g i) j
  have p2:qX (ks j) (vs j) (.int<|g j) (.int ((b.length+j*t.length:Nat):Int))=vs (j+1):=by
   unfold qX;rw[Pa (by rw[l];decide),p,p]
   exact QD (λi=>D.int ((b.length+i*t.length:Nat):Int)) j
  refine aN (st':=[mD S rk c,D.tup [.str b,.str t],q,some<|.o .l<|f j,some<|.o (.d false<|ks<|j+1)<|vs<|j+1,none]) ?_ ?_
  .have hs:e2 Wt (e1 kI<|dF 3) (eI 1) [mD S rk c,D.tup [.str b,.str t],q,some<|.o .l<|f j,some<|.o (.d false<|ks j)<|vs j,none]=.ok (.int ((b.length+j*t.length:Nat):Int)):=by
    rw[<-E j];exact aJ rfl rfl rfl
   unfold Qd;rw[hs,bN,hl,bN,<-p1,<-p2];exact aD ⟨rfl,Ft<|by rw[GI];lia⟩
  have T:rT "Machine" "rooms_along" cH [] (aA 0) (aC (e2 jb (dF 3)<|e1 zp<|eI 1)<|aC (e2 jb (aA 1)<|eI 1) aK) [mD S rk c,D.tup [.str b,.str t],q,some<|.o .l<|f j,some<|.o (.d false<|ks<|j+1)<|vs<|j+1,none]=.ok (.lst<|ja<|Lf S (lt b t) q (b.length+j*t.length)<|b.length+j*t.length+t.length+1):=by
   rwa [FL rfl (aO (aJ rfl rfl<|gU<|d j)<|aO (aJ rfl rfl rfl) rfl) (by decide)]
  have V:cut (ja<|Lf S (lt b t) q (b.length+j*t.length)<|b.length+j*t.length+t.length+1) (some 1) none=ja (Lf S (lt b t) q (b.length+j*t.length+1)<|b.length+j*t.length+t.length+1):=by
   rw[PD (by lia)];exact bAs _ _
  have Z:f (j+1)=f j++ja (Lf S (lt b t) q (b.length+j*t.length+1)<|b.length+j*t.length+t.length+1):=by
   rw[k,k,wZ,xy (by lia) (by lia),show b.length+(j+1)*t.length+1=b.length+j*t.length+t.length+1 by rw[succ_mul];lia]
  rw[Z];refine FN ?_ rfl<|fK (by
   have:=E j;rw[bG,vH];lia)
  rw[bJh,T,<-V];rfl
 have l:=KZ A h e;rw[<-m]at l;have B:=LZ (V:=λi=>D.int ((b.length+i*t.length:Nat):Int)) A h e (λa W=>by rw[<-e];exact w i h a W)
 rw[<-m,<-p]at B;have Ki:i*t.length<=J*t.length:=VP _ (by lia)
 obtain⟨n,v⟩:∃n,n=b.length+i*t.length:=⟨_,rfl⟩;rw[<-v]at B ⊢;have H:=SK (λj=>[mD S rk c,D.tup [.str b,.str t],q,some<|.o .l<|f j,some<|.o (.d false<|ks j)<|vs j,none]) J Dx (by
  refine aJ (aJ rfl rfl<|gU<|d J) rfl ?_
  show aP (Nc false (.int<|g J)=true) (R.ok<|D.bl<|!mC (ks J) (.int<|g J))=_;rw[aD (c:=Nc false (.int<|g J)=true) rfl,l];rfl) J 100000 (Ec _) (by lia)
 rw[Oz]at H;have h0:=XX M z u b bl F 0<|λi h=>KN h
 rw[cx]at h0;have Q:f 0=ja (Lf S (lt b t) q 0<|b.length+1):=by rw[k,Nat.zero_mul,bx]
 rw[<-Q]at h0;have x:ks 0=[]:=by rw[m];rfl
 have s:vs 0=[]:=by rw[p];rfl
 refine⟨f 0,f J,ks J,vs J,g J,h0,?_,d J,B,(by
  rw[R5,k,<-xy (m:=n) (by lia) (by lia),<-wZ,List.take_left' (by rw[bG,vH];lia)]),(by
  rw[k,GL (by lia),<-xy (m:=n) (by lia) (by lia),<-wZ,<-wZ]
  exact bEx _ _ _ _<|by rw[bG,vH];lia)⟩
 rwa [x,s]at H
end
section
variable{S:am}{rk:ac}{c:Nat}{q:Nat}
def Ŕ:cN "Machine" "ranks" (mD S rk c)=.ok (.lst<|ja rk):=by unfold mD;rw[kZ,aD rfl];rfl
def b7{r:Nat}(h:r<rk.length):Ye (ja rk) (r:Int)=some (.int<|rk.getD r 0):=by
 rw[Dc (by rwa [bG])]
 simp[ja,List.getElem?_eq_getElem h]
def zC(rk:ac):D->D
 |.int i=>.int<|rk.getD i.toNat 0
 |d=>d
def bJr(l:ac):(ja l).map (zC rk)=(l.map λr=>((rk.getD r 0:Nat):Int)).map D.int:=by
 unfold ja;simp[zC]
def T5{l:ac}(h:l≠[]):Br (.lst<|(ja l).map<|zC rk)=.ok (.int<|mx rk l):=by
 rw[bJr];unfold Br;simp only[CD,bN];rw[aD (by rw[Yc];exact Dz.mpr h)]
 rfl
theorem bEy{b t:ac}{J:Nat}(a:1<=t.length)(d:i<J)(e:fw S (lt b t) q (b.length+i*t.length)=fw S (lt b t) q (b.length+J*t.length)):Lp S (lt b t) q (b.length+i*t.length) (b.length+J*t.length):=by
 have g:i*t.length+(J-i)*t.length=J*t.length:=by rw[<-Nat.add_mul];congr 1;lia
 have f:1*1<=(J-i)*t.length:=Lz (by lia) a
 refine⟨by lia,λn c=>?_,e⟩
 rw[show b.length+J*t.length-(b.length+i*t.length)=(J-i)*t.length by lia]
 exact DE (by lia) _
end
def Ck(u v:ac):Prop:=u.length<v.length\/(u.length=v.length/\u<v)
theorem U5:∀{u v:ac}(a b:Nat),u.length=v.length->u<v->u++[a] < v++[b]
 |[],[],_,_,_,h=>absurd h<|TH _
 |[],_::_,_,_,h,_=>by simp at h
 |_::_,[],_,_,h,_=>by simp at h
 |x::u,y::v,a,b,h,e=>by
  rw[Qz,Qz,AH];rcases AH.mp e with c|⟨c,d⟩
  .exact .inl c
  exact .inr ⟨c,U5 a b (by simpa using h) d⟩
theorem A3:∀(u:ac){a b:Nat},a<b->u++[a] < u++[b]
 |[],a,b,h=>by
  show [a] < [b];rw[AH];exact .inl h
 |x::u,a,b,h=>by
  rw[Qz,Qz,AH];exact .inr ⟨rfl,A3 u h⟩
theorem EE{v:ac}(a b:Nat)(h:Ck u v):Ck (u++[a]) (v++[b]):=by
 rcases h with h|⟨d,c⟩
 .exact .inl (by simp_all)
 exact .inr ⟨by simp_all,U5 a b d c⟩
def MZ(u:ac){a b:Nat}(h:a<b):Ck (u++[a]) (u++[b]):=.inr ⟨by simp,A3 u h⟩
def bEz(u:ac)(a:Nat):Ck [] (u++[a]):=.inl (by simp)
def yD(h:Ck u u):False:=h.elim (Oi _) λh=>TH _ h.2
theorem ur{v w:ac}(b:Ck u v)(a:Ck v w):Ck u w:=by
 rcases b with b|⟨b,d⟩ <;> rcases a with a|⟨a,c⟩
 .exact .inl (by lia)
 .exact .inl (by lia)
 .exact .inl (by lia)
 exact .inr ⟨by lia,SQ d c⟩
def sle(u v:ac):Prop:=u=v\/Ck u v
def bJs{v w:ac}(b:sle u v)(a:sle v w):sle u w:=by
 rcases b with rfl|b
 .exact a
 rcases a with rfl|a
 .exact .inr b
 exact .inr<|ur b a
def C3{v:ac}(a:Nat)(h:sle u v):sle (u++[a]) (v++[a]):=h.imp (λe=>by rw[e])<|EE a a
def LN{v w:ac}(a:sle u v)(b:Ck v w):Ck u w:=by
 rcases a with rfl|a
 .exact b
 exact ur a b
theorem ZE(u v:ac):sle u v\/Ck v u:=by
 rcases Jp u.length v.length with h|h|h
 .exact .inl (.inr<|.inl h)
 .by_cases e:u=v
  .exact .inl (.inl e)
  by_cases l:u<v
  .exact .inl (.inr<|.inr ⟨h,l⟩)
  by_cases a:v<u
  .exact .inr (.inr ⟨h.symm,a⟩)
  grind
 exact .inr<|.inl h
section
variable{α:Type}[DecidableEq α]{δ:α->Nat->α}{s:α}{c p j:Nat}{P:α->Prop}{qa:List (α×List Nat)}
def Fg(b:α->Nat->α):α->ac->α
 |a,[]=>a
 |a,ch::w=>Fg b (b a<|ch-97) w
theorem Iv:∀(x y:ac)(a:α),Fg δ a (x++y)=Fg δ (Fg δ a x) y
 |[],_,_=>rfl
 |_::x,y,a=>Iv x y _
def Jv(x:ac)(a:α)(k:Nat):Fg δ a (x++[97+k])=δ (Fg δ a x) k:=by
 rw[Iv];show δ _ _=_;rw[Ow]
def Fq(a:List (α×List Nat))(g:α)(w:ac):List (α×List Nat):=if g∈a.map (·.1) then a else a++[(g,w)]
structure BG(δ:α->Nat->α)(s:α)(c:Nat)(P:α->Prop)(p j:Nat)(qa:List (α×List Nat)):Prop where
 nd:(qa.map (·.1)).Nodup
 hd:qa[0]?=some (s,[])
 lt:∀x∈qa,P x.1/\Fg δ s x.2=x.1/\Ke c x.2
 Zp:∀(k:Nat)(x:α×List Nat),qa[k]?=some x->1<=k->∃q y ch,qa[q]?=some y/\x.2=y.2++[ch]/\(q<p\/(q=p/\ch<97+j))
 ord:∀(i k:Nat)(x y:α×List Nat),qa[i]?=some x->qa[k]?=some y->i<k->Ck x.2 y.2
 cls:∀(i:Nat)(x:α×List Nat)(l:Nat),qa[i]?=some x->l<c->(i<p\/(i=p/\l<j))->∃y∈qa,y.1=δ x.1 l/\sle y.2 (x.2++[97+l])
theorem BG.start(b:P s):BG δ s c P 0 0 [(s,[])] where
 nd:=by simp
 hd:=rfl
 lt:=λx a=>by rw[Ce.mp a];exact⟨b,rfl,λ_ h=>nomatch h⟩
 Zp:=λk x e h=>by
  have:k<1:=(xg.mp e).1;lia
 ord:=λi k x y e1 e2 h=>by
  have:k<1:=(xg.mp e2).1;lia
 cls:=λi x l _ _ h=>by lia
theorem BG.next(b:BG δ s c P p c qa):BG δ s c P (p+1) 0 qa where
 nd:=b.nd
 hd:=b.hd
 lt:=b.lt
 Zp:=λk x e h=>by
  obtain⟨q,y,ch,d,a,f⟩:=b.Zp k x e h;exact⟨q,y,ch,d,a,.inl<|by lia⟩
 ord:=b.ord
 cls:=λi x l e hl h=>b.cls i x l e hl (by lia)
theorem BG.below(b:BG δ s c P p j qa){x y:α×List Nat}{k:Nat}(f:qa[p]?=some x)(d:qa[k]?=some y):Ck y.2 (x.2++[97+j]):=by
 by_cases g:k=0
 .subst g;rw[b.hd]at d;cases d;exact bEz _ _
 obtain⟨q,z,ch,e,h,a⟩:=b.Zp k y d (by lia)
 rw[h];rcases a with a|⟨rfl,a⟩
 .exact EE _ _ (b.ord q p z x e f a)
 rw[f]at e;cases e;exact MZ _ a
def MN{g:α}{w:ac}{k:Nat}{x:α×List Nat}(h:qa[k]?=some x):(Fq qa g w)[k]?=some x:=by
 unfold Fq;split
 .exact h
 rwa [zq (xg.mp h).1]
theorem BG.turn(E:∀a k,P a->k<c->P (δ a k))(b:BG δ s c P p j qa){x:α×List Nat}(g:qa[p]?=some x)(D:j<c):BG δ s c P p (j+1) (Fq qa (δ x.1 j)<|x.2++[97+j]):=by
 obtain⟨x1,C,B⟩:=b.lt x<|Bm g;unfold Fq
 by_cases r:δ x.1 j∈qa.map (·.1)
 .rw[Kb r];refine⟨b.nd,b.hd,b.lt,λk y e h=>?_,b.ord,λi y l e hl h=>?_⟩
  .obtain⟨q,z,ch,o,n,v⟩:=b.Zp k y e h;exact⟨q,z,ch,o,n,v.imp id λh=>⟨h.1,by lia⟩⟩
  by_cases m:i=p/\l=j
  .obtain⟨rfl,rfl⟩:=m;rw[g]at e;cases e;obtain⟨y,d,F⟩:=gf.mp r;obtain⟨k,u⟩:=mn.mp d;exact⟨y,d,F,.inr<|b.below g u⟩
  exact b.cls i y l e hl (by lia)
 rw[Pa r];have f:∀{k:Nat}{y:α×List Nat},qa[k]?=some y->(qa++[(δ x.1 j,x.2++[97+j])])[k]?=some y:=λ{k y} e=>by
  rwa [zq (xg.mp e).1]
 have inv:∀{k:Nat}{y:α×List Nat},(qa++[(δ x.1 j,x.2++[97+j])])[k]?=some y->qa[k]?=some y\/(k=qa.length/\y=(δ x.1 j,x.2++[97+j])):=λ{k y} e=>by
  by_cases u:k<qa.length
  .rw[zq u]at e;exact .inl e
  have t:=(xg.mp e).1;rw[Pg,vn]at t;have:k=qa.length:=by lia
  subst this;simp at e;exact .inr ⟨rfl,e.symm⟩
 have A:∀{k:Nat}{y:α×List Nat},qa[k]?=some y->k<qa.length:=λe=>(xg.mp e).1
 refine⟨?_,f b.hd,λy d=>?_,λk y e h=>?_,λi k y z e1 e2 h=>?_,λi y l e hl h=>?_⟩
 .rw[qh,Rr];refine⟨b.nd,by simp,λa G H hb=>?_⟩
  rw[List.map_singleton,Ce]at hb;rw[hb];exact λz=>r (by rwa [<-show a=δ x.1 j from z])
 .rcases Wh.mp d with d|d
  .exact b.lt y d
  rw[Ce.mp d];refine⟨E _ _ x1 D,by rw[Jv,C],λch Ul=>?_⟩
  rcases Wh.mp Ul with h|h
  .exact B ch h
  rw[Ce.mp h];constructor<;>lia
 .rcases inv e with e|⟨rfl,rfl⟩
  .obtain⟨q,z,ch,o,n,v⟩:=b.Zp k y e h;exact⟨q,z,ch,f o,n,v.imp id λh=>⟨h.1,by lia⟩⟩
  exact⟨p,x,97+j,f g,rfl,.inr ⟨rfl,by lia⟩⟩
 .rcases inv e2 with e2|⟨rfl,rfl⟩
  .rcases inv e1 with e1|⟨rfl,_⟩
   .exact b.ord i k y z e1 e2 h
   have:=A e2;lia
  rcases inv e1 with e1|⟨rfl,_⟩
  .exact b.below g e1
  lia
 rcases inv e with w|⟨rfl,rfl⟩
 .by_cases m:i=p/\l=j
  .obtain⟨rfl,rfl⟩:=m;rw[g]at w;cases w;exact⟨_,oh _<|Ce.mpr rfl,rfl,.inl rfl⟩
  obtain⟨z,o,n⟩:=b.cls i y l w hl (by lia)
  exact⟨z,Kl _ o,n⟩
 have:=A g;lia
theorem EM{v:ac}(h:v≠[])(a:Ke c v):∃u k,v=u++[97+k]/\k<c/\Ke c u:=by
 obtain⟨u,ch,rfl⟩:∃u ch,v=u++[ch]:=⟨v.dropLast,v.getLast h,(List.dropLast_concat_getLast h).symm⟩;have d:=a ch (by simp)
 refine⟨u,ch-97,by grind,by omega,λx b=>a x<|Kl _ b⟩
theorem BG.wl(b:BG δ s c P p j qa):∀(n k:Nat)(x:α×List Nat),k<=n->qa[k]?=some x->x.2.length<=k
 |0,k,x,f,e=>by
  obtain rfl:k=0:=by lia
  rw[b.hd]at e;cases e;exact Ec _
 |n+1,k,x,f,e=>by
  by_cases h0:k=0
  .subst h0;exact BG.wl b n 0 x (rh _) e
  obtain⟨q,y,ch,d,a,_⟩:=b.Zp k x e (by lia)
  have g:q<k:=by
   rcases Jp q k with z|z|z
   .exact z
   .subst z;rw[d]at e;cases e;have:=congrArg List.length a;simp at this
   exact(yD<|ur (b.ord k q x y e d z)<|by rw[a];exact .inl<|by simp).elim
  have:=BG.wl b n q y (by lia) d
  rw[a,Pg,vn];lia
theorem BG.least(b:BG δ s c P p j qa)(ok:List Nat->Prop)(e:∀v k,ok (v++[97+k])->ok v/\∀(i:Nat) y,qa[i]?=some y->sle y.2 v->i<p):∀(n:Nat)(v:ac),v.length=n->Ke c v->ok v->∃y∈qa,y.1=Fg δ s v/\sle y.2 v
 |0,v,a,_,_=>by
  rw[Nw.mp a];exact⟨_,Bm b.hd,rfl,.inl rfl⟩
 |n+1,v,a,m,q=>by
  obtain⟨u,k,rfl,r,o⟩:=EM (λz=>by simp_all) m
  obtain⟨g,f⟩:=e u k q;obtain⟨y,l,e1,e2⟩:=BG.least b ok e n u (by simpa using a) o g
  obtain⟨i,d⟩:=mn.mp l;obtain⟨z,h,f1,t⟩:=b.cls i y k d r<|.inl<|f i y d e2;exact⟨z,h,by rw[f1,e1,Jv],bJs t<|C3 _ e2⟩
def BG.whole(b:BG δ s c P qa.length 0 qa){v:ac}(a:Ke c v):∃y∈qa,y.1=Fg δ s v/\sle y.2 v:=
 b.least _ (λ_ _ _=>⟨trivial,λ_ _ e _=>(xg.mp e).1⟩) _ v rfl a trivial
theorem BG.hit(b:BG δ s c P p j qa){x:α×List Nat}(a:qa[p]?=some x){hit:α->Prop}(l:∀(i:Nat) y k,qa[i]?=some y->k<c->(i<p\/(i=p/\k<j))->¬ hit (δ y.1 k)){u:ac}(o:u≠[])(r:Ke c u)(f:hit (Fg δ s u)):sle (x.2++[97+j]) u:=by
 rcases ZE (x.2++[97+j]) u with h|h
 .exact h
 obtain⟨v,k,rfl,t,n⟩:=EM o r;have g:∀{w:ac},Ck (w++[97+k]) (x.2++[97+j])->sle w x.2:=λ{w} h=>by
  rcases ZE w x.2 with z|z
  .exact z
  exact(yD<|ur h<|EE _ _ z).elim
 obtain⟨y,m,e1,e2⟩:=b.least (λv=>sle v x.2) (λv k h=>by
  have e:Ck v x.2:=by
   rcases h with h|h
   .rw[<-h];exact .inl (by simp)
   exact ur (.inl<|by simp) h
  refine⟨.inr e,λi y hi hs=>?_⟩
  rcases Jp i p with z|z|z
  .exact z
  .subst z;rw[a]at hi;cases hi;exact(yD<|LN hs e).elim
  exact(yD<|ur (b.ord p i x y a hi z)<|LN hs e).elim) _ v rfl n (g h)
 obtain⟨i,hi⟩:=mn.mp m;have d:=LN (C3 _ e2) h;rw[Jv,<-e1]at f;refine absurd f<|l i y k hi t ?_;rcases Jp i p with z|z|z
 .exact .inl z
 .subst z;rw[a]at hi;cases hi;refine .inr ⟨rfl,?_⟩;rcases Jp k j with q|q|q
  .exact q
  .subst q;exact(yD d).elim
  exact(yD<|ur d<|MZ _<|by lia).elim
 exact(yD<|ur d<|EE _ _<|b.ord p i x y a hi z).elim
def BG.VB(b:BG δ s c P qa.length 0 qa){hit:α->Prop}(d:∀(i:Nat) y k,qa[i]?=some y->k<c->¬ hit (δ y.1 k)) (g:u≠[]) (h:Ke c u):¬ hit (Fg δ s u):=λa=>by
 obtain⟨v,k,rfl,j,f⟩:=EM g h;obtain⟨y,e,e1,_⟩:=b.whole f;obtain⟨i,l⟩:=mn.mp e;rw[Jv,<-e1]at a;exact d i y k l j a
end
section
variable{α:Type}[DecidableEq α](e:α->D)(he:∀a b,Bg (e a) (e b)=decide (a=b))
include he
theorem e8(g:α):∀(l:List α),mC (l.map e) (e g)=decide (g∈l):=λl=>by
 unfold mC;rw[ax];grind
def bJt{g:α}{l:List α}(h:g∈l):mC (l.map e) (e g)=true:=(e8 e he g l).trans<|fh h
def bJu{g:α}{l:List α}(h:g∉l):mC (l.map e) (e g)=false:=(e8 e he g l).trans<|bf h
theorem HG{x:α×List Nat}:∀{a:List (α×List Nat)},(a.map (·.1)).Nodup->x∈a->pL (a.map λy=>e y.1) (a.map λy=>D.str y.2) (e x.1)=some (.str x.2)
 |[],_,h=>nomatch h
 |y::a,b,h=>by
  unfold pL;rw[Wf,Wf,wu,find?_cons,he];rw[Wf,xn]at b;rcases qc.mp h with rfl|h
  .simp
  rw[bf λz:y.1=x.1=>b.1 (by rw[z];exact gf.mpr ⟨x,h,rfl⟩)]
  exact HG b.2 h
end
def XB(l:ac):ss:=λb=>l.foldl (λb r=>b|||2^r) b
theorem E3(r:Nat):∀(l:ac)(b:Nat),(XB l b).testBit r=(b.testBit r||decide (r∈l))
 |[],b=>by simp[XB]
 |x::l,b=>by
  show (XB l _).testBit r=_;rw[E3 r l];grind
def Dp(l:ac):Nat:=XB l 0
def uB(l:ac)(r:Nat):(Dp l).testBit r=decide (r∈l):=by
 unfold Dp;rw[E3,KQ,TQ]
def cW(n:Nat):ac:=(List.range<|zY n).filter λr=>n.testBit r
def bAw{r:Nat}(h:zY n<=r):n.testBit r=false:=by
 unfold zY at h
 by_cases h0:(n:Int)=0
 .simp_all
 rw[Pa h0]at h;exact S8<|ph ((Nat.log2_lt<|λz=>h0<|by rw[z];rfl).mp<|Np _)<|i9 (by decide)<|by simpa using h
def cO{r:Nat}:r∈cW n↔n.testBit r=true:=by
 unfold cW;rw[Nk,Jj];refine⟨λh=>h.2,λh=>⟨?_,h⟩⟩
 rcases Nat.lt_or_ge r _ with a|a
 .exact a
 rw[bAw a]at h;cases h
def YX(n:Nat):Dp (cW n)=n:=ZP λr=>by
 rw[uB];cases h:n.testBit r with
 |true=>exact fh<|cO.mpr h
 |false=>exact bf λz=>by rw[cO.mp z]at h;cases h
def ZX{l:ac}{r:Nat}:r∈cW (Dp l)↔r∈l:=by
 rw[cO,uB,Ni]
def fO{k r:Nat}(h:n<2^k)(a:r∈cW n):r<k:=by
 rw[cO]at a;rcases Nat.lt_or_ge r k with b|b
 .exact b
 rw[S8<|ph h<|i9 (by decide) b]at a
 cases a
theorem bAx{k:Nat}(h:n<2^k):zY n<=k:=by
 unfold zY
 by_cases h0:(n:Int)=0
 .simp_all
 rw[Pa h0];have:=(Nat.log2_lt<|λz=>h0<|by rw[z];rfl).mpr h
 rw[Int.natAbs_natCast];lia
@[simp] theorem bAy(i j:Int):Hr (.int i) (.int j)=aP (0<=j/\j<=1000000/\i.natAbs<18446744073709551616) (.ok<|.int<|i*2^j.toNat):=rfl
@[simp] theorem bN9(i j:Int):pz (.int i) (.int j)=aP (0<=j) (.ok<|.int<|i/2^j.toNat):=rfl
@[simp] theorem bNa(i j:Int):Ir (.int i) (.int j)=aP (0<=i/\0<=j) (.ok<|.int ((i.toNat&&&j.toNat:Nat):Int)):=rfl
@[simp] theorem bF1(i j:Int):Gq (.int i) (.int j)=aP (0<=i/\0<=j) (.ok<|.int ((i.toNat|||j.toNat:Nat):Int)):=rfl
@[simp] theorem bHt(i:Int):nE (.int i)=.ok (.int (zY i:Nat)):=rfl
theorem bAz(n r:Nat):(((n:Int)/2^r).toNat&&&(1:Int).toNat)=if n.testBit r=true then 1 else 0:=by
 grind
theorem NN(n r:Nat):pQ [.int n,.int r]=.ok (.bl<|n.testBit r):=by
 have b:=bAz n r;have h0:0<=(n:Int)/2^r:=Int.ediv_nonneg (by lia)<|Int.pow_nonneg<|by decide
 refine bT rfl ?_
 show cG _ [some _,some _]=_;have a:e2 Ir (e2 pz (aA 0)<|aA 1) (eI 1) [n,r]=.ok (.int<|(if n.testBit r=true then 1 else 0:Nat)):=by
  simp_all
 rw[uy,GO,a];cases n.testBit r<;>simp
theorem HL{tg:Tg}{C E:Ex}{st:za}{q:IR}{G:Nat->D}:∀(a:ac),(∀k∈a,∃s1,tg (.int k) st=.ok s1/\C s1=.ok (.bl<|q k)/\E s1=.ok (G k))->mK tg C E st (ja a)=.ok ((a.filter q).map G)
 |[],_=>rfl
 |k::a,h=>by
  obtain⟨s1,e1,e2,e⟩:=h k Zb;have c:=HL a λk b=>h k<|Lc _ b
  show mK tg C E st (.int k::ja a)=_;rw[nA];cases d:q k with
  |true=>
   simp_all
  |false=>
   simp_all
def Ā(n:Nat):pO 0 n=ja (List.range n):=by
 rw[MW];rfl
theorem xF{k:Nat}(h:n<2^k)(b:k<=2000):jO [.int n]=.ok (.lst<|ja<|cW n):=by
 have c:=bAx h;refine bT rfl ?_
 show cG _ [some _,none]=_;have a:pA (e1 nE<|aA 0) [some<|.v<|.int n,none]=.ok (ja<|List.range<|zY n):=by
  simp[show ((zY n))<=(big:Int) from iE (by lia)]
  exact Ā _
 rw[uy,DZ,a];simp only[bN,bG,length_range];rw[aD<|fK<|by lia,(HL (q:=λr=>n.testBit r) (G:=λr=>.int r) _<|λr _=>⟨_,rfl,by
  simp[CW,NN n r],by simp[BW]⟩)]
 rfl
theorem yY(a:im):∀(l:ac)(b:Nat)(c:im),(∀r∈l,r<=1000000)->∃d,Uc (Pb 2) qZ (ja l) [a,b,c]=.ok (.nx [a,XB l b,d])
 |[],b,c,_=>⟨c,rfl⟩
 |r::l,b,c,h=>by
  obtain⟨d,e⟩:=yY a l (b|||2^r) r λr f=>h r<|Lc _ f
  refine⟨d,?_⟩;have f:=h r Zb;have i:((1:Int)*2^(r:Int).toNat)=((2^r:Nat)):=by simp
  have t:qZ [a,b,r]=.ok (.nx [a,((b|||2^r:Nat)),r]):=by
   have g:e2 Hr (eC<|.int 1) (aA 2) [a,b,r]=.ok (.int<|(2^r:Nat)):=by
    simp only[GO,bMl,qK,bN,getElem?_cons_succ,List.getElem?_cons_zero];rw[bAy,aD ⟨by lia,(by lia),by decide⟩,i]
   unfold qZ;rw[bEi,GO,g];simp only[qK,bN,getElem?_cons_succ,List.getElem?_cons_zero];rw[bF1,aD ⟨sQ _,sQ _⟩,Yw];rfl
  show (qZ [a,b,r]).bind _=_
  rwa [t]
def HM{l:ac}(h:∀r∈l,r<=1000000)(b:l.length<=1000000):pU [.lst<|ja l]=.ok (.int<|Dp l):=by
 obtain⟨a,e⟩:=yY _ l 0 none h;refine bT rfl<|aN (st':=[some _,some _,none]) rfl<|aN (st':=[some<|.v<|.lst<|ja l,some<|.v _,a]) ?_ rfl
 rwa [bEj]
inductive Rg (S:am) (c:Nat) (al:IR) (s:Nat):Nat->Prop where
 |here:Rg S c al s s
 |on {r l:Nat}:Rg S c al s r->l<c->al (yd S r l)=true->Rg S c al s (yd S r l)
def lF(n:Nat):(cW n).Nodup:=List.nodup_range.filter _
theorem IM{l:ac}{k:Nat}(h:∀r∈l,r<k):Dp l<2^k:=I8 _ λr a=>by
 rw[uB];exact bf λz=>by have:=h r z;lia
open Classical in
noncomputable def rC(S:am)(c n r:Nat):Nat:=Dp<|(List.range S.length).filter λg=>decide (Rg S c (λg=>n.testBit g) r g)
section
variable {c:Nat}
def Jy(M:qf S rk c) {s g:Nat} (b:s<S.length) (h:Rg S c al s g):g<S.length:=by
 induction h with
 |here=>exact b
 |on _ hl _ a=>obtain⟨_,_,_,h⟩:=Ht M a hl;exact h
def ON{s g:Nat}(a:al s=true)(h:Rg S c al s g):al g=true:=by
 cases h with
 |here=>exact a
 |on _ _ b=>exact b
open Classical in
def sZ(M:qf S rk c){r:Nat}(a:r<S.length)(g:Nat):(rC S c n r).testBit g=true↔Rg S c (λg=>n.testBit g) r g:=by
 unfold rC;rw[uB,Ni,Nk,Jj,Ni];exact⟨λh=>h.2,λh=>⟨Jy M a h,h⟩⟩
def RD{r:Nat}:rC S c n r<2^S.length:=IM λg a=>Jj.mp (Nk.mp a).1
theorem SD(M:qf S rk c){a b:Nat}(f:a<S.length):b∈S.getD a []↔∃l,l<c/\yd S a l=b:=by
 have g:=(M.row S[a] (gj f)).1;have d:S.getD a []=S[a]:=by simp_all
 have e:∀l,yd S a l=S[a].getD l 0:=λl=>by unfold yd;rw[d]
 rw[d];constructor
 .intro h;obtain⟨l,hl,rfl⟩:=DH.mp h;exact⟨l,by lia,by rw[e,Kh,Be hl];rfl⟩
 rintro⟨l,hl,rfl⟩;simp_all
def Rg.trans{a b d:Nat}(h:Rg S c al a b)(g:Rg S c al b d):Rg S c al a d:=by
 induction g with
 |here=>exact h
 |on _ hl f e=>exact .on e hl f
end
theorem bJv(g:Nat)(l:ac):sx (.int g) (.lst<|ja l)=.ok (.bl<|decide (g∈l)):=by
 obtain⟨p1,p2,_⟩:=uA l;rw[<-u3];exact aD ⟨by simp_all,rfl,p1⟩
theorem bJw(h:n<=1000000):Hr (.int 1) (.int n)=.ok (.int ((2^n:Nat):Int)):=by
 have e:((2^n:Nat))=1*2^(n:Int).toNat:=by simp
 rw[e];exact aD ⟨by lia,by lia,by decide⟩
def bF2(a b:Nat):Ir (.int a) (.int b)=.ok (.int ((a&&&b:Nat):Int)):=by
 simp
theorem NZ(g:Nat)(l:ac):mC (ja l) (.int g)=decide (g∈l):=by
 unfold mC ja;rw[ax]
 by_cases h:g∈l
 .rw[fh h,Iz];exact⟨g,h,by simp[Bg]⟩
 rw[bf h,CQ];intro x a;have:¬ (x:Int)=g:=λz=>h (by grind)
 simp[Bg,this]
theorem UD(V:Nat->D){g:Nat}:∀{l:ac},g∈l->pL (ja l) (l.map V) (.int g)=some (V g)
 |[],h=>nomatch h
 |x::l,h=>by
  show pL (.int x::ja l) (V x::l.map V) _=_;unfold pL;rw[wu,find?_cons]
  by_cases e:x=g
  .simp[Bg,e]
  have:¬ (x:Int)=g:=by lia
  simp only[Bg,beq_eq_false_iff_ne.mpr this];exact UD V<|(qc.mp h).resolve_left λz=>e z.symm
def OZ(l:ac)(x:Nat):ja (l++[x])=ja l++[.int x]:=by unfold ja;simp
def HE{a vs:db}{g:Nat} (h:pL a vs (.int g)=some d):jb (.Ug false a vs) (.int g)=.ok d:=by
 show aP _ _=_;rw[aD (c:=Nc false _=true) rfl,h];rfl
inductive Pw (B:IN) (K:FM):Nat->Nat->Prop where
 |one {a b:Nat}:B a b->Pw B K a b
 |mid {a m b:Nat}:K m->Pw B K a m->Pw B K m b->Pw B K a b
theorem Pw.cut{B:IN}{K g:FM}{k a b:Nat}(l:∀m,g m->K m\/m=k)(h:Pw B g a b):Pw B K a b\/(Pw B K a k/\Pw B K k b):=by
 induction h with
 |one h=>exact .inl<|.one h
 |mid c _ _ j f=>
  rename_i a m b _ _;rcases l m c with c|rfl
  .rcases j with x|⟨x1,i⟩
   .rcases f with y|⟨e,d⟩
    .exact .inl (.mid c x y)
    exact .inr ⟨.mid c x e,d⟩
   rcases f with y|⟨e,d⟩
   .exact .inr ⟨x1,.mid c i y⟩
   simp_all
  grind
def Pw.mono{B:IN}{K c:FM}{a b:Nat}(g:∀m,K m->c m)(h:Pw B K a b):Pw B c a b:=by
 induction h with
 |one h=>exact .one h
 |mid f _ _ e d=>exact .mid (g _ f) e d
def oJ(V:ss)(m:Nat):ss:=λr=>if (V r).testBit m=true then V r|||V m else V r
theorem F3{B:IN}{R:FM}(p:∀a b,R a->B a b->R b):∀(d f:ac)(V:ss),(∀k∈d,R k)->(∀r,R r->∀g,(V r).testBit g=true↔Pw B (· ∈ f) r g)->∀r,R r->∀g,((d.foldl oJ V) r).testBit g=true↔Pw B (· ∈ f++d) r g
 |[],f,V,_,h,r,c,g=>by rw[so];exact h r c g
 |k::d,f,V,n,h,r,c,g=>by
  have e:f++k::d=(f++[k])++d:=by simp
  rw[e];refine F3 p d _ _ (λx o=>n x<|Lc _ o) (λr c g=>?_) r c g
  have j:∀{a b:Nat},Pw B _ a b->Pw B (· ∈ f++[k]) a b:=λz=>z.mono λm i=>Kl _ i
  unfold oJ
  by_cases l:(V r).testBit k=true
  .rw[Kb l,QQ,or_eq_true,h r c g,h k (n k Zb) g];constructor
   .rintro(z|z)
    .exact j z
    exact .mid (by simp) (j<|(h r c k).mp l)<|j z
   intro z;rcases z.cut (λm i=>by simpa using i) with y|⟨_,y⟩
   .exact .inl y
   exact .inr y
  rw[Pa l,h r c g];constructor
  .exact j
  intro z;rcases z.cut (λm i=>by simpa using i) with y|⟨y,_⟩
  .exact y
  exact absurd ((h r c k).mpr y) l
section
variable{S:am}{rk:ac}{c n:Nat}
def oq(S:am)(n:Nat):ss:=λr=>(Dp (S.getD r [])|||2^r)&&&n
def bB0{r g:Nat}:(oq S n r).testBit g=true↔(r=g\/g∈S.getD r [])/\n.testBit g=true:=by
 unfold oq;rw[Nat.testBit_and,QQ,uB,Nat.testBit_two_pow,Xr,or_eq_true,Ni,Ni];exact⟨λh=>⟨h.1.symm,h.2⟩,λh=>⟨h.1.symm,h.2⟩⟩
def ŕ(M:qf S rk c)(m:n<2^S.length){r:Nat}(e:r∈cW n)(g:Nat):(((cW n).foldl oJ<|oq S n) r).testBit g=true↔Rg S c (λg=>n.testBit g) r g:=by
 have j:=F3 (B:=λa b=>(a=b\/b∈S.getD a [])/\n.testBit b=true) (λa b _ h=>cO.mpr h.2) _ [] _ (λk t=>t) (λr _ g=>by
  rw[bB0];constructor
  .exact λh=>.one h
  intro h;cases h with
  |one h=>exact h
  |mid h _ _=>cases h) r e g
 rw[j];clear j;constructor
 .intro h;have u:∀{a b:Nat},Pw (λa b=>(a=b\/b∈S.getD a [])/\n.testBit b=true) (· ∈ cW n) a b->a∈cW n->Rg S c (λg=>n.testBit g) a b:=by
   intro a b h
   induction h with
   |one h=>
    intro d;obtain⟨rfl|f,v⟩:=h
    .exact .here
    obtain⟨l,hl,rfl⟩:=(SD M<|fO m d).mp f;exact .on .here hl v
   |mid s _ _ q p=>exact λd=>Rg.trans (q d)<|p s
  exact u h e
 intro h
 induction h with
 |here=>exact .one ⟨.inl rfl,cO.mp e⟩
 |on f hl d o=>
  have i:=cO.mpr<|ON (cO.mp e) f;exact .mid i o<|.one ⟨.inr<|(SD M<|fO m i).mpr ⟨_,hl,rfl⟩,d⟩
theorem bB1(M:qf S rk c)(b:n<2^S.length){r:Nat}(a:r∈cW n):((cW n).foldl oJ<|oq S n) r=rC S c n r:=ZP λg=>by
 have e:=(ŕ M b a g).trans (sZ M (fO b a) g).symm;cases d:(((cW n).foldl oJ _) r).testBit g with
 |true=>exact(e.mp d).symm
 |false=>
  simp_all
def JM(a b:Nat):Gq (.int a) (.int b)=.ok (.int ((a|||b:Nat):Int)):=by
 simp
def Hl(S:am)(n:Nat)(a:ac)(V:ss)(b x5:im):za:=[some<|.v<|.lst<|cc S,some<|.v<|.int n,some<|.v<|.lst<|ja<|cW n,some<|.o (.d false<|ja a)<|a.map λr=>D.int (V r:Nat),b,x5]
def bF3{V:ss}{r:Nat}{x:D}(a:r∉ks):qW (ja ks) (.int r)=ja (ks++[r])/\qX (ja ks) (ks.map λr=>D.int (V r:Nat)) (.int r) x=(ks.map λr=>D.int (V r:Nat))++[x]:=by
 have b:mC (ja ks) (.int r)=false:=by rw[NZ,bf a]
 unfold qW qX;rw[b,OZ];exact⟨rfl,rfl⟩
theorem bF4{V:ss}{r x:Nat}(a:r∈ks):qW (ja ks) (.int r)=ja ks/\qX (ja ks) (ks.map λr=>D.int (V r:Nat)) (.int r) (.int x)=ks.map λk=>D.int ((if k=r then x else V k:Nat):Int):=by
 have b:mC (ja ks) (.int r)=true:=by rw[NZ,fh a]
 unfold qW qX;rw[b];refine⟨rfl,?_⟩;unfold ja;rw[List.zip_map',Gh];refine Pr λk _=>?_
 show (if Bg _ _=true then D.int x else D.int _)=_
 by_cases e:k=r
 .rw[Kb e,Kb (by rw[e];simp[Bg])]
 have:¬ (k:Int)=r:=by lia
 rw[Pa e,Pa (by simp[Bg,this])]
theorem G3{st:za}{k:D}{a vs:db}(h:f st=.ok d)(e:g st=.ok k)(b:st[i]?=some (some<|.o (.d false a) vs))(c:Nc false k=true)(j:vs.length<1000):Qd i g f st=.ok (.nx<|st.set i<|some<|.o (.d false<|qW a k)<|qX a vs k d):=by
 unfold Qd;rw[h,e,b];exact aD ⟨c,Ft<|by lia⟩
theorem AY(M:qf S rk c):∀(b a:ac)(d:im),(a++b).Nodup->(∀r∈a++b,r<S.length)->∃i,Uc (Pb 4) FV (ja b) (Hl S n a (oq S n) d none)=.ok (.nx<|Hl S n (a++b) (oq S n) i none)
 |[],a,d,_,_=>⟨d,by rw[so];rfl⟩
 |r::b,a,d,f,hl=>by
  have p:=M.most;have k:a++r::b=(a++[r])++b:=by simp
  rw[k]at f hl;obtain⟨i,e⟩:=AY M b (a++[r]) r f hl;refine⟨i,?_⟩;rw[k];have g:=hl r (by simp)
  have o:=mO S.length a (Rr.mp (Rr.mp f).1).1 λx h=>hl x (by simp[h])
  have m:S.getD r []=S[r]:=by rw[Kh,Be g];rfl
  have j:=M.row S[r] (gj g);have q:=M.c3;obtain⟨p1,p2⟩:=bF3<|λz=>(Rr.mp (Rr.mp f).1).2.2 r z r (Ce.mpr rfl) rfl
  refine nD rfl ?_ e;have l:e2 Ir (e2 Gq (aV pU<|aC (e2 jb (aA 0)<|aA 4) aK)<|e2 Hr (eI 1)<|aA 4) (aA 1) (Hl S n a (oq S n) r none)=.ok (.int<|oq S n r):=by
   unfold oq;rw[m];exact aJ (aJ (aQ (aO (aJ rfl rfl<|gU<|Vv g) rfl)<|HM (λx h=>by have:=j.2 x h;lia)<|by rw[j.1];lia) (aJ rfl rfl<|bJw<|by lia)<|JM _ _) rfl<|bF2 _ _
  refine(G3 l rfl rfl rfl<|by rw[Yc];lia).trans ?_
  rw[p1,p2];unfold Hl;rw[qh];rfl
def Ŗ{V:ss}{r m:Nat}(f:ks.length<1000)(b:r∈ks)(d:m∈ks):tW (Hl S n ks V (some<|.v<|.int r)<|some<|.v<|.int m)=.ok (.nx<|Hl S n ks (λk=>if k=r then oJ V m r else V k) (some<|.v<|.int r)<|some<|.v<|.int m):=by
 have c:e2 jb (dF 3) (aA 4) (Hl S n ks V (some<|.v _)<|some<|.v<|.int m)=.ok _:=aJ rfl rfl<|HE<|UD _ b;have t:=aQ (aO c<|show aC (aA 5) aK _=.ok [.int m] from rfl)<|NN (V r) m
 by_cases a:(V r).testBit m=true
 .rw[a]at t;obtain⟨p1,p2⟩:=bF4 b;refine pZ t ((G3 (aJ c (aJ rfl rfl<|HE<|UD _ d)<|JM _ _) rfl rfl rfl<|by rw[Yc];omega).trans ?_)
  rw[p1,p2];unfold oJ;rw[Kb a];rfl
 rw[Bool.eq_false_iff.mpr a]at t;refine gO t ?_
 have:(λk=>if k=r then oJ V m r else V k)=V:=funext λk=>by
  by_cases e:k=r
  .rw[Kb e,e];unfold oJ;rw[Pa a]
  rw[Pa e]
 rw[this];rfl
theorem BY{c:ac}{V:ss}{m:Nat}(t:c.length<1000)(s:m∈c):∀(b:ac)(W:ss)(f:im),(∀r∈b,r∈c)->W m=V m->(∀r∈b,W r=V r\/W r=oJ V m r)->∃g p,Uc (Pb 4) tW (ja b) (Hl S n c W f m)=.ok (.nx<|Hl S n c g p m)/\∀r,g r=if r∈b then oJ V m r else W r
 |[],W,f,_,_,_=>⟨W,f,rfl,λr=>by rw[Pa (by simp)]⟩
 |r::b,W,f,hs,i,q=>by
  have l:oJ W m r=oJ V m r:=by
   rcases q r Zb with h|h
   .unfold oJ;rw[h,i]
   unfold oJ at h ⊢;rw[h,i]
   by_cases o:(V r).testBit m=true
   .rw[Kb o]
    by_cases d:(V r|||V m).testBit m=true
    .rw[Kb d,Nat.or_assoc,Nat.or_self]
    rw[Pa d]
   rw[Pa o,Pa o]
  have j:oJ V m m=V m:=by
   unfold oJ;split
   .exact Nat.or_self _
   rfl
  obtain⟨g,p,e,h⟩:=BY t s b (λk=>if k=r then oJ W m r else W k) r (λx a=>hs x<|Lc _ a) (by
   by_cases e:m=r
   .rw[Kb e,l,<-e,j]
   rw[Pa e,i]) (λx a=>by
   by_cases e:x=r
   .rw[Kb e,l,e];exact .inr rfl
   rw[Pa e];exact q x<|Lc _ a)
  refine⟨g,p,nD rfl (Ŗ t (hs r Zb) s) e,λx=>?_⟩
  rw[h x]
  by_cases a:x∈b
  .rw[Kb a,Kb<|Lc _ a]
  rw[Pa a]
  by_cases e:x=r
  .rw[Kb e,Kb (by rw[e];exact Zb),l,e]
  rw[Pa e,Pa (by simp[e,a])]
def bX{a:ac}{V W:ss}(h:∀k∈a,V k=W k):Hl S n a V x4 x5=Hl S n a W x4 x5:=by
 unfold Hl;rw[Pr λk b=>congrArg (λx:Nat=>D.int x)<|h k b]
theorem CY(c:(cW n).length<1000):∀(b:ac)(V:ss)(a x5:im),(∀m∈b,m∈cW n)->∃p i,Uc (Pb 5) GV (ja b) (Hl S n (cW n) V a x5)=.ok (.nx<|Hl S n (cW n) (b.foldl oJ V) p i)
 |[],V,a,x5,_=>⟨a,x5,rfl⟩
 |m::b,V,a,x5,hs=>by
  obtain⟨W,g,e,h⟩:=BY c (hs m Zb) _ V a (λr l=>l) rfl λr _=>.inl rfl
  obtain⟨f,d,q⟩:=CY c b _ g _ λx j=>hs x<|Lc _ j
  refine⟨f,d,nD rfl (lD rfl e) ?_⟩
  rwa [bX λk o=>by rw[h k,Kb o]]
theorem bB2(M:qf S rk c)(a:n<2^S.length):sI [.lst<|cc S,.int n]=.ok (.Ug false (ja<|cW n)<|(cW n).map λr=>D.int (rC S c n r:Nat)):=by
 have l:=M.most;have j:=mO S.length _ (lF _) λx d=>fO a d
 obtain⟨b,e1⟩:=AY M (cW n) [] none (lF n) λr e=>fO a e
 obtain⟨i,h,e2⟩:=CY (by lia) (cW n) _ b none λm f=>f
 refine bT rfl<|aN (bH<|aQ rfl<|xF a<|by lia)<|aN rfl<|aN (lD rfl e1)<|aN (lD rfl e2) ?_
 rw[bX λk g=>bB1 M a g]
 rfl
end
noncomputable def iJ(S:am)(c n r:Nat):Nat:=Dp<|(cW<|rC S c n r).filter λg=>(rC S c n g).testBit r
def Md(S:am)(m:Nat):Bool:=decide (1<(cW m).length)||decide ((cW m).headD 0∈S.getD ((cW m).headD 0) [])
noncomputable def uC(S:am)(c n:Nat):ac:=(cW n).foldl (λps r=>if iJ S c n r∉ps/\Md S (iJ S c n r)=true then ps++[iJ S c n r] else ps) []
section
variable{S:am}{rk:ac}{c n:Nat}
def J3{n r:Nat}:iJ S c n r<2^S.length:=IM λg a=>fO RD (Nk.mp a).1
theorem bB3(M:qf S rk c){m:Nat}(e:m<2^S.length)(j:m≠0):sJ [.lst<|cc S,.int m]=.ok (.bl<|Md S m):=by
 have k:=M.most;have f:=xF e (by lia)
 obtain⟨r,T,a⟩:∃r T,cW m=r::T:=by
  cases h:cW m with
  |nil=>
   refine absurd ?_ j;have:=YX m;rw[h]at this;exact this.symm
  |cons r T=>exact⟨r,T,rfl⟩
 rw[a]at f;have d:=fO e (by rw[a];exact Zb)
 refine bT rfl<|aN (bH<|aQ rfl f)<|cJ ?_;have g:e1 kI (aA 2) [D.lst<|cc S,m,D.lst<|ja<|r::T]=.ok (.int<|(T.length+1)):=by
  show R.ok (D.int<|((ja<|r::T).length))=_;rw[bG];rfl
 have b:e2 jb (aA 2) (eI 0) [D.lst<|cc S,m,D.lst<|ja<|r::T]=.ok (.int r):=aJ rfl rfl<|gU<|Dc<|by exact Nat.succ_pos _
 have i:S.getD r []=S[r]:=by rw[Kh,Be d];rfl
 refine gF (zK (aJ g rfl rfl) λ_=>aJ b (aJ rfl b<|gU<|Vv d)<|bJv r S[r]) ?_
 unfold Md;rw[a];show (decide ((1:Int)<((T.length+1)))||decide (r∈S[r]))=(decide (1<T.length+1)||decide (r∈S.getD r []))
 rw[i];congr 1;exact decide_eq_decide.mpr (by lia)
noncomputable def kC(S:am)(c n:Nat)(ps:ac)(a x5:im):za:=[some<|.v<|.lst<|cc S,some<|.v<|.int n,some<|.v<|.Ug false (ja<|cW n)<|(cW n).map λr=>D.int (rC S c n r:Nat),some<|.o .l<|ja ps,a,x5,none]
theorem Ģ(M:qf S rk c)(k:n<2^S.length){r:Nat}(b:r∈cW n)(ps:ac)(j:ps.length<=1000)(x5:im):∃f,rN (kC S c n ps r x5)=.ok (.nx<|kC S c n (if iJ S c n r∉ps/\Md S (iJ S c n r)=true then ps++[iJ S c n r] else ps) r f):=by
 have o:=M.most;have d:=fO k b;have e:∀{g:Nat},g∈cW n->pL (ja<|cW n) ((cW n).map λr=>D.int<|rC S c n r) (.int g)=some (.int<|rC S c n g):=λ{g} h=>UD (λr=>D.int<|rC S c n r) h
 have m:(cW<|rC S c n r).length<=S.length:=mO S.length _ (lF _) λx i=>fO RD i
 obtain⟨p1,p2,_⟩:=uA ps;refine⟨some<|.v<|.int<|iJ S c n r,aN (bH<|aQ (aO (lU (pC<|aQ (aO (aJ rfl rfl<|HE<|e b) rfl)<|xF RD<|by lia) (by rw[bG];lia)<|HL (cW<|rC S c n r)<|λg a=>⟨_,rfl,aQ (aO (aJ rfl rfl<|HE<|e<|(λg a=>cO.mpr<|ON (cO.mp b)<|(sZ M d g).mp<|cO.mp a) g a) rfl)<|NN (rC S c n g) r,rfl⟩) rfl)<|HM (λg a=>by have:=fO RD (Nk.mp a).1;lia) (by have:=UP (λg=>(rC S c n g).testBit r)<|cW<|rC S c n r;lia)) ?_⟩
 have t:=yC (st:=kC S c n ps r<|iJ S c n r) (aJ (f:=aA 5) (g:=dF 3) rfl rfl<|show vU (.int<|iJ S c n r) (.lst<|ja ps)=.ok (.bl<|!decide (iJ S c n r∈ps)) by rw[<-u3];exact aD ⟨by rw[p2];exact rh 60,rfl,p1⟩) λ_=>aQ (r:=aC (aA 0)<|aC (aA 5) aK) rfl<|bB3 M J3 (λz=>by
  have:(iJ S c n r).testBit r=true:=by
   unfold iJ;rw[uB,Ni,Nk];have h0:(rC S c n r).testBit r=true:=(sZ M d r).mpr .here;exact⟨cO.mpr h0,h0⟩
  rw[z,KQ]at this;cases this)
 by_cases h:iJ S c n r∉ps/\Md S (iJ S c n r)=true
 .rw[Kb h];refine pZ (gF t<|by rw[bf h.1,h.2];rfl) ?_
  rw[Uv rfl rfl (by rw[bG];lia),<-OZ]
  rfl
 rw[Pa h];refine gO (gF t ?_) rfl;cases l:Md S (iJ S c n r) with
 |false=>rw[SH]
 |true=>rw[fh<|HP λz=>h ⟨z,l⟩];rfl
theorem gX(M:qf S rk c)(e:n<2^S.length):∀(a:ac)(ps:ac)(b x5:im),(∀r∈a,r∈cW n)->ps.length+a.length<=1000->∃j d,Uc (Pb 4) rN (ja a) (kC S c n ps b x5)=.ok (.nx<|kC S c n (a.foldl (λps r=>if iJ S c n r∉ps/\Md S (iJ S c n r)=true then ps++[iJ S c n r] else ps) ps) j d)
 |[],ps,b,x5,_,_=>⟨b,x5,rfl⟩
 |r::a,ps,b,x5,h,hl=>by
  obtain⟨d,e1⟩:=Ģ M e (h r Zb) ps (by lia) x5
  obtain⟨g,f,e2⟩:=gX M e a (if iJ S c n r∉ps/\Md S _=true then ps++[iJ S c n r] else ps) _ d (λr i=>h r<|Lc _ i) (by
   grind)
  exact⟨g,f,nD rfl e1 e2⟩
theorem ā(M:qf S rk c)(a:n<2^S.length):qM [.lst<|cc S,.int n]=.ok (.lst<|ja<|uC S c n):=by
 have i:=M.most;have g:=mO S.length _ (lF _) λx b=>fO a b
 obtain⟨f,d,e⟩:=gX M a _ [] none none (λ_ h=>h) (by simp;lia)
 exact bT rfl<|aN (bH<|aQ rfl<|bB2 M a)<|aN (sO<|gY rfl)<|aN (lD (pC<|aQ rfl<|xF a<|by lia) e) rfl
def Pq(n:Nat):IR:=λg=>n.testBit g
def Gk(S:am)(c n a b:Nat):Prop:=Rg S c (Pq n) a b/\Rg S c (Pq n) b a
def vI(M:qf S rk c){r g:Nat}(b:r<S.length):(iJ S c n r).testBit g=true↔Gk S c n r g:=by
 unfold iJ;rw[uB,Ni,Nk,cO,sZ M b];constructor
 .rintro⟨a,d⟩;exact⟨a,(sZ M (Jy M b a) r).mp d⟩
 rintro⟨a,d⟩;exact⟨a,(sZ M (Jy M b a) r).mpr d⟩
def PZ(M:qf S rk c){r g:Nat}(e:r<S.length)(h:Rg S c (Pq n) r g)(a:Rg S c (Pq n) g r):Rg S c (Pq<|iJ S c n r) r g:=by
 induction h with
 |here=>exact .here
 |on f hl b d=>
  exact .on (d<|Rg.trans (.on .here hl b) a) hl<|(vI M e).mpr ⟨.on f hl b,a⟩
def Gk.symm{a b:Nat}(h:Gk S c n a b):Gk S c n b a:=⟨h.2,h.1⟩
theorem Gk.trans{a b d:Nat}(f:Gk S c n a b)(e:Gk S c n b d):Gk S c n a d:=⟨Rg.trans f.1 e.1,Rg.trans e.2 f.2⟩
theorem bB4(M:qf S rk c){r g:Nat}(a:r<S.length)(h:Gk S c n r g):iJ S c n g=iJ S c n r:=ZP λx=>by
 have e:(iJ S c n g).testBit x=true↔(iJ S c n r).testBit x=true:=by
  rw[vI M<|Jy M a h.1,vI M a];exact⟨λz=>h.trans z,λz=>h.symm.trans z⟩
 cases b:(iJ S c n g).testBit x with
 |true=>exact(e.mp b).symm
 |false=>
  simp_all
def nV(S:am)(c n:Nat):Prop:=n≠0/\(∀a∈cW n,∀b∈cW n,Rg S c (Pq n) a b)/\Md S n=true
theorem DY(f:ss)(q:IR):∀(a ps:ac)(m:Nat),m∈a.foldl (λps r=>if f r∉ps/\q (f r)=true then ps++[f r] else ps) ps↔m∈ps\/∃r∈a,f r=m/\q m=true
 |[],ps,m=>by simp
 |r::a,ps,m=>by
  rw[Sz,DY f q a];grind
def TK{m:Nat}:m∈uC S c n↔∃r∈cW n,iJ S c n r=m/\Md S m=true:=by
 unfold uC;rw[DY _ _];simp
def bF5(M:qf S rk c){r:Nat}(b:n<2^S.length)(a:r∈cW n){g:Nat}(d:g∈cW (iJ S c n r)):g∈cW n:=by
 exact cO.mpr<|ON (cO.mp a) ((vI M<|fO b a).mp<|cO.mp d).1
def QZ(M:qf S rk c){r:Nat}(b:n<2^S.length)(a:r∈cW n):r∈cW (iJ S c n r):=cO.mpr<|(vI M<|fO b a).mpr ⟨.here,.here⟩
def ŗ(M:qf S rk c){r:Nat}(g:n<2^S.length)(f:r∈cW n)(j:Md S (iJ S c n r)=true):nV S c (iJ S c n r):=by
 have d:=fO g f;refine⟨(λz=>by have:=QZ M g f;rw[z,cO,KQ]at this;cases this),λa ha b hb=>?_,j⟩
 have e:=(vI M d).mp<|cO.mp ha;have i:=(vI M d).mp<|cO.mp hb;have h:=PZ M (Jy M d e.1) e.2 e.1;rw[bB4 M d e]at h;exact Rg.trans h<|PZ M d i.1 i.2
end
def qD(p:wn):D:=.tup [.int (p.1:Nat),.int (p.2:Nat)]
def Mn(S T:am)(p:wn):f8:=(S.getD p.1 []).zip<|T.getD p.2 []
def Xm(n m:Nat)(p:wn):Prop:=p.1<n/\p.2<m
theorem d7(p q:wn):ae (qD p) (qD q)=decide (p=q):=by
 simp[qD,ae,pM];grind
theorem QF(p q:wn):Bg (qD p) (qD q)=decide (p=q):=by
 obtain⟨a,b⟩:=p;obtain⟨c,d⟩:=q;simp[qD,Bg,Ap];grind
theorem f7(f:AT)(g:wn)(h:∀p,f (qD p)=decide (p=g))(a:f8):(a.map qD).any f=decide (g∈a):=by
 rw[ax];grind
def bPk(g:wn)(a:f8):inD (qD g) (a.map qD)=decide (g∈a):=f7 _ g (λp=>d7 p g) a
def i7(g:wn)(a:f8):mC (a.map qD) (qD g)=decide (g∈a):=f7 _ g (λp=>QF p g) a
theorem K3(a:f8):dR (a.map qD)=true/\jR (a.map qD)<=1:=by
 induction a with
 |nil=>simp
 |cons p a b=>
  obtain⟨c,d⟩:=b;rw[Wf];refine⟨by rw[ö,c];simp[qD],?_⟩
  conv=>lhs;unfold jR
  have:zg (qD p)=1:=by simp[qD,zg,jR]
  lia
theorem WO:∀(r t:ac),Cp (ja r) (ja t)=(r.zip t).map qD
 |[],t=>by simp[ja,Cp]
 |a::r,[]=>by simp[ja,Cp]
 |a::r,b::t=>by
  have:=WO r t;unfold ja at this ⊢;rw[Wf,Wf,Cp,this];rfl
def cP(p:wn):Do:=(p.1,p.2)
theorem j7:∀a:f8,zv (a.map qD)=.ok (a.map cP)
 |[]=>rfl
 |p::a=>by
  rw[Wf,qD,zv,j7 a];rfl
section
variable {c:Nat}
def bF6{p:wn}(a:Xm S.length T.length p):(Mn S T p).map qD=Cp (ja<|S[p.1]'a.1) (ja<|T[p.2]'a.2):=by
 rw[WO];unfold Mn;rw[Kh,Be a.1,Vz,Kh,Be a.2,Vz]
end
theorem PN{tg:Tg} {st:za} (b:f st=.ok d) (a:tg d st=.ok s1):Dw tg f st=.ok (.nx s1):=by
 simp_all
theorem bPl{i:Nat}{p:wn}(h:qa[i]?=some p):Ye (qa.map qD) (i:Int)=some (qD p):=by
 obtain⟨b,a⟩:=xg.mp h;rw[Dc (by simp_all),LH,a]
def RZ{st:za} {vs:db} {p:wn} (j:f st=.ok d) (h:g st=.ok (qD p)) (b:st[i]?=some (some<|.o (.d true<|qa.map qD) vs)) (c:p∉qa) (e:vs.length<1000000):Qd i g f st=.ok (.nx<|st.set i<|some<|.o (.d true<|(qa++[p]).map qD)<|vs++[d]):=by
 have a:mC (qa.map qD) (qD p)=false:=by rw[i7,bf c]
 unfold Qd;rw[j,bN,h,bN,b];have e1:qW (qa.map qD) (qD p)=(qa++[p]).map qD:=by
  unfold qW;rw[a,qh];rfl
 have e2:qX (qa.map qD) vs (qD p) d=vs++[d]:=by
  unfold qX;rw[a];rfl
 dsimp only;rw[aD ⟨rfl,Ft<|xu e<|by decide⟩,e1,e2]
theorem get_map(h:Nat×Nat->D){p:wn}:∀{a:f8},p∈a->pL (a.map qD) (a.map h) (qD p)=some (h p)
 |q::a,b=>by
  unfold pL;rw[Wf,Wf,wu,find?_cons,QF]
  by_cases e:q=p
  .simp_all
  rw[bf e];exact get_map h<|(qc.mp b).resolve_left<|uh e
section
variable{S T:am}{rk Ta:ac}{c c' l r i:Nat}{qa:f8}
def Mq(S T:am)(p:wn):D:=.lst<|(Mn S T p).map qD
def Jq(S T:am)(e d:D)(a:f8)(c b:im):za:=[some<|.v e,some<|.v d,some<|.o (.d true<|a.map qD)<|a.map<|Mq S T,c,b]
theorem bB6(b:l<S.length)(a:r<T.length)(d:(l,r)∉qa)(e:qa.length<1000):pW (Jq S T (mD S rk c) (mD T Ta c') qa l r)=.ok (.nx<|Jq S T (mD S rk c) (mD T Ta c') (qa++[(l,r)]) l r):=by
 show Qd 2 _ _ _=_;rw[(RZ (d:=Mq S T (l,r))
  (aJ (aJ qC rfl<|gU<|Vv b) (aJ qC rfl<|gU<|Vv a)<|by unfold Mq;rw[bF6 ⟨b,a⟩];rfl) (by simp[qD,Jq]) rfl d (by rw[Yc];lia))]
 unfold Jq;rw[qh (f:=Mq S T)];rfl
theorem V5(g:l<S.length):∀(k r:Nat) (a:f8) (d:im),r+k=T.length->(∀p∈a,p.1<l\/(p.1=l/\p.2<r))->a.length+k<=1000->
  ∃f,Uc (Pb 4) pW ((List.range' r k).map λ(k:Nat)=>D.int (k:Int)) (Jq S T (mD S rk c) (mD T Ta c') a l d)=.ok (.nx<|Jq S T (mD S rk c) (mD T Ta c') (a++(List.range' r k).map (Prod.mk l)) l f)
 |0,r,a,d,_,_,_=>⟨d,by simp[Uc]⟩
 |k+1,r,a,d,m,i,j=>by
  obtain⟨f,e⟩:=V5 g k (r+1) (a++[(l,r)]) _ (by lia) (λp b=>by
   rcases Wh.mp b with b|b
   .rcases i p b with h|h
    .exact .inl h
    exact .inr ⟨h.1,by lia⟩
   rw[Ce.mp b];exact .inr ⟨rfl,Np _⟩) (by rw[Pg,vn];lia)
  refine⟨f,?_⟩;rw[Rw]at e;exact nD rfl (bB6 g (by lia) (λz=>by rcases i _ z with h|h<;>simp at h)<|by lia) e
def Ej(n m l k:Nat):f8:=(List.range' l k).flatMap λl=>(List.range' 0 m).map<|Prod.mk l
theorem L3(j:T.length<=8):∀(k l:Nat) (a:f8) (e d:im),l+k=S.length->(∀p∈a,p.1<l)->a.length+8*k<=1000->
  ∃n o,Uc (Pb 3) wY ((List.range' l k).map λ(k:Nat)=>D.int (k:Int)) (Jq S T (mD S rk c) (mD T Ta c') a e d)=.ok (.nx<|Jq S T (mD S rk c) (mD T Ta c') (a++Ej S.length T.length l k) n o)
 |0,l,a,e,d,_,_,_=>⟨e,d,by simp[Ej]⟩
 |k+1,l,a,e,d,r,f,q=>by
  obtain⟨i,e1⟩:=V5 (S:=S) (T:=T) (by lia) T.length 0 a d (by lia) (λp b=>.inl<|f p b) (by lia)
  obtain⟨h,g,e2⟩:=L3 j k (l+1) (a++(List.range' 0 T.length).map (Prod.mk l)) _ i (by lia) (λp b=>by
   rcases Wh.mp b with b|b
   .have:=f p b;lia
   obtain⟨x,_,rfl⟩:=gf.mp b;exact Np _) (by rw[Pg,Yc,AQ];lia)
  refine⟨h,g,?_⟩;have m:a++Ej S.length T.length l (k+1)=(a++(List.range' 0 T.length).map (Prod.mk l))++Ej S.length T.length (l+1) k:=by
   unfold Ej;rw[MH,List.flatMap_cons,Rw]
  rw[m];refine nD rfl (lD (pw (n:=T.length) ?_<|by lia) ?_) e2
  .exact EL
  rwa [j9]
theorem IL{m:Nat}{p:wn}:p∈Ej n m 0 n↔Xm n m p:=by
 unfold Ej Xm;grind
theorem TZ(n m:Nat):∀(k l:Nat),(Ej n m l k).length=k*m
 |0,l=>by simp[Ej]
 |k+1,l=>by
  have:=TZ n m k<|l+1;unfold Ej at this ⊢;rw[MH,List.flatMap_cons,Pg,this,Yc,AQ,succ_mul,Nat.add_comm]
def Fw(S T:am):D:=.Ug true ((Ej S.length T.length 0 S.length).map qD)<|(Ej S.length T.length 0 S.length).map<|Mq S T
theorem Ř(M:Rc S rk c)(a:Rc T Ta c'):oG [mD S rk c,mD T Ta c']=.ok (Fw S T):=by
 have f:=M.most;obtain⟨d,b,e⟩:=L3 (S:=S) a.most S.length 0 [] none none (by lia) (λ_ h=>nomatch h) (by simp;lia)
 refine bT rfl<|aN rfl<|aN (lD (pw EL<|by lia)<|by rwa [j9]) ?_
 simp[Jq,Yp,Fw]
end
def Zf(S T:am)(p:wn)(k:Nat):wn:=(yd S p.1 k,yd T p.2 k)
theorem pairs_len{m:Nat}{l:f8}(d:l.Nodup)(h:∀p∈l,Xm n m p){k:Nat}(o:n<=k)(q:m<=8):l.length<=8*k:=by
 simpa using (mO (8*k) (l.map λp=>8*p.1+p.2) (by
  unfold Nodup;rw[WH];exact d.imp_of_mem λ{a b} g vf c z=>c (by
   have j:=h a g;have i:=h b vf;unfold Xm at j i;exact Wz (by lia)<|by lia)) λx e=>by
  obtain⟨p,f,rfl⟩:=gf.mp e;have:=h p f;unfold Xm at this;lia)
section
variable{S T:am}{rk Ta:ac}{c l r i:Nat}{qa:v4}
abbrev B2(S T:am)(c l r i j:Nat)(a:v4):Prop:=BG (Zf S T) (l,r) c (Xm S.length T.length) i j a
def m7(M:Rc S rk c)(f:Rc T Ta c)(p:wn)(k:Nat)(a:Xm S.length T.length p)(b:k<c):Xm S.length T.length (Zf S T p k):=by
 obtain⟨_,_,_,e⟩:=Ht M.w a.1 b;obtain⟨_,_,_,d⟩:=Ht f.w a.2 b;exact⟨e,d⟩
def fF(M:Rc S rk c) (a:q<S.length):(S.getD q []).length=c:=by
 rw[Kh,Be a,Vz,(M.row _<|gj a).1]
def IE(M:Rc S rk c)(b:Rc T Ta c){p:wn}(a:Xm S.length T.length p):(Mn S T p).length=c:=by
 unfold Mn;rw[length_zip,fF M a.1,fF b a.2,Nat.min_self]
theorem W5(M:Rc S rk c)(b:Rc T Ta c){p:wn}(a:Xm S.length T.length p){k:Nat}(d:k<(Mn S T p).length):(Mn S T p)[k]=Zf S T p k:=by
 have hl:=IE M b a;have e:(Mn S T p)[k]=((S.getD p.1 [])[k]'(by rw[fF M a.1];lia),(T.getD p.2 [])[k]'(by rw[fF b a.2];lia)):=List.getElem_zip
 rw[e];unfold Zf yd;rw[ Kh (l:=S.getD p.1 []),Kh (l:=T.getD p.2 []),Be _,Be _];rfl
def kQ(a:v4):db:=a.map λx=>qD x.1
def wQ(a:v4):db:=a.map λx=>D.str x.2
def RF(a:v4):kQ a=(a.map (·.1)).map qD:=by rw[Gh];rfl
def Rn(S T:am)(l r:Nat)(a:v4)(i:Nat)(c b x8:im):za:=
 [some<|.v<|Fw S T,some<|.v<|qD (l,r),some<|.v<|.lst<|(Ej S.length T.length 0 S.length).map qD,some<|.o (.d true<|kQ a)<|wQ a,some<|.o .l<|kQ a,some<|.v<|.int i,c,b,x8]
def B2.len(b:B2 S T c l r i j qa)(e:S.length<=8)(f:T.length<=8):qa.length<=64:=by
 have:=pairs_len b.nd (λp d=>by obtain⟨x,a,rfl⟩:=gf.mp d;exact(b.lt x a).1) e f
 rwa [Yc]at this
theorem bB9(M:Rc S rk c)(e:Rc T Ta c){x:(wn)×List Nat} (b:B2 S T c l r i j qa) (a:qa[i]?=some x) (n:j<c) :
  vW (Rn S T l r qa i (qD x.1) (D.str [97+j])<|qD<|Zf S T x.1 j)=.ok (.nx<|Rn S T l r (Fq qa (Zf S T x.1 j)<|x.2++[97+j]) i (qD x.1) (D.str [97+j])<|qD<|Zf S T x.1 j):=by
 obtain⟨p1,p2⟩:=K3<|Ej S.length T.length 0 S.length;have f:=Bm a;have hl:=b.len M.most e.most;have s:=(xg.mp a).1;have q:=b.wl i i x (Ec _) a;have d:=m7 M e x.1 j (b.lt x f).1 n;generalize o:Zf S T x.1 j=g at d;have m:e2 sx (aA 8) (aA 2) (Rn S T l r qa i (qD x.1) (D.str [97+j])<|qD g)=.ok (.bl true):=aJ rfl rfl (by
  have:=bPk g<|Ej S.length T.length 0 S.length;rw[fh<|IL.mpr d]at this;rw[<-this];exact aD ⟨by lia,by simp[qD],p1⟩)
 have k:e2 vU (aA 8) (dF 3) (Rn S T l r qa i (qD x.1) (D.str [97+j])<|qD g)=.ok (.bl (!decide (g∈qa.map (·.1)))):=aJ rfl rfl (by rw[<-i7,<-RF];exact aD rfl)
 have t:=yC m λ_=>k
 unfold Fq
 by_cases h:g∈qa.map (·.1)
 .rw[Kb h];exact gO (gF t<|by rw[fh h];rfl) rfl
 rw[Pa h];refine pZ (gF t<|by rw[bf h];rfl)<|aN (RZ (by
  refine aJ (x:=.str x.2) (aJ rfl rfl ?_) rfl<|aD<|fK<|by show x.2.length+1<=_;lia
  show aP (Nc true (qD x.1)=true) (Ci<|pL (kQ qa) (wQ qa)<|qD x.1)=_;rw[aD (c:=Nc true (qD x.1)=true) rfl,show pL (kQ qa) (wQ qa) (qD x.1)=_ from HG qD QF b.nd f]
  rfl) rfl (by rw[<-RF];rfl) h<|by unfold wQ;rw[Yc];lia) ?_
 have p:=Uv (i:=4) (f:=aA 8) (st:=(Rn S T l r qa i (qD x.1) (D.str [97+j])<|qD g).set 3 (some (.o (.d true ((qa.map (·.1)++[g]).map qD))<|wQ qa++[.str<|x.2++[97+j]]))) rfl rfl (by unfold kQ;rw[Yc];lia)
 rw[p];unfold Rn kQ wQ;simp only[List.map_append,List.map_map,map_cons,List.map_nil];rfl
theorem UZ(h:j<3):[97,98,99].drop j=(97+j)::[97,98,99].drop (j+1):=by
 have:j=0\/j=1\/j=2:=by lia
 rcases this with rfl|rfl|rfl<;>rfl
theorem X5(M:Rc S rk c)(f:Rc T Ta c){x:(wn)×List Nat}:∀(k j:Nat) (d:v4) (h x8:im),j+k=c->B2 S T c l r i j d->d[i]?=some x->
  ∃g t v,Uc (Xj [7,8]) vW (zX ([97,98,99].drop j)<|((Mn S T x.1).drop j).map qD) (Rn S T l r d i (qD x.1) h x8)=.ok (.nx<|Rn S T l r g i (qD x.1) t v)/\B2 S T c l r i c g/\g[i]?=some x
 |0,j,d,h,x8,s,b,a=>by
  obtain rfl:j=c:=by lia
  refine⟨d,h,x8,?_,b,a⟩;rw[NP (l:=Mn S T x.1) (by rw[IE M f (b.lt x<|Bm a).1];exact Ec _)]
  cases [97,98,99].drop j<;>rfl
 |k+1,j,d,h,x8,s,b,a=>by
  have y:=M.c3;have o:j<c:=by lia
  have n:=(b.lt x<|Bm a).1;have m:j<(Mn S T x.1).length:=by rwa [IE M f n]
  obtain⟨g,q,p,e,u,w⟩:=X5 M f k (j+1) _ _ _ (by lia) (b.turn (m7 M f) a o)<|MN a
  refine⟨g,q,p,?_,u,w⟩;rw[UZ (by lia),Cz m,W5 M f n]
  exact nD rfl (bB9 M f b a o) e
theorem M3(M:Rc S rk c)(p:Rc T Ta c):∀(k i:Nat) (a:v4) (m j x8:im) (f:Nat),65<=k+i->k<=f->B2 S T c l r i 0 a->i<=a.length->
  ∃o F C H,jL vX PV f (Rn S T l r a i m j x8)=.ok (.nx<|Rn S T l r o o.length F C H)/\B2 S T c l r o.length 0 o
 |0,i,a,m,j,x8,f,y,A,b,z=>by have:=b.len M.most p.most;lia
 |k+1,i,a,m,j,x8,f,y,A,b,z=>by
  obtain⟨f,rfl⟩:∃g,f=g+1:=⟨f-1,by lia⟩
  have d:vX (Rn S T l r a i m j x8)=.ok (.bl<|decide ((i:Int)<((kQ a).length))):=aJ rfl rfl rfl;rw[show (kQ a).length=a.length by unfold kQ;simp]at d
  by_cases h:i<a.length
  .have n:=Be h;generalize a[i]=x at n;obtain⟨u,w,v,e,E,I⟩:=X5 M p c 0 a j x8 (by lia) b n
   have J:=(xg.mp I).1;obtain⟨G,t,s,q,B,D⟩:=M3 M p k (i+1) u (qD x.1) w v f (by lia) (by lia) E.next (by lia)
   refine⟨G,t,s,q,CL (gF d<|GG h) (aN (bH<|aJ rfl rfl<|gU<|by rw[RF];exact bPl<|by rw[Ij,n];rfl)<|aN (lD ?_ e)<|bH rfl) B,D⟩
   show ((e2 jb (aA 0)<|aA 6) _).bind _=_;rw[aJ (z:=.ok<|Mq S T x.1) rfl rfl (by
    show aP (Nc true (qD x.1)=true) (Ci<|pL _ _<|qD x.1)=_;rw[aD (c:=Nc true (qD x.1)=true) rfl,get_map (Mq S T)<|IL.mpr<|(b.lt x<|Bm n).1];rfl)]
   rfl
  have:i=a.length:=by lia
  subst this;exact⟨a,m,j,x8,SX<|gF d<|d8 h,b⟩
theorem bBb(M:Rc S rk c)(g:Rc T Ta c)(f:l<S.length)(d:r<T.length):∃a,vD [Fw S T,qD (l,r),.lst<|(Ej S.length T.length 0 S.length).map qD]=.ok (.Ug true (kQ a)<|wQ a)/\B2 S T c l r a.length 0 a:=by
 obtain⟨a,j,i,h,e,b⟩:=M3 M g 65 0 [((l,r),[])] none none none 100000 (by lia) (by lia) (BG.start ⟨f,d⟩)<|rh _
 refine⟨a,bT rfl<|aN (st':=[Fw S T,qD (l,r),D.lst<|(Ej S.length T.length 0 S.length).map qD,some<|.o (.d true [qD (l,r)]) [.str []],none,none,none,none,none]) ?_ ?_,b⟩
 .exact aD ⟨rfl,rfl⟩
 refine aN (sO<|gY rfl)<|aN (bH rfl)<|aN (by rwa [OX]) ?_
 simp[Rn]
end
theorem Yy{b:Type}{C E:Ex}{st:za}{j:Nat}(F G:b->D){q:b->Bool}:∀l:List b,(∀a∈l,C (st.set j<|F a)=.ok (.bl<|q a)/\(q a=true->E (st.set j<|F a)=.ok (G a)))->mK (Pb j) C E st (l.map F)=.ok ((l.filter q).map G)
 |[],_=>rfl
 |a::l,h=>by
  obtain⟨d,f⟩:=h a Zb;rw[Wf,nA,show Pb j (F a) st=.ok _ from rfl,bN,d,bN,BN,Yy F G l λa c=>h a<|Lc _ c]
  cases e:q a with
  |true=>
   simp_all
  |false=>
   simp_all
theorem yE{E:Ex}{st:za} (F G:α->D) {l:List α} (h:it st=.ok (l.map F)) (d:l.length<=1000000) (c:∀a∈l,E ((st.set j none).set j<|F a)=.ok (G a)):bU [j] (Pb j) it cA E st=.ok (.lst<|l.map G):=by
 have:=Yy (C:=cA) F G l λa b=>⟨rfl,λ_=>c a b⟩
 rw[List.filter_eq_self.mpr λ_ _=>rfl]at this
 exact lU h (by simp_all) this
def bJx(L:f8):∃b:f8,(FG<|L.map cP).map pD=b.map qD/\b.Perm L:=by
 have c:=ŏ<|L.map cP;refine⟨(FG<|L.map cP).map λp=>(p.1.toNat,p.2.toNat),?_,?_⟩
 .rw[Gh];refine Pr λp a=>?_
  obtain⟨q,_,rfl⟩:=gf.mp<|c.mem_iff.mp a;rfl
 have:=c.map λp:Int×Int=>(p.1.toNat,p.2.toNat)
 rw[Gh]at this;have e:L.map ((λp:Int×Int=>(p.1.toNat,p.2.toNat)) ∘ cP)=L:=by
  conv=>rhs;rw[<-List.map_id L]
  exact Pr λp _=>rfl
 rwa [e]at this
section
variable{S T:am}{rk Ta:ac}{c l r:Nat}
structure Sd(S T:am)(c l r:Nat)(sq:f8)(fr:GM):Prop where
 nd:sq.Nodup
 inr:∀p∈sq,Xm S.length T.length p
 len:sq.length<=64
 cl:∀p∈sq,∀k,k<c->Zf S T p k∈sq
 lead:∀p∈sq,Fg (Zf S T) (l,r) (fr p)=p/\Ke c (fr p)/\(fr p).length<=64
 least:∀v,Ke c v->Fg (Zf S T) (l,r) v∈sq/\sle (fr<|Fg (Zf S T) (l,r) v) v
def uS(S T:am)(c:Nat)(a:f8):am:=a.map λp=>(List.range c).map λk=>a.idxOf<|Zf S T p k
def Jn(rk:ac)(a:f8):ac:=a.map λp=>rk.getD p.1 0
def Kn(b:ac)(a:f8):ac:=a.map λp=>b.getD p.2 0
def kU(S T:am)(rk d:ac)(c:Nat)(a:f8)(b:GM):D:=.ins "Sides" ["pairs","fronts","steps","lefts","rights"] [.lst<|a.map qD,.lst<|a.map λp=>D.str<|b p,.lst<|cc<|uS S T c a,.lst<|ja<|Jn rk a,.lst<|ja<|Kn d a]
def yy:cN "Machine" "ranks" (mD S rk c)=.ok (.lst<|ja rk):=by unfold mD;rw[kZ,aD rfl];rfl
def hX:cD [mD S rk c,mD T Ta c]=.ok .xc:=by
 unfold cD rJ;simp[nQ,Ql]
def QN{x:Nat}(h:x<S.length):bW [mD S rk c,.int x]=.ok .xc:=by
 unfold bW rA;have:PF S.length (.int x)=true:=by simp[PF,h]
 simp[EL,(bAh (.int x) S.length rfl),this]
def Yo(x:Nat)(d:re)(xs:db)(f e a b:D)(x5 c:im):za:=[some<|.o (.i x "Sides" d) xs,some<|.v f,some<|.v e,some<|.v a,some<|.v b,x5,c,none,none]
def EY{x:Nat}{f:re} {d h g a b:D} {e c x8:im}:e1 (cN "Sides" "pairs") (dF 0) [some<|.o (.i x "Sides"<|"pairs" :: f)<|d::xs,h,g,a,b,x5,e,c,x8]=.ok d:=by
 simp
def zy{x:Nat}{c:re}{a b:D} {f:String} {e:Ex} (h:e (Yo x c xs m1 m2 a b x5 x6)=.ok d) (g:f∉c/\c.length<900):gQ 0 "Sides" f e (Yo x c xs m1 m2 a b x5 x6)=.ok (.nx<|Yo x (c++[f]) (xs++[d]) m1 m2 a b x5 x6):=by
 rw[aZz,h];exact aD ⟨rfl,g⟩
def Y5{a vs:db}{p:wn} (h:pL a vs (qD p)=some d):jb (.Ug true a vs) (qD p)=.ok d:=by
 show aP _ _=_;rw[aD (c:=Nc true (qD p)=true) rfl,h];rfl
theorem bNb{g:wn}(h:g∈sq):(sq.map qD).findIdx? (λd=>ae d<|qD g)=some (sq.idxOf g):=by
 induction sq with
 |nil=>nomatch h
 |cons p sq a=>
  rw[Wf,List.findIdx?_cons,d7];grind
def Wv{l:ac}{i:Nat}(h:i<l.length):Ye (ja l) (i:Int)=some (.int (l.getD i 0:Nat)):=by
 rw[Dc (by rwa [bG])]
 simp[ja,h]
theorem bBd(M:Rc S rk c)(n:Rc T Ta c)(N:S.length<=7)(F:l<S.length)(E:r<T.length):∃a j,lN [mD S rk c,mD T Ta c,.int l,.int r]=.ok (kU S T rk Ta c a j)/\Sd S T c l r a j:=by
 obtain⟨qa,C,b⟩:=bBb M n F E;obtain⟨a,J,h⟩:=bJx (qa.map (·.1));have L:qa.length<64:=by
  have:=pairs_len b.nd (λp g=>by obtain⟨x,f,rfl⟩:=gf.mp g;exact(b.lt x f).1) N n.most
  rw[Yc]at this;lia
 have K:a.length<=64:=by rw[h.length_eq,Yc];lia
 have A:∃j:GM,∀x∈qa,j x.1=x.2:=by
  refine⟨λp=>((qa.find? λx=>decide (x.1=p)).map (·.2)).getD [],λx f=>?_⟩
  have u:=b.nd;clear C b J h L K
  induction qa with
  |nil=>nomatch f
  |cons y qa O=>
   rw[Wf,xn]at u;dsimp only;rw[find?_cons];rcases qc.mp f with rfl|f
   .rw[fh rfl];rfl
   rw[bf λz:y.1=x.1=>u.1 (by rw[z];exact gf.mpr ⟨x,f,rfl⟩)]
   exact O f u.2
 obtain⟨j,m⟩:=A;have s:∀p∈a,∃x∈qa,x.1=p:=λp g=>gf.mp<|h.mem_iff.mp g
 have I:=λx f=>h.mem_iff.mpr<|gf.mpr ⟨x,f,rfl⟩
 have o:Sd S T c l r a j:=by
  refine⟨h.nodup_iff.mpr b.nd,λp g=>?_,K,λp g k hk=>?_,λp g=>?_,λv hv=>?_⟩
  .obtain⟨x,f,rfl⟩:=s p g;exact(b.lt x f).1
  .obtain⟨x,f,rfl⟩:=s p g;obtain⟨i,q⟩:=mn.mp f;obtain⟨y,t,e,_⟩:=b.cls i x k q hk<|.inl (xg.mp q).1;rw[<-e];exact I y t
  .obtain⟨x,f,rfl⟩:=s p g;obtain⟨i,q⟩:=mn.mp f;have G:=b.wl i i x (Ec _) q;have P:=(xg.mp q).1;rw[m x f];exact⟨(b.lt x f).2.1,(b.lt x f).2.2,by lia⟩
  obtain⟨y,t,e1,e2⟩:=b.whole hv;rw[<-e1,m y t];exact⟨I y t,e2⟩
 refine⟨a,j,(bEa λx=>?_),o⟩
 unfold wK;rw[aD<|show ([mD S rk c,mD T Ta c,D.int l,D.int r]).length=4 from rfl]
 let st (ns:re) (xs:db):=Yo x ns xs (mD S rk c) (mD T Ta c) (.int l) (.int r) (Fw S T)<|D.Ug true (kQ qa)<|wQ qa
 have it:∀ns xs,Cd (e1 (cN "Sides" "pairs")<|dF 0) (st ("pairs" :: ns)<|.lst (a.map qD)::xs)=.ok (a.map qD):=λns xs=>pC EY
 have U:∀ns xs,bU [7] (Pb 7) (Cd<|e1 (cN "Sides" "pairs")<|dF 0) cA tX (st ("pairs" :: ns)<|.lst (a.map qD)::xs)=.ok (.lst<|cc<|uS S T c a):=λns xs=>by
  unfold cc uS;rw[Gh];refine yE qD _ (it ns xs) (by lia) λp g=>?_
  have B:=o.inr p g;have H:=M.c3;have Q:Mn S T p=(List.range c).map (Zf S T p):=by
   refine List.ext_getElem (by rw[(IE M n B)];simp) λi G P=>?_
   rw[W5 M n B G];simp
  obtain⟨p1,p2⟩:=K3 a;refine(yE (λk=>qD<|Zf S T p k) (λk=>D.int<|a.idxOf<|Zf S T p k) (pC<|aJ rfl rfl<|Y5 (by
    rw[get_map (Mq S T)<|IL.mpr B];unfold Mq;rw[Q,Gh];rfl)) (by rw[fx];lia) λk hk=>by
   show ((e1 (cN "Sides" "pairs")<|dF 0) _).bind _=_;rw[show (e1 (cN "Sides" "pairs")<|dF 0) ((((st ("pairs" :: ns)<|.lst (a.map qD)::xs).set 7 none).set 7<|qD p).set 8 none |>.set 8 (qD<|Zf S T p k))=.ok (.lst<|a.map qD) from EY,bN]
   show (Ci<|(a.map qD).findIdx? λd=>ae d<|qD<|Zf S T p k).bind _=_
   rw[bNb<|o.cl p g k<|Jj.mp hk];exact aD ⟨fK (by rw[Yc];lia),by lia,by simp[qD],p1⟩).trans ?_
  unfold ja;rw[Function.comp_apply,Gh];rfl
 have H:∀ns xs,bU [7] (Pb 7) (Cd<|e1 (cN "Sides" "pairs")<|dF 0) cA tY (st ("pairs" :: ns)<|.lst (a.map qD)::xs)=.ok (.lst<|ja<|Jn rk a):=λns xs=>by
  unfold ja Jn;rw[Gh];exact yE qD _ (it ns xs) (by lia) λp g=>aJ yy rfl<|gU<|Wv<|by rw[M.rm];exact(o.inr p g).1
 have R:∀ns xs,bU [7] (Pb 7) (Cd<|e1 (cN "Sides" "pairs")<|dF 0) cA tZ (st ("pairs" :: ns)<|.lst (a.map qD)::xs)=.ok (.lst<|ja<|Kn Ta a):=λns xs=>by
  unfold ja Kn;rw[Gh];exact yE qD _ (it ns xs) (by lia) λp g=>aJ yy rfl<|gU<|Wv<|by rw[n.rm];exact(o.inr p g).2
 have w:iV (Yo x [] [] (mD S rk c) (mD T Ta c) (.int l) (.int r) none none)=.ok (.nx<|st ["pairs","fronts","steps","lefts","rights"] [.lst<|a.map qD,.lst<|a.map λp=>D.str<|j p,.lst<|cc<|uS S T c a,.lst<|ja<|Jn rk a,.lst<|ja<|Kn Ta a]):=by
  unfold iV;refine aN (st':=Yo x [] [] (mD S rk c) (mD T Ta c) (.int l) (.int r) none none) ?_ ?_
  .show (aV _ _ _).bind _=_;rw[aQ (x:=.ok .xc) rfl (show (cD [mD S rk c,mD T Ta c]).Ve=_ by rw[hX];rfl)]
   rfl
  refine aN (st':=Yo x [] [] (mD S rk c) (mD T Ta c) (.int l) (.int r) none none) ?_<|aN (st':=Yo x [] [] (mD S rk c) (mD T Ta c) (.int l) (.int r) none none) ?_ ?_
  .show (aP _<|bW [mD S rk c,.int l]).bind _=_;rw[QN F,aD (by decide)]
   rfl
  .show (aP _<|bW [mD T Ta c,.int r]).bind _=_;rw[QN E,aD (by decide)]
   rfl
  exact aN (bH<|aQ rfl<|Ř M n)<|aN (bH<|aQ (aO rfl<|aO (by simp[Yo,qD])<|aO (aD<|fK (by rw[Yc,TZ];have:=Lz M.most n.most;lia)) rfl) C)<|aN (zy (by
   show (zv<|kQ qa).bind _=_;rw[RF,j7,bN,<-J];exact aD<|by rw[Yc,Yc];lia)<|by decide)<|aN (zy ((λns xs=>yE qD _ (it ns xs) (by lia) λp g=>by
  obtain⟨x,f,rfl⟩:=s p g;rw[m x f];exact aJ rfl rfl<|Y5<|HG qD QF b.nd f) _ _)<|by decide)<|aN (zy (U _ _)<|by decide)<|aN (zy (H _ _)<|by decide)<|zy (R _ _)<|by decide
 show (iV<|Yo x [] [] (mD S rk c) (mD T Ta c) (.int l) (.int r) none none).bind _=_;rw[w];simp[st,Yo,kU]
end
def Wd(w:D)(a:sK):Prop:=a.length=4/\w=.tup (a.map D.bl)
def wI(a:sK)(p q:Int):Bool:=a.getD (p%2*2+q%2).toNat false
theorem FY{w:D} (a:Wd w ws) (p q:Int):nP [w,.int p,.int q]=.ok (.bl<|wI ws p q):=by
 have c:jb (.tup<|ws.map D.bl) (.int<|p%2*2+q%2)=.ok (.bl<|wI ws p q):=by
  obtain⟨n,b⟩:∃n:Nat,p%2*2+q%2=n:=⟨(p%2*2+q%2).toNat,by lia⟩
  have hl:n<ws.length:=by rw[a.1];lia
  show Ci _=_;unfold wI;rw[b,Dc (by rwa [Yc])]
  simp[hl,Ci]
 refine bT rfl<|cJ<|aJ rfl (aJ (aJ (aJ rfl rfl<|kJ<|by decide) rfl<|aD<|by lia) (aJ rfl rfl<|kJ<|by decide) rfl) ?_
 rwa [a.2]
def kr(a:ac):Prop:=∃rk:ac,rk.length<=8/\∀x∈a,x∈rk
def Ih(a d:D)(U:am)(c b:ac):D:=.ins "Sides" ["pairs","fronts","steps","lefts","rights"] [a,d,.lst<|cc U,.lst<|ja c,.lst<|ja b]
section
variable{pr fr w:D}{U:am}{la lb:ac}{ws:sK}{c:Nat}
def iF:cN "Sides" "lefts" (Ih pr fr U la lb)=.ok (.lst<|ja la):=by unfold Ih;rw[kZ,aD rfl];rfl
def kF:cN "Sides" "rights" (Ih pr fr U la lb)=.ok (.lst<|ja lb):=by unfold Ih;rw[kZ,aD rfl];rfl
def bJy:cN "Sides" "fronts" (Ih pr fr U la lb)=.ok fr:=by unfold Ih;rw[kZ,aD rfl];rfl
def o7:cN "Sides" "steps" (Ih pr fr U la lb)=.ok (.lst<|cc U):=by unfold Ih;rw[kZ,aD rfl];rfl
theorem Ay{x:Int}:∀(l a:li),x∈l.foldl (λa x=>if a.any (· == x) then a else a++[x]) a↔x∈a\/x∈l
 |[],a=>by simp
 |y::l,a=>by
  rw[Sz,Ay l];grind
theorem Z5:∀(l c:li),c.Nodup->(l.foldl (λc x=>if c.any (· == x) then c else c++[x]) c).Nodup
 |[],c,h=>h
 |y::l,c,h=>by
  rw[Sz];refine Z5 l _ ?_
  split
  .exact h
  rename_i d;refine Rr.mpr ⟨h,by simp,λa f b vf e=>d ?_⟩
  simp_all
def RN{x:Int}{l:li}:x∈ym (tL l)↔x∈l:=by
 rw[(wM _).mem_iff];unfold tL;rw[Ay];simp
theorem d6:∀{l:ac}{r:ac},l.Nodup->(∀x∈l,x∈r)->l.length<=r.length
 |[],_,_,_=>rh _
 |a::l,r,b,h=>by
  rw[xn]at b;have:=d6 (r:=r.erase a) b.2 λx c=>(List.mem_erase_of_ne λz=>b.1<|by rwa [<-z]).mpr<|h x<|Lc _ c
  grind
def zz(a:ac):li:=a.map λ(x:Nat)=>(x:Int)
def sF{p:Int}:p∈zz la↔∃x∈la,(x:Int)=p:=gf
theorem LM(h:kr la):(tL<|zz la).length<=8:=by
 obtain⟨rk,k,g⟩:=h;have j:=d6 (l:=(tL<|zz la).map Int.toNat) (by
  unfold Nodup;rw[WH];refine(Z5 (zz la) [] PQ).imp_of_mem λ{a b} i vf c z=>c ?_
  obtain⟨x,_,rfl⟩:=sF.mp<|(Ay _ _).mp i |>.resolve_left (λz=>nomatch z)
  obtain⟨y,_,rfl⟩:=sF.mp<|(Ay _ _).mp vf |>.resolve_left (λz=>nomatch z)
  simp_all) λx f=>by
  obtain⟨z,d,rfl⟩:=gf.mp f;obtain⟨y,e,rfl⟩:=sF.mp<|(Ay _ _).mp d |>.resolve_left (λz=>nomatch z)
  exact g y e
 rw[Yc]at j;lia
theorem i6(h:kr la)(a:la.length<=64):pE (.lst<|ja la)=.ok (.lst<|(ym<|tL<|zz la).map D.int):=by
 show (Ar _).bind _=_;have:ja la=(zz la).map D.int:=by unfold ja zz;rw[Gh];rfl
 have b:=LM h;rw[this,CD];exact aD ⟨by unfold zz;rw[Yc];lia,by lia⟩
def bNc{C E:Ex}{st:za} {q:Int->Bool} {G:Int->D} (l:li) (h:∀a∈l,C (st.set j a)=.ok (.bl<|q a)/\(q a=true->E (st.set j a)=.ok (G a))):mK (Pb j) C E st (l.map D.int)=.ok ((l.filter q).map G):=Yy D.int G l h
theorem iX(fl:kr lb)(j:lb.length<=64)(i:Wd w ws):∀(ps:li) (c:pi) (g:im),c.length+8*ps.length<=1000->
  ∃(d:pi) (r:im),Uc (Pb 3) wU (ps.map D.int) [Ih pr fr U la lb,w,some<|.o .l<|c.map pD,g,none]=.ok (.nx [Ih pr fr U la lb,w,some<|.o .l<|d.map pD,r,none])/\d.length<=c.length+8*ps.length/\∀z,z∈d↔z∈c\/(z.1∈ps/\z.2∈zz lb/\wI ws z.1 z.2=true)
 |[],c,g,_=>⟨c,g,rfl,by simp,by simp⟩
 |p::ps,c,g,o=>by
  rw[fg]at o
  let a:=((ym<|tL<|zz lb).filter λq=>wI ws p q).map λq=>(p,q)
  have u:=LM fl;have t:a.length<=8:=by
   show (List.map _ _).length<=_;rw[Yc];refine Nh (UP _ _) ?_
   rwa [(wM _).length_eq]
  obtain⟨d,k,e,m,l⟩:=iX fl j i ps (c++a) p (by rw[Pg];lia)
  refine⟨d,k,?_,?_,λz=>?_⟩
  .rw[Wf];refine nD (s1:=[Ih pr fr U la lb,w,some<|.o .l<|c.map pD,p,none]) rfl ?_ e;show Yt 2 _ _=_;rw[(FN (ys:=a.map pD) (by
    refine lU (xs:=(ym<|tL<|zz lb).map D.int) (pC ?_) ?_ ?_
    .rw[iw,show e1 (cN "Sides" "rights") (aA 0) [Ih pr fr U la lb,w,some<|.o .l<|c.map pD,p,none]=.ok (.lst<|ja lb) from kF,bN]
     exact i6 fl j
    .rw[Yc,(wM _).length_eq];lia
    have:=bNc (C:=wR) (E:=pR) (st:=[Ih pr fr U la lb,w,some<|.o .l<|c.map pD,p,none]) (j:=4) (G:=λq=>pD (p,q)) (ym<|tL<|zz lb) λq _=>⟨aQ rfl<|FY i p q,λ_=>by simp[pR,pD]⟩
    show mK _ _ _ _ _=.ok (List.map pD<|List.map _ _)
    rwa [Gh]) rfl<|fK<|by rw[Yc,Yc];lia),qh]
   rfl
  .rw[Pg]at m;rw[fg];lia
  rw[l,Wh,qc];have s:z∈a↔z.1=p/\z.2∈zz lb/\wI ws z.1 z.2=true:=by
   show z∈List.map _ _↔_;rw[gf];constructor
   .rintro⟨q,n,rfl⟩;obtain⟨b,f⟩:=Nk.mp n;exact⟨rfl,RN.mp b,f⟩
   rintro⟨b,f,v⟩;exact⟨z.2,Nk.mpr ⟨RN.mpr f,by rwa [<-b]⟩,by rw[<-b]⟩
  rw[s];constructor
  .rintro((h|⟨b,f⟩)|⟨b,f⟩)
   .exact .inl h
   .exact .inr ⟨.inl b,f⟩
   exact .inr ⟨.inr b,f⟩
  rintro(h|⟨b|b,f⟩)
  .exact .inl (.inl h)
  .exact .inl (.inr ⟨b,f⟩)
  exact .inr ⟨b,f⟩
theorem ř(b:kr la)(h:kr lb)(g:la.length<=64)(vf:lb.length<=64)(f:Wd w ws):∃a:pi,oE [Ih pr fr U la lb,w]=.ok (.lst<|a.map pD)/\a.length<=64/\∀z,z∈a↔z.1∈zz la/\z.2∈zz lb/\wI ws z.1 z.2=true:=by
 have j:=LM b;have hl:(ym<|tL<|zz la).length<=8:=by rwa [(wM _).length_eq]
 obtain⟨a,i,e,d,c⟩:=iX h vf f (ym<|tL<|zz la) [] none (by simp;lia)
 refine⟨a,bT rfl<|aN (sO<|gY rfl)<|aN (lD (pC ?_) e) ?_,by simp at d;lia,λz=>by rw[c,RN];simp⟩
 .show (cN "Sides" "lefts"<|Ih pr fr U la lb).bind _=_;rw[iF];exact i6 b g
 rfl
end
def xp(p q:Int):Nat->List (Nat×Nat)->List Nat
 |_,[]=>[]
 |k,x::l=>if (x.1:Int)<=p/\(x.2:Int)<=q then k::xp p q (k+1) l else xp p q (k+1) l
def BK(p q:Int)(k:Nat)(x:wn)(l:f8):xp p q k (x::l)=if (x.1:Int)<=p/\(x.2:Int)<=q then k::xp p q (k+1) l else xp p q (k+1) l:=rfl
theorem UK{p q:Int}{i:Nat}:∀{l:f8} {k:Nat},i∈xp p q k l↔k<=i/\∃x,l[i-k]?=some x/\(x.1:Int)<=p/\(x.2:Int)<=q
 |[],k=>by simp[xp]
 |x::l,k=>by
  have c:(k<=i/\∃y,(x::l)[i-k]?=some y/\(y.1)<=p/\(y.2)<=q)↔(i=k/\(x.1)<=p/\(x.2)<=q)\/(k+1<=i/\∃y,l[i-(k+1)]?=some y/\(y.1)<=p/\(y.2)<=q):=by
   constructor
   .rintro⟨d,y,a,b⟩
    by_cases e:i=k
    .subst e;rw[Oz]at a;cases a;exact .inl ⟨rfl,b⟩
    rw[show i-k=(i-(k+1))+1 by lia]at a
    exact .inr ⟨by lia,y,a,b⟩
   rintro(⟨rfl,h⟩|⟨d,y,a,b⟩)
   .exact⟨Ec _,x,by rw[Oz];rfl,h⟩
   exact⟨by lia,y,by rwa [show i-k=(i-(k+1))+1 by lia],b⟩
  rw[c,<-(UK),BK];split
  .rename_i h;rw[qc];exact⟨λz=>z.imp (λe=>⟨e,h⟩) id,λz=>z.imp (λe=>e.1) id⟩
  rename_i h;exact⟨.inr,λz=>z.resolve_left λe=>h e.2⟩
theorem VZ{p q:Int}:∀(l:f8) (k:Nat),(xp p q k l).length<=l.length
 |[],_=>Ec _
 |x::l,k=>by
  have:=VZ (p:=p) (q:=q) l<|k+1;rw[BK];split<;>simp<;>lia
theorem GY{p q:Int}{a:im}{d3:im}:∀(l:f8) (k:Nat),mK (Xj [4,5]) rO zH [a,p,q,d3,none,none] (wL k<|l.map qD)=.ok (ja<|xp p q k l)
 |[],_=>rfl
 |x::l,k=>by
  show mK _ _ _ _ (.tup [.int k,qD x] :: wL (k+1) _)=_;rw[nA,show Xj [4,5] _ [a,some _,some _,d3,none,none]=.ok [a,some _,some _,d3,some _,some _] from rfl,bN]
  have b:rO [a,p,q,d3,k,qD x]=.ok _:=yC rfl λ_=>rfl
  rw[b,bN,BN,GY l<|k+1,BK]
  by_cases h:(x.1)<=p/\(x.2)<=q
  .rw[Kb h,fh h.1,fh h.2];rfl
  rw[Pa h,Pa (by simpa using h)]
def Uj(b a:ac)(p q:Int):Nat:=Dp<|xp p q 0<|b.zip a
def bF7{l:li}(h:l≠[]):Zm l∈l/\∀x∈l,x<=Zm l:=by
 cases l with
 |nil=>exact(h rfl).elim
 |cons i r=>
  obtain⟨c,b,a⟩:=DD r i;refine⟨?_,λx hx=>?_⟩
  .rcases a with a|a
   .show r.foldl _ i∈_;rw[a];exact Zb
   exact Lc _ a
  rcases qc.mp hx with rfl|hx
  .exact c
  exact b x hx
def Ep(rk:ac)(n:Nat):Int:=Zm<|(cW n).map λr=>(rk.getD r 0:Int)
def N3(a:n≠0):cW n≠[]:=λz=>a (by
 have:=YX n;rw[z]at this;exact this.symm)
def WZ{n:Nat}(d:n≠0):(∃r∈cW n,(rk.getD r 0:Int)=Ep rk n)/\∀r∈cW n,(rk.getD r 0:Int)<=Ep rk n:=by
 obtain⟨c,b⟩:=bF7 (l:=(cW n).map λr=>(rk.getD r 0)) (by simpa using N3 d)
 obtain⟨r,a,e⟩:=gf.mp c;exact⟨⟨r,a,e⟩,λr a=>b _<|gf.mpr ⟨r,a,rfl⟩⟩
def j6{n r:Nat}{p:Int}(a:r∈cW n)(e:(rk.getD r 0:Int)=p)(b:∀r∈cW n,(rk.getD r 0:Int)<=p):Ep rk n=p:=
 mE (gf.mpr ⟨r,a,e⟩) λx c=>by
  obtain⟨r,a,rfl⟩:=gf.mp c;exact b r a
def jA{st:za} (h:r st=.ok ds) (a:ds.length<=1000:=by exact Qr rfl):oZ r st=.ok (.tup ds):=by rw[bEc,h,bN,aD<|fK<|Nh a<|by decide]
structure Pl(U:am)(la lb:ac)(c:Nat):Prop where
 m:qf U la c
 fa:kr la
 fb:kr lb
 la:la.length=U.length
 lb:lb.length=U.length
section
variable{pr fr w:D}{U:am}{la lb:ac}{ws:sK}{c n:Nat}{p q:Int}
def SN(P:Pl U la lb c):i∈cW (Uj la lb p q)↔i<U.length/\(la.getD i 0:Int)<=p/\(lb.getD i 0:Int)<=q:=by
 unfold Uj;rw[ZX,UK,UQ];have f:(la.zip lb).length=U.length:=by rw[length_zip,P.la,P.lb,Nat.min_self]
 constructor
 .rintro⟨_,x,d,b⟩;have a:=(xg.mp d).1;rw[f]at a;have e:x=(la[i]'(by rwa [P.la]),lb[i]'(by rwa [P.lb])):=by
   rw[Be (by rwa [f])]at d
   cases d;exact List.getElem_zip
  subst e;simpa [P.la,P.lb,a] using b
 rintro⟨a,b⟩;simpa [P.la,P.lb,a] using b
def SF(P:Pl U la lb c):Uj la lb p q<2^U.length:=by
 exact IM λi a=>((SN P).mp<|ZX.mpr a).1
theorem bF8(P:Pl U la lb c):qN [Ih pr fr U la lb,.int p,.int q]=.ok (.int<|Uj la lb p q):=by
 have g:=P.m.most;have f:=P.la;have d:(la.zip lb).length<=64:=by rw[length_zip];lia
 have e:=VZ (p:=p) (q:=q) (la.zip lb) 0;refine bT rfl<|aN (st':=[some _,some _,some _,D.lst<|(la.zip lb).map qD,none,none]) (bH<|aJ iF kF ?_)<|cJ<|aQ (aO (lU ?_ ?_<|GY _ _) rfl)<|HM (λi hi=>?_)<|by lia
 .rw[<-WO];rfl
 .rfl
 .have:∀(k:Nat)(l:db),(wL k l).length=l.length:=λk l=>by
   induction l generalizing k with
   |nil=>rfl
   |cons x l a=>show (wL (k+1) l).length+1=_;rw[a];rfl
  rw[this,Yc];lia
 obtain⟨_,x,b,_⟩:=UK.mp hi;have:=(xg.mp b).1;lia
theorem bBi(P:Pl U la lb c)(e:n<2^U.length)(i:n≠0):lM [Ih pr fr U la lb,.int n]=.ok (.tup [.int<|Ep la n,.int<|Ep lb n]):=by
 have k:=P.m.most;have hl:=mO U.length _ (lF _) λx f=>fO e f
 have b:∀{E:Ex}{a:ac},a.length=U.length->(∀r:Nat,r<a.length->E [Ih pr fr U la lb,n,D.lst<|ja<|cW n,r]=.ok (.int<|a.getD r 0))->e1 Br (bU [3] (Pb 3) (Cd<|aA 2) cA E) [Ih pr fr U la lb,n,D.lst<|ja<|cW n,none]=.ok (.int<|Ep a n):=λ{E a} h g=>by
  have j:(cW n).map (λr=>D.int<|a.getD r 0)=((cW n).map λr=>(a.getD r 0:Int)).map D.int:=by rw[Gh];rfl
  rw[iw,(yE (λ(x:Nat)=>D.int x) (λr=>D.int<|a.getD r 0) rfl (by lia) λr d=>g r<|by rw[h];exact fO e d),j]
  show (Ar _).bind _=_;rw[CD,bN];exact aD (by rw[Yc];exact Dz.mpr<|N3 i)
 exact bT rfl<|aN (bH<|aQ rfl<|xF e<|by lia)<|cJ<|jA<|aO (b P.la λr d=>aJ iF rfl<|gU<|Wv d)<|aO (b P.lb λr d=>aJ kF rfl<|gU<|Wv d) rfl
def MM(P:Pl U la lb c){k m:Nat}(b:k<2^U.length)(h:m∈uC U c k):m<2^U.length/\m≠0:=by
 obtain⟨r,a,rfl,_⟩:=TK.mp h;refine⟨J3,λz=>?_⟩
 have:=QZ P.m b a;rw[z]at this;exact absurd (cO.mp this) (by simp)
theorem Ś{k:Nat}:(uC U c k).length<=(cW k).length:=by
 have d:∀(a ps:ac),(a.foldl (λps r=>if iJ U c k r∉ps/\Md U (iJ U c k r)=true then ps++[iJ U c k r] else ps) ps).length<=ps.length+a.length:=λa=>by
  induction a with
  |nil=>simp
  |cons r a b=>
   intro ps;rw[Sz,fg];refine Nh (b _) ?_
   split
   .rw[Pg,vn];lia
   lia
 simpa [uC] using (d _ [])
def Zy(U:am)(c:Nat)(b a:ac)(z:Do)(m:Nat):Prop:=m∈uC U c (Uj b a z.1 z.2)/\Ep b m=z.1/\Ep a m=z.2
theorem QW(P:Pl U la lb c):∀(i:pi) (f:ac) (l k x5:im),f.length+64*i.length<=10000->
  ∃(g:ac)(I J B:im),Uc (Xj [3,4]) wX (i.map pD) [Ih pr fr U la lb,w,some<|.o .l<|ja f,l,k,x5,none]=.ok (.nx [Ih pr fr U la lb,w,some<|.o .l<|ja g,I,J,B,none])/\g.length<=f.length+64*i.length/\∀m,m∈g↔m∈f\/∃z∈i,Zy U c la lb z m
 |[],f,l,k,x5,_=>⟨f,l,k,x5,rfl,by simp,by simp⟩
 |z::i,f,l,k,x5,C=>by
  rw[fg]at C;have L:=P.m.most;have n:=SF (p:=z.1) (q:=z.2) P
  let d:=(uC U c<|Uj la lb z.1 z.2).filter λm=>decide (Ep la m=z.1)&&decide (Ep lb m=z.2)
  have A:(uC U c<|Uj la lb z.1 z.2).length<=64:=by
   have p:=mO U.length _ (lF _) λx o=>fO n o
   have:=Ś (U:=U) (c:=c) (k:=Uj la lb z.1 z.2);lia
  have v:d.length<=64:=Nh (UP _ _) A;obtain⟨g,s,r,q,e,u,t⟩:=QW P i (f++d) z.1 z.2 (D.lst<|ja<|uC U c<|Uj la lb z.1 z.2) (by rw[Pg];lia)
  refine⟨g,s,r,q,?_,by rw[Pg]at u;rw[fg];lia,λm=>?_⟩
  .rw[Wf];refine nD rfl (aN (bH<|aQ (aO o7<|aO (aQ rfl<|bF8 P) rfl)<|ā P.m n) ?_) e;have o:=FN (i:=2) (f:=bU [6] (Pb 6) (Cd<|aA 5) wW wV) (st:=[Ih pr fr U la lb,w,some<|.o .l<|ja f,z.1,z.2,D.lst<|ja<|uC U c<|Uj la lb z.1 z.2,none]) (ys:=ja d) (by
    refine lU rfl (by rw[bG];lia)<|Yy (λ(x:Nat)=>D.int x) (λx=>D.int x) _ λm E=>⟨?_,λ_=>rfl⟩
    obtain⟨p,F⟩:=MM P n E;refine aJ (aQ rfl<|bBi P p F) (jA rfl)<|(aD ⟨by simp[zg,jR],by simp,by simp⟩).trans ?_
    have H:∀a b:Int,(a==b)=decide (a=b):=λa b=>by by_cases h:a=b<;>simp[h]
    simp[ae,pM,H]) rfl (fK<|by rw[bG,bG];lia)
   have G:ja (f++d)=ja f++ja d:=by unfold ja;rw[qh]
   rwa [G]
  rw[t,Wh];have K:m∈d↔Zy U c la lb z m:=by
   show m∈List.filter _ _↔_;rw[Nk,Xr,Ni,Ni];exact jx
  rw[K];constructor
  .rintro((h|h)|⟨y,j,h⟩)
   .exact .inl h
   .exact .inr ⟨z,Zb,h⟩
   exact .inr ⟨y,Lc _ j,h⟩
  rintro(h|⟨y,j,h⟩)
  .exact .inl (.inl h)
  rcases qc.mp j with rfl|j
  .exact .inl (.inr h)
  exact .inr ⟨y,j,h⟩
theorem ś(P:Pl U la lb c)(n:Wd w ws):∃f:ac,oF [Ih pr fr U la lb,w]=.ok (.lst<|ja f)/\f.length<=10000/\∀m,m∈f↔∃z:Do,z.1∈zz la/\z.2∈zz lb/\wI ws z.1 z.2=true/\Zy U c la lb z m:=by
 have s:=P.m.most;have r:=P.la;have vf:=P.lb;obtain⟨zs,k,o,g⟩:=ř P.fa P.fb (by lia) (by lia) n
 obtain⟨f,q,p,x5,e,j,i⟩:=QW P zs [] none none none (by simp;lia)
 refine⟨f,bT rfl<|aN (sO<|gY rfl)<|aN (lD (pC<|aQ rfl k) e) rfl,by simp at j;lia,λm=>?_⟩
 rw[i];constructor
 .rintro(h|⟨z,l,h⟩)
  .nomatch h
  obtain⟨a,b,d⟩:=(g z).mp l;exact⟨z,a,b,d,h⟩
 rintro⟨z,a,b,d,h⟩;exact .inr ⟨z,(g z).mpr ⟨a,b,d⟩,h⟩
theorem HY:∀(l:ac)(b:Nat)(a c:im),∃(d:Nat)(g:im),Uc (Pb 2) VW (ja l) [a,b,c]=.ok (.nx [a,d,g])/\∀i,d.testBit i=true↔b.testBit i=true\/∃m∈l,m.testBit i=true
 |[],b,a,c=>⟨b,c,rfl,by simp⟩
 |m::l,b,a,c=>by
  obtain⟨d,f,e,h⟩:=HY l _ a _;refine⟨d,f,nD rfl (bH<|aJ rfl rfl<|JM b m) e,λi=>?_⟩
  rw[h,QQ,or_eq_true,or_assoc];simp
theorem Ŝ{l:ac}{k:Nat}(b:∀m∈l,m<2^k)(g:k<=64):∃d:Nat,MD [.lst<|ja l]=.ok (.int d)/\d<2^k/\∀i,i∈cW d↔∃m∈l,i∈cW m:=by
 obtain⟨d,f,e,h⟩:=HY l 0 _ none;refine⟨d,bT rfl<|aN (bH rfl)<|aN (lD (pC rfl) e) rfl,I8 _ λi j=>?_,λi=>?_⟩
 .cases c:d.testBit i with
  |false=>rfl
  |true=>
   obtain z|⟨m,a,z⟩:=(h i).mp c
   .simp at z
   have:=fO (b m a)<|cO.mpr z;lia
 rw[cO,h];simp[cO]
end
section
variable{U:am}{la lb:ac}{ws:sK}{c n:Nat}
def Ef(U:am):Nat->List Nat->List Nat
 |_,[]=>[]
 |i,ch::w=>yd U i (ch-97)::Ef U (yd U i<|ch-97) w
abbrev Yh(U:am):Nat->List Nat->Nat:=Fg<|yd U
theorem Kv:∀(x y:ac)(i:Nat),Ef U i (x++y)=Ef U i x++Ef U (Yh U i x) y
 |[],_,_=>rfl
 |ch::x,y,i=>by
  show _::Ef U _ (x++y)=_;rw[Kv x y];rfl
theorem xG:∀(x:ac)(i:Nat),Yh U i x=i/\x=[]\/Yh U i x∈Ef U i x
 |[],_=>.inl ⟨rfl,rfl⟩
 |ch::x,i=>.inr (by
  show Yh U _ x∈yd U i _::Ef U _ x;rcases xG x _ with ⟨h,_⟩|h
  .rw[h];exact Zb
  simp_all)
def yk(b:ac)(a:Nat)(c:ac):Nat:=c.foldl (λa g=>max a<|b.getD g 0+1) a
theorem JE(b:ac):∀(c:ac)(a:Nat),a<=yk b a c/\(∀g∈c,b.getD g 0+1<=yk b a c)/\(yk b a c=a\/∃g∈c,yk b a c=b.getD g 0+1)
 |[],a=>⟨Ec _,λ_ h=>(nomatch h),.inl rfl⟩
 |g::c,a=>by
  obtain⟨f,e,d⟩:=JE b c<|max a<|b.getD g 0+1;refine⟨?_,λx hx=>?_,?_⟩
  .show a<=yk b (max a _) c;lia
  .show b.getD x 0+1<=yk b _ c;rcases qc.mp hx with rfl|hx
   .lia
   exact e x hx
  show yk b (max a _) c=a\/_;rcases d with d|⟨x,hx,d⟩
  .rcases VQ (b.getD g 0+1) a with z|z
   .exact .inl (by lia)
   exact .inr ⟨g,Zb,by show yk b _ c=_;lia⟩
  exact .inr ⟨x,Lc _ hx,d⟩
structure WR(U:am)(la lb:ac)(ws:sK)(c i:Nat)(t:ac):Prop where
 ne:t≠[]
 lt:Ke c t
 cl:Yh U i t=i
 wt:wI ws ((yk la 0 (Ef U i t):Nat)-1:Int) ((yk lb 0 (Ef U i t):Nat)-1:Int)=true
theorem O3(b:IR):∀(w:ac)(i:Nat),Ke c w->(∀g∈Ef U i w,b g=true)->Rg U c b i (Yh U i w)/\∀g∈Ef U i w,Rg U c b i g/\Rg U c b g (Yh U i w)
 |[],i,_,_=>⟨.here,λ_ h=>nomatch h⟩
 |ch::w,i,hl,j=>by
  have l:=hl ch Zb;obtain⟨f,e⟩:=O3 b w _ (λx k=>hl x<|Lc _ k) λg a=>j g<|Lc _ a
  have d:Rg U c b i _:=.on .here (by omega)<|j _ Zb
  refine⟨d.trans f,λg a=>?_⟩
  rcases qc.mp a with rfl|a
  .exact⟨d,f⟩
  exact⟨d.trans (e g a).1,(e g a).2⟩
theorem bF9{a b:Nat}(h:Rg U c al a b):∃w,Ke c w/\Yh U a w=b/\∀g∈Ef U a w,al g=true:=by
 induction h with
 |here=>exact⟨[],λ_ h=>(nomatch h),rfl,λ_ h=>nomatch h⟩
 |@on r k _ hl j e=>
  obtain⟨w,i,d,f⟩:=e;refine⟨w++[97+k],λx hx=>?_,by rw[Yh,Jv];show yd U (Yh U a w) k=_;rw[d],λg hg=>?_⟩
  .rcases Wh.mp hx with hx|hx
   .exact i x hx
   rw[Ce.mp hx];constructor<;>lia
  rw[Kv]at hg;rcases Wh.mp hg with hg|hg
  .exact f g hg
  have:Ef U (Yh U a w) [97+k]=[yd U r k]:=by
   rw[d];show [yd U r _]=_;rw[Ow]
  rw[this]at hg
  rwa [Ce.mp hg]
def By{x y:ac}(d:Ke c x)(b:Ke c y):Ke c (x++y):=λz a=>(Wh.mp a).elim (d z)<|b z
theorem ģ(P:Pl U la lb c){z:Do}{m:Nat}(hw:wI ws z.1 z.2=true)(h:Zy U c la lb z m)(o:i∈cW m):∃t,WR U la lb ws c i t:=by
 obtain⟨T,h2,h3⟩:=h;have S:=SF (p:=z.1) (q:=z.2) P;obtain⟨m1,O⟩:=MM P S T;obtain⟨r,H,e,hq⟩:=TK.mp T;have Q:nV U c m:=by rw[<-e];exact ŗ P.m S H (by rwa [e])
 have q:∀{a b:Nat},a∈cW m->b∈cW m->∃w,Ke c w/\Yh U a w=b/\∀g∈Ef U a w,Pq m g=true:=λha vf=>bF9<|Q.2.1 _ ha _ vf
 obtain⟨j,l0,I,a0,N⟩:∃w,Ke c w/\Yh U i w=i/\(∀g∈Ef U i w,Pq m g=true)/\w≠[]:=by
  by_cases vf:∃b∈cW m,b≠i
  .obtain⟨b,vf,ne⟩:=vf;obtain⟨w,x1,u,x3⟩:=q o vf;obtain⟨v,y1,Z,Y⟩:=q vf o;refine⟨w++v,By x1 y1,by rw[Yh,Iv];show Yh U (Yh U i w) v=i;rw[u,Z],λg hg=>?_,λz=>?_⟩
   .rw[Kv,u]at hg;exact(Wh.mp hg).elim (x3 g) (Y g)
   rw[(T8.mp z).1]at u;exact ne u.symm
  have all:=λb Rl=>HP λz=>vf ⟨b,Rl,z⟩
  have hd:(cW m).headD 0=i:=by
   cases R:cW m with
   |nil=>rw[R]at o;nomatch o
   |cons x l=>exact all x (by rw[R];exact Zb)
  have p:=Q.2.2;unfold Md at p;rw[bf (λz=>by
   have M:=lF m;generalize cW m=L at M all z
   match L,z with
   |x::y::l,_=>
    simp[(all x<|by simp),(all y<|by simp)]at M),TQ,Ni,hd]at p
  obtain⟨k,hk1,X⟩:=(SD P.m<|fO m1 o).mp p;have gl:Ef U i [97+k]=[i]:=by
   show [yd U i<|97+k-97]=_;rw[Ow,X]
  refine⟨[97+k],λx G=>by rw[Ce.mp G];constructor<;>lia,?_,λg hg=>?_,by simp⟩
  .show yd U i (97+k-97)=i;rw[Ow,X]
  rw[gl]at hg;rw[Ce.mp hg];exact cO.mp o
 obtain⟨⟨F,W,K⟩,t1⟩:=WZ O;obtain⟨⟨r2,p,J⟩,t2⟩:=WZ O;obtain⟨f,l1,C,a1⟩:=q o W;obtain⟨d,l2,B,a2⟩:=q W p;obtain⟨n,l3,g3,a3⟩:=q p o;have D:Ef U i (j++(f++(d++n)))=Ef U i j++(Ef U i f++(Ef U F d++Ef U r2 n)):=by rw[Kv,Kv,Kv,I,C,B]
 have all:∀g∈Ef U i (j++(f++(d++n))),g∈cW m:=λg hg=>by
  rw[D]at hg;simp at hg;refine cO.mpr ?_
  rcases hg with h|h|h|h
  .exact a0 g h
  .exact a1 g h
  .exact a2 g h
  exact a3 g h
 have ii:i∈Ef U i (j++(f++(d++n))):=by
  rw[D];rcases xG j i with ⟨_,z⟩|z
  .exact absurd z N
  rw[I]at z;exact Kl _ z
 have i1:F∈Ef U i (j++(f++(d++n))):=by
  rcases xG f i with ⟨z,_⟩|z
  .rw[C]at z;rwa [z]
  rw[C]at z;rw[D];exact oh _<|Kl _ z
 have V:∀{s:ac}{A:Nat}{tp:Int},A∈Ef U i (j++(f++(d++n)))->(s.getD A 0)=tp->(∀x∈cW m,(s.getD x 0)<=tp)->((yk s 0<|Ef U i<|j++(f++(d++n)))-1)=tp:=λ{s A tp} H e G=>by
  obtain⟨_,s2,E⟩:=JE s (Ef U i<|j++(f++(d++n))) 0;have:=s2 A H;rcases E with E|⟨g,hg,E⟩
  .lia
  have:=G g<|all g hg;lia
 refine⟨j++(f++(d++n)),λz=>N (T8.mp z).1,By l0<|By l1<|By l2 l3,?_,?_⟩
 .rw[Yh,Iv,Iv,Iv];show Yh U (Yh U (Yh U (Yh U i j) f) d) n=i;rw[I,C,B,g3]
 rwa [V i1 K t1,V (by
  rcases xG d F with ⟨z,_⟩|z
  .rw[B]at z;rwa [z]
  rw[B]at z;rw[D];exact oh _<|oh _<|Kl _ z) J t2,h2,h3]
theorem TN(P:Pl U la lb c):∀(w:ac)(i:Nat),i<U.length->Ke c w->∀g∈Ef U i w,g<U.length
 |[],_,_,_,_,h=>nomatch h
 |ch::w,i,e,hl,g,a=>by
  have f:=hl ch Zb;obtain⟨_,_,_,b⟩:=Ht P.m e (show ch-97<c by omega)
  rcases qc.mp a with rfl|a
  .exact b
  exact TN P w _ b (λx d=>hl x<|Lc _ d) g a
theorem Ĥ(P:Pl U la lb c) {t:ac} (q:i<U.length) (h:WR U la lb ws c i t):∃z:Do,∃m,z.1∈zz la/\z.2∈zz lb/\wI ws z.1 z.2=true/\Zy U c la lb z m/\i∈cW m:=by
 have lt:=TN P t i q h.lt;have k:i∈Ef U i t:=by
  rcases xG t i with ⟨_,z⟩|z
  .exact absurd z h.ne
  rwa [h.cl]at z
 have A:∀(d:ac),d.length=U.length->∃g∈Ef U i t,((yk d 0<|Ef U i t)-1:Int)=(d.getD g 0)/\((d.getD g 0):Int)∈zz d/\∀x∈Ef U i t,(d.getD x 0:Int)<=(d.getD g 0):=λd hl=>by
  obtain⟨_,u,o⟩:=JE d (Ef U i t) 0;have:=u i k;rcases o with o|⟨g,a,o⟩
  .omega
  refine⟨g,a,by lia,sF.mpr ⟨d.getD g 0,?_,rfl⟩,λx D=>by have:=u x D;lia⟩
  rw[Kh,Be (by rw[hl];exact lt g a)]
  exact gj _
 obtain⟨f,s,e1,C,G⟩:=A la P.la;obtain⟨e,H,e2,B,F⟩:=A lb P.lb;have j:=λg a=>(SN P).mpr ⟨lt g a,G g a,F g a⟩
 have w:=h.wt;rw[e1,e2]at w;obtain⟨_,v⟩:=O3 (Pq<|Uj la lb (la.getD f 0)<|lb.getD e 0) t i h.lt λg a=>cO.mp<|j g a
 rw[h.cl]at v;have b:=λg a=>cO.mpr<|(vI P.m q).mpr<|v g a
 have sub:∀g∈cW (iJ U c (Uj la lb (la.getD f 0)<|lb.getD e 0) i),_:=λg a=>(SN P).mp<|bF5 P.m (SF P) (j i k) a
 refine⟨(((la.getD f 0)),((lb.getD e 0))),_,C,B,w,⟨TK.mpr ⟨i,j i k,rfl,?_⟩,j6 (b f s) rfl λr p=>(sub r p).2.1,j6 (b e H) rfl λr p=>(sub r p).2.2⟩,b i k⟩
 unfold Md
 by_cases hl:1<(cW<|iJ U c (Uj la lb (la.getD f 0)<|lb.getD e 0) i).length
 .rw[fh hl];rfl
 rw[bf hl,TQ,Ni];have all:∀g∈cW (iJ U c (Uj la lb (la.getD f 0)<|lb.getD e 0) i),g=i:=λg a=>by
  have n:=b i k;generalize cW (iJ U c (Uj la lb (la.getD f 0)<|lb.getD e 0) i)=L at hl a n
  match L,hl with
  |[],_=>nomatch a
  |[x],_=>rw[Ce.mp a,Ce.mp n]
  |x::y::L,hl=>simp at hl
 have E:(cW<|iJ U c (Uj la lb (la.getD f 0)<|lb.getD e 0) i).headD 0=i:=by
  have n:=b i k;generalize cW (iJ U c (Uj la lb (la.getD f 0)<|lb.getD e 0) i)=L at all n;cases L with
  |nil=>nomatch n
  |cons x l=>exact all x Zb
 rw[E];obtain⟨ch,t',rfl⟩:∃ch t',t=ch::t':=by
  cases t with
  |nil=>exact absurd rfl h.ne
  |cons ch t'=>exact⟨ch,t',rfl⟩
 have I:=h.lt ch Zb;exact(SD P.m q).mpr ⟨ch-97,by omega,(all _<|b (yd U i<|ch-97) Zb)⟩
end
def bJz{tg:Tg} {d v:D} {st:za} (a:tg d st=.ok s1) (b:L s1=.ok (.rt v)):Uc tg L (d::ds) st=.ok (.rt v):=by
 rw[RK,a,bN,b];rfl
def bBj{c:Ex}{b:Bd}{st:za} {v:D} (a:c st=.ok (.bl true)) (vf:b st=.ok (.rt v)):jL c b (n+1) st=.ok (.rt v):=by
 rw[qY,a,vf];rfl
abbrev Tr:=Nat×Nat×Nat
def Je(x:Tr):D:=.tup [.int x.1,.int ((x.2.1:Nat)-1:Int),.int ((x.2.2:Nat)-1:Int)]
theorem XO(x y:Tr):Bg (Je x) (Je y)=decide (x=y):=by
 obtain⟨a,b,d⟩:=x;obtain⟨f,e,c⟩:=y
 by_cases h:(a,b,d)=(f,e,c)
 .cases h;simp[Je,Bg,Ap]
 rw[bf h];simp[Je,Bg,Ap];grind
def d3(U:am)(b a:ac)(x:Tr)(k:Nat):Tr:=(yd U x.1 k,max x.2.1<|b.getD (yd U x.1 k) 0+1,max x.2.2<|a.getD (yd U x.1 k) 0+1)
section
variable{pr fr w:D}{U:am}{la lb:ac}{ws:sK}{c i s:Nat}{qa:List (Tr×List Nat)}
theorem B9:∀(t:ac)(i a b:Nat),Fg (d3 U la lb) (i,a,b) t=(Yh U i t,yk la a<|Ef U i t,yk lb b<|Ef U i t)
 |[],_,_,_=>rfl
 |ch::t,i,a,b=>B9 t _ _ _
def Kr(b:ac)(a:Nat):Prop:=a=0\/∃x∈b,a=x+1
def P3(U:am)(b a:ac)(x:Tr):Prop:=x.1<U.length/\Kr b x.2.1/\Kr a x.2.2
theorem Q3{b:ac}{a g:Nat}(h:Kr b a)(c:g<b.length):Kr b (max a<|b.getD g 0+1):=by
 rcases VQ a _ with z|z
 .rw[Nat.max_eq_right z];refine .inr ⟨b.getD g 0,?_,rfl⟩;grind
 rwa [Nat.max_eq_left z]
def bNd(P:Pl U la lb c)(x:Tr)(k:Nat)(h:P3 U la lb x)(a:k<c):P3 U la lb (d3 U la lb x k):=by
 obtain⟨_,_,_,b⟩:=Ht P.m h.1 a;exact⟨b,Q3 h.2.1 (by rwa [P.la]),Q3 h.2.2<|by rwa [P.lb]⟩
theorem R3(h:kr la):∃f:ss,(∀a,Kr la a->f a<9)/\∀a b,Kr la a->Kr la b->f a=f b->a=b:=by
 obtain⟨rk,j,i⟩:=h;have c:∀a,Kr la a->a∈0::rk.map (· + 1):=λa d=>by
  rcases d with rfl|⟨x,g,rfl⟩
  .exact Zb
  simp_all
 refine⟨λa=>(0::rk.map (· + 1)).idxOf a,λa d=>?_,λa b d vf e=>?_⟩
 .have:=SG<|c a d;grind
 have k:=List.getElem_idxOf<|SG<|c a d;simp_all
theorem bFa(P:Pl U la lb c){l:List Tr}(k:l.Nodup)(h:∀x∈l,P3 U la lb x):l.length<=5184:=by
 obtain⟨f,f1,r⟩:=R3 P.fa;obtain⟨g,i,q⟩:=R3 P.fb;have w:=P.m.most;simpa using (mO 5184 (l.map λx=>81*x.1+9*f x.2.1+g x.2.2) (by
  unfold Nodup;rw[WH];exact k.imp_of_mem λ{a b} o vf j z=>j (by
   have d:=h a o;have e:=h b vf;have t:=f1 _ d.2.1;have v:=f1 _ e.2.1;have s:=i _ d.2.2;have u:=i _ e.2.2;exact Wz (by lia)<|Wz (r _ _ d.2.1 e.2.1<|by lia)<|q _ _ d.2.2 e.2.2<|by lia)) λx m=>by
  obtain⟨p,n,rfl⟩:=gf.mp m;have d:=h p n;have t:=f1 _ d.2.1;have s:=i _ d.2.2;have:=d.1;lia)
abbrev B3(U:am)(b a:ac)(c s i j:Nat)(d:List (Tr×List Nat)):Prop:=BG (d3 U b a) (s,0,0) c (P3 U b a) i j d
def B3.len(P:Pl U la lb c) (b:B3 U la lb c s i j qa):qa.length<=5184:=by
 have:=bFa P b.nd λp d=>by obtain⟨x,a,rfl⟩:=gf.mp d;exact(b.lt x a).1
 rwa [Yc]at this
def nr(a:sK)(s:Nat)(x:Tr):Prop:=x.1=s/\wI a ((x.2.1:Nat)-1:Int) ((x.2.2:Nat)-1:Int)=true
def kT(a:List (Tr×List Nat)):db:=a.map λx=>Je x.1
def wT(a:List (Tr×List Nat)):db:=a.map λx=>D.str x.2
def p7(a:List (Tr×List Nat)):kT a=(a.map (·.1)).map Je:=by rw[Gh];rfl
def Th(e h w:D)(U:am)(g f:ac)(s:Nat)(a:List (Tr×List Nat))(i:Nat)(d c x8 b:im):za:=
 [some<|.v<|Ih e h U g f,some<|.v w,some<|.v<|.int s,some<|.o (.d true<|kT a)<|wT a,some<|.o .l<|kT a,some<|.v<|.int i,d,c,x8,b]
theorem bBl(P:Pl U la lb c)(t:Wd w ws){x:Tr×List Nat} (b:B3 U la lb c s i j qa) (m:qa[i]?=some x) (u:j<c) (l:im) :
  (nr ws s (d3 U la lb x.1 j)->fW (Th pr fr w U la lb s qa i (Je x.1) (D.str [97+j]) (yd U x.1.1 j) l)=.ok (.rt<|.str<|x.2++[97+j]))/\
  (¬ nr ws s (d3 U la lb x.1 j)->fW (Th pr fr w U la lb s qa i (Je x.1) (D.str [97+j]) (yd U x.1.1 j) l)=.ok (.nx<|Th pr fr w U la lb s (Fq qa (d3 U la lb x.1 j)<|x.2++[97+j]) i (Je x.1) (D.str [97+j]) (yd U x.1.1 j)<|Je<|d3 U la lb x.1 j)):=by
 have q:=Bm m;have hl:=b.len P;have A:=(xg.mp m).1;have z:=b.wl i i x (Ec _) m;obtain⟨_,_,_,y⟩:=Ht P.m ((b.lt x q).1).1 u;have e:∀(a g:Nat),(D.int<|if (g:Int)>(a-1:Int) then (g:Int) else (a-1:Int))=D.int (((max a (g+1):Nat))-1):=λa g=>by
  congr 1;split<;>lia
 have p:oZ (aC (aA 8)<|aC (e2 lq (e2 jb (aA 6)<|eI 1)<|e2 jb (e1 (cN "Sides" "lefts")<|aA 0)<|aA 8)<|aC (e2 lq (e2 jb (aA 6)<|eI 2)<|e2 jb (e1 (cN "Sides" "rights")<|aA 0)<|aA 8) aK) (Th pr fr w U la lb s qa i (Je x.1) (D.str [97+j]) (yd U x.1.1 j) l)=.ok (Je<|d3 U la lb x.1 j):=by
  refine jA<|aO rfl<|aO ?_<|aO ?_ rfl
  .exact aJ rfl (aJ iF rfl<|gU<|Wv<|by rwa [P.la]) (congrArg R.ok<|e _ _)
  exact aJ rfl (aJ kF rfl<|gU<|Wv<|by rwa [P.lb])<|congrArg R.ok<|e _ _
 have o:e2 eQ (e2 jb (dF 3)<|aA 6) (aA 7) (Th pr fr w U la lb s qa i (Je x.1) (D.str [97+j]) (yd U x.1.1 j)<|Je<|d3 U la lb x.1 j)=.ok (.str<|x.2++[97+j]):=by
  refine aJ (x:=.str x.2) (aJ rfl rfl ?_) rfl<|aD<|fK<|by show x.2.length+1<=_;lia
  show aP (Nc true (Je x.1)=true) (Ci<|pL (kT qa) (wT qa)<|Je x.1)=_;rw[aD (c:=Nc true (Je x.1)=true) rfl,show pL (kT qa) (wT qa) (Je x.1)=_ from HG Je XO b.nd q]
  rfl
 have d:pN (e2 Me (aA 8)<|aA 2) (aV nP<|aC (aA 1)<|aC (e2 jb (aA 9)<|eI 1)<|aC (e2 jb (aA 9)<|eI 2) aK) (Th pr fr w U la lb s qa i (Je x.1) (D.str [97+j]) (yd U x.1.1 j)<|Je<|d3 U la lb x.1 j)=.ok (.bl<|decide (((yd U x.1.1 j):Int)=s)&&wI ws (((d3 U la lb x.1 j).2.1)-1:Int) (((d3 U la lb x.1 j).2.2)-1:Int)):=
  yC (aJ rfl rfl<|oH _ _) λ_=>aQ rfl<|FY t _ _
 refine⟨λh=>aN (bH p)<|nC<|pZ (gF d ?_)<|cJ o,λh=>aN (st':=Th pr fr w U la lb s qa i (Je x.1) (D.str [97+j]) (yd U x.1.1 j)<|Je<|d3 U la lb x.1 j) (bH p)<|aN (gO (gF d ?_) rfl) ?_⟩
 .rw[fh (show ((yd U x.1.1 j):Int)=s by rw[show yd U x.1.1 j=s from h.1]),h.2]
  rfl
 .by_cases v:yd U x.1.1 j=s
  .cases r:wI ws (((d3 U la lb x.1 j).2.1)-1:Int) (((d3 U la lb x.1 j).2.2)-1:Int) with
   |true=>exact absurd ⟨v,r⟩ h
   |false=>rw[SH]
  rw[bf (show ¬ ((yd U x.1.1 j):Int)=s by lia),Bool.false_and]
 have n:e2 vU (aA 9) (dF 3) (Th pr fr w U la lb s qa i (Je x.1) (D.str [97+j]) (yd U x.1.1 j)<|Je<|d3 U la lb x.1 j)=.ok (.bl<|!mC (kT qa) (Je<|d3 U la lb x.1 j)):=aJ rfl rfl<|aD rfl;unfold Fq
 by_cases f:d3 U la lb x.1 j∈qa.map (·.1)
 .rw[Kb f];have k:mC (kT qa) (Je<|d3 U la lb x.1 j)=true:=by rw[p7];exact bJt Je XO f
  exact gO (gF n<|by rw[k];rfl) rfl
 rw[Pa f];have k:mC (kT qa) (Je<|d3 U la lb x.1 j)=false:=by rw[p7];exact bJu Je XO f
 refine pZ (gF n<|by rw[k];rfl)<|aN (st':=(Th pr fr w U la lb s qa i (Je x.1) (D.str [97+j]) (yd U x.1.1 j)<|Je<|d3 U la lb x.1 j).set 3<|some<|.o (.d true<|kT qa++[Je<|d3 U la lb x.1 j])<|wT qa++[.str<|x.2++[97+j]]) ?_ ?_
 .unfold Qd;rw[o,bN,show aA 9 (Th pr fr w U la lb s qa i (Je x.1) (D.str [97+j]) (yd U x.1.1 j)<|Je<|d3 U la lb x.1 j)=.ok (Je<|d3 U la lb x.1 j) from rfl,bN]
  show aP _ (R.ok<|Fl.nx<|List.set _ 3<|some<|Sl.o (.d true<|qW (kT qa)<|Je<|d3 U la lb x.1 j)<|qX (kT qa) (wT qa) (Je<|d3 U la lb x.1 j)<|.str<|x.2++[97+j])=_;rw[aD ⟨rfl,Ft<|by unfold wT;rw[Yc];lia⟩]
  unfold qW qX;rw[k];rfl
 rw[Uv rfl rfl (by unfold kT;rw[Yc];lia)]
 unfold Th kT wT;simp only[List.map_append,map_cons,List.map_nil];rfl
def NH(U:am)(e d:ac)(a:sK)(c s p j:Nat)(b:List (Tr×List Nat)):Prop:=∀(i:Nat) y k,b[i]?=some y->k<c->(i<p\/(i=p/\k<j))->¬ nr a s (d3 U e d y.1 k)
theorem NH.turn{x:Tr×List Nat} (n:NH U la lb ws c s i j qa) (d:qa[i]?=some x) (h:¬ nr ws s (d3 U la lb x.1 j)) {g:Tr} {v:ac}:NH U la lb ws c s i (j+1) (Fq qa g v):=λk y m b f o=>by
 have p:=(xg.mp d).1;have a:k<qa.length:=by lia
 have e:=MN (g:=g) (w:=v)<|Be a;rw[b]at e;cases e
 by_cases l:k=i/\m=j
 .simp_all
 exact n k _ m (Be a) f (by lia)
def t7(P:Pl U la lb c){g:Nat}(a:g<U.length):(U.getD g []).length=c:=by
 rw[Kh,Be a,Vz,(P.m.row _<|gj a).1]
theorem m6(P:Pl U la lb c)(v:Wd w ws){x:Tr×List Nat}:∀(k j:Nat) (d:List (Tr×List Nat)) (l x8 g:im),j+k=c->B3 U la lb c s i j d->NH U la lb ws c s i j d->d[i]?=some x->
  (∃m a,m<c/\B3 U la lb c s i m a/\NH U la lb ws c s i m a/\a[i]?=some x/\nr ws s (d3 U la lb x.1 m)/\Uc (Xj [7,8]) fW (zX ([97,98,99].drop j)<|ja<|(U.getD x.1.1 []).drop j) (Th pr fr w U la lb s d i (Je x.1) l x8 g)=.ok (.rt<|.str<|x.2++[97+m]))\/
  ∃a J L K,Uc (Xj [7,8]) fW (zX ([97,98,99].drop j)<|ja<|(U.getD x.1.1 []).drop j) (Th pr fr w U la lb s d i (Je x.1) l x8 g)=.ok (.nx<|Th pr fr w U la lb s a i (Je x.1) J L K)/\B3 U la lb c s i c a/\NH U la lb ws c s i c a/\a[i]?=some x
 |0,j,d,l,x8,g,F,b,n,f=>by
  obtain rfl:j=c:=by lia
  refine .inr ⟨d,l,x8,g,?_,b,n,f⟩;rw[NP (l:=U.getD x.1.1 []) (by rw[t7 P (b.lt x<|Bm f).1.1];exact Ec _)]
  cases [97,98,99].drop j<;>rfl
 |k+1,j,d,l,x8,g,F,b,n,f=>by
  have M:=P.m.c3;have p:j<c:=by lia
  have o:j<(U.getD x.1.1 []).length:=by rwa [t7 P ((b.lt x<|Bm f).1).1]
  have I:(U.getD x.1.1 []).drop j=yd U x.1.1 j::(U.getD x.1.1 []).drop (j+1):=by
   rw[Cz o];unfold yd;rw[Kh (l:=U.getD x.1.1 []),Be o,Vz]
  obtain⟨E,C⟩:=bBl P v b f p g;rw[UZ (by lia),I]
  by_cases h:nr ws s (d3 U la lb x.1 j)
  .exact .inl ⟨j,d,p,b,n,f,h,bJz rfl<|E h⟩
  have y:∀{r:R Fl},Uc (Xj [7,8]) fW (zX ([97,98,99].drop (j+1))<|ja<|(U.getD x.1.1 []).drop<|j+1) _=r->Uc (Xj [7,8]) fW (zX ((97+j)::[97,98,99].drop (j+1))<|.int (yd U x.1.1 j)::ja ((U.getD x.1.1 []).drop<|j+1)) (Th pr fr w U la lb s d i (Je x.1) l x8 g)=r:=λe=>nD rfl (C h) e
  rcases m6 P v k (j+1) _ (D.str [97+j]) (yd U x.1.1 j) (Je<|d3 U la lb x.1 j) (by lia) (b.turn (bNd P) f p) (n.turn f h) (MN f) with ⟨m,a,u,t,q,H,G,e⟩|⟨a,B,A,z,e,u,t,q⟩
  .exact .inl ⟨m,a,u,t,q,H,G,y e⟩
  exact .inr ⟨a,B,A,z,y e,u,t,q⟩
theorem S3(P:Pl U la lb c)(H:Wd w ws):∀(k i:Nat) (a:List (Tr×List Nat)) (q l x8 j:im) (f:Nat),5185<=k+i->k<=f->B3 U la lb c s i 0 a->NH U la lb ws c s i 0 a->i<=a.length->
  (∃p m x h,m<c/\B3 U la lb c s p m h/\NH U la lb ws c s p m h/\h[p]?=some x/\nr ws s (d3 U la lb x.1 m)/\jL mY mX f (Th pr fr w U la lb s a i q l x8 j)=.ok (.rt<|.str<|x.2++[97+m]))\/
  ∃h SU Y Gv TU,jL mY mX f (Th pr fr w U la lb s a i q l x8 j)=.ok (.nx<|Th pr fr w U la lb s h h.length SU Y Gv TU)/\B3 U la lb c s h.length 0 h/\NH U la lb ws c s h.length 0 h
 |0,i,a,q,l,x8,j,f,J,X,b,n,W=>by have:=b.len P;lia
 |k+1,i,a,q,l,x8,j,f,J,X,b,n,W=>by
  obtain⟨f,rfl⟩:∃g,f=g+1:=⟨f-1,by lia⟩
  have d:mY (Th pr fr w U la lb s a i q l x8 j)=.ok (.bl<|decide ((i:Int)<((kT a).length))):=aJ rfl rfl rfl;rw[show (kT a).length=a.length by unfold kT;simp]at d
  by_cases o:i<a.length
  .have u:=Be o;generalize a[i]=x at u;have I:=(b.lt x<|Bm u).1;have K:cV 6 (e2 jb (dF 4)<|aA 5) (Th pr fr w U la lb s a i q l x8 j)=.ok (.nx<|Th pr fr w U la lb s a i (Je x.1) l x8 j):=bH (aJ rfl rfl<|gU (by
    obtain⟨t,r⟩:=xg.mp u;unfold kT;rw[Dc (by rwa [Yc]),LH,r]))
   have G:NF (eC<|.str [97,98,99]) (e2 jb (e1 (cN "Sides" "steps")<|aA 0)<|e2 jb (aA 6)<|eI 0) (Th pr fr w U la lb s a i (Je x.1) l x8 j)=.ok (zX [97,98,99]<|ja<|U.getD x.1.1 []):=by
    have:e2 jb (e1 (cN "Sides" "steps")<|aA 0) (e2 jb (aA 6)<|eI 0) (Th pr fr w U la lb s a i (Je x.1) l x8 j)=.ok (.lst<|ja<|U.getD x.1.1 []):=aJ o7 rfl<|gU (by
     rw[Vv I.1,Kh,Be I.1];rfl)
    show (e2 jb (e1 (cN "Sides" "steps")<|aA 0) (e2 jb (aA 6)<|eI 0) _).bind _=_;rw[this];rfl
   rcases m6 P H c 0 a l x8 j (by lia) b n u with ⟨m,h,t,r,A,z,v,e⟩|⟨C,F,E,D,e,Z,S,AS⟩
   .exact .inl ⟨i,m,x,h,t,r,A,z,v,bBj (gF d<|GG o)<|aN K<|nC<|lD G e⟩
   have Wl:=(xg.mp AS).1;have L:mX (Th pr fr w U la lb s a i q l x8 j)=.ok (.nx<|Th pr fr w U la lb s C (i+1) (Je x.1) F E D):=aN K<|aN (lD G e)<|bH rfl;rcases S3 P H k (i+1) C (Je x.1) F E D f (by lia) (by lia) Z.next (λk y m T V J=>S k y m T V<|by lia) (by lia) with ⟨p,m,R,h,t,r,A,z,v,B⟩|⟨h,Q,O,N,M,B,t,r⟩
   .exact .inl ⟨p,m,R,h,t,r,A,z,v,CL (gF d<|GG o) L B⟩
   exact .inr ⟨h,Q,O,N,M,CL (gF d<|GG o) L B,t,r⟩
  have:i=a.length:=by lia
  subst this;exact .inr ⟨a,q,l,x8,j,SX<|gF d<|d8 o,b,n⟩
def UN{t:ac}(a:t≠[])(b:Ke c t):nr ws s (Fg (d3 U la lb) (s,0,0) t)↔WR U la lb ws c s t:=by
 rw[B9];exact⟨λh=>⟨a,b,h.1,h.2⟩,λh=>⟨h.cl,h.wt⟩⟩
theorem bBn(P:Pl U la lb c)(n:Wd w ws)(o:s<U.length):(∃t,qO [Ih pr fr U la lb,w,.int s]=.ok (.str t)/\WR U la lb ws c s t/\t.length<=6000/\∀u,WR U la lb ws c s u->sle t u)\/∀u,¬ WR U la lb ws c s u:=by
 rcases S3 P n 5185 0 [((s,0,0),[])] none none none none 100000 (by lia) (by lia) (BG.start ⟨o,.inl rfl,.inl rfl⟩) (λ_ _ _ _ _ h=>by lia) (rh _) with ⟨p,m,x,qa,j,b,r,d,D,e⟩|⟨qa,C,B,A,v,e,j,b⟩
 .have g:=b.lt x<|Bm d;have F:=(xg.mp d).1;have E:=b.wl p p x (Ec _) d;have G:=b.len P;refine .inl ⟨_,bT rfl<|aN (st':=[Ih pr fr U la lb,w,s,some<|.o (.d true [Je (s,0,0)]) [.str []],none,none,none,none,none,none]) ?_ ?_,((UN (by simp)<|By g.2.2 λz l=>by rw[Ce.mp l];constructor<;>lia).mp<|by rwa [Jv,g.2.1]),by rw[Pg,vn];lia,λu a=>b.hit d r a.ne a.lt<|(UN a.ne a.lt).mpr a⟩
  .unfold YE;rw[jA rfl];exact aD ⟨rfl,rfl⟩
  refine aN (sO<|aD<|fK<|by show 1<=_;lia)<|aN (bH rfl)<|nC<|by rwa [OX]
 refine .inr λu a=>j.VB (λi y k f q=>b i y k f q<|.inl (xg.mp f).1) a.ne a.lt<|(UN a.ne a.lt).mpr a
end
abbrev Tl:=List Nat×List Nat
def klt(x y:Tl):Prop:=x.1.length+x.2.length<y.1.length+y.2.length\/(x.1.length+x.2.length=y.1.length+y.2.length/\(x.1.length<y.1.length\/(x.1.length=y.1.length/\(x.1<y.1\/(x.1=y.1/\x.2<y.2)))))
theorem VN{x y z:Tl}(d:klt x y)(a:klt y z):klt x z:=by
 rcases d with d|⟨d,d|⟨i,c⟩⟩
 .rcases a with a|⟨a,_⟩
  .exact .inl (by lia)
  exact .inl (by lia)
 .rcases a with a|⟨a,h|⟨g,_⟩⟩
  .exact .inl (by lia)
  .exact .inr ⟨by lia,.inl<|by lia⟩
  exact .inr ⟨by lia,.inl<|by lia⟩
 rcases a with a|⟨a,h|⟨g,b⟩⟩
 .exact .inl (by lia)
 .exact .inr ⟨by lia,.inl<|by lia⟩
 refine .inr ⟨by lia,.inr ⟨by lia,?_⟩⟩
 rcases c with c|⟨c,f⟩ <;> rcases b with b|⟨b,e⟩
 .exact .inl (SQ c b)
 .exact .inl (by rwa [<-b])
 .exact .inl (by rwa [c])
 exact .inr ⟨c.trans b,SQ f e⟩
theorem bK0{x y:Tl}(a:sle x.1 y.1)(b:sle x.2 y.2):x=y\/klt x y:=by
 have len:∀{u v:ac},sle u v->u.length<=v.length:=λh=>by
  rcases h with rfl|h|h
  .exact Ec _
  .lia
  lia
 have f:=len b;rcases a with a|a|⟨a,d⟩
 .rcases b with b|b|⟨b,c⟩
  .exact .inl (Wz a b)
  .exact .inr (.inl<|by lia)
  exact .inr<|.inr ⟨by rw[a];lia,.inr ⟨by rw[a],.inr ⟨a,c⟩⟩⟩
 .exact .inr (.inl<|by lia)
 by_cases e:x.2.length=y.2.length
 .exact .inr (.inr ⟨by lia,.inr ⟨a,.inl d⟩⟩)
 exact .inr<|.inl<|by lia
def ah(x:Tl):D:=.tup [.str x.1,.str x.2]
def bo(x:Tl):db:=[.int ((x.1.length+x.2.length:Nat):Int),.int (x.1.length:Nat),.str x.1,.str x.2]
theorem n6{x:Tl}(c:x.1.length<=100000)(b:x.2.length<=100000):cY [ah x]=.ok (.tup<|bo x):=by
 have a:e1 kI (e2 jb (aA 0)<|eI 0) [ah x]=.ok (.int x.1.length):=by exact aD<|fK<|by lia
 refine bT rfl<|cJ<|jA<|aO (aJ a (by exact aD<|fK<|by lia) ?_)<|aO a<|aO (aJ rfl rfl rfl)<|aO (aJ rfl rfl rfl) rfl
 simp_all
theorem XZ{i j:Int}{a b:db}:Ym (.int i::a) (.int j::b)=if i=j then Ym a b else .ok (decide (i<j)):=by
 rw[Ym];simp_all
theorem YZ{s t:ac}{a b:db}:Ym (.str s::a) (.str t::b)=if s=t then Ym a b else .ok (decide (s<t)):=by
 rw[Ym];simp_all
theorem bFb(x y:Tl):∃t:Bool,Ym (bo x) (bo y)=.ok t/\(t=true↔klt x y):=by
 unfold bo klt;rw[XZ]
 by_cases d:((x.1.length+x.2.length:Nat):Int)=((y.1.length+y.2.length:Nat))
 .have e:x.1.length+x.2.length=y.1.length+y.2.length:=by lia
  rw[Kb d,XZ]
  by_cases c:((x.1.length))=((y.1.length):Int)
  .rw[Kb c,YZ]
   by_cases a:x.1=y.1
   .rw[Kb a,YZ]
    by_cases b:x.2=y.2
    .rw[Kb b];refine⟨false,rfl,?_⟩;rw[a,b];simp
    rw[Pa b];refine⟨_,rfl,?_⟩;rw[Ni,a];simp only[List.lt_irrefl,false_or,true_and];constructor
    .intro h;exact .inr ⟨by lia,.inr h⟩
    rintro(h|⟨_,h|h⟩)
    .lia
    .lia
    exact h
   rw[Pa a];refine⟨_,rfl,?_⟩;rw[Ni];constructor
   .intro h;exact .inr ⟨e,.inr ⟨(by lia),.inl h⟩⟩
   rintro(h|⟨_,h|⟨_,h|h⟩⟩)
   .lia
   .lia
   .exact h
   exact absurd h.1 a
  rw[Pa c];refine⟨_,rfl,?_⟩;constructor
  .intro h;exact .inr ⟨e,.inl<|by lia⟩
  rintro(h|⟨_,h|⟨h,_⟩⟩) <;> lia
 rw[Pa d];refine⟨_,rfl,?_⟩;rw[Ni];constructor
 .intro h;exact .inl (by lia)
 rintro(h|⟨h,_⟩) <;> lia
def bFc(x y:Tl):klt x y\/x=y\/klt y x:=by
 rcases Jp _ _ with h|h|h
 .exact .inl (.inl h)
 .rcases Jp x.1.length y.1.length with a|a|a
  .exact .inl (.inr ⟨h,.inl a⟩)
  .rcases ZE x.1 y.1 with (e|z|z)|(z|z)
   .rcases ZE x.2 y.2 with (e2|z|z)|(z|z)
    .exact .inr (.inl<|Wz e e2)
    .lia
    .exact .inl (.inr ⟨h,.inr ⟨a,.inr ⟨e,z.2⟩⟩⟩)
    .lia
    exact .inr<|.inr<|.inr ⟨h.symm,.inr ⟨a.symm,.inr ⟨e.symm,z.2⟩⟩⟩
   .lia
   .exact .inl (.inr ⟨h,.inr ⟨a,.inl z.2⟩⟩)
   .lia
   exact .inr<|.inr<|.inr ⟨h.symm,.inr ⟨a.symm,.inl z.2⟩⟩
  exact .inr<|.inr<|.inr ⟨h.symm,.inl a⟩
 exact .inr<|.inr<|.inl h
theorem NM:∀(a:List Tl)(b:Tl),(∀x∈b::a,x.1.length<=100000/\x.2.length<=100000)->∃r∈b::a,nq cY (ah b) (.tup<|bo b) (a.map ah)=.ok (ah r)/\∀x∈b::a,¬ klt x r
 |[],b,_=>⟨b,Zb,rfl,λx c=>by
  rw[Ce.mp c];rintro(h|⟨_,h|⟨_,h|⟨_,h⟩⟩⟩)
  .lia
  .lia
  .exact TH _ h
  exact TH _ h⟩
 |d::a,b,h=>by
  obtain⟨o,n⟩:=h d (by simp)
  obtain⟨t,l,k⟩:=bFb d b;have step:nq cY (ah b) (.tup<|bo b) (ah d::a.map ah)=if t=true then nq cY (ah d) (.tup<|bo d) (a.map ah) else nq cY (ah b) (.tup<|bo b) (a.map ah):=by
   rw[nq,n6 o n,bN];dsimp only;rw[aD ⟨by simp[bo,zg,jR],by simp[bo],by simp[bo]⟩,l,bN]
  rw[Wf,step];cases t with
  |true=>
   obtain⟨r,i,e,f⟩:=NM a d λx c=>h x (by rcases qc.mp c with rfl|c<;>simp[*])
   refine⟨r,Lc _ i,e,λx c=>?_⟩
   rcases qc.mp c with rfl|c
   .exact λz=>f d Zb<|VN (k.mp rfl) z
   exact f x c
  |false=>
   have j:=λz=>jo<|k.mpr z
   obtain⟨r,i,e,f⟩:=NM a b λx c=>h x (by rcases qc.mp c with rfl|c<;>simp[*])
   refine⟨r,by rcases qc.mp i with rfl|i<;>simp[*],e,λx c=>?_⟩
   rcases qc.mp c with rfl|c
   .exact f x Zb
   rcases qc.mp c with rfl|c
   .intro z;rcases qc.mp i with rfl|m
    .exact j z
    rcases Classical.em (klt b r) with vf|vf
    .exact f b Zb vf
    exact vf (by
     rcases bFc b r with g|g|g
     .exact g
     .rw[g]at j;exact absurd z j
     exact absurd (VN z g) j)
   exact f x<|Lc _ c
def bK1{a:List Tl}(h:∀x∈a,x.1.length<=100000/\x.2.length<=100000):(a=[]/\Jr cY (.lst<|a.map ah)=.ok .xc)\/∃r∈a,Jr cY (.lst<|a.map ah)=.ok (ah r)/\∀x∈a,¬ klt x r:=by
 cases a with
 |nil=>exact .inl ⟨rfl,rfl⟩
 |cons b a=>
  obtain⟨g,f⟩:=h b Zb;obtain⟨r,c,e,d⟩:=NM a b h;refine .inr ⟨r,c,?_,d⟩
  rwa [Wf,Jr,n6 g f]
section
variable{S T:am}{rk Ta:ac}{ws:sK}{c l r:Nat}{sq:f8}{fr:GM}
def Gm(S T:am):No
 |_,[]=>[]
 |p,ch::w=>p::Gm S T (Zf S T p<|ch-97) w
def eu(S T:am):No
 |_,[]=>[]
 |p,ch::w=>Zf S T p (ch-97)::eu S T (Zf S T p<|ch-97) w
theorem T3(y:wn):∀(w:ac)(p:wn),(y∈Gm S T p w\/y=Fg (Zf S T) p w)↔(y=p\/y∈eu S T p w)
 |[],p=>by simp[Gm,eu,Fg]
 |ch::w,p=>by
  show (y∈p::Gm S T _ w\/y=Fg _ _ w)↔(y=p\/y∈Zf S T p _::eu S T _ w);rw[qc,qc,or_assoc,(T3 y w _)]
def vf(f:M2)(l:f8)(a:Nat):Nat:=l.foldl (λa x=>max a<|f x) a
theorem JL(f:M2):∀(l:f8) (a:Nat),a<=vf f l a/\(∀x∈l,f x<=vf f l a)/\(vf f l a=a\/∃x∈l,vf f l a=f x)
 |[],a=>⟨Ec _,λ_ h=>(nomatch h),.inl rfl⟩
 |x::l,a=>by
  obtain⟨d,c,b⟩:=JL f l<|max a<|f x;refine⟨?_,λy hy=>?_,?_⟩
  .show a<=vf f l _;lia
  .show f y<=vf f l _;rcases qc.mp hy with rfl|hy
   .lia
   exact c y hy
  show vf f l _=a\/_;rcases b with b|⟨y,hy,b⟩
  .rcases VQ (f x) a with z|z
   .exact .inl (by lia)
   exact .inr ⟨x,Zb,by show vf f l _=_;lia⟩
  exact .inr ⟨y,Lc _ hy,b⟩
structure WP(S T:am)(rk Ta:ac)(ws:sK)(c:Nat)(p:wn)(t:ac):Prop where
 ne:t≠[]
 lt:Ke c t
 cl:Fg (Zf S T) p t=p
 wt:wI ws (vf (λx=>rk.getD x.1 0) (Gm S T p t) 0:Nat) (vf (λx=>Ta.getD x.2 0) (Gm S T p t) 0:Nat)=true
def u7(M:Rc S rk c)(e:Rc T Ta c)(d:Sd S T c l r sq fr):Pl (uS S T c sq) (Jn rk sq) (Kn Ta sq) c:=by
 have b:(uS S T c sq).length=sq.length:=by unfold uS;rw[Yc]
 refine⟨⟨by rw[b];exact d.len,M.c1,M.c3,λf hr=>?_⟩,⟨rk,by rw[M.rm];exact M.most,λx hx=>?_⟩,⟨Ta,by rw[e.rm];exact e.most,λx hx=>?_⟩,by unfold Jn;rw[Yc,b],by unfold Kn;rw[Yc,b]⟩
 .obtain⟨p,a,rfl⟩:=gf.mp hr;refine⟨by simp,λx hx=>?_⟩
  obtain⟨k,g,rfl⟩:=gf.mp hx;rw[b];exact SG<|d.cl p a k<|Jj.mp g
 .obtain⟨p,a,rfl⟩:=gf.mp hx;rw[Kh,Be (by rw[M.rm];exact(d.inr p a).1)]
  exact gj _
 obtain⟨p,a,rfl⟩:=gf.mp hx;rw[Kh,Be (by rw[e.rm];exact(d.inr p a).2)]
 exact gj _
def qA(a:f8)(i:Nat):wn:=a.getD i (0,0)
theorem Yn(a:i<sq.length):qA sq i=sq[i]:=by unfold qA;simp_all
def bPm(g:Sd S T c l r sq fr){k:Nat}(a:i<sq.length)(f:k<c):yd (uS S T c sq) i k<sq.length/\qA sq (yd (uS S T c sq) i k)=Zf S T (qA sq i) k:=by
 have e:yd (uS S T c sq) i k=sq.idxOf (Zf S T (qA sq i) k):=by
  unfold yd uS;rw[Kh (l:=List.map _ _),Ij,Be a,Yn a];simp[f]
 have d:=g.cl _ (gj a) k f;rw[<-Yn a]at d;have b:=SG d;rw[e];exact⟨b,by rw[Yn b];exact List.getElem_idxOf b⟩
theorem Ky(f:Sd S T c l r sq fr):∀(t:ac)(i:Nat),i<sq.length->Ke c t->Yh (uS S T c sq) i t<sq.length/\qA sq (Yh (uS S T c sq) i t)=Fg (Zf S T) (qA sq i) t/\(Ef (uS S T c sq) i t).map (qA sq)=eu S T (qA sq i) t
 |[],i,e,_=>⟨e,rfl,rfl⟩
 |ch::t,i,e,hl=>by
  have j:=hl ch Zb;obtain⟨s1,g⟩:=bPm f e (show ch-97<c by omega)
  obtain⟨a,b,d⟩:=Ky f t _ s1 λx h=>hl x<|Lc _ h
  rw[g]at b d;refine⟨a,b,?_⟩;show qA sq _::(Ef _ _ t).map (qA sq)=_;rw[d,g];rfl
theorem TF{d:ac}{f:M2}{i:Nat}{t:ac}(n:Sd S T c l r sq fr)(u:∀j,j<sq.length->d.getD j 0=f (qA sq j))(s:i<sq.length)(p:Ke c t)(o:t≠[])(w:Fg (Zf S T) (qA sq i) t=qA sq i)(lt:∀g∈Ef (uS S T c sq) i t,g<sq.length):((yk d 0 (Ef (uS S T c sq) i t):Nat)-1:Int)=(vf f (Gm S T (qA sq i) t) 0:Nat):=by
 obtain⟨_,_,e⟩:=Ky n t i s p;obtain⟨ch,t',D⟩:∃ch t',t=ch::t':=by
  cases t with
  |nil=>exact absurd rfl o
  |cons ch t'=>exact⟨ch,t',rfl⟩
 have C:qA sq i∈Gm S T (qA sq i) t:=by rw[D];exact Zb
 have x:∀y,y∈Gm S T (qA sq i) t↔y∈eu S T (qA sq i) t:=λy=>by
  have h:=T3 (S:=S) (T:=T) y t<|qA sq i;rw[w]at h;have G:qA sq i∈eu S T (qA sq i) t:=by
   rcases xG t i with ⟨_,z⟩|z
   .exact absurd z o
   rw[<-e];obtain⟨_,v,_⟩:=Ky n t i s p;rw[w]at v;rw[<-v];exact gf.mpr ⟨_,z,rfl⟩
  constructor
  .intro z;rcases h.mp (.inl z) with q|q
   .rwa [q]
   exact q
  intro z;rcases h.mpr (.inr z) with q|q
  .exact q
  rwa [q]
 obtain⟨_,A,b⟩:=JE d (Ef (uS S T c sq) i t) 0;obtain⟨_,E,k⟩:=JL f (Gm S T (qA sq i) t) 0;have m:∀y∈Gm S T (qA sq i) t,f y+1<=yk d 0 (Ef (uS S T c sq) i t):=λy B=>by
  have:=(x y).mp B;rw[<-e]at this;obtain⟨g,a,rfl⟩:=gf.mp this;have:=A g a
  rwa [u g<|lt g a]at this
 have h0:=m _ C;rcases b with b|⟨g,a,b⟩
 .lia
 have:=E _<|(x _).mpr<|by rw[<-e];exact gf.mpr ⟨g,a,rfl⟩
 rw[u g<|lt g a]at b;rcases k with k|⟨y,F,k⟩
 .lia
 have:=m y F;lia
def v7(M:Rc S rk c)(v:Rc T Ta c)(d:Sd S T c l r sq fr) {t:ac} (f:i<sq.length):WR (uS S T c sq) (Jn rk sq) (Kn Ta sq) ws c i t↔WP S T rk Ta ws c (qA sq i) t:=by
 have p:(uS S T c sq).length=sq.length:=by unfold uS;rw[Yc]
 have fa:∀j,j<sq.length->(Jn rk sq).getD j 0=rk.getD (qA sq j).1 0:=λj k=>by
  unfold Jn;rw[Kh,Ij,Be k,Yn k];rfl
 have s:∀j,j<sq.length->(Kn Ta sq).getD j 0=Ta.getD (qA sq j).2 0:=λj k=>by
  unfold Kn;rw[Kh,Ij,Be k,Yn k];rfl
 have lt:=λhl g u=>by
  have:=TN (u7 M v d) t i (by rwa [p]) hl g u
  rwa [p]at this
 constructor
 .intro h;obtain⟨a,b,_⟩:=Ky d t i f h.lt;have o:Fg (Zf S T) (qA sq i) t=qA sq i:=by rw[<-b,h.cl]
  refine⟨h.ne,h.lt,o,?_⟩;rw[<-TF d fa f h.lt h.ne o (lt h.lt),<-TF d s f h.lt h.ne o (lt h.lt)];exact h.wt
 intro h;obtain⟨a,b,_⟩:=Ky d t i f h.lt;rw[h.cl,Yn a,Yn f]at b;have inj:∀{x y:Nat}(n:x<sq.length)(m:y<sq.length),sq[x]=sq[y]->x=y:=λ{x y} n m e=>by
  have q:=UG.mp d.nd;rcases Jp x y with z|z|z
  .exact absurd e (q x y n m z)
  .exact z
  exact absurd e.symm<|q y x m n z
 refine⟨h.ne,h.lt,inj a f b,?_⟩;rw[TF (f:=λx=>rk.getD x.1 0) d fa f h.lt h.ne h.cl<|lt h.lt,TF (f:=λx=>Ta.getD x.2 0) d s f h.lt h.ne h.cl<|lt h.lt]
 exact h.wt
theorem ZZ{E:Ex}{st:za}{j:Nat}{R':Nat->Tl->Prop}:∀(is:ac),(∀i∈is,∃x,E (st.set j (i:Nat))=.ok (ah x)/\R' i x)->∃xs:List Tl,mK (Pb j) cA E st (ja is)=.ok (xs.map ah)/\(∀x∈xs,∃i∈is,R' i x)/\∀i∈is,∃x∈xs,R' i x
 |[],_=>⟨[],rfl,λ_ h=>(nomatch h),λ_ h=>nomatch h⟩
 |i::is,h=>by
  obtain⟨x,e,b⟩:=h i Zb;obtain⟨xs,es,f,d⟩:=ZZ is λi c=>h i<|Lc _ c
  refine⟨x::xs,?_,λy a=>?_,λk hk=>?_⟩
  .rw[VX,nA,show Pb j _ st=.ok _ from rfl,bN,show cA _=.ok _ from rfl,e,es]
   rfl
  .grind
  rcases qc.mp hk with rfl|hk
  .exact⟨x,Zb,b⟩
  obtain⟨y,a,z⟩:=d k hk;exact⟨y,Lc _ a,z⟩
def Told(S T:am)(rk b:ac)(a:sK)(c l r:Nat)(d:D):Prop:=
 (d=.xc/\∀f t,Ke c f->¬ WP S T rk b a c (Fg (Zf S T) (l,r) f) t)\/
 ∃x:Tl,d=ah x/\Ke c x.1/\WP S T rk b a c (Fg (Zf S T) (l,r) x.1) x.2/\x.1.length<=100/\x.2.length<=6000/\∀y:Tl,Ke c y.1->WP S T rk b a c (Fg (Zf S T) (l,r) y.1) y.2->¬ klt y x
theorem bFd{w:D}(M:Rc S rk c)(A:Rc T Ta c)(s7:S.length<=7)(hl:l<S.length)(hr:r<T.length)(L:Wd w ws):∃d,gD [mD S rk c,mD T Ta c,w,.int l,.int r]=.ok d/\Told S T rk Ta ws c l r d:=by
 obtain⟨sq,fr,es,p⟩:=bBd M A s7 hl hr;have P:=u7 M A p;have q:(uS S T c sq).length=sq.length:=by unfold uS;rw[Yc]
 have Gu:=p.len;obtain⟨out,ep,ol,B⟩:=ś P L;obtain⟨d,ej,dl,V⟩:=Ŝ (λm n=>by
  obtain⟨z,_,_,_,h⟩:=(B m).mp n;exact(MM P (SF P) h.1).1) (by rwa [q])
 have I:∀i∈cW d,i<sq.length/\∃t,WR (uS S T c sq) (Jn rk sq) (Kn Ta sq) ws c i t:=λi j=>by
  have g:=fO dl j;rw[q]at g;obtain⟨m,n,H⟩:=(V i).mp j;obtain⟨z,K,J,C,h⟩:=(B m).mp n;exact⟨g,ģ P C h H⟩
 have uc:(cW d).length<=64:=by
  have:=mO (uS S T c sq).length _ (lF d) λx k=>fO dl k
  rw[q]at this;lia
 let st:za:=[mD S rk c,mD T Ta c,w,l,r,kU S T rk Ta c sq fr,D.lst<|ja<|cW d,none,none]
 obtain⟨xs,ex,x1,Y⟩:=ZZ (E:=zJ) (st:=st) (j:=8) (R':=λi x=>x.1=fr (qA sq i)/\WR (uS S T c sq) (Jn rk sq) (Kn Ta sq) ws c i x.2/\x.2.length<=6000/\∀u,WR (uS S T c sq) (Jn rk sq) (Kn Ta sq) ws c i u->sle x.2 u) (cW d) λi j=>by
  obtain⟨g,t0,FI⟩:=I i j;rcases bBn P L (by rwa [q]) with ⟨t,e,a,b,b'⟩|no
  .refine⟨(fr<|qA sq i,t),jA<|aO (aJ bJy rfl<|gU ?_)<|aO (aQ rfl e) rfl,rfl,a,b,b'⟩;rw[Dc (by rwa [Yc]),LH,Yn g]
  exact absurd FI<|no t0
 have run:∀{v:D},Jr cY (.lst<|xs.map ah)=.ok v->gD [mD S rk c,mD T Ta c,w,.int l,.int r]=.ok v:=λ{v} s=>by
  refine bT rfl<|aN (bH<|aQ rfl es)<|aN (bH<|aQ (aO (aQ (aO (aQ rfl ep) rfl) ej) rfl)<|xF dl<|by rw[q];lia)<|aN (bH<|lU (pC rfl) (by rw[bG];lia) ex)<|cJ ?_
  rw[iw];show R.bind (R.ok<|D.lst<|xs.map ah) _=_;rw[bN,s]
 have o:∀f t,Ke c f->WP S T rk Ta ws c (Fg (Zf S T) (l,r) f) t->∃x∈xs,sle x.1 f/\sle x.2 t:=λf t E N=>by
  obtain⟨n,hs⟩:=p.least f E;obtain⟨i,j,e⟩:=DH.mp n;have O:qA sq i=Fg (Zf S T) (l,r) f:=by rw[Yn j,e]
  have W:=(v7 M A p j).mpr (by rwa [O])
  obtain⟨z,m,K,J,C,hp,H⟩:=Ĥ P (by rwa [q]) W
  obtain⟨x,k,g,U,F,Q⟩:=Y i<|(V i).mpr ⟨m,(B m).mpr ⟨z,K,J,C,hp⟩,H⟩;exact⟨x,k,by rwa [g,O],Q t W⟩
 rcases bK1 (λx k=>by
  obtain⟨i,j,g,_,F,_⟩:=x1 x k;have:=(p.lead (qA sq i)<|by rw[Yn (I i j).1];exact gj _).2.2
  rw[g];lia) with ⟨e0,G⟩|⟨x,k,G,n⟩
 .refine⟨.xc,run G,.inl ⟨rfl,λf t E N=>?_⟩⟩
  obtain⟨x,k,_⟩:=o f t E N;rw[e0]at k
  nomatch k
 obtain⟨i,j,g,U,F,Q⟩:=x1 x k;have X:=(I i j).1;obtain⟨l1,l2,l3⟩:=p.lead (qA sq i) (by rw[Yn X];exact gj _)
 refine⟨ah x,run G,.inr ⟨x,rfl,by rwa [g],?_,by rw[g];lia,F,λy hy1 hy2 hk=>?_⟩⟩
 .rw[g,l1];exact(v7 M A p X).mp U
 obtain⟨v,s,v1,Z⟩:=o y.1 y.2 hy1 hy2;rcases bK0 v1 Z with e|e
 .subst e;exact n v s hk
 exact n v s<|VN e hk
end
def zk(S:am)(rk:ac):D:=.lst [.lst<|cc S,.lst<|ja rk]
theorem bNe{st:za}{k:D}{a vs:db}(h:f st=.ok d)(e:g st=.ok k)(b:st[i]?=some (some<|.o (.d true a) vs))(c:Nc true k=true)(j:vs.length<1000000):Qd i g f st=.ok (.nx<|st.set i<|some<|.o (.d true<|qW a k)<|qX a vs k d):=by
 unfold Qd;rw[h,e,b];exact aD ⟨c,Ft<|by lia⟩
def o6{st:za}{c ch:Nat}(d:c<=3)(h:f st=.ok (.str [ch]))(b:97<=ch)(a:(ch:Int)<97+c):ik Hy (eC<|.str [97,98,99]) (aC f aK) st=.ok (.int ((ch-97:Nat):Int)):=by
 show (eC _ st).bind _=_;rw[aO h rfl];show (Ci _).bind _=_;rw[IZ d b a];rfl
section
variable{S:am}{rk:ac}{c:Nat}
def IG(S:am)(rk b t:ac)(q:Nat)(d c x5 a:im):za:=[some<|.v<|zk S rk,some<|.v<|ah (b,t),some<|.v<|.int q,d,c,x5,a,some<|.v<|.lst<|cc S,some<|.v<|.lst<|ja rk,some<|.v<|.str b,some<|.v<|.str t,none]
theorem p6(M:Rc S rk c){b t:ac}{f:ss}(d:∀n,97<=f n/\(f n:Int)<97+c):∀(x:ac)(n:Nat)(l:im),(∀i,i<x.length->x.getD i 0=f (n+i))->∃a,Uc (Pb 3) HV (x.map λch=>D.str [ch]) (IG S rk b t (fw S f 0 n) l none none none)=.ok (.nx<|IG S rk b t (fw S f 0<|n+x.length) a none none none)
 |[],n,l,_=>⟨l,rfl⟩
 |ch::x,n,l,h=>by
  have h0:=by simpa using (h 0<|by simp)
  obtain⟨a,e⟩:=p6 M d x (n+1) _ (λi k=>by
   rw[show n+1+i=n+(i+1) by lia,<-(h (i+1)<|by simp;lia)]
   simp)
  obtain⟨j,g⟩:=d n;rw[<-h0]at j g;obtain⟨r,e1,e2,m⟩:=AE M.w (tw M d M.one n) j g;rw[show yd S (fw S f 0 n) (ch-97)=fw S f 0 (n+1) by rw[h0];rfl]at e2
  refine⟨a,?_⟩;rw[fg,show n+(x.length+1)=n+1+x.length by lia,<-e]
  exact nD rfl (bH<|aJ (aJ rfl rfl<|gU e1) (o6 M.c3 rfl j g)<|gU e2) rfl
theorem vF(M:Rc S rk c){b t:ac}(lb:Ke c b)(l2:Ke c t)(z:1<=t.length)(Z:t.length<=6000)(bl:b.length<=10000):∃v,Ev S rk (lt b t) 0 v/\jP [zk S rk,ah (b,t)]=.ok (.bl v):=by
 have E:=HN lb l2 z;have h8:=M.most;have u:=tw M E M.one;generalize hW:(λk=>fw S (lt b t) 0<|b.length+k)=W
 have s:∀k,fw S (lt b t) 0 (b.length+k)=W k:=λk=>by rw[<-hW]
 have y:∀k,W k<S.length:=λk=>by rw[<-s];exact u _
 have o:∀k,k%t.length<t.length:=λk=>mod_lt _ z
 obtain⟨J,hJ,⟨i,p,e⟩,C⟩:=OW (λk=>W k*t.length+k%t.length) (S.length*t.length) (λk=>by
  have P:=o k;have O:(W k+1)*t.length<=S.length*t.length:=VP _<|y k;rw[succ_mul]at O;lia)
 have two:∀a f:Nat,(W a*t.length+a%t.length=W f * t.length+f % t.length)->W a=W f/\a%t.length=f % t.length:=λa f h=>by
  have m1:(W a*t.length+a%t.length)%t.length=a%t.length:=by rw[WQ,Nat.mul_add_mod,JQ<|o a]
  have m2:(W f * t.length+f % t.length)%t.length=f % t.length:=by rw[WQ,Nat.mul_add_mod,JQ<|o f]
  have m:a%t.length=f % t.length:=by rw[<-m1,<-m2,h]
  refine⟨?_,m⟩;rw[m]at h;exact Nat.eq_of_mul_eq_mul_right z (by lia)
 have SR:J<=8*6000:=Nh hJ<|Lz (by lia) Z
 obtain⟨eW,ep⟩:=two i J e;have L:Lp S (lt b t) 0 (b.length+i) (b.length+J):=by
  refine⟨by lia,λn C=>?_,by rw[s,s,eW]⟩
  have x:=Nat.div_add_mod (J-i) t.length;rw[(Nat.sub_mod_eq_zero_of_mod_eq ep.symm),bx,WQ]at x;rw[show b.length+J-(b.length+i)=J-i by lia,<-x]
  exact DE (by lia) _
 obtain⟨pl,q⟩:∃pl:ss,∀j,pl j=j%t.length:=⟨_,λ_=>rfl⟩
 let K (k:Nat):D:=.tup [.int (W k:Nat),.int (pl k:Nat)]
 have F:∀a f,Bg (K a) (K f)=decide (W a*t.length+a%t.length=W f * t.length+f % t.length):=λa f=>by
  rw[su,Ni];show (((W a:Int)==W f)&&(((pl a:Int)==pl f)&&true))=true↔_;rw[Bool.and_true,Xr,Fm,Fm,q,q];constructor
  .intro h;rw[show W a=W f by lia,show a%t.length=f % t.length by lia]
  intro h;obtain⟨h1,P⟩:=two a f h;rw[h1,P];exact⟨rfl,rfl⟩
 let ks (j:Nat):db:=(List.range j).map K
 let vs (j:Nat):db:=(List.range j).map λk=>D.int (k:Nat)
 have GI:∀j,(vs j).length=j:=λj=>by simp[vs]
 let g (j:Nat):db:=ja<|Lf S (lt b t) 0 b.length<|b.length+j
 have A:∀j,(g j).length=j:=λj=>by show (ja _).length=_;rw[bG,vH];lia
 obtain⟨H,U⟩:=p6 M E b 0 none<|λi p=>KN p
 rw[cx,show b.length=b.length+0 from rfl,s]at U
 let st (j:Nat):za:=IG S rk b t (W j) H (some<|.o (.d true<|ks j)<|vs j) (some<|.o .l<|g j)<|pl j
 have Dx:∀j,j<J->JV (st j)=.ok (.bl true)/\IV (st j)=.ok (.nx<|st<|j+1):=λj hj=>by
  have G:mC (ks j) (K j)=false:=v3 F<|λi p=>C j hj i p
  refine⟨aJ (jA rfl) rfl<|(aD rfl).trans ?_,?_⟩
  .show R.ok (D.bl<|!mC (ks j) (K j))=_;rw[G];rfl
  have p1:qW (ks j) (K j)=ks (j+1):=by
   unfold qW;rw[Pa (by rw[G];decide)]
   exact QD K j
  have p2:qX (ks j) (vs j) (K j) (.int (j:Nat))=vs (j+1):=by
   unfold qX;rw[Pa (by rw[G];decide)]
   exact QD (λk=>D.int (k:Nat)) j
  have p3:g j++[.int (W j:Nat)]=g (j+1):=by
   show ja _++_=ja _;rw[<-RQ,GL (by lia),<-wZ,s]
   rfl
  have Y:pl j<t.length:=by rw[q];exact o j
  have Ul:Ye t (pl j:Int)=some (lt b t<|b.length+j):=by
   rw[Dc Y,VO (by lia),show b.length+j-b.length=j by lia]
   unfold cy;rw[<-q,Kh,Be Y];rfl
  obtain⟨T,Q⟩:=E<|b.length+j;obtain⟨r,e1,e2,O⟩:=AE M.w (y j) T Q;rw[show yd S (W j) (lt b t (b.length+j)-97)=W (j+1) by rw[<-s,<-s];rfl]at e2
  have p4:((pl j:Int)+1)%(t.length:Int)=(pl (j+1):Int):=by
   rw[q,q,<-Nat.mod_add_mod j t.length 1];rfl
  have X:t.length<=big:=fK (by lia)
  refine aN (bNe (show R.ok (D.int ((g j).length:Nat))=_ by rw[A]) (jA rfl) rfl rfl<|by rw[GI];lia) ?_
  rw[p1,p2];refine aN (Uv rfl rfl<|by rw[A];lia) ?_
  rw[p3];refine aN (bH<|aJ (aJ rfl rfl<|gU e1) (o6 M.c3 (aJ rfl rfl<|(aD X).trans<|by rw[Ul];rfl) T Q)<|gU e2)<|(bH<|aJ (aJ rfl rfl rfl) (show kI (.str t)=_ from aD X) ?_).trans rfl
  rw[<-p4];exact kJ (by lia)
 have I:=SK st J Dx (aJ (jA rfl) rfl<|(aD rfl).trans<|by show R.ok (D.bl<|!mC (ks J) (K J))=_;rw[(KZ F p e)];rfl) J 100000 (Ec _) (by lia)
 rw[Oz]at I;have N:cut (g J) (some (i:Int)) none=ja (Lf S (lt b t) 0 (b.length+i)<|b.length+J):=by
  rw[GN _ _ (by rw[A];lia)]
  show (ja _).drop i=_;rw[<-xy (m:=b.length+i) (by lia) (by lia),<-wZ,List.drop_left' (by rw[bG,vH];lia)]
 have AI:(Lf S (lt b t) 0 (b.length+i)<|b.length+J).length<=1000000:=by rw[vH];lia
 have w:∀r∈Lf S (lt b t) 0 (b.length+i) (b.length+J),r<rk.length:=λr B=>by
  obtain⟨n,_,_,rfl⟩:=wy.mp B;rw[M.rm];exact u n
 have V:=JN (S:=S) (f:=lt b t) (q:=0) L.lt;refine⟨_,⟨_,_,L,rfl⟩,?_⟩;generalize Lf S (lt b t) 0 (b.length+i) (b.length+J)=l at N AI w V;have r0:g 0=[]:=by show ja (Lf S (lt b t) 0 b.length b.length)=_;rw[DM];rfl
 have l0:pl 0=0:=by rw[q,Nat.zero_mod]
 exact bT rfl<|aN (PN rfl rfl)<|aN (PN rfl rfl)<|aN (bH rfl)<|aN (lD (aD<|fK<|show b.length<=10000000 by lia) U)<|aN rfl<|aN (sO<|gY rfl)<|aN (bH rfl)<|aN (by
  rw[<-I];show _=jL _ _ _ (IG S rk b t (W 0) H (some<|.o (.d true []) []) (some<|.o .l<|g 0)<|pl 0);rw[r0,l0];rfl)<|cJ<|aJ (aJ (by
  show R.bind (bU _ _ _ _ _ _) _=_;rw[lU (pC (by
  have:e2 jb (dF 4) (oZ<|aC (aA 2)<|aC (aA 6) aK) (st J)=.ok (.int (i:Nat)):=aJ rfl (jA rfl)<|(aD rfl).trans<|by show Ci (pL (ks J) (vs J)<|K J)=_;rw[(LZ F p e<|λa ha=>by rw[<-e];exact C i p a ha)];rfl
  show R.bind (R.bind (e2 jb (dF 4) (oZ<|aC (aA 2)<|aC (aA 6) aK)<|st J) _) (λl=>R.ok<|D.lst<|cut (g J) l none)=_
  rw[this];show R.ok (D.lst<|cut (g J) (some (i:Int)) none)=_;rw[N])) (by rwa [bG]) (ED (zC rk) _ λd hd=>by
   obtain⟨r,B,rfl⟩:=lE hd;exact⟨_,rfl,rfl,aJ rfl rfl<|gU<|b7<|w r B⟩),bN]
  exact T5 V) rfl<|kJ<|by decide) rfl<|oH _ _
end
section
variable {c:Nat}
def gZ{r:R α}{a:α}(h:r=.ok a):r.Ve=.ok a:=by rw[h];rfl
def jy{st:za}{z:R D}(d:f st=.ok (mD S rk c))(a:r st=.ok xs)(b:m∉["steps","ranks","many","letters"])(h:p (mD S rk c::(xs++dv))=z):pP "Machine" m p dv f r st=z:=by
 unfold pP;rw[d,a];exact(aD ⟨rfl,b⟩).trans h
def U3(e:q<S.length){b a:im}:(rF (rT "Machine" "check_room" bW [] (aA 0)<|aC (aA 2) aK) [mD S rk c,d,q,b,a,x5]).Ve=.ok (.nx [mD S rk c,d,q,b,a,x5]):=by
 unfold rF;rw[FL rfl rfl (by decide)]
 show ((bW [mD S rk c,.int q]).bind _).Ve=_;rw[QN e];rfl
def bNf(M:Rc S rk c)(j:q<S.length){b t:ac}(g:Ke c b)(h:Ke c t)(f:1<=t.length)(d:t.length<=10000)(bl:b.length<=10000):∃i J,i<J/\J<=S.length/\fw S (lt b t) q (b.length+i*t.length)=fw S (lt b t) q (b.length+J*t.length)/\
  iY [mD S rk c,.tup [.str b,.str t],.int q]=.ok (.tup [.lst<|ja<|Lf S (lt b t) q 0<|b.length+i*t.length,.lst<|ja<|Lf S (lt b t) q (b.length+i*t.length)<|b.length+J*t.length]):=by
 obtain⟨i,J,m,n,e,v,w,x,s,r,k,h0,l,a,u,p,o⟩:=œ M j g h f d bl;refine⟨i,J,m,n,e,(bT rfl<|bA (U3 j)<|bA (gO (gZ<|mG<|aQ (aO rfl<|aO nQ rfl)<|ġ M g h f d bl) rfl)<|aN (gZ<|sO (by
  rwa [FL rfl (aO rfl<|aO (aJ rfl rfl rfl) rfl) (by decide)]))<|aN rfl<|aN (gZ l)<|aN (gZ<|bH<|aJ rfl (aJ rfl rfl<|gU a) (by
  show aP _ (Ci<|pL s r<|.int k)=_;rw[aD (c:=Nc false (.int k)=true) rfl,u];rfl))<|gZ<|cJ<|jA<|aO ?_<|aO ?_ rfl)⟩
 .rw[<-p];rfl
 rw[<-o];rfl
theorem bK2{op:Og} {st:za} {x y z:D} (b:f st=.ok x) (a:g st=.ok y) (h:op x y=.ok z):wx op f g st=.ok z:=by
 unfold wx;simp_all
theorem A7(M:Rc S rk c)(l:q<S.length){b t:ac}(j:Ke c b)(k:Ke c t)(a:1<=t.length)(h:t.length<=10000)(bl:b.length<=10000):∃v,Ev S rk (lt b t) q v/\gM [mD S rk c,.tup [.str b,.str t],.int q]=.ok (.bl v):=by
 obtain⟨i,J,o,u,e,m⟩:=bNf M l j k a h bl;have L:=bEy a o e;have w:=M.most;have x:J*t.length<=8*10000:=Lz (by lia) h
 have s:(Lf S (lt b t) q (b.length+i*t.length)<|b.length+J*t.length).length<=1000000:=by rw[vH];omega
 have g:∀r∈Lf S (lt b t) q (b.length+i*t.length) (b.length+J*t.length),r<rk.length:=λr f=>by
  obtain⟨n,_,_,rfl⟩:=wy.mp f;rw[M.rm];exact(tw M (HN j k a) l) n
 exact⟨_,⟨_,_,L,rfl⟩,(bT rfl<|aN (bH<|bK2 (jy rfl rfl (by decide) m) rfl rfl)<|gZ<|cJ<|aJ (aJ (by
  show R.bind (bU _ _ _ _ _ _) _=_;rw[lU (pC rfl) (by rwa [bG]) (ED (zC rk) _ λd p=>by
   obtain⟨r,f,rfl⟩:=lE p;exact⟨_,rfl,rfl,aJ Ŕ rfl<|gU<|b7<|g r f⟩)]
  exact T5<|JN (S:=S) (f:=lt b t) (q:=q) L.lt) rfl<|kJ<|by decide) rfl<|oH _ _)⟩
def Jt{a b:Bd}{st:za}{x:D}(h:a st=.exc x):aW a b st=.exc x:=by rw[O2,h];rfl
theorem yF{b:Bd} {x:D} (h:ds.length=np) (a:b (ds.map (λd=>some<|.v d)++List.replicate (n-np) none)=.exc x):dD np n b ds=.exc x:=by
 simp_all
def bFf(b:q<S.length) (e:dN [d,.int c]=.ok (.bl false)):gM [mD S rk c,d,.int q]=.exc (.Dg "NoWord" [] []):=by
 have a:iY [mD S rk c,d,.int q]=.exc _:=yF rfl<|bA (U3 b)<|Jt<|pZ (gZ<|mG<|aQ (aO rfl<|aO nQ rfl) e)<|aD<|by decide
 refine yF rfl<|Jt ?_;unfold cV wx;rw[jy rfl rfl (by decide) a]
 rfl
end
def gm(k:Nat):String:=["Both","Either","Less","Unlike","Nor"].getD k ""
def Li(k:Nat):sK:=[[true,false,false,false],[true,true,true,false],[false,true,false,false],[false,true,true,false],[false,false,false,true]].getD k []
theorem Om{P:FM}(f:P 0)(e:P 1)(d:P 2)(c:P 3)(b:P 4){k:Nat}(a:k<5):P k:=by
 grind
def Vm(a:sK)(l r:Bool):Bool:=a.getD ((!l).toNat*2+(!r).toNat) false
section
variable{S T:am}{rk Ta:ac}{c c':Nat}
def jD(S T:am)(rk a:ac)(c:Nat)(k:Nat):D:=.ins (gm k) ["inner","outer"] [mD S rk c,mD T a c]
def JG{k:Nat}(a:k<5):zZ tQ "inner" (jD S T rk Ta c k)=.ok (mD S rk c):=by
 refine(aD<|Om (P:=λk=>gm k∈tQ) (by decide) (by decide) (by decide) (by decide) (by decide) a).trans ?_
 rw[kZ,aD rfl];rfl
def sP{k:Nat}(a:k<5):zZ nW "outer" (jD S T rk Ta c k)=.ok (mD T Ta c):=by
 refine(aD<|Om (P:=λk=>gm k∈nW) (by decide) (by decide) (by decide) (by decide) (by decide) a).trans ?_
 rw[kZ,aD rfl];rfl
theorem VD{st:za}{k:Nat} {z:R D} (a:f st=.ok (jD S T rk Ta c k)) (d:r st=.ok xs) (b:tb.lookup (gm k)=some p) (e:m∉["inner","outer"]) (h:p (jD S T rk Ta c k::xs)=z):fV tb m f r st=z:=by
 unfold fV rT;rw[a];unfold jD at h ⊢;dsimp only[bN];simp_all
theorem t6{st:za}{k:Nat} (a:f st=.ok (jD S T rk Ta c k)) (b:tb.lookup (gm k)=some p) (d:m∉["inner","outer"]):vy tb m f r st=(r st).bind λxs=>(p<|jD S T rk Ta c k::xs).Ve:=by
 unfold vy Iy;rw[a];unfold jD;dsimp only[bN,R.Ve];simp_all
def KL{k:Nat}(a:k<5):∃p,fH.lookup (gm k)=some p/\∀d l r,p [d,.bl l,.bl r]=.ok (.bl<|Vm (Li k) l r):=by
 refine Om (P:=λk=>∃p,fH.lookup (gm k)=some p/\∀d l r,p [d,.bl l,.bl r]=.ok (.bl<|Vm (Li k) l r)) ⟨_,rfl,λd l r=>?_⟩ ⟨_,rfl,λd l r=>?_⟩ ⟨_,rfl,λd l r=>?_⟩ ⟨_,rfl,λd l r=>?_⟩ ⟨_,rfl,λd l r=>?_⟩ a
 .exact bT rfl (cJ<|gF (yC rfl λ_=>rfl)<|by cases l<;>cases r<;>rfl)
 .exact bT rfl (cJ<|gF (zK rfl λ_=>rfl)<|by cases l<;>cases r<;>rfl)
 .exact bT rfl (cJ<|gF (yC rfl λ_=>mG rfl)<|by cases l<;>cases r<;>rfl)
 .exact bT rfl (cJ<|gF (aJ rfl rfl<|aD ⟨rh _,rfl,rfl⟩)<|by cases l<;>cases r<;>rfl)
 exact bT rfl<|cJ<|gF (yC (mG rfl) λ_=>mG rfl)<|by cases l<;>cases r<;>rfl
def NI{k:Nat}(a:k<5):(Li k).length=4:=Om (P:=λk=>(Li k).length=4) rfl rfl rfl rfl rfl a
def four{k:Nat}(a:k<5){st:za} (d:st[n]?=some (some<|.v<|jD S T rk Ta c k)):(aC (fV fH "truth" (aA n)<|aC (eC<|.bl true)<|aC (eC<|.bl true) aK)<|aC (fV fH "truth" (aA n)<|aC (eC<|.bl true)<|aC (eC<|.bl false) aK)<|aC (fV fH "truth" (aA n)<|aC (eC<|.bl false)<|aC (eC<|.bl true) aK)<|aC (fV fH "truth" (aA n)<|aC (eC<|.bl false)<|aC (eC<|.bl false) aK) aK) st=.ok ((Li k).map D.bl):=by
 obtain⟨p,b,h⟩:=KL a;have m:∀l r,fV fH "truth" (aA n) (aC (eC<|.bl l)<|aC (eC<|.bl r) aK) st=.ok _:=λl r=>VD (by rw[qK,d]) rfl b (by decide)<|h _ l r
 rw[aO (m _ _)<|aO (m _ _)<|aO (m _ _)<|aO (m _ _) rfl];exact Om (P:=λk=>R.ok [D.bl<|Vm (Li k) true true,D.bl<|Vm (Li k) true false,D.bl<|Vm (Li k) false true,D.bl<|Vm (Li k) false false]=R.ok ((Li k).map D.bl)) rfl rfl rfl rfl rfl a
def bBs{k:Nat}(a:k<5):gC [jD S T rk Ta c k]=.ok (.tup<|(Li k).map D.bl):=bT rfl<|cJ<|jA (four a rfl)<|by rw[Yc,NI a];decide
def WN{k:Nat}(a:k<5){st:za} (b:st[n]?=some (some<|.v<|jD S T rk Ta c k)):fV tV "leads" (aA n) aK st=.ok (.tup<|(Li k).map D.bl):=
 VD (by rw[qK,b]) rfl (Om (P:=λk=>tV.lookup (gm k)=some gC) rfl rfl rfl rfl rfl a) (by decide) (bBs a)
theorem c0(a:sK):dR (a.map D.bl)=true/\jR (a.map D.bl)=0/\pM (a.map D.bl) (a.map D.bl)=true:=by
 induction a with
 |nil=>simp
 |cons b a c=>
  simp_all
theorem V3(a:sK):Hi (.tup<|a.map D.bl) (.tup<|a.map D.bl)=.ok (.bl false)/\Me (.tup<|a.map D.bl) (.tup<|a.map D.bl)=.ok (.bl true):=by
 obtain⟨d,c,b⟩:=c0 a;simp_all
theorem bFh(a:sK):Hi (.lst<|a.map D.bl) (.lst<|a.map D.bl)=.ok (.bl false):=by
 obtain⟨d,c,b⟩:=c0 a;simp_all
def ŝ{k:Nat}(a:k<5):qL [jD S T rk Ta c k,.tup<|(Li k).map D.bl]=.ok (.bl true):=by
 have d:=NI a;refine bT rfl<|aN (bH<|gY (four a rfl)<|by rw[Yc,d];decide)<|bA (gO (zK (p:=false) (aJ (x:=.lst []) (lU (pC rfl) (by rw[Yc,d];decide) ?_) (gY rfl)<|aD ⟨by decide,rfl,rfl⟩) λ_=>aJ rfl rfl (V3 _).1) rfl)<|cJ<|yC (aJ (WN a rfl) rfl (V3 _).2) λ_=>?_
 .refine(Yy (F:=D.bl) (G:=D.bl) (q:=λ_=>false) _ λb _=>⟨?_,λh=>nomatch h⟩).trans ?_
  .exact mG (p:=true) (aD rfl)
  rw[List.filter_eq_nil_iff.mpr λ_ _=>jo]
  rfl
 show R.bind _ _=_;rw[WN a rfl];exact aD rfl
noncomputable def bJ(a:String):Bd:=aW (rF<|jM cD<|aC (aA 1)<|aC (aA 2) aK)<|aW (Qg<|gQ 0 a "inner"<|aV (ug aY)<|aC (e1 (cN "Machine" "steps")<|aA 1)<|aC (e1 (cN "Machine" "ranks")<|aA 1) aK)<|Qg<|gQ 0 a "outer"<|aV (ug aY)<|aC (e1 (cN "Machine" "steps")<|aA 2)<|aC (e1 (cN "Machine" "ranks")<|aA 2) aK
theorem jB{st:za} {x:R D} (h:r st=.ok ds) (a:p ds=x):jM p r st=x:=by
 simp_all
def az(M:Rc S rk c)(d:Rc T Ta c)(a:String):pB a 2 3 (bJ a) [mD S rk c,mD T Ta c]=.ok (.ins a ["inner","outer"] [mD S rk c,mD T Ta c]):=by
 refine AL λx=>?_
 unfold wK;rw[aD<|show ([mD S rk c,mD T Ta c]).length=2 from rfl]
 let st (ns:re) (xs:db):za:=[some<|.o (.i x a ns) xs,mD S rk c,mD T Ta c]
 have b:bJ a (st [] [])=.ok (.nx<|st ["inner","outer"] [mD S rk c,mD T Ta c]):=by
  refine bA ?_<|aN (st':=st ["inner"] [mD S rk c]) (gZ ?_)<|gZ ?_
  .unfold rF;rw[jB rfl hX];rfl
  .unfold gQ;rw[(aQ (aO qC<|aO yy rfl)<|gZ<|iy M)];exact aD ⟨rfl,by decide,by decide⟩
  unfold gQ;rw[(aQ (aO qC<|aO yy rfl)<|gZ<|iy d)];exact aD ⟨rfl,by decide,by decide⟩
 show (bJ a<|st [] []).bind _=_;rw[b];exact aD rfl
theorem ĥ(h:c≠c'):cD [mD S rk c,mD T Ta c']=.exc (.Dg "OtherLetters" [] []):=by
 refine yF rfl<|pZ (gZ<|aJ nQ nQ<|(bJo _ _).trans ?_)<|aD<|by decide
 rw[bf (by lia)]
 rfl
theorem ky(h:c≠c')(a:String):pB a 2 3 (bJ a) [mD S rk c,mD T Ta c']=.exc (.Dg "OtherLetters" [] []):=by
 refine AL λx=>?_
 unfold wK;have b:bJ a [some<|.o (.i x a []) [],mD S rk c,mD T Ta c']=.exc (.Dg "OtherLetters" [] []):=by
  refine Jt ?_
  unfold rF;rw[jB rfl<|ĥ h];rfl
 simp_all
def Xv{st:za}{x:D}(h:f st=.exc x):cG f st=.exc x:=by rw[uy,h];rfl
theorem bFi(M:Rc S rk c)(d:Rc T Ta c){k:Nat}(e:k<5):jJ [.int k,mD S rk c,mD T Ta c]=.ok (jD S T rk Ta c k):=by
 have a:∀(k j:Nat),k≠j->(e2 Me (aA 0) (eC<|.int j) [k,mD S rk c,mD T Ta c]).Ve=.ok (.bl false):=λk j h=>gZ<|aJ rfl rfl<|(oH _ _).trans<|by rw[bf (by lia)]
 have b:∀(k:Nat),(e2 Me (aA 0) (eC<|.int k) [k,mD S rk c,mD T Ta c]).Ve=.ok (.bl true):=λk=>gZ<|aJ rfl rfl<|(oH _ _).trans<|by rw[fh rfl]
 refine Om (P:=λk=>jJ [.int k,mD S rk c,mD T Ta c]=.ok (jD S T rk Ta c k)) ?_ ?_ ?_ ?_ ?_ e
 .exact bT rfl (nC<|pZ (b 0)<|cJ<|jB rfl<|az M d "Both")
 .exact bT rfl (bA (gO (a 1 0<|by decide) rfl)<|nC<|pZ (b 1)<|cJ<|jB rfl<|az M d "Either")
 .exact bT rfl (bA (gO (a 2 0<|by decide) rfl)<|bA (gO (a 2 1<|by decide) rfl)<|nC<|pZ (b 2)<|cJ<|jB rfl<|az M d "Less")
 .exact bT rfl (bA (gO (a 3 0<|by decide) rfl)<|bA (gO (a 3 1<|by decide) rfl)<|bA (gO (a 3 2<|by decide) rfl)<|nC<|pZ (b 3)<|cJ<|jB rfl<|az M d "Unlike")
 exact bT rfl<|bA (gO (a 4 0<|by decide) rfl)<|bA (gO (a 4 1<|by decide) rfl)<|bA (gO (a 4 2<|by decide) rfl)<|bA (gO (a 4 3<|by decide) rfl)<|cJ<|jB rfl<|az M d "Nor"
theorem bFj(h:c≠c'){k:Nat}(d:k<5):jJ [.int k,mD S rk c,mD T Ta c']=.exc (.Dg "OtherLetters" [] []):=by
 have a:∀(k j:Nat),k≠j->(e2 Me (aA 0) (eC<|.int j) [k,mD S rk c,mD T Ta c']).Ve=.ok (.bl false):=λk j h=>gZ<|aJ rfl rfl<|(oH _ _).trans<|by rw[bf (by lia)]
 have b:∀(k:Nat),(e2 Me (aA 0) (eC<|.int k) [k,mD S rk c,mD T Ta c']).Ve=.ok (.bl true):=λk=>gZ<|aJ rfl rfl<|(oH _ _).trans<|by rw[fh rfl]
 refine Om (P:=λk=>jJ [.int k,mD S rk c,mD T Ta c']=.exc (.Dg "OtherLetters" [] [])) ?_ ?_ ?_ ?_ ?_ d
 .exact yF rfl (Jt<|pZ (b 0)<|Xv<|jB rfl<|ky h "Both")
 .exact yF rfl (bA (gO (a 1 0<|by decide) rfl)<|Jt<|pZ (b 1)<|Xv<|jB rfl<|ky h "Either")
 .exact yF rfl (bA (gO (a 2 0<|by decide) rfl)<|bA (gO (a 2 1<|by decide) rfl)<|Jt<|pZ (b 2)<|Xv<|jB rfl<|ky h "Less")
 .exact yF rfl (bA (gO (a 3 0<|by decide) rfl)<|bA (gO (a 3 1<|by decide) rfl)<|bA (gO (a 3 2<|by decide) rfl)<|Jt<|pZ (b 3)<|Xv<|jB rfl<|ky h "Unlike")
 exact yF rfl<|bA (gO (a 4 0<|by decide) rfl)<|bA (gO (a 4 1<|by decide) rfl)<|bA (gO (a 4 2<|by decide) rfl)<|bA (gO (a 4 3<|by decide) rfl)<|Xv<|jB rfl<|ky h "Nor"
def kX(h:c≠c'){k:Nat}(a:k<5):lC [.int k,mD S rk c,mD T Ta c']=.ok (.bl true):=by
 refine bT rfl<|aN (bH rfl)<|aN (st':=[some<|.v<|.int k,some<|.v<|mD S rk c,some<|.v<|mD T Ta c',some<|.v _]) ?_<|cJ rfl;unfold Zt rF;rw[jB rfl<|bFj h a];rfl
end
def i0{p:Prop}{r:R α}(h:¬ p):aP p r=.bad:=Pa h
def mQ{st:za}{r:R D}(h:f st=.bad)(a:g st=r):gP f g st=r:=by unfold gP;rwa [h]
theorem WD{st:za}{r:R D}(h:f st=r)(a:r≠.bad):gP f g st=r:=by
 unfold gP;simp_all
theorem g8{f:Nat->Ex}{st:za}{k:Nat}{z:R D}(c:k<5)(hit:f k st=z)(a:∀j,j<5->j≠k->f j st=.bad)(b:z≠.bad):gP (f 0) (gP (f 1)<|gP (f 2)<|gP (f 3)<|f 4) st=z:=by
 have:k=0\/k=1\/k=2\/k=3\/k=4:=by lia
 rcases this with rfl|rfl|rfl|rfl|rfl
 .exact WD hit b
 .exact mQ (a 0 (by lia)<|by lia) (WD hit b)
 .exact mQ (a 0 (by lia)<|by lia) (mQ (a 1 (by lia)<|by lia)<|WD hit b)
 .exact mQ (a 0 (by lia)<|by lia) (mQ (a 1 (by lia)<|by lia)<|mQ (a 2 (by lia)<|by lia)<|WD hit b)
 exact mQ (a 0 (by lia)<|by lia)<|mQ (a 1 (by lia)<|by lia)<|mQ (a 2 (by lia)<|by lia)<|mQ (a 3 (by lia)<|by lia) hit
theorem B7{k:Nat}(d:j<5)(c:k<5)(h:j≠k):¬ gm k=gm j:=by
 have a:j=0\/j=1\/j=2\/j=3\/j=4:=by lia
 have b:k=0\/k=1\/k=2\/k=3\/k=4:=by lia
 rcases a with rfl|rfl|rfl|rfl|rfl<;>rcases b with rfl|rfl|rfl|rfl|rfl<;>first|exact absurd rfl h|decide
section
variable{S T:am}{rk Ta:ac}{c:Nat}
def Z9{st:za}{k:Nat}(a:k<5)(h:st[n]?=some (some<|.v<|jD S T rk Ta c k)):gP (e1 (fG "Both" b0)<|aA n) (gP (e1 (fG "Either" b1)<|aA n)<|gP (e1 (fG "Less" b2)<|aA n)<|gP (e1 (fG "Unlike" b3)<|aA n)<|e1 (fG "Nor" b4)<|aA n) st=.ok (.bl<|[b0,b1,b2,b3,b4].getD k false):=by
 have e:∀j,e1 (fG (gm j)<|[b0,b1,b2,b3,b4].getD j false) (aA n) st=aP _ _:=λj=>by rw[iw,qK,h];rfl
 exact g8 a ((e k).trans<|aD rfl) (λj d b=>(e j).trans<|i0<|B7 d a b) (λz=>nomatch z)
def bBt{k:Nat}(a:k<5):oA [.int k]=.ok (.tup<|(Li k).map D.bl):=by
 refine Om (P:=λk=>oA [.int k]=.ok (.tup<|(Li k).map D.bl)) ?_ ?_ ?_ ?_ ?_ a<;>exact bT rfl<|cJ<|aJ (gY<|aO (jA rfl)<|aO (jA rfl)<|aO (jA rfl)<|aO (jA rfl)<|aO (jA rfl) rfl) rfl rfl
def OS(k:Nat):sK:=(List.range 5).map λ(j:Nat)=>decide ((k:Int)=(j:Int))
theorem Qo{k:Nat}(a:k<5):sH [jD S T rk Ta c k]=.ok (.lst<|(OS k).map D.bl):=by
 have is:∀{g f e d b:Bool}(x1:im),gP (e1 _<|aA 0) _ [jD S T rk Ta c k,x1]=.ok (.bl<|[g,f,e,d,b].getD k false):=λx1=>Z9 a rfl
 exact bT rfl<|aN (bH<|gY<|aO (is none)<|aO (is none)<|aO (is none)<|aO (is none) rfl)<|cJ<|aJ rfl (gY<|aO (is _) rfl)<|(aD<|fK<|by show 5<=_;lia).trans<|Om (P:=λk=>R.ok (D.lst<|[D.bl<|[true,false,false,false,false].getD k false,.bl<|[false,true,false,false,false].getD k false,.bl<|[false,false,true,false,false].getD k false,.bl<|[false,false,false,true,false].getD k false]++[.bl<|[false,false,false,false,true].getD k false])=R.ok (D.lst<|(OS k).map D.bl)) rfl rfl rfl rfl rfl a
def bBu(M:Rc S rk c)(l:Rc T Ta c){k:Nat}(d:k<5){b t:ac}(i:Ke c b)(j:Ke c t)(g:1<=t.length)(f:t.length<=10000)(bl:b.length<=10000):∃v a,Ev S rk (lt b t) 0 v/\Ev T Ta (lt b t) 0 a/\bR [jD S T rk Ta c k,ah (b,t)]=.ok (.bl<|Vm (Li k) v a):=by
 obtain⟨v,m,e⟩:=A7 M M.one i j g f bl;obtain⟨a,q,o⟩:=A7 l l.one i j g f bl;obtain⟨p,n,h⟩:=KL d;refine⟨v,a,m,q,bT rfl<|cJ ?_⟩;rw[t6 rfl n (by decide),aO (jy (JG d) rfl (by decide) e)<|aO (jy (sP d) rfl (by decide) o) rfl]
 exact gZ<|h _ v a
def bBv(M:Rc S rk c){k:Nat}(a:k<5) (e:dN [d,.int c]=.ok (.bl false)):bR [jD S T rk Ta c k,d]=.exc (.Dg "NoWord" [] []):=by
 obtain⟨p,b,h⟩:=KL a;refine yF rfl<|Xv ?_;rw[t6 rfl b (by decide),aZx,jy (JG a) rfl (by decide)<|bFf M.one e]
 rfl
theorem bK4{b:Bd}{a:List (List String×List String×(String->Bd))}{st:za}{x:String}{r:R Fl}(h:b st=.exc (.Dg x [] []))(c:Ew a x st=r):Zt b a st=r:=by
 simp_all
theorem bK5{st:za}{x:D}(h:f st=.exc x):rF f st=.exc x:=by
 simp_all
def WK(M:Rc S rk c){k:Nat}(a:k<5) (g:dN [d,.int c]=.ok (.bl false)):iZ [jD S T rk Ta c k,d]=.ok (.bl true):=by
 refine bT rfl<|aN (bH rfl)<|aN (st':=[some<|.v<|jD S T rk Ta c k,some<|.v d,some<|.v _]) ?_<|cJ rfl;have e:∀j,pP (gm j) "lets" bR [] (aA 0) (aC (aA 1) aK) [some<|.v<|jD S T rk Ta c k,some<|.v d,some<|.v<|.bl false]=aP _ _:=λj=>rfl
 exact bK4 (bK5<|g8 a (((e k).trans<|aD ⟨rfl,by decide⟩).trans<|bBv M a g) (λj f b=>(e j).trans<|i0 λz=>B7 f a b z.1)<|λz=>nomatch z) rfl
theorem bNh(e:sK)(a b:Nat):Vm e (decide ((a:Int)%2=0)) (decide ((b:Int)%2=0))=wI e a b:=by
 unfold Vm wI;have d:(a:Int)%2=0\/(a:Int)%2=1:=by lia
 have c:(b:Int)%2=0\/(b:Int)%2=1:=by lia
 rcases d with d|d<;>rcases c with c|c<;>rw[d,c] <;> rfl
theorem YK(F:ss):∀(w:ac)(n:Nat),(∀i,i<w.length->w.getD i 0=F (n+i))->Fg (Zf S T) (fw S F 0 n,fw T F 0 n) w=(fw S F 0<|n+w.length,fw T F 0<|n+w.length)/\Gm S T (fw S F 0 n,fw T F 0 n) w=(List.range' n w.length).map λm=>(fw S F 0 m,fw T F 0 m)
 |[],n,_=>⟨rfl,rfl⟩
 |ch::w,n,h=>by
  have h0:=by simpa using (h 0<|by simp)
  obtain⟨b,c⟩:=YK F w (n+1) λi d=>by
   rw[show n+1+i=n+(i+1) by lia,<-(h (i+1)<|by simp;lia)]
   simp
  have a:Zf S T (fw S F 0 n,fw T F 0 n) (ch-97)=(fw S F 0<|n+1,fw T F 0<|n+1):=by rw[h0];rfl
  refine⟨?_,?_⟩
  .show Fg _ _ w=_;rw[a,b,fg,show n+1+w.length=n+(w.length+1) by lia]
  show _::Gm S T _ w=_;rw[a,c,fg,MH,Wf]
theorem u6{g:M2}{l:f8}(c:l≠[]):Zm (l.map λx=>((g x:Nat):Int))=(vf g l 0:Nat):=by
 obtain⟨_,e,b⟩:=JL g l 0;refine mE ?_ λy d=>?_
 .rcases b with b|⟨x,a,b⟩
  .obtain⟨x,a⟩:=List.exists_mem_of_ne_nil l c;grind
  exact gf.mpr ⟨x,a,by lia⟩
 obtain⟨x,a,rfl⟩:=gf.mp d;have:=e x a;lia
theorem bNi{x:Tl}(d:WP S T rk Ta ws c (Fg (Zf S T) (0,0) x.1) x.2){v:Bool}(o:Ev S rk (lt x.1 x.2) 0 v)(s:Ev T Ta (lt x.1 x.2) 0 v'):Vm ws v v'=true:=by
 have t:=Dz.mpr d.ne;obtain⟨g,_⟩:=YK (lt x.1 x.2) x.1 0 λi e=>KN e
 obtain⟨r,q⟩:=YK (lt x.1 x.2) x.2 x.1.length λi e=>by
  have:=S5 (b:=x.1) 0 e
  rwa [Nat.zero_mul,bx]at this
 rw[cx]at g;have a:=d.cl;have b:=d.wt;rw[show ((0,0))=(fw S (lt x.1 x.2) 0 0,fw T (lt x.1 x.2) 0 0) from rfl,g]at a b
 rw[r]at a;rw[q]at b;have f:(List.range' x.1.length x.2.length).map (λm=>(fw S (lt x.1 x.2) 0 m,fw T (lt x.1 x.2) 0 m))≠[]:=λz=>by
  have h:x.2.length=0:=by
   have:=congrArg List.length z
   rwa [Yc,AQ]at this
  lia
 have l:∀n,x.1.length<=n->lt x.1 x.2 (n+(x.1.length+x.2.length-x.1.length))=lt x.1 x.2 n:=λn p=>by rw[Ow];exact bJq p
 rw[o.alone<|⟨x.1.length,x.1.length+x.2.length,⟨by lia,l,(congrArg Prod.fst a).symm⟩,rfl⟩,s.alone<|⟨x.1.length,x.1.length+x.2.length,⟨by lia,l,(congrArg Prod.snd a).symm⟩,rfl⟩]
 have k:=u6 (g:=λx=>rk.getD x.1 0) f
 have j:=u6 (g:=λx=>Ta.getD x.2 0) f
 rw[Gh]at k j;unfold mx Lf;rw[Ow,Gh,Gh];refine Eq.trans ?_ b;rw[<-bNh,<-k,<-j];rfl
theorem y6{st:za} {v:Bool} (e:ws.length=4) (b:st[n]?=some (some<|.v<|.tup<|ws.map D.bl)) (d:f st=.ok (.bl v)) (c:g st=.ok (.bl v')):e2 jb (aA n) (e2 eQ (e2 lZ (eI 2)<|e1 vq<|mF f)<|e1 vq<|mF g) st=.ok (.bl<|Vm ws v v'):=by
 have a:∀{f:Ex}{v:Bool},f st=.ok (.bl v)->e1 vq (mF f) st=.ok (.int<|(!v).toNat):=λ{f v} h=>by
  rw[iw,mG h];cases v<;>rfl
 refine aJ (by rw[qK,b]) (aJ (aJ rfl (a d)<|aD<|.inl<|by lia) (a c) rfl) ?_
 have hl:(!v).toNat*2+(!v').toNat<ws.length:=by rw[e];cases v<;>cases v' <;> decide
 show Ci _=_;rw[show (2:Int)*((!v).toNat)+((!v').toNat)=(((!v).toNat*2+(!v').toNat:Nat)) by lia,Dc (by rwa [Yc])]
 unfold Vm;simp[hl]
def bFk(x:Tl):plain (ah x)=true/\zg (ah x)<=1/\ae (ah x) (ah x)=true:=by
 unfold ah;simp[jR,pM]
theorem IY{l r:Nat} (h:Told S T rk Ta ws c l r d):Hi d d=.ok (.bl false):=by
 rcases h with ⟨rfl,_⟩|⟨x,rfl,_⟩
 .simp
 obtain⟨a,e,b⟩:=bFk x;exact(aD ⟨by lia,a,a⟩).trans (by rw[b];rfl)
theorem bFl(M:Rc S rk c)(g:Rc T Ta c)(o:S.length<=7){k:Nat}(a:k<5):vG [jD S T rk Ta c k,zk S rk,zk T Ta,mD S rk c,mD T Ta c,.tup<|(Li k).map D.bl]=.ok (.bl true):=by
 have l:=NI a;obtain⟨d,q,f⟩:=bFd M g o M.one g.one ⟨l,rfl⟩;have n:∀{st:za},st[0]?=some (some<|.v<|jD S T rk Ta c k)->fV lO "some_word" (aA 0) aK st=.ok d:=λh=>VD (by rw[qK,h]) rfl (Om (P:=λk=>lO.lookup (gm k)=some eZ) rfl rfl rfl rfl rfl a) (by decide) (by
  refine bT rfl<|cJ ?_;show R.bind _ _=_
  rwa [aO (JG a)<|aO (sP a)<|aO (WN a rfl) rfl])
 refine bT rfl<|aN (bH<|n rfl)<|bA (gO (zK (aJ rfl (q)<|IY f) λ_=>aJ (n rfl) rfl<|IY f) rfl) ?_
 rcases f with ⟨rfl,_⟩|⟨x,rfl,m,b,t,j,_⟩
 .exact nC (pZ rfl<|cJ rfl)
 have i:=Dz.mpr b.ne;obtain⟨v,p,e⟩:=vF M m b.lt i j (by lia)
 obtain⟨v',s,r⟩:=vF g m b.lt i j (by lia)
 refine bA (gO rfl rfl)<|cJ<|(y6 l rfl (aQ rfl e)<|aQ rfl r).trans ?_;rw[bNi b p s]
end
def vZ{i j:Int}(h : -1000000<i/\i<1000000\/-1000000<j/\j<1000000):lZ (.int i) (.int j)=.ok (.int<|i*j):=aD (by omega)
def Gw(i j:Int):eQ (.int i) (.int j)=.ok (.int<|i+j):=rfl
theorem Lv(a:li)(i:Int)(f:0<=i):∃v,dX [.lst<|a.map D.int,.int i]=.ok (.int v):=by
 have len:e1 kI (aA 0) [D.lst<|a.map D.int,i]=.ok (.int a.length):=by simp
 have c:∀j:Int,0<=j->j<a.length->∃v,jb (.lst<|a.map D.int) (.int j)=.ok (.int v):=λj h0 k=>by
  obtain⟨d,g,e⟩:=i3 (xs:=a.map D.int) h0 (by simpa using k)
  obtain⟨v,_,rfl⟩:=gf.mp g;exact⟨v,gU e⟩
 by_cases h:i<a.length
 .obtain⟨v,b⟩:=c i f h;exact⟨v,bT rfl<|nC<|pZ (aJ rfl len<|by rw[BL,fh h])<|cJ<|aJ rfl rfl b⟩
 by_cases h0:a.length=0
 .refine⟨48271*i+7,bT rfl<|bA (gO (aJ rfl len<|by rw[BL,bf h]) rfl)<|nC<|pZ (aJ len rfl<|by rw[oH,fh (by lia)])<|cJ<|aJ (aJ rfl rfl<|vZ<|.inl<|by lia) rfl rfl⟩
 obtain⟨v,b⟩:=c (i*7%a.length) (Rz _<|by lia)<|HH _<|by lia
 refine⟨v+7919*i,bT rfl<|bA (gO (aJ rfl len<|by rw[BL,bf h]) rfl)<|bA (gO (aJ len rfl<|by rw[oH,bf (by lia)]) rfl)<|cJ<|aJ (aJ rfl (aJ (aJ rfl rfl<|vZ<|.inr<|by lia) len<|kJ<|by lia) b) (aJ rfl rfl<|vZ<|.inl<|by lia) rfl⟩
theorem mH(v k:Int){m:Nat}(c:0<m):∃x:Nat,x<m/\bI [.int v,.int k,.int m]=.ok (.int x):=by
 have sm:∀z n:Int,0<n->n<4294967296->-18446744073709551616<z%n/\z%n<18446744073709551616:=λz n b a=>⟨by have:=Rz z (show n≠0 by lia);lia,by have:=HH z b;lia⟩
 have:∃z:Int,bI [.int v,.int k,.int m]=.ok (.int<|z%m):=⟨_,bT rfl<|aN (bH<|aJ (aJ (aJ (aJ (aJ rfl rfl<|kJ<|by lia) (aJ rfl rfl<|vZ<|.inl<|by lia)<|Gw _ _) rfl<|Gw _ _) rfl<|vZ<|.inr<|by lia) rfl<|kJ<|by lia)<|aN (bH<|aJ (aJ (aJ (aJ rfl rfl<|aD<|.inl<|sm _ _ (by lia)<|by lia) rfl<|kJ<|by lia) rfl<|vZ<|.inr<|by lia) rfl<|kJ<|by lia)<|cJ<|aJ (aJ (aJ rfl rfl<|aD<|.inl<|sm _ _ (by lia)<|by lia) rfl<|kJ<|by lia) rfl<|kJ<|by lia⟩
 obtain⟨z,e⟩:=this;have a:=HH z (show (0:Int)<m by lia)
 exact⟨(z%m).toNat,by lia,by rwa [Int.toNat_of_nonneg<|Rz z<|(by lia)]⟩
theorem C7{Q:FM}:∀(ys:db),(∀y∈ys,∃n:Nat,y=.int n/\Q n)->∃r:ac,ys=ja r/\∀x∈r,Q x
 |[],_=>⟨[],rfl,λ_ h=>nomatch h⟩
 |y::ys,h=>by
  obtain⟨n,rfl,d⟩:=h y Zb;obtain⟨r,rfl,c⟩:=C7 ys λy a=>h y<|Lc _ a
  exact⟨n::r,rfl,λx b=>(qc.mp b).elim (λe=>by rwa [e])<|c x⟩
def uD{E:Ex}{st:za} {xs:db} {Q:FM} (h:it st=.ok xs) (c:xs.length<=1000000) (g:∀d∈xs,∃n:Nat,E ((st.set j none).set j d)=.ok (.int n)/\Q n):∃r,bU [j] (Pb j) it cA E st=.ok (.lst<|ja r)/\r.length=xs.length/\∀x∈r,Q x:=by
 obtain⟨ys,e1,e2,i⟩:=DL (tg:=Pb j) (c:=cA) (P:=λ_ y=>∃n:Nat,y=.int n/\Q n) xs λd f=>let ⟨n,e,q⟩:=g d f;⟨_,_,rfl,rfl,e,n,rfl,q⟩
 obtain⟨r,rfl,b⟩:=C7 ys λy a=>let ⟨_,_,h⟩:=i y a;h
 exact⟨r,lU h c e1,by rw[<-e2,bG],b⟩
def LL{E:Ex}{st:za}{c:Nat} {xs:db} (h:it st=.ok xs) (b:xs.length<=1000000) (i:∀d∈xs,∃r,E ((st.set j none).set j d)=.ok (.lst<|ja r)/\r.length=c/\∀x∈r,x<n):∃S,bU [j] (Pb j) it cA E st=.ok (.lst<|cc S)/\S.length=xs.length/\∀r∈S,r.length=c/\∀x∈r,x<n:=by
 obtain⟨ys,e1,e2,k⟩:=DL (tg:=Pb j) (c:=cA) (P:=λ_ y=>∃r:ac,y=.lst (ja r)/\r.length=c/\∀x∈r,x<n) xs λd f=>let ⟨r,e,q⟩:=i d f;⟨_,_,rfl,rfl,e,r,rfl,q⟩
 obtain⟨S,rfl,g⟩:=Z2 ys c n λy a=>let ⟨_,_,h⟩:=k y a;h
 exact⟨S,lU h b e1,by rw[<-e2,iR],g⟩
def yG{st:za} (h:f st=.ok (.int n)) (a:n<=1000000):∃xs,pA f st=.ok xs/\xs.length=n/\∀d∈xs,∃k:Nat,k<n/\d=.int k:=⟨_,pw h a,by simp,λd b=>by
 obtain⟨k,c,rfl⟩:=gf.mp b;exact⟨k,Jj.mp c,rfl⟩⟩
theorem JY(v:Int){m:Nat}(q:0<m)(s:m<=1000)(p:n<=1000):∃r:ac,mL [.int v,.int m,.int n]=.ok (.lst<|ja r)/\r.length=n/\∀x∈r,x<m:=by
 have turn:∀(ks:db)(v:Int)(r:ac)(b:im),r.length+ks.length<=1000->(∀x∈r,x<m)->∃v' a c,Uc (Pb 4) yZ ks [v,m,n,some<|.o .l<|ja r,b]=.ok (.nx [v',m,n,some<|.o .l<|ja a,c])/\a.length=r.length+ks.length/\∀x∈a,x<m:=by
  intro ks
  induction ks with
  |nil=>exact λv r b _ f=>⟨v,r,b,rfl,rfl,f⟩
  |cons d ks j=>
   intro v r b hl f;have t:=HH v (show (0:Int)<m by lia)
   rw[fg]at hl;obtain⟨v',a,c,e,e2,g⟩:=j (v/m) (r++[(v%m).toNat]) d (by rw[Pg,vn];lia) λx k=>(Wh.mp k).elim (f x) λh=>by rw[Ce.mp h];lia
   refine⟨v',a,c,nD rfl (aN (Uv (aJ rfl rfl<|kJ<|by lia) rfl<|by rw[bG];lia)<|bH<|aJ rfl rfl<|X2<|by lia) ?_,by rw[e2,Pg,fg];simp;lia,g⟩
   have l:ja (r++[(v%m).toNat])=ja r++[.int<|v%m]:=by
    unfold ja;rw[qh,List.map_singleton,Int.toNat_of_nonneg<|Rz v<|show (m:Int)≠0 by lia]
   rwa [l]at e
 obtain⟨xs,o,i,_⟩:=yG (f:=aA 2) (st:=[v,m,n,some<|.o .l<|ja [],none]) rfl (by lia)
 obtain⟨v',a,c,e,e2,g⟩:=turn xs v [] none (by simp;lia) (λ_ h=>nomatch h)
 refine⟨a,bT rfl<|aN (sO<|gY rfl)<|aN (lD o e) ?_,by rw[e2,i];simp,g⟩
 simp
theorem A6(p:li){s i c:Nat}(h1:1<=i)(h8:i<=8)(c1:1<=c)(c3:c<=3):∃S rk,tR [.lst<|p.map D.int,.int s,.int i,.int c]=.ok (.lst [.lst<|cc S,.lst<|ja rk])/\Rc S rk c/\S.length<=i:=by
 obtain⟨v,T⟩:=Lv p s (by lia)
 obtain⟨x,hx,ex⟩:=mH v 1 (m:=i) (by lia)
 obtain⟨n,en⟩:∃n,n=1+x:=⟨_,rfl⟩;have P:∀k:Nat,∃u,dX [.lst<|p.map D.int,.int<|(s:Int)+1+(k:Int)]=.ok (.int u):=λk=>Lv p _ (by lia)
 let st (a f:im):za:=[D.lst<|p.map D.int,s,i,c,v,n,a,f,none,none,none]
 have o:∀a f,∃S,bU [8] (Pb 8) (pA<|aA 5) cA xW (st a f)=.ok (.lst<|cc S)/\S.length=n/\∀r∈S,r.length=c/\∀y∈r,y<n:=λa f=>by
  obtain⟨xs,B,t,q⟩:=yG (f:=aA 5) (st:=st a f) (n:=n) rfl (by lia)
  obtain⟨S,e,l,h⟩:=LL (E:=xW) (j:=8) (c:=c) (n:=n) B (by lia) λd g=>by
   obtain⟨k,E,rfl⟩:=q d g;obtain⟨ys,e1,Z,Y⟩:=yG (f:=aA 3) (st:=((st a f).set 8 none).set 8 k) (n:=c) rfl (by lia)
   obtain⟨u,w⟩:=P k;obtain⟨r,e2,J,M⟩:=uD (E:=YV) (j:=9) e1 (by lia) λd g=>by
    obtain⟨j,hj,rfl⟩:=Y d g;obtain⟨y,K,A⟩:=mH u j (m:=n) (by lia)
    exact⟨y,aQ (aO (aQ (aO rfl<|aO (aJ (aJ rfl rfl rfl) rfl rfl) rfl) w) rfl) A,K⟩
   exact⟨r,e2,by rw[J,Z],M⟩
  exact⟨S,e,by rw[l,t],h⟩
 have BC:∀a f,∃S,bU [8] (Pb 8) (pA<|aA 5) cA rZ (st a f)=.ok (.lst<|cc S)/\S.length=n/\∀r∈S,r.length=c/\∀y∈r,y<n:=λa f=>by
  obtain⟨xs,B,t,q⟩:=yG (f:=aA 5) (st:=st a f) (n:=n) rfl (by lia)
  obtain⟨S,e,l,h⟩:=LL (E:=rZ) (j:=8) B (by lia) λd g=>by
   obtain⟨k,E,rfl⟩:=q d g;obtain⟨u,w⟩:=P k;obtain⟨r,e2,J,M⟩:=JY u (m:=n) (n:=c) (by lia) (by lia) (by lia)
   exact⟨r,aQ (aO (aQ (aO rfl<|aO (aJ (aJ rfl rfl rfl) rfl rfl) rfl) w) rfl) e2,J,M⟩
  exact⟨S,e,by rw[l,t],h⟩
 have X:∀a f,∃rk,bU [8] (Pb 8) (pA<|aA 5) cA xX (st a f)=.ok (.lst<|ja rk)/\rk.length=n:=λa f=>by
  obtain⟨xs,B,t,q⟩:=yG (f:=aA 5) (st:=st a f) rfl (by lia)
  obtain⟨y,K,A⟩:=mH v 2 (m:=4) (by lia)
  obtain⟨r,e,l,_⟩:=uD (E:=xX) (j:=8) B (by lia) λd g=>by
   obtain⟨k,E,rfl⟩:=q d g;obtain⟨u,w⟩:=P k;obtain⟨z,R,ez⟩:=mH u 5 (m:=2+y) (by lia)
   refine⟨z,aQ (aO (aQ (aO rfl<|aO (aJ (aJ rfl rfl rfl) rfl rfl) rfl) w)<|aO rfl<|aO (aJ rfl (aQ rfl A)<|Gw _ _) rfl) ?_,True.intro⟩
   rwa [show (2:Int)+(y:Int)=((2+y:Nat):Int) by lia]
  exact⟨r,e,by rw[l,t]⟩
 have VT:∀(a:im)(rk:ac),rk.length=n->∃Ta,bU [10] (Pb 10) (Cd<|aA 7) cA sE (st a<|D.lst<|ja rk)=.ok (.lst<|ja Ta)/\Ta.length=n:=λa rk E=>by
  obtain⟨r,e,l,_⟩:=uD (E:=sE) (j:=10) (Q:=λ_=>True) (it:=Cd<|aA 7) (st:=st a<|D.lst<|ja rk) (pC rfl) (by rw[bG];lia) λd g=>by
   obtain⟨y,K,rfl⟩:=lE g;obtain⟨z,R⟩:=Int.eq_ofNat_of_zero_le<|Rz v<|show (10^29:Int)≠0 by decide
   have HI:(y:Int)+v%10^29*2=((y+z*2:Nat):Int):=by rw[R];lia
   refine⟨y+z*2,?_,True.intro⟩;rw[<-HI];exact aJ rfl (aJ (aJ (aQ rfl T) (aJ rfl rfl<|aD<|by decide)<|kJ<|by decide) rfl<|vZ<|.inr<|by lia) rfl
  exact⟨r,e,by rw[l,bG,E]⟩
 have V:∀(a f:im)(k m:Nat),0<m->∃b,e2 Me (aV bI<|aC (aA 4)<|aC (eC<|.int k)<|aC (eC<|.int m) aK) (eI 0) (st a f)=.ok (.bl b):=λa f k m hm=>by
  obtain⟨y,_,A⟩:=mH v k hm;exact⟨_,aJ (aQ rfl A) rfl<|oH _ _⟩
 obtain⟨F,W,H,L⟩:=o none none;obtain⟨S2,N,G,Mf⟩:=BC (D.lst<|cc F) none;have hS:∃S,Pd (e2 Me (aV bI<|aC (aA 4)<|aC (eI 4)<|aC (eI 2) aK)<|eI 0) (cV 6<|bU [8] (Pb 8) (pA<|aA 5) cA rZ) cX (st (D.lst<|cc F) none)=.ok (.nx<|st (D.lst<|cc S) none)/\S.length=n/\∀r∈S,r.length=c/\∀y∈r,y<n:=by
  obtain⟨b,vf⟩:=V (D.lst<|cc F) none 4 2 (by lia)
  cases b with
  |true=>exact⟨S2,pZ vf<|bH N,G,Mf⟩
  |false=>exact⟨F,gO vf rfl,H,L⟩
 obtain⟨S,e3,Q,hs⟩:=hS;obtain⟨C,O,U⟩:=X (D.lst<|cc S) none;obtain⟨k2,Ii,I⟩:=VT (D.lst<|cc S) C U;have hK:∃rk,Pd (e2 Me (aV bI<|aC (aA 4)<|aC (eI 3)<|aC (eI 8) aK)<|eI 0) (cV 7<|bU [10] (Pb 10) (Cd<|aA 7) cA sE) cX (st (D.lst<|cc S)<|D.lst<|ja C)=.ok (.nx<|st (D.lst<|cc S)<|D.lst<|ja rk)/\rk.length=n:=by
  obtain⟨b,vf⟩:=V (D.lst<|cc S) (D.lst<|ja C) 3 8 (by lia)
  cases b with
  |true=>exact⟨k2,pZ vf<|bH Ii,I⟩
  |false=>exact⟨C,gO vf rfl,U⟩
 obtain⟨rk,e5,lk⟩:=hK;refine⟨S,rk,bT rfl ?_,⟨by lia,by lia,c1,c3,λr hr=>by rw[Q];exact hs r hr,by rw[lk,Q]⟩,by lia⟩
 unfold RW;refine aN (bH<|aQ rfl T)<|aN ?_<|aN (bH W)<|aN e3<|aN (bH O)<|aN e5<|cJ<|gY rfl;rw[bH (d:=.int n)<|aJ rfl (aQ rfl ex)<|by rw[Gw,en];congr 2]
 rfl
theorem W3{xs:List α}{i:Int}(c : -(xs.length:Int)<=i)(b:i<xs.length):∃a∈xs,Ye xs i=some a:=by
 by_cases h:0<=i
 .exact i3 h b
 unfold Ye wk;rw[Pa h,Kb c];exact⟨xs[(i+xs.length).toNat]'(by lia),gj _,Be _⟩
def BP{ys:db}(h:xs.length+ys.length<=1000):eQ (.lst xs) (.lst ys)=.ok (.lst<|xs++ys):=aD<|fK<|Nh h<|by decide
section
variable{S:am}{rk:ac}{c:Nat}
def jh(v:Int)(S:am)(rk:ac)(w:Nat)(x5 b a x8:im):za:=[some<|.v<|.int v,some<|.v<|.lst<|cc S,some<|.v<|.lst<|ja rk,some<|.v<|.int (S.length:Nat),some<|.v<|.int w,x5,b,a,x8,none,none]
theorem OM{E:Ex}(k:Nat)(f:∀(st:za)(y:Nat),st[9]?=some (some<|.v<|.int y)->E st=.ok (.int ((y+k:Nat):Int)))(i:rk.length<=1000){st:za}(b:9<st.length)(g:st[2]?=some (some<|.v<|.lst<|ja rk)):∃a,bU [9] (Pb 9) (Cd<|aA 2) cA E st=.ok (.lst<|ja a)/\a.length=rk.length:=by
 obtain⟨r,e,l,_⟩:=uD (j:=9) (Q:=λ_=>True) (it:=Cd<|aA 2) (pC<|by rw[qK,g]) (by rw[bG];lia) λd c=>by
  obtain⟨y,h,rfl⟩:=lE c;exact⟨y+k,f _ y (by simp[b]),True.intro⟩
 exact⟨r,e,by rw[l,bG]⟩
def YO{st:za}{y:Nat}(k:Nat)(h:st[9]?=some (some<|.v<|.int y)):e2 eQ (aA 9) (eC<|.int k) st=.ok (.int ((y+k:Nat):Int)):=aJ (by rw[qK,h]) rfl rfl
theorem y0(M:Rc S rk c)(v:Int)(w:Nat){x5 x8:im}:∀(a:db) (R:am) (b:im),R.length+a.length<=1000->(∀d∈a,∃k:Nat,d=.int k)->(∀r∈R,r.length=c/\∀x∈r,x<2*S.length)->
  ∃R' l,Uc (Pb 7) mW a (jh v S rk w x5 (some<|.o .l<|cc R) b x8)=.ok (.nx<|jh v S rk w x5 (some<|.o .l<|cc R') l x8)/\R'.length=R.length+a.length/\∀r∈R',r.length=c/\∀x∈r,x<2*S.length
 |[],R,b,_,_,j=>⟨R,b,rfl,rfl,j⟩
 |d::a,R,b,hl,n,j=>by
  obtain⟨k,rfl⟩:=n d Zb;have E:=M.one;have m:k%S.length<S.length:=mod_lt _ (by lia)
  have f:=M.row _<|gj m;rw[fg]at hl;have s:e2 jb (aA 1) (e2 tE (aA 7)<|aA 3) (jh v S rk w x5 (some<|.o .l<|cc R) k x8)=.ok (.lst<|ja S[k%S.length]):=aJ rfl (aJ rfl rfl<|kJ<|by lia)<|gU<|by exact Vv m
  obtain⟨r,e,o,t⟩:=uD (E:=zA) (j:=10) (Q:=λx=>x<2*S.length) (pC s) (by rw[bG,f.1];have:=M.c3;lia) λd i=>by
   obtain⟨g,z,rfl⟩:=lE i;have F:=f.2 g z;obtain⟨y,C,B⟩:=mH v (3+5*k+g) (m:=2) (by lia)
   refine⟨g+S.length*y,?_,(by
    have:y=0\/y=1:=by lia
    rcases this with rfl|rfl<;>lia)⟩
   have D:=M.most;exact aJ rfl (aJ rfl (aQ (aO rfl<|aO (aJ (aJ rfl (aJ rfl rfl<|vZ<|.inl<|by lia) rfl) rfl rfl) rfl) B)<|vZ<|.inl<|by lia) rfl
  obtain⟨R',l,e2,p,A⟩:=y0 M v w a (R++[r]) k (by rw[Pg,vn];lia) (λd i=>n d<|Lc _ i) λq u=>(Wh.mp u).elim (j q) λh=>by rw[Ce.mp h];exact⟨by rw[o,bG,f.1],t⟩
  refine⟨R',l,nD rfl (Uv e rfl<|by rw[iR];lia) ?_,by rw[p,Pg,fg];simp;lia,A⟩
  rwa [show cc (R++[r])=cc R++[.lst<|ja r] by unfold cc;rw[qh];rfl]at e2
def Rc.with(M:Rc S rk c) (h:Ta.length=rk.length):Rc S Ta c:=⟨M.one,M.most,M.c1,M.c3,M.row,h.trans M.rm⟩
theorem Ş(M:Rc S rk c)(v:Int):∃J I,jX [.int v,.lst<|cc S,.lst<|ja rk]=.ok (zk J I)/\Rc J I c:=by
 have h1:=M.one;have h8:=M.most;have U:=M.rm;obtain⟨w,hw,X⟩:=mH v 1 (m:=5) (by lia)
 have t:∀k:Int,e2 Me (aA 4) (eC<|.int k) (jh v S rk w none none none none)=.ok (.bl<|decide ((w:Int)=k)):=λk=>aJ rfl rfl<|oH _ _
 have j:∀{d:D},aW (Pd (e2 Me (aA 4)<|eI 0) (cG<|iQ<|aC (aA 1)<|aC (bU [9] (Pb 9) (Cd<|aA 2) cA mV) aK) cX) (aW (Pd (e2 Me (aA 4)<|eI 1) (aW (cV 5<|aV bI<|aC (aA 0)<|aC (eI 2)<|aC (aA 3) aK)<|cG<|iQ<|aC (aA 1)<|aC (e2 eQ (e2 eQ (jk (aA 2) uY<|rR<|aA 5)<|iQ<|aC (e2 eQ (e2 jb (aA 2)<|aA 5)<|eI 1) aK)<|jk (aA 2) (rR<|e2 eQ (aA 5)<|eI 1) uY) aK) cX)<|aW (Pd (pN (e2 Me (aA 4)<|eI 2)<|e2 ao (aA 3)<|eI 4) (aW (tH 6<|iQ aK)<|aW (tK (Pb 7) (pA<|e2 lZ (eI 2)<|aA 3) mW)<|Rm [6]<|cG<|iQ<|aC (aA 6)<|aC (e2 eQ (aA 2)<|bU [9] (Pb 9) (Cd<|aA 2) cA iD) aK) cX)<|aW (Pd (e2 Me (aA 4)<|eI 3) (aW (cV 8<|bU [7] (Pb 7) (pA<|aA 3) cA rG)<|cG<|iQ<|aC (aA 8)<|aC (bU [7] (Pb 7) (pA<|aA 3) cA rH) aK) cX)<|cG<|iQ<|aC (aA 1)<|aC (bU [9] (Pb 9) (Cd<|aA 2) cA zE) aK) (jh v S rk w none none none none)=.ok (.rt d)->jX [.int v,.lst<|cc S,.lst<|ja rk]=.ok d:=λ{d} h=>by
  refine bT rfl<|aN (bH (d:=.int (S.length:Nat))<|by simp[iR])<|aN (bH<|aQ rfl X) h
 by_cases N:w=0
 .obtain⟨r,e,l⟩:=OM (E:=mV) 2 (λst y h=>YO 2 h) (by lia) (st:=jh v S rk w none none none none) (by simp[jh]) rfl
  exact⟨S,r,j<|nC<|pZ (gF (t 0)<|by rw[N];rfl)<|cJ<|gY<|aO rfl<|aO e rfl,M.with l⟩
 have m:Pd (e2 Me (aA 4)<|eI 0) (cG<|iQ<|aC (aA 1)<|aC (bU [9] (Pb 9) (Cd<|aA 2) cA mV) aK) cX (jh v S rk w none none none none)=.ok (.nx<|jh v S rk w none none none none):=gO (gF (t 0)<|bf<|by lia) rfl
 by_cases L:w=1
 .obtain⟨a,ha,Y⟩:=mH v 2 (m:=S.length) (by lia)
  have V:a<rk.length:=by lia
  refine⟨S,rk.take a++[rk[a]+1]++rk.drop (a+1),j<|bA m<|nC<|pZ (gF (t 1)<|by rw[L];rfl)<|aN (st':=jh v S rk w a none none none) (bH<|aQ rfl Y)<|cJ<|gY<|aO rfl<|aO ?_ rfl,M.with<|by simp;lia⟩
  have s1:jk (aA 2) uY (rR<|aA 5) (jh v S rk w a none none none)=.ok (.lst<|ja<|rk.take a):=by
   show R.ok (D.lst<|cut (ja rk) none<|some (a:Int))=_;rw[R5];unfold ja;rw[List.map_take]
  have P:jk (aA 2) (rR<|e2 eQ (aA 5)<|eI 1) uY (jh v S rk w a none none none)=.ok (.lst<|ja<|rk.drop<|a+1):=by
   show R.ok (D.lst<|cut (ja rk) (some<|(a:Int)+1) none)=_;rw[show (a:Int)+1=((a+1:Nat):Int) by lia,GN _ _ (by rw[bG];lia)]
   unfold ja;rw[List.map_drop]
  have O:iQ (aC (e2 eQ (e2 jb (aA 2)<|aA 5)<|eI 1) aK) (jh v S rk w a none none none)=.ok (.lst [.int ((rk[a]+1:Nat):Int)]):=gY<|aO (aJ (x:=.int (rk[a]:Nat)) (aJ rfl rfl<|gU<|by rw[Dc (by rwa [bG])];simp[ja]) rfl rfl) rfl
  rw[(aJ (aJ s1 O<|BP<|by rw[bG,KH];simp;lia) P<|BP<|by rw[Pg,bG,bG,KH,List.length_drop];simp;lia)]
  unfold ja;rw[qh,qh];rfl
 have f1:Pd (e2 Me (aA 4)<|eI 1) (aW (cV 5<|aV bI<|aC (aA 0)<|aC (eI 2)<|aC (aA 3) aK)<|cG<|iQ<|aC (aA 1)<|aC (e2 eQ (e2 eQ (jk (aA 2) uY<|rR<|aA 5)<|iQ<|aC (e2 eQ (e2 jb (aA 2)<|aA 5)<|eI 1) aK)<|jk (aA 2) (rR<|e2 eQ (aA 5)<|eI 1) uY) aK) cX (jh v S rk w none none none none)=.ok (.nx<|jh v S rk w none none none none):=gO (gF (t 1)<|bf<|by lia) rfl
 have G:pN (e2 Me (aA 4)<|eI 2) (e2 ao (aA 3)<|eI 4) (jh v S rk w none none none none)=.ok (.bl<|decide ((w:Int)=2)&&decide ((S.length:Int)<4)):=yC (t 2) λ_=>aJ rfl rfl rfl
 by_cases F:w=2/\S.length<4
 .obtain⟨xs,E,A,p⟩:=yG (f:=e2 lZ (eI 2)<|aA 3) (st:=jh v S rk w none (some<|.o .l<|cc []) none none) (n:=2*S.length) (aJ rfl rfl<|by rw[vZ<|.inl<|by lia];rfl) (by lia)
  obtain⟨R,n,e1,s,Bs⟩:=y0 M v w (x5:=none) (x8:=none) xs [] none (by simp;lia) (λd b=>let ⟨k,_,h⟩:=p d b;⟨k,h⟩) (λ_ h=>nomatch h)
  have i:R.length=2*S.length:=by rw[s,A];simp
  obtain⟨r,e,l⟩:=OM (E:=iD) (rk:=rk) 2 (λst y h=>YO 2 h) (by lia) (st:=jh v S rk w none (D.lst<|cc R) n none) (by simp[jh]) rfl
  refine⟨R,rk++r,j<|bA m<|bA f1<|nC<|pZ (gF G<|by rw[F.1,fh (show (S.length:Int)<4 by lia)];rfl)<|aN (sO<|gY rfl)<|aN (lD E e1) ?_,⟨by lia,by lia,M.c1,M.c3,λq f=>by rw[i];exact Bs q f,by rw[Pg,l,i,U];lia⟩⟩
  have:Rm [6] (cG<|iQ<|aC (aA 6)<|aC (e2 eQ (aA 2)<|bU [9] (Pb 9) (Cd<|aA 2) cA iD) aK) (jh v S rk w none (some<|.o .l<|cc R) n none)=cG (iQ<|aC (aA 6)<|aC (e2 eQ (aA 2)<|bU [9] (Pb 9) (Cd<|aA 2) cA iD) aK) (jh v S rk w none (D.lst<|cc R) n none):=rfl;rw[this];exact cJ<|gY<|aO rfl<|aO (by
   rw[aJ (x:=.lst<|ja rk) rfl e<|BP<|by rw[bG,bG];lia]
   unfold ja;rw[qh]) rfl
 have H:Pd (pN (e2 Me (aA 4)<|eI 2)<|e2 ao (aA 3)<|eI 4) (aW (tH 6<|iQ aK)<|aW (tK (Pb 7) (pA<|e2 lZ (eI 2)<|aA 3) mW)<|Rm [6]<|cG<|iQ<|aC (aA 6)<|aC (e2 eQ (aA 2)<|bU [9] (Pb 9) (Cd<|aA 2) cA iD) aK) cX (jh v S rk w none none none none)=.ok (.nx<|jh v S rk w none none none none):=gO (gF G (by
  by_cases z:w=2
  .rw[bf<|show ¬ (S.length:Int)<4 from λq=>F ⟨z,by lia⟩,SH]
  rw[bf (show ¬ (w:Int)=2 by lia),Bool.false_and])) rfl
 by_cases K:w=3
 .obtain⟨xs,E,A,p⟩:=yG (f:=aA 3) (st:=jh v S rk w none none none none) (n:=S.length) rfl (by lia)
  obtain⟨R,e1,s,W⟩:=LL (E:=rG) (j:=7) (c:=c) (n:=S.length) E (by lia) λd b=>by
   obtain⟨k,Z,rfl⟩:=p d b;obtain⟨d,b,B⟩:=W3 (xs:=cc S) (i:=(k:Int)-1) (by rw[iR];lia) (by rw[iR];lia)
   obtain⟨q,f,rfl⟩:=xE b;obtain⟨r,e,Q,T⟩:=uD (E:=zB) (j:=10) (Q:=λx=>x<S.length) (it:=Cd<|e2 jb (aA 1)<|e2 Wt (aA 7)<|eI 1) (st:=((jh v S rk w none none none none).set 7 none).set 7 k) (pC<|aJ rfl (aJ rfl rfl rfl)<|gU B) (by rw[bG,(M.row q f).1];have:=M.c3;lia) λd b=>by
    obtain⟨g,hg,rfl⟩:=lE b;refine⟨(g+1)%S.length,?_,mod_lt _<|by lia⟩
    rw[Int.natCast_emod,Int.natCast_add];exact aJ (aJ rfl rfl rfl) rfl<|kJ<|by lia
   exact⟨r,e,by rw[Q,bG,(M.row q f).1],T⟩
  have i:R.length=S.length:=by rw[s,A]
  obtain⟨ys,C,u,o⟩:=yG (f:=aA 3) (st:=jh v S rk w none none none<|D.lst<|cc R) rfl (by lia)
  obtain⟨r,e,l,_⟩:=uD (E:=rH) (j:=7) C (by lia) λd b=>by
   obtain⟨k,Z,rfl⟩:=o d b;obtain⟨d,b,B⟩:=W3 (xs:=ja rk) (i:=(k:Int)-1) (by rw[bG];lia) (by rw[bG];lia)
   obtain⟨y,hy,rfl⟩:=lE b;exact⟨y,aJ rfl (aJ rfl rfl rfl)<|gU B,True.intro⟩
  exact⟨R,r,j<|bA m<|bA f1<|bA H<|nC<|pZ (gF (t 3)<|by rw[K];rfl)<|aN (bH e1)<|cJ<|gY<|aO rfl<|aO e rfl,⟨by lia,by lia,M.c1,M.c3,λq f=>by rw[i];exact W q f,by rw[l,u,i]⟩⟩
 obtain⟨r,e,l⟩:=OM 1 (λst y h=>YO 1 h) (by lia) (st:=jh v S rk w none none none none) (by simp[jh]) rfl
 exact⟨S,r,j<|bA m<|bA f1<|bA H<|bA (gO (gF (t 3)<|bf<|by lia) rfl)<|cJ<|gY<|aO rfl<|aO e rfl,M.with l⟩
theorem bK7(a:li):∃S rk T b c l r,xY [.lst<|a.map D.int]=.ok (.lst [zk S rk,zk T b,.int (l:Nat),.int (r:Nat)])/\Rc S rk c/\Rc T b c/\S.length<=7/\l<S.length/\r<T.length:=by
 obtain⟨v,p⟩:=Lv a 0 (by lia)
 obtain⟨x,P,C⟩:=mH v 1 (m:=3) (by lia)
 obtain⟨y,O,B⟩:=mH v 2 (m:=16) (by lia)
 obtain⟨z,N,A⟩:=mH v 3 (m:=4) (by lia)
 obtain⟨u,q⟩:=Lv a 10 (by lia)
 have g:∃e:Nat,1<=e/\e<=7/\Pd (e2 Me (aV bI<|aC (aA 1)<|aC (eI 2)<|aC (eI 16) aK)<|eI 0) (cV 3<|eI 5) cX [D.lst<|a.map D.int,v,((1+x:Nat):Int),some<|.v<|.int 4,none,none]=.ok (.nx [D.lst<|a.map D.int,v,((1+x:Nat):Int),e,none,none]):=by
  have t:=aJ (f:=aV bI<|aC (aA 1)<|aC (eI 2)<|aC (eI 16) aK) (g:=eC<|.int 0) (st:=[D.lst<|a.map D.int,v,((1+x:Nat):Int),some<|.v<|.int 4,none,none]) (aQ rfl B) rfl<|oH _ _
  by_cases h:(y:Int)=0
  .exact⟨5,by lia,by lia,pZ (gF t<|fh h) rfl⟩
  exact⟨4,by lia,by lia,gO (gF t<|bf h) rfl⟩
 obtain⟨e,m,o,i⟩:=g;obtain⟨S,rk,J,M,sm⟩:=A6 a (c:=1+x) m (by lia) (by lia) (by lia)
 obtain⟨k,j,I,L,_⟩:=A6 a (c:=1+x) m (by lia) (by lia) (by lia)
 obtain⟨K,f,H,M1⟩:=Ş M u
 let st (d:D):za:=[D.lst<|a.map D.int,v,((1+x:Nat):Int),e,zk S rk,d]
 have w:∃T b,Pd (e2 qx (aV bI<|aC (aA 1)<|aC (eI 3)<|aC (eI 4) aK)<|eI 0) (cV 5<|aV jX<|aC (aV dX<|aC (aA 0)<|aC (eI 10) aK)<|aC (e2 jb (aA 4)<|eI 0)<|aC (e2 jb (aA 4)<|eI 1) aK) cX (st<|zk k j)=.ok (.nx<|st<|zk T b)/\Rc T b (1+x):=by
  have t:=aJ (op:=qx) (f:=aV bI<|aC (aA 1)<|aC (eI 3)<|aC (eI 4) aK) (g:=eC<|.int 0) (st:=st<|zk k j) (aQ rfl A) rfl rfl
  by_cases h:(0:Int)<z
  .exact⟨K,f,pZ (gF t<|fh h)<|bH<|aQ (aO (aQ rfl q) rfl) H,M1⟩
  exact⟨k,j,gO (gF t<|bf h) rfl,L⟩
 obtain⟨T,b,G,n⟩:=w;obtain⟨l,hl,F⟩:=mH v 4 (m:=S.length) (by have:=M.one;lia)
 obtain⟨r,s,E⟩:=mH v 5 (m:=T.length) (by have:=n.one;lia)
 refine⟨S,rk,T,b,1+x,l,r,bT rfl ?_,M,n,by lia,hl,s⟩
 unfold SW;refine aN (bH<|aQ rfl p)<|aN (bH<|aJ rfl (aQ rfl C)<|by rw[Gw];congr 2)<|aN (bH rfl)<|aN i<|aN (bH<|aQ rfl J)<|aN (bH<|aQ rfl I)<|aN G<|cJ<|gY<|aO rfl<|aO rfl<|aO ?_<|aO ?_ rfl
 .refine aQ (aO rfl<|aO rfl<|aO ?_ rfl) F;show R.ok (D.int ((cc S).length:Nat))=_;rw[iR]
 refine aQ (aO rfl<|aO rfl<|aO ?_ rfl) E;show R.ok (D.int ((cc T).length:Nat))=_;rw[iR]
end
theorem ML{k:Nat}{tg:Tg}{C f:Ex}{st:za}:∀a:db,(∀d∈a,∃s1 c,tg d st=.ok s1/\C s1=.ok (.bl true)/\f s1=.ok (.str [c])/\97<=c/\c<97+k)->∃l:ac,mK tg C f st a=.ok (l.map λc=>D.str [c])/\l.length=a.length/\Ke (k:Int) l
 |[],_=>⟨[],rfl,rfl,λ_ h=>nomatch h⟩
 |d::a,h=>by
  obtain⟨s1,c,b,n,m,j,o⟩:=h d Zb;obtain⟨l,e,hl,g⟩:=ML a λd i=>h d<|Lc _ i
  refine⟨c::l,?_,by simp[hl],λz hz=>?_⟩
  .rw[nA,b,bN,n,m,e];rfl
  rcases qc.mp hz with rfl|hz
  .exact⟨j,by lia⟩
  exact g z hz
def z0{st:za}{l:ac}(h:f st=.ok (.lst<|l.map λc=>D.str [c]))(a:l.length<=1000000):ik mw (eC<|.str []) (aC f aK) st=.ok (.str l):=by
 show ((aC f aK) st).bind _=_;rw[aO h rfl];exact bEt l a
theorem X3{l:Nat}(h:l<3):jb (.str [97,98,99]) (.int l)=.ok (.str [97+l]):=by
 show aP _ _=_;rw[aD<|fK<|by show 3<=_;lia]
 have:l=0\/l=1\/l=2:=by lia
 rcases this with rfl|rfl|rfl<;>rfl
theorem A0(v:Int){c:Nat}(o:n<=1000)(z:1<=c)(y:c<=3):∃w:ac,rB [.int v,.int n,.int c]=.ok (.str w)/\w.length=n/\Ke (c:Int) w:=by
 let st:za:=[v,n,c,none,none]
 have a:e2 Me (e2 tE (aA 0)<|eI 2) (eI 1) st=.ok (.bl<|decide (v%2=1)):=aJ (aJ rfl rfl<|kJ<|by decide) rfl<|oH _ _
 by_cases h:v%2=1
 .rw[fh h]at a;obtain⟨r,q,k,m⟩:=JY (v/2) (m:=c) (by lia) (by lia) o
  obtain⟨l,e,hl,b⟩:=ML (k:=c) (tg:=Pb 4) (C:=cA) (f:=QV) (st:=st) (ja r) λd f=>by
   obtain⟨x,g,rfl⟩:=lE f;have:=m x g;exact⟨_,97+x,rfl,rfl,aJ rfl rfl<|X3<|by lia,by lia,by lia⟩
  rw[bG,k]at hl;exact⟨l,bT rfl<|nC<|pZ a<|cJ<|z0 (lU (pC<|aQ (aO (aJ rfl rfl<|X2<|by decide) rfl) q) (by rw[bG];lia) e)<|by lia,hl,b⟩
 rw[bf h]at a;obtain⟨xs,s,t,j⟩:=yG (f:=aA 1) (st:=st) rfl (by lia)
 obtain⟨l,e,hl,b⟩:=ML (k:=c) (tg:=Pb 3) (C:=cA) (f:=RV) (st:=st) xs λd f=>by
  obtain⟨i,u,rfl⟩:=j d f;obtain⟨x,g,p⟩:=mH v (20+(i:Int)) (m:=c) (by lia)
  exact⟨_,97+x,rfl,rfl,aJ rfl (aQ (aO rfl<|aO (aJ rfl rfl rfl) rfl) p)<|X3<|by lia,by lia,by lia⟩
 exact⟨l,bT rfl<|bA (gO a rfl)<|cJ<|z0 (lU s (by lia) e)<|by lia,by lia,b⟩
theorem NL{tg:Tg}{L:Bd}{Sh:za->Prop}:∀(xs:db),(∀x∈xs,∀st,Sh st->∃s1 s2,tg x st=.ok s1/\L s1=.ok (.nx s2)/\Sh s2)->∀st,Sh st->∃s2,Uc tg L xs st=.ok (.nx s2)/\Sh s2
 |[],_,st,h=>⟨st,rfl,h⟩
 |x::xs,h,st,hs=>by
  obtain⟨s1,s2,e1,e2,d⟩:=h x Zb st hs;obtain⟨a,e,c⟩:=NL xs (λx b=>h x<|Lc _ b) s2 d
  exact⟨a,nD e1 e2 e,c⟩
section
variable{S T:am}{rk Ta:ac}{c:Nat}
theorem E7{E:Ex}{st:za}{v:Nat}(M:Rc S rk c)(b:st[v]?=some (some<|.v<|zk S rk))(d:∀a:ac,E ((st.set j none).set j<|D.lst<|ja a)=.ok (.lst<|ja a)):bU [j] (Pb j) (Cd<|e2 jb (aA v)<|eI 0) cA E st=.ok (.lst<|cc S):=by
 have e:=M.most;exact yE _ _ (pC<|aJ (by rw[qK,b]) rfl rfl) (by lia) λa _=>d a
theorem bFm(M:Rc S rk c):dN [.tup [.str [],.str []],.int c]=.ok (.bl false)/\dN [.tup [.str [],.str [100]],.int c]=.ok (.bl false)/\dN [.xc,.int c]=.ok (.bl false):=by
 have d:=M.c1;have b:=M.c3;have w:∀x:ac,x.length<=1->lQ [.str x,.int c]=.ok _:=λx a=>AK x c (by lia) (by lia) (by lia)
 refine⟨(vY _ _ _ _ _ (w []<|by simp) (w []<|by simp) rfl<|rh _).trans ?_,(vY _ _ _ _ _ (w []<|by simp) (w [100]<|by simp) rfl<|rh _).trans ?_,ύ _ _ rfl rfl⟩
 .simp
 have:good c [100]=false:=by
  rw[Bool.eq_false_iff];intro h;have:=(ND.mp h) 100 Zb;lia
 rw[this];simp
def Hw(h:li)(S T:am)(rk a:ac)(c:Nat)(l r u:D)(x5 j i k g f e d b:im):za:=[some<|.v<|.lst<|h.map D.int,some<|.v<|mD S rk c,some<|.v<|mD T a c,some<|.v<|.int c,some<|.v u,x5,some<|.v<|zk S rk,some<|.v<|zk T a,some<|.v l,some<|.v r,j,i,k,g,f,e,d,b,none]
theorem ş(M:Rc S rk c)(q:Rc T Ta c) {l r u:D} {k:Nat} (h:k<5) (n:Nat) (E C A x s:im):∃U L H G F,V2 (Hw ns S T rk Ta c l r u k (jD S T rk Ta c k) (D.tup<|(Li k).map D.bl) n E C A x s)=.ok (.nx<|Hw ns S T rk Ta c l r u k (jD S T rk Ta c k) (D.tup<|(Li k).map D.bl) n U L H G F):=by
 have p:=M.c1;have o:=M.c3;obtain⟨v,K⟩:=Lv ns n (by lia)
 obtain⟨B,e⟩:=Lv ns (n+1) (by lia)
 obtain⟨a,Z,R⟩:=mH v 2 (m:=9) (by lia)
 obtain⟨b,Y,Q⟩:=mH v 1 (m:=10) (by lia)
 obtain⟨t,N,lt',g⟩:=A0 B (n:=1+a) (by lia) p o
 obtain⟨f,P,X,i⟩:=A0 v (n:=b) (by lia) p o
 obtain⟨w,y,J,d,O⟩:=bBu M q h i g (by lia) (by lia) (by lia)
 obtain⟨z,I,m⟩:=vF M i g (by lia) (by lia) (by lia)
 obtain⟨W,V,j⟩:=vF q i g (by lia) (by lia) (by lia)
 rw[I.alone J]at m;rw[V.alone d]at j;exact⟨_,_,_,_,_,aN (bH<|aQ rfl K)<|aN (bH<|aQ (aO (aQ (aO rfl<|aO (aJ rfl rfl rfl) rfl) e)<|aO (aJ rfl (aQ rfl R)<|by congr 2)<|aO rfl rfl) N)<|aN (bH<|jA<|aO (aQ (aO rfl<|aO (aQ rfl Q) rfl) P) rfl)<|aN (bH<|y6 (NI h) rfl (aQ rfl m)<|aQ rfl j)<|aN (bH<|VD rfl rfl (Om (P:=λk=>vE.lookup (gm k)=some (ug bR)) rfl rfl rfl rfl rfl h) (by decide)<|gZ O)<|gO (zK (mG (p:=true)<|aD rfl) λ_=>aJ rfl rfl<|(aD ⟨rh _,rfl,rfl⟩).trans<|by cases Vm (Li k) w y <;> rfl) rfl⟩
theorem Š(M:Rc S rk c)(F:Rc T Ta c)(L:S.length<=7) (hn:ns.length<=63) {l r:D} {C:ac} (MU:Rc U C c') (H:c≠c') {k:Nat} (m:k<5) (ar br u t q p o n:im):∃K J E B A y w v,W2 (Hw ns S T rk Ta c l r (mD U C c') (some<|.v<|.int k) ar br u t q p o n)=.ok (.nx<|Hw ns S T rk Ta c l r (mD U C c') (some<|.v<|.int k) K J E B A y w v):=by
 obtain⟨Q,P,O⟩:=bFm M
 let st (u t q p o n:im):=Hw ns S T rk Ta c l r (mD U C c') (some<|.v<|.int k) (some<|.v<|jD S T rk Ta c k) (some<|.v<|.tup<|(Li k).map D.bl) u t q p o n
 obtain⟨N,hN,Y⟩:∃N:Nat,N<=39/\e2 lq (eC<|.int 21) (e2 Vy (eC<|.int 39)<|e1 kI<|aA 0) (st u t q p o n)=.ok (.int N):=by
  refine⟨max 21<|min 39 ns.length,by lia,aJ rfl (aJ rfl (by
   show R.ok (D.int ((ns.map D.int).length:Nat))=_;rw[Yc]) (z:=.ok<|.int ((min 39 ns.length:Nat):Int)) ?_) ?_⟩
  .show R.ok (D.int<|if ((ns.length:Nat):Int)<39 then ((ns.length:Nat):Int) else 39)=_
   congr 2;split<;>lia
  show R.ok (D.int<|if ((min 39 ns.length:Nat):Int)>21 then ((min 39 ns.length:Nat):Int) else 21)=_
  congr 2;split<;>lia
 have it:EG (eC<|.int 19) (e2 lq (eC<|.int 21)<|e2 Vy (eC<|.int 39)<|e1 kI<|aA 0) (st u t q p o n)=.ok (pO 19 ((N:Int)-19).toNat):=by
  rw[bEf,show eC (.int 19) (st u t q p o n)=.ok (.int 19) from rfl,bN,Y]
  exact aD ⟨CM (by lia),iE (by lia),CM (by omega),iE<|by lia⟩
 obtain⟨s2,X,E,B,A,y,w,v,rfl⟩:=NL (tg:=Pb 12) (Sh:=λs=>∃a b c d e f,s=st a b c d e f) (pO 19 ((N:Int)-19).toNat) (λx V s ⟨a,b,Z,d,e,f,hs⟩=>by
  obtain⟨i,_,rfl⟩:=Ġ V;subst hs;obtain⟨B,A,y,w,v,h⟩:=ş M F m (19+i) b Z d e f;refine⟨_,_,rfl,?_,some<|.v<|.int<|19+(i:Int),B,A,y,w,v,rfl⟩
  rwa [show ((19+i:Nat))=19+i by lia]at h) (st u t q p o n) ⟨_,_,_,_,_,_,rfl⟩
 refine⟨some<|.v<|jD S T rk Ta c k,some<|.v<|.tup<|(Li k).map D.bl,E,B,A,y,w,v,(aN (bH<|aQ rfl<|gZ<|bFi M F m)<|aN (bH<|aQ rfl<|bBt m) ?_)⟩;have G:=Z9 (b0:=true) (b1:=true) (b2:=true) (b3:=true) (b4:=true) (st:=st u t q p o n) (n:=10) m rfl;rw[show [true,true,true,true,true].getD k false=true from Om (P:=λk=>[true,true,true,true,true].getD k false=true) rfl rfl rfl rfl rfl m]at G
 refine bA (gO (zK (mG G) λ_=>aJ (aQ rfl<|Qo m) (by
  unfold OS;rw[Gh];exact yE (λ(j:Nat)=>D.int j) _ (pw rfl<|by lia) (by decide) λj _=>aJ rfl rfl<|oH _ _)<|bFh _) rfl) ?_
 have I:e1 (zZ nW "outer") (aA 10) (st u t q p o n)=.ok (mD T Ta c):=sP m;have f1:∀{op:Ch}{g:Ex}{s:za}{x:D}{z:R D},g s=.ok x->op x=z->e1 op g s=z:=λ{op g s x z} W h2=>by rwa [iw,W]
 exact bA (gO (zK (aJ (f1 (JG m) qC) (aJ rfl rfl rfl) (P5 S).1) λ_=>zK (aJ (f1 I qC) (aJ rfl rfl rfl) (P5 T).1) λ_=>aJ (f1 I yy) (aJ rfl rfl rfl) (bEs Ta).1) rfl)<|bA (gO (zK (mG<|aQ rfl<|ŝ m) λ_=>mG<|aQ rfl<|bFl M F L m) rfl)<|bA (gO (zK (mG<|aQ rfl<|kX H m) λ_=>mG<|aQ rfl<|kX H.symm m) rfl)<|bA (gO (zK (mG<|aQ (aO rfl<|aO (jA rfl) rfl)<|WK M m Q) λ_=>zK (mG<|aQ (aO rfl<|aO (jA rfl) rfl)<|WK M m P) λ_=>mG<|aQ rfl<|WK M m O) rfl)<|lD it X
theorem law_true(o:li)(y:o.length<=63):ow [.lst<|o.map D.int]=.ok (.bl true):=by
 obtain⟨S,rk,T,Ta,c,l,r,C,M,q,w,hl,u⟩:=bK7 o;have P:=M.c1;have O:=M.c3;obtain⟨n,A,E,t⟩:∃n:Nat,(1:Int)+(c:Int)%3=(n:Nat)/\c≠n/\1<=n/\n<=3:=⟨1+c%3,by lia,by lia,by lia,by lia⟩
 let U:=[(List.range n).map λ_=>0]
 have v:Rc U [1] n:=⟨Ec 1,Qr rfl,t.1,t.2,λr u=>by
  rw[Ce.mp u];refine⟨by simp,λx hx=>?_⟩
  obtain⟨_,_,rfl⟩:=gf.mp hx;exact Nat.zero_lt_one,rfl⟩
 let st (x5 i g m f e d b a:im):=Hw o S T rk Ta c (.int l) (.int r) (mD U [1] n) x5 i g m f e d b a
 obtain⟨H,B,_⟩:=NL (tg:=Pb 5) (Sh:=λs=>∃x5 i g m f e d b a,s=st x5 i g m f e d b a) ((List.range 5).map λ(k:Nat)=>D.int (k:Int)) (λx hx s ⟨x5,i,g,m,f,e,d,b,a,hs⟩=>by
  obtain⟨k,z,rfl⟩:=gf.mp hx;subst hs;obtain⟨G,F,Q,N,L,K,J,I,h⟩:=Š M q w y v E (Jj.mp z) i g m f e d b a;exact⟨_,_,rfl,h,_,_,_,_,_,_,_,_,_,rfl⟩) (st none none none none none none none none none) ⟨_,_,_,_,_,_,_,_,_,rfl⟩
 refine bT rfl<|aN (PN (aQ rfl C) rfl)<|aN (bH<|aQ (aO (E7 M rfl λp=>rfl)<|aO (show (jb (zk S rk)<|.int 1).bind Qt=_ from rfl) rfl)<|gZ<|iy M)<|aN (bH<|aQ (aO (E7 q rfl λp=>rfl)<|aO (show (jb (zk T Ta)<|.int 1).bind Qt=_ from rfl) rfl)<|gZ<|iy q)<|aN (bH nQ)<|aN (bH<|aQ (aO (d:=.lst<|cc U) (gY<|aO ?_ rfl)<|aO (d:=.lst<|ja [1]) (gY rfl) rfl)<|gZ<|iy v)<|aN (lD (pw rfl<|by lia) B)<|cJ rfl
 show _=R.ok (D.lst<|((List.range n).map λ_=>0).map λ(x:Nat)=>D.int x)
 rw[Gh];exact yE (λ(j:Nat)=>D.int j) _ (pw (aJ rfl (aJ rfl rfl<|kJ<|by decide)<|by rw[Gw,A])<|by lia) (by rw[fx];lia) λj _=>rfl
end
end Pu
namespace Pu
open PySem PySem.Spec PyProof.Rows L2
abbrev Mi:=L2.St
def rP:Key->D
 |.inl i=>.int i
 |.inr x=>.str x.cps.toList
structure jr(K:Frag)(C:Addr):Prop where
 ga:findIn K (.ref C) "__getattribute__"=some (some<|.builtin "BaseException.__getattribute__")
 gn:findIn K (.ref C) "__getattr__"=some none
 mb:mroIn K C (.type "BaseException")=some true
 cl:(clsIn K C).isSome=true
 fd:findIn K (.ref C) "__class__"=some (some<|.builtin "object.__class__")
 sp:specialIn K (.builtin "object.__class__") "__get__"=some (some<|.builtin "getset_descriptor.__get__")
 tk:takesIn K (.builtin "object.__class__")=some true
 mr:mroIn K C (.type "object")=some true
structure ExcAt(K:Frag)(c:String)(C:Addr)(bm:ca):Prop where
 ns:nsIn K mainGlobals (ofString c)=some (some<|.ref C)
 ob:∃(B newId Kg:String)(An:ca),ExcBaseFacts B newId Kg An/\∀h,K.In h->∃N nm q bs hdct sn sub ab col dd k0 k1 k2 k3 k5 mN,
  h.get? C=some (excClassObj nm q C N bs bm hdct sn sub ab col dd k0 k1 k2 k3 k5 newId)/\h.Ns N mN/\mN "__init__"=none/\OwnTail h An bm
 ic:jr K C
def F7(a C:Addr)(h:Heap):Prop:=∃o,h.get? a=some o/\o.cls=.ref C/\notCls o=true
structure Tn(K:Frag)(c:String)(C:Addr):Prop where
 ns:nsIn K mainGlobals (ofString c)=some (some<|.ref C)
 ic:jr K C
def ExcAt.is{K:Frag} (h:ExcAt K c C bm):Tn K c C:=⟨h.ns,h.ic⟩
def r_(x C:Addr)(d:pc)(h:Heap):Prop:=∃o,h.get? x=some o/\o.cls=.ref C/\notCls o=true/\o.dict=d
def q_(b:Addr)(fs:zn)(h:Heap):Prop:=∃a,h.Ns1 b a/\(∀f,zO (fs.lookup f)<|a f)/\PySem.Within a (fs.map (·.1))
def o_:List D->Bool
 |.str _::_=>true
 |_=>false
mutual
def Ib(K:Frag)(H:Hp):D->V->Prop
 |.xc,v=>v=V.xc
 |.bl b,v=>v=V.bl b
 |.int i,v=>v=V.int i
 |.str s,v=>v=V.str ⟨s.toArray⟩
 |.tup ds,v=>∃a vs,v=V.ref a/\H a=some (.tup vs)/\bC K H ds vs
 |.lst ds,v=>∃a vs,v=V.ref a/\ue K H a vs/\bC K H ds vs/\(o_ ds=true->H a=some (.lst vs))
 |.Ug t ks ds,v=>∃a vs,v=V.ref a/\((t=false/\∃Ca:Fk,H a=some (.dK Ca)/\Ca.map (λp=>rP p.1)=ks/\vs=Ca.map (·.2))\/(t=true/\∃Ca:wS,H a=some (.dT Ca)/\Ca.map (λp=>D.tup<|p.1.map rP)=ks/\vs=Ca.map (·.2)))/\bC K H ds vs
 |.ins c ns ds,v=>∃a C d fs vs,v=V.ref a/\H a=some (.ins C d fs)/\nsIn K mainGlobals (ofString c)=some (some<|.ref C)/\fs.map (·.1)=ns.map ofString/\vs=fs.map (·.2)/\bC K H ds vs
 |.Dg c ns ds,v=>∃a e C,v=V.ref a/\H a=some (.ext e)/\(∀h,e h->F7 a C h)/\Tn K c C/\∃d fs vs,((ns=[]/\vs=[])\/(e=r_ a C (some d)/\d≠a/\H d=some (.ext<|q_ d fs)/\fs.map (·.1)=ns.map ofString/\vs=fs.map (·.2)))/\bC K H ds vs
 |.fn f,v=>∃a,v=V.ref a/\nsIn K mainGlobals (ofString f)=some (some<|.ref a)
def bC(K:Frag)(H:Hp):List D->List V->Prop
 |[],vs=>vs=[]
 |d::ds,vs=>∃v r,vs=v::r/\Ib K H d v/\bC K H ds r
end
def ly{K:Frag} {xs:lw} (e:aR H H') (h:eh K H a xs):eh K H' a xs:=by
 rcases h with (h|⟨o,h⟩)|h
 .exact .inl (.inl<|e _ _ h)
 .exact .inl (.inr ⟨o,e _ _ h⟩)
 exact .inr h
mutual
theorem Ib.mono{K:Frag}{H k:Hp}(s:aR H k):∀{d:D}{v:V},Ib K H d v->Ib K k d v
 |.xc,_,h=>h
 |.bl _,_,h=>h
 |.int _,_,h=>h
 |.str _,_,h=>by unfold Ib at h ⊢; exact h
 |.tup _,_,h=>by
  unfold Ib at h ⊢;obtain⟨a,vs,e,q,r⟩:=h;exact⟨a,vs,e,s _ _ q,bC.mono s r⟩
 |.lst _,_,h=>by
  obtain⟨a,vs,e,q,r,t⟩:=h;exact⟨a,vs,e,s.seq q,bC.mono s r,λz=>s _ _<|t z⟩
 |.Ug _ _ _,_,h=>by
  obtain⟨a,vs,e,q,r⟩:=h;refine⟨a,vs,e,?_,bC.mono s r⟩;rcases q with ⟨g,Ca,c,b⟩|⟨g,Ca,c,b⟩
  .exact .inl ⟨g,Ca,s _ _ c,b⟩
  exact .inr ⟨g,Ca,s _ _ c,b⟩
 |.ins _ _ _,_,h=>by
  unfold Ib at h ⊢;obtain⟨a,C,j,fs,vs,e,c,b,n,m,r⟩:=h;exact⟨a,C,j,fs,vs,e,s _ _ c,b,n,m,bC.mono s r⟩
 |.fn _,_,h=>h
 |.Dg _ _ _,_,h=>by
  obtain⟨a,l,C,e,q,i,o,j,fs,vs,f,r⟩:=h;refine⟨a,l,C,e,s _ _ q,i,o,j,fs,vs,?_,bC.mono s r⟩;rcases f with f|⟨f,w,u,p⟩
  .exact .inl f
  exact .inr ⟨f,w,s _ _ u,p⟩
theorem bC.mono{K:Frag}{H b:Hp}(s:aR H b):∀{a:db}{vs:lw},bC K H a vs->bC K b a vs
 |[],_,h=>by unfold bC at h ⊢; exact h
 |d::a,_,h=>by
  obtain⟨v,r,e,q,t⟩:=h;exact⟨v,r,e,Ib.mono s q,bC.mono s t⟩
end
section
variable{K:Frag}{H:Hp}
def sU:Ib K H .xc v↔v=V.xc:=jx
def dW:Ib K H (.bl b) v↔v=V.bl b:=jx
def bK{i:Int}:Ib K H (.int i) v↔v=V.int i:=jx
def eF{s:ac}:Ib K H (.str s) v↔v=V.str ⟨s.toArray⟩:=jx
def rD:Ib K H (.tup ds) v↔∃a vs,v=V.ref a/\H a=some (.tup vs)/\bC K H ds vs:=by conv=>lhs;unfold Ib
def iK(h:Ib K H (.tup ds) v):∃a vs,v=V.ref a/\eh K H a vs/\bC K H ds vs:=
 let ⟨a,vs,e,q,r⟩:=rD.mp h;⟨a,vs,e,eh.of q,r⟩
def OL:Ib K H (.lst ds) v↔∃a vs,v=V.ref a/\ue K H a vs/\bC K H ds vs/\(o_ ds=true->H a=some (.lst vs)):=by conv=>lhs;unfold Ib
structure JJ(K:Frag)(H:Hp)(ds:db)(v:V):Prop where
 mp:Ib K H (.lst ds) v->∃a vs,v=V.ref a/\ue K H a vs/\bC K H ds vs
 mpr:(∃a vs,v=V.ref a/\H a=some (.lst vs)/\bC K H ds vs)->Ib K H (.lst ds) v
def eO:JJ K H ds v:=⟨λh=>let ⟨a,vs,e,q,r,_⟩:=OL.mp h;⟨a,vs,e,q,r⟩,λ⟨a,vs,e,h,r⟩=>OL.mpr ⟨a,vs,e,ue.of h,r,λ_=>h⟩⟩
def vJ{t:Bool}{c:db}:Ib K H (.Ug t c ds) v↔∃a vs,v=V.ref a/\((t=false/\∃b:Fk,H a=some (.dK b)/\b.map (λp=>rP p.1)=c/\vs=b.map (·.2))\/(t=true/\∃b:wS,H a=some (.dT b)/\b.map (λp=>D.tup<|p.1.map rP)=c/\vs=b.map (·.2)))/\bC K H ds vs:=by conv=>lhs;unfold Ib
def ME{b:re}:Ib K H (.ins c b ds) v↔∃a C d fs vs,v=V.ref a/\H a=some (.ins C d fs)/\nsIn K mainGlobals (ofString c)=some (some<|.ref C)/\fs.map (·.1)=b.map ofString/\vs=fs.map (·.2)/\bC K H ds vs:=by conv=>lhs;unfold Ib
def bFn{e:re}:Ib K H (.Dg c e ds) v↔∃a d C,v=V.ref a/\H a=some (.ext d)/\(∀h,d h->F7 a C h)/\Tn K c C/\∃b fs vs,((e=[]/\vs=[])\/(d=r_ a C (some b)/\b≠a/\H b=some (.ext<|q_ b fs)/\fs.map (·.1)=e.map ofString/\vs=fs.map (·.2)))/\bC K H ds vs:=by conv=>lhs;unfold Ib
def bK8{f:String}:Ib K H (.fn f) v↔∃a,v=V.ref a/\nsIn K mainGlobals (ofString f)=some (some<|.ref a):=by conv=>lhs;unfold Ib
def cZ:bC K H [] vs↔vs=[]:=jx
def bM{d:D}:bC K H (d::ds) vs↔∃v r,vs=v::r/\Ib K H d v/\bC K H ds r:=by conv=>lhs;unfold bC
def bC.nil:bC K H [] []:=cZ.mpr rfl
def bC.cons{d:D}{a:db}{v:V}{vs:lw}(h:Ib K H d v)(t:bC K H a vs):bC K H (d::a) (v::vs):=bM.mpr ⟨v,vs,rfl,h,t⟩
theorem bC.length:∀{a:db}{vs:lw},bC K H a vs->vs.length=a.length
 |[],_,h=>by rw[cZ.mp h];rfl
 |_::a,_,h=>by
  obtain⟨v,r,rfl,_,t⟩:=bM.mp h;rw[fg,fg,bC.length t]
theorem bC.get:∀{a:db}{vs:lw}{i:Nat}{d:D},bC K H a vs->a[i]?=some d->∃v,vs[i]?=some v/\Ib K H d v
 |[],_,_,_,_,e=>by simp at e
 |_::a,_,0,d,h,e=>by
  obtain⟨v,r,rfl,q,t⟩:=bM.mp h;simp at e;subst e;exact⟨v,rfl,q⟩
 |_::a,_,i+1,d,h,e=>by
  obtain⟨v,r,rfl,q,t⟩:=bM.mp h;obtain⟨u,e1,e2⟩:=bC.get t (by simpa using e)
  exact⟨u,by simpa using e1,e2⟩
theorem bC.append:∀{c b:db}{vs a:lw},bC K H c vs->bC K H b a->bC K H (c++b) (vs++a)
 |[],_,_,_,h,t=>by rwa [cZ.mp h]
 |_::_,_,_,_,h,t=>by
  obtain⟨v,r,rfl,q,w⟩:=bM.mp h;exact .cons q<|bC.append w t
theorem bC.take:∀{a:db}{vs:lw}(n:Nat),bC K H a vs->bC K H (a.take n) (vs.take n)
 |_,_,0,_=>.nil
 |[],_,_+1,h=>by rw[cZ.mp h];exact .nil
 |_::_,_,n+1,h=>by
  obtain⟨v,r,rfl,q,w⟩:=bM.mp h;exact .cons q<|bC.take n w
theorem bC.drop:∀{a:db}{vs:lw}(n:Nat),bC K H a vs->bC K H (a.drop n) (vs.drop n)
 |_,_,0,h=>h
 |[],_,_+1,h=>by rw[cZ.mp h];exact .nil
 |_::_,_,n+1,h=>by
  obtain⟨v,r,rfl,q,w⟩:=bM.mp h;exact bC.drop n w
end
def hide(A:bv)(H:Hp):Hp:=λb=>if b∈A then none else H b
def iT{b:Addr}(h:b∈A):hide A H b=none:=Kb h
def bQ{b:Addr}(h:b∉A):hide A H b=H b:=Pa h
def aX(A:bv)(H:Hp):aR (hide A H) H:=λb o h=>by
 unfold hide at h;split at h
 .cases h
 exact h
theorem aR.hide{A:bv}{H a:Hp}(s:aR H a):aR (hide A H) (hide A a):=λb o h=>by
 unfold Pu.hide at h ⊢;split at h
 .cases h
 rename_i q;rw[Pa q];exact s b o h
def jC{d:bv} (h:∀a∈d,a∈A):aR (hide A H) (hide d H):=λb o q=>by
 by_cases c:b∈A
 .rw[iT c]at q;cases q
 rw[bQ c]at q
 rwa [bQ λz=>c<|h b z]
def bC0(H:Hp):hide [] H=H:=by
 funext b;exact bQ (by simp)
def uE{o:HO}(h:a∈A):hide A (Tb H a o)=hide A H:=by
 funext b
 by_cases c:b∈A
 .rw[iT c,iT c]
 rw[bQ c,bQ c];exact aZ λz=>c<|z ▸ h
def cQ{p:Addr}{o:HO}(h:H p=none):aR H (Tb H p o):=λb u q=>by
 rwa [aZ<|aU q h]
def nT:HO->Bool
 |.tup _=>false
 |_=>true
def uw{o:Option HO}(h:o.any nT=true):∃u,o=some u/\nT u=true:=by
 cases o with
 |none=>cases h
 |some u=>exact⟨u,rfl,h⟩
def Own(A:bv)(H:Hp):Prop:=∀a∈A,(H a).any nT=true
def Own.mono(h:Own A H)(s:aR H H'):Own A H':=λa b=>by
 obtain⟨o,e,n⟩:=uw<|h a b
 rwa [s a o e]
theorem Own.tup{A:bv}{H:Hp}(h:Own A H){a:Addr}{xs:lw}(e:H a=some (.tup xs)):a∉A:=λz=>by
 have:=h a z;rw[e]at this;cases this
def Own.free(h:Own A H){p:Addr}(e:H p=none):p∉A:=λz=>by
 have q:=h p z;rw[e]at q;cases q
def iH{K:Frag} {p:Addr} (w:Own A H) (e:H p=none) (h:bC K (hide A H) ds vs):Ib K (hide A<|Tb H p<|.lst vs) (.lst ds) (.ref p):=
 eO.mpr ⟨p,vs,rfl,(by rw[bQ<|w.free e];exact bO),h.mono<|aR.hide<|cQ e⟩
def vK{K:Frag} {p:Addr} (w:Own A H) (e:H p=none) (h:bC K (hide A H) ds vs):Ib K (hide A<|Tb H p<|.tup vs) (.tup ds) (.ref p):=
 rD.mpr ⟨p,vs,rfl,(by rw[bQ<|w.free e];exact bO),h.mono<|aR.hide<|cQ e⟩
def qr(K:Frag):OK->Addr->HO->List V->Prop
 |.l,_,o,vs=>o=.lst vs
 |.d t ks,_,o,vs=>(t=false/\∃Ca:Fk,o=.dK Ca/\Ca.map (λp=>rP p.1)=ks/\vs=Ca.map (·.2))\/(t=true/\∃Ca:wS,o=.dT Ca/\Ca.map (λp=>D.tup<|p.1.map rP)=ks/\vs=Ca.map (·.2))
 |.i n c ns,a,o,vs=>a=n/\∃C b fs,o=.ins C b fs/\nsIn K mainGlobals (ofString c)=some (some<|.ref C)/\fs.map (·.1)=ns.map ofString/\vs=fs.map (·.2)
def qr.rep{K:Frag} {k:OK} {o:HO} (e:qr K k a o vs) (h:H a=some o) (r:bC K H ds vs):Ib K H (Yp k ds) (.ref a):=by
 cases k with
 |l=>subst e;exact eO.mpr ⟨a,vs,rfl,h,r⟩
 |d t ks=>
  refine vJ.mpr ⟨a,vs,rfl,?_,r⟩;rcases e with ⟨b,Ca,rfl,q⟩|⟨b,Ca,rfl,q⟩
  .exact .inl ⟨b,Ca,h,q⟩
  exact .inr ⟨b,Ca,h,q⟩
 |i n c ns=>
  obtain⟨_,C,m,fs,rfl,j,g,f⟩:=e;exact ME.mpr ⟨a,C,m,fs,vs,rfl,h,j,g,f,r⟩
def qr.nt{K:Frag}{k:OK}{o:HO} (b:qr K k a o vs):nT o=true:=by
 cases k with
 |l=>rw[b];rfl
 |d t ks=>rcases b with ⟨_,_,rfl,_⟩|⟨_,_,rfl,_⟩ <;> rfl
 |i n c ns=>obtain⟨_,_,_,_,rfl,_⟩:=b;rfl
structure RS(K:Frag)(B A:bv)(H:Hp)(st:za)(σ:Mi):Prop where
 len:st.length=σ.length
 own:Own (A++B) H
 Aj:∀a∈A,a∉B
 val:∀(i:Nat) d,st[i]?=some (some<|.v d)->∃v,σ[i]?=some (some v)/\Ib K (hide (A++B) H) d v
 lst:∀(i:Nat) k xs,st[i]?=some (some<|.o k xs)->∃a o vs,σ[i]?=some (some<|.ref a)/\a∈A/\H a=some o/\qr K k a o vs/\bC K (hide (A++B) H) xs vs/\
  ∀(j:Nat) k' ys,st[j]?=some (some<|.o k' ys)->σ[j]?=some (some<|.ref a)->j=i
theorem RS.mono{K:Frag}{B A:bv}{H b:Hp}{st:za}(r:RS K B A H st σ)(s:aR H b):RS K B A b st σ where
 len:=r.len
 own:=r.own.mono s
 Aj:=r.Aj
 val:=λi d e=>let ⟨v,e1,q⟩:=r.val i d e;⟨v,e1,q.mono<|aR.hide s⟩
 lst:=λi k xs e=>let ⟨a,o,vs,e1,m,h,c,q,u⟩:=r.lst i k xs e;⟨a,o,vs,e1,m,s _ _ h,c,q.mono<|aR.hide s,u⟩
def Le(A:bv)(H:Hp)(b:bv)(a:Hp):Prop:=aR (hide A H)<|hide b a
theorem Le.refl{A:bv}{H:Hp}:Le A H A H:=aR.refl _
def Le.of(s:aR H H'):Le A H A H':=aR.hide s
theorem Le.trans{A:bv}{H c:Hp}(a:Le A H A1 c)(b:Le A1 c A2 H2):Le A H A2 H2:=aR.trans a b
def tI(K:Frag)(B:bv)(f:Ex):TE:=λa H Q=>∃A st d,RS K B A H st a/\f st=.ok d/\∀v H',aR H H'->Ib K (hide (A++B) H') d v->Q v H'
def kY(K:Frag)(A:bv)(H:Hp)(d:D)(v:V):Prop:=
 Ib K (hide A H) d v\/∃a k o ds vs,d=Yp k ds/\v=V.ref a/\H a=some o/\qr K k a o vs/\bC K (hide A H) ds vs
theorem kY.mono{K:Frag}{A:bv}{H b:Hp}{d:D}{v:V}(s:aR H b)(h:kY K A H d v):kY K A b d v:=by
 rcases h with h|⟨a,k,o,ds,vs,e1,e2,e,c,q⟩
 .exact .inl (h.mono<|aR.hide s)
 exact .inr ⟨a,k,o,ds,vs,e1,e2,s _ _ e,c,q.mono<|aR.hide s⟩
def tP(K:Frag)(B:bv)(f:Ex):TE:=λa H Q=>∃A st d,RS K B A H st a/\f st=.ok d/\∀v H',aR H H'->kY K (A++B) H' d v->Q v H'
def tA(K:Frag)(B:bv)(f:mh):TA:=λa H Q=>∃A st ds,RS K B A H st a/\f st=.ok ds/\∀vs H',aR H H'->bC K (hide (A++B) H') ds vs->Q vs H'
def tT(K:Frag)(B:bv)(f:Ex):TT:=λa H Q=>∃A st b,RS K B A H st a/\f st=.ok (.bl b)/\∀H',aR H H'->Q b H'
def tO(K:Frag)(B:bv)(f:xt):TO:=λa H Q=>∃A st o,RS K B A H st a/\f st=.ok o/\∀H',aR H H'->Q o H'
def au(K:Frag)(B A:bv)(H:Hp)(r:Fl)(c:Ends):Prop:=match r with
 |.nx st'=>∀a b H',Le A H a H'->RS K B a H' st' b->c.nx b H'
 |.bk st'=>∀a b H',Le A H a H'->RS K B a H' st' b->c.bk b H'
 |.ct st'=>∀a b H',Le A H a H'->RS K B a H' st' b->c.ct b H'
 |.rt d=>∀a v H',Le A H a H'->Ib K (hide (a++B) H') d v->c.rt v H'
def au.mono{K:Frag} {r:Fl} (l:Le A H A1 H1) (p:au K B A H r Dn):au K B A1 H1 r Dn:=by
 cases r with
 |nx st=>exact λb c H' a=>p b c H'<|l.trans a
 |bk st=>exact λb c H' a=>p b c H'<|l.trans a
 |ct st=>exact λb c H' a=>p b c H'<|l.trans a
 |rt d=>exact λb v H' a=>p b v H'<|l.trans a
def tS(K:Frag)(B:bv)(b:Bd):TS:=λDn a H=>∃A st r,RS K B A H st a/\b st=.ok r/\au K B A H r Dn
def bu(K:Frag)(B A:bv)(H:Hp)(J:It)(c:db):Prop:=∀b H',Le A H b H'->Own (b++B) H'->∀(i:Nat),
 (∀d,c[i]?=some d->J.go i H'/\∀x a,J.ay i H' x a->aR H' a/\Ib K (hide (b++B) a) d x)/\(c.length<=i->J.stop i H')
def Um(K:Frag)(B:bv)(f:Wn):TI:=λa H R=>∃A st ds,RS K B A H st a/\f st=.ok ds/\∀J H',aR H H'->bu K B A H' J ds->R J H'
def tG(K:Frag)(B:bv)(g:Tg):TG:=λv b H Q=>∃A st d s1,RS K B A H st b/\Ib K (hide (A++B) H) d v/\g d st=.ok s1/\∀a,RS K B A H s1 a->Q a H
section
def cC{t t':TE}(h:PE X e t)(m:∀a H Q,t' a H Q->t a H Q):PE X e t':=λaa s a H Q I q=>h aa s a H Q I<|m a H Q q
def XN{t t':TT}(h:PT X e t)(m:∀a H Q,t' a H Q->t a H Q):PT X e t':=λaa s a H Q I q=>h aa s a H Q I<|m a H Q q
def B6{t t':TT}(h:PW X e t)(m:∀a H Q,t' a H Q->t a H Q):PW X e t':=λw aa s a H Q I q=>h w aa s a H Q I<|m a H Q q
def AF{t t':TA}(h:PA X es t)(m:∀a H Q,t' a H Q->t a H Q):PA X es t':=λpos aa s a H Q I q=>h pos aa s a H Q I<|m a H Q q
def C6{e:Option Expr}{t t':TO}(h:PO X e t)(m:∀a H Q,t' a H Q->t a H Q):PO X e t':=λaa s a H Q I q=>h aa s a H Q I<|m a H Q q
def fC{st:Stmt}{t t':TS}(h:PS X st t)(m:∀D a H,t' D a H->t D a H):PS X st t':=λaa s a H D I q=>h aa s a H D I<|m D a H q
def vL{st:List Stmt}{t t':TS}(h:Ae X st t)(m:∀D a H,t' D a H->t D a H):Ae X st t':=λaa s a H D I q=>h aa s a H D I<|m D a H q
def E6{t t':TG}(h:PG X e t)(m:∀v a H Q,t' v a H Q->t v a H Q):PG X e t':=λaa s a H v u Q I r q=>h aa s a H v u Q I r<|m v a H Q q
def YN{t t':TI}(h:L2.PI X tg e t)(m:∀a H R,t' a H R->t a H R):L2.PI X tg e t':=λaa s a H R I q=>h aa s a H R I<|m a H R q
end
section
variable {a b:Expr} {h:Ex}
def aF(f:X.N[i]?=some x:=by rfl)(c:Ik X.env.scope x:=by exact Wo rfl)(a:dg x:=by decide)
  (g:Vo x:=by decide):PE X (.Name x pos) (tI X.K B<|aA i):=by
 refine cC (vQ f c a g) ?_
 rintro h H Q ⟨A,st,d,b,a,q⟩;unfold aA at a;split at a
 .rename_i j e;cases a;obtain⟨v,e1,r⟩:=b.val i _ e;exact⟨v,e1,q v H (aR.refl _) r⟩
 cases a
end
end Pu
variable{σ τ:Pu.Mi}
namespace Pu
open PySem PySem.Spec PyProof.Rows L2
section
variable{X:Cx}{B:bv}{a b e:Expr}{f g:Ex}{pos:Pos}
def Nx(h:PE X e (tC v))(r:∀H,Ib X.K H d v):PE X e (tI X.K B<|eC d):=cC h (by
 rintro σ H Q ⟨A,st,c,b,a,q⟩;cases a;exact q v H (aR.refl _)<|r _)
def fB{i:Int}:PE X (.Constant (.int i) j pos) (tI X.K B<|eC<|.int i):=Nx bIh λ_=>bK.mpr rfl
def jT{q:Bool}:PE X (.Constant (.bool q) j pos) (tI X.K B<|eC<|.bl q):=Nx bLr λ_=>dW.mpr rfl
def ZO:PE X (.Constant .none j pos) (tI X.K B<|eC .xc):=Nx o5 λ_=>sU.mpr rfl
def pF(s:ac)(a:x=⟨s.toArray⟩:=by first|rfl|decide|decide+kernel):PE X (.Constant (.str x) j pos) (tI X.K B<|eC<|.str s):=Nx bIi λ_=>eF.mpr (by rw[a])
def BF{y:Str}{t:Tok}(s:ac)(b:X.mg x=some (.str y t))(c:Gl X x:=by rfl)(a:y=⟨s.toArray⟩:=by first|rfl|decide|decide+kernel)(d:dg x:=by decide):PE X (.Name x pos) (tI X.K B<|eC<|.str s):=
 Nx (dE (v:=.str y) c b ⟨t,rfl⟩ d) λ_=>eF.mpr (by rw[a])
def F6{i:Int}{t:Tok}(a:X.mg x=some (.int i t))(b:Gl X x:=by rfl)(c:dg x:=by decide):PE X (.Name x pos) (tI X.K B<|eC<|.int i):=
 Nx (dE (v:=.int i) b a ⟨t,rfl⟩ c) λ_=>bK.mpr rfl
def Ia(h:PE X e (tI X.K B f)):PE X e (tP X.K B f):=cC h (by
 rintro σ H Q ⟨A,st,d,a,b,q⟩;exact⟨A,st,d,a,b,λv H' s r=>q v H' s<|.inl r⟩)
def eE(j:X.N[i]?=some x:=by rfl)(g:Ik X.env.scope x:=by exact Wo rfl)(b:dg x:=by decide)
  (l:Vo x:=by decide):PE X (.Name x pos) (tP X.K B<|dF i):=by
 refine cC (vQ j g b l) ?_
 rintro σ H Q ⟨A,st,d,c,b,q⟩;unfold dF at b;split at b
 .rename_i n e;cases b;obtain⟨v,e1,r⟩:=c.val i _ e;exact⟨v,e1,q v H (aR.refl _)<|.inl r⟩
 .rename_i k xs e;cases b;obtain⟨a,o,vs,e1,m,h,f,r,_⟩:=c.lst i _ _ e;exact⟨_,e1,q _ H (aR.refl _)<|.inr ⟨a,_,o,xs,vs,rfl,rfl,h,f,r⟩⟩
 cases b
section
variable{K:Frag}
theorem kY.xc(h:kY K A H .xc v):v=V.xc:=by
 rcases h with h|⟨_,k,_,_,_,e,_⟩
 .exact sU.mp h
 cases k<;>cases e
theorem kY.bl{q:Bool}(h:kY K A H (.bl q) v):v=V.bl q:=by
 rcases h with h|⟨_,k,_,_,_,e,_⟩
 .exact dW.mp h
 cases k<;>cases e
theorem kY.int{i:Int}(h:kY K A H (.int i) v):v=V.int i:=by
 rcases h with h|⟨_,k,_,_,_,e,_⟩
 .exact bK.mp h
 cases k<;>cases e
theorem kY.str{s:ac}(h:kY K A H (.str s) v):v=V.str ⟨s.toArray⟩:=by
 rcases h with h|⟨_,k,_,_,_,e,_⟩
 .exact eF.mp h
 cases k<;>cases e
theorem kY.tup{b:db}(h:kY K A H (.tup b) v):∃a vs,v=V.ref a/\eh K H a vs/\bC K (hide A H) b vs:=by
 rcases h with h|⟨_,k,_,_,_,e,_⟩
 .obtain⟨a,vs,e,q,r⟩:=iK h;exact⟨a,vs,e,ly (aX _ _) q,r⟩
 cases k<;>cases e
theorem kY.lst{b:db}(h:kY K A H (.lst b) v):∃a vs,v=V.ref a/\ue K H a vs/\bC K (hide A H) b vs:=by
 rcases h with h|⟨a,k,o,d,vs,e,e2,h,c,r⟩
 .obtain⟨a,vs,e,q,r⟩:=eO.mp h;exact⟨a,vs,e,(aX _ _).seq q,r⟩
 cases k<;>cases e;subst c;exact⟨a,vs,e2,ue.of h,r⟩
end
def Zj(K:Frag)(r:R2)(o:Og):Prop:=∀(A:bv)(H:Hp)(x y d:D)(v u:V)(Q:VK),Own A H->kY K A H x v->kY K A H y u->o x y=.ok d->
 (∀w H',aR H H'->Ib K (hide A H') d w->Q w H')->r v u H Q
def CF{r:R2}{o:Og}(p:Zj X.K r o) {Q:VK} (h:tI X.K B (e2 o f g) σ H Q):KC r (tP X.K B f) (tP X.K B g) σ H Q:=by
 obtain⟨A,st,d,b,l,q⟩:=h;obtain⟨x,k,n⟩:=R.ua l;obtain⟨y,j,m⟩:=R.ua n;exact⟨A,st,x,b,k,λv H1 s1 e=>⟨A,st,y,b.mono s1,j,λu s a c=>p _ s x y d v u Q (b.own.mono<|s1.trans a) (e.mono a) c m λw H' s' i=>q w H' (s1.trans<|a.trans s') i⟩⟩
def Fp{op:Operator}{r:R2}{o:Og}(c:Yf X (binaryOp op) r)(i:Zj X.K r o)(e:PE X a (tP X.K B f))(d:PE X b (tP X.K B g)):PE X (.BinOp a op b pos) (tI X.K B<|e2 o f g):=
 cC (bM3 c e d) λ_ _ _ h=>CF i h
def mJ{r:R2}{o:Og}(c:Yf X (compareOp op) r)(j:Zj X.K r o)(i:PE X a (tP X.K B f))(e:PE X b (tP X.K B g))(d:behindInMarks op b=false:=by first|exact u5 _|rfl):PE X (.Compare a [op] [b] pos) (tI X.K B<|e2 o f g):=
 cC (bDw c i e d) λ_ _ _ h=>CF j h
def i8{f:Ex} {Q:On} (h:tT X.K B f σ H Q):tI X.K B f σ H λx a=>∃k,x=.bl k/\Q k a:=by
 obtain⟨A,st,k,b,c,q⟩:=h;exact⟨A,st,.bl k,b,c,λv a s r=>⟨k,dW.mp r,q a s⟩⟩
def dB{r:R2}{o:Og}(c:Yf X (compareOp op) r)(j:Zj X.K r o)(i:PE X a (tP X.K B f))(e:PE X b (tP X.K B g))(d:behindInMarks op b=false:=by first|exact u5 _|rfl):PT X (.Compare a [op] [b] pos) (tT X.K B<|e2 o f g):=
 XN (bDx c i e d) λ_ _ _ h=>CF j<|i8 h
def fZ{f:Ex}(h:PE X e (tI X.K B f))(he:∀whole,isTrue e X.env whole=(do let v <- whole;standAt e.pos;holding [v] (truthy v)):=by intro _;rfl):PT X e (tT X.K B f):=
 XN (bIj h he) λ_ _ _ q=>i8 q
def yH{K:Frag}{g:Int->Int->D} {o:Og} (c:∀H i j,Ib K H (g i j)<|gv i j) (f:∀x y d,o x y=.ok d->∃i j,x=.int i/\y=.int j/\d=g i j):Zj K (kl gv) o:=by
 intro A H x y d v u Q w b a e q;obtain⟨i,j,rfl,rfl,rfl⟩:=f x y d e;exact⟨i,j,b.int,a.int,q _ H (aR.refl _)<|c _ _ _⟩
def Ly{K:Frag}{C:Int->Int->Prop}{g:Int->Int->D} {o:Og} (f:∀H i j,Ib K H (g i j)<|gv i j) (h:∀x y d,o x y=.ok d->∃i j,x=.int i/\y=.int j/\C i j/\d=g i j):Zj K (rI C gv) o:=by
 intro A H x y d v u Q w b a e q;obtain⟨i,j,rfl,rfl,c,rfl⟩:=h x y d e;exact⟨i,j,b.int,a.int,c,q _ H (aR.refl _)<|f _ _ _⟩
def bP(h:PE X a (tP X.K B f))(c:PE X b (tP X.K B g)):PE X (.BinOp a .Sub b pos) (tI X.K B<|e2 Wt f g):=
 Fp bIw (yH (λ_ _ _=>bK.mpr rfl) λx y d e=>by
  unfold Wt at e;split at e
  .cases e;exact⟨_,_,rfl,rfl,rfl⟩
  cases e) h c
def G6(i:PE X a (tP X.K B f))(h:PE X b (tP X.K B g)):PE X (.BinOp a .FloorDiv b pos) (tI X.K B<|e2 Uy f g):=
 Fp bDv (Ly (λ_ _ _=>bK.mpr rfl) λx y d e=>by
  unfold Uy at e;split at e
  .obtain⟨c,e⟩:=aM e;cases e;exact⟨_,_,rfl,rfl,c,rfl⟩
  cases e) i h
def pG(i:PE X a (tP X.K B f))(h:PE X b (tP X.K B g)):PE X (.BinOp a .Mod b pos) (tI X.K B<|e2 tE f g):=
 Fp bIy (Ly (λ_ _ _=>bK.mpr rfl) λx y d e=>by
  unfold tE at e;split at e
  .obtain⟨c,e⟩:=aM e;cases e;exact⟨_,_,rfl,rfl,c,rfl⟩
  cases e) i h
def bNk(i:PE X a (tP X.K B f))(h:PE X b (tP X.K B g)):PE X (.BinOp a .Pow b pos) (tI X.K B<|e2 mP f g):=
 Fp bIz (Ly (λ_ _ _=>bK.mpr rfl) λx y d e=>by
  unfold mP at e;split at e
  .obtain⟨c,e⟩:=aM e;cases e;exact⟨_,_,rfl,rfl,c,rfl⟩
  cases e) i h
def bNl(K:Frag):R2:=λx y H Q=>∃l b xs zs,x=.ref l/\y=.ref b/\ue K H l xs/\ue K H b zs/\xs.length+zs.length<=sizeLine/\∀p,H p=none->Q (.ref p) (Tb H p<|.lst<|xs++zs)
theorem bFo:Yf X (binaryOp .Add) (bNl X.K):=by
 intro aa s σ H x y v u Q I m k h;obtain⟨l,b,xs,zs,rfl,rfl,w,A,M,q⟩:=h;cases m;cases k;obtain⟨a,r,⟨⟨D,C,i,j⟩,n,g,t,_,p⟩,z⟩:=I.list w;obtain⟨c,e,⟨⟨N,G,data2,E⟩,o,f,F,_,d⟩,J⟩:=I.list A;subst t p F d;have L:=r.length;have K:=e.length;refine concat_meets ⟨_,g,rfl⟩ ⟨_,f,rfl⟩ noFill_list_add seq_list_add PySem.F.slot_list_add PySem.F.entry_list_add (PySem.F.args_list_add_2 _ _) (list_addW l b a.toArray c.toArray n o C G j E<|by simp;lia) ⟨g,f,?_⟩
 have B:a.toArray++c.toArray=(a++c).toArray:=by simp
 rw[B];exact⟨.ref _,_,I.uv (r.append e) (by rw[Pg];omega),rfl,q _ I.fresh⟩
def bFp(x y:ac):(⟨x.toArray⟩:Str)++(⟨y.toArray⟩:Str)=⟨(x++y).toArray⟩:=by
 show Str.append _ _=_;unfold Str.append;simp
def str_len(x:ac):(⟨x.toArray⟩:Str).length=x.length:=by simp[Str.length]
def lim(h:n<=big):n<=sizeLine:=Nh (by rwa [rE]at h) (by decide)
def eU(r:PE X a (tP X.K B f))(o:PE X b (tP X.K B g)):PE X (.BinOp a .Add b pos) (tI X.K B<|e2 eQ f g):=by
 refine Fp (bIv.or<|Ę.or bFo) ?_ r o;intro A H x y d v u Q w i h e q;cases x<;>cases y<;>first|(cases e;done)|skip
 .cases e;exact .inl ⟨_,_,i.int,h.int,q _ H (aR.refl _)<|bK.mpr rfl⟩
 .obtain⟨c,e⟩:=aM e;cases e;exact .inr<|.inl ⟨_,_,i.str,h.str,lim c,q _ H (aR.refl _)<|eF.mpr<|by rw[bFp]⟩
 obtain⟨c,e⟩:=aM e;cases e;obtain⟨l,xs,e1,t,k⟩:=i.lst;obtain⟨m,ys,e2,s,j⟩:=h.lst;exact .inr<|.inr ⟨l,m,xs,ys,e1,e2,t,s,by rw[(k.length),(j.length)];exact lim c,λp n=>q _ _ (cQ n)<|iH w n<|k.append j⟩
def ZN{K:Frag}:Zj K (kl λi j=>.bl<|decide (i<=j)) tx:=yH (λ_ _ _=>dW.mpr rfl) λx y d e=>by
 unfold tx at e;split at e
 .cases e;exact⟨_,_,rfl,rfl,rfl⟩
 cases e
def J6{K:Frag}:Zj K (kl λi j=>.bl<|decide (j<i)) qx:=yH (λ_ _ _=>dW.mpr rfl) λx y d e=>by
 unfold qx at e;split at e
 .cases e;exact⟨_,_,rfl,rfl,rfl⟩
 cases e
def iO{K:Frag}:Zj K (kl λi j=>.bl<|decide (j<=i)) ox:=yH (λ_ _ _=>dW.mpr rfl) λx y d e=>by
 unfold ox at e;split at e
 .cases e;exact⟨_,_,rfl,rfl,rfl⟩
 cases e
theorem kY.ref{K:Frag}{A:bv}{H:Hp}{d:D}{v:V}(h:kY K A H d v)(j:d≠.xc)(g:∀b,d≠.bl b)(f:∀i,d≠.int i)(c:∀s,d≠.str s):∃a,v=V.ref a:=by
 rcases h with h|⟨a,_,_,_,_,_,e,_⟩
 .cases d with
  |xc=>exact(j rfl).elim
  |bl b=>exact(g b rfl).elim
  |int i=>exact(f i rfl).elim
  |str s=>exact(c s rfl).elim
  |tup _=>obtain⟨a,_,e,_⟩:=iK h;exact⟨a,e⟩
  |lst _=>obtain⟨a,_,e,_⟩:=eO.mp h;exact⟨a,e⟩
  |Ug _ _ _=>obtain⟨a,_,e,_⟩:=vJ.mp h;exact⟨a,e⟩
  |ins _ _ _=>obtain⟨a,_,_,_,_,e,_⟩:=ME.mp h;exact⟨a,e⟩
  |Dg _ _ _=>obtain⟨a,_,_,e,_⟩:=bFn.mp h;exact⟨a,e⟩
  |fn _=>obtain⟨a,e,_⟩:=bK8.mp h;exact⟨a,e⟩
 exact⟨a,e⟩
def bFq{K:Frag} (h:kY K A H d v):decide (v=V.xc)=Xs d:=by
 cases d with
 |xc=>rw[h.xc];rfl
 |bl _=>rw[h.bl];rfl
 |int _=>rw[h.int];rfl
 |str _=>rw[h.str];rfl
 |tup _=>obtain⟨a,vs,e,_⟩:=h.tup;rw[e];rfl
 |lst _=>obtain⟨a,vs,e,_⟩:=h.lst;rw[e];rfl
 |Ug _ _ _=>obtain⟨a,e⟩:=h.ref (by intro z;cases z) (by intro _ z;cases z) (by intro _ z;cases z) (by intro _ z;cases z);rw[e];rfl
 |ins _ _ _=>obtain⟨a,e⟩:=h.ref (by intro z;cases z) (by intro _ z;cases z) (by intro _ z;cases z) (by intro _ z;cases z);rw[e];rfl
 |Dg _ _ _=>obtain⟨a,e⟩:=h.ref (by intro z;cases z) (by intro _ z;cases z) (by intro _ z;cases z) (by intro _ z;cases z);rw[e];rfl
 |fn _=>obtain⟨a,e⟩:=h.ref (by intro z;cases z) (by intro _ z;cases z) (by intro _ z;cases z) (by intro _ z;cases z);rw[e];rfl
def bC9(n:Nat)(i:Int):L2.wk n i=Pu.wk n i:=rfl
theorem bC.Ye{K:Frag}{H:Hp}{a:db}{vs:lw}{i:Int}{d:D}(r:bC K H a vs)(e:Pu.Ye a i=some d):∃v,L2.Ye vs i=some v/\Ib K H d v:=by
 unfold Pu.Ye at e;unfold L2.Ye;rw[r.length,bC9];cases h:Pu.wk a.length i with
 |none=>rw[h]at e;cases e
 |some j=>
  rw[h]at e;exact r.get e
def Yv{o:Option α}{a:α}(h:Ci o=.ok a):o=some a:=by
 cases o with
 |none=>cases h
 |some b=>cases h;rfl
def bK9{K:Frag}{x:D}(o:Z7 x=false)(A:bv)(H:Hp)(p y d:D)(v u:V)(Q:VK)(w:Own A H)(b:kY K A H x v)(a:kY K A H y u)(e:jb x y=.ok d)(q:∀w m,aR H m->Ib K (hide A m) d w->Q w m):RT K v u H Q:=by
 cases x<;>first|(cases o;done)|skip
 all_goals cases y
 all_goals first|(cases e)|skip
 .rename_i s i;obtain⟨n,e⟩:=aM e;cases h:Pu.Ye s i with
  |none=>rw[h]at e;cases e
  |some c=>
   rw[h]at e;cases e;refine .inr<|.inr ⟨_,i,c,b.str,a.int,lim n,?_,q _ H (aR.refl _)<|eF.mpr rfl⟩
   rwa [List.toList_toArray]
 .rename_i ds i;have h:=Yv<|e;obtain⟨l,xs,e1,k,g⟩:=b.tup;obtain⟨z,j,f⟩:=g.Ye h;exact .inr<|.inl ⟨l,xs,i,z,e1,a.int,k,j,q _ H (aR.refl _) f⟩
 rename_i ds i;have h:=Yv<|e;obtain⟨l,xs,e1,k,g⟩:=b.lst;obtain⟨z,j,f⟩:=g.Ye h;exact .inl ⟨l,xs,i,z,e1,a.int,k,j,q _ H (aR.refl _) f⟩
def uF(h:PE X a (tI X.K B f)):PE X (.BoolOp .And [a] pos) (tI X.K B f):=p5 h
def G7(h:PE X a (tI X.K B f)):PE X (.BoolOp .Or [a] pos) (tI X.K B f):=p5 h
def vM{rest:List Expr}(n:PE X a (tI X.K B f))(m:PE X (.BoolOp .And (b::rest) pos) (tI X.K B g)):PE X (.BoolOp .And (a::b::rest) pos) (tI X.K B<|pN f g):=by
 refine cC (bIn n m) ?_
 rintro σ H Q ⟨A,st,d,c,l,q⟩;obtain⟨x,j,o⟩:=R.ua l;obtain⟨k,rfl,e⟩:=xU o;refine⟨A,st,_,c,j,λv H1 s1 h=>⟨k,dW.mp h,?_⟩⟩
 cases k with
 |true=>exact⟨A,st,d,c.mono s1,e,λw H' s' i=>q w H' (s1.trans s') i⟩
 |false=>cases e;exact q _ H1 s1<|dW.mpr rfl
def j8{rest:List Expr}(n:PE X a (tI X.K B f))(m:PE X (.BoolOp .Or (b::rest) pos) (tI X.K B g)):PE X (.BoolOp .Or (a::b::rest) pos) (tI X.K B<|Bj f g):=by
 refine cC (bLv n m) ?_
 rintro σ H Q ⟨A,st,d,c,l,q⟩;obtain⟨x,j,o⟩:=R.ua l;obtain⟨k,rfl,e⟩:=xU o;refine⟨A,st,_,c,j,λv H1 s1 h=>⟨k,dW.mp h,?_⟩⟩
 cases k with
 |true=>cases e;exact q _ H1 s1<|dW.mpr rfl
 |false=>exact⟨A,st,d,c.mono s1,e,λw H' s' i=>q w H' (s1.trans s') i⟩
def Dr(h:PE X a (tI X.K B f)):PE X (.UnaryOp .Not a pos) (tI X.K B<|mF f):=by
 refine cC (bIo h) ?_
 rintro σ H Q ⟨A,st,d,b,g,q⟩;obtain⟨x,e,j⟩:=R.ua g;obtain⟨k,rfl,i⟩:=xU j;cases i;exact⟨A,st,_,b,e,λv H1 s1 c=>⟨k,dW.mp c,q _ H1 s1<|dW.mpr rfl⟩⟩
def My(h:PT X a (tT X.K B f)):PW X (.BoolOp .And [a] pos) (tT X.K B f):=bDr h
def yp(h:PT X a (tT X.K B f)):PW X (.BoolOp .Or [a] pos) (tT X.K B f):=bIk h
def bz{rest:List Expr}(l:PT X a (tT X.K B f))(j:PW X (.BoolOp .And (b::rest) pos) (tT X.K B g)):PW X (.BoolOp .And (a::b::rest) pos) (tT X.K B<|pN f g):=by
 refine B6 (bIl l j) ?_
 rintro σ H Q ⟨A,st,d,c,i,q⟩;obtain⟨x,h,m⟩:=R.ua i;obtain⟨k,rfl,e⟩:=xU m;refine⟨A,st,k,c,h,λH1 s1=>?_⟩
 cases k with
 |true=>exact⟨A,st,d,c.mono s1,e,λH' s'=>q H'<|s1.trans s'⟩
 |false=>cases e;exact q H1 s1
def dn{rest:List Expr}(l:PT X a (tT X.K B f))(j:PW X (.BoolOp .Or (b::rest) pos) (tT X.K B g)):PW X (.BoolOp .Or (a::b::rest) pos) (tT X.K B<|Bj f g):=by
 refine B6 (bLs l j) ?_
 rintro σ H Q ⟨A,st,d,c,i,q⟩;obtain⟨x,h,m⟩:=R.ua i;obtain⟨k,rfl,e⟩:=xU m;refine⟨A,st,k,c,h,λH1 s1=>?_⟩
 cases k with
 |true=>cases e;exact q H1 s1
 |false=>exact⟨A,st,d,c.mono s1,e,λH' s'=>q H'<|s1.trans s'⟩
def pH(g:PT X a (tT X.K B f)):PT X (.UnaryOp .Not a pos) (tT X.K B<|mF f):=by
 refine XN (bIm g) ?_
 rintro σ H Q ⟨A,st,d,b,e,q⟩;obtain⟨x,c,i⟩:=R.ua e;obtain⟨k,rfl,h⟩:=xU i;cases h;exact⟨A,st,k,b,c,λH1 s1=>q H1 s1⟩
def aG:PA X [] (tA X.K B aK):=AF fJ (by
 rintro σ H Q ⟨A,st,d,b,a,q⟩;cases a;exact q [] H (aR.refl _) .nil)
def aB(k:PE X e (tI X.K B f))(i:PA X es (tA X.K B r))(h:Oe e es X.env:=by rfl):PA X (e::es) (tA X.K B<|aC f r):=by
 refine AF (cM k i h) ?_
 rintro σ H Q ⟨A,st,ds,b,j,q⟩;obtain⟨x,g,m⟩:=R.ua j;obtain⟨xs,n,l⟩:=R.ua m;cases l;exact⟨A,st,x,b,g,λv H1 s1 d=>⟨A,st,xs,b.mono s1,n,λvs o a c=>q _ o (s1.trans a)<|.cons (d.mono<|aR.hide a) c⟩⟩
def pI(h:PA X es (tA X.K B r)):PE X (.Tuple es x1 pos) (tI X.K B<|oZ r):=by
 refine cC (bJ6 h) ?_
 rintro σ H Q ⟨A,st,d,a,g,q⟩;obtain⟨xs,f,j⟩:=R.ua g;obtain⟨c,i⟩:=aM j;cases i;exact⟨A,st,xs,a,f,λvs H1 s1 b=>⟨by rw[b.length];exact lim c,λp e=>q _ _ (s1.trans<|cQ e)<|vK (a.own.mono s1) e b⟩⟩
def uG(h:PA X es (tA X.K B r)):PE X (.List es pos) (tI X.K B<|iQ r):=by
 refine cC (A5 h) ?_
 rintro σ H Q ⟨A,st,d,a,g,q⟩;obtain⟨xs,f,j⟩:=R.ua g;obtain⟨c,i⟩:=aM j;cases i;exact⟨A,st,xs,a,f,λvs H1 s1 b=>⟨by rw[b.length];exact lim c,λp e=>q _ _ (s1.trans<|cQ e)<|iH (a.own.mono s1) e b⟩⟩
def Xc(K:Frag)(a:Nat)(p:cr):Sp:=λvs H Q _=>∃A ds d,Own A H/\bC K (hide A H) ds vs/\ds.length=a/\p ds=.ok d/\∀v H',aR H H'->Ib K (hide A H') d v->Q v H'
def bKa{k:Nat} (F:Ha X.prog X.w X.K X.mg X.base wc k fa fd ps (Xc X.K np p)) (i:Cb k X.A) (j:X.mg x=some (.ref fa))
  (m:keepIn X.K (.ref fa)=true) (s:Binds X.K fd ps []) (l:∀c d,p c=.ok d->c.length=np) (t:PA X (e::es) (tA X.K B r)) (n:Gl X x:=by rfl) (g:dg x:=by decide)
  (he:Oe e es X.env:=by rfl) (hpl:lh pos es X.env:=by rfl) :
  PE X (.Call (.Name x p0) (e::es) [] pos) (tI X.K B<|aV p r):=by
 refine cC (F2 F i n j m s .nil zr t g he hpl) ?_
 rintro σ H Q ⟨A,st,d,a,o,q⟩;obtain⟨xs,h,b⟩:=R.ua o;refine⟨A,st,xs,a,h,λvs H1 s1 r1=>?_⟩
 show Xc X.K np p _ H1 Q E0;rw[so];exact⟨A++B,xs,d,a.own.mono s1,r1,l _ _ b,b,λw H' s' f=>q w H' (s1.trans s') f⟩
end
def PM(a b:Key):Bg (rP a) (rP b)=decide (a=b):=by
 cases a with
 |inl i=>
  cases b with
  |inl j=>unfold rP Bg;rw[Z4]
  |inr y=>unfold rP Bg;rw[i5]
 |inr x=>
  cases b with
  |inl j=>unfold rP Bg;rw[n5]
  |inr y=>
   unfold rP Bg;rw[d5,su,Fm,Ni];constructor
   .intro h;cases x;congr 1;exact ext' h
   rintro rfl;rfl
theorem B0:∀(a b:Db),Ap (a.map rP) (b.map rP)=decide (a=b)
 |[],[]=>by unfold Ap;simp
 |[],_::_=>by unfold Ap;simp
 |_::_,[]=>by unfold Ap;simp
 |x::a,y::b=>by
  rw[Wf,Wf];unfold Ap;rw[PM,(B0 a b),su,Xr,Ni,Ni,Ni,List.cons.injEq]
def C0(a b:Db):Bg (.tup<|a.map rP) (.tup<|b.map rP)=decide (a=b):=by
 rw[<-B0]
 conv=>lhs;unfold Bg
section
variable{κ:Type}[DecidableEq κ]{E:κ->D}(hE:∀a b,Bg (E a) (E b)=decide (a=b)){K:Frag}{H:Hp}
include hE
theorem QM(k:κ):∀(c:List (κ×V)) (b:db),bC K H b (c.map (·.2))->(∀d,pL (c.map λp=>E p.1) b (E k)=some d->∃v,El c k=some v/\Ib K H d v)/\(El c k).isSome=mC (c.map λp=>E p.1) (E k)
 |[],b,r=>⟨λd h=>by cases b<;>simp[pL]at h,rfl⟩
 |(a,v)::c,b,r=>by
  cases b with
  |nil=>have:=cZ.mp r;simp at this
  |cons d b=>
   obtain⟨v',n,e,m,l⟩:=bM.mp r;injection e with e1 e2
   subst e1 e2;obtain⟨j,i⟩:=QM k c b l
   by_cases g:a=k
   .have f:Bg (E a) (E k)=true:=by rwa [hE,Ni]
    refine⟨λd' h=>?_,?_⟩
    .unfold pL at h;rw[Wf,wu,U8 (by simpa using f)]at h
     cases h;exact⟨v,zU g,m⟩
    rw[zU g];unfold mC;rw[Wf,zu,f];rfl
   have f:Bg (E a) (E k)=false:=by rwa [hE,N8]
   refine⟨λd' h=>?_,?_⟩
   .rw[zV g];refine j d' ?_
    unfold pL at h ⊢
    rwa [Wf,wu,V8 (by simpa using f)]at h
   rw[zV g,i];unfold mC;rw[Wf,zu,f];rfl
def bCa(k:κ)(a:List (κ×V)):(a.any λb=>decide (b.1=k))=mC (a.map λp=>E p.1) (E k):=by
 unfold mC;rw[ax];congr 1;funext p;simp[hE]
def Y3(k:κ)(v:V)(d:D)(j:Ib K H d v)(b:List (κ×V))(f:db)(r:bC K H f (b.map (·.2))) :
  (Mg b k v).map (λp=>E p.1)=qW (b.map λp=>E p.1) (E k)/\bC K H (qX (b.map λp=>E p.1) f (E k) d) ((Mg b k v).map (·.2)):=by
 unfold Mg qW qX;rw[bCa hE]
 by_cases c:mC (b.map λp=>E p.1) (E k)=true
 .rw[Kb c,Kb c,Kb c];constructor
  .rw[Gh];refine Pr λp _=>?_
   simp;split<;>rfl
  clear c
  induction b generalizing f with
  |nil=>have:=r.length;cases f with|nil=>exact .nil|cons _ _=>simp at this
  |cons p b h=>
   obtain⟨a,w⟩:=p;cases f with
   |nil=>have:=cZ.mp r;simp at this
   |cons o f=>
    obtain⟨v',m,e,n,l⟩:=bM.mp r;injection e with e1 e2
    subst e1 e2;rw[Wf,Wf,wu,Wf];refine .cons ?_<|h f l
    by_cases g:a=k
    .rwa [Kb (by rwa [hE,Ni]),Kb g]
    have i:Bg (E a) (E k)=false:=by rwa [hE,N8]
    rwa [Pa (by rw[i];exact jo),Pa g]
 rw[Pa c,Pa c,Pa c];refine⟨by rw[qh];rfl,?_⟩
 rw[qh];exact r.append<|.cons j .nil
end
def CK{K:Frag} (r:Ib K H d v) (h:Nc false d=true):∃k:Key,d=rP k/\v=kV k:=by
 cases d<;>first|(cases h;done)|skip
 .exact⟨.inl _,rfl,bK.mp r⟩
 exact⟨.inr _,rfl,eF.mp r⟩
theorem FW{K:Frag}{H:Hp}:∀{b:db}{vs:lw},bC K H b vs->b.all Y7=true->∃a:Db,b=a.map rP/\vs=a.map kV
 |[],vs,r,_=>⟨[],rfl,cZ.mp r⟩
 |d::b,vs,r,h=>by
  obtain⟨v,i,rfl,e,c⟩:=bM.mp r;rw[all_cons,Xr]at h;obtain⟨a,e1,e2⟩:=FW c h.2;obtain⟨k,g,f⟩:=CK e (by cases d<;>first|(cases h.1;done)|rfl)
  exact⟨k::a,by rw[e1,g];rfl,by rw[e2,f];rfl⟩
def RJ{K:Frag} (r:Ib K H d v) (h:Nc true d=true):∃(a:Db)(b:Addr),d=.tup (a.map rP)/\v=.ref b/\H b=some (.tup<|a.map kV):=by
 cases d<;>first|(cases h)|skip
 obtain⟨b,vs,e,f,c⟩:=rD.mp r;obtain⟨a,e1,e2⟩:=FW c (by
  unfold Nc at h;simpa using h)
 exact⟨a,b,by rw[e1],e,by rwa [<-e2]⟩
def SM{K:Frag} {t:Bool} {i:db} {k:D} {u:V} (C:kY K A H (.Ug t i ds) v) (z:Ib K H k u) (B:Nc t k=true) :
  ∃a o,v=.ref a/\xm H a u o/\o.isSome=mC i k/\∀d,pL i ds k=some d->∃w,o=some w/\Ib K (hide A H) d w:=by
 have j:∃a vs,v=V.ref a/\((t=false/\∃Ca:List _,H a=some (.dK Ca)/\Ca.map (λp=>rP p.1)=i/\vs=Ca.map (·.2))\/(t=true/\∃Ca:List _,H a=some (.dT Ca)/\Ca.map (λp=>D.tup<|p.1.map rP)=i/\vs=Ca.map (·.2)))/\bC K (hide A H) ds vs:=by
  rcases C with h|⟨a,F,o,I,vs,e,e2,h,E,r⟩
  .obtain⟨a,vs,e,q,r⟩:=vJ.mp h;refine⟨a,vs,e,?_,r⟩;rcases q with ⟨g,Ca,c,f⟩|⟨g,Ca,c,f⟩
   .exact .inl ⟨g,Ca,aX _ _ _ _ c,f⟩
   exact .inr ⟨g,Ca,aX _ _ _ _ c,f⟩
  cases F<;>cases e;refine⟨a,vs,e2,?_,r⟩;rcases E with ⟨g,Ca,c,f⟩|⟨g,Ca,c,f⟩
  .subst c;exact .inl ⟨g,Ca,h,f⟩
  subst c;exact .inr ⟨g,Ca,h,f⟩
 obtain⟨a,vs,e,q,r⟩:=j;rcases q with ⟨rfl,Ca,c,rfl,rfl⟩|⟨rfl,Ca,c,rfl,rfl⟩
 .obtain⟨l,e1,e2⟩:=CK z B;subst e1 e2;obtain⟨n,m⟩:=QM PM l Ca ds r;exact⟨a,_,e,xm.k c,m,λd s=>let ⟨w,y,x⟩:=n d s;⟨w,y,x⟩⟩
 obtain⟨l,b,e1,e2,G⟩:=RJ z B;subst e1 e2;obtain⟨n,m⟩:=QM C0 l Ca ds r;exact⟨a,_,e,xm.t c G,m,λd s=>let ⟨w,y,x⟩:=n d s;⟨w,y,x⟩⟩
section
variable{X:Cx}{B:bv}{a b e:Expr}{f g:Ex}{pos:Pos}
def m8:R2:=λx y H Q=>∃p v,x=.ref p/\xm H p y (some v)/\Q v H
theorem Z3(l:X.A.units+64<cLine):qp X m8:=by
 intro value a aa s σ H x y v u Q I e d h hs;obtain⟨p,z,rfl,g,q⟩:=h;cases e;refine xa<|xa<|Kz (õ I g) PySem.F.slot_dict_getitem.lookup ?_;have b:wpAny (model X.prog X.w) X.A (subscripted a false (.ref p) u) (λr c=>wpAny (model X.prog X.w) X.A (letTemporaryGo value (.ref p) r >>= λ_=>pure r) (EP X aa σ Q) X.xe c) X.xe s:=by
  rw[hs];exact wpAny_operating<|dk (ō (by lia) I g d λk c j i=>⟨z,H,j,i,q⟩) (λr c f=>xa<|wpAny_letTemporaryGo<|Ua f) λ_ _ x=>x
 first
  |exact Ua<|xa b
  |exact xa _
  |exact xa b
def d4{K:Frag}:Zj K (λx y H Q=>RT K x y H Q\/m8 x y H Q) jb:=by
 intro A H x y d v u Q w c b e q
 by_cases f:Z7 x=true
 .cases x<;>first|(cases f)|skip
  rename_i t ks vs;have p:aP (Nc t y=true) (Ci<|pL ks vs y)=.ok d:=by cases y<;>exact e
  obtain⟨i,e2⟩:=aM p;obtain⟨a,o,n,g,_,l⟩:=SM c (by
   rcases b with h|⟨a,k,o,ds,r,e1,_⟩
   .exact h.mono (aX _ _)
   subst e1;cases k<;>cases t<;>cases i) i
  obtain⟨z,m,j⟩:=l d<|Yv e2;subst m;exact .inr ⟨a,z,n,g,q _ H (aR.refl _) j⟩
 exact .inl<|bK9 (by simpa using f) A H x y d v u Q w c b e q
def cR(i:PE X a (tP X.K B f))(e:PE X b (tP X.K B g))(d:AM b:=by intro _ _;rfl)(c:X.A.units+64<cLine:=by exact Cb.units<|by assumption):PE X (.Subscript a b pos) (tI X.K B<|e2 jb f g):=
 cC (W6 (B5.or<|Z3 c) i e d) λ_ _ _ h=>CF d4 h
def š:lY X (.builtin "len") (λxs H Q=>∃a b,xs=[V.ref a]/\H a=some (.dK b)/\Q (.int b.length) H):=by
 intro aa s σ H xs us Q I r h;obtain⟨a,b,rfl,d,q⟩:=h;obtain⟨u,rfl,c⟩:=r.one;obtain rfl:u=Value.ref a:=c;exact bMh I (.inl d) λt s' e=>⟨.int b.length,H,e,⟨t,rfl⟩,q⟩
def bFr{K:Frag} {d:db} (f:kY K A H (.Ug false d ds) v):∃a b,v=.ref a/\H a=some (.dK b)/\b.length=d.length:=by
 rcases f with h|⟨a,j,o,k,vs,e,e2,h,i,r⟩
 .obtain⟨a,vs,e,q,r⟩:=vJ.mp h;rcases q with ⟨_,b,g,rfl,_⟩|⟨c,_⟩
  .exact⟨a,b,e,aX _ _ _ _ g,by simp⟩
  cases c
 cases j<;>cases e;rcases i with ⟨_,b,rfl,rfl,_⟩|⟨c,_⟩
 .exact⟨a,b,e2,h,by simp⟩
 cases c
end
section
variable{K:Frag} {st:za}
def FD{k:OK} (h:(st.set i<|some<|.v d)[j]?=some (some<|.o k xs)):j≠i/\st[j]?=some (some<|.o k xs):=by
 rw[Mh]at h
 by_cases e:i=j
 .subst e;rw[Kb rfl]at h;split at h<;>simp at h
 rw[Pa e]at h;exact⟨λz=>e z.symm,h⟩
def Le.app (l:Le A H A' H'):aR (hide (A++B) H) (hide (A'++B) H'):=λb u q=>by
 have d:=aX _ _ _ _ q;have c:b∉A++B:=λz=>by rw[iT z]at q;cases q
 have a:=l b u (by rwa [bQ λz=>c<|Kl _ z])
 rw[bQ λz=>(Wh.mp z).elim (λz=>by rw[iT z]at a;cases a) λz=>c<|oh _ z]
 exact aX _ _ _ _ a
theorem RS.set(r:RS K B A H st σ){d:D}{v:V}(i:Nat)(h:Ib K (hide (A++B) H) d v):RS K B A H (st.set i<|some<|.v d) (σ.set i<|some v) where
 len:=by rw[uo,uo,r.len]
 own:=r.own
 Aj:=r.Aj
 val:=λj t e=>by
  rw[Mh]at e
  by_cases c:i=j
  .subst c;rw[Kb rfl]at e;split at e
   .simp at e;subst e;exact⟨v,by rw[Mh,Kb rfl,Kb (by rwa [<-r.len])],h⟩
   cases e
  rw[Pa c]at e;obtain⟨u,e1,q⟩:=r.val j t e;exact⟨u,by rwa [Mh,Pa c],q⟩
 lst:=λj g xs e=>by
  obtain⟨n,s⟩:=FD e;obtain⟨a,o,vs,e1,m,p,f,q,u⟩:=r.lst j g xs s;refine⟨a,o,vs,by rwa [Mh,Pa λz=>n z.symm],m,p,f,q,λk k' ys ek Ii=>?_⟩
  obtain⟨l,b⟩:=FD ek;rw[Mh,Pa λz=>l z.symm]at Ii
  exact u k k' ys b Ii
def bFs{p:Addr}{o:HO}(n:nT o=true)(w:Own (A++B) H):Own ((p::A)++B) (Tb H p o):=λa b=>by
 by_cases e:a=p
 .subst e;rwa [bO]
 rw[aZ e];exact w a<|(qc.mp b).resolve_left e
def PL{p:Addr}{o:HO}(d:H p=none):aR (hide (A++B) H) (hide ((p::A)++B)<|Tb H p o):=λb u q=>by
 have c:=aX _ _ _ _ q;have e:b∉A++B:=λz=>by rw[iT z]at q;cases q
 have a:=aU c d
 rwa [bQ<|show b∉(p::A)++B from λz=>(qc.mp z).elim a e,aZ a]
def DF{p:Addr}{o:HO}(d:H p=none):Le A H (p::A) (Tb H p o):=λb u q=>by
 have c:=aX _ _ _ _ q;have a:=aU c d
 rwa [bQ λz=>(qc.mp z).elim a (λz=>by rw[iT z]at q;cases q),aZ a]
def RS.Yq(r:RS K B A H st σ){p:Addr}{v:OK}{o:HO} (i:Nat) (c:H p=none) (t:qr K v p o vs) (h:bC K (hide (A++B) H) ds vs) :
  RS K B (p::A) (Tb H p o) (st.set i<|some<|.o v ds) (σ.set i<|some<|.ref p) where
 len:=by rw[uo,uo,r.len]
 own:=bFs t.nt r.own
 Aj:=λa l w=>by
  rcases qc.mp l with rfl|l
  .exact r.own.free c (oh _ w)
  exact r.Aj a l w
 val:=λj C e=>by
  rw[Mh]at e
  by_cases b:i=j
  .subst b;rw[Kb rfl]at e;split at e<;>simp at e
  rw[Pa b]at e;obtain⟨u,e1,q⟩:=r.val j C e;exact⟨u,by rwa [Mh,Pa b],q.mono<|PL c⟩
 lst:=λj y xs e=>by
  rw[Mh]at e
  by_cases b:i=j
  .subst b;rw[Kb rfl]at e;split at e
   .simp at e;obtain⟨z,e⟩:=e;subst z e;refine⟨p,o,vs,by rw[Mh,Kb rfl,Kb (by rwa [<-r.len])],Zb,bO,t,h.mono<|PL c,λk k' ys ek Ii=>?_⟩
    by_cases d:i=k
    .exact d.symm
    rw[Mh,Pa d]at ek Ii;obtain⟨a,n,x,e1,m,f,_⟩:=r.lst k k' ys ek;rw[e1]at Ii;cases Ii;rw[c]at f;cases f
   cases e
  rw[Pa b]at e;obtain⟨a,n,x,e1,m,f,g,q,u⟩:=r.lst j y xs e;have s:=aU f c;refine⟨a,n,x,by rwa [Mh,Pa b],Lc _ m,by rwa [aZ s],g,q.mono<|PL c,λk k' ys ek Ii=>?_⟩
  by_cases d:i=k
  .subst d;rw[Mh,Kb rfl]at Ii;split at Ii
   .simp at Ii;exact absurd Ii.symm s
   cases Ii
  rw[Mh,Pa d]at ek Ii;exact u k k' ys ek Ii
def RS.write(r:RS K B A H st σ) {k0 k1:OK} {o':HO} {t:lw} (C:st[i]?=some (some<|.o k0 xs)) (x:σ[i]?=some (some<|.ref a)) (w:qr K k1 a o' t) (h:bC K (hide (A++B) H) ds t) :
  RS K B A (Tb H a o') (st.set i<|some<|.o k1 ds) σ/\Le A H A (Tb H a o'):=by
 obtain⟨N,o,vs,e1,m,M,_,q,u⟩:=r.lst i k0 xs C;rw[x]at e1;cases e1;have D:hide (A++B) (Tb H a o')=hide _ H:=uE<|Kl _ m;refine⟨⟨by rw[uo,r.len],λb hb=>?_,r.Aj,λj d e=>?_,λj kj ys e=>?_⟩,?_⟩
 .by_cases e:b=a
  .subst e;rw[bO];exact w.nt
  rw[aZ e];exact r.own b hb
 .rw[D];rw[Mh]at e
  by_cases g:i=j
  .subst g;rw[Kb rfl]at e;split at e<;>simp at e
  rw[Pa g]at e;exact r.val j d e
 .rw[D];have v:∀{k:Nat}{n:OK}{zs:db},(st.set i<|some<|.o k1 ds)[k]?=some (some<|.o n zs)->∃l ws,st[k]?=some (some<|.o l ws):=λ{k n zs} f=>by
   rw[Mh]at f
   by_cases y:i=k
   .subst y;exact⟨_,_,C⟩
   rw[Pa y]at f;exact⟨_,_,f⟩
  rw[Mh]at e
  by_cases g:i=j
  .subst g;rw[Kb rfl]at e;split at e
   .simp at e;obtain⟨G,e⟩:=e;subst G e;exact⟨a,o',t,x,m,bO,w,h,λk n zs f s=>let ⟨l,ws,p⟩:=v f;u k l ws p s⟩
   cases e
  rw[Pa g]at e;obtain⟨c,oc,ws,E,L,ch,F,J,I⟩:=r.lst j kj ys e;exact⟨c,oc,ws,E,L,by rwa [aZ (λz=>by subst z;exact g (u j kj ys e E).symm)],F,J,λk n zs f s=>let ⟨l,ws,p⟩:=v f;I k l ws p s⟩
 unfold Le;rw[uE m];exact aR.refl _
theorem RS.As(r:RS K B A H st σ)(i:Nat):∃s,RS K B s H (Pu.As st i) σ/\Le A H s H:=by
 unfold Pu.As;split
 .rename_i C xs e;obtain⟨a,o,vs,e1,m,M,y,q,u⟩:=r.lst i C xs e;have g:∀b∈A.filter (λc=>decide (c≠a)),b∈A:=λb h=>(Nk.mp h).1
  have f:∀b∈A.filter _++B,b∈A++B:=λb h=>(Wh.mp h).elim (λz=>Kl _<|g b z)<|oh _
  have sm:aR (hide _ H) _:=jC f;have w:a∉A.filter (λc=>decide (c≠a))++B:=λz=>(Wh.mp z).elim (λz=>Qr (Nk.mp z).2 rfl)<|r.Aj a m
  refine⟨A.filter λc=>decide _,⟨by rw[uo,r.len],λb h=>r.own b<|f b h,λb h=>r.Aj b<|g b h,λj d ej=>?_,λj kj ys ej=>?_⟩,jC g⟩
  .rw[Mh]at ej
   by_cases p:i=j
   .subst p;rw[Kb rfl]at ej;split at ej
    .simp at ej;subst ej;exact⟨_,e1,y.rep (by rwa [bQ w])<|q.mono sm⟩
    cases ej
   rw[Pa p]at ej;obtain⟨v,e2,t⟩:=r.val j d ej;exact⟨v,e2,t.mono sm⟩
  obtain⟨E,l⟩:=FD ej;obtain⟨c,oc,ws,n,J,ch,D,I,G⟩:=r.lst j kj ys l;exact⟨c,oc,ws,n,Nk.mpr ⟨J,fh<|λz=>by subst z;exact E<|u j kj ys l n⟩,ch,D,I.mono sm,λk x zs F L=>G k x zs (FD F).2 L⟩
 exact⟨A,r,Le.refl⟩
def RS.fz(is:ac):∀{A:bv}{st:za},RS K B A H st σ->∃a,RS K B a H (is.foldl Pu.As st) σ/\Le A H a H:=by
 induction is with
 |nil=>exact λr=>⟨_,r,Le.refl⟩
 |cons i is f=>
  intro A st r;obtain⟨h,c,e⟩:=r.As i;obtain⟨g,b,d⟩:=f c;exact⟨g,b,e.trans d⟩
end
section
variable{X:Cx}{B:bv}{a b e:Expr}{f g:Ex}{pos:Pos}{bd Rk:Bd}{sm:Stmt}{rest:List Stmt}
def gW:Ae X [] (tS X.K B cX):=vL kM (by
 rintro Dn σ H ⟨A,st,r,a,b,p⟩;cases b;exact p A σ H Le.refl a)
def aL(h:PS X sm (tS X.K B bd))(g:Ae X rest (tS X.K B Rk)):Ae X (sm::rest) (tS X.K B<|aW bd Rk):=by
 refine vL (JD h g) ?_
 rintro Dn σ H ⟨A,st,r,c,f,p⟩;obtain⟨x,e,a⟩:=R.ua f;refine⟨A,st,x,c,e,?_⟩;cases x with
 |nx s1=>exact λi j H' l b=>⟨i,s1,r,b,a,p.mono l⟩
 |rt d=>cases a;exact p
 |bk s1=>cases a;exact p
 |ct s1=>cases a;exact p
def bB(a:PS X sm (tS X.K B bd)):Ae X [sm] (tS X.K B bd):=fE a
def Lr(is:ac)(h:PS X sm (tS X.K B bd)):PS X sm (tS X.K B<|Rm is bd):=fC h (by
 rintro Dn σ H ⟨A,st,r,b,c,p⟩;obtain⟨d,a,l⟩:=RS.fz is b;exact⟨d,_,r,a,c,p.mono l⟩)
def bZ(h:PE X e (tI X.K B f)):PS X (.Return (some e) pos) (tS X.K B<|cG f):=fC (nN h) (by
 rintro Dn σ H ⟨A,st,r,a,b,p⟩;obtain⟨d,c,g⟩:=R.ua b;cases g;exact⟨A,st,d,a,c,λv H' s q=>p A v H' (Le.of s) q⟩)
def VF(h:PE X e (tI X.K B f))(b:Bk e none pos.line X.env:=by rfl):PS X (.Expr e pos) (tS X.K B<|rF f):=fC (sy h b) (by
 rintro Dn σ H ⟨A,st,r,a,c,p⟩;obtain⟨d,g,i⟩:=R.ua c;cases i;exact⟨A,st,d,a,g,λv H' s q=>p A σ H' (Le.of s)<|a.mono s⟩)
def cI(he:PE X e (tI X.K B f))(l:X.N.Nodup:=by assumption)(h:X.N[i]?=some x:=by rfl)(b:Loc X.env.scope x:=by exact bq rfl)(c:Bk e (some<|.Name x pos') pos.line X.env:=by rfl)
  (j:Pm X x:=by first|exact .inl rfl|exact .inr rfl|assumption):PS X (.Assign [.Name x pos'] e pos) (tS X.K B<|cV i f):=fC (Nv l h b he c j) (by
 rintro Dn σ H ⟨A,st,r,a,g,p⟩;obtain⟨d,k,m⟩:=R.ua g;cases m;exact⟨A,st,d,a,k,λv H' s q=>p A _ H' (Le.of s)<|(a.mono s).set i q⟩)
def tF(K:Frag)(B:bv)(f:Ex):TE:=λσ H Q=>∃A st ds,RS K B A H st σ/\f st=.ok (.lst ds)/\∀p vs H',aR H H'->H' p=none->bC K (hide (A++B) H') ds vs->Q (.ref p) (Tb H' p<|.lst vs)
def Er(h:PA X es (tA X.K B r)):PE X (.List es pos) (tF X.K B<|iQ r):=by
 refine cC (A5 h) ?_
 rintro σ H Q ⟨A,st,d,b,g,q⟩;obtain⟨xs,e,j⟩:=R.ua g;obtain⟨c,i⟩:=aM j;cases i;exact⟨A,st,_,b,e,λvs H1 s1 a=>⟨by rw[a.length];exact lim c,λp f=>q p vs H1 s1 f a⟩⟩
def wA(he:PE X e (tF X.K B f))(o:X.N.Nodup:=by assumption)(l:X.N[i]?=some x:=by rfl)(h:Loc X.env.scope x:=by exact bq rfl)(j:Bk e (some<|.Name x pos') pos.line X.env:=by rfl)
  (m:Pm X x:=by first|exact .inl rfl|exact .inr rfl|assumption):PS X (.Assign [.Name x pos'] e pos) (tS X.K B<|tH i f):=fC (Nv o l h he j m) (by
 rintro Dn σ H ⟨A,st,r,b,k,p⟩;obtain⟨d,n,g⟩:=R.ua k;cases d<;>first|(cases g;done)|skip
 cases g;exact⟨A,st,_,b,n,λa vs H' s c q=>p _ _ _ ((Le.of s).trans<|DF c)<|(b.mono s).Yq i c rfl q⟩)
def nR{c:Expr}{t:Ex}{x y:List Stmt}(g:PT X c (tT X.K B t))(i:Ae X x (tS X.K B bd))(h:Ae X y (tS X.K B Rk)):PS X (.If c x y pos) (tS X.K B<|Pd t bd Rk):=fC (DO g i h) (by
 rintro Dn σ H ⟨A,st,r,a,e,p⟩;obtain⟨d,f,j⟩:=R.ua e;obtain⟨k,rfl,b⟩:=xU j;refine⟨A,st,k,a,f,λH1 s1=>?_⟩
 cases k with
 |true=>exact⟨A,st,r,a.mono s1,b,p.mono<|Le.of s1⟩
 |false=>exact⟨A,st,r,a.mono s1,b,p.mono<|Le.of s1⟩)
def bY(h:X.N.Nodup:=by assumption)(e:X.N[i]?=some x:=by rfl)(b:Loc X.env.scope x:=by exact bq rfl)
  (g:Pm X x:=by first|exact .inl rfl|exact .inr rfl|assumption):PG X (.Name x pos) (tG X.K B<|Pb i):=E6 (E2 h e b g) (by
 rintro v σ H Q ⟨A,st,d,s1,a,c,f,q⟩;cases f;exact q _<|a.set i c)
def VI(K:Frag)(B:bv)(is:ac):vp:=λvs σ H Q=>∃A st ds s1,RS K B A H st σ/\bC K (hide (A++B) H) ds vs/\Qv is ds st=.ok s1/\∀a,RS K B A H s1 a->Q a H
def i4{t t':vp}(h:Xn X es t)(m:∀v a H Q,t' v a H Q->t v a H Q):Xn X es t':=λaa s a H v u Q I r q=>h aa s a H v u Q I r<|m v a H Q q
def Kt:Xn X [] (VI X.K B []):=i4 bDs (by
 rintro v σ H Q ⟨A,st,ds,s1,b,c,a,q⟩;cases ds with
 |nil=>cases a;exact⟨cZ.mp c,q σ b⟩
 |cons _ _=>exact nomatch a)
def iU{i:Nat}{is:ac} (o:Xn X es (VI X.K B is)) (n:X.N.Nodup:=by assumption) (l:X.N[i]?=some x:=by rfl) (h:Loc X.env.scope x:=by exact bq rfl)
  (m:Pm X x:=by first|exact .inl rfl|exact .inr rfl|assumption)
  (j:(assignEach (.Name x pos::es) X.env).map (·.2)=assign (.Name x pos) X.env::(assignEach es X.env).map (·.2):=by rfl):Xn X (.Name x pos::es) (VI X.K B<|i::is):=i4 (aZ8 (bY n l h m) o j) (by
 rintro v σ H Q ⟨A,st,ds,s1,c,k,b,q⟩;cases ds with
 |nil=>exact nomatch b
 |cons d ds=>
  obtain⟨u,r,e,g,f⟩:=bM.mp k;exact⟨u,r,e,A,st,d,st.set i _,c,g,rfl,λp a=>⟨A,_,ds,s1,a,f,b,q⟩⟩)
def nX{it:Addr} (a:h.IsList l items) (s:Heap.SameBut it h h') (b:l≠it):h'.IsList l items:=by
 obtain⟨o,e,r⟩:=a;exact⟨o,(s.2 l b).trans e,r⟩
theorem KY{M:Program}{w:World}{A:Around}{E:be}{it t:Addr}{a:wE}(g:t≠it):∀(n i:Nat)(s:Shared)(Q:GT),s.heap.IsListIter it t i->s.heap.IsList t a->i+n<=a.size->
  (∀e,e.IsListIter it t (i+n)->Heap.SameBut it s.heap e->Q ((a.toList.drop i).take n) {s with heap:=e})->wpAny (model M w) A (draw (.ref it) n) Q E s
 |0,i,s,Q,hit,_,_,d=>by
  exact Ua (by simpa using d s.heap hit (Heap.SameBut.refl ..))
 |n+1,i,s,Q,hit,f,j,d=>by
  have c:i<a.size:=by lia
  refine xa<|wpAny_pyNext_list_item hit f (x:=a[i]) (by simp) λo h b=>xa<|gh<|KY g n (i+1) _ _ h (nX f b g) (by lia) λl p m=>Ua ?_
  have k:a.toList.drop i=a[i] :: a.toList.drop (i+1):=by simp[drop_eq_getElem_cons,c]
  have:=d l (by rwa [show i+(n+1)=i+1+n by lia])<|b.trans m
  rwa [k]at this
theorem Ζ{M:Program}{w:World}{A:Around} {s:Shared} {f:Pos} {t:Addr} {Q:u8} (p:A.handled=none) (d:s.heap.IsList t items)
  (n:(assignEach Kj env).length=items.size) (l:(assignEach Kj env).findIdx? (·.1)=none)
  (h:∀j,Heap.ExtBut s.heap.objs.size s.heap j->wpAny (model M w) A (assignInOrder ((assignEach Kj env).map (·.2)) items.toList) Q E {s with heap:=j}) :
  wpAny (model M w) A (assign (.Tuple Kj x1 f) env<|.ref t) Q E s:=by
 have c:t≠s.heap.objs.size:=by obtain⟨o,g,_⟩:=d;exact ff<|Tc g
 refine xa<|Zw ?_;unfold unpack;rw[n,l];refine xa<|gh<|xa<|xa<|Kz d.typeIs PySem.F.slot_list_iter.lookup<|Ua<|xa<|gh<|Gz d ?_;have k:(s.heap.push {cls:=.type "list_iterator",data:=.fields #[.ref t,rawInt 0]}).IsList t items:=by
  obtain⟨o,g,r⟩:=d;exact⟨o,vc _ g,r⟩
 refine xa<|gh<|KY c items.size 0 _ _ ⟨_,Af _ rfl,rfl,rfl⟩ k (by lia) λx m a=>?_
 have v:List.take items.size (List.drop 0 items.toList)=items.toList:=by
  exact LP (by simp)
 rw[v,Pa (by simp)]
 refine xa<|gh<|wpAny_pyNext_list_end p m (nX k a c) (by simp) λq u=>Ua<|h q λb o i e=>u b o i<|a.extBut b o i<|vc _ e
def bPn(K:Frag)(n:Nat)(t:vp):TG:=λv σ H Q=>∃a xs,v=.ref a/\(eh K H a xs\/ue K H a xs)/\xs.length=n/\t xs σ H Q
def bKb{k:Nat}{t:vp} (i:X.calm=true) (h:Xn X es t)
  (g:(assignEach es X.env).length=n:=by rfl) (j:(assignEach es X.env).findIdx? (·.1)=none:=by rfl):PG X (.Tuple es k pos) (bPn X.K n t):=by
 intro aa s σ H v u Q I r d;obtain⟨a,xs,e1,c,hl,d⟩:=d;rcases c with c|c
 .exact bIq i h g j aa s σ H v u Q I r ⟨a,xs,e1,c,hl,d⟩
 subst e1;cases r;obtain⟨l,f,p,q⟩:=I.list c;exact Ζ (I.ok.hd i) p.isList (by simp[g,<-hl,f.length]) j λh' m=>h aa _ σ H xs _ Q (I.kept λb o e=>m b o (ff<|Tc e) e) (by simpa using f) d
def rX:∀(is:ac)(a:db)(st:za),Qv is a st=.ok s1->a.length=is.length:=by
 intro is
 induction is with
 |nil=>intro a st h;cases a with|nil=>rfl|cons _ _=>exact nomatch h
 |cons i is b=>intro a st h;cases a with|nil=>exact nomatch h|cons _ a=>exact congrArg _<|b a _ h
def Rt{is:ac} {k:Nat} (l:X.calm=true) (h:Xn X es (VI X.K B is)) (j:(assignEach es X.env).length=is.length:=by rfl) (m:(assignEach es X.env).findIdx? (·.1)=none:=by rfl):PG X (.Tuple es k pos) (tG X.K B<|Xj is):=E6 (bKb l h j m) (by
 rintro v σ H Q ⟨A,st,d,s1,g,i,b,q⟩;cases d<;>first|(cases b)|skip
 .rename_i ds;obtain⟨a,vs,e,f,c⟩:=iK i;exact⟨a,vs,e,.inl<|ly (aX _ _) f,by rw[c.length];exact rX is ds st b,A,st,ds,s1,g,c,b,q⟩
 rename_i ds;obtain⟨a,vs,e,f,c⟩:=eO.mp i;exact⟨a,vs,e,.inr<|(aX _ _).seq f,by rw[c.length];exact rX is ds st b,A,st,ds,s1,g,c,b,q⟩)
def dP{t:Tg}(he:PE X e (tI X.K B f))(k:PG X tg (tG X.K B t))(i:swapsWithSole [tg] e pos.line X.env=pure false:=by rfl)(h:swappedStores [tg] e X.env=pure none:=by rfl)
  (o:(assignEach [tg] X.env).map (·.2)=[assign tg X.env]:=by rfl):PS X (.Assign [tg] e pos) (tS X.K B<|Dw t f):=fC (t5 he k i h o) (by
 rintro Dn σ H ⟨A,st,r,c,j,p⟩;obtain⟨d,l,n⟩:=R.ua j;obtain⟨s1,b,m⟩:=R.ua n;cases m;exact⟨A,st,d,c,l,λv H' s q=>⟨A,st,d,s1,c.mono s,q,b,λg a=>p A g H' (Le.of s) a⟩⟩)
theorem pJ {t:Tg} (O:L2.PI X tg iter (Um X.K B it)) (P:PG X tg (tG X.K B t)) (T:Ae X body (tS X.K B bd)) (M:PassesOwn (model X.prog X.w) X.A X.env X.xe:=by exact PassesOwn.never) (S:X.calm=true:=by rfl)
  (K:∀x,foldedSetIterable iter X.env x=pure x:=by intro _;rfl):PS X (.For tg iter body [] pos) (tS X.K B<|tK t it bd):=fC (bIt M S O P T K) (by
 rintro Dn σ H ⟨A,st,r,z,L,p⟩;obtain⟨ds,Q,h3⟩:=R.ua L;refine⟨A,st,ds,z,Q,λJ H1 s1 OB=>⟨λi m q H'=>∃c st',m=ds.length-i/\i<=ds.length/\RS X.K B c H' st' q/\Uc t bd (ds.drop i) st'=.ok r/\Le A H1 c H',⟨ds.length,A,st,rfl,rh _,z.mono s1,by rwa [drop_zero],Le.refl⟩,?_⟩⟩
 rintro i m q H' ⟨c,st',rfl,N,b,j,l⟩;obtain⟨I,G⟩:=OB c H' l b.own i
 by_cases a:i<ds.length
 .obtain⟨V,D⟩:=I _<|Be a;rw[Cz a]at j;obtain⟨w,Mf,U⟩:=R.ua j;obtain⟨fl,Cg,k⟩:=R.ua U;refine .inr ⟨V,λC f=>∃o n,i+1<=ds.length/\RS X.K B o f n C/\Uc t bd (ds.drop<|i+1) n=.ok r/\Le A H1 o f,?_,λx f y=>?_⟩
  .rintro C f ⟨o,n,W,Tx,Y,F⟩;exact⟨ds.length-(i+1),by omega,o,n,rfl,W,Tx,Y,F⟩
  obtain⟨sm,E⟩:=D x f y;have h:=l.trans<|Le.of sm;refine⟨c,st',ds[i],w,b.mono sm,E,Mf,λSn Ux=>⟨c,w,fl,Ux,Cg,?_⟩⟩
  cases fl with
  |nx g=>exact λv Z H4 s u=>⟨v,g,a,u,k,h.trans s⟩
  |ct g=>exact λv Z H4 s u=>⟨v,g,a,u,k,h.trans s⟩
  |bk g=>cases k;exact p.mono<|(Le.of s1).trans h
  |rt d=>cases k;exact p.mono<|(Le.of s1).trans h
 have e:i=ds.length:=by lia
 subst e;rw[List.drop_length]at j;cases j;exact .inl ⟨G<|Ec _,p c q H' ((Le.of s1).trans l) b⟩)
def NE{c:Expr}{t:Ex} (E:PT X c (tT X.K B t)) (F:Ae X body (tS X.K B bd)) (C:PassesOwn (model X.prog X.w) X.A X.env X.xe:=by exact PassesOwn.never):PS X (.While c body [] pos) (tS X.K B<|Rv n t bd):=fC (aZa C E F) (by
 rintro Dn σ H ⟨A,st,r,x,z,p⟩;refine⟨λm i H'=>∃b st',RS X.K B b H' st' i/\jL t bd m st'=.ok r/\Le A H b H',⟨n,A,st,x,z,Le.refl⟩,?_⟩
 rintro m i H' ⟨b,st',a,u,l⟩;cases m with
 |zero=>exact nomatch u
 |succ m=>
  obtain⟨d,D,G⟩:=R.ua u;obtain⟨k,rfl,v⟩:=xU G;refine⟨b,st',k,a,D,λH1 s1=>?_⟩
  cases k with
  |false=>
   cases v;exact p b i H1 (l.trans<|Le.of s1)<|a.mono s1
  |true=>
   obtain⟨fl,M,f⟩:=R.ua v;refine⟨λw o=>∃h g,RS X.K B h o g w/\jL t bd m g=.ok r/\Le A H h o,?_,b,st',fl,a.mono s1,M,?_⟩
   .rintro w o ⟨h,g,K,I,y⟩;exact⟨m,Np m,h,g,K,I,y⟩
   cases fl with
   |nx e=>exact λs J L j q=>⟨s,e,q,f,l.trans<|(Le.of s1).trans j⟩
   |ct e=>exact λs J L j q=>⟨s,e,q,f,l.trans<|(Le.of s1).trans j⟩
   |bk e=>cases f;exact p.mono<|l.trans<|Le.of s1
   |rt d=>cases f;exact p.mono<|l.trans<|Le.of s1)
def bKc{K:Frag} (g:ue K (hide (A++B) H) l vs) (r:bC K (hide (A++B) H) ds vs):bu K B A H (GJ K l) ds:=by
 intro j H' b own i;have a:=(aX _ _).seq<|(Le.app b).seq g;refine⟨λd hd=>?_,λhl=>⟨vs,a,by rwa [r.length]⟩⟩
 obtain⟨v,e,f⟩:=r.get hd;refine⟨⟨vs,v,a,e⟩,λx h y=>⟨by rw[y.1];exact aR.refl _,?_⟩⟩
 have c:=y.2 vs a;rw[y.1];rw[e]at c;cases c;exact f.mono<|Le.app b
def bKd{K:Frag} (g:eh K (hide (A++B) H) l vs) (r:bC K (hide (A++B) H) ds vs):bu K B A H (HJ K l) ds:=by
 intro j H' b own i;have a:=ly (aX _ _)<|ly (Le.app b) g;refine⟨λd hd=>?_,λhl=>⟨vs,a,by rwa [r.length]⟩⟩
 obtain⟨v,e,f⟩:=r.get hd;refine⟨⟨vs,v,a,e⟩,λx h y=>⟨by rw[y.1];exact aR.refl _,?_⟩⟩
 have c:=y.2 vs a;rw[y.1];rw[e]at c;cases c;exact f.mono<|Le.app b
def K6{K:Frag} {lo:Int}:bu K B A H (fy lo n) (pO lo n):=by
 intro f H' b own i;have hl:(pO lo n).length=n:=by simp[pO]
 refine⟨λd hd=>?_,λh=>by rwa [hl]at h⟩
 have a:=by
  have:=(xg.mp hd).1
  rwa [hl]at this
 have e:=by
  unfold pO at hd;rw[Ij,List.getElem?_range a]at hd;exact(qo hd).symm
 subst e;exact⟨a,λx c y=>⟨by rw[y.1];exact aR.refl _,bK.mpr y.2⟩⟩
def AD(z:ac):It:=⟨λi _=>i<z.length,λi H x H'=>H'=H/\∃c,z[i]?=some c/\x=.str ⟨#[c]⟩,λi _=>z.length<=i⟩
def bCd{w:World}{K:Frag} {it:Addr} {n:String} {t:Tok} (p:n="str_ascii_iterator"\/n="str_iterator"):Turn P w K tg (AD z) [it] it (λi h=>h.IsStrIter it n ⟨z.toArray⟩ t i) where
 mem:=by simp
 obj:=λi h st b a=>by
  have e:=by simpa using a
  subst e;obtain⟨o,e,c,d⟩:=st;exact⟨o,e,λv z=>by rw[d]at z;cases z⟩
 keep:=λi h h' st k=>let ⟨o,e,r⟩:=st;⟨o,k it (by simp) o e,r⟩
 item:=by
  intro X M L N l i aa s σ H E I q st D;subst M L N;obtain⟨C,f1,R,B,A,y⟩:=q it (by simp)
  have m:∀v h' f,SignAt ⟨z.toArray⟩ i v->Heap.IsStrIter h' it n ⟨z.toArray⟩ t (i+1)->(∀b o,b∉[it]->s.heap.get? b=some o->h'.get? b=some o)->
    ∃u,some v=some u/\wpAny (model X.prog X.w) X.A (letOwnedTupleGo tg (.ref it) u) (λ_ J=>∃x H',Ea X aa σ H' J/\RelV x u/\(AD z).ay i H x H'/\Heap.IsStrIter J.heap it n ⟨z.toArray⟩ t (i+1)/\∀b∈[it],H' b=none) E {s with heap:=h',toks:=f}:=by
   intro v h' f j st' g;obtain⟨c,u,F,rfl⟩:=j;obtain⟨o,e,c',d⟩:=id st';refine⟨_,rfl,IF e c' d (by rcases p with rfl|rfl<;>decide) ⟨.str _,H,(I.turned (λb o a e=>g b o (by simpa using a) e) C f1 B A y),⟨u,rfl⟩,⟨rfl,c,?_,rfl⟩,st',λb a=>(q b a).1⟩⟩
   simpa using F
  have Q:=by simpa using D
  rcases p with rfl|rfl
  .exact(Walks.strAscii (I.ok.hd l) it ⟨z.toArray⟩ t).item i s _ _ Q st λv h' f j st' g=>m v h' f j st' g
  exact(Walks.strWide (I.ok.hd l) it ⟨z.toArray⟩ t).item i s _ _ Q st λv h' f j st' g=>m v h' f j st' g
 done:=by
  intro X M L N l i aa s σ H E I q st D;obtain⟨C,f1,R,B,A,y⟩:=q it (by simp)
  have O:z.length<=i:=D;rcases p with rfl|rfl
  .exact wpAny_pyNext_ascii_end (I.ok.hd l) st (by simpa using O) λh' G=>⟨rfl,I.turned (λb o a e=>G b o a e) C f1 B A y⟩
  exact wpAny_pyNext_wide_end (I.ok.hd l) st (by simpa using O) λh' G=>⟨rfl,I.turned (λb o a e=>G b o a e) C f1 B A y⟩
 self:=λ_ _ _ _ _ st h=>by
  rcases p with rfl|rfl
  .exact wpAny_pyIter_striter_ascii st h
  exact wpAny_pyIter_striter_wide st h
def bKe{K:Frag}:bu K B A H (AD z) (z.map λc=>.str [c]):=by
 intro g H' e own i;refine⟨λd hd=>?_,λh=>(by simpa using h:z.length<=i)⟩
 rw[Ij]at hd;cases a:z[i]? with
 |none=>rw[a]at hd;cases hd
 |some c=>
  rw[a]at hd;cases hd;refine⟨(xg.mp a).1,λx f y=>⟨by rw[y.1];exact aR.refl _,?_⟩⟩
  obtain⟨c',b,rfl⟩:=y.2;rw[a]at b;cases b;exact eF.mpr rfl
def bPo(K:Frag)(b:TE):TI:=λσ H R=>b σ H λx H1=>(∃a,x=.ref a/\(((∃xs,ue K H1 a xs)/\R (GJ K a) H1)\/((∃xs,eh K H1 a xs)/\R (HJ K a) H1)))\/∃z:ac,x=.str ⟨z.toArray⟩/\R (AD z) H1
def bKf{l:Expr}{g:TE}(n:PE X l g):L2.PI X tg l (bPo X.K g):=by
 intro aa s σ H R I h;refine Cc (n aa s σ H _ I h) λv s1 ⟨x,H1,c,i,k⟩=>?_
 rcases k with ⟨a,e,q⟩|⟨z,rfl,q⟩
 rotate_left
 .obtain⟨t,rfl⟩:=i;refine wpAny_pyIter_strU (⟨s1.heap.objs.size,[s1.heap.objs.size],_,_,H1,rfl,c.kept λb o e=>vc _ e,bCd (by unfold strIterType;split<;>simp),⟨_,Af _ rfl,rfl,rfl⟩,λb hb=>?_,q⟩)
  have e:=by simpa using hb
  subst e;exact c.Mj (Ec _)<|c.Xa.fresh<|Ec _
 subst e;cases i;rcases q with ⟨⟨xs,f⟩,q⟩|⟨⟨xs,f⟩,q⟩
 .obtain⟨d,j,p,m⟩:=c.list f;refine Gz p.isList (⟨s1.heap.objs.size,[s1.heap.objs.size],_,_,H1,rfl,c.kept λb o e=>vc _ e,Ľ a _,⟨_,Af _ rfl,rfl,rfl⟩,λb hb=>?_,q⟩)
  have e:=by simpa using hb
  subst e;exact c.Mj (Ec _)<|c.Xa.fresh<|Ec _
 obtain⟨d,j,p,m⟩:=c.tuple f;refine wpAny_pyIter_tuple (p)<|⟨s1.heap.objs.size,[s1.heap.objs.size],_,_,H1,rfl,c.kept λb o e=>vc _ e,ĕ a _,⟨_,Af _ rfl,rfl,rfl⟩,λb hb=>?_,q⟩
 have e:=by simpa using hb
 subst e;exact c.Mj (Ec _)<|c.Xa.fresh<|Ec _
def jU{l:Expr}(i:PE X l (tI X.K B f)):L2.PI X tg l (Um X.K B<|Cd f):=YN (bKf i) (by
 rintro σ H k ⟨A,st,ds,g,j,q⟩;obtain⟨x,h,b⟩:=R.ua j;refine⟨A,st,x,g,h,λv H1 s1 r1=>?_⟩
 cases x<;>first|(cases b;done)|skip
 .obtain⟨_,b⟩:=aM b;cases b;exact .inr ⟨_,eF.mp r1,q _ H1 s1 bKe⟩
 .cases b;obtain⟨a,vs,e,c,d⟩:=iK r1;exact .inl ⟨a,e,.inr ⟨⟨vs,ly (aX _ _) c⟩,q _ H1 s1<|bKd c d⟩⟩
 cases b;obtain⟨a,vs,e,c,d⟩:=eO.mp r1;exact .inl ⟨a,e,.inl ⟨⟨vs,(aX _ _).seq c⟩,q _ H1 s1<|bKc c d⟩⟩)
theorem uH{p:Pos}(h:X.mg "range"=none)(l:PE X a (tP X.K B f))(i:Gl X "range":=by rfl)(b:starEach [a] X.env=[(false,eval a X.env)]:=by rfl):L2.PI X tg (.Call (.Name "range" p) [a] [] pos) (Um X.K B<|pA f):=YN (ľ i h (cM l fJ b) b) (by
 rintro σ H r ⟨A,st,ds,d,k,q⟩;obtain⟨x,g,o⟩:=R.ua k;obtain⟨j,rfl,n⟩:=XE o;obtain⟨c,m⟩:=aM n;rw[rE]at c;cases m;exact⟨A,st,_,d,g,λv H1 s1 e=>⟨j,by rw[e.int],by lia,by lia,q _ H1 s1 K6⟩⟩)
def bNo{p:Pos}(s:X.mg "range"=none)(C:PE X a (tP X.K B f))(z:PE X b (tP X.K B g))(t:Gl X "range":=by rfl)(r:starEach [a,b] X.env=[(false,eval a X.env),(false,eval b X.env)]:=by rfl)(h:starEach [b] X.env=[(false,eval b X.env)]:=by rfl)
  (d:starEach [a,b] X.env=(false,eval a X.env)::starEach [b] X.env:=by rfl):L2.PI X tg (.Call (.Name "range" p) [a,b] [] pos) (Um X.K B<|EG f g):=YN (Ŀ t s (cM C (cM z fJ h) d) r h) (by
 rintro σ H K ⟨A,st,ds,e,w,q⟩;obtain⟨x,o,I⟩:=R.ua w;obtain⟨y,n,E⟩:=R.ua I;obtain⟨i,rfl,D⟩:=XE E;obtain⟨j,rfl,G⟩:=XE D;obtain⟨c,F⟩:=aM G;rw[rE]at c;cases F;exact⟨A,st,_,e,o,λv H1 s1 m=>⟨A,st,_,e.mono s1,n,λu J k l=>⟨i,j,by rw[m.int,l.int],⟨by omega,by omega,by omega,by omega⟩,q _ J (s1.trans k) K6⟩⟩⟩)
end
def QL{K:Frag} (w:Own B H) (r:bC K (hide B H) ds vs):RS K B [] H (ds.map (λd=>some<|Sl.v d)++List.replicate (N.length-ds.length) none) (L2.start N vs):=by
 have f:∀(i:Nat)(s:Sl),(ds.map (λd=>some _)++List.replicate (N.length-ds.length) none)[i]?=some (some s)->∃d,ds[i]?=some d/\s=.v d:=λi s e=>by
  by_cases b:i<ds.length
  .rw[zq (by simpa using b),List.getElem?_map,List.getElem?_eq_getElem b]at e
   simp at e;exact⟨ds[i],Be b,e.symm⟩
  rw[GP (by simpa using b),List.getElem?_replicate]at e
  split at e<;>simp at e
 refine⟨by unfold L2.start;simp[(r.length)],by rwa [List.nil_append],λa g=>absurd g (by simp),λi d e=>?_,λi k xs e=>?_⟩
 .obtain⟨h,e1,e2⟩:=f i _ e;cases e2;obtain⟨v,c,j⟩:=r.get e1;refine⟨v,?_,by rwa [List.nil_append]⟩
  unfold L2.start;rw[zq (by simpa using ((List.getElem?_eq_some_iff.mp c).1)),List.getElem?_map,c]
  rfl
 obtain⟨h,e1,e2⟩:=f i _ e;cases e2
def my(a:db)(d:D)(h:dD np n bd a=.ok d):a.length=np:=(aM h).1
structure Za(P:Program)(w:World)(K:Frag)(mg:dL)(base:Heap)(x:Str)(k np:Nat)(p:cr):Prop where
 ex:∃(fa:Addr)(fd:FuncData)(ps:ut),Ha P w K mg base wc k fa fd ps (Xc K np p)/\mg x=some (.ref fa)/\keepIn K (.ref fa)=true/\Binds K fd ps []
 len:∀ds d,p ds=.ok d->ds.length=np
def Za.of{w:World}{K:Frag} {k:Nat} (h:Ha P w K mg base wc k fa fd ps (Xc K np p)) (m:mg x=some (.ref fa))
  (c:keepIn K (.ref fa)=true) (b:Binds K fd ps []) (l:∀a d,p a=.ok d->a.length=np):Za P w K mg base x k np p:=⟨⟨fa,fd,ps,h,m,c,b⟩,l⟩
section
variable{X:Cx}{B:bv}{a b e:Expr}{f g:Ex}{pos:Pos}
def bFt{k:Nat} (h:Za X.prog X.w X.K X.mg X.base x k np p) (c:Cb j X.A) (d:k<=j) (g:PA X (e::es) (tA X.K B r)) (f:Gl X x:=by rfl) (a:dg x:=by decide)
  (he:Oe e es X.env:=by rfl) (hpl:lh pos es X.env:=by rfl):PE X (.Call (.Name x p0) (e::es) [] pos) (tI X.K B<|aV p r):=by
 obtain⟨fa,fd,ps,F,m,b,bd⟩:=h.ex;exact bKa F (c.mono d) m b bd h.len g f a he hpl
def Ħ{K:Frag} {a:Addr} (b:ue K H a (ns.map V.int)):bC K H [.lst<|ns.map D.int] [.ref a]:=by
 refine .cons (OL.mpr ⟨a,_,rfl,b,?_,λz=>by cases ns<;>cases z⟩) .nil
 clear b
 induction ns with
 |nil=>exact .nil
 |cons n ns c=>exact .cons (bK.mpr rfl) c
def bKg{K:Frag} {a:Addr} {E:XK} (d:ue K H a (ns.map V.int)) (h:p [.lst<|ns.map D.int]=.ok (.bl true)):Xc K 1 p [.ref a] H (λv _=>v=.bl true) E:=
 ⟨[],[.lst _],.bl true,λb c=>absurd c (by simp),Ħ d,rfl,h,λv H' _ r=>dW.mp r⟩
def jK(m:X.mg "len"=none)(p:PE X a (tP X.K B f))(n:Gl X "len":=by rfl)(i:Oe a [] X.env:=by rfl):PE X (.Call (.Name "len" p0) [a] [] pos) (tI X.K B<|e1 kI f):=by
 refine cC (nU (Ù.or<|Ú.or š) n m PySem.boot_len (cM p fJ i) (he:=i)) ?_
 rintro σ H Q ⟨A,st,d,j,o,q⟩;obtain⟨x,k,g⟩:=R.ua o;refine⟨A,st,x,j,k,λv H1 s1 r1=>?_⟩
 cases x<;>first|(cases g;done)|skip
 .obtain⟨c,b⟩:=aM g;cases b;exact .inr<|.inl ⟨_,by rw[r1.str],by exact lim c,q _ H1 s1<|bK.mpr rfl⟩
 .cases g;obtain⟨l,vs,e,b,h⟩:=r1.tup;exact .inl ⟨l,vs,by rw[e],.inr b,by rw[h.length];exact q _ H1 s1<|bK.mpr rfl⟩
 .cases g;obtain⟨l,vs,e,b,h⟩:=r1.lst;exact .inl ⟨l,vs,by rw[e],.inl b,by rw[h.length];exact q _ H1 s1<|bK.mpr rfl⟩
 rename_i t ks ds;cases t<;>first|(cases g;done)|skip
 cases g;obtain⟨a,Ca,e,b,r⟩:=bFr r1;exact .inr<|.inr ⟨a,Ca,by rw[e],b,by rw[r];exact q _ H1 s1<|bK.mpr rfl⟩
def Zv:PO X none (tO X.K B uY):=C6 bE1 (by
 rintro σ H Q ⟨A,st,o,b,a,q⟩;cases a;exact q H<|aR.refl _)
def xr(h:PE X e (tP X.K B f)):PO X (some e) (tO X.K B<|rR f):=C6 (bE2 h) (by
 rintro σ H Q ⟨A,st,o,a,d,q⟩;obtain⟨x,c,j⟩:=R.ua d;obtain⟨i,rfl,g⟩:=XE j;cases g;exact⟨A,st,_,a,c,λv H1 s1 b=>⟨i,b.int,q H1 s1⟩⟩)
theorem D0{c:Type}(x:List c):∀(k a:Nat),((List.range k).map (a + ·)).filterMap (x[·]?)=(x.drop a).take k
 |0,a=>rfl
 |k+1,a=>by
  rw[W8,Wf,EH,Gh];have e:((λb=>a+b) ∘ Nat.succ)=λb=>(a+1)+b:=by funext b;simp;lia
  rw[e,(D0 x k<|a+1)]
  by_cases h:a<x.length
  .rw[bx,Be h];simp only[drop_eq_getElem_cons h,List.take_succ_cons]
  rw[bx,iu (by lia)]
  simp[List.drop_eq_nil_of_le (by lia:x.length<=a),List.drop_eq_nil_of_le (by lia:x.length<=a+1)]
theorem j4(n d:Nat)(o:At):(match o with|none=>(d:Int)|some i=>if (1:Int)>0 then max 0 (min (if i<0 then i+(n:Int) else i) (n:Int)) else max (-1) (min (if i<0 then i+(n:Int) else i)<|(n:Int)-1))=((Sf n d o:Nat):Int):=by
 cases o with
 |none=>rfl
 |some i=>
  show (if (1)>0 then _ else _)=(((if i<0 then (i+n).toNat else min i.toNat n):Nat):Int)
  rw[Kb (by decide)]
  by_cases h:i<0
  .rw[Kb h,Kb h];lia
  rw[Pa h,Pa h];lia
theorem bCe(lo a:At)(n:Nat):Builtin.Str.strSliceIndices lo a 1 n=(List.range<|Sf n n a-Sf n 0 lo).map (Sf n 0 lo + ·):=by
 refine Eq.trans (congrArg (λz=>sliceRange z _ 1)<|((j4 n 0 lo)))<|Eq.trans (congrArg (λz=>sliceRange _ z 1)<|((j4 n n a))) ?_
 unfold sliceRange;simp only[show (1:Int)>0 by decide,if_true]
 have b:(if ((Sf n 0 lo):Int)<((Sf n n a):Int) then (((Sf n n a):Int)-((Sf n 0 lo):Int)+1-1)/1 else 0).toNat=Sf n n a-Sf n 0 lo:=by
  by_cases h:((Sf n 0 lo):Int)<((Sf n n a):Int)
  .rw[Kb h];lia
  rw[Pa h];lia
 rw[b];refine Pr λk _=>?_
 lia
theorem bFu(n d:Nat)(b:d<=n)(o:At):Sf n d o<=n:=by
 cases o with
 |none=>exact b
 |some v=>
  show (if v<0 then (v+n).toNat else min v.toNat n)<=n
  by_cases a:v<0
  .rw[Kb a];lia
  rw[Pa a];lia
theorem Ţ(x:ac)(lo b:At):Txt.slice ⟨x.toArray⟩ lo b=⟨(cut x lo b).toArray⟩:=by
 unfold Txt.slice cut;rw[str_len,bCe];have c:=bFu x.length x.length (Ec _) b
 by_cases h:Sf x.length x.length b-Sf x.length 0 lo=x.length
 .have a:Sf x.length 0 lo=0\/x.length=0:=by lia
  rw[Kb (by simp[h]),h]
  rcases a with a|a
  .rw[a,drop_zero,LQ]
  rw[Nw.mp a];simp
 rw[Pa (by simp[h])]
 have e:(λ(i:Nat)=>(⟨x.toArray⟩:Str).cps[i]?)=λi=>x[i]?:=by simp
 rw[e,D0]
def bPp:sw:=λx lo a H Q=>∃z:ac,x=.str ⟨z.toArray⟩/\z.length<=sizeLine/\Q (.str ⟨(cut z lo a).toArray⟩) H
def bKh:Dt X bPp:=by
 intro aa s σ H x v m l lo e n Q I f hs pl d h;obtain⟨z,rfl,g,q⟩:=h;obtain⟨t,rfl⟩:=f;refine⟨"str",_,PySem.F.slot_str_getitem.lookup,typeIs_str _ _ _,?_⟩;have hl:(Txt.slice ⟨z.toArray⟩ lo e).length<=sizeLine:=Nh (Txt.slice_le _ _ _) g;have a:∀t' k,EP X aa σ Q (.str (Txt.slice _ lo e) t') {s with toks:=k}:=λt' k=>⟨.str _,H,I.tok k,⟨t',by rw[Ţ]⟩,q⟩
 cases pl with
 |none=>
  cases d with
  |none=>exact XG (l:=none) (u:=none) (st:=none) hs rfl<|RH ⟨hl,a⟩
  |int j b=>exact XG (l:=none) (u:=some (j,b)) (st:=none) hs rfl<|RH ⟨hl,a⟩
 |int i c=>
  cases d with
  |none=>exact XG (l:=some (i,c)) (u:=none) (st:=none) hs rfl<|RH ⟨hl,a⟩
  |int j b=>exact XG (l:=some (i,c)) (u:=some (j,b)) (st:=none) hs rfl<|RH ⟨hl,a⟩
def F0{K:Frag} (lo a:At) (r:bC K H ds vs):bC K H (cut ds lo a) (dz vs lo a):=by
 unfold cut dz;rw[r.length];exact(r.drop _).take _
def Iw{lo:Option Expr}{l u:xt} (w:PE X a (tP X.K B f)) (s:PO X lo (tO X.K B l)) (r:PO X hi (tO X.K B u)):PE X (.Subscript a (.Slice lo hi none p2) pos) (tI X.K B<|jk f l u):=by
 refine cC (AZ (J2.or bKh) w s r) ?_
 rintro σ H Q ⟨A,st,d,b,t,q⟩;obtain⟨x,o,D⟩:=R.ua t;obtain⟨m,F,C⟩:=R.ua D;obtain⟨j,E,g⟩:=R.ua C;refine⟨A,st,x,b,o,λv H1 s1 r1=>⟨A,st,m,b.mono s1,F,λG s2=>⟨A,st,j,b.mono<|s1.trans s2,E,λH3 s3=>?_⟩⟩⟩
 have h:=r1.mono<|s2.trans s3;cases x<;>first|(cases g;done)|skip
 .obtain⟨c,z⟩:=aM g;cases z;exact .inr ⟨_,h.str,lim c,q _ H3 (s1.trans<|s2.trans s3)<|eF.mpr rfl⟩
 cases g;obtain⟨p,vs,e,y,k⟩:=h.lst;exact .inl ⟨p,vs,e,y,λn i=>q _ _ (s1.trans<|s2.trans<|s3.trans<|cQ i)<|iH (b.own.mono<|s1.trans<|s2.trans s3) i<|F0 _ _ k⟩
end
def Ol(cells:xL):List (Str×NameKind)->List (Str×Addr)->List (Str×Addr)
 |[],qa=>qa
 |(n,k)::r,qa=>if k == .free then Ol cells r ((n,(cells.lookup n).getD 0)::qa) else Ol cells r qa
theorem DK{env:Env}:∀(names:List (Str×NameKind)) (a:xL),(∀y∈names,y.2=.free->∃c,env.cells.lookup y.1=some c)->
  (forIn names a λx f=>if x.2 == .free then (do let c <- cellOf env x.1;pure (ForInStep.yield<|(x.1,c)::f)) else pure (ForInStep.yield f):Sem (List<|Str×Addr))=pure (Ol env.cells names a)
 |[],a,_=>rfl
 |(n,k)::r,a,h=>by
  rw[forIn_cons];unfold Ol
  by_cases d:k=.free
  .subst d;obtain⟨c,e⟩:=h (n,.free) Zb rfl;have e2:cellOf env n=pure c:=by unfold cellOf;rw[e]
   simp only[e2,e];exact DK r _ λy b=>h y<|Lc _ b
  have g:(k==NameKind.free)=false:=by simpa using d
  simp only[g];exact DK r _ λy b=>h y<|Lc _ b
def Å{a:Scope} (h:∀y∈a.names,y.2=.free->∃c,env.cells.lookup y.1=some c):closureFor a env=pure (Ol env.cells a.names []):=by
 unfold closureFor;rw[<-(DK a.names [] h)];simp
theorem TM{cells:xL}:∀(names:List (Str×NameKind)) (b:xL) (x:Str) (c:Addr),(∀y∈names,y.2=.free->∃c,cells.lookup y.1=some c)->(x,c)∈Ol cells names b->((x,NameKind.free)∈names/\cells.lookup x=some c)\/(x,c)∈b
 |[],b,x,c,_,h=>.inr h
 |(n,k)::r,b,x,c,g,h=>by
  unfold Ol at h;have f:=λy j=>g y<|Lc _ j
  by_cases i:k=.free
  .subst i;obtain⟨c',e⟩:=g (n,.free) Zb rfl;rcases TM r _ x c f h with ⟨a,d⟩|a
   .exact .inl ⟨Lc _ a,d⟩
   rcases qc.mp a with a|a
   .cases a;refine .inl ⟨Zb,?_⟩;rw[e];rfl
   exact .inr a
  rw[Pa (by simpa using i)]at h
  rcases TM r _ x c f h with ⟨a,d⟩|a
  .exact .inl ⟨Lc _ a,d⟩
  exact .inr a
theorem UM{cells:xL}:∀(names:List (Str×NameKind)) (a:xL) (x:Str),((x,NameKind.free)∈names\/∃c,(x,c)∈a)->∃c,(x,c)∈Ol cells names a
 |[],a,x,h=>by
  rcases h with h|h
  .cases h
  exact h
 |(n,k)::r,a,x,h=>by
  unfold Ol
  by_cases b:k=.free
  .subst b;refine UM r _ x ?_
   rcases h with h|⟨c,h⟩
   .rcases qc.mp h with h|h
    .cases h;exact .inr ⟨_,Zb⟩
    exact .inl h
   exact .inr ⟨c,Lc _ h⟩
  rw[Pa (by simpa using b)]
  refine UM r _ x ?_
  rcases h with h|h
  .rcases qc.mp h with h|h
   .cases h;exact absurd rfl b
   exact .inl h
  exact .inr h
theorem wB{a:Type}:∀{l:List (Str×a)} {x:Str} {c:a},(x,c)∈l->∃d,l.lookup x=some d
 |(n,v)::r,x,c,h=>by
  rw[ck];cases b:x==n with
  |true=>exact⟨v,rfl⟩
  |false=>
   rcases qc.mp h with h|h
   .cases h;simp at b
   exact wB h
theorem oK{env:Env}:∀(names:List (Str×NameKind)) (x:Str),(names.map λ(n,k)=>if (k==NameKind.free&&env.scope.kind == .function&&env.kindOf n==some .cell) then (n,NameKind.cell) else (n,k)).lookup x =
  (names.lookup x).map λk=>if (k==NameKind.free&&env.scope.kind == .function&&env.kindOf x==some .cell) then NameKind.cell else k
 |[],_=>rfl
 |(n,k)::r,x=>by
  have c:=@oK env r x;show List.lookup x ((if (k==NameKind.free&&env.scope.kind == .function&&env.kindOf n==some .cell)=true then (n,NameKind.cell) else (n,k))::_)=_
  cases b:x==n with
  |true=>
   have e:=Fm.mp b;subst e
   by_cases a:(k==NameKind.free&&env.scope.kind == .function&&env.kindOf x==some .cell)=true
   .rw[Kb a,ck,ck,b];simp only[map_some];rw[Kb a]
   rw[Pa a,ck,ck,b];simp only[map_some];rw[Pa a]
  |false=>
   by_cases a:(k==NameKind.free&&env.scope.kind == .function&&env.kindOf n==some .cell)=true
   .rwa [Kb a,ck,ck,b]
   rwa [Pa a,ck,ck,b]
theorem qP:∀(names:List (Str×NameKind)) (n:Nat) (a:xL),cellsFrom n names a=cellsFrom n names []++a
 |[],_,_=>rfl
 |(x,k)::r,n,a=>by
  unfold cellsFrom;split
  .rw[qP r (n+1) _,qP r (n+1) [(x,n)],Rw];rfl
  exact qP r n a
theorem yI:∀(names:List (Str×NameKind)) (n:Nat) (a:xL) (x:Str) (c:Addr),(x,c)∈cellsFrom n names a->(x,c)∈a\/(x,NameKind.cell)∈names
 |[],_,_,_,_,h=>.inl h
 |(y,k)::r,n,a,x,c,h=>by
  unfold cellsFrom at h;split at h
  .rename_i b;rcases yI r _ _ x c h with z|z
   .rcases qc.mp z with z|z
    .cases z;exact .inr (by rw[show k=NameKind.cell from by simpa using b];exact Zb)
    exact .inl z
   exact .inr<|Lc _ z
  rcases yI r _ _ x c h with z|z
  .exact .inl z
  exact .inr<|Lc _ z
theorem qQ:∀(names:List (Str×NameKind)) (n:Nat) (a:xL) (x:Str),((x,NameKind.cell)∈names\/∃c,(x,c)∈a)->∃c,(x,c)∈cellsFrom n names a
 |[],_,_,x,h=>h.elim (λz=>nomatch z) id
 |(y,k)::r,n,a,x,h=>by
  unfold cellsFrom;split
  .refine qQ r _ _ x ?_
   rcases h with h|⟨c,h⟩
   .rcases qc.mp h with h|h
    .cases h;exact .inr ⟨n,Zb⟩
    exact .inl h
   exact .inr ⟨c,Lc _ h⟩
  rename_i b;refine qQ r _ _ x ?_
  rcases h with h|h
  .rcases qc.mp h with h|h
   .cases h;exact absurd rfl b
   exact .inl h
  exact .inr h
theorem AX{a:Type}(x:Str):∀(l r:List (Str×a)),(l++r).lookup x=(l.lookup x).or (r.lookup x)
 |[],r=>rfl
 |(y,v)::l,r=>by
  rw[Qz,ck,ck];cases b:x==y with
  |true=>rfl
  |false=>exact AX x l r
theorem qR{b:Type}:∀{l:List (Str×b)} {x:Str} {v:b},(l.map (·.1)).Nodup->(x,v)∈l->l.lookup x=some v
 |(y,w)::l,x,v,a,h=>by
  rw[Wf,xn]at a;rw[ck];rcases qc.mp h with h|h
  .cases h;simp
  have c:(x==y)=false:=by
   rw[ju];intro z;exact a.1<|gf.mpr ⟨(x,v),h,z⟩
  rw[c];exact qR a.2 h
def ţ{A:Around} {s:Shared} {scope:Scope} {d:Addr} {Q:Env->Shared->Prop}
  (g:∀c,c.Ns s.heap.objs.size (λ_=>none)->(∀b o,s.heap.get? b=some o->c.get? b=some o)->CellsOk c (s.heap.objs.size+1) (cellsFrom (s.heap.objs.size+1) scope.names [])->
   Q {scope:=scope,locals:=s.heap.objs.size,globals:=d,cells:=cellsFrom (s.heap.objs.size+1) scope.names cl,qual:=qual,func:=none,code:=env.code,frame:=env.frame,builtins:=env.builtins} {s with heap:=c}) :
  wpAny M A (newFunctionEnv scope d cl [] qual none .none<|some env) Q E s:=by
 simp only[newFunctionEnv];refine xa<|wpAny_alloc<|xa<|wpAny_layCells _ (λname a cells=>by cases f:a==NameKind.cell<;>simp) _ _ _ _<|xa<|Ua<|Ua ?_
 have ok:=cellsFrom_ok scope.names (s.heap.push {cls:=.type "dict",data:=.dict #[]}) _ [] ⟨λ_ _ e=>(nomatch e),List.Pairwise.nil⟩ (by rw[Xh];exact Ec _)
 rw[Xh]at ok;rw[(Xh ..)];exact g _ ((Heap.Ns.new s.heap _).keeps<|pushCells_keeps _ _) (λb o q=>pushCells_keeps _ _ b o<|vc _ q) ok
structure qd(X:Cx)(scope:Scope)(is:ac):Prop where
 kind:scope.kind=.function
 nd:(scope.names.map (·.1)).Nodup
 free:∀x∈scope.names,x.2=.free->X.env.kindOf x.1=some .cell\/X.env.kindOf x.1=some .free
 own:∀(i:Nat) x,X.N[i]?=some x->(scope.names.lookup x=some .local\/scope.names.lookup x=some .cell)->i∈is
section
variable{X:Cx}{scope:Scope}{is:ac}
theorem qd.names(S:qd X scope is):∀x∈scope.names,x.2=.local->scope.names.lookup x.1=some .local:=λx a e=>qR S.nd (by rwa [<-e])
def fP(X:Cx)(a:Scope)(C:Addr)(La:Shared)(gb:Hp)(b:bv):Cx:=
 {X with La:=La,gb:=gb,env:=compEnvC a (cellsFrom (C+1) a.names<|Ol X.env.cells a.names []) C X.env,outer:=X.stack,stack:=X.stack,ex:=b,fn:=λx=>a.names.lookup x==some .cell,pn:=[],xe:=λ_ _=>False,calm:=true}
theorem qd.cells(S:qd X scope is)(ok:X.Ok):∀y∈scope.names,y.2=.free->∃c,X.env.cells.lookup y.1=some c:=λy a b=>ok.has y.1<|S.free y a b
def qd.lk(S:qd X scope is)(ok:X.Ok){n:Nat}{x:Str}{c:Addr}(h:(cellsFrom n scope.names<|Ol X.env.cells scope.names []).lookup x=some c) :
  ((cellsFrom n scope.names []).lookup x=some c/\scope.names.lookup x=some .cell)\/(scope.names.lookup x=some .free/\X.env.cells.lookup x=some c):=by
 rw[qP,AX]at h;cases e:(cellsFrom n scope.names []).lookup x with
 |some c'=>
  rw[e]at h;cases h;rcases yI _ _ _ _ _ (Cm e) with z|z
  .cases z
  exact .inl ⟨rfl,qR S.nd z⟩
 |none=>
  rw[e]at h;rcases TM scope.names [] x c (S.cells ok) (Cm h) with ⟨b,a⟩|a
  .exact .inr ⟨qR S.nd b,a⟩
  cases a
def Mr(is:ac)(a:Mi):Mi:=is.foldl (λτ i=>τ.set i none) a
def RL(is:ac):∀a:Mi,(Mr is a).length=a.length:=by
 induction is with
 |nil=>exact λ_=>rfl
 |cons i is b=>intro a;show (Mr is _).length=_;rw[b,uo]
def bCf(is:ac):∀(b:Mi)(j:Nat)(v:V),(Mr is b)[j]?=some (some v)->b[j]?=some (some v)/\j∉is:=by
 induction is with
 |nil=>exact λb j v h=>⟨h,by simp⟩
 |cons i is c=>
  intro b j v h;obtain⟨a,d⟩:=c _ j v h;rw[Mh]at a
  by_cases e:i=j
  .subst e;rw[Kb rfl]at a;split at a<;>cases a
  rw[Pa e]at a;exact⟨a,λz=>(qc.mp z).elim (λz=>e z.symm) d⟩
theorem ħ{s:Shared}{E:bv} (S:qd X scope is) (n:X.calm=true) (I:Ea X aa σ H s) (B:∀b∈E,Jk X aa H b) (w:∀b∈E,b<s.heap.objs.size)
  (V:h'.Ns s.heap.objs.size λ_=>none) (t:∀b o,s.heap.get? b=some o->h'.get? b=some o) (G:CellsOk h' (s.heap.objs.size+1) (cellsFrom (s.heap.objs.size+1) scope.names [])) :
  Ea (fP X scope s.heap.objs.size s H E) [] (Mr is σ) H {s with heap:=h',toks:=t'}:=by
 have lk:=@qd.lk X scope is S I.ok<|s.heap.objs.size+1;have Q:=λb j=>ff<|w b j
 have J:∀x c,X.env.cells.lookup x=some c->c<s.heap.objs.size:=λx c e=>by
  obtain⟨v,q⟩:=I.cell x c e;exact q.lt
 have d:=λx c e=>(G.empty x c<|Cm e).2
 have r:∀x k,(k=.cell\/k=.free)->scope.names.lookup x=some k->∃c,(cellsFrom (s.heap.objs.size+1) scope.names<|Ol X.env.cells scope.names []).lookup x=some c:=λx k t e=>by
  have D:=Cm e;rcases t with rfl|rfl
  .obtain⟨c,q⟩:=qQ scope.names (s.heap.objs.size+1) (Ol X.env.cells scope.names []) x<|.inl D;exact wB q
  obtain⟨c,q⟩:=qQ scope.names (s.heap.objs.size+1) (Ol X.env.cells scope.names []) x<|.inr<|UM scope.names [] x<|.inl D;exact wB q
 have C:∀x,(relabel scope X.env).names.lookup x=some .cell\/(relabel scope X.env).names.lookup x=some .free->scope.names.lookup x=some .cell\/scope.names.lookup x=some .free:=λx h=>by
  unfold relabel at h;rw[oK]at h;cases e:scope.names.lookup x with
  |none=>rw[e]at h;rcases h with h|h<;>cases h
  |some k=>
   rw[e]at h;simp only[map_some]at h
   by_cases n:(k==NameKind.free&&X.env.scope.kind == .function&&X.env.kindOf x==some .cell)=true
   .simp only[and_eq_true,beq_iff_eq]at n;exact .inr (by rw[n.1.1])
   rwa [Pa n]at h
 refine⟨⟨I.ok.mod,?_,I.ok.glob,I.ok.blt,Ec _,λx y c h1 h2=>?_,λx h=>?_,λx c F e=>?_,λ_=>I.ok.hd n,I.ok.frames,.inl rfl,λb j=>⟨Q b j,λx c e z=>?_⟩,I.bs,?_,λb o e j=>?_,λb j z=>?_,I.stack,I.ai⟩,
  rfl,I.bare,Un.kept t,⟨_,V,λi x v e1 e2 g=>?_⟩,λx c e=>?_,I.Xa.fresh<|Ec _,λx c e=>?_,(λp U=>absurd (show p∈([]) from U)<|by simp),I.Xa.kept t,by rw[RL];exact I.len⟩
 .exact S.kind
 .rcases lk h1 with ⟨a,_⟩|⟨_,a⟩ <;> rcases lk h2 with ⟨A,_⟩|⟨_,A⟩
  .exact name_of_addr G.apart (Cm a) (Cm A)
  .exact absurd (ph (J y c A)<|GQ<|d x c a) (Oi _)
  .exact absurd (ph (J x c a)<|GQ<|d y c A) (Oi _)
  exact I.ok.inj x y c a A
 .rcases C x h with e|e
  .exact r x _ (.inl rfl) e
  exact r x _ (.inr rfl) e
 .have F:=Fm.mp F;rcases lk e with ⟨a,_⟩|⟨a,_⟩
  .have:=d x c a;show s.heap.objs.size<=c;lia
  rw[F]at a;cases a
 .rcases lk e with ⟨a,_⟩|⟨_,a⟩
  .have h2:=w b j;rw[<-z]at h2;exact absurd (ph h2<|GQ<|d x c a)<|Oi _
  exact(B b j).2.2.2.2.1 x c a z
 .exact Nh I.ok.Cn I.sz
 .rcases (B b j).2.2.2.1 with z|z
  .exact I.ok.jl b o e z
  exact absurd (ph (Tc e)<|Nh I.ok.Cn z)<|Oi _
 .rcases qc.mp (I.Al b z) with z|z
  .exact(B b j).2.1 z
  exact(B b j).2.2.1 z
 .obtain⟨e2,L⟩:=bCf is σ i v e2;have g:(relabel scope X.env).names.lookup x=some .local\/(relabel scope X.env).names.lookup x=some .cell\/(relabel scope X.env).names.lookup x=some .free:=g;have l:scope.names.lookup x=some .free:=by
   have f:=g;unfold relabel at f;rw[oK]at f;cases e:scope.names.lookup x with
   |none=>rw[e]at f;rcases f with f|f|f<;>cases f
   |some k=>
    rw[e]at f;simp only[map_some]at f
    by_cases n:(k==NameKind.free&&X.env.scope.kind == .function&&X.env.kindOf x==some .cell)=true
    .simp only[and_eq_true,beq_iff_eq]at n;rw[n.1.1]
    rw[Pa n]at f;rcases f with f|f|f
    .exact absurd (S.own i x e1<|.inl<|by rw[e,f]) L
    .exact absurd (S.own i x e1<|.inr<|by rw[e,f]) L
    exact f
  have P:(relabel scope X.env).names.lookup x=some .cell\/(relabel scope X.env).names.lookup x=some .free:=by
   rcases g with g|g|g
   .unfold relabel at g;rw[oK,l]at g;simp only[map_some]at g;split at g<;>cases g
   .exact .inl g
   exact .inr g
  have M:=S.free _ (Cm l) rfl;obtain⟨m,D,hl⟩:=I.loc;obtain⟨u,O,R⟩:=hl i x v e1 e2<|.inr M;refine⟨u,O,.inr ⟨P,?_⟩⟩;rcases R with ⟨T,_⟩|⟨_,c,W,N⟩
  .rcases M with q|q<;>rw[T]at q<;>cases q
  obtain⟨Y,K⟩:=r x _ (.inr rfl) l;rcases lk K with ⟨_,a⟩|⟨_,a⟩
  .rw[l]at a;cases a
  rw[W]at a;cases a;exact⟨c,K,N.keeps t⟩
 .rcases lk e with ⟨a,_⟩|⟨_,a⟩
  .exact⟨_,(G.empty x c<|Cm a).1⟩
  obtain⟨v,q⟩:=I.cell x c a;exact⟨v,q.keeps t⟩
 rcases lk e with ⟨a,_⟩|⟨_,a⟩
 .exact I.Xa.fresh (by have:=d x c a;lia)
 exact I.kf x c a
end
def ϡ(e a d c:Expr)(b:Scope)(f:Pos)(it g:Value)(env:Env) :
  compTurn (.ListComp e [⟨a,d,[c],0⟩] b f) 0 it g env=(standAt d.pos >>= λ_=>pyNext it >>= λr=>match r with
   |none=>pure<|.done .next
   |some v=>letOwnedTupleGo a it v >>= λ_=>assign a env v >>= λ_=>isTrue c env (eval c env) >>= λok=>
    if ok=true then (eval e env >>= λx=>call (.builtin "list.append") [g,x] >>= λ_=>again<|.compLoop (.ListComp e [⟨a,d,[c],0⟩] b f) 0 it g env)
    else again (.compLoop (.ListComp e [⟨a,d,[c],0⟩] b f) 0 it g env)):=by
 unfold compTurn;simp;rfl
def ώ(d a c:Expr)(b:Scope)(e:Pos)(it f:Value)(env:Env) :
  compTurn (.ListComp d [⟨a,c,[],0⟩] b e) 0 it f env=(standAt c.pos >>= λ_=>pyNext it >>= λr=>match r with
   |none=>pure<|.done .next
   |some v=>letOwnedTupleGo a it v >>= λ_=>assign a env v >>= λ_=>
    (eval d env >>= λx=>call (.builtin "list.append") [f,x] >>= λ_=>again<|.compLoop (.ListComp d [⟨a,c,[],0⟩] b e) 0 it f env)):=by
 unfold compTurn;simp;rfl
section
variable{X:Cx}{scope:Scope}{is:ac}{elt tg iter:Expr}{pos:Pos}{wi:TI}{g:TG}{te:TE}{tt:TT}
def IU(is:ac)(e:TI)(g:TG)(f:TT)(te:TE):TE:=λσ H Q=>e σ H λJ H1=>∀p,H1 p=none->∃W:Nat->Nat->Mi->KB,(∃m,W 0 m (Mr is σ) []<|Tb H1 p<|.lst [])/\
 ∀i m τ vs H,W i m τ vs H->H p=some (.lst vs)/\((J.stop i H/\Q (.ref p) H)\/(J.go i H/\∀x H',J.ay i H x H'->g x τ H' λb h=>f b h λk d=>
  if k=true then te b d λy c=>c p=some (.lst vs)/\vs.length<sizeLine/\∃a,a < m/\W (i+1) a b (vs++[y]) (Tb c p<|.lst<|vs++[y]) else ∃a,a < m/\W (i+1) a b vs d))
def Cy{i:bv} (I:Ea X aa σ H s) (g:∀b∈i,Jk X aa H b) (m:s.heap.objs.size<=C) (J:Ea (fP X scope C s H i) [] σ5 H5 s5)
  (f:Heap.SameBut C s5.heap h'):Ea X aa σ H5 {s5 with heap:=h'}:=by
 have j:H5 C=none:=J.free;have h:∀b o,s.heap.get? b=some o->b≠C:=λb o e z=>by
  subst z;exact absurd (ph (Tc e) m)<|Oi _
 have r:=λb o e=>by
  refine(J.Xa b o e).Dh (λc v hc q=>f.extBut c v ?_ q) (λ_ q=>q) λ_ _ q=>q
  rintro rfl;rcases hc with z|z
  .subst z;rw[j]at e;cases e
  rw[j]at z;cases z
 obtain⟨u,w,p,tt,os⟩:=s5;have t:=J.os;subst t;exact I.call (d':=p) (t':=tt) (⟨λb o e n a d=>f.extBut b o (h b o e)<|J.base.keep b o e n a d,λb o e n a d=>by
   obtain⟨k,q⟩:=J.base.slot b o e n a d;exact⟨k,f.extBut b _ (h b o e) q⟩,J.base.free,λb o e d=>by
   obtain⟨l,q⟩:=J.base.there b o e d;exact⟨l,f.extBut b _ (h b o e) q⟩,J.base.Fi,J.base.Rh,J.base.Ei⟩) r J.bare λb a=>⟨(g b a).2.2.2.1,(g b a).2.1,(g b a).2.2.2.2.1,(g b a).2.2.2.2.2⟩
theorem LY{p:Addr} {k:Sem α} {Q:α->pp} (he:PE Y elt te) (d:∀e a,Y.xe e a->E e a) (I:Ea Y aa τ H s) (f:te τ H λy c=>c p=some (.lst vs)/\vs.length<sizeLine/\∀a,Ea Y aa τ (Tb c p<|.lst<|vs++[y]) a->wpAny (model Y.prog Y.w) Y.A k Q E a) :
  wpAny (model Y.prog Y.w) Y.A (eval elt Y.env >>= λx=>call (.builtin "list.append") [.ref p,x] >>= λ_=>k) Q E s:=by
 refine xa<|dk (he aa s τ H _ I f) (λu s1 ⟨y,c,I4,r4,hp,g,q⟩=>?_) d
 obtain⟨z,b,n,r,hl,e⟩:=I4.Vj hp;refine xa<|call_meets KP ⟨_,e,rfl⟩ PySem.F.entry_list_append (M8 _ _) (PySem.list_append p b.toArray n u<|by rw[Lh];lia) ⟨e,(q _<|I4.Nm hp e (by simp) (r.append<|.cons r4 .nil) ?_)⟩
 rw[Pg,vn];lia
end
def Ť{env:Env}{g:TG} {it p:Addr} {C:bv} {G:Fa} {R:Result->pp} {Qq:Pos} {rest:Sem Fin}
  (T:Turn Y.prog Y.w Y.K tg J C it G) (P:Y.calm=true) (hE:Y.xe=λ_ _=>False) (hg:PG Y tg g) (hq:(Code.compLoop e 0 (.ref it) (.ref p) Y.env).quiet=true)
  (Ou:∀(s:Shared)(Q:Fin->pp),wpAny (model Y.prog Y.w) Y.A (pyNext (.ref it) >>= λr=>match r with
    |none=>pure<|.done .next
    |some v=>letOwnedTupleGo tg (.ref it) v >>= λ_=>assign tg Y.env v >>= λ_=>rest) Q (λ_ _=>False) s->
   wpAny (model Y.prog Y.w) (Y.A.under<|.compLoop e 0 (.ref it) (.ref p) Y.env) ((model Y.prog Y.w).den<|.compLoop e 0 (.ref it) (.ref p) Y.env) Q (λ_ _=>False) s)
  (Yi:∀(τ:Mi)(H:Hp)(s:Shared) (aa:ce) (vs:lw) (N:KF) (Q:Fin->pp),Ea Y aa τ H s->
   (tt τ H λk f=>if k=true then te τ f λy D=>D p=some (.lst vs)/\vs.length<sizeLine/\N (Tb D p<|.lst<|vs++[y]) (vs++[y]) else N f vs)->
   (∀B a z,Ea Y aa τ a B->N a z->Q (.again<|.compLoop e 0 (.ref it) (.ref p) Y.env) B)->wpAny (model Y.prog Y.w) Y.A rest Q (λ_ _=>False) s)
  (W:Nat->Nat->Mi->KB) {U:wv}
  (step:∀i m τ vs H,W i m τ vs H->H p=some (.lst vs)/\((J.stop i H/\U H)\/(J.go i H/\∀x a,J.ay i H x a->g x τ a λE H2=>tt E H2 λk f=>
   if k=true then te E f λy D=>D p=some (.lst vs)/\vs.length<sizeLine/\∃c,c < m/\W (i+1) c E (vs++[y]) (Tb D p<|.lst<|vs++[y]) else ∃c,c < m/\W (i+1) c E vs f)))
  (hR:∀τ H s,Ea Y [] τ H s->U H->R (.ok .next) s) {m:Nat} (I:Ea Y [] τ H s) (st:G i s.heap) (S:∀b∈C,Jk Y [] H b) (w:W i m τ vs H) :
  codeAny (model Y.prog Y.w) Y.A (.compLoop e 0 (.ref it) (.ref p) Y.env) R s:=by
 have F:∀{a:Hp},(∀b∈C,a b=none)->∀b∈C,Jk Y [] a b:=λhn b h=>⟨hn b h,(S b h).2⟩
 refine codeAny_loop hq (λn B=>∃i M Gi a,Ea Y [] M a B/\G i B.heap/\(∀b∈C,a b=none)/\W i n M Gi a) (λn s3 hI=>?_) m ⟨i,τ,vs,H,I,st,λb h=>(S b h).1,w⟩
 obtain⟨i,t,O,f,Z,HC,V,w3⟩:=hI;refine dk (Ou s3 _ ?_) (λ_ _ q=>q)<|λ_ _ q=>q.elim
 obtain⟨hp,hs⟩:=step i n t O f w3;rcases hs with ⟨A,qe⟩|⟨go,hs⟩
 .refine xa (Cc (T.done Y rfl rfl rfl P i [] s3 t f _ Z (F V) HC A) λr s4 ⟨hr,I4⟩=>?_)
  subst hr;exact Ua<|hR t f s4 I4 qe
 refine xa<|Cc (T.item Y rfl rfl rfl P i [] s3 t f _ Z (F V) HC go) λr s4 ⟨u,hr,h4⟩=>?_
 subst hr;refine xa<|Cc h4 λ_ s5 ⟨x,H5,I5,r5,y5,l,K⟩=>?_
 have X:=hg _ s5 t H5 x u _ (I5.pinned (F K)<|T.obj _ _ l) r5<|hs x H5 y5;rw[hE]at X;refine xa<|Cc X λ_ s6 ⟨j,H6,I6,q6⟩=>?_
 refine Yi j H6 s6 _ O (λa z=>∃c,c < n/\W (i+1) c j z a) _ I6 q6 λs7 H7 z L ⟨c,hm,w7⟩=>⟨rfl,c,hm,i+1,j,z,H7,L.Xe,T.keep _ _ _ l λb h o e=>(L.pin (b,o)<|oh _<|oh _<|xR h e).1,λb h=>?_,w7⟩
 obtain⟨o,e,d⟩:=T.obj _ _ l b h;exact(L.pin (b,o)<|oh _<|oh _<|xR h e).2.1
section
variable{X:Cx}{scope:Scope}{is:ac}{elt tg iter c:Expr}{pos:Pos}{wi:TI}{g:TG}{te:TE}{tt:TT}
def xH{ZC:Option (Value->Sem Unit)} {aa:ce} {s:Shared} {H:Hp} {Q:VK} {f:List Expr} {rest:Env->Value->Value->Sem Fin} (S:qd X scope is) (hc:X.calm=true) (hi:L2.PI X tg iter wi) (hg:∀C j i a,PG (fP X scope C j i a) tg g)
  (av:∀it qa env,(Code.compLoop (.ListComp elt [⟨tg,iter,f,0⟩] scope pos) 0 it qa env).quiet=true)
  (Ou:∀C j i a it p (s:Shared) (Q:Fin->pp),wpAny (model X.prog X.w) X.A (pyNext (.ref it) >>= λr=>match r with
    |none=>pure<|.done .next
    |some v=>letOwnedTupleGo tg (.ref it) v >>= λ_=>assign tg (fP X scope C j i a).env v >>= λ_=>rest (fP X scope C j i a).env (.ref it)<|.ref p) Q (λ_ _=>False) s->
   wpAny (model X.prog X.w) (X.A.under<|.compLoop (.ListComp elt [⟨tg,iter,f,0⟩] scope pos) 0 (.ref it) (.ref p) (fP X scope C j i a).env) ((model X.prog X.w).den<|.compLoop (.ListComp elt [⟨tg,iter,f,0⟩] scope pos) 0 (.ref it) (.ref p) (fP X scope C j i a).env) Q (λ_ _=>False) s)
  (Yi:∀C j i a it p (l:Mi) (H:Hp) (s:Shared) (aa:ce) (vs:lw) (N:KF) (Q:Fin->pp),Ea (fP X scope C j i a) aa l H s->
   (tt l H λk t=>if k=true then te l t λy V=>V p=some (.lst vs)/\vs.length<sizeLine/\N (Tb V p<|.lst<|vs++[y]) (vs++[y]) else N t vs)->
   (∀G Y Z,Ea (fP X scope C j i a) aa l Y G->N Y Z->Q (.again<|.compLoop (.ListComp elt [⟨tg,iter,f,0⟩] scope pos) 0 (.ref it) (.ref p) (fP X scope C j i a).env) G)->
   wpAny (model X.prog X.w) X.A (rest (fP X scope C j i a).env (.ref it)<|.ref p) Q (λ_ _=>False) s)
  (hs:∀x,foldedSetIterable iter X.env x=pure x) (I:Ea X aa σ H s) (h:IU is wi g tt te σ H Q)
  (ZR:∀C p A u D B t a l,B.heap.objs.size<=C->Ea X aa σ t B->(∀b∈a,Jk X aa t b)->Ea (fP X scope C B t a) [] l A u->u.heap.Ns C D->Q (.ref p) A->compPost (model X.prog X.w) X.A X.xe ZC Qf (.ref p) C (.ok .next) u) :
  wpAny (model X.prog X.w) X.A (comprehension (.ListComp elt [⟨tg,iter,f,0⟩] scope pos) scope X.env ppos (newList []) false (eval iter X.env) ZC) Qf X.xe s:=by
 refine wpAny_comprehension_free rfl hs (Å<|S.cells I.ok) S.kind S.names<|Cc (hi aa s σ H _ I h) λv s1 h1=>Cc h1 λGS q h2=>?_
 obtain⟨it,a,tn,J,H2,e,U,T,O,M,hW⟩:=h2;subst e;refine oo<|ţ λFf Vu E Mu=>?_
 have R:Ea X aa σ _ {q with heap:=q.heap.push {cls:=.type "list",data:=.seq ([]).toArray} }:=U.uv .nil<|rh _
 obtain⟨W,⟨m,w0⟩,step⟩:=hW q.heap.objs.size U.fresh;have w:=λb d=>let ⟨o,e,_⟩:=T.obj 0 _ O b d;Tc e
 have F:∀b∈a,Jk X aa (Tb H2 q.heap.objs.size<|.lst []) b:=λb d=>⟨by rw[aZ<|ff<|w b d];exact(M b d).1,(M b d).2⟩
 have L:=E;have z:=ħ (t':=q.toks) S hc R F (λb d=>ph (w b d)<|by rw[Xh];exact Qp _) Vu L Mu
 have K:=T.keep 0 _ _ O λb _ o e=>L b o<|vc _ e
 have n:=Ť (Y:=fP X scope _ _ _ a) (env:=X.env) (Qq:=pos) T rfl rfl (hg _ _ _ a) (av _ _ _) (Ou _ _ _ a it q.heap.objs.size) (Yi _ _ _ a it q.heap.objs.size) W step
  (λl A u P q5=>by
   obtain⟨D,Lm,_⟩:=P.loc;exact ZR _ _ A u D _ _ a l (Ec _) R F P Lm q5) z K (λb d=>⟨(F b d).1,(z.ok.xx b d).1,z.ok.Uk b d,.inl d,λx c e=>(z.ok.xx b d).2 x c e,λp hp=>absurd (show p∈([]) from hp)<|by simp⟩) w0
 exact codeAny_compStart_list n<|T.self _ 0 _ _ _ K n
def uI{it a:Value}:(Code.compLoop e 0 it a env).quiet=true:=rfl
def CP {it p : Addr}  {Q : Fin -> Shared -> Prop} (h : wpAny (model X.prog X.w) X.A (pyNext (.ref it) >>= fun r => match r with
        |none=>pure<|.done .next
        |some v=>letOwnedTupleGo tg (.ref it) v >>= λ_=>assign tg Y.env v >>= λ_=>(eval elt Y.env >>= λx=>call (.builtin "list.append") [.ref p,x] >>= λ_=>again<|.compLoop (.ListComp elt [⟨tg,iter,[],0⟩] scope pos) 0 (.ref it) (.ref p) Y.env)) Q (λ_ _=>False) s) :
      wpAny (model X.prog X.w) (X.A.under<|.compLoop (.ListComp elt [⟨tg,iter,[],0⟩] scope pos) 0 (.ref it) (.ref p) Y.env) ((model X.prog X.w).den<|.compLoop (.ListComp elt [⟨tg,iter,[],0⟩] scope pos) 0 (.ref it) (.ref p) Y.env) Q (λ_ _=>False) s:=by
 refine wpAny_noted ?_
 rw[ώ];exact xa<|Zw<|dk h (λ_ _ q=>q) λ_ _ q=>q.elim
def o8 {it p : Addr}  {Q : Fin -> Shared -> Prop} (h : wpAny (model X.prog X.w) X.A (pyNext (.ref it) >>= fun r => match r with
        |none=>pure<|.done .next
        |some v=>letOwnedTupleGo tg (.ref it) v >>= λ_=>assign tg Y.env v >>= λ_=>(isTrue c Y.env (eval c Y.env) >>= λok=>if ok=true then (eval elt Y.env >>= λx=>call (.builtin "list.append") [.ref p,x] >>= λ_=>again<|.compLoop (.ListComp elt [⟨tg,iter,[c],0⟩] scope pos) 0 (.ref it) (.ref p) Y.env)
          else again (.compLoop (.ListComp elt [⟨tg,iter,[c],0⟩] scope pos) 0 (.ref it) (.ref p) Y.env))) Q (λ_ _=>False) s) :
      wpAny (model X.prog X.w) (X.A.under<|.compLoop (.ListComp elt [⟨tg,iter,[c],0⟩] scope pos) 0 (.ref it) (.ref p) Y.env) ((model X.prog X.w).den<|.compLoop (.ListComp elt [⟨tg,iter,[c],0⟩] scope pos) 0 (.ref it) (.ref p) Y.env) Q (λ_ _=>False) s:=by
 refine wpAny_noted ?_
 rw[ϡ];exact xa<|Zw<|dk h (λ_ _ q=>q) λ_ _ q=>q.elim
def VM:TT:=λ_ H Q=>Q true H
def eP(l:Y.xe=λ_ _=>False)(he:PE Y elt te){it p:Addr}(c:Mi)(H:Hp)(s:Shared)(aa:ce)(vs:lw)(N:KF)(Q:Fin->pp)(I:Ea Y aa c H s)
  (h:VM c H λk i=>if k=true then te c i λy f=>f p=some (.lst vs)/\vs.length<sizeLine/\N (Tb f p<|.lst<|vs++[y]) (vs++[y]) else N i vs)
  (mono:∀(Q g:VK),(∀v d,Q v d->g v d)->te c H Q->te c H g)
  (q:∀e d j,Ea Y aa c d e->N d j->Q (.again<|.compLoop (.ListComp elt [⟨tg,iter,[],0⟩] scope pos) 0 (.ref it) (.ref p) Y.env) e) :
  wpAny (model Y.prog Y.w) Y.A (eval elt Y.env >>= λx=>call (.builtin "list.append") [.ref p,x] >>= λ_=>again<|.compLoop (.ListComp elt [⟨tg,iter,[],0⟩] scope pos) 0 (.ref it) (.ref p) Y.env) Q (λ_ _=>False) s:=by
 exact LY he (by rw[l];exact λ_ _ z=>z) I<|mono _ _ (λy f ⟨a,b,n⟩=>⟨a,b,λe m=>Ua<|q e _ _ m n⟩) h
end
section
variable{K:Frag} {st:za}
def bFv(is:ac):∀st:za,(Sk is st).length=st.length:=by
 induction is with
 |nil=>exact λ_=>rfl
 |cons i is a=>intro st;show (Sk is _).length=_;rw[a,uo]
def OE(is:ac):∀(st:za)(j:Nat)(x:Sl),(Sk is st)[j]?=some (some x)->st[j]?=some (some x)/\j∉is:=by
 induction is with
 |nil=>exact λσ j v h=>⟨h,by simp⟩
 |cons i is b=>
  intro σ j v h;obtain⟨a,c⟩:=b _ j v h;rw[Mh]at a
  by_cases e:i=j
  .subst e;rw[Kb rfl]at a;split at a<;>cases a
  rw[Pa e]at a;exact⟨a,λz=>(qc.mp z).elim (λz=>e z.symm) c⟩
def TL(is:ac):∀(a:Mi)(j:Nat),j∉is->(Mr is a)[j]?=a[j]?:=by
 induction is with
 |nil=>exact λa j _=>rfl
 |cons i is b=>
  intro a j h;show (Mr is _)[j]?=_;rw[b _ j λz=>h<|Lc _ z,Mh,Pa<|show ¬ i=j from λz=>h<|z ▸ Zb]
theorem RS.Sk(is:ac)(r:RS K B A H st σ):RS K B A H (Pu.Sk is st) (Mr is σ) where
 len:=by rw[bFv,RL,r.len]
 own:=r.own
 Aj:=r.Aj
 val:=λi d e=>by
  obtain⟨e1,h⟩:=OE is st i _ e;rw[TL is σ i h];exact r.val i d e1
 lst:=λi c xs e=>by
  obtain⟨e1,h⟩:=OE is st i _ e;obtain⟨a,o,vs,e2,m,g,b,q,u⟩:=r.lst i c xs e1;refine⟨a,o,vs,by rwa [TL is σ i h],m,g,b,q,λj k' ys ej fI=>?_⟩
  obtain⟨k,f⟩:=OE is st j _ ej;rw[TL is σ j f]at fI;exact u j k' ys k fI
def RS.weaken(r:RS K B A H st σ)(g:st'.length=st.length)(h:∀(j:Nat)(x:Sl),st'[j]?=some (some x)->st[j]?=some (some x)):RS K B A H st' σ where
 len:=g.trans r.len
 own:=r.own
 Aj:=r.Aj
 val:=λi d e=>r.val i d<|h i _ e
 lst:=λi c xs e=>by
  obtain⟨a,o,vs,e2,m,k,b,q,u⟩:=r.lst i c xs<|h i _ e;exact⟨a,o,vs,e2,m,k,b,q,λj f ys n l=>u j f ys (h j _ n) l⟩
def mem_mid{p b:Addr}:b∈A++p::B↔b=p\/b∈A++B:=by
 simp;constructor
 .rintro(h|h|h)
  .exact .inr (.inl h)
  .exact .inl h
  exact .inr<|.inr h
 rintro(h|h|h)
 .exact .inr (.inl h)
 .exact .inl h
 exact .inr<|.inr h
def G0{p:Addr}{o:HO}(d:H p=none):aR (hide (A++B) H) (hide (A++p::B)<|Tb H p o):=λb u q=>by
 have c:=aX _ _ _ _ q;have a:=aU c d
 rwa [bQ<|(λz=>(mem_mid.mp z).elim a<|λz=>by rw[iT z]at q;cases q),aZ a]
def RS.grow(r:RS K B A H st σ){p:Addr} (b:H p=none):RS K (p::B) A (Tb H p<|.lst vs) st σ where
 len:=r.len
 own:=λa c=>by
  by_cases e:a=p
  .subst e;rw[bO];rfl
  rw[aZ e];exact r.own a<|(mem_mid.mp c).resolve_left e
 Aj:=λa c d=>by
  rcases qc.mp d with rfl|d
  .exact r.own.free b (Kl _ c)
  exact r.Aj a c d
 val:=λj i e=>let ⟨u,e1,q⟩:=r.val j i e;⟨u,e1,q.mono<|G0 b⟩
 lst:=λj g xs e=>by
  obtain⟨a,o,k,e1,m,h,f,q,u⟩:=r.lst j g xs e;exact⟨a,o,k,e1,m,by rwa [aZ<|aU h b],f,q.mono<|G0 b,u⟩
def RS.put{p:Addr}(r:RS K (p::B) A H st σ):RS K (p::B) A (Tb H p<|.lst vs) st σ:=by
 have c:hide _ (Tb H p<|.lst vs)=hide (A++p::B) H:=uE<|mem_mid.mpr<|.inl rfl;refine⟨r.len,λb hb=>?_,r.Aj,λj d e=>by rw[c];exact r.val j d e,λj kk xs e=>?_⟩
 .by_cases e:b=p
  .subst e;rw[bO];rfl
  rw[aZ e];exact r.own b hb
 obtain⟨a,o,g,e1,m,h,f,q,u⟩:=r.lst j kk xs e;refine⟨a,o,g,e1,m,?_,f,by rwa [c],u⟩
 have:a≠p:=λz=>r.Aj a m<|z ▸ Zb
 rwa [aZ this]
end
def Tt(is:ac)(t:Tg):Prop:=∀d st a,t d st=.ok a->a.length=st.length/\∀(j:Nat),j∉is->a[j]?=st[j]?
def XF:Tt [i] (Pb i):=λd st a h=>by
 cases h;refine⟨uo,λj hj=>?_⟩
 rw[Mh,Pa λz=>hj (by simp[z])]
def bNq{is:ac}:Tt is (Xj is):=by
 have b:∀(is:ac)(ds:db)(st a:za),Qv is ds st=.ok a->a.length=st.length/\∀(j:Nat),j∉is->a[j]?=st[j]?:=by
  intro is
  induction is with
  |nil=>intro ds st a h;cases ds with|nil=>cases h;exact⟨rfl,λ_ _=>rfl⟩|cons _ _=>cases h
  |cons i is c=>
   intro ds st a h;cases ds with
   |nil=>cases h
   |cons d ds=>
    obtain⟨f,e⟩:=c ds _ a h;refine⟨by rw[f,uo],λj hj=>?_⟩
    rw[e j λz=>hj<|Lc _ z,Mh,Pa<|show ¬ i=j from λz=>hj<|z ▸ Zb]
 intro d st a h;cases d<;>first|(cases h)|exact b is _ st a h
def OI:List Str->Bool
 |[]=>true
 |x::r=>!r.contains x&&OI r
theorem J7:∀{l:ut},OI l=true->l.Nodup
 |[],_=>.nil
 |x::r,h=>by
  unfold OI at h;simp only[and_eq_true]at h;exact xn.mpr ⟨λz=>by rw[List.contains_iff_mem.mpr z]at h;exact Bool.noConfusion h.1,J7 h.2⟩
def p8(a:Scope)(b:List (Str×NameKind))(N:ut)(is:ac):Bool:=
 a.kind == .function&&OI (a.names.map (·.1))&&a.names.all (λx=>x.2 !=.free||b.lookup x.1==some .cell||b.lookup x.1==some .free) &&
  (List.range N.length).all λi=>(a.names.lookup (N.getD i "") !=some .local&&a.names.lookup (N.getD i "") !=some .cell)||is.contains i
def qd.of{is:ac}(h:p8 scope X.env.scope.names X.N is=true):qd X scope is:=by
 unfold p8 at h;simp only[and_eq_true,List.all_eq_true]at h;obtain⟨⟨⟨f,h0⟩,d⟩,c⟩:=h;refine⟨by simpa using f,J7 h0,λx hx hf=>?_,λi x e hl=>?_⟩
 .have:=d x hx;simp at this;rcases this with (z|z)|z
  .exact absurd hf z
  .exact .inl z
  exact .inr z
 have:=c i<|Jj.mpr<|(xg.mp e).1;rw[Kh,e]at this;simp at this;rcases this with ⟨b,a⟩|z
 .rcases hl with hl|hl
  .exact absurd hl b
  exact absurd hl a
 simpa using z
def bFw{K:Frag} (Q b:VK) (m:∀v a,Q v a->b v a) (h:tI K B f τ H Q):tI K B f τ H b:=
 let ⟨A,st,d,c,e,q⟩:=h;⟨A,st,d,c,e,λv a s r=>m v a<|q v a s r⟩
def Yx(K:Frag)(f:Ex):TE:=λτ H Q=>∃B,tI K B f τ H Q
def l_(K:Frag)(f:Ex):TT:=λτ H Q=>∃B,tT K B f τ H Q
def k_(K:Frag)(t:Tg):TG:=λv τ H Q=>∃B,tG K B t v τ H Q
def KG(h:∀B,PE X e<|tI X.K B f):PE X e (Yx X.K f):=λaa s σ H Q I ⟨B,q⟩=>h B aa s σ H Q I q
def q8(h:∀B,PT X e<|tT X.K B f):PT X e (l_ X.K f):=λaa s σ H Q I ⟨B,q⟩=>h B aa s σ H Q I q
def LG{t:Tg}(h:∀B,PG X e<|tG X.K B t):PG X e (k_ X.K t):=λaa s σ H v u Q I r ⟨B,q⟩=>h B aa s σ H v u Q I r q
def XD{K:Frag} (Q a:VK) (m:∀v b,Q v b->a v b) (h:Yx K f τ H Q):Yx K f τ H a:=let ⟨B,q⟩:=h;⟨B,bFw Q a m q⟩
theorem YF{K:Frag} {is:ac} {t:Tg} {c:Ex} {H:Hp} (hsub:Tt is t)
  (D:∀n H Q,l_ K c n H Q->tt n H Q) {st:za} {ys:db} (O:RS K B A H st σ) (hx:it st=.ok xs) (hl:xs.length<=big) (hy:mK t c f (Sk is st) xs=.ok ys) {Q:VK}
  (q:∀p vs H1 d,aR H H1->H1 p=none->aR H1 d->d p=some (.lst vs)->bC K (hide (A++p::B) d) ys vs->Q (.ref p) d):IU is (Um K B it) (k_ K t) tt (Yx K f) σ H Q:=by
 refine⟨A,st,xs,O,hx,λJ H1 s1 OB p hp=>⟨λi m n vs d=>m=xs.length-i/\i<=xs.length/\vs.length<=i/\d p=some (.lst vs)/\aR H1 d/\RS K _ A d _ n/\
   ∃ds rest,bC K (hide (A++p::B) d) ds vs/\mK t c f _ (xs.drop i)=.ok rest/\ds++rest=ys,⟨xs.length,rfl,rh _,rh _,bO,cQ hp,((O.mono s1).Sk is).grow hp,[],ys,.nil,by rwa [drop_zero],rfl⟩,?_⟩⟩
 rintro i m n vs d ⟨rfl,hi,GI,l,h,T,ds,rest,o,r,G⟩;refine⟨l,?_⟩;have P:∀a,a∈(p::A)++B↔a∈A++p::B:=λa=>by
  rw[mem_mid];exact qc
 obtain⟨Z,Y⟩:=OB _ d (λb u z=>by
  have I:=aX _ _ _ _ z;rw[bQ<|(λw=>(qc.mp w).elim (aU I hp)<|λw=>by rw[iT w]at z;cases z)]
  exact h b u I) (λa F=>T.own a<|(P a).mp F) i
 by_cases g:i<xs.length
 .obtain⟨go,U⟩:=Z _<|Be g;rw[Cz g]at r;obtain⟨s,M,h5⟩:=R.ua r;obtain⟨cb,E,h6⟩:=R.ua h5;obtain⟨k,rfl,S⟩:=xU h6;refine .inr ⟨go,λx H2 y=>?_⟩
  obtain⟨C,X⟩:=U x H2 y;have l:=C _ _ l;have h:=h.trans C;have o:=o.mono<|aR.hide C;obtain⟨N,W⟩:=hsub _ _ _ M;have back:∀(j:Nat)(z:Sl),(Sk is st)[j]?=some (some z)->s[j]?=some _:=λj z ez=>by rwa [W j (OE is st j z ez).2]
  refine⟨p::B,A,Sk is st,xs[i],s,(T.mono C),(X.mono<|jC λa F=>(P a).mpr F),M,λfq Ux=>D _ _ _ ⟨p::B,A,s,k,Ux,E,λH3 s3=>?_⟩⟩
  cases k with
  |true=>
   obtain⟨L,BS,h8⟩:=R.ua S;obtain⟨V,fv,h9⟩:=R.ua h8;cases h9;refine⟨p::B,A,s,L,Ux.mono s3,BS,λv H4 s4 r4=>⟨s4 _ _<|s3 _ _ l,?_,xs.length-(i+1),by lia,rfl,g,by rw[Pg,vn];lia,bO,?_,?_,ds++[L],V,?_,fv,by rwa [Rw]⟩⟩
   .have:sizeLine=16777216:=rfl;have hbg:=rE;lia
   .exact λb u z=>by rw[aZ<|aU z hp];exact s4 _ _<|s3 _ _<|h b u z
   .exact(((Ux.mono s3).mono s4).weaken (by rw[N]) back).put
   rw[uE<|mem_mid.mpr<|.inl rfl];exact(o.mono<|aR.hide<|s3.trans s4).append (.cons r4 .nil)
  |false=>exact⟨xs.length-(i+1),by lia,rfl,g,by lia,s3 _ _ l,h.trans s3,(Ux.mono s3).weaken (by rw[N]) back,ds,rest,o.mono<|aR.hide s3,S,G⟩
 have e:i=xs.length:=by lia
 subst e;rw[List.drop_length]at r;cases r;rw[so]at G;subst G;exact .inl ⟨Y<|Ec _,q p vs H1 d s1 hp h l o⟩
section
variable {iter c:Expr} {t:Tg} {u:Ex}
def K7(j:Y.xe=λ_ _=>False)(he:PE Y elt te)(u:PT Y c tt){it p:Addr}(d:Mi)(H:Hp)(s:Shared)(aa:ce)(vs:lw)(N:KF)(Q:Fin->pp)(I:Ea Y aa d H s)
  (h:tt d H λk r=>if k=true then te d r λy g=>g p=some (.lst vs)/\vs.length<sizeLine/\N (Tb g p<|.lst<|vs++[y]) (vs++[y]) else N r vs)
  (mono:∀H (Q m:VK),(∀v e,Q v e->m v e)->te d H Q->te d H m)
  (q:∀f e t,Ea Y aa d e f->N e t->Q (.again<|.compLoop (.ListComp elt [⟨tg,iter,[c],0⟩] scope pos) 0 (.ref it) (.ref p) Y.env) f) :
  wpAny (model Y.prog Y.w) Y.A (isTrue c Y.env (eval c Y.env) >>= fun ok => if ok = true then (eval elt Y.env >>= fun x => call (.builtin "list.append") [.ref p, x] >>= fun _ => again<|.compLoop (.ListComp elt [⟨tg, iter, [c], 0⟩] scope pos) 0 (.ref it) (.ref p) Y.env)
        else again (.compLoop (.ListComp elt [⟨tg,iter,[c],0⟩] scope pos) 0 (.ref it) (.ref p) Y.env)) Q (λ_ _=>False) s:=by
 have l:=u aa s d H _ I h;rw[j]at l;refine xa<|Cc l λk s1 ⟨H1,o,i⟩=>?_
 cases k with
 |true=>
  exact LY he (by rw[j];exact λ_ _ z=>z) o<|mono _ _ _ (λy g ⟨a,b,n⟩=>⟨a,b,λf w=>Ua<|q f _ _ w n⟩) i
 |false=>
  exact Ua<|q s1 H1 vs o i
def AO{Q:VK}{st:za} {ys:db} {p:Addr} {b:Hp} (c:RS X.K B A H st σ) (q:∀v b,aR H b->Ib X.K (hide (A++B) b) (.lst ys) v->Q v b) (s1:aR H H1) (d:H1 p=none) (s2:aR H1 b)
  (f:b p=some (.lst vs)) (r:bC X.K (hide (A++p::B) b) ys vs):Q (.ref p) b:=
 q _ b (s1.trans s2) (eO.mpr ⟨p,vs,rfl,(by rwa [bQ<|(c.own.mono s1).free d]),r.mono<|jC λa e=>mem_mid.mpr<|.inr e⟩)
def fQ{is:ac}(w:L2.PI X tg iter (Um X.K B it))(y:∀(B:bv)(C:Addr)(c:Shared)(b:Hp)(a:bv),PG (fP X scope C c b a) tg<|tG X.K B t)
  (he:∀(B:bv)(C:Addr)(c:Shared)(b:Hp)(a:bv),PE (fP X scope C c b a) elt<|tI X.K B f) (D:X.calm=true:=by rfl) (hsub:Tt is t:=by exact XF) (S:qd X scope is:=by exact .of rfl) (u:∀x,foldedSetIterable iter X.env x=pure x:=by intro _;rfl) :
  PE X (.ListComp elt [⟨tg,iter,[],0⟩] scope pos) (tI X.K B<|bU is t it cA f):=by
 intro aa s σ H Q I h;obtain⟨A,st,d,e,z,q⟩:=h;obtain⟨xs,n,J⟩:=R.ua z;obtain⟨hl,G⟩:=aM J;obtain⟨ys,l,F⟩:=R.ua G;cases F;refine xH (rest:=λenv it p=>eval elt env >>= λx=>call _ [p,x] >>= λ_=>again<|.compLoop _ 0 it p env) S D w (λC c b a=>LG λB=>y B C c b a) (λ_ _ _=>uI)
  (λC c b a it p s Q h=>CP h) (λC c b a it p τ H s aa vs N Q I h q=>eP rfl (KG λB=>he B C c b a) τ H s aa vs N Q I h (λQ L m h=>XD Q L m h) q) u I
  (YF hsub (λτ H Q ⟨B,A,st,k,e,hk,q⟩=>?_) e n hl l λp vs H1 H' s1 v g o r=>AO e q s1 v g o r) λC p U V j W Y a τ E P K O M i=>⟨j,M,λh' T=>⟨.ref p,U,Cy P K E O T,rfl,i⟩⟩
 cases hk;exact q H<|aR.refl _
def YD{is:ac}(z:L2.PI X tg iter (Um X.K B it))(D:∀(B:bv)(C:Addr)(e:Shared)(b:Hp)(a:bv),PG (fP X scope C e b a) tg<|tG X.K B t)
  (v:∀(B:bv)(C:Addr)(e:Shared)(b:Hp)(a:bv),PT (fP X scope C e b a) c<|tT X.K B u)
  (he:∀(B:bv)(C:Addr)(e:Shared)(b:Hp)(a:bv),PE (fP X scope C e b a) elt<|tI X.K B f) (F:X.calm=true:=by rfl) (hsub:Tt is t:=by exact XF) (S:qd X scope is:=by exact .of rfl) (w:∀x,foldedSetIterable iter X.env x=pure x:=by intro _;rfl) :
  PE X (.ListComp elt [⟨tg,iter,[c],0⟩] scope pos) (tI X.K B<|bU is t it u f):=by
 intro aa s σ H Q I h;obtain⟨A,st,d,g,E,q⟩:=h;obtain⟨xs,n,L⟩:=R.ua E;obtain⟨hl,K⟩:=aM L;obtain⟨ys,l,J⟩:=R.ua K;cases J;exact xH (te:=Yx X.K f) (rest:=λenv it p=>isTrue c env (eval c env) >>= λok=>if ok=true then (eval elt env >>= λx=>call _ [p,x] >>= λ_=>again<|.compLoop _ 0 it p env) else again (.compLoop _ 0 it p env)) S F z (λC e b a=>LG λB=>D B C e b a) (λ_ _ _=>uI)
  (λC e b a it p s Q h=>o8 h) (λC e b a it p τ H s aa vs N Q I h q=>K7 rfl (KG λB=>he B C e b a) (q8 λB=>v B C e b a) τ H s aa vs N Q I h (λ_ Q O m h=>XD Q O m h) q) w I
  (YF hsub (λτ H Q h=>h) g n hl l λp vs H1 H' s1 y i o r=>AO g q s1 y i o r) λC p W Y k Z H3 a τ G U M T P j=>⟨k,P,λh' V=>⟨.ref p,W,Cy U M G T V,rfl,j⟩⟩
end
end Pu
namespace Pu
open PySem PySem.Spec PyProof.Rows L2 PySem.SeqAt
section
variable{X:Cx}{aa:ce}{σ:Mi}{H:Hp}{s:Shared}
def n4(I:Ea X aa σ H s) {xs ys:lw} (g:ue X.K H a xs) (f:eh X.K H a ys):False:=by
 obtain⟨c,_,⟨o,n,e,d,_⟩,_⟩:=I.list g;obtain⟨h,_,⟨i,e2,b,_⟩,_⟩:=I.tuple f;rw[e]at e2;cases e2;rw[d]at b;simp at b
mutual
theorem Ib.inj(I:Ea X aa σ H s):∀{x y:D}{v:V},plain x=true->plain y=true->Ib X.K H x v->Ib X.K H y v->x=y
 |x,y,v,j,i,h,h'=>by
  cases x<;>first|(simp at j;done)|skip
  all_goals cases y<;>first|(simp at i)|skip
  case tup.tup=>
   obtain⟨a,vs,e,c,g⟩:=iK h;obtain⟨k,l,d,f,b⟩:=iK h';subst e;cases d;cases I.bj c f;rw[bC.inj I (by simpa using j) (by simpa using i) g b]
  case lst.lst=>
   obtain⟨a,vs,e,c,g⟩:=eO.mp h;obtain⟨k,l,d,f,b⟩:=eO.mp h';subst e;cases d;cases I.dh c f;rw[bC.inj I (by simpa using j) (by simpa using i) g b]
  case tup.lst=>
   obtain⟨a,vs,e,c,g⟩:=iK h;obtain⟨k,l,d,f,b⟩:=eO.mp h';subst e;cases d;exact(n4 I f c).elim
  case lst.tup=>
   obtain⟨a,vs,e,c,g⟩:=eO.mp h;obtain⟨k,l,d,f,b⟩:=iK h';subst e;cases d;exact(n4 I c f).elim
  all_goals first|(obtain⟨_,_,h',_⟩:=h';subst h';cases h)|(obtain⟨_,_,h,_⟩:=h;subst h;cases h')|(subst h;cases h';first|rfl|done)|(subst h)
theorem bC.inj(I:Ea X aa σ H s):∀{xs ys:db}{vs:lw},dR xs=true->dR ys=true->bC X.K H xs vs->bC X.K H ys vs->xs=ys
 |[],ys,vs,b,a,h,h'=>by
  have e:=cZ.mp h;subst e;cases ys with
  |nil=>rfl
  |cons y ys=>obtain⟨_,_,h',_⟩:=bM.mp h';cases h'
 |x::xs,ys,vs,b,a,h,h'=>by
  obtain⟨v,r,e,d,c⟩:=bM.mp h;subst e;cases ys with
  |nil=>exact nomatch cZ.mp h'
  |cons y ys=>
   obtain⟨v',j,f,i,g⟩:=bM.mp h';cases f;simp at b a;rw[Ib.inj I b.1 a.1 d i,bC.inj I b.2 a.2 c g]
end
mutual
theorem I0:∀x:D,plain x=true->ae x x=true
 |.xc,_=>rfl
 |.bl b,_=>by simp
 |.int i,_=>by simp
 |.str x,_=>by simp
 |.tup x,h=>by exact ZK x (by simpa using h)
 |.lst x,h=>ZK x (by simpa using h)
 |.Ug _ _ _,h=>by simp at h
 |.ins _ _ _,h=>by simp at h
 |.Dg _ _ _,h=>by simp at h
 |.fn _,h=>by simp at h
theorem ZK:∀x:db,dR x=true->pM x x=true
 |[],_=>rfl
 |a::x,h=>by
  simp at h;unfold pM;rw[I0 a h.1,ZK x h.2];rfl
end
def pairE(xs ys:db)(j:Nat):Bool:=ae (xs.getD j .xc)<|ys.getD j .xc
theorem ZD:∀xs ys:db,((List.range<|min xs.length ys.length).all (pairE xs ys)&&xs.length==ys.length)=pM xs ys
 |[],[]=>rfl
 |[],_::_=>rfl
 |_::_,[]=>rfl
 |x::xs,y::ys=>by
  have e:pM (x::xs) (y::ys)=(ae x y&&pM xs ys):=by conv=>lhs;unfold pM
  rw[e,<-(ZD xs ys)];have a:min (x::xs).length (y::ys).length=min xs.length ys.length+1:=by simp only[length_cons];omega
  rw[a,W8,all_cons,List.all_map];have e1:pairE (x::xs) (y::ys) 0=ae x y:=rfl;have e2:(pairE (x::xs) (y::ys) ∘ Nat.succ)=pairE xs ys:=rfl;rw[e1,e2,Bool.and_assoc];simp
def Ĩ{ys:db}(h:xs.length≠ys.length):pM xs ys=false:=by
 rw[<-ZD];simp[h]
inductive Vw (X:Cx) (H:Hp) (s:Shared):D->Value->Prop
 |xc:Vw X H s .xc .none
 |bl (b:Bool):Vw X H s (.bl b) (.bool b)
 |int (i:Int) (t:Tok):Vw X H s (.int i) (.int i t)
 |str (x:ac) (t:Tok):Vw X H s (.str x) (.str ⟨x.toArray⟩ t)
 |tup {x:db} {ws:lw} {its:ca} {l:Addr} (hq:s.heap.IsTuple l its.toArray) (hr:bC X.K H x ws) (hv:Ka ws its):Vw X H s (.tup x) (.ref l)
 |lst {x:db} {ws:lw} {its:ca} {l:Addr} (hq:s.heap.IsList l its.toArray) (hr:bC X.K H x ws) (hv:Ka ws its):Vw X H s (.lst x) (.ref l)
def Vw.of(I:Ea X aa σ H s){x:D} {a:Value} (h:Ib X.K H x v) (r:RelV v a) (p:plain x=true):Vw X H s x a:=by
 cases x with
 |xc=>have e:=sU.mp h;subst e;subst r;exact .xc
 |bl b=>have e:=dW.mp h;subst e;subst r;exact .bl b
 |int i=>have e:=bK.mp h;subst e;obtain⟨t,e⟩:∃t,a=Value.int i t:=r;subst e;exact .int i t
 |str x=>have e:=eF.mp h;subst e;obtain⟨t,e⟩:∃t,a=Value.str _ t:=r;subst e;exact .str x t
 |tup x=>obtain⟨l,ws,e,g,f⟩:=iK h;subst e;have e:=r;subst e;obtain⟨d,c,pl,_⟩:=I.tuple g;exact .tup pl f c
 |lst x=>obtain⟨l,ws,e,g,f⟩:=eO.mp h;subst e;subst r;obtain⟨d,c,pl,_⟩:=I.list g;exact .lst pl.isList f c
 |_=>simp at p
def bFz{A:Around}{x y:D}{a b:Value}{k:Bool}(f:Vw X H s x a)(d:Vw X H s y b)(h:RcAt A s a b k)(g:a=b->k=true):EqAt A s a b k:=λprog w E Q c=>by
 refine gh<|Kp (λe=>?_) λ_=>?_
 .rw[g<|eq_of_beq e]at c;exact xa<|Zr<|Ua c
 cases f<;>cases d<;>exact xa<|h prog w E _<|ou c
def bCh{u:V}{a:Value}(h:RelV v a)(b:RelV u a):v=u:=by
 cases v<;>(first|subst h|(obtain⟨_,h⟩:=h;subst h)) <;> cases u<;>first|(cases b;done)|(cases b;rfl)|(obtain⟨_,b⟩:=b;cases b;done)|(obtain⟨_,b⟩:=b;cases b;rfl)
def J0(x y:ac):ae (.str x) (.str y)=((⟨x.toArray⟩:Str)==⟨y.toArray⟩):=by rw[<-str_beq];simp
def bNt{A:Around}{a b:Value}{k c:Bool}(h:RcAt A s a b k)(e:k=c):RcAt A s a b c:=e ▸ h
def bNu{A:Around}{a b:Value}{k c:Bool}(h:RcNeAt A s a b k)(e:k=c):RcNeAt A s a b c:=e ▸ h
def K0(I:Ea X aa σ H s){x y:D}{A:Around}{u:V}{a b:Value}(i:Ib X.K H x v)(g:Ib X.K H y u)(f:RelV v a)(d:RelV u b)(j:plain x=true)(c:plain y=true)(h:RcAt A s a b (ae x y)):EqAt A s a b (ae x y):=
 bFz (Vw.of I i f j) (Vw.of I g d c) h λe=>by rw[Ib.inj I j c i<|bCh (e ▸ f) d ▸ g];exact I0 y c
mutual
theorem EF(I:Ea X aa σ H s)(x y:D)(A:Around)(v u:V)(a b:Value)(n:Ib X.K H x v)(m:Ib X.K H y u)(l:RelV v a)(k:RelV u b)(r:A.units+zg x<cLine)(i:plain x=true)(h:plain y=true):RcAt A s a b (ae x y)/\RcNeAt A s a b (!ae x y):=by
 have c:=Nat.lt_of_le_of_lt (OH _ _) r;have p:=Vw.of I n l i;have o:=Vw.of I m k h;clear n m l k;cases p<;>cases o
 case tup.tup x _ i1 _ hq hr hv y _ i2 _ Ze hr' Mm=>
  have t:zg (.tup x)=jR x+1:=by conv=>lhs;unfold zg
  have:=eL I x y A.in1 _ _ _ _ hr hr' hv Mm (by lia) (by simpa using i) (by simpa using h)
  have e:ae (.tup x) (.tup y)=pM x y:=by conv=>lhs;unfold ae
  rw[e,<-ZD,<-hr.length,<-hr'.length,hv.length,Mm.length,<-Lh,<-Lh];exact⟨RcAt.tuples hq Ze c λj f d=>by simpa using this j (by simpa using f) (by simpa using d),RcNeAt.tuples hq Ze c λj f d=>by simpa using this j (by simpa using f) (by simpa using d)⟩
 case lst.lst x _ i1 _ hq hr hv y _ i2 _ Ze hr' Mm=>
  have t:zg (.lst x)=jR x+1:=by conv=>lhs;unfold zg
  have:=eL I x y A.in1 _ _ _ _ hr hr' hv Mm (by lia) (by simpa using i) (by simpa using h)
  have e:ae (.lst x) (.lst y)=pM x y:=by conv=>lhs;unfold ae
  have q:i1.length=x.length:=by rw[<-hv.length,hr.length]
  have w:i2.length=y.length:=by rw[<-Mm.length,hr'.length]
  rw[e]
  by_cases g:i1.length=i2.length
  .rw[show pM x y=(List.range i1.toArray.size).all (pairE x y) by rw[<-ZD,Lh,q];simp[show x.length=y.length by lia]]
   exact⟨RcAt.lists hq Ze (by simpa using g) c λj f d=>by simpa using this j _ _,RcNeAt.lists hq Ze (by simpa using g) c λj f d=>by simpa using this j (by simpa using f) (by simpa using d)⟩
  rw[Ĩ (by lia)]
  exact⟨RcAt.lists_lengths hq Ze (by simpa using g) c,RcNeAt.lists_lengths hq Ze (by simpa using g) c⟩
 all_goals
  constructor
  .apply bNt
   .with_reducible first|exact RcAt.none_none|exact RcAt.none_bool _|exact RcAt.none_int _ _|exact RcAt.none_str _ _|exact RcAt.none_tuple ‹_› c|exact RcAt.none_list ‹_› c|exact RcAt.bool_none _|exact RcAt.bool_bool _ _|exact RcAt.bool_int _ _ _|exact RcAt.bool_str _ _ _|exact RcAt.bool_tuple _ ‹_› c|exact RcAt.bool_list _ ‹_› c|exact RcAt.int_none _ _|exact RcAt.int_bool _ _ _|exact RcAt.int_int _ _ _ _|exact RcAt.int_str _ _ _ _|exact RcAt.int_tuple _ _ ‹_› c|exact RcAt.int_list _ _ ‹_› c|exact RcAt.str_none _ _|exact RcAt.str_bool _ _ _|exact RcAt.str_int _ _ _ _|exact RcAt.str_str _ _ _ _|exact RcAt.str_tuple _ _ ‹_› c|exact RcAt.str_list _ _ ‹_› c|exact RcAt.tuple_none ‹_› c|exact RcAt.tuple_bool _ ‹_› c|exact RcAt.tuple_int _ _ ‹_› c|exact RcAt.tuple_str _ _ ‹_› c|exact RcAt.tuple_list ‹_› ‹_› c|exact RcAt.list_none ‹_› c|exact RcAt.list_bool _ ‹_› c|exact RcAt.list_int _ _ ‹_› c|exact RcAt.list_str _ _ ‹_› c|exact RcAt.list_tuple ‹_› ‹_› c
   first|exact(J0 _ _).symm|(unfold ae;rfl)
  apply bNu
  .with_reducible first|exact RcNeAt.none_none|exact RcNeAt.none_bool _|exact RcNeAt.none_int _ _|exact RcNeAt.none_str _ _|exact RcNeAt.none_tuple ‹_› c|exact RcNeAt.none_list ‹_› c|exact RcNeAt.bool_none _|exact RcNeAt.bool_bool _ _|exact RcNeAt.bool_int _ _ _|exact RcNeAt.bool_str _ _ _|exact RcNeAt.bool_tuple _ ‹_› c|exact RcNeAt.bool_list _ ‹_› c|exact RcNeAt.int_none _ _|exact RcNeAt.int_bool _ _ _|exact RcNeAt.int_int _ _ _ _|exact RcNeAt.int_str _ _ _ _|exact RcNeAt.int_tuple _ _ ‹_› c|exact RcNeAt.int_list _ _ ‹_› c|exact RcNeAt.str_none _ _|exact RcNeAt.str_bool _ _ _|exact RcNeAt.str_int _ _ _ _|exact RcNeAt.str_str _ _ _ _|exact RcNeAt.str_tuple _ _ ‹_› c|exact RcNeAt.str_list _ _ ‹_› c|exact RcNeAt.tuple_none ‹_› c|exact RcNeAt.tuple_bool _ ‹_› c|exact RcNeAt.tuple_int _ _ ‹_› c|exact RcNeAt.tuple_str _ _ ‹_› c|exact RcNeAt.tuple_list ‹_› ‹_› c|exact RcNeAt.list_none ‹_› c|exact RcNeAt.list_bool _ ‹_› c|exact RcNeAt.list_int _ _ ‹_› c|exact RcNeAt.list_str _ _ ‹_› c|exact RcNeAt.list_tuple ‹_› ‹_› c
  first|exact congrArg _ (J0 _ _).symm|(rfl)
theorem eL(I:Ea X aa σ H s):∀(xs ys:db)(A:Around)(vs g:lw)(f bs:ca),bC X.K H xs vs->bC X.K H ys g->Ka vs f->Ka g bs->A.units+jR xs<cLine->dR xs=true->dR ys=true->∀(j:Nat)(l:j<f.length)(k:j<bs.length),EqAt A s f[j] bs[j] (pairE xs ys j)
 |[],_,A,vs,g,f,bs,i,h,b,a,o,d,c,j,l,k=>by
  have e:=cZ.mp i;subst e;cases b;exact absurd l<|yu _
 |x::xs,[],A,vs,g,f,bs,i,h,b,a,o,d,c,j,l,k=>by
  have e:=cZ.mp h;subst e;cases a;exact absurd k<|yu _
 |x::xs,y::ys,A,vs,g,f,bs,i,h,b,a,o,d,c,j,l,k=>by
  obtain⟨v,r,e,p1,p2⟩:=bM.mp i;subst e;obtain⟨u,q,e,p,t⟩:=bM.mp h;subst e;have w:jR (x::xs)=max (zg x) (jR xs):=by conv=>lhs;unfold jR
  rw[w]at o;simp at d c;cases b with
  |cons b n=>
   cases a with
   |cons a m=>
    cases j with
    |zero=>exact K0 I p1 p b a d.1 c.1 (EF I x y A v u _ _ p1 p b a (by lia) d.1 c.1).1
    |succ j=>exact eL I xs ys A r q _ _ p2 t n m (by lia) d.2 c.2 j _ _
end
def L0(I:Ea X aa σ H s)(x y:D)(A:Around)(v u:V)(a b:Value)(f:Ib X.K H x v)(e:Ib X.K H y u)(d:RelV v a)(c:RelV u b)(i:A.units+zg x<cLine)(h:plain x=true)(g:plain y=true):EqAt A s a b (ae x y):=
 K0 I f e d c h g (EF I x y A v u _ _ f e d c i h g).1
def bCi(I:Ea X aa σ H s)(x y:D)(A:Around)(v u:V)(a b:Value)(f:Ib X.K H x v)(e:Ib X.K H y u)(d:RelV v a)(c:RelV u b)(i:A.units+zg x<cLine)(h:plain x=true)(g:plain y=true):RcAt A s a b (ae x y):=(EF I x y A v u a b f e d c i h g).1
def bCj(I:Ea X aa σ H s)(x y:D)(A:Around)(v u:V)(a b:Value)(f:Ib X.K H x v)(e:Ib X.K H y u)(d:RelV v a)(c:RelV u b)(i:A.units+zg x<cLine)(h:plain x=true)(g:plain y=true):RcNeAt A s a b (!ae x y):=(EF I x y A v u a b f e d c i h g).2
end
end Pu
namespace Pu
open PySem PySem.Spec PyProof.Rows L2
section
variable{X:Cx}{B:bv}{a b e:Expr}{f g:Ex}{pos:Pos}
theorem kY.rep{K:Frag}{A:bv}{H:Hp}{d:D}{v:V}(h:kY K A H d v):Ib K H d v:=by
 rcases h with h|⟨a,k,o,ds,vs,e1,e2,c,b,q⟩
 .exact h.mono (aX _ _)
 subst e1 e2;exact b.rep c<|q.mono<|aX _ _
def MG(K:Frag)(a:Bool):R2:=λv u H Q=>∃x y,Ib K H x v/\Ib K H y u/\(zg x<=64/\plain x=true/\plain y=true)/\Q (.bl<|if a then !ae x y else ae x y) H
theorem iB(i:X.A.units+64<cLine:=by exact Cb.units<|by assumption):Yf X (compareOp .Eq) (MG X.K false):=by
 intro aa s σ H v u a b Q I g f h;obtain⟨x,y,e,d,c,q⟩:=h;exact bCi I x y X.A v u a b e d g f (by lia) c.2.1 c.2.2 X.prog X.w X.xe _ ⟨.bl _,H,I,rfl,q⟩
theorem oM(i:X.A.units+64<cLine:=by exact Cb.units<|by assumption):Yf X (compareOp .NotEq) (MG X.K true):=by
 intro aa s σ H v u a b Q I g f h;obtain⟨x,y,e,d,c,q⟩:=h;exact bCj I x y X.A v u a b e d g f (by lia) c.2.1 c.2.2 X.prog X.w X.xe _ ⟨.bl _,H,I,rfl,q⟩
def iC{K:Frag}:Zj K (MG K false) Me:=by
 intro A H x y d v u Q w b a e q;obtain⟨c,e⟩:=aM e;cases e;exact⟨x,y,b.rep,a.rep,c,q _ H (aR.refl _)<|dW.mpr rfl⟩
def oN{K:Frag}:Zj K (MG K true) Hi:=by
 intro A H x y d v u Q w b a e q;obtain⟨c,e⟩:=aM e;cases e;exact⟨x,y,b.rep,a.rep,c,q _ H (aR.refl _)<|dW.mpr rfl⟩
def tyD:D->String
 |.xc=>"NoneType"
 |.bl _=>"bool"
 |.int _=>"int"
 |.str _=>"str"
 |.tup _=>"tuple"
 |.lst _=>"list"
 |.Ug _ _ _=>"dict"
 |.ins _ _ _=>""
 |.Dg _ _ _=>""
 |.fn _=>""
structure IsT(T:String)(p:AT):Prop where
 boot:bootBuiltins T=some (.type T)
 ans:∀(K:Frag)(d:D),Zn d=true->kitOne K (.type<|tyD d) (.type T)=some (p d)
def bCk{T:String}{p:AT}(h:IsT T p):lY X (.builtin "isinstance") (λxs H Q=>∃v d,xs=[v,.ty T]/\Zn d=true/\Ib X.K H d v/\Q (.bl<|p d) H):=by
 intro aa s σ H xs us Q I r q;obtain⟨v,d,rfl,j,i,q⟩:=q;obtain⟨u,B,rfl,g,A⟩:=r.two;subst A;have a:∀k,EP X aa σ Q _ {s with toks:=k}:=λk=>⟨.bl<|p d,H,I.tok k,rfl,q⟩
 have e:=h.ans X.K d j;cases d with
 |xc=>have z:=sU.mp i;subst z;have z:=g;subst z;exact zj PySem.W.kitx_none I.Hf True.intro e (λz=>nomatch z) a
 |bl x=>have z:=dW.mp i;subst z;have z:=g;subst z;exact zj PySem.W.kitx_bool I.Hf True.intro e (λz=>nomatch z) a
 |int x=>have z:=bK.mp i;subst z;obtain⟨t,z⟩:∃t,u=Value.int x t:=g;subst z;exact zj PySem.W.kitx_int I.Hf True.intro e (λz=>nomatch z) a
 |str x=>have z:=eF.mp i;subst z;obtain⟨t,z⟩:∃t,u=Value.str _ t:=g;subst z;exact zj PySem.W.kitx_str I.Hf True.intro e (λz=>nomatch z) a
 |tup x=>
  obtain⟨l,vs,z,b,_⟩:=iK i;subst z;have z:=g;subst z;obtain⟨w,_,⟨o,f,c,_⟩,_⟩:=I.tuple b;exact zj PySem.W.kitx_tuple I.Hf ⟨o,f,c⟩ e (λz=>nomatch z) a
 |lst x=>
  obtain⟨l,vs,z,b,_⟩:=eO.mp i;subst z;have z:=g;subst z;obtain⟨w,_,⟨o,n,f,c,_⟩,_⟩:=I.list b;exact zj DQ I.Hf ⟨o,f,c⟩ e (λz=>nomatch z) a
 |Ug t ks x=>
  obtain⟨l,vs,z,b,_⟩:=vJ.mp i;subst z;have z:=g;subst z;have y:∃o,s.heap.get? l=some o/\o.ExactDict:=by
   rcases b with ⟨_,Ca,b,_⟩|⟨_,Ca,b,_⟩
   .obtain⟨_,_,C,_,m⟩:Ca.length<=sizeLine/\(l==sysModules)=false/\∃vs,KV Ca vs/\s.heap.DictOf _ l vs:=I.Xa l _ b;obtain⟨o,es,n,f,c,_⟩:=m;exact⟨o,f,c⟩
   obtain⟨_,_,xs,_,o,es,ep,f,c,_⟩:=I.Xa l _ b;exact⟨o,f,c⟩
  obtain⟨o,f,c⟩:=y;exact zj EQ I.Hf ⟨o,f,c.1⟩ e (λz=>nomatch z) a
 |ins _ _ _=>exact nomatch j
 |Dg _ _ _=>exact nomatch j
 |fn _=>exact nomatch j
def oO{T:Str}{S:String}{p:AT} (k:IsT S p) (o:X.mg "isinstance"=none) (c:X.mg T=none) (t:PE X a (tP X.K B f)) (h:bootBuiltins T=some (.type S):=by first|rfl|exact k.boot) (r:Gl X "isinstance":=by rfl) (e:Gl X T:=by rfl) (b:T≠"__name__":=by decide) (w:dg T:=by decide)
  (j:starEach [a,.Name T p1] X.env=(false,eval a X.env)::starEach [.Name T p1] X.env:=by rfl) (u:starEach [.Name T p1] X.env=(false,eval (.Name T p1) X.env)::starEach [] X.env:=by rfl) :
  PE X (.Call (.Name "isinstance" p0) [a,.Name T p1] [] pos) (tI X.K B<|eB p f):=by
 have g:PE X (.Name T p1) (tC<|.ty S):=bDq e c h rfl b w;refine cC (nU (bCk k) r o boot_isinstance (cM t (cM g fJ u) j) (he:=j)) ?_
 rintro σ H Q ⟨A,st,d,l,s,q⟩;obtain⟨x,n,i⟩:=R.ua s;obtain⟨y,i⟩:=aM i;cases i;exact⟨A,st,x,l,n,λv H1 s1 m=>⟨v,x,rfl,y,m.rep,q _ H1 s1<|dW.mpr rfl⟩⟩
def ty_str:IsT "str" oP:=⟨rfl,λK d a=>by cases d<;>first|(cases a;done)|kernel_rfl⟩
def ty_bool:IsT "bool" Xt:=⟨rfl,λK d a=>by cases d<;>first|(cases a;done)|kernel_rfl⟩
def ty_int:IsT "int" isIn:=⟨rfl,λK d a=>by cases d<;>first|(cases a;done)|kernel_rfl⟩
def ty_tuple:IsT "tuple" gz:=⟨rfl,λK d a=>by cases d<;>first|(cases a;done)|kernel_rfl⟩
def ty_list:IsT "list" Bw:=⟨rfl,λK d a=>by cases d<;>first|(cases a;done)|kernel_rfl⟩
end
end Pu
namespace Pu
open PySem PySem.Spec PyProof.Rows L2 PySem.SeqAt PySem.StrLaws
def ĩ(x y:ac)(i:Nat):Builtin.Str.subAt ⟨x.toArray⟩ ⟨y.toArray⟩ i=((x.drop i).take y.length==y):=by
 rw[subAt_eq];simp[Str.length]
theorem N0(s sub:Str)(b:Nat):∀(l:ac)(st:Array Nat×Nat),1<=st.1.size->(forIn l st<|occBody s sub b 1).run.fst=st.1
 |[],st,h=>rfl
 |a::l,st,h=>by
  rw[forIn_cons];unfold occBody;rw[Pa (λz=>by lia)]
  exact N0 s sub b l (st.1,st.2) h
theorem O0(s sub:Str)(b:Nat):∀(l:ac)(free:Nat),(∀i∈l,free<=i)->
  (forIn l ((#[]:Gc),free)<|occBody s sub b 1).run.fst.toList=(l.find? λi=>decide (i+sub.length<=b)&&Builtin.Str.subAt s sub i).toList
 |[],free,_=>rfl
 |a::l,free,d=>by
  rw[forIn_cons]
  by_cases c:a+sub.length<=b/\Builtin.Str.subAt s sub a=true
  .rw[U8 (p:=λi=>decide _&&Builtin.Str.subAt s sub i) (by rw[c.2,fh c.1];rfl)]
   have e2:occBody s sub b 1 a ((#[]),free)=pure (ForInStep.yield ((#[]).push a,a+sub.length)):=by
    exact Kb ⟨⟨⟨by simp,(d a Zb)⟩,c.1⟩,c.2⟩
   rw[e2];show (forIn l (((#[]).push a),a+sub.length)<|occBody s sub b 1).run.fst.toList=_;rw[N0 s sub b l _ (by simp)]
   rfl
  rw[V8 (p:=λi=>decide _&&Builtin.Str.subAt s sub i)<|λz=>c<|by simpa using z]
  have e2:occBody s sub b 1 a ((#[]),free)=pure (ForInStep.yield ((#[]),free)):=by
   exact Pa λh=>c ⟨h.1.2,h.2⟩
  rw[e2];exact O0 s sub b l free λi e=>d i<|Lc _ e
theorem GD(x y:ac)(lo:Nat):Builtin.Str.occurrences ⟨x.toArray⟩ ⟨y.toArray⟩ lo (⟨x.toArray⟩:Str).length 1=(nO x y lo).toList:=by
 rw[occ_eq,O0 _ _ _ _ _ (λi a=>by simp at a;lia)]
 unfold nO;simp[ĩ,str_len]
def bG1(x y:ac):Txt.find ⟨x.toArray⟩ ⟨y.toArray⟩=zW (nO x y 0):=by
 unfold Txt.find;rw[GD];cases nO x y 0<;>rfl
theorem bCl(x y:ac)(i:Int)(h:0<=i):Txt.find3 ⟨x.toArray⟩ ⟨y.toArray⟩ i=zW (nO x y i.toNat):=by
 have e:fromIndex (⟨x.toArray⟩:Str).length i=i.toNat:=by unfold fromIndex;rw[Pa (by lia)];lia
 unfold Txt.find3;rw[e,GD];cases nO x y i.toNat<;>rfl
theorem uJ{b:Type}(p:b->Bool):∀x:List b,x.drop (x.takeWhile p).length=x.dropWhile p
 |[]=>rfl
 |a::x=>by
  cases h:p a with
  |true=>rw[F8 h,E8 h,fg,List.drop_succ_cons,uJ p x]
  |false=>rw[List.takeWhile_cons_of_neg (by simp[h]),List.dropWhile_cons_of_neg (by simp[h])];rfl
def TV(p:α->Bool)(x:List α):(x.takeWhile p).length+(x.dropWhile p).length=x.length:=by
 rw[<-Pg,t8]
theorem bCm(x y:ac):Txt.stripChars ⟨x.toArray⟩ ⟨y.toArray⟩=⟨(xT x y).toArray⟩:=by
 have d:y.toArray.contains=λc=>y.contains c:=by funext c;simp
 have a:Builtin.Str.strSub ⟨x.toArray⟩ (stripLo y.toArray.contains true ⟨x.toArray⟩) (stripHi y.toArray.contains true ⟨x.toArray⟩<|stripLo y.toArray.contains true ⟨x.toArray⟩)=⟨(xT x y).toArray⟩:=by
  unfold stripLo stripHi;rw[d];unfold xT;generalize g:(λc=>y.contains c)=q
  have f:=TV q x;have b:=TV q (x.dropWhile q).reverse;rw[List.length_reverse]at b;unfold Builtin.Str.strSub;simp only[str_len];simp;rw[uJ];have e:((x.dropWhile q).reverse.dropWhile q).reverse=(x.dropWhile q).take ((x.dropWhile q).length-((x.dropWhile q).reverse.takeWhile q).length):=by
   rw[((uJ q _).symm),List.drop_reverse,List.reverse_reverse]
  rw[e];congr 1;lia
 unfold Txt.stripChars Txt.stripBy
 by_cases h:stripSame y.toArray.contains true true ⟨x.toArray⟩=true
 .rw[Kb h];unfold stripSame at h;rw[Xr,Fm,Fm]at h;rw[h.2,h.1]at a;rw[<-a];unfold Builtin.Str.strSub;simp[str_len]
 rwa [Pa h]
section
variable {a b:Expr}
def NG{id:String}{m:sr} {q:wf} (a:Slot "str" name id) (I:typeOf (.builtin id)=pure (.type "method_descriptor")) (p:jq X id q)
  (t:∀x xs d,m x xs=.ok d->∃s,x=.str s) (C:∀(A:bv)(H:Hp)(x d:D)(xs:db)(v:V)(vs:lw)(Q:VK),Own A H->kY X.K A H x v->bC X.K (hide A H) xs vs->m x xs=.ok d->(∀w b,aR H b->Ib X.K (hide A b) d w->Q w b)->q v vs H Q)
  (n:PE X o (tP X.K B f)) (y:PA X (e::es) (tA X.K B r))
  (F:Ak o name X.env:=by rfl)
  (i:aq Nb (e::es) X.env:=by rfl)
  (J:Pn Fb Nb:=by rfl) (l:Oe e es X.env:=by rfl) (E:lh Nb es X.env:=by rfl) :
  PE X (.Call (.Attribute o name Fb) (e::es) [] Nb) (tI X.K B<|ik m f r):=by
 refine cC (LF PySem.F.plainAttrs_str a I p n y F i J l E) ?_
 rintro σ H Q ⟨A,st,d,c,u,k⟩;obtain⟨x,j,z⟩:=R.ua u;obtain⟨xs,G,g⟩:=R.ua z;obtain⟨s,rfl⟩:=t x xs d g;refine⟨A,st,_,c,j,λv H1 s1 r1=>⟨?_,A,st,xs,c.mono s1,G,λvs H2 s2 r2=>?_⟩⟩
 .rw[r1.str];rfl
 exact C _ H2 _ d xs v vs Q (c.own.mono<|s1.trans s2) (r1.mono s2) r2 g λw b s' h=>k w b (s1.trans<|s2.trans s') h
def vw{K:Frag} (h:bC K H [d] vs):∃v,vs=[v]/\Ib K H d v:=by
 obtain⟨v,r,rfl,b,a⟩:=bM.mp h;rw[cZ.mp a];exact⟨v,rfl,b⟩
def bNv{K:Frag} {e:D} (h:bC K H [d,e] vs):∃v u,vs=[v,u]/\Ib K H d v/\Ib K H e u:=by
 obtain⟨v,r,rfl,c,b⟩:=bM.mp h;obtain⟨u,rfl,a⟩:=vw b;exact⟨v,u,rfl,c,a⟩
def bG3:jq X "str.find" (λx vs H Q=>∃(s:ac),x=.str ⟨s.toArray⟩/\((∃y:ac,vs=[.str ⟨y.toArray⟩]/\Q (.int<|zW<|nO s y 0) H)\/∃(y:ac)(i:Int),vs=[.str ⟨y.toArray⟩,.int i]/\0<=i/\Q (.int<|zW<|nO s y i.toNat) H)):=by
 intro aa s σ H x vs v us Q I c a h;obtain⟨z,rfl,h⟩:=h;obtain⟨t,rfl⟩:=c;rcases h with ⟨y,rfl,q⟩|⟨y,i,rfl,d,q⟩
 .obtain⟨u,rfl,b,rfl⟩:=a.one;exact SC.find ⟨.int _,H,I.tok _,⟨_,rfl⟩,by rwa [bG1]⟩
 obtain⟨u,e,rfl,⟨b,rfl⟩,⟨f,rfl⟩⟩:=a.two;exact SC.find3 ⟨.int _,H,I.tok _,⟨_,rfl⟩,by rwa [bCl _ _ _ d]⟩
def bCn:jq X "str.index" (λx vs H Q=>∃(s y:ac)(i:Nat),x=.str ⟨s.toArray⟩/\vs=[.str ⟨y.toArray⟩]/\nO s y 0=some i/\Q (.int i) H):=by
 intro aa s σ H x vs v us Q I a b h;obtain⟨z,y,i,rfl,rfl,c,q⟩:=h;obtain⟨t,rfl⟩:=a;obtain⟨u,rfl,d,rfl⟩:=b.one;exact SC.index (by rw[GD,c];rfl) ⟨.int _,H,I.tok _,⟨_,rfl⟩,q⟩
def bCo:jq X "str.strip" (λx vs H Q=>∃(s y:ac),x=.str ⟨s.toArray⟩/\vs=[.str ⟨y.toArray⟩]/\s.length<=sizeLine/\Q (.str ⟨(xT s y).toArray⟩) H):=by
 intro aa s σ H x vs v us Q I a b h;obtain⟨z,y,rfl,rfl,d,q⟩:=h;obtain⟨t,rfl⟩:=a;obtain⟨u,rfl,c,rfl⟩:=b.one;exact SC.stripChars (λt' k=>⟨.str _,H,I.tok _,⟨_,by rw[bCm]⟩,q⟩) (by rwa [str_len])
end
end Pu
namespace Pu
open PySem PySem.Spec PyProof.Rows L2 PySem.SeqAt
section
variable{X:Cx}{B:bv}{a b e o:Expr}{f g:Ex}{pos:Pos}{r:mh}{es:List Expr}{Fb Nb:Pos}
def bKj(i:PE X o (tP X.K B f))(j:PA X (e::es) (tA X.K B r))(n:Ak o "find" X.env:=by rfl)
  (b:aq Nb (e::es) X.env:=by rfl)
  (p:Pn Fb Nb:=by rfl) (g:Oe e es X.env:=by rfl) (m:lh Nb es X.env:=by rfl) :
  PE X (.Call (.Attribute o "find" Fb) (e::es) [] Nb) (tI X.K B<|ik MF f r):=by
 refine NG PySem.F.slot_str_find PySem.F.type_str_find bG3 (λx xs d h=>?_) (λA H x d xs v vs Q w rx Zs h k=>?_) i j n b p g m
 .cases x<;>first|exact⟨_,rfl⟩|exact nomatch h
 unfold MF at h;split at h
 .cases h;obtain⟨u,rfl,a⟩:=vw Zs;exact⟨_,rx.str,.inl ⟨_,by rw[eF.mp a],k _ H (aR.refl _)<|bK.mpr rfl⟩⟩
 .obtain⟨c,h⟩:=aM h;cases h;obtain⟨u,q,rfl,a,l⟩:=bNv Zs;exact⟨_,rx.str,.inr ⟨_,_,by rw[eF.mp a,bK.mp l],c,k _ H (aR.refl _)<|bK.mpr rfl⟩⟩
 cases h
def o4(g:PE X o (tP X.K B f))(l:PA X (e::es) (tA X.K B r))(n:Ak o "index" X.env:=by rfl)
  (b:aq Nb (e::es) X.env:=by rfl)
  (p:Pn Fb Nb:=by rfl) (c:Oe e es X.env:=by rfl) (m:lh Nb es X.env:=by rfl) :
  PE X (.Call (.Attribute o "index" Fb) (e::es) [] Nb) (tI X.K B<|ik Hy f r):=by
 refine NG PySem.F.slot_str_index PySem.F.type_str_index bCn (λx xs d h=>?_) (λA H x d xs v vs Q w rx Zs h k=>?_) g l n b p c m
 .cases x<;>first|exact⟨_,rfl⟩|exact nomatch h
 unfold Hy at h;split at h
 .obtain⟨i,j,h⟩:=R.ua h;cases h;obtain⟨u,rfl,a⟩:=vw Zs;exact⟨_,_,i,rx.str,by rw[eF.mp a],Yv j,k _ H (aR.refl _)<|bK.mpr rfl⟩
 cases h
def bG4(i:PE X o (tP X.K B f))(j:PA X (e::es) (tA X.K B r))(m:Ak o "strip" X.env:=by rfl)
  (b:aq Nb (e::es) X.env:=by rfl)
  (n:Pn Fb Nb:=by rfl) (g:Oe e es X.env:=by rfl) (l:lh Nb es X.env:=by rfl) :
  PE X (.Call (.Attribute o "strip" Fb) (e::es) [] Nb) (tI X.K B<|ik WE f r):=by
 refine NG PySem.F.slot_str_strip PySem.F.type_str_strip bCo (λx xs d h=>?_) (λA H x d xs v vs Q w rx Zs h k=>?_) i j m b n g l
 .cases x<;>first|exact⟨_,rfl⟩|exact nomatch h
 unfold WE at h;split at h
 .obtain⟨c,h⟩:=aM h;cases h;obtain⟨u,rfl,a⟩:=vw Zs;exact⟨_,_,rx.str,by rw[eF.mp a],lim c,k _ H (aR.refl _)<|eF.mpr rfl⟩
 cases h
def BO(k:X.mg "max"=none)(n:X.calm=true)(p:PE X a (tP X.K B f))(o:PE X b (tP X.K B g))(l:Gl X "max":=by rfl)(h:starEach [a,b] X.env=(false,eval a X.env)::starEach [b] X.env:=by rfl)
  (s:Oe b [] X.env:=by rfl) (hpl:(backTo pos<|starEach [b] X.env).any (·.1)=false:=by rfl):PE X (.Call (.Name "max" p0) [a,b] [] pos) (tI X.K B<|e2 lq f g):=by
 refine cC (nU (ł n) l k rfl (cM p (cM o fJ s) h) (he:=h) (hpl:=hpl)) ?_
 rintro σ H Q ⟨A,st,d,e,m,q⟩;obtain⟨x,j,r⟩:=R.ua m;obtain⟨y,i,c⟩:=R.ua r;refine⟨A,st,x,e,j,λv H1 s1 r1=>⟨A,st,y,e.mono s1,i,λu H2 s2 r2=>?_⟩⟩
 unfold lq at c;split at c
 case h_2=>cases c
 cases c;exact⟨_,_,by rw[r1.int,r2.int],q _ H2 (s1.trans s2)<|bK.mpr rfl⟩
def bKk(k:X.mg "min"=none)(n:X.calm=true)(p:PE X a (tP X.K B f))(o:PE X b (tP X.K B g))(l:Gl X "min":=by rfl)(h:starEach [a,b] X.env=(false,eval a X.env)::starEach [b] X.env:=by rfl)
  (s:Oe b [] X.env:=by rfl) (hpl:(backTo pos<|starEach [b] X.env).any (·.1)=false:=by rfl):PE X (.Call (.Name "min" p0) [a,b] [] pos) (tI X.K B<|e2 Vy f g):=by
 refine cC (nU (Ń n) l k rfl (cM p (cM o fJ s) h) (he:=h) (hpl:=hpl)) ?_
 rintro σ H Q ⟨A,st,d,e,m,q⟩;obtain⟨x,j,r⟩:=R.ua m;obtain⟨y,i,c⟩:=R.ua r;refine⟨A,st,x,e,j,λv H1 s1 r1=>⟨A,st,y,e.mono s1,i,λu H2 s2 r2=>?_⟩⟩
 unfold Vy at c;split at c
 case h_2=>cases c
 cases c;exact⟨_,_,by rw[r1.int,r2.int],q _ H2 (s1.trans s2)<|bK.mpr rfl⟩
def Ut(h:PE X a (tP X.K B f)):PE X (.UnaryOp .USub a pos) (tI X.K B<|e1 zp f):=by
 refine cC (bM4 bJ3 h) ?_
 rintro σ H Q ⟨A,st,d,c,g,q⟩;obtain⟨x,e,b⟩:=R.ua g;refine⟨A,st,x,c,e,λv H1 s1 r1=>?_⟩
 cases x<;>first|(cases b;done)|skip
 cases b;exact⟨_,r1.int,q _ H1 s1<|bK.mpr rfl⟩
def r8(a:Bool):R2:=λx y H Q=>(y=.xc/\Q (.bl<|if a then !decide (x=.xc) else decide (x=.xc)) H)\/∃c d,x=.bl c/\y=.bl d/\Q (.bl<|if a then !(c==d) else (c==d)) H
def bKl:Yf X (compareOp .Is) (r8 false):=by
 intro aa s σ H x y v u Q I b a h;rcases h with h|⟨c,d,rfl,rfl,q⟩
 .exact bJ4 aa s σ H x y v u Q I b a h
 cases b;cases a;exact is_bool ⟨.bl _,H,I,rfl,q⟩
def bKm{K:Frag}:Zj K (r8 false) q9:=by
 intro A H x y d v u Q w b a e q;cases y<;>first|(cases x<;>(cases e;done))|skip
 .cases e;exact .inl ⟨a.xc,q _ H (aR.refl _)<|dW.mpr<|by rw[<-bFq b];rfl⟩
 cases x<;>first|(cases e;done)|skip
 cases e;exact .inr ⟨_,_,b.bl,a.bl,q _ H (aR.refl _)<|dW.mpr rfl⟩
open Classical in
noncomputable def Am(K:Frag)(H:Hp)(x:D)(u:Value):Bool:=if ∃d z,Ib K H d z/\RelV z u/\plain d=true/\ae d x=true then true else false
def WM(I:Ea X aa σ H s){x:D}{z:V}{u:Value}(r:Ib X.K H d z)(c:RelV z u)(f:plain d=true):Am X.K H x u=ae d x:=by
 unfold Am;split
 .rename_i h;obtain⟨k,j,g,a,b,e⟩:=h;have:=RelV.inj c a;subst this;rw[Ib.inj I f b r g,e]
 rename_i h;cases i:ae d x with
 |false=>rfl
 |true=>exact(h ⟨d,z,r,c,f,i⟩).elim
theorem Ny{aa:ce}{f:Mi}{H:Hp}{s:Shared}(I:Ea X aa f H s){x:D}:∀{c:db}{a:lw}{b:ca},bC X.K H c a->Ka a b->dR c=true->b.any (Am X.K H x)=inD x c
 |[],a,b,r,v,_=>by
  have e:=cZ.mp r;subst e;cases v;rfl
 |d::c,a,b,r,v,p=>by
  obtain⟨z,i,e,h,g⟩:=bM.mp r;subst e;simp at p;cases v with
  |cons v vs=>
   rw[zu,WM I h v p.1,Ny I g vs p.2];unfold inD;rw[zu]
theorem aw{aa:ce}{m:Mi}{H:Hp}{s:Shared}(I:Ea X aa m H s){A:Around}{x:D}{g:V}{h:Value}(j:Ib X.K H x g)(i:RelV g h)(k:plain x=true):∀{f:db}{b:lw}{c:ca},bC X.K H f b->Ka b c->dR f=true->A.units+jR f<cLine->∀u∈c,EqAt A s u h (Am X.K H x u)
 |[],b,c,r,v,_,_=>by
  have e:=cZ.mp r;subst e;cases v;exact λu a=>nomatch a
 |d::f,b,c,r,v,p,n=>by
  obtain⟨z,q,e,l,o⟩:=bM.mp r;subst e;simp at p;rw[PX]at n;cases v with
  |cons v vs=>
   intro u a;rcases qc.mp a with rfl|a
   .rw[WM I l v p.1];exact L0 I d x A z g _ h l j v i (by lia) p.1 k
   exact aw I j i k o vs p.2 (by lia) u a
def OG(K:Frag)(b:Bool):R2:=λv u H Q=>(∃a o,u=.ref a/\xm H a v o/\Q (.bl<|if b then !o.isSome else o.isSome) H)\/(∃x ds zs p,u=.ref p/\(ue K H p zs\/eh K H p zs)/\Ib K H x v/\bC K H ds zs/\jR ds<=60/\plain x=true/\dR ds=true/\Q (.bl<|if b then !inD x ds else inD x ds) H)\/
 ∃i j:ac,v=.str ⟨i.toArray⟩/\u=.str ⟨j.toArray⟩/\Q (.bl<|if b then !(nO j i 0).isSome else (nO j i 0).isSome) H
def some_of(x y:ac):(!(Builtin.Str.occurrences ⟨x.toArray⟩ ⟨y.toArray⟩ 0 (⟨x.toArray⟩:Str).length 1).isEmpty)=(nO x y 0).isSome:=by
 rw[GD];cases nO x y 0<;>rfl
theorem L6(B:X.A.units+64<cLine:=by exact Cb.units<|by assumption):Yf X (compareOp .In) (OG X.K false):=by
 intro aa s σ H v u a b Q I f m h;rcases h with ⟨p,o,rfl,g,q⟩|⟨x,ds,zs,p,rfl,d,t,l,C,y,k,q⟩|⟨i,j,rfl,rfl,q⟩
 .cases m;exact bPc (by lia) I g f λs' A=>⟨.bl _,H,A,rfl,q⟩
 .cases m;have e:=by show X.A.units+1+jR ds<cLine;lia
  rcases d with d|d
  .obtain⟨c,r,pl,z⟩:=I.list d;refine SeqAt.in_listAt (Am X.K H x) pl.isList (λw n=>aw I t f y l r k e w<|by simpa using n) ⟨.bl _,H,I,rfl,?_⟩
   rwa [show c.toArray.any _=c.any (Am X.K H x) by simp,Ny I l r k]
  obtain⟨c,r,pl,z⟩:=I.tuple d;refine SeqAt.in_tupleAt _ pl (λw n=>aw I t f y l r k e w<|by simpa using n) ⟨.bl _,H,I,rfl,?_⟩
  rwa [show c.toArray.any _=c.any (Am X.K H x) by simp,Ny I l r k]
 refine Ł aa s σ H _ _ a b Q I f m ⟨_,_,rfl,rfl,?_⟩
 rwa [some_of]
theorem xJ(B:X.A.units+64<cLine:=by exact Cb.units<|by assumption):Yf X (compareOp .NotIn) (OG X.K true):=by
 intro aa s σ H v u a b Q I f m h;rcases h with ⟨p,o,rfl,g,q⟩|⟨x,ds,zs,p,rfl,d,t,l,C,y,k,q⟩|⟨i,j,rfl,rfl,q⟩
 .cases m;exact bE7 (by lia) I g f λs' A=>⟨.bl _,H,A,rfl,q⟩
 .cases m;have e:=by show X.A.units+1+jR ds<cLine;lia
  rcases d with d|d
  .obtain⟨c,r,pl,z⟩:=I.list d;refine SeqAt.notIn_listAt (Am X.K H x) pl.isList (λw n=>aw I t f y l r k e w<|by simpa using n) ⟨.bl _,H,I,rfl,?_⟩
   rwa [show c.toArray.any (Am X.K H x)=c.any (Am X.K H x) by simp,Ny I l r k]
  obtain⟨c,r,pl,z⟩:=I.tuple d;refine SeqAt.notIn_tupleAt _ pl (λw n=>aw I t f y l r k e w<|by simpa using n) ⟨.bl _,H,I,rfl,?_⟩
  rwa [show c.toArray.any _=c.any (Am X.K H x) by simp,Ny I l r k]
 refine Ö aa s σ H _ _ a b Q I f m ⟨_,_,rfl,rfl,?_⟩
 rwa [some_of]
def M6{K:Frag}:Zj K (OG K false) sx:=by
 intro A H x y d v u Q w f b e q;unfold sx at e;split at e
 .obtain⟨c,e⟩:=aM e;cases e;obtain⟨a,o,e1,g,k,_⟩:=SM b f.rep c;exact .inl ⟨a,o,e1,g,by rw[k];exact q _ H (aR.refl _)<|dW.mpr rfl⟩
 .obtain⟨c,e⟩:=aM e;cases e;obtain⟨p,zs,j,i,h⟩:=b.lst;exact .inr<|.inl ⟨_,_,zs,p,j,.inl i,f.rep,h.mono<|aX _ _,c.1,c.2.1,c.2.2,q _ H (aR.refl _)<|dW.mpr rfl⟩
 .obtain⟨c,e⟩:=aM e;cases e;obtain⟨p,zs,j,i,h⟩:=b.tup;exact .inr<|.inl ⟨_,_,zs,p,j,.inr i,f.rep,h.mono<|aX _ _,c.1,c.2.1,c.2.2,q _ H (aR.refl _)<|dW.mpr rfl⟩
 .cases e;exact .inr<|.inr ⟨_,_,f.str,b.str,q _ H (aR.refl _)<|dW.mpr rfl⟩
 cases e
def xK{K:Frag}:Zj K (OG K true) vU:=by
 intro A H x y d v u Q w f b e q;unfold vU at e;split at e
 .obtain⟨c,e⟩:=aM e;cases e;obtain⟨a,o,e1,g,k,_⟩:=SM b f.rep c;exact .inl ⟨a,o,e1,g,by rw[k];exact q _ H (aR.refl _)<|dW.mpr rfl⟩
 .obtain⟨c,e⟩:=aM e;cases e;obtain⟨p,zs,j,i,h⟩:=b.lst;exact .inr<|.inl ⟨_,_,zs,p,j,.inl i,f.rep,h.mono<|aX _ _,c.1,c.2.1,c.2.2,q _ H (aR.refl _)<|dW.mpr rfl⟩
 .obtain⟨c,e⟩:=aM e;cases e;obtain⟨p,zs,j,i,h⟩:=b.tup;exact .inr<|.inl ⟨_,_,zs,p,j,.inr i,f.rep,h.mono<|aX _ _,c.1,c.2.1,c.2.2,q _ H (aR.refl _)<|dW.mpr rfl⟩
 .cases e;exact .inr<|.inr ⟨_,_,f.str,b.str,q _ H (aR.refl _)<|dW.mpr rfl⟩
 cases e
end
end Pu
namespace Pu
open PySem PySem.Spec PyProof.Rows L2
section
variable{X:Cx}{B:bv}{a b e:Expr}{f g:Ex}{pos:Pos}
def Vt(i:Nat) (he:PE X e (tI X.K B f)) (C:X.N[i]?=some x:=by rfl) (y:Ik X.env.scope x:=by exact Wo rfl) (b:dg x:=by decide)
  (F:Vo x:=by decide) (E:Ak (.Name x p1) "append" X.env:=by rfl)
  (t:aq Nb [e] X.env:=by rfl)
  (G:Pn Fb Nb:=by rfl) (h:Oe e [] X.env:=by rfl)
  (I:Bk (.Call (.Attribute (.Name x p1) "append" Fb) [e] [] Nb) none pos.line X.env:=by rfl) :
  PS X (.Expr (.Call (.Attribute (.Name x p1) "append" Fb) [e] [] Nb) pos) (tS X.K B<|Bp i f):=by
 refine fC (sy (LF IP KP PySem.F.type_list_append ŉ (vQ C y b F) (cM he fJ h) E t G h rfl) I) ?_
 rintro Dn σ H ⟨A,st,r,a,z,p⟩;obtain⟨d,b,g⟩:=R.ua z;split at g
 .rename_i xs e1;obtain⟨c,D⟩:=aM g;cases D;obtain⟨l,o,vs,e2,m,j,w,q,u⟩:=a.lst i _ xs e1;subst w;refine⟨.ref l,e2,.inl ⟨rfl,vs,ue.of j⟩,A,st,d,a,b,λv H' s rv=>⟨l,vs,v,rfl,rfl,s _ _ j,by rw[(q.length)];rw[rE]at c;exact ph c (by decide),?_⟩⟩
  obtain⟨n,k⟩:=(a.mono s).write e1 e2 (k1:=.l) rfl<|(q.mono<|aR.hide s).append<|.cons rv .nil;exact p A _ _ ((Le.of s).trans k) n
 cases g
def t4(j:X.N.Nodup:=by assumption)(g:X.N[i]?=some x:=by rfl)(d:Loc X.env.scope x:=by exact bq rfl)(e:Bk (.Dict [] [] dp) (some<|.Name x pos') pos.line X.env:=by rfl)
  (h:Pm X x:=by first|exact .inl rfl|exact .inr rfl|assumption):PS X (.Assign [.Name x pos'] (.Dict [] [] dp) pos) (tS X.K B<|gw i false):=fC (Nv j g d aZq e h) (by
 rintro Dn σ H ⟨A,st,r,c,f,p⟩;cases f;exact λa b=>p _ _ _ (DF b)<|c.Yq i b (.inl ⟨rfl,[],rfl,rfl,rfl⟩) .nil)
def u4(i:Nat) (j:X.N.Nodup) (g:X.N[i]?=some x:=by rfl) (d:Loc X.env.scope x:=by exact bq rfl) (e:Bk (.Dict [] [] dp) (some<|.Name x pos') pos.line X.env:=by rfl)
  (h:Pm X x:=by first|exact .inl rfl|exact .inr rfl|assumption):PS X (.Assign [.Name x pos'] (.Dict [] [] dp) pos) (tS X.K B<|gw i true):=fC (Nv j g d aZr e h) (by
 rintro Dn σ H ⟨A,st,r,c,f,p⟩;cases f;exact λa b=>p _ _ _ (DF b)<|c.Yq i b (.inr ⟨rfl,[],rfl,rfl,rfl⟩) .nil)
def bNx:V->V->V->Hp->(Hp->Prop)->Prop:=λo i v H Q=>∃p H',o=.ref p/\tq H p i v H'/\Q H'
theorem set_dict(j:X.A.units+64<cLine):R7 X bNx:=by
 intro aa s σ H o i v e f u Q I b c a h;obtain⟨p,H',rfl,g,q⟩:=h;cases b;exact Ŏ (by lia) I g c a λs' d=>⟨H',d,q⟩
theorem Mt(T:X.A.units+64<cLine)(i:Nat) {j:Expr} (Y:PE X j (tI X.K B g)) (he:PE X e (tI X.K B f)) (hN:X.N[i]?=some x:=by rfl) (S:Ik X.env.scope x:=by exact Wo rfl) (F:dg x:=by decide)
  (Rf:Vo x:=by decide)
  (Z:∀v,assign (.Subscript (.Name x p1) j p2) X.env v=(do
   let n <- holding [v] (eval (.Name x p1) X.env)
   let E <- holding [v,n] (eval j X.env)
   standAt p2
   holding [v,n,E] (setItem n E v)
   release [v,n,E] []):=by intro _;rfl)
  (U:swapsWithSole [.Subscript (.Name x p1) j p2] e pos.line X.env=pure false:=by rfl) (Q:swappedStores [.Subscript (.Name x p1) j p2] e X.env=pure none:=by rfl)
  (I:(assignEach [.Subscript (.Name x p1) j p2] X.env).map (·.2)=[assign (.Subscript (.Name x p1) j p2) X.env]:=by rfl) :
  PS X (.Assign [.Subscript (.Name x p1) j p2] e pos) (tS X.K B<|Qd i g f):=by
 refine fC (t5 he (bIr (vQ hN S F Rf) Y (set_dict T) Z) U Q I) ?_
 rintro Dn σ H ⟨A,st,r,a,V,p⟩;obtain⟨d,F,h3⟩:=R.ua V;obtain⟨k,W,G⟩:=R.ua h3;split at G
 .rename_i t ks ds e1;obtain⟨c,h6⟩:=aM G;cases h6;obtain⟨l,o,vs,e2,m,I,P,q,u⟩:=a.lst i _ _ e1;refine⟨A,st,d,a,F,λv H' s rv=>⟨.ref l,e2,A,st,k,a.mono s,W,λw H2 s2 rk=>?_⟩⟩
  have hl:=(s.trans s2) _ _ I;have M:=q.mono<|aR.hide<|s.trans s2;have N:=rv.mono<|aR.hide s2;have O:=rk.mono<|aX _ _;have uc:ds.length<sizeLine:=by have:=c.2;rw[rE]at this;exact ph this (by decide)
  have L:=q.length;rcases P with ⟨rfl,Ca,rfl,rfl,rfl⟩|⟨rfl,Ca,rfl,rfl,rfl⟩
  .obtain⟨h,K,J⟩:=CK O c.1;subst K J;obtain⟨z,y⟩:=Y3 PM h v d N Ca ds M;refine⟨l,_,rfl,tq.k hl (by rw[Yc]at L;lia),?_⟩
   obtain⟨D,C⟩:=(a.mono<|s.trans s2).write e1 e2 (k1:=.d false _) (.inl ⟨rfl,Mg Ca h v,rfl,z,rfl⟩) y;exact p A _ _ ((Le.of<|s.trans s2).trans C) D
  obtain⟨h,b,K,J,e5⟩:=RJ O c.1;subst K J;obtain⟨z,y⟩:=Y3 C0 h v d N Ca ds M;refine⟨l,_,rfl,tq.t hl e5 (by rw[Yc]at L;lia),?_⟩
  obtain⟨D,C⟩:=(a.mono<|s.trans s2).write e1 e2 (k1:=.d true _) (.inr ⟨rfl,Mg Ca h v,rfl,z,rfl⟩) y;exact p A _ _ ((Le.of<|s.trans s2).trans C) D
 cases G
def bPq{lo:Option Expr}{l u:xt} (t:PE X a (tP X.K B f)) (r:PO X lo (tO X.K B l)) (m:PO X hi (tO X.K B u)):PE X (.Subscript a (.Slice lo hi none p2) pos) (tF X.K B<|jk f l u):=by
 refine cC (AZ J2 t r m) ?_
 rintro σ H Q ⟨A,st,d,b,s,q⟩;obtain⟨x,k,C⟩:=R.ua s;obtain⟨j,E,z⟩:=R.ua C;obtain⟨h,D,g⟩:=R.ua z;refine⟨A,st,x,b,k,λv H1 s1 r1=>⟨A,st,j,b.mono s1,E,λF s2=>⟨A,st,h,b.mono<|s1.trans s2,D,λH3 s3=>?_⟩⟩⟩
 cases x<;>first|(cases g;done)|skip
 .obtain⟨c,y⟩:=aM g;cases y
 cases g;obtain⟨p,vs,e,w,i⟩:=(r1.mono<|s2.trans s3).lst;exact⟨p,vs,e,w,λn o=>q n _ H3 (s1.trans<|s2.trans s3) o<|F0 _ _ i⟩
def iP(i:Nat) (he:PE X e (tF X.K B f)) (E:X.N[i]?=some x:=by rfl) (C:Ik X.env.scope x:=by exact Wo rfl) (g:dg x:=by decide)
  (I:Vo x:=by decide) (G:Ak (.Name x p1) "extend" X.env:=by rfl)
  (y:aq Nb [e] X.env:=by rfl)
  (J:Pn Fb Nb:=by rfl) (j:Oe e [] X.env:=by rfl)
  (K:Bk (.Call (.Attribute (.Name x p1) "extend" Fb) [e] [] Nb) none pos.line X.env:=by rfl) :
  PS X (.Expr (.Call (.Attribute (.Name x p1) "extend" Fb) [e] [] Nb) pos) (tS X.K B<|Yt i f):=by
 refine fC (sy (LF IP PySem.F.slot_list_extend PySem.F.type_list_extend Ŋ (vQ E C g I) (cM he fJ j) G y J j rfl) K) ?_
 rintro Dn σ H ⟨A,st,r,b,D,p⟩;obtain⟨d,g,k⟩:=R.ua D;cases d<;>first|(cases k)|skip
 rename_i ys;have h:(match st[i]? with|some (some<|.o .l xs)=>aP _ _|_=>.bad)=.ok r:=k
 split at h
 .rename_i xs e1;obtain⟨c,F⟩:=aM h;cases F;obtain⟨l,o,vs,e2,m,t,z,q,u⟩:=b.lst i _ xs e1;subst z;refine⟨.ref l,e2,.inl ⟨rfl,vs,ue.of t⟩,A,st,ys,b,g,λn zs H' s hn rz=>?_⟩
  have hl:=s _ _ t;refine⟨l,n,vs,zs,rfl,rfl,by rwa [aZ<|aU hl hn],bO,by rw[(q.length),(rz.length)];exact lim c,?_⟩
  have a:=s.trans<|cQ (o:=HO.lst zs) hn;obtain⟨w,v⟩:=(b.mono a).write e1 e2 (k1:=.l) rfl<|(q.mono<|aR.hide a).append<|rz.mono<|aR.hide<|cQ hn;exact p A _ _ ((Le.of a).trans v) w
 cases h
end
section
open PySem.SeqAt
open PySem.AutoSeq1 (wpAny_loadPart')
open PySem.MeetsSeq PySem.MeetsSeq2 PySem.MeetsSeq3
inductive fj (A:Around) (s:Shared):List Value->List Value->Bool->Prop where
 |nn:fj A s [] [] false
 |nc {w:Value} {ws:ca}:fj A s [] (w::ws) true
 |cn {v:Value} {vs:ca}:fj A s (v::vs) [] false
 |eq {v w:Value} {vs ws:ca} {b:Bool}:EqAt A s v w true->fj A s vs ws b->fj A s (v::vs) (w::ws) b
 |lt {v w:Value} {vs ws:ca} {b:Bool}:EqAt A s v w false->(∀(prog:Program)(wd:World)(E Q:be),Q (.bool b) s->wpAny (model prog wd) A (richCompare .Lt v w) Q E s)->fj A s (v::vs) (w::ws) b
theorem ť(l b:Addr)(a e:wE)(n B:Nat)(dd G:pc)(z F:na)(t:Bool) :
  Meets (Builtin.«tuple.__lt__» ⟨[.ref l,.ref b],[]⟩)
   (λA R s=>s.heap.get? l=some {cls:=.type "tuple",dict:=dd,data:=.seq a n,slots:=z}/\s.heap.get? b=some {cls:=.type "tuple",dict:=G,data:=.seq e B,slots:=F}/\
    fj A.in1 s a.toList e.toList t/\R (.ok<|.ret<|.bool t) s):=
 .of_wp λprog w A R s h=>by
  obtain⟨u,g,d,r,os⟩:=s;obtain⟨hl,E,i,h⟩:=h;have H:=AutoSeq1.sub_tuple_tuple
  wp_walk using wpAny_loadPart' hl,wpAny_loadPart' E,wpAny_forIn_list _ (λrest b s'=>b.1=none/\s'=⟨u,g,d,r,os⟩/\∃(vs ws:ca),rest=vs.zip ws/\
   fj A.in1 ⟨u,g,d,r,os⟩ vs ws t/\vs.length+e.size=ws.length+a.size) _
  case turn=>
   rintro⟨y,x⟩ rest b s' ⟨p,rfl,vs,ws,c,k,f⟩;cases k with
   |nn=>cases c
   |nc=>cases c
   |cn=>cases c
   |eq o D=>
    injection c with q v
    injection q with j i
    subst j i;simp at f;refine xa<|o prog w _ _ ?_
    wp_walk
    exact⟨rfl,rfl,_,_,v,D,by lia⟩
   |lt o m=>
    injection c with q v
    injection q with j i
    subst j i;refine xa<|o prog w _ _ ?_
    wp_walk using (m prog w)
    exact⟨_,rfl,by simpa using h⟩
  case fin=>
   rintro⟨J,I⟩ s' ⟨p,rfl,vs,ws,c,k,f⟩;simp at p;subst p;have C:t=decide (a.size<e.size):=by
    cases k with
    |nn=>
     simp at f;exact(bf<|by lia).symm
    |nc=>
     simp at f;exact(fh<|by lia).symm
    |cn=>
     simp at f;exact(bf<|by lia).symm
    |eq _ _=>cases c
    |lt _ _=>cases c
   rw[C]at h
   wp_walk
   exact⟨_,rfl,by simpa [Builtin.Tuple.tupleCompareSizes] using h⟩
  case h=>
   exact⟨rfl,rfl,a.toList,e.toList,rfl,i,by simp;lia⟩
end
section
theorem B4{aa:ce}{w:Mi}{H:Hp}{s:Shared}(I:Ea X aa w H s){A:Around}:∀(xs ys:db){vs p:lw}{q bs:ca}{t:Bool},bC X.K H xs vs->bC X.K H ys p->Ka vs q->Ka p bs->A.units+jR xs<cLine->dR xs=true->dR ys=true->Ym xs ys=.ok t->fj A s q bs t
 |[],[],_,_,_,_,_,d,c,b,a,_,_,_,h=>by
  have e:=cZ.mp d;subst e;have e:=cZ.mp c;subst e;cases b;cases a;cases h;exact .nn
 |[],_::_,_,_,_,_,_,d,c,b,a,_,_,_,h=>by
  have e:=cZ.mp d;subst e;obtain⟨_,_,rfl,_⟩:=bM.mp c;cases b;cases a;cases h;exact .nc
 |_::_,[],_,_,_,_,_,d,c,b,a,_,_,_,h=>by
  have e:=cZ.mp c;subst e;obtain⟨_,_,rfl,_⟩:=bM.mp d;cases b;cases a;cases h;exact .cn
 |x::xs,y::ys,_,_,_,_,t,d,c,b,a,G,n,m,h=>by
  obtain⟨v,r,rfl,l,F⟩:=bM.mp d;obtain⟨u,J,rfl,k,D⟩:=bM.mp c;rw[PX]at G;simp at n m;cases b with
  |cons b j=>
   cases a with
   |cons a i=>
    have g:=L0 I x y A v u _ _ l k b a (by lia) n.1 m.1
    unfold Ym at h
    by_cases f:ae x y=true
    .rw[Kb f]at h;rw[f]at g;exact .eq g<|B4 I xs ys F D j i (by lia) n.2 m.2 h
    rw[Pa f]at h;rw[Bool.not_eq_true]at f;rw[f]at g;refine .lt g ?_
    cases x<;>cases y<;>first|(cases h;done)|skip
    .cases h;have e:=bK.mp l;subst e;have e:=bK.mp k;subst e;obtain⟨C,rfl⟩:=b;obtain⟨B,rfl⟩:=a;exact λprog z E Q o=>(PyProof.Rows.lt_int o)
    cases h;have e:=eF.mp l;subst e;have e:=eF.mp k;subst e;obtain⟨C,rfl⟩:=b;obtain⟨B,rfl⟩:=a;exact λprog z E Q o=>(PyProof.Rows.lt_str o)
end
structure ClsAt(K:Frag)(c:String)(C:Addr):Prop where
 ns:nsIn K mainGlobals (ofString c)=some (some<|.ref C)
 cl:Wm K C
def yJ{a b:String}(h:ofString a=ofString b):a=b:=by
 have c:(ofString a).cps=(ofString b).cps:=by rw[h]
 rw[Str.ofString_eq_toList,Str.ofString_eq_toList]at c;have inj:∀(x y:List Char),x.map Char.toNat=y.map Char.toNat->x=y:=by
  intro x
  induction x with
  |nil=>intro y h;cases y with|nil=>rfl|cons _ _=>simp at h
  |cons a x d=>
   intro y h;cases y with
   |nil=>simp at h
   |cons b y=>
    injection h with f e
    rw[d y e];congr 1;exact Char.ext<|UInt32.toNat_inj.mp f
 exact String.toList_inj.mp<|inj _ _ (by
  simpa using (congrArg Array.toList c))
section
variable{K:Frag}
theorem BX{f:String}:∀{a:re}{b:db} {fs:zn} {d:D},fs.map (·.1)=a.map ofString->bC K H b (fs.map (·.2))->(a.zip b).lookup f=some d->∃v,fs.lookup (ofString f)=some v/\Ib K H d v
 |[],b,fs,d,_,_,h=>by simp at h
 |n::a,[],fs,d,_,_,h=>by simp at h
 |n::a,o::b,[],d,e,_,h=>by simp at e
 |n::a,o::b,(g,w)::fs,d,e,r,h=>by
  injection e with e1 e2
  obtain⟨v,p,m,j,i⟩:=bM.mp r;injection m with l k
  subst l k;subst e1;rw[wu,ck]at h;rw[ck]
  by_cases c:f=n
  .subst c;simp only[beq_self_eq_true]at h ⊢;cases h;exact⟨_,rfl,j⟩
  rw[(ju.mpr c)]at h;rw[(ju.mpr λz=>c<|yJ z)]
  exact BX e2 i h
theorem lookup_none{f:String}:∀{a:re} {fs:zn},fs.map (·.1)=a.map ofString->f∉a->fs.lookup (ofString f)=none
 |[],fs,e,_=>by cases fs with|nil=>rfl|cons _ _=>simp at e
 |n::a,[],e,_=>rfl
 |n::a,(g,w)::fs,e,h=>by
  injection e with e1 e2
  subst e1;rw[ck,(ju.mpr λz=>h<|by rw[yJ z];exact Zb)]
  exact lookup_none e2 λz=>h<|Lc _ z
theorem UL{f:String}{v:V}:∀{a:re} {fs:zn},fs.map (·.1)=a.map ofString->f∉a->zT (ofString f) v fs=fs++[(ofString f,v)]
 |[],fs,e,_=>by cases fs with|nil=>rfl|cons _ _=>simp at e
 |n::a,[],e,_=>by simp at e
 |n::a,(g,w)::fs,e,h=>by
  injection e with e1 e2
  subst e1;unfold zT;rw[Pa<|λz=>h<|by rw[yJ z];exact Zb,UL e2 λz=>h<|Lc _ z]
  rfl
end
section
variable{X:Cx}{B:bv}{a b e o:Expr}{f g:Ex}{pos:Pos}
theorem kY.ins{K:Frag}{A:bv}{H:Hp}{c:String}{f:re}{g:db}{v:V}(h:kY K A H (.ins c f g) v):∃p C a fs,v=.ref p/\H p=some (.ins C a fs)/\nsIn K mainGlobals (ofString c)=some (some<|.ref C)/\fs.map (·.1)=f.map ofString/\bC K (hide A H) g (fs.map (·.2)):=by
 rcases h with h|⟨p,l,o,m,vs,e,e2,h,k,r⟩
 .obtain⟨p,C,a,fs,vs,e,j,d,b,i,r⟩:=ME.mp h;subst i;exact⟨p,C,a,fs,e,aX _ _ _ _ j,d,b,r⟩
 cases l<;>cases e;obtain⟨_,C,a,fs,rfl,d,b,rfl⟩:=k;exact⟨p,C,a,fs,e2,h,d,b,r⟩
def cT(a:ClsAt X.K c C)(j:bV X.K C (ofString f'))(i:PE X o (tP X.K B f))(l:Ak o (ofString f') X.env:=by rfl) :
  PE X (.Attribute o (ofString f') pos) (tI X.K B<|e1 (cN c f') f):=by
 refine cC (bJ5 i l) ?_
 rintro σ H Q ⟨A,st,d,g,k,q⟩;obtain⟨x,h,b⟩:=R.ua k;refine⟨A,st,x,g,h,λv H1 s1 r1=>?_⟩
 cases x<;>first|(cases b)|skip
 obtain⟨e1,y⟩:=aM b;subst e1;obtain⟨p,e,D,fs,e2,u,t,s,r⟩:=r1.ins;have:e=C:=by have z:=t.symm.trans a.ns;injection z with z;injection z with z;injection z
 subst this;obtain⟨w,n,m⟩:=BX s r<|Yv y;exact⟨p,e,D,fs,w,e2,u,a.cl,j,n,q w H1 s1 m⟩
structure ye(P:Program)(w:World)(K:Frag)(mg:dL)(base:Heap)(c m:String)(k np:Nat)(dv:db)(p:cr):Prop where
 ex:∃(C fa:Addr)(fd:FuncData)(ps:ut)(Ld:lw)(ds:ca),ClsAt K c C/\Meth K C (ofString m) fa/\Ha P w K mg base wc k fa fd ps (Xc K np p)/\Binds K fd ps ds/\Ka Ld ds/\∀H,bC K H dv Ld
 len:∀ds d,p ds=.ok d->ds.length=np
def Oy{k:Nat} (h:ye X.prog X.w X.K X.mg X.base c m k np dv p) (J:PE X o (tI X.K B f)) (O:PA X (e::es) (tA X.K B r)) (I:Cb j X.A:=by assumption) (M:k<=j:=by decide)
  (Y:Oe e es X.env:=by rfl) (hpl:lh pos es X.env:=by rfl)
  (G:eval (.Call (.Attribute o (ofString m) Fb) (e::es) [] pos) X.env=(do
   let g <- eval o X.env
   standAt Fb.atName
   let (f,first) <- holding [g] (getMethod g (ofString m) pl)
   callWith pos f first (backTo pos<|starEach (e::es) X.env) (backToKw pos<|keywordEach [] X.env)):=by rfl) :
  PE X (.Call (.Attribute o (ofString m) Fb) (e::es) [] pos) (tI X.K B<|rT c m p dv f r):=by
 obtain⟨C,fa,fd,ps,Ld,ds,i,L,F,bd,s,t⟩:=h.ex;refine cC (mM J i.cl L F (I.mono M) bd s zr O Y hpl G) ?_
 rintro σ H Q ⟨A,st,d,b,N,q⟩;obtain⟨x,E,U⟩:=R.ua N;obtain⟨xs,W,n⟩:=R.ua U;refine⟨A,st,x,b,E,λv H1 s1 r1=>?_⟩
 cases x<;>first|(cases n)|skip
 obtain⟨⟨e1,K⟩,l⟩:=aM n;subst e1;obtain⟨D,Z,V,fs,e2,T,S,P,h8⟩:=kY.ins<|.inl r1;have:Z=C:=by have z:=S.symm.trans i.ns;injection z with z;injection z with z;injection z
 subst this;exact⟨D,V,fs,e2,T,lookup_none P K,A,st,xs,b.mono s1,W,λvs H2 a u=>⟨A++B,_,d,b.own.mono<|s1.trans a,.cons (r1.mono<|aR.hide a)<|u.append<|t _,h.len _ _ l,l,λw H' s' y=>q w H' (s1.trans<|a.trans s') y⟩⟩
def bG6{k:Nat} (h:ye X.prog X.w X.K X.mg X.base c m k np dv p) (y:Cb j X.A) (I:k<=j) (D:PE X o (tI X.K B f))
  (u:eval (.Call (.Attribute o (ofString m) Fb) [] [] pos) X.env=(do
   let b <- eval o X.env
   standAt Fb.atName
   let (f,first) <- holding [b] (getMethod b (ofString m) pl)
   callWith pos f first (backTo pos<|starEach [] X.env) (backToKw pos<|keywordEach [] X.env)):=by rfl) :
  PE X (.Call (.Attribute o (ofString m) Fb) [] [] pos) (tI X.K B<|rT c m p dv f aK):=by
 obtain⟨C,fa,fd,ps,Ld,ds,e,G,F,bd,l,n⟩:=h.ex;refine cC (aZi D e.cl G F (y.mono I) bd l zr u) ?_
 rintro σ H Q ⟨A,st,d,a,J,q⟩;obtain⟨x,t,N⟩:=R.ua J;obtain⟨xs,P,i⟩:=R.ua N;cases P;refine⟨A,st,x,a,t,λv H1 s1 r1=>?_⟩
 cases x<;>first|(cases i)|skip
 obtain⟨⟨e1,E⟩,g⟩:=aM i;subst e1;obtain⟨s,S,O,fs,e2,M,L,K,T⟩:=kY.ins<|.inl r1;have:S=C:=by have z:=L.symm.trans e.ns;injection z with z;injection z with z;injection z
 subst this;exact⟨s,O,fs,e2,M,lookup_none K E,(⟨A++B,_,d,a.own.mono s1,.cons r1<|n _,h.len _ _ g,g,λw H' s' r=>q w H' (s1.trans s') r⟩)⟩
def FC(K:Frag)(c:String)(a:Nat)(p:cr):Sp:=λvs H Q _=>∃x ws A C b ds d,vs=.ref x::ws/\H x=some (.ins C b [])/\nsIn K mainGlobals (ofString c)=some (some<|.ref C)/\Own A H/\x∉A/\bC K (hide (x::A) H) ds ws/\ds.length=a/\p ds=.ok d/\
 ∀H',aR (hide [x] H) H'->Ib K (hide A H') d (.ref x)->Q .xc H'
structure nh(P:Program)(w:World)(K:Frag)(mg:dL)(base:Heap)(c:String)(k np:Nat)(p:cr):Prop where
 ex:∃(C fa:Addr)(fd:FuncData)(ps:ut),ClsAt K c C/\Mk K C fa/\Ha P w K mg base wc k fa fd ps (FC K c np p)/\Binds K fd ps []/\mg (ofString c)=some (.ref C)
 len:∀ds d,p ds=.ok d->ds.length=np
def FF{k:Nat} (h:nh X.prog X.w X.K X.mg X.base c k np p) (t:Cb j X.A) (w:k+1<=j) (I:PA X (e::es) (tA X.K B r)) (D:Gl X (ofString c):=by rfl) (o:dg (ofString c):=by decide)
  (he:Oe e es X.env:=by rfl) (hpl:lh pos es X.env:=by rfl):PE X (.Call (.Name (ofString c) p0) (e::es) [] pos) (tI X.K B<|aV p r):=by
 obtain⟨C,fa,fd,ps,G,M,F,bd,v⟩:=h.ex;refine cC (G2 M F (t.mono w) D v bd .nil zr I o he hpl) ?_
 rintro σ H Q ⟨A,st,d,i,E,q⟩;obtain⟨xs,s,l⟩:=R.ua E;refine⟨A,st,xs,i,s,λvs H1 s1 r1 x dx Zl Qu J=>?_⟩
 have g:=i.own.mono s1;have f:∀b u,H1 b=some u->Tb (Tb H1 dx<|.own x) x (.ins C dx []) b=some u:=λb u z=>by
  rwa [aZ<|aU z Zl,aZ<|aU z Qu]
 refine⟨x,vs++[],A++B,C,dx,xs,d,rfl,bO,G.ns,λb hb=>?_,(g.free Zl),?_,h.len _ _ l,l,λH' sm m=>⟨rfl,q _ H' (λb u z=>?_) m⟩⟩
 .obtain⟨u,z,n⟩:=uw (g b hb)
  rwa [f b u z]
 .rw[so];refine r1.mono λb u z=>?_
  have a:=aX _ _ _ _ z;rw[bQ<|λy=>(qc.mp y).elim (aU a Zl)<|λy=>by rw[iT y]at z;cases z]
  exact f b u a
 have a:=s1 _ _ z;exact sm b u (by rw[bQ (by simpa using aU a Zl)];exact f b u a)
def MY{K:Frag} {a:lw}{x:Addr} (w:Own A H) (t:x∉A) (h:H x=some (.ins C dx [])) (o:nsIn K mainGlobals (ofString c)=some (some<|.ref C)) (r:bC K (hide (x::A) H) ds a) :
  RS K A [x] H (some (Sl.o (.i x c []) [])::(ds.map (λd=>some<|Sl.v d)++List.replicate (N.length-ds.length-1) none)) (L2.start N<|.ref x::a):=by
 have hl:=r.length;have m:L2.start N (.ref x::a)=some (.ref x)::(a.map some++List.replicate (N.length-ds.length-1) none):=by
  unfold L2.start;rw[fg,hl];congr 2
 rw[m];have g:∀(i:Nat)(s:Sl),(ds.map (λd=>some _)++List.replicate (N.length-ds.length-1) none)[i]?=some (some s)->∃d,ds[i]?=some d/\s=.v d:=λi s e=>by
  by_cases f:i<ds.length
  .rw[zq (by simpa using f),List.getElem?_map,List.getElem?_eq_getElem f]at e
   simp at e;exact⟨ds[i],Be f,e.symm⟩
  rw[GP (by simpa using f),List.getElem?_replicate]at e
  split at e<;>simp at e
 refine⟨by simp[hl],λb hb=>?_,λb hb=>by rwa [Ce.mp hb],λi d e=>?_,λi k xs e=>?_⟩
 .rcases Wh.mp hb with hb|hb
  .rw[Ce.mp hb,h];rfl
  exact w b hb
 .cases i with
  |zero=>simp at e
  |succ i=>
   obtain⟨q,e1,e2⟩:=g i _ e;cases e2;obtain⟨v,l,n⟩:=r.get e1;refine⟨v,?_,n⟩;rw[BQ,zq (by simpa using ((List.getElem?_eq_some_iff.mp l).1)),List.getElem?_map,l]
   rfl
 cases i with
 |zero=>
  simp at e;obtain⟨rfl,rfl⟩:=e;refine⟨x,_,[],rfl,Ce.mpr rfl,h,⟨rfl,C,dx,[],rfl,o,rfl,rfl⟩,.nil,λj p ys ej _=>?_⟩
  cases j with
  |zero=>rfl
  |succ j=>
   obtain⟨_,_,e2⟩:=g j _ ej;cases e2
 |succ i=>
  obtain⟨_,_,e2⟩:=g i _ e;cases e2
def bG7{w:World}{K:Frag} {st:Stmt} {f:Addr} {k:Nat} (F:zt K x qual st f fd) (S:Dd N ps (bD st)) (c:String) (p n:Nat) (u:Bd) (Y:ps.length=p+1) (T:N.length=n)
  (t:∀(j:Value)(A:Around)(e:xz)(s:Shared)(H:Hp)(E:XK)(B:bv),Cb k (A.deeper<|envOfC qual (bD st) s.heap.objs.size f j)->
   Ae (Kk wc P w K mg base N qual (bD st) f j A e s H E).Ve (dI st) (tS K B u)):Ha P w K mg base wc (k+1) f fd ps (FC K c p<|uq c p n u):=by
 refine F.ok S (λvs H Q E h=>?_)<|λj A e s H vs Q E M h=>?_
 .obtain⟨y,ws,A,C,X,ds,d,rfl,_,_,_,_,r,hl,_⟩:=h;rw[fg,r.length,hl,Y]
 obtain⟨y,ws,G,C,X,ds,d,rfl,L,Z,own,CS,r,hl,O,q⟩:=h;refine⟨tS K G u,t j A e s H E G M,?_⟩;obtain⟨_,V⟩:=aM<|K2 O y;obtain⟨fl,Cg,i⟩:=R.ua V;have z:=MY (N:=N) own CS L Z r;rw[hl,T]at z;refine⟨[y],_,fl,z,Cg,?_⟩;cases fl with
 |nx s1=>
  intro A1 vt H1 l g;have v:(match (s1[0]?) with|some (some<|.o (.i I c' ns) xs)=>aP _ _|_=>.bad)=.ok d:=i
  split at v
  .rename_i I c' ns xs e1;obtain⟨rfl,U⟩:=aM v;cases U;obtain⟨a,o,vs,e2,m,h5,D,J,_⟩:=g.lst 0 _ _ e1;have W:=D.1;subst W;exact q H1 (aR.trans (l)<|aX _ _)<|D.rep (by rwa [bQ<|g.Aj a m])<|J.mono<|jC λb t=>oh _ t
  cases v
 |rt d'=>cases i
 |bk s1=>cases i
 |ct s1=>cases i
def bCs(a:db)(d:D)(h:uq c np n bd a=.ok d):a.length=np:=(aM<|K2 h 0).1
theorem Py(i:Nat) (s:ClsAt X.K c C) (G:bV X.K C (ofString f')) (he:PE X value (tI X.K B f)) (J:X.N[i]?=some x:=by rfl) (D:Ik X.env.scope x:=by exact Wo rfl) (g:dg x:=by decide)
  (O:Vo x:=by decide) (E:Bk value (some<|.Attribute (.Name x p1) (ofString f') p2) pos.line X.env:=by rfl) :
  PS X (.Assign [.Attribute (.Name x p1) (ofString f') p2] value pos) (tS X.K B<|gQ i c f' f):=by
 refine fC (v5 (vQ J D g O) he E) ?_
 rintro Dn σ H ⟨A,st,r,b,F,p⟩;obtain⟨d,g,h⟩:=R.ua F;split at h
 .rename_i n c' ns xs e1;obtain⟨⟨N,I,P⟩,K⟩:=aM h;subst N;cases K;obtain⟨l,o,vs,e2,m,L,w,q,u⟩:=b.lst i _ _ e1;obtain⟨M,a,j,fs,rfl,k,e,rfl⟩:=w;have:a=C:=by have z:=k.symm.trans s.ns;injection z with z;injection z with z;injection z
  subst this;refine⟨A,st,d,b,g,λy H1 s1 r1=>⟨.ref l,e2,l,a,j,fs,rfl,s1 _ _ L,s.cl,G,?_,?_⟩⟩
  .have:=congrArg List.length e;rw[Yc,Yc]at this;lia
  rw[UL e I];obtain⟨v,t⟩:=(b.mono s1).write e1 e2 (k1:=.i n c'<|ns++[f']) (o':=.ins a j<|fs++[(ofString f',y)]) ⟨M,a,j,_,rfl,k,by rw[qh,qh,e];rfl,by rw[qh];rfl⟩<|(q.mono<|aR.hide s1).append<|.cons r1 .nil
  exact p A _ _ ((Le.of s1).trans t) v
 cases h
def bG8:PS X sm (tS X.K B F5):=λ_ _ _ _ _ _ ⟨_,_,_,_,h,_⟩=>nomatch h
end
section
variable {iter c:Expr} {t:Tg} {u:Ex}
def Ŧ{f:Shared}{l:bv}{p:Addr}{j:dL} (D:X.N.Nodup) (t:X.N[i]?=some x) (n:Loc X.env.scope x)
  (u:Pm X x) (g:f.heap.objs.size<=C) (d:Ea X aa σ H3 f) (F:∀b∈l,Jk X aa H3 b) (m:Ea (fP X scope C f H3 l) [] τ H5 s5) (G:s5.heap.Ns C j)
  (B:∀h,Ea X aa (σ.set i<|some<|.ref p) H5 h->Qf .none h):compPost (model X.prog X.w) X.A X.xe (some<|assign (.Name x px) X.env) Qf (.ref p) C (.ok .next) s5:=by
 have lt:∀b o,f.heap.get? b=some o->C≠b:=λb o e z=>Oi _<|ph (Tc<|z ▸ e) g
 have E:C≠X.env.locals:=λz=>Oi _<|ph (z ▸ d.lt) g
 have k:∀y c,X.env.cells.lookup y=some c->c≠C:=λy c e=>by
  obtain⟨v,o,s,_⟩:=d.cell y c e;exact(lt c o s).symm
 exact wpAny_assign_Name<|HX (v:=.ref p) (Cy d F g m<|.refl ..) D t n rfl (λJ H ⟨a,hs,A⟩=>⟨j,G.sameBut hs (by
  rcases A with z|z
  .rwa [z]
  exact(k x a z).symm),λh' I=>B _<|H.turned (λb o w e=>(I.2 b w).trans e) ((m.free)) E (.inr<|Nh d.sz g) k<|λq r=>(lt q.1 q.2 (d.pin q r).1).symm⟩) u
def bw{x:Str}{l:Pos}{is:ac}(K:L2.PI X tg iter (Um X.K B it))(L:∀(B:bv)(C:Addr)(c:Shared)(b:Hp)(a:bv),PG (fP X scope C c b a) tg<|tG X.K B t)
  (he:∀(B:bv)(C:Addr)(c:Shared)(b:Hp)(a:bv),PE (fP X scope C c b a) elt<|tI X.K B f) (P:X.calm=true:=by rfl) (hsub:Tt is t:=by exact XF) (S:qd X scope is:=by exact .of rfl) (T:X.N.Nodup:=by assumption) (w:X.N[i]?=some x:=by rfl) (z:Loc X.env.scope x:=by exact bq rfl)
  (AB:swapsWith (.ListComp elt [⟨tg,iter,[],0⟩] scope pos) (some<|.Name x px) l.line X.env=pure true:=by rfl)
  (M:Pm X x:=by first|exact .inl rfl|exact .inr rfl|assumption) (E:∀x,foldedSetIterable iter X.env x=pure x:=by intro _;rfl) :
  PS X (.Assign [.Name x px] (.ListComp elt [⟨tg,iter,[],0⟩] scope pos) l) (tS X.K B<|cV i<|bU is t it cA f):=by
 intro aa s σ H Dn I h;obtain⟨A,st,r,g,F,q⟩:=h;obtain⟨d,O,j⟩:=R.ua F;cases j;obtain⟨xs,EB,W⟩:=R.ua O;obtain⟨hl,j⟩:=aM W;obtain⟨ys,y,V⟩:=R.ua j;cases V;rw[exec_Assign_Name_used _ _ _ _ AB];refine xa<|Zw<|xa<|xa<|dk (xH (rest:=λenv it p=>eval elt env >>= λx=>call _ [p,x] >>= λ_=>again<|.compLoop _ 0 it p env) S P K (λC c b a=>LG λB=>L B C c b a) (λ_ _ _=>uI)
  (λC c b a it p s Q h=>CP h) (λC c b a it p τ H s aa vs N Q I h q=>eP rfl (KG λB=>he B C c b a) τ H s aa vs N Q I h (λQ Z m h=>XD Q Z m h) q) E I
  (YF hsub (λτ H Q ⟨B,A,st,k,g,hk,q⟩=>?_) g EB hl y λp vs H1 H' s1 J n D r=>AO g (λv H' sm o=>q A _ H' (Le.of sm)<|(g.mono sm).set i o) s1 J n D r) λC p H5 s5 m5 s3 H3 a τ U I3 Y I5 Lm u=>Ŧ T w z M U I3 Y I5 Lm λs' I'=>⟨_,_,I',u⟩) (λ_ s' G=>Ua<|Ua G) λ_ _ e=>e
 cases hk;exact q H<|aR.refl _
end
structure Qa(K:Frag)(x qual:Str)(st:Stmt)(dV:Value)(f:Addr)(fd:FuncData):Prop where
 ex:∃(oc:Value)(od:pc)(kV doc pm:Value)(an:pc)(bc ct:Value) (Zi:na),
  fd=fnOf x qual (fD st) (dI st) (bD st) dV kV doc pm an bc ct/\K.lookup f=some ⟨oc,od,.func fd,Zi⟩/\codeIn K bc qual=true
 kp:keepIn K (.ref f)=true
section
variable{w:World}{K:Frag} {st:Stmt} {f:Addr} {k:Nat}
def sV{a:pc}{kV:Value} (l:K.lookup f=some ⟨oc,a,.func<|fnOf x qual (fD st) (dI st) (bD st) dV kV doc pm an bc ct,Zi⟩)
  (c:codeIn K bc qual=true) (k:keepIn K (.ref f)=true):Qa K x qual st dV f (fnOf x qual (fD st) (dI st) (bD st) dV kV doc pm an bc ct):=⟨⟨oc,a,kV,doc,pm,an,bc,ct,Zi,rfl,l,c⟩,k⟩
def Qa.Gg(F:Qa K x qual st .none f fd)
  (h:∀(kV a c:Value)(g:pc)(e d:Value)(b:ca),b.length=ps.length->bindArgs (fnOf x qual (fD st) (dI st) (bD st) .none kV a c g e d) ⟨b,[]⟩=pure (ps.zip b)):Binds K fd ps []:=by
 obtain⟨oc,i,kV,a,c,g,e,d,Zi,rfl,lk,j⟩:=F.ex;exact .all<|h kV a c g e d
theorem Qa.binds{T:Addr}{o:Obj} {m:Nat} {d:ca} (F:Qa K x qual st (.ref T) f fd) (l:K.lookup T=some o) (j:o.data=.seq items n) (u:m+d.length=ps.length)
  (h:∀(kV a c:Value)(i:pc)(g e:Value)(b:ca),b.length=m->∃k:Option (Array Value)->Sem (List<|Str×Value),bindArgs (fnOf x qual (fD st) (dI st) (bD st) (.ref T) kV a c i g e) ⟨b,[]⟩=seqItems? (.ref T) >>= k/\k (some items)=pure (ps.zip<|b++d)):Binds K fd ps d:=by
 obtain⟨oc,t,kV,a,c,i,g,e,Zi,rfl,lk,v⟩:=F.ex;intro s b r hl;obtain⟨k,q,p⟩:=h kV a c i g e b (by rw[Pg]at hl;lia)
 exact .of_defaults rfl (r _ _ l) j q p
def Qa.Nn(F:Qa K x qual st dV f fd)(S:Dd N ps (bD st))(len:∀vs H Q E,sp vs H Q E->vs.length=ps.length)
  (i:∀(b:Value)(A:Around)(a:xz)(s:Shared)(H:Hp)(vs:lw)(Q:VK)(E:XK),Cb k (A.deeper<|envOfC qual (bD st) s.heap.objs.size f b)->sp vs H Q E->
   ∃t,Ae (Kk wc P w K mg base N qual (bD st) f b A a s H E).Ve (dI st) t/\t {nx:=λ_ j=>Q .xc j,rt:=Q} (L2.start N vs) H):Ha P w K mg base wc (k+1) f fd ps sp:=by
 obtain⟨oc,m,kV,e,l,o,b,n,Zi,rfl,lk,g⟩:=F.ex;refine JF lk g S len λA a s H vs Q E d c=>?_
 obtain⟨t,h,q⟩:=i b A a s H vs Q E d c;exact⟨t,h.Ve,q⟩
def bNy(F:Qa K x qual st dV f fd)(S:Dd N ps (bD st))(j n:Nat)(m:Bd)(I:ps.length=j)(z:N.length=n)
  (C:∀(g:Value)(A:Around)(b:xz)(s:Shared)(H:Hp)(E:XK)(B:bv),Cb k (A.deeper<|envOfC qual (bD st) s.heap.objs.size f g)->
   Ae (Kk wc P w K mg base N qual (bD st) f g A b s H E).Ve (dI st) (tS K B m)):Ha P w K mg base wc (k+1) f fd ps (Xc K j<|dD j n m):=by
 refine F.Nn S (λvs H Q E h=>?_)<|λg A b s H vs Q E u h=>?_
 .obtain⟨A,ds,d,own,r,hl,_⟩:=h;rw[r.length,hl,I]
 obtain⟨B,ds,d,own,r,hl,y,q⟩:=h;refine⟨tS K B m,C g A b s H E B u,?_⟩;obtain⟨_,G⟩:=aM y;obtain⟨fl,J,e⟩:=R.ua G;have o:=QL (N:=N) own r;rw[hl,z]at o;refine⟨[],_,fl,o,J,?_⟩;have c:∀{i:bv}{H':Hp},Le [] H i H'->aR H H':=λ{i H'} l=>by
  unfold Le at l;exact l.trans<|aX _ _
 cases fl with
 |nx s1=>
  cases e;exact λi L H' l t=>q _ H' (c l)<|sU.mpr rfl
 |rt M=>
  cases e;exact λi v H' l p=>q v H' (c l)<|p.mono<|jC λa D=>oh _ D
 |bk s1=>exact nomatch e
 |ct s1=>exact nomatch e
def ye.of{a:ca} (e:ClsAt K c C) (d:Meth K C (ofString m) f) (F:Ha P w K mg base wc k f fd ps (Xc K np<|dD np n bd)) (b:Binds K fd ps a) (v:Ka Ld a) (r:∀H,bC K H dv Ld):ye P w K mg base c m k np dv (dD np n bd):=
 ⟨⟨C,f,fd,ps,Ld,a,e,d,F,b,v,r⟩,my⟩
end
end Pu
namespace Pu
open PySem PySem.Spec PyProof.Rows L2 PySem.SeqAt
section
variable {a b:Expr}
def EK:lY X (.type "list") (λvs H Q=>∃l xs,vs=[.ref l]/\(ue X.K H l xs\/eh X.K H l xs)/\∀n,H n=none->Q (.ref n) (Tb H n<|.lst xs)):=by
 intro aa s σ H vs us Q I r h;obtain⟨l,xs,rfl,hl,q⟩:=h;obtain⟨u,rfl,i⟩:=r.one;obtain rfl:u=Value.ref l:=i;rcases hl with hl|hl
 .obtain⟨a,c,⟨ob,n,e,g,_,f⟩,b⟩:=I.list hl;exact call_list_seq l (.inl rfl) e g f (λh' c' k d=>⟨.ref s.heap.objs.size,_,I.laid (o:=.lst xs) k (Ec _) ⟨b,a,c',c,d⟩,rfl,q _<|I.Xa.fresh<|Ec _⟩) (by rw[c.length]at b;simpa using b)
 obtain⟨a,c,⟨ob,e,g,n,f⟩,b⟩:=I.tuple hl;exact call_list_seq l (.inr rfl) e g f (λh' c' k d=>⟨.ref s.heap.objs.size,_,I.laid (o:=.lst xs) k (Ec _) ⟨b,a,c',c,d⟩,rfl,q _<|I.Xa.fresh<|Ec _⟩) (by rw[c.length]at b;simpa using b)
def GF(m:X.mg "list"=none)(r:PE X a (tP X.K B f))(o:Gl X "list":=by rfl)(j:Oe a [] X.env:=by rfl):PE X (.Call (.Name "list" p0) [a] [] pos) (tI X.K B<|e1 Qt f):=by
 refine cC (nM EK o m rfl (cM r fJ j) (he:=j)) ?_
 rintro σ H Q ⟨A,st,d,c,p,q⟩;obtain⟨x,k,i⟩:=R.ua p;refine⟨A,st,x,c,k,λv H1 s1 r1=>?_⟩
 cases x<;>first|(cases i;done)|skip
 .cases i;obtain⟨l,vs,e,h,g⟩:=r1.tup;exact⟨l,vs,by rw[e],.inr h,λn b=>q _ _ (s1.trans<|cQ b)<|iH (c.own.mono s1) b g⟩
 cases i;obtain⟨l,vs,e,h,g⟩:=r1.lst;exact⟨l,vs,by rw[e],.inl h,λn b=>q _ _ (s1.trans<|cQ b)<|iH (c.own.mono s1) b g⟩
theorem C4:∀{l:sK}{a:ca},Ka (l.map V.bl) a->a=l.map Value.bool
 |[],_,.nil=>rfl
 |b::l,_,.cons r t=>by
  rw[C4 t];cases r;rfl
def ŧ(C:X.calm=true):lY X (.builtin "all") (λvs H Q=>∃(l:Addr)(bs:sK),vs=[.ref l]/\ue X.K H l (bs.map V.bl)/\Q (.bl<|bs.all id) H):=by
 intro aa s σ H vs us Q I r h;obtain⟨l,bs,rfl,hl,q⟩:=h;obtain⟨u,rfl,w⟩:=r.one;obtain rfl:u=Value.ref l:=w;obtain⟨a,t,⟨ob,n,e,E,_,B⟩,G⟩:=I.list hl;have j:=C4 t;have o:s.heap.IsList l a.toArray:=⟨ob,e,E,n,B⟩;refine call_all_walk<|Gz o ⟨s.heap.objs.size,_,_,_,_,_,λi=>bs[i]?.getD false,rfl,Tz (A:=X.A.in1) (I.ok.hd C) _ l (ff<|Tc e) a.toArray,⟨⟨_,Af _ rfl,rfl,rfl⟩,o.push _⟩,?_,λh' F k=>?_⟩
 .intro i v s' D J d A;rw[j]at d;simp only[getElem?_toArray,List.getElem?_map,Option.map_eq_some_iff]at d;obtain⟨b,f,rfl⟩:=d;have m:D (bs[i]?.getD false) s':=A;rw[f]at m;exact Ua m
 refine⟨.bl _,H,I.kept<|λb u z=>k b u (λf=>?_)<|vc _ z,?_,q⟩
 .exact Oi _ ((Ce.mp f) ▸ Tc z)
 congr 1;rw[su,Hz,Hz];have p:a.toArray.size=bs.length:=by rw[j];simp
 rw[p];constructor
 .intro h x y;obtain⟨i,c,rfl⟩:=DH.mp y;have:=h i (Jj.mpr c)
  rwa [Be c]at this
 intro h i c;have g:=Jj.mp c;rw[Be g];exact h _<|gj g
theorem E4{K:Frag}{H:Hp}:∀{l:sK}{vs:lw},bC K H (l.map D.bl) vs->vs=l.map V.bl
 |[],vs,h=>cZ.mp h
 |b::l,vs,h=>by
  obtain⟨v,r,rfl,c,a⟩:=bM.mp h;rw[E4 a,dW.mp c];rfl
def ZF(k:X.mg "all"=none)(o:X.calm=true)(p:PE X a (tP X.K B f))(m:Gl X "all":=by rfl)(c:Oe a [] X.env:=by rfl):PE X (.Call (.Name "all" p0) [a] [] pos) (tI X.K B<|e1 Gr f):=by
 refine cC (nU (ŧ o) m k rfl (cM p fJ c) (he:=c)) ?_
 rintro σ H Q ⟨A,st,d,i,n,q⟩;obtain⟨x,j,h⟩:=R.ua n;refine⟨A,st,x,i,j,λv H1 s1 r1=>?_⟩
 cases x<;>first|(cases h)|skip
 obtain⟨bs,s,r⟩:=R.ua h;cases r;obtain⟨l,vs,e,g,b⟩:=r1.lst;rw[M5 s]at b;rw[E4 b]at g;exact⟨l,bs,by rw[e],g,q _ H1 s1<|dW.mpr rfl⟩
theorem P0:∀{l:li}{a:ca},Ka (l.map V.int) a->∃ps:List (Int×Tok),a=ps.map (λp=>Value.int p.1 p.2)/\ps.map (·.1)=l
 |[],_,.nil=>⟨[],rfl,rfl⟩
 |b::l,_,.cons r t=>by
  obtain⟨ps,e,e2⟩:=P0 t;obtain⟨t,rfl⟩:=r;exact⟨(b,t)::ps,by rw[e];rfl,by rw[Wf,e2]⟩
def Q0{ps:List (Int×Tok)} (a:i<ps.length):numAt ps.toArray i=(ps.map (·.1))[i]'(by simpa using a):=by
 unfold numAt;rw[Jz,Be a];simp
theorem Ũ(p:X.calm=true):lY X (.builtin "max") (λvs H Q=>∃(l:Addr)(is:li),vs=[.ref l]/\ue X.K H l (is.map V.int)/\0<is.length/\Q (.int<|Zm is) H):=by
 intro aa s σ H vs us Q I r h;obtain⟨l,is,rfl,hl,g,q⟩:=h;obtain⟨u,rfl,c⟩:=r.one;obtain rfl:u=Value.ref l:=c;obtain⟨d,b,⟨ob,n,e,B,_,o⟩,D⟩:=I.list hl;obtain⟨ps,z,e2⟩:=P0 b;have a:ps.length=is.length:=by rw[<-e2,Yc]
 have A:s.heap.IsList l (intItems ps.toArray):=⟨ob,e,B,n,by rw[o,z];simp[intItems]⟩
 refine max_intList (I.ok.hd p) A (by simpa [a] using g) λv h' C f k=>?_
 obtain⟨t,rfl⟩:=intItems_at f;refine⟨.int _,H,I.kept k,⟨t,?_⟩,q⟩;congr 1;have hs:ps.toArray.size=ps.length:=rfl;rw[hs];obtain⟨E,y⟩:=argBest_gt (numAt ps.toArray)<|ps.length-1;have w:argBest (λi j=>decide (numAt ps.toArray i>numAt ps.toArray j)) (ps.length-1)<ps.length:=by omega
 refine(mE ?_ λx hx=>?_).symm
 .rw[Q0 w,<-e2];exact gj _
 rw[<-e2]at hx;obtain⟨i,m,rfl⟩:=DH.mp hx;rw[<-Q0 (by simpa using m)]
 exact y i (by lia)
theorem R0{K:Frag}{H:Hp}:∀{l:li}{vs:lw},bC K H (l.map D.int) vs->vs=l.map V.int
 |[],vs,h=>cZ.mp h
 |b::l,vs,h=>by
  obtain⟨v,r,rfl,c,a⟩:=bM.mp h;rw[R0 a,bK.mp c];rfl
def kG(n:X.mg "max"=none)(r:X.calm=true)(s:PE X a (tP X.K B f))(o:Gl X "max":=by rfl)(h:Oe a [] X.env:=by rfl):PE X (.Call (.Name "max" p0) [a] [] pos) (tI X.K B<|e1 Br f):=by
 refine cC (nU (Ũ r) o n rfl (cM s fJ h) (he:=h)) ?_
 rintro σ H Q ⟨A,st,d,k,p,q⟩;obtain⟨x,m,j⟩:=R.ua p;refine⟨A,st,x,k,m,λv H1 s1 r1=>?_⟩
 cases x<;>first|(cases j)|skip
 obtain⟨is,t,b⟩:=R.ua j;obtain⟨c,b⟩:=aM b;cases b;obtain⟨l,vs,e,i,g⟩:=r1.lst;rw[sL t]at g;rw[R0 g]at i;exact⟨l,is,by rw[e],i,c,q _ H1 s1<|bK.mpr rfl⟩
theorem S0:∀{l:am} {a:ca},Ka (l.map λt=>V.str ⟨t.toArray⟩) a->∃ps:List (Str×Tok),a=strValues ps/\ps.map (·.1)=l.map λt=>(⟨t.toArray⟩:Str)
 |[],_,.nil=>⟨[],rfl,rfl⟩
 |b::l,_,.cons r t=>by
  obtain⟨ps,e,e2⟩:=S0 t;obtain⟨t,rfl⟩:=r;exact⟨(⟨b.toArray⟩,t)::ps,by rw[e];rfl,by rw[Wf,e2];rfl⟩
theorem F4(x:ac):∀(l:am),Str.join ⟨x.toArray⟩ (l.map λt=>(⟨t.toArray⟩:Str))=⟨(Cr x l).toArray⟩
 |[]=>rfl
 |[a]=>rfl
 |a::b::l=>by
  show (⟨a.toArray⟩)++⟨x.toArray⟩++Str.join _ _=_;rw[F4 x _];show (⟨a.toArray++x.toArray++(Cr x _).toArray⟩:Str)=⟨(a++x++Cr x _).toArray⟩;simp
def bG9:jq X "str.join" (λx vs H Q=>∃(z:ac)(l:Addr) (a:am),x=.str ⟨z.toArray⟩/\vs=[.ref l]/\ue X.K H l (a.map λt=>V.str ⟨t.toArray⟩)/\(a.map List.length).sum+a.length*z.length<=sizeLine/\Q (.str ⟨(Cr z a).toArray⟩) H):=by
 intro aa s σ H x vs v us Q I c b h;obtain⟨z,l,a,rfl,rfl,hl,m,q⟩:=h;obtain⟨t,rfl⟩:=c;obtain⟨u,rfl,d⟩:=b.one;obtain rfl:u=Value.ref l:=d;obtain⟨f,b,⟨ob,n,e,j,_,g⟩,_⟩:=I.list hl;obtain⟨ps,i,e2⟩:=S0 b;refine SC.join ⟨ob,e,j,n,by rw[g,i]⟩ e2 ?_ λt' k=>⟨.str _,H,I.tok _,⟨t',?_⟩,q⟩
 .unfold JoinOk;rw[Bool.not_eq_true',StrLaws.joinTotal];refine bf<|YH.mpr ?_;rw[Gh,Yc];have:(a.map<|(λx:Str=>x.length) ∘ λt=>(⟨t.toArray⟩))=a.map List.length:=Pr λt _=>str_len t
  rwa [this]
 rw[<-F4,<-StrLaws.glued_eq_join];rfl
theorem U0{K:Frag}{H:Hp}:∀{l:am} {vs:lw},bC K H (l.map D.str) vs->vs=l.map λt=>V.str ⟨t.toArray⟩
 |[],vs,h=>cZ.mp h
 |b::l,vs,h=>by
  obtain⟨v,r,rfl,c,a⟩:=bM.mp h;rw[U0 a,eF.mp c];rfl
def N6(p:PE X o (tP X.K B f))(q:PA X (e::es) (tA X.K B r))(y:Ak o "join" X.env:=by rfl)
  (m:aq Nb (e::es) X.env:=by rfl)
  (z:Pn Fb Nb:=by rfl) (n:Oe e es X.env:=by rfl) (t:lh Nb es X.env:=by rfl) :
  PE X (.Call (.Attribute o "join" Fb) (e::es) [] Nb) (tI X.K B<|ik mw f r):=by
 refine NG PySem.F.slot_str_join PySem.F.type_str_join bG9 (λx xs d h=>?_) (λA H x d xs v vs Q w rx Zs h k=>?_) p q y m z n t
 .cases x<;>first|exact⟨_,rfl⟩|exact nomatch h
 unfold mw at h;split at h
 .obtain⟨i,s,a⟩:=R.ua h;obtain⟨c,a⟩:=aM a;cases a;obtain⟨u,rfl,j⟩:=vw Zs;obtain⟨l,ws,e,g,b⟩:=kY.lst<|.inl j;rw[EZ s]at b;rw[U0 b]at g;exact⟨_,l,i,rx.str,by rw[e],g,lim c,k _ H (aR.refl _)<|eF.mpr rfl⟩
 cases h
end
end Pu
namespace Pu
open PySem PySem.Spec PyProof.Rows L2
def io:List Addr->Heap->Heap
 |[],h=>h
 |a::l,h=>(io l h).update a λ_=>{cls:=.none,data:=.freed}
def ũ(h:Heap)(a:Addr):(h.update a λ_=>{cls:=.none,data:=.freed}).get? a=none:=by
 cases h with
 |mk b=>
  simp[Heap.update,Heap.get?,Array.getElem?_modify];cases b[a]? <;> rfl
theorem qF{b:Addr}{h:Heap}:∀{l:bv},b∈l->(io l h).get? b=none
 |a::l,c=>by
  by_cases e:b=a
  .rw[e];exact ũ _ _
  unfold io;rw[FH _ _ _ _ e];exact qF<|(qc.mp c).resolve_left e
theorem QE{b:Addr}{h:Heap}:∀{l:bv},b∉l->(io l h).get? b=h.get? b
 |[],_=>rfl
 |a::l,c=>by
  unfold io;rw[FH _ _ _ _ λe=>c (by rw[e];exact Zb)]
  exact QE λz=>c<|Lc _ z
def Dy(l:bv)(h:Heap):(io l h).StaysIn h:=λb o e=>by
 by_cases a:b∈l
 .rw[qF a]at e;cases e
 rwa [QE a]at e
theorem ny{h base:Heap}:∀{l:xz},h.FunFrames b0 l->(∀L∈Xg l,base.get? L=none)->h.FunFrames base l
 |[],_,_=>trivial
 |env::l,⟨k,⟨L,o,e1,_,d,c⟩,r⟩,a=>by
  exact⟨k,⟨L,o,e1,a L (by unfold Xg;rw[K8 e1];exact Zb),d,c⟩,ny r λM b=>a M<|by unfold Xg;rw[K8 e1];exact Lc _ b⟩
structure ip(C:Addr)(h0:Heap)(H:Hp)(e:Addr)(h:Heap):Prop where
 n0:h0.get? e=none
 nH:H e=none
 ex:∃oe vs a0,h.get? e=some oe/\oe.cls=.ref C/\oe.data=.fields vs/\vs[0]?=some a0/\
  (vs[1]?=some .none\/∃T oT ts,vs[1]?=some (.ref T)/\T≠e/\h.get? T=some oT/\oT.data=.fields ts/\ts[3]?=some .none/\h0.get? T=none/\H T=none)
structure Ek(C:Addr)(h0:Heap)(H:Hp)(e:Addr)(h:Heap):Prop where
 n0:h0.get? e=none
 nH:H e=none
 ex:∃oe vs a0 T oT ts,h.get? e=some oe/\oe.cls=.ref C/\oe.data=.fields vs/\vs[0]?=some a0/\vs[1]?=some (.ref T)/\T≠e/\h.get? T=some oT/\oT.data=.fields ts/\ts[3]?=some .none/\h0.get? T=none/\H T=none
def Ek.w9{e:Addr} (F:Ek C h0 H e h):ip C h0 H e h:=by
 obtain⟨f,d,b,vs,l,T,c,a,i,k,j,g,r⟩:=F;exact⟨f,d,b,vs,l,i,k,j,g,.inr ⟨T,c,a,r⟩⟩
def ww(e:Heap)(H:Hp)(fs:bv)(h a:Heap):Prop:=
 ∀b o,h.get? b=some o->((∃d,e.get? b=some d)\/∃u,H b=some u)->(b∉fs->a.get? b=some o)/\∃c,a.get? b=some {o with slots:=c}
section
variable{A:Around} {e L:Addr} {b0:Heap} {Q:u8}
def yK{l:bv} (E:∀b o,h0.get? b=some o->∃o',h.get? b=some o') (A:∀b u,H b=some u->∃o,h.get? b=some o) (r:h0.get? e=none) (p:H e=none)
  (v:∀b∈l,b=e\/(h0.get? b=none/\H b=none)\/b∈Xg fl) (f:h'.FunFrames (io l h) fl) (t:h'.TracedW (io l h) e (.ref C) a0):Ek C h0 H e h':=by
 obtain⟨m,vs,T,n,c,w,⟨y,s⟩,x,D,a,j,i,k,B⟩:=t;exact⟨r,p,m,vs,a0,T,n,c,w,y,x,s,D,j,i,k,B,(by
  by_cases g:T∈l
  .rcases v T g with z|z|z
   .exact(j z).elim
   .exact z
   obtain⟨_,o,d,F⟩:=f.mem z;rw[i]at d;cases d;exact(F c k).elim
  rw[QE g]at a;refine⟨?_,?_⟩
  .cases q:h0.get? T with
   |none=>rfl
   |some o=>obtain⟨o',z⟩:=E T o q;rw[a]at z;cases z
  cases q:H T with
  |none=>rfl
  |some u=>obtain⟨o',z⟩:=A T u q;rw[a]at z;cases z)⟩
def aE{l:bv} (m:∀b∈l,(h0.get? b=none/\H b=none)\/b∈Xg fl) (f:h.FunFrames bb fl) (k1:(io l h).StaysIn h')
  (k:∀b o,h.get? b=some o->(∀vs,o.data≠.fields vs)->∃g,h'.get? b=some {o with slots:=g}):ww h0 H (Xg fl) h h':=λb o e n=>by
 have d:b∉Xg fl->h'.get? b=some o:=λa=>k1 b o (by
  rw[QE λz=>?_];exact e
  rcases m b z with ⟨j,i⟩|q
  .rcases n with ⟨r,z⟩|⟨u,z⟩
   .rw[j]at z;cases z
   rw[i]at z;cases z
  exact a q)
 refine⟨d,?_⟩
 by_cases a:b∈Xg fl
 .obtain⟨_,s,c,p⟩:=f.mem a;rw[e]at c;cases c;exact k b o e p
 exact⟨o.slots,d a⟩
def Ū(c:A.frames=some (env::outer))(h:s.heap.FunFrames b0 (env::outer))(p:env.frame=some L)(y:∀b o,h0.get? b=some o->∃o',s.heap.get? b=some o')(w:∀b u,H b=some u->∃o,s.heap.get? b=some o)
  (F:ip C h0 H e s.heap) (v:∀a,ip C h0 H e a->ww h0 H (Xg<|env::outer) s.heap a->Q () {s with heap:=a}):wpAny M A (leaving env<|.ref e) Q E s:=by
 obtain⟨f,d,D,vs,P,q,t,r,n,l⟩:=F;rcases l with l|⟨T,G,B,K,N,I,O,J,nT,x⟩
 .refine wpAny_leaving_firstW c (ny h<|λL m=>qF<|Lc _ m) p q (Dy _ _) (qF Zb) r l n λa ⟨k,j,g,i⟩=>?_
  rw[t]at g;refine v a (yK y w f d (λb hb=>?_) j g).w9<|aE (λb hb=>?_) h k i
  .exact(qc.mp hb).elim .inl λz=>.inr<|.inr z
  exact(qc.mp hb).elim (λz=>.inl<|by rw[z];exact⟨f,d⟩) .inr
 refine wpAny_leaving_nextW c (ny h<|λL m=>qF<|Lc _<|Lc _ m) p ⟨D,vs,T,G,B,q,⟨t,n⟩,r,K,qF<|Lc _ Zb,N,I,O,J⟩ (Dy _ _) (qF Zb) λa ⟨k,j,g,i⟩=>v a (yK y w f d (λb hb=>?_) j g).w9<|aE (λb hb=>?_) h k i
 .rcases qc.mp hb with z|hb
  .exact .inl z
  exact(qc.mp hb).elim (λz=>.inr<|.inl<|by rw[z];exact⟨nT,x⟩) λz=>.inr<|.inr z
 rcases qc.mp hb with z|hb
 .exact .inl (by rw[z];exact⟨f,d⟩)
 exact(qc.mp hb).elim (λz=>.inl<|by rw[z];exact⟨nT,x⟩) .inr
def bCu(d:A.frames=some (env::outer))(h:s.heap.FunFrames b0 (env::outer))(i:env.frame=some L)(Qs:∀b o,h0.get? b=some o->∃o',s.heap.get? b=some o')(V:∀b u,H b=some u->∃o,s.heap.get? b=some o)
  (F:ip C h0 H e s.heap) (U:∀a,Ek C h0 H e a->ww h0 H (Xg<|env::outer) s.heap a->Q () {s with heap:=a}):wpAny M A (noteFrame (.ref e) env) (λ_ s2=>wpAny M A (setFlight (.ref e) none) Q E s2) E s:=by
 obtain⟨p,n,y,vs,Z,j,r,k,q,g⟩:=F;have f:∀(l:bv),(∀b∈l,b=e\/(h0.get? b=none/\H b=none)\/b∈Xg (env::outer))->∀a,Heap.NotedW (io l s.heap) (env::outer) e (.ref C) Z (rawInt L) s.heap a->wpAny M A (setFlight (.ref e) none) Q E {s with heap:=a}:=by
  intro l v a ⟨R,P,O,K⟩;refine wpAny_setFlight_noneW R P O λX J I G D=>U X (yK Qs V p n v I G)<|aE (λb c=>?_) h J λb o c t=>?_
  .rcases v b c with z|z|z
   .exact .inl (by rw[z];exact⟨p,n⟩)
   .exact .inl z
   exact .inr z
  obtain⟨x,z⟩:=K b o c t;exact⟨x,D b _ z t⟩
 rcases g with g|⟨T,B,w,Y,Tp,S,En,W,nT,Uq⟩
 .unfold noteFrame;simp only[i];refine xa (Pk j k g<|wpAny_entryW d (ny h<|λL m=>qF<|Lc _ m) i j (Dy _ _) (qF Zb) k (gu.mp g).1 q λa N=>?_)
  rw[r]at N;exact f _ (λb c=>(qc.mp c).elim .inl λz=>.inr<|.inr z) a N
 refine wpAny_noteFrame_onW d (ny h<|λL m=>qF<|Lc _<|Lc _ m) i ⟨y,vs,T,B,w,j,⟨r,q⟩,k,Y,qF<|Lc _ Zb,Tp,S,En,W⟩ (Dy _ _) (qF Zb) λa N=>f _ (λb c=>?_) a N
 rcases qc.mp c with z|c
 .exact .inl z
 exact(qc.mp c).elim (λz=>.inr<|.inl<|by rw[z];exact⟨nT,Uq⟩) λz=>.inr<|.inr z
def bGa(I:∀b o,h0.get? b=some o->∃o',s.heap.get? b=some o')(x:∀b u,H b=some u->∃o,s.heap.get? b=some o)(F:Ek C h0 H e s.heap)
  (w:∀c,Ek C h0 H e c->ww h0 H [] s.heap c->Q () {s with heap:=c}):wpAny M A (setFlight (.ref e) none) Q E s:=by
 obtain⟨f,d,i,vs,L,T,j,h,q,t,r,p,D,G,v,K,y,nT,g⟩:=F;refine wpAny_setFlight_noneW (base:=io [e,T] s.heap) (l:=[]) (Dy _ _) trivial ⟨i,vs,T,j,h,q,⟨t,p⟩,r,D,qF (by simp),G,v,K,y⟩ λB n m l k=>w B (yK I x f d (λb a=>?_) m l)<|aE (fl:=[]) (bb:=s.heap) (λb a=>?_) trivial n λb o a J=>⟨o.slots,k b o a J⟩
 .rcases qc.mp a with z|z
  .exact .inl z
  exact .inr<|.inl<|by rw[Ce.mp z];exact⟨nT,g⟩
 rcases qc.mp a with z|z
 .exact .inl (by rw[z];exact⟨f,d⟩)
 exact .inl (by rw[Ce.mp z];exact⟨nT,g⟩)
end
def Ă{w:World} {o:HO} (x:lX P w H h a o):∃ob,h.get? a=some ob:=by
 cases o with
 |lst xs=>obtain⟨_,_,_,_,e⟩:=x;exact⟨_,e⟩
 |tup xs=>obtain⟨_,_,_,ob,e,_⟩:=x;exact⟨_,e⟩
 |dK Ca=>obtain⟨_,_,_,_,o,_,_,e,_⟩:=x;exact⟨_,e⟩
 |dT Ca=>obtain⟨_,_,_,_,o,_,_,e,_⟩:=x;exact⟨_,e⟩
 |set S n=>obtain⟨o,_,_,_,e,_⟩:=x;exact⟨_,e⟩
 |ins C d fs=>obtain⟨_,_,_,e,_⟩:=x;exact⟨_,e⟩
 |own y=>obtain⟨_,e⟩:=x;exact⟨_,e⟩
 |xd fs=>obtain⟨_,⟨_,_,_,e,_⟩,_⟩:=x;exact⟨_,e⟩
 |Sx lo c=>obtain⟨_,_,_,e⟩:=x;exact⟨_,e⟩
 |Vk ob u=>obtain⟨e,_⟩:=x;exact⟨_,e⟩
 |dq ps=>exact⟨_,(x)⟩
 |met f y=>exact⟨_,(x)⟩
 |ext b=>obtain⟨_,⟨_,e⟩,_⟩:=x;exact⟨_,e⟩
def HD{w:World} (x:Bf P w H h):∀b u,H b=some u->∃o,h.get? b=some o:=λb u e=>Ă<|x b u e
def gL{w:World} {fs:bv} (x:Bf P w H h) (m:ww h0 H fs h h') (g:∀b∈fs,H b=none):Bf P w H h':=λb u e=>by
 refine(x b u e).Dh (λc v hc q=>?_) (λ_ q=>q) λ_ _ q=>q
 have f:∃u,H c=some u:=by
  rcases hc with z|z
  .exact⟨u,by rwa [z]⟩
  exact⟨_,z⟩
 obtain⟨d,a⟩:=f;exact(m c v q<|.inr ⟨d,a⟩).1 λi=>by rw[g c i]at a;cases a
def ip.back{e:Addr} (F:ip C h1 H e h) (k:∀b o,h0.get? b=some o->∃o',h1.get? b=some o'):ip C h0 H e h:=by
 have z:∀b,h1.get? b=none->h0.get? b=none:=λb r=>by
  cases q:h0.get? b with
  |none=>rfl
  |some o=>obtain⟨o',c⟩:=k b o q;rw[r]at c;cases c
 obtain⟨j,i,f,vs,u,m,p,n,l,a⟩:=F;refine⟨z _ j,i,f,vs,u,m,p,n,l,?_⟩;rcases a with a|⟨T,g,d,y,w,s,x,t,nT,v⟩
 .exact .inl a
 exact .inr ⟨T,g,d,y,w,s,x,t,z _ nT,v⟩
def Ng(P:Program)(w:World):gq:=λouter H s E e s'=>∃a C H',e=.ref a/\s'.os=s.os/\AllBare s'.gens/\Un (Xg outer) [] H H' s.heap s'.heap/\Bf P w H' s'.heap/\ip C s.heap H' a s'.heap/\E (.ref C) none H'
def uz(X:Cx)(W:Addr->L2.St->wv):Prop:=∀(aa:ce) (σ:L2.St) (H:Hp) (s:Shared) (a C:Addr) (H':Hp) (s':Shared),Ea X aa σ H s->s'.os=s.os->AllBare s'.gens->Un (Xg X.stack) [] H H' s.heap s'.heap->
 Bf X.prog X.w H' s'.heap->ip C s.heap H' a s'.heap->W C σ H'->X.xe (.ref a) s'
def V0{w:World}{K:Frag} {f:Addr} {A:Around} {E:XK} :
  uz (Kk (Ng P w) P w K mg base N qual scope f cd A outer s0 H0 E) (λC _ g=>E (.ref C) none g):=by
 intro aa σ H s l C g s' I p a un d F k;have J:=I.vo p un d a λ_ z=>nomatch z
 have h:=λb o e=>J.base.there b o e (by intro z;cases z)
 refine Ū J.ok.frames J.stack rfl h (HD d) (F.back<|λb o e=>I.base.there b o e<|by intro z;cases z) λh' q m=>⟨l,C,g,rfl,J.os,a,(⟨λb o e n a c=>?_,λb o e n a c=>?_,λb o e n c=>J.base.free b o e n (by intro z;cases z),λb o e c=>?_,J.base.Fi,J.base.Rh,J.base.Ei⟩),gL d m J.ai,q,k⟩
 .exact(m b o (J.base.keep b o e n a<|by intro z;cases z)<|.inl ⟨o,e⟩).1 ((λb o e j z=>by
  rcases qc.mp (z) with z|z
  .exact(λb o e=>ff<|Tc e) b o e z
  exact j z) b o e a)
 .obtain⟨r,e1⟩:=J.base.slot b o e n a (by intro z;cases z)
  obtain⟨i,e2⟩:=(m b _ e1<|.inl ⟨o,e⟩).2;exact⟨i,e2⟩
 obtain⟨t,e1⟩:=h b o e;obtain⟨i,e2⟩:=(m b _ e1<|.inl ⟨o,e⟩).2;exact⟨_,e2⟩
def bCw{e:Addr}{vs:ca} {w:World} (x:Heap.MadeExcOf h h' e (.ref C) vs) (b:Bf P w H h):ip C h H e h':=by
 obtain⟨t,a,c,_⟩:=x.there;refine⟨x.new,?_,_,_,_,a,rfl,rfl,rfl,.inl rfl⟩;cases q:H e with
 |none=>rfl
 |some u=>obtain⟨o,z⟩:=HD b e u q;rw[x.new]at z;cases z
section
variable {t:TA} {W:Addr->L2.St->wv}
def W0{o:Pos}(J:uz X W)(E:ExcAt X.K c C tl)(A:X.mg (ofString c)=some (.ref C))(O:X.calm=true)(F:PA X (e::es) t)(D:Gl X (ofString c):=by rfl)(n:dg (ofString c):=by decide)
  (he:Oe e es X.env:=by rfl) (hpl:lh Nb es X.env:=by rfl) (R:(e::es).length<=100:=by decide) :
  PS X (.Raise (some<|.Call (.Name (ofString c) o) (e::es) [] Nb) none pos) (λ_ b H=>t b H λvs P=>vs.length<=100/\W C b P):=by
 intro aa s b H Dn I h;obtain⟨B,newId,U,An,FB,f⟩:=E.ob;obtain⟨N,p,q,bs,d,l,sub,M,g,L,x,w,v,u,r,S,K,G,Q,T⟩:=f X.base I.ok.mod.Tj;refine wpAny_Raise_call_subT (nm:=p) (q:=q) (N:=N) (bs:=bs) (hdct:=d) (sn:=l) (sub:=sub) (ab:=M) (col:=g) (dd:=L) (k0:=x) (k1:=w) (k2:=v) (k3:=u) (k5:=r)
  FB (T.hasType FB.hasBase) (I.ok.hd O) (by rw[he];show (false||(backTo Nb _).any (·.1))=false;rw[hpl];rfl) Q (xQ I D A ⟨rfl,?_⟩ n)
 have j:=F Nb aa s b H _ I h;rw[he]at j ⊢;refine Calls.evalArgs_plain<|Cc j λus i ⟨vs,k,a,m,z,y⟩=>⟨rfl,?_,a.bk _ _ K,G.keeps a.bk,T.keeps a.bk,λh' ea hx=>?_⟩
 .rw[<-m.length];exact Nh z (by decide)
 exact J aa b k i ea C k {i with heap:=h'} a rfl a.bare (Un.kept hx.keeps) (a.Xa.kept hx.keeps) (bCw hx a.Xa) y
end
def X0{fs:bv} (u:Un fs [] H0 H h0 h) (m:ww h0 H gs h h') (c:∀b∈gs,b∈fs):Un fs [] H0 H h0 h':=by
 refine⟨λb o e n hb hx=>?_,λb o e n hb hx=>?_,λb o e n hx=>u.free b o e n hx,λb o e hx=>?_,u.Fi,u.Rh,u.Ei⟩
 .exact(m b o (u.keep b o e n hb hx)<|.inl ⟨o,e⟩).1 λz=>hb<|c b z
 .obtain⟨d,e1⟩:=u.slot b o e n hb hx;obtain⟨a,e2⟩:=(m b _ e1<|.inl ⟨o,e⟩).2;exact⟨a,e2⟩
 obtain⟨f,e1⟩:=u.there b o e hx;obtain⟨a,e2⟩:=(m b _ e1<|.inl ⟨o,e⟩).2;exact⟨_,e2⟩
structure FS(X:Cx)(aa:ce)(σ:L2.St)(H:Hp)(ea C:Addr)(s:Shared):Prop where
 ex:∃Hc sc,Ea X aa σ Hc sc/\s.os=sc.os/\AllBare s.gens/\Un (Xg X.stack) [] Hc H sc.heap s.heap/\Bf X.prog X.w H s.heap/\Ek C sc.heap H ea s.heap
section
variable{X:Cx}{aa:ce}{σ:L2.St}{H:Hp}{ea C:Addr}{s:Shared}
def FS.inv(F:FS X aa σ H ea C s):Ea X aa σ H s:=by
 obtain⟨d,c,I,os,a,un,b,f⟩:=F.ex;exact I.vo os un b a λ_ z=>nomatch z
def FS.there(F:FS X aa σ H ea C s):∃a,s.heap.get? ea=some a/\a.cls=.ref C:=by
 obtain⟨h,e,I,os,b,un,g,f⟩:=F.ex;obtain⟨_,_,a,_,_,_,_,_,c,d,_⟩:=f;exact⟨a,c,d⟩
abbrev held(X:Cx)(a:Addr):Cx:={X with A:=X.A.mark<|some<|.ref a,calm:=false,xe:=λ_ _=>False}
def bGb(ok:X.Ok)(a:Addr):(held X a).Ok:=
 ⟨ok.mod,ok.kind,ok.glob,ok.blt,ok.above,ok.inj,ok.has,ok.Au,(λz=>nomatch z),ok.frames,ok.Xx,ok.xx,ok.bs,ok.Cn,ok.jl,ok.Uk,ok.Ig,ok.Rp⟩
def Y0(I:Ea X aa σ H s)(a:Addr):Ea (held X a) aa σ H s:=⟨bGb I.ok a,I.os,I.bare,I.base,I.loc,I.cell,I.free,I.kf,I.pin,I.Xa,I.len⟩
def yL(ok:X.Ok)(I:Ea (held X ea) aa σ H s):Ea X aa σ H s:=⟨ok,I.os,I.bare,I.base,I.loc,I.cell,I.free,I.kf,I.pin,I.Xa,I.len⟩
def ū{D:Ends}{f:Flow} (ok:X.Ok) (h:SP (held X ea) aa D f s'):SP X aa D f s':=by
 cases f with
 |next=>obtain⟨a,H',I,q⟩:=h;exact⟨a,H',yL ok I,q⟩
 |brk=>obtain⟨a,H',I,q⟩:=h;exact⟨a,H',yL ok I,q⟩
 |cont=>obtain⟨a,H',I,q⟩:=h;exact⟨a,H',yL ok I,q⟩
 |ret u=>obtain⟨v,a,H',I,r,q⟩:=h;exact⟨v,a,H',yL ok I,r,q⟩
def FS.set{A:Around} {Q:u8} (F:FS X aa σ H ea C s) (h:∀c,FS X aa σ H ea C c->Q () c):wpAny M A (setFlight (.ref ea) none) Q E s:=by
 obtain⟨i,g,I,os,a,un,d,f⟩:=F.ex;refine bGa (λb o e=>un.there b o e<|by intro z;cases z) (HD d) f λh' f' m=>h _ ⟨i,g,I,os,a,X0 un m (by intro b z;cases z),gL d m (by intro b z;cases z),f'⟩
end
section
variable{A:Around} {nm q:Str} {N:Addr} {bs bm:ca} {hdct:Bool} {sn:ut} {sub:ca} {ab:Bool} {col:Option Bool} {dd:pc} {k0 k1 k2 k3 k5:Option Value}
variable{f_ q':Str}{N':Addr}{o9:ca}{Ks:Bool}{h_:ut}{IC:ca}{G5:Bool}{yA:Option Bool}{Hq:pc}{j0 j1 j2 j3 j5:Option Value}{Uo:String}
def Ϣ{g:Array GenState}{d:Drawn}{t:Nat}{os:OsState}{e:Addr}{Q:sB}
  (j:h.get? C=some (excClassObj nm q C N bs bm hdct sn sub ab col dd k0 k1 k2 k3 k5 newId)) (i:h.get? D'=some (excClassObj f_ q' D' N' o9 Xz Ks h_ IC G5 yA Hq j0 j1 j2 j3 j5 Uo)) (he:h.get? e=some oe) (l:oe.cls=.ref C) (k:Xz.contains (.type "BaseException")=true)
  (a:Q ((Value.ref C::bm).contains<|.ref D') ⟨h,g,d,t,os⟩):wpAny M A (excMatches (.ref e)<|.ref D') Q E ⟨h,g,d,t,os⟩:=by
 have b:(Value.ref D' :: Xz).contains (.type "BaseException")=true:=by rw[List.contains_cons,k,Bool.or_true]
 have f:=tc_notTuple;unfold excMatches;cases c:(Value.ref C::bm).contains (.ref D') <;> rw[c]at a <;>
  repeat (first|(with_reducible refine wpAny_loadPart_at he ?_;rw[l])|with_reducible refine wpAny_loadPart_at i ?_|(with_reducible refine wpAny_isSubtype_exc i ?_;rw[b])|(with_reducible refine wpAny_isSubtype_exc j ?_;rw[c])|wp_step)
 .exact a
 .exact a
end
def PH(X:Cx)(b:List ExceptHandler)(t:Addr->TS):Prop:=∀(aa:ce) (s:Shared) (σ:L2.St) (H:Hp) (Dn:Ends) (a C:Addr),FS X aa σ H a C s->t C Dn σ H->wpAny (model X.prog X.w) X.A (handleBy (.ref a) X.env b) (SP X aa Dn) X.xe s
section
variable{X:Cx}
def bGc{d:String} {u:Pos} {o:Stmt} {rest:List ExceptHandler} {l:Addr->TS} (G:ExcAt X.K d D' Xz) (A:X.mg (ofString d)=some (.ref D')) (x:∀a,Ae (held X a) (o::vm) ts) (y:PH X rest l)
  (D:Gl X (ofString d):=by rfl) (p:dg (ofString d):=by decide) :
  PH X (.ExceptHandler (some<|.Name (ofString d) u) none (o::vm) pos::rest) (λC e b H=>∃c k,ExcAt X.K c C k/\if (Value.ref C::k).contains (.ref D')=true then ts e b H else l C e b H):=by
 intro aa s b H e a C F ⟨c,k,J,h⟩;have I:=F.inv;obtain⟨V,E,M⟩:=F.there;obtain⟨B,newId,Kg,An,FB,j⟩:=J.ob;obtain⟨B',Uo,II,n,O,w⟩:=G.ob;obtain⟨N,Y,q,bs,m,S,sub,ab,K,dd,k0,k1,k2,k3,k5,Z,t,_⟩:=j s.heap I.Hf;obtain⟨N',f_,U,W,Ks,h_,IC,G5,Q,Hq,j0,j1,j2,j3,j5,v,r,_,_,L⟩:=w s.heap I.Hf;refine wpAny_handleBy_cons (codeAny_handlers_test<|xQ (Y0 I a) D A ?_ p) (by intro q;cases q)
 obtain⟨hp,g,dr,R,os⟩:=s;refine Ϣ t r E M (L.hasType O.hasBase) ?_
 split at h
 .rename_i i;rw[i];refine codeAny_handlers_suite<|F.set λs' P=>dk (x a aa s' b H e (Y0 P.inv a) h) (λf T z=>ū I.ok z) λ_ _ z=>z.elim
 .rename_i i;rw[Bool.not_eq_true]at i;rw[i];exact y aa _ b H e a C F h
def WB(X:Cx)(c:List ExceptHandler)(aa:ce)(d:Ends)(e:Value)(s1:Shared):Prop:=
 wpAny (model X.prog X.w) X.A (noteFrame e X.env) (λ_ b=>wpAny (model X.prog X.w) X.A (setFlight e none) (λ_ a=>wpAny (model X.prog X.w) X.A (handleBy e X.env c) (SP X aa d) X.xe a) X.xe b) X.xe s1
abbrev wq(X:Cx)(pn:ce)(E:be):Cx:={X with pn:=pn,xe:=E}
def bGd (ok:X.Ok):(wq X pn E).Ok:=
 ⟨ok.mod,ok.kind,ok.glob,ok.blt,ok.above,ok.inj,ok.has,ok.Au,ok.hd,ok.frames,ok.Xx,ok.xx,ok.bs,ok.Cn,ok.jl,ok.Uk,ok.Ig,ok.Rp⟩
def bCx{a:L2.St} (I:Ea X aa a H s):Ea (wq X (X.pn++aa) E) [] a H s:=
 ⟨bGd I.ok,I.os,I.bare,I.base,I.loc,I.cell,I.free,I.kf,λp b=>I.pin p (by rw[so]at b;exact b),I.Xa,I.len⟩
def uK {a:L2.St} (ok:X.Ok) (I:Ea (wq X (X.pn++aa) E) qm a H s):Ea X aa a H s:=
 ⟨ok,I.os,I.bare,I.base,I.loc,I.cell,I.free,I.kf,λp b=>I.pin p<|Kl _ b,I.Xa,I.len⟩
def Ŭ{D:Ends}{f:Flow} (ok:X.Ok) (h:SP (wq X (X.pn++aa) E) [] D f s'):SP X aa D f s':=by
 cases f with
 |next=>obtain⟨a,H',I,q⟩:=h;exact⟨a,H',uK ok I,q⟩
 |brk=>obtain⟨a,H',I,q⟩:=h;exact⟨a,H',uK ok I,q⟩
 |cont=>obtain⟨a,H',I,q⟩:=h;exact⟨a,H',uK ok I,q⟩
 |ret u=>obtain⟨v,a,H',I,r,q⟩:=h;exact⟨v,a,H',uK ok I,r,q⟩
def bKn{a:ExceptHandler} {tb:(Addr->L2.St->wv)->TS} {n:Addr->TS} (j:X.stack=X.env::X.outer/\X.env.frame=some X.env.locals)
  (G:∀(v:ce) (E:be) (W:Addr->L2.St->wv),uz (wq X v E) W->Ae (wq X v E) body (tb W)) (D:PH X (a::hs) n) :
  PS X (.Try body (a::hs) [] [] pos) (λd k H=>tb (λC g c=>n C d g c) d k H):=by
 intro aa s k H d I h;refine wpAny_Try_except ?_
 have L:uz (wq X (X.pn++aa)<|WB X (a::hs) aa d) (λC g c=>n C d g c):=by
  intro O g A t M C c s' J x B un p F K;have y:=uK (aa:=aa) I.ok J;have q:Ea X aa g c s':=y.vo (ch:=[]) x un p B λ_ z=>nomatch z
  have w:=q.ok.frames;have r:=q.stack;rw[j.1]at w r;refine bCu w r j.2 (λb o e=>un.there b o e<|by intro z;cases z) (HD p) F λh' N m=>?_
  have l:Un (Xg X.stack) [] A c t.heap h':=X0 un m (by rw[j.1];exact λ_ z=>z)
  exact D aa _ g c d M C ⟨A,t,y,x,B,l,gL p m (by rw[<-j.1];exact q.ai),N⟩ K
 refine dk (G _ _ _ L [] s k H d (bCx I) h) (λf s1 z=>?_) λe s1 z=>z
 have i:=Ŭ I.ok z;cases f with
 |next=>exact Ua i
 |brk=>exact i
 |cont=>exact i
 |ret u=>exact i
end
abbrev XW:=D->L2.St->wv
def Exc(K:Frag)(B A:bv)(H:Hp)(sm:Bool)(st:za)(x:D)(W:XW):Prop:=∀b st' a H',Le A H b H'->RS K B b H' st' a->(sm=true->st'=st)->W x a H'
def Exc.mono{K:Frag} {sm:Bool} {st:za} {x:D} (l:Le A H A1 H1) (h:Exc K B A H sm st x W):Exc K B A1 H1 sm st x W:=λc st' a H' b=>h c st' a H'<|l.trans b
def Exc.any{K:Frag} {sm:Bool}{st:za} {x:D} (h:Exc K B A H false Ti x W):Exc K B A H sm st x W:=λb st' a H' l r _=>h b st' a H' l r λz=>nomatch z
def Out(K:Frag)(B A:bv)(H:Hp)(sm:Bool)(st:za)(W:XW)(a:Ends)(r:R Fl):Prop:=match r with
 |.ok r=>au K B A H r a
 |.exc x=>Exc K B A H sm st x W
 |.bad=>False
theorem Out.mono{K:Frag}{B A:bv}{H a:Hp}{sm:Bool}{st:za}{b:Ends}{r:R Fl}(l:Le A H A1 a)(h:Out K B A H sm st W b r):Out K B A1 a sm st W b r:=by
 cases r with
 |ok r=>exact au.mono l h
 |exc x=>exact Exc.mono l h
 |bad=>exact h
theorem Out.any{K:Frag}{B A:bv}{H:Hp}{sm:Bool}{st:za}{a:Ends}{r:R Fl}(h:Out K B A H false Ti W a r):Out K B A H sm st W a r:=by
 cases r with
 |ok r=>exact h
 |exc x=>exact Exc.any h
 |bad=>exact h
def aj(K:Frag)(B:bv)(sm:Bool)(W:XW)(b:Bd):TS:=λDn σ H=>∃A st,RS K B A H st σ/\Out K B A H sm st W Dn (b st)
def Bl(K:Frag)(B:bv)(W:XW)(f:Ex):TE:=λσ H Q=>∃A st,RS K B A H st σ/\(match f st with
 |.ok d=>∀v H',aR H H'->Ib K (hide (A++B) H') d v->Q v H'
 |.exc x=>∀H',aR H H'->W x σ H'
 |.bad=>False)
def pq(X:Cx)(W:XW):Prop:=uz X λC σ H'=>∃c a,ExcAt X.K c C a/\W (.Dg c [] []) σ H'
section
variable {a b:Expr} {rest:List Stmt} {W:XW} {s1 s2:Bool}
def uL(h:PS X sm (aj X.K B s1 W bd)):PS X sm (aj X.K B false W bd):=fC h λDn σ H ⟨A,st,a,q⟩=>⟨A,st,a,q.any⟩
def Nt(h:PS X sm (tS X.K B bd)):PS X sm (aj X.K B s1 W<|Qg bd):=fC h (by
 rintro Dn σ H ⟨A,st,b,q⟩;unfold Qg at q;cases a:bd st with
 |ok r=>rw[a]at q;exact⟨A,st,r,b,a,q⟩
 |exc x=>rw[a]at q;exact q.elim
 |bad=>rw[a]at q;exact q.elim)
def xw:Ae X [] (aj X.K B s1 W cX):=vL kM (by
 rintro Dn σ H ⟨A,st,a,q⟩;exact q A σ H Le.refl a)
def xM(a:PS X sm (aj X.K B s1 W bd)):Ae X [sm] (aj X.K B s1 W bd):=fE a
def uM(f:PS X sm (aj X.K B s1 W bd))(e:Ae X rest (aj X.K B s2 W Rk)):Ae X (sm::rest) (aj X.K B false W<|aW bd Rk):=by
 refine vL (JD f e) ?_
 rintro Dn σ H ⟨A,st,c,q⟩;refine⟨A,st,c,?_⟩;unfold aW Cw at q;cases b:bd st with
 |ok r=>
  rw[b]at q;cases r with
  |nx s1=>exact λg h H' l a=>⟨g,s1,a,(q.mono l).any⟩
  |rt d=>exact q
  |bk s1=>exact q
  |ct s1=>exact q
 |exc x=>rw[b]at q;exact Exc.any q
 |bad=>rwa [b]at q
def Jw{c:Expr}{t:Ex}{x y:List Stmt}(e:PT X c (tT X.K B t))(g:Ae X x (aj X.K B s1 W bd))(f:Ae X y (aj X.K B s1 W Rk)):PS X (.If c x y pos) (aj X.K B s1 W<|Pd (Ql t) bd Rk):=fC (DO e g f) (by
 rintro Dn σ H ⟨A,st,b,q⟩;unfold Pd Ql at q;cases a:t st with
 |exc x=>rw[a]at q;exact q.elim
 |bad=>rw[a]at q;exact q.elim
 |ok d=>
  rw[a]at q;cases d<;>first|exact q.elim|skip
  rename_i k;refine⟨A,st,k,b,a,λH1 s1=>?_⟩
  cases k with
  |true=>exact⟨A,st,b.mono s1,Out.mono (Le.of s1) q⟩
  |false=>exact⟨A,st,b.mono s1,Out.mono (Le.of s1) q⟩)
def L7(h:PE X e (Bl X.K B W f))(c:Bk e none pos.line X.env:=by rfl):PS X (.Expr e pos) (aj X.K B true W<|rF f):=fC (sy h c) (by
 rintro Dn σ H ⟨A,st,a,q⟩;refine⟨A,st,a,?_⟩;unfold rF at q;cases b:f st with
 |ok d=>rw[b]at q;exact λv H' s _=>q A σ H' (Le.of s)<|a.mono s
 |exc x=>rw[b]at q;exact λH' s=>q A st σ H' (Le.of s) (a.mono s) λ_=>rfl
 |bad=>rwa [b]at q)
def yw(h:PE X e (Bl X.K B W f)):PS X (.Return (some e) pos) (aj X.K B true W<|cG f):=fC (nN h) (by
 rintro Dn σ H ⟨A,st,b,q⟩;refine⟨A,st,b,?_⟩;unfold cG at q;cases a:f st with
 |ok d=>rw[a]at q;exact λv H' s r=>q A v H' (Le.of s) r
 |exc x=>rw[a]at q;exact λH' s=>q A st σ H' (Le.of s) (b.mono s) λ_=>rfl
 |bad=>rwa [a]at q)
def bNz(i:Nat) (he:PE X e (Bl X.K B W f)) (j:X.N.Nodup) (h:X.N[i]?=some x:=by rfl) (c:Loc X.env.scope x:=by exact bq rfl) (g:Bk e (some<|.Name x pos') pos.line X.env:=by rfl)
  (a:Pm X x:=by first|exact .inl rfl|exact .inr rfl|assumption):PS X (.Assign [.Name x pos'] e pos) (aj X.K B true W<|cV i f):=fC (Nv j h c he g a) (by
 rintro Dn σ H ⟨A,st,b,q⟩;refine⟨A,st,b,?_⟩;unfold cV at q;cases a:f st with
 |ok d=>rw[a]at q;exact λv H' s r=>q A _ H' (Le.of s)<|(b.mono s).set i r
 |exc x=>rw[a]at q;exact λH' s=>q A st σ H' (Le.of s) (b.mono s) λ_=>rfl
 |bad=>rwa [a]at q)
def x_raise{j:Pos}(n:pq X W)(f:ExcAt X.K c C tl)(k:X.mg (ofString c)=some (.ref C))(o:X.calm=true)(m:PA X (e::es) (tA X.K B r))(l:Gl X (ofString c):=by rfl)(i:dg (ofString c):=by decide)
  (he:Oe e es X.env:=by rfl) (hpl:lh Nb es X.env:=by rfl) (g:(e::es).length<=100:=by decide) :
  PS X (.Raise (some<|.Call (.Name (ofString c) j) (e::es) [] Nb) none pos) (aj X.K B true W<|xV c r):=by
 refine fC (W0 n f k o m l i he hpl g) ?_
 rintro Dn σ H ⟨A,st,d,q⟩;unfold xV at q;cases b:r st with
 |exc x=>rw[b]at q;exact q.elim
 |bad=>rw[b]at q;exact q.elim
 |ok ds=>
  rw[b]at q
  by_cases hl:ds.length<=100
  .refine⟨A,st,ds,d,b,λvs H1 s1 h=>⟨by rwa [h.length],c,tl,f,?_⟩⟩
   have a:Out X.K B A H true st W Dn (aP _ _):=q;rw[aD hl]at a;exact a A st σ H1 (Le.of s1) (d.mono s1) λ_=>rfl
  have a:Out X.K B A H true st W Dn (aP (ds.length<=100) _):=q;rw[show aP _ _=.bad from Pa hl]at a
  exact a.elim
end
end Pu
variable{W:Pu.XW}
namespace Pu
open PySem PySem.Spec PyProof.Rows L2
def tm(K:Frag)(a:Nat)(p:cr):Sp:=λvs H Q E=>∃A ds,Own A H/\bC K (hide A H) ds vs/\ds.length=a/\(match p ds with
 |.ok d=>∀v H',aR H H'->Ib K (hide A H') d v->Q v H'
 |.exc x=>∀C c b H',x=.Dg c [] []->ExcAt K c C b->aR H H'->E (.ref C) none H'
 |.bad=>False)
def vz{w:World}{K:Frag} {st:Stmt} {f:Addr} {k:Nat} {sm:Bool} (F:Qa K x qual st dV f fd) (S:Dd N ps (bD st)) (p n:Nat) (m:Bd) (Xl:ps.length=p) (L:N.length=n)
  (M:∀(i:Value)(A:Around)(b:xz)(s:Shared)(H:Hp)(E:XK)(B:bv)(W:XW),Cb k (A.deeper<|envOfC qual (bD st) s.heap.objs.size f i)->
   pq (Kk (Ng P w) P w K mg base N qual (bD st) f i A b s H E) W->Ae (Kk (Ng P w) P w K mg base N qual (bD st) f i A b s H E) (dI st) (aj K B sm W m)):Ha P w K mg base (Ng P w) (k+1) f fd ps (tm K p<|dD p n m):=by
 obtain⟨oc,od,kV,Z,pm,an,i,ct,Zi,rfl,lk,Rf⟩:=F.ex;refine JF lk Rf S (λvs H Q E h=>?_) λA b s H vs Q E J h=>?_
 .obtain⟨A,ds,own,r,hl,_⟩:=h;rw[r.length,hl,Xl]
 obtain⟨B,ds,own,r,hl,q⟩:=h
 let W:XW:=λx _ H'=>∀C c g,x=.Dg c [] []->ExcAt K c C g->E (.ref C) none H'
 refine⟨aj K B sm W m,M i A b s H E B W J ?_,?_⟩
 .intro aa σ H1 s1 Y C H' s' I X V U T R ⟨c,g,t,G⟩;exact V0 aa σ H1 s1 Y C H' s' I X V U T R<|G C c g rfl t
 have y:=QL (N:=N) own r;rw[hl,L]at y;refine⟨[],_,y,?_⟩;have d:∀{j:bv}{H':Hp},Le [] H j H'->aR H H':=λ{j H'} l=>by
  unfold Le at l;exact l.trans<|aX _ _
 unfold dD at q;rw[aD hl]at q;cases u:m _ with
 |ok fl=>
  rw[u]at q;cases fl with
  |nx s1=>exact λj z H' l o=>q _ H' (d l)<|sU.mpr rfl
  |rt d'=>exact λj v H' l D=>q v H' (d l)<|D.mono<|jC λa O=>oh _ O
  |bk s1=>exact q.elim
  |ct s1=>exact q.elim
 |exc x=>
  rw[u]at q;exact λj st' z H' l o _ C c g e t=>q C c g H' e t<|d l
 |bad=>rwa [u]at q
def G4{w:World}{K:Frag} {k:Nat} {f:Addr} (F:Ha P w K mg base (Ng P w) k f fd ps (tm K np p)):Ha P w K mg base wc k f fd ps (Xc K np<|ug p):=by
 have b:∀vs H Q E,Xc K np (ug p) vs H Q E->tm K np p vs H Q E0:=by
  rintro vs H Q E ⟨A,ds,d,own,r,hl,i,q⟩;refine⟨A,ds,own,r,hl,?_⟩
  rwa [R.Lg i]
 refine⟨λvs H Q E h=>F.len vs H Q E0<|b vs H Q E h,λA outer s H a us vs Q E g m j c h=>Em (F.run A outer s H a us vs Q E0 g m j c<|b vs H Q E h) λr s' z=>?_⟩
 cases r with
 |error e=>obtain⟨_,_,_,_,_,_,_,_,_,l⟩:=z;exact l.elim
 |ok fl=>cases fl<;>exact z
structure pf(P:Program)(w:World)(K:Frag)(mg:dL)(base:Heap)(x:Str)(k np:Nat)(p:cr):Prop where
 ex:∃(fa:Addr)(fd:FuncData)(ps:ut),Ha P w K mg base (Ng P w) k fa fd ps (tm K np p)/\mg x=some (.ref fa)/\keepIn K (.ref fa)=true/\Binds K fd ps []
 len:∀ds,p ds≠.bad->ds.length=np
def NY(a:db)(h:dD np n bd a≠.bad):a.length=np:=by
 by_cases hl:a.length=np
 .exact hl
 exact(h<|Pa hl).elim
def pf.of{w:World}{K:Frag} {k:Nat} (h:Ha P w K mg base (Ng P w) k fa fd ps (tm K np<|dD np n bd)) (m:mg x=some (.ref fa))
  (a:keepIn K (.ref fa)=true) (b:Binds K fd ps []):pf P w K mg base x k np (dD np n bd):=⟨⟨fa,fd,ps,h,m,a,b⟩,NY⟩
def pf.calm{w:World}{K:Frag} {k:Nat} (h:pf P w K mg base x k np p):Za P w K mg base x k np (ug p):=by
 obtain⟨fa,fd,ps,F,m,a,b⟩:=h.ex;refine⟨⟨fa,fd,ps,G4 F,m,a,b⟩,λds d e=>h.len ds λz=>?_⟩
 rw[R.Lg e]at z;cases z
section
variable{X:Cx}{B:bv}{a b e o:Expr}{f g:Ex}{pos:Pos}{W:XW}
def J4{k:Nat} {f:ca} {E:XK} {c:L2.St} {Q:VK} (F:Ha X.prog X.w X.K X.mg X.base CX k fa fd ps sp) (i:Cb k X.A) (l:Binds X.K fd ps f) (j:Ka Ld f)
  (I:Ea X aa c H s) (r:Ka vs us) (g:∀e b,CX X.stack H s E e b->X.xe e b) (h:sp (vs++Ld) H Q E):wpAny (model X.prog X.w) X.A (call (.ref fa) us) (EP X aa c Q) X.xe s:=by
 have d:=r.append j;refine gx<|Em (F.run X.A X.stack s H _ _ _ Q E i I.yo (l s us I.Hf<|by rw[<-d.length];exact F.len _ _ _ _ h) d h) λr b a=>?_
 cases r with
 |error e=>exact g e b a
 |ok fl=>
  cases fl with
  |ret u=>exact I.after a
  |next=>exact False.elim a
  |brk=>exact False.elim a
  |cont=>exact False.elim a
def EW(X:Cx)(W:XW)(a:L2.St):XK:=λb _ H'=>∃C c d,b=.ref C/\ExcAt X.K c C d/\W (.Dg c [] []) a H'
def DP{b:L2.St} (i:pq X W) (I:Ea X aa b H s) (e:Value) (d:Shared) (h:Ng X.prog X.w X.stack H s (EW X W b) e d):X.xe e d:=by
 obtain⟨j,C,H',rfl,os,a,un,l,F,m,c,k,e1,g,f⟩:=h;cases e1;exact i aa b H s j C H' d I os a un l F ⟨c,k,g,f⟩
def yM{k:Nat} (h:pf X.prog X.w X.K X.mg X.base x k np p) (J:pq X W) (w:Cb j X.A) (y:k<=j) (G:PA X (e::es) (tA X.K B r)) (D:Gl X x:=by rfl) (t:dg x:=by decide)
  (he:Oe e es X.env:=by rfl) (hpl:lh pos es X.env:=by rfl):PE X (.Call (.Name x p0) (e::es) [] pos) (Bl X.K B W<|jM p r):=by
 obtain⟨fa,fd,ps,F,m,u,bd⟩:=h.ex;intro aa s σ H Q I ⟨A,st,i,q⟩;unfold jM at q;cases a:r st with
 |exc x=>rw[a]at q;exact q.elim
 |bad=>rw[a]at q;exact q.elim
 |ok xs=>
  rw[a]at q;refine Bq<|xQ I D m (Ww I.ok.mod.Tj u (Cc (G pos aa s σ H (λvs H1=>aR H H1/\bC X.K _ xs vs) I ⟨A,st,xs,i,a,λvs H1 s1 n=>⟨s1,n⟩⟩) λus s1 ⟨vs,H1,g,l,sm,rp⟩=>⟨g.Hf,(J4 F (w.mono y) bd .nil g l (DP J g) ?_)⟩) he hpl) t
  rw[so];have b:(match p xs with
   |.ok d=>∀v H',aR H H'->Ib X.K _ d v->Q v H'
   |.exc x=>∀H',aR H H'->W x σ H'
   |.bad=>False):=q
  refine⟨A++B,xs,i.own.mono sm,rp,h.len xs λz=>?_,?_⟩
  .rwa [z]at b
  cases f:p xs with
  |ok d=>rw[f]at b;exact λv H' s' o=>b v H' (sm.trans s') o
  |exc x=>rw[f]at b;exact λC c K H' e1 E s'=>⟨C,c,K,rfl,E,by rw[<-e1];exact b H'<|sm.trans s'⟩
  |bad=>rwa [f]at b
structure Bb(P:Program)(w:World)(K:Frag)(mg:dL)(base:Heap)(c m:String)(k np:Nat)(dv:db)(p:cr):Prop where
 ex:∃(C fa:Addr)(fd:FuncData)(ps:ut)(Ld:lw)(ds:ca),ClsAt K c C/\Meth K C (ofString m) fa/\Ha P w K mg base (Ng P w) k fa fd ps (tm K np p)/\Binds K fd ps ds/\Ka Ld ds/\∀H,bC K H dv Ld
 len:∀ds,p ds≠.bad->ds.length=np
def Bb.calm{w:World}{K:Frag} {k:Nat} (h:Bb P w K mg base c m k np dv p):ye P w K mg base c m k np dv (ug p):=by
 obtain⟨C,fa,fd,ps,Ld,ds,g,f,F,bd,a,b⟩:=h.ex;refine⟨⟨C,fa,fd,ps,Ld,ds,g,f,G4 F,bd,a,b⟩,λds d e=>h.len ds λz=>?_⟩
 rw[R.Lg e]at z;cases z
def vN{k:Nat} (h:Bb X.prog X.w X.K X.mg X.base c m k np dv p) (hL:pq X W) (T:Cb j X.A) (Y:k<=j) (U:PE X o (tI X.K B f)) (Z:PA X (e::es) (tA X.K B r))
  (Jg:Oe e es X.env:=by rfl) (hpl:lh pos es X.env:=by rfl)
  (S:eval (.Call (.Attribute o (ofString m) Fb) (e::es) [] pos) X.env=(do
   let J <- eval o X.env
   standAt Fb.atName
   let (f,first) <- holding [J] (getMethod J (ofString m) pl)
   callWith pos f first (backTo pos<|starEach (e::es) X.env) (backToKw pos<|keywordEach [] X.env)):=by rfl) :
  PE X (.Call (.Attribute o (ofString m) Fb) (e::es) [] pos) (Bl X.K B W<|pP c m p dv f r):=by
 obtain⟨C,fa,fd,ps,Ld,ds,i,K,F,bd,L,N⟩:=h.ex;intro aa s σ H Q I ⟨A,st,l,q⟩;unfold pP at q;cases g:f st with
 |exc x=>rw[g]at q;exact q.elim
 |bad=>rw[g]at q;exact q.elim
 |ok x=>
  rw[g]at q;cases b:r st with
  |exc y=>rw[b]at q;exact q.elim
  |bad=>rw[b]at q;exact q.elim
  |ok xs=>
   rw[b]at q;cases x<;>first|exact q.elim|skip
   rename_i c' ns OR
   by_cases t:c'=c/\m∉ns
   .have a:(match aP _ _ with
     |.ok d=>∀v H',aR H H'->Ib X.K _ d v->Q v H'
     |.exc x=>∀H',aR H H'->W x σ H'
     |.bad=>False):=q
    rw[aD t]at a;obtain⟨rfl,V⟩:=t;refine RP (Cc (U aa s σ H (λv H1=>aR H H1/\Ib X.K _ _ v) I ⟨A,st,_,l,g,λv H1 s1 P=>⟨s1,P⟩⟩) λu s1 ⟨y,H1,I1,rx,sm1,ry⟩=>?_) S
    obtain⟨G,C',dx,fs,e2,h5,h6,h7,h8⟩:=kY.ins<|.inl ry;have:C'=C:=by have z:=h6.symm.trans i.ns;injection z with z;injection z with z;injection z
    subst this;subst e2;obtain rfl:u=Value.ref G:=rx;refine eK I1 h5 i.cl K (lookup_none h7 V)<|Ww I.ok.mod.Tj K.kp (Cc (Z pos aa s1 σ H1 (λvs D=>aR H1 D/\bC X.K _ xs vs) I1 ⟨A,st,xs,l.mono sm1,b,λvs D E O=>⟨E,O⟩⟩) λus E ⟨vs,D,w,M,rl,rp⟩=>⟨w.Hf,(J4 (vs:=.ref G :: vs) F (T.mono Y) bd L w (.cons rfl M) (DP hL w) ?_)⟩) Jg hpl
    have sm:=sm1.trans rl;refine⟨A++B,_,l.own.mono sm,.cons (ry.mono<|aR.hide rl)<|rp.append<|N _,h.len _ λz=>?_,?_⟩
    .rwa [z]at a
    cases n:p (.ins c' ns OR::(xs++dv)) with
    |ok d=>rw[n]at a;exact λv H' s' R=>a v H' (sm.trans s') R
    |exc x=>rw[n]at a;exact λC c bm H' e1 i s'=>⟨C,c,bm,rfl,i,by rw[<-e1];exact a H'<|sm.trans s'⟩
    |bad=>rwa [n]at a
   have a:(match aP (c'=c/\m∉ns) (p _) with
    |.ok d=>∀v H',aR H H'->Ib X.K _ d v->Q v H'
    |.exc x=>∀H',aR H H'->W x σ H'
    |.bad=>False):=q
   rw[show aP _ _=.bad from Pa t]at a
   exact a.elim
def dj(K:Frag)(d:Addr)(b:Bool)(c:String):Prop:=∀C a,ExcAt K c C a->(Value.ref C::a).contains (.ref d)=b
def BD(X:Cx)(B:bv)(a:List ExceptHandler)(b:List (List String×List String×(String->Bd))):Prop:=
 PH X a λC Dn σ H=>∃c d A st r,ExcAt X.K c C d/\RS X.K B A H st σ/\Ew b c st=.ok r/\au X.K B A H r Dn
def K4:BD X B [] []:=λ_ _ _ _ _ _ _ _ ⟨_,_,_,_,_,_,_,h,_⟩=>nomatch h
def Z0{d:String}{n:Pos} {l:Stmt} {rest:List ExceptHandler} {a b:re} (x:ExcAt X.K d D' Xz) (v:X.mg (ofString d)=some (.ref D')) (o:∀c∈a,dj X.K D' true c) (u:∀c∈b,dj X.K D' false c)
  (p:∀j,Ae (held X j) (l::vm)<|tS X.K B bh) (t:BD X B rest hl) (w:Gl X (ofString d):=by rfl) (m:dg (ofString d):=by decide) :
  BD X B (.ExceptHandler (some<|.Name (ofString d) n) none (l::vm) hpos::rest) ((a,b,TR bh)::hl):=by
 intro aa s σ H Dn j C F ⟨c,f,A,st,r,e,k,h,q⟩;refine bGc x v p t w m aa s σ H Dn j C F ⟨c,f,e,?_⟩;have h':(if c∈a then (bh st).Ve else if c∈b then Ew hl c st else .bad)=.ok r:=h
 by_cases i:c∈a
 .rw[Kb i]at h';rw[Kb<|o c i C f e];exact⟨A,st,r,k,R.Lg h',q⟩
 rw[Pa i]at h'
 by_cases g:c∈b
 .rw[Kb g]at h';rw[Pa (by rw[u c g C f e];decide)]
  exact⟨c,f,A,st,r,e,k,h',q⟩
 rw[Pa g]at h';cases h'
def M7{a:ExceptHandler} {b:Bd} (f:∀(h:ce) (E:be) (W:XW),pq (wq X h E) W->Ae (wq X h E) body (aj X.K B true W b)) (q:BD X B (a::hs) hl)
  (F:X.stack=X.env::X.outer/\X.env.frame=some X.env.locals:=by exact⟨rfl,rfl⟩):PS X (.Try body (a::hs) [] [] pos) (tS X.K B<|Zt b hl):=by
 refine fC (bKn (tb:=λm=>aj X.K B true (λx k H'=>∀C c g,x=.Dg c [] []->ExcAt X.K c C g->m C k H') b) F (λh E m hL=>f h E _ ?_) q) ?_
 .intro aa σ H s D C H' s' I y w v u t ⟨c,g,j,o⟩;exact hL aa σ H s D C H' s' I y w v u t<|o C c g rfl j
 rintro Dn σ H ⟨A,st,r,n,d,p⟩;refine⟨A,st,n,?_⟩;unfold Zt at d;cases f:b st with
 |ok J=>rw[f]at d;cases d;exact p
 |bad=>rw[f]at d;cases d
 |exc x=>
  rw[f]at d;intro G st' k H' l i e C c g z j;subst z;have:=e rfl;subst this;exact⟨c,g,G,st',r,j,i,d,p.mono l⟩
def Bb.of{w:World}{K:Frag} {f:Addr} {k:Nat} {a:ca} (e:ClsAt K c C) (d:Meth K C (ofString m) f) (F:Ha P w K mg base (Ng P w) k f fd ps (tm K np<|dD np n bd)) (b:Binds K fd ps a) (v:Ka Ld a) (r:∀H,bC K H dv Ld):Bb P w K mg base c m k np dv (dD np n bd):=
 ⟨⟨C,f,fd,ps,Ld,a,e,d,F,b,v,r⟩,NY⟩
end
section
variable {a b:Expr}
def bO0(m:X.A.units+64<cLine)(p:PE X a (Bl X.K B W f))(o:PE X b (tP X.K B g))(n:AM b:=by intro _ _;rfl):PE X (.Subscript a b pos) (Bl X.K B W<|wx jb f g):=by
 refine cC (W6 (B5.or<|Z3 m) p o n) ?_
 rintro σ H Q ⟨A,st,i,q⟩;unfold wx at q;refine⟨A,st,i,?_⟩;cases j:f st with
 |bad=>rwa [j]at q
 |exc x=>rwa [j]at q
 |ok x=>
  rw[j]at q;intro v H1 s1 k;cases h:g st with
  |bad=>rw[h]at q;exact q.elim
  |exc y=>rw[h]at q;exact q.elim
  |ok y=>
   rw[h]at q;refine⟨A,st,y,i.mono s1,h,λu H2 s2 r2=>?_⟩
   cases e:jb x y with
   |bad=>
    have c:(match (jb x y).Ve with
     |.ok d=>∀v H',aR H H'->Ib X.K _ d v->Q v H'
     |.exc x=>∀H',aR H H'->W x σ H'
     |.bad=>False):=q
    rw[e]at c;exact c.elim
   |exc z=>
    have c:(match (jb x y).Ve with
     |.ok d=>∀v H',aR H H'->Ib X.K _ d v->Q v H'
     |.exc x=>∀H',aR H H'->W x σ H'
     |.bad=>False):=q
    rw[e]at c;exact c.elim
   |ok d=>
    have c:(match (jb x y).Ve with
     |.ok d=>∀v H',aR H H'->Ib X.K _ d v->Q v H'
     |.exc x=>∀H',aR H H'->W x σ H'
     |.bad=>False):=q
    rw[e]at c;exact d4 _ H2 x y d v u Q (i.own.mono<|s1.trans s2) (.inl<|k.mono<|aR.hide s2) r2 e λw H' s' l=>c w H' (s1.trans<|s2.trans s') l
end
section
variable{K:Frag} {B Kg:String}
def bCz(F:ExcBaseFacts B newId Kg An)(a:nsIn K mainGlobals (ofString c)=some (some<|.ref C))(q:excIn K C An newId=true)(J:findIn K (.ref C) "__getattribute__"=some (some<|.builtin "BaseException.__getattribute__"))(E:findIn K (.ref C) "__getattr__"=some none)(D:mroIn K C (.type "BaseException")=some true)(I:findIn K (.ref C) "__class__"=some (some<|.builtin "object.__class__"))
  (H:specialIn K (.builtin "object.__class__") "__get__"=some (some<|.builtin "getset_descriptor.__get__")) (G:takesIn K (.builtin "object.__class__")=some true) (b:mroIn K C (.type "object")=some true):∃g,ExcAt K c C g:=by
 unfold excIn at q;split at q
 .rename_i N t i z;split at q
  .rename_i Q g o m l k n j p P;simp at q;obtain⟨⟨⟨⟨⟨e1,e2⟩,s⟩,L⟩,d⟩,r⟩:=q;refine⟨g,a,⟨B,newId,Kg,An,F,λh Tj=>?_⟩,(⟨J,E,D,(by
  unfold mroIn at b;cases e:clsIn K C with
  |none=>rw[e]at b;cases b
  |some t=>rfl),I,H,G,b⟩)⟩
   obtain⟨x,bs,y,ns,w,A,v,sub,O,f,M⟩:=t;dsimp only at p s d r;have u:i = #[o,m,l,k,some<|.builtin n,j]:=by rw[<-Array.toArray_toList (xs:=i),P]
   subst u;subst e1 e2 s p;exact⟨ns,x,w,bs,A,v,sub,O,f,N,o,m,l,k,j,h.nsMap ns,Tj _ _ z,.of_isNs<|PySem.W.isNs_of_in Tj d,PySem.W.nsMap_none_of_in Tj d r,PySem.W.tail_of_in Tj L⟩
  cases q
 cases q
def bKp{b:Addr}(e:nsIn K mainGlobals x=some (some<|.ref a))(c:nsIn K mainGlobals x=some (some<|.ref b)):a=b:=by
 have z:=e.symm.trans c;injection z with z
 injection z with z
 injection z
def yr(i:K.In h)(a:nsIn K mainGlobals (ofString c)=some (some<|.ref C))(m:mroIn K C (.ref D')=some b):dj K D' b c:=λj r g=>by
 have:=bKp g.ns a;subst this;obtain⟨_,_,_,_,_,d⟩:=g.ob;obtain⟨N,t,q,bs,f,s,sub,D,o,B,A,y,x,w,v,u,l,_⟩:=d h i;unfold mroIn at m;cases e:clsIn K j with
 |none=>rw[e]at m;cases m
 |some p=>
  rw[e,Option.bind_some]at m;unfold clsIn at e;split at e
  .rename_i n;cases e;have z:=(i _ _ n).symm.trans l;have k:p.mro=.ref j::r:=by
    injection z with z
    injection z with _ _ z _
    injection z with z
    rw[z]
   split at m
   .cases m
   injection m with m
   rwa [k]at m
  cases e
end
section
variable{w:World}{K:Frag} {f:Addr} {k:Nat}
def nh.of(d:ClsAt K c C)(a:Mk K C f)(F:Ha P w K mg base wc k f fd ps (FC K c np<|uq c np n bd))(b:Binds K fd ps [])(m:mg (ofString c)=some (.ref C)):nh P w K mg base c k np (uq c np n bd):=
 ⟨⟨C,f,fd,ps,d,a,F,b,m⟩,bCs⟩
end
section
variable{P:List α->Prop}
def L4(h:P [])(a:List α)(b:a.length=0):P a:=by rwa [Nw.mp b]
def Mv(h:∀a b,b.length=n->P (a::b))(b:List α)(c:b.length=n+1):P b:=by
 cases b with
 |nil=>cases c
 |cons a b=>exact h a b<|Nat.succ.inj c
def XM(h:∀a,P [a])(b:List α)(c:b.length=1):P b:=Mv (λa=>L4<|h a) b c
def YM(h:∀a b,P [a,b])(c:List α)(d:c.length=2):P c:=Mv (λa=>XM<|h a) c d
def yN(h:∀a b c,P [a,b,c])(d:List α)(e:d.length=3):P d:=Mv (λa=>YM<|h a) d e
def M4(h:∀a b c d,P [a,b,c,d])(e:List α)(f:e.length=4):P e:=Mv (λa=>yN<|h a) e f
def RE(h:∀a b c d e,P [a,b,c,d,e])(f:List α)(g:f.length=5):P f:=Mv (λa=>M4<|h a) f g
def bGe(h:∀a b c d e f,P [a,b,c,d,e,f])(g:List α)(i:g.length=6):P g:=Mv (λa=>RE<|h a) g i
end
def Vi(K:Frag)(G H:Hp):List (List D)->List Addr->Prop
 |[],ps=>ps=[]
 |xs::a,ps=>∃p r vs,ps=p::r/\H p=some (.lst vs)/\bC K G xs vs/\Vi K G H a r
theorem Vi.len{K:Frag}{G H:Hp}:∀{a:Ix} {ps:bv},Vi K G H a ps->ps.length=a.length
 |[],ps,h=>by rw[h];rfl
 |xs::a,ps,h=>by
  obtain⟨p,r,vs,rfl,_,_,b⟩:=h;rw[fg,fg,Vi.len b]
theorem Vi.get{K:Frag}{G H:Hp}:∀{a:Ix} {ps:bv} {k:Nat} {xs:db},Vi K G H a ps->a[k]?=some xs->∃p vs,ps[k]?=some p/\H p=some (.lst vs)/\bC K G xs vs
 |[],_,_,_,_,e=>by simp at e
 |x::a,ps,0,xs,h,e=>by
  obtain⟨p,r,vs,rfl,f,d,_⟩:=h;simp at e;subst e;exact⟨p,vs,rfl,f,d⟩
 |x::a,ps,k+1,xs,h,e=>by
  obtain⟨p,r,vs,rfl,_,_,c⟩:=h;obtain⟨b,g,e1,e2⟩:=Vi.get c (by simpa using e)
  exact⟨b,g,by simpa using e1,e2⟩
theorem Vi.mono{K:Frag}{G H b:Hp}(g:aR G G'):∀{a:Ix} {ps:bv},(∀p∈ps,∀o,H p=some o->b p=some o)->Vi K G H a ps->Vi K G' b a ps
 |[],_,_,h=>h
 |x::a,ps,k,h=>by
  obtain⟨p,r,vs,rfl,f,e,d⟩:=h;exact⟨p,r,vs,rfl,k p Zb _ f,e.mono g,Vi.mono g (λq c=>k q<|Lc _ c) d⟩
def LC(K:Frag)(B:bv)(i:Nat)(b:Bd):TS:=λDn σ H=>∃A st st' xs,RS K B A H st σ/\b st=.ok (.nx st')/\st'[i]?=some (some<|.o .l xs)/\∀c a vs H',Le A H c H'->a∈c->H' a=some (.lst vs)->bC K (hide (c++B) H') xs vs->Dn.rt (.ref a) H'
def Wx(K:Frag)(b:Nat)(p:cr):Sp:=λvs H Q _=>∃A ds xs,Own A H/\bC K (hide A H) ds vs/\ds.length=b/\p ds=.ok (.lst xs)/\∀a ws H',aR H H'->H a=none->H' a=some (.lst ws)->bC K (hide (a::A) H') xs ws->Q (.ref a) H'
section
variable {rest:List Stmt}
def N4(k:PS X sm (tS X.K B bd))(j:Ae X rest (LC X.K B i Rk)):Ae X (sm::rest) (LC X.K B i<|aW bd Rk):=vL (JD k j) (by
 rintro Dn σ H ⟨A,st,st',xs,e,h,g,q⟩;obtain⟨fl,n,b⟩:=R.ua h;refine⟨A,st,fl,e,n,?_⟩;cases fl with
 |nx s1=>exact λp r H' l c=>⟨p,s1,st',xs,c,b,g,λo a vs m f=>q o a vs m<|l.trans f⟩
 |rt d=>cases b
 |bk s1=>cases b
 |ct s1=>cases b)
def bKq(h:X.N[i]?=some x:=by rfl)(d:Ik X.env.scope x:=by exact Wo rfl)(f:dg x:=by decide)(k:Vo x:=by decide) :
  Ae X [.Return (some<|.Name x p1) pos] (LC X.K B i cX):=vL (fE<|nN<|vQ h d f k) (by
 rintro Dn σ H ⟨A,st,st',xs,b,g,e,q⟩;cases g;obtain⟨a,o,vs,e1,m,j,c,r,_⟩:=b.lst i .l xs e;subst c;exact⟨.ref a,e1,q A a vs H Le.refl m j r⟩)
end
section
variable{w:World}{K:Frag} {st:Stmt} {f:Addr} {k:Nat}
def bPr(F:Qa K x qual st dV f fd)(S:Dd N ps (bD st))(m n i:Nat)(t:Bd)(L:ps.length=m)(G:N.length=n)
  (g:∀(j:Value)(A:Around)(c:xz)(s:Shared)(H:Hp)(E:XK)(B:bv),Cb k (A.deeper<|envOfC qual (bD st) s.heap.objs.size f j)->
   Ae (Kk wc P w K mg base N qual (bD st) f j A c s H E).Ve (dI st) (LC K B i t)):Ha P w K mg base wc (k+1) f fd ps (Wx K m<|dD m n<|mq t i):=by
 refine F.Nn S (λvs H Q E h=>?_)<|λj A c s H vs Q E C h=>?_
 .obtain⟨A,ds,d,own,r,hl,_⟩:=h;rw[r.length,hl,L]
 obtain⟨B,ds,xs,own,r,hl,D,q⟩:=h;refine⟨LC K B i t,g j A c s H E B C,?_⟩;obtain⟨_,J⟩:=aM D;obtain⟨fl,e,I⟩:=R.ua J;have u:=QL (N:=N) own r;rw[hl,G]at u;unfold mq at e;split at e
 .rename_i s1 p;unfold SO at e;split at e
  .rename_i e1;cases e;cases I;refine⟨[],_,s1,_,u,p,e1,λT a M H' l ha y v=>q a M H' (by
    unfold Le at l;exact l.trans<|aX _ _) ?_ y<|v.mono<|jC λb g=>?_⟩
   .cases O:H a with
    |none=>rfl
    |some o=>
     have z:=l a o (by rwa [bC0])
     rw[iT ha]at z;cases z
   rcases qc.mp g with rfl|g
   .exact Kl _ ha
   exact oh _ g
  cases e
 cases e
def ŭ(h:dD np n (mq bd i) ds=.ok d):∃xs,d=.lst xs:=by
 obtain⟨_,c⟩:=aM h;obtain⟨fl,a,b⟩:=R.ua c;unfold mq at a;split at a
 .unfold SO at a;split at a
  .cases a;cases b;exact⟨_,rfl⟩
  cases a
 cases a
def Ů(o:∀e d,p e=.ok d->∃xs,d=.lst xs) (F:Ha P w K mg base wc k f fd ps (Wx K np p)):Ha P w K mg base wc k f fd ps (Xc K np p):=by
 have i:∀vs H Q E,Xc K np p vs H Q E->Wx K np p vs H Q E:=by
  rintro vs H Q E ⟨A,e,d,own,r,hl,l,q⟩;obtain⟨xs,rfl⟩:=o e d l;refine⟨A,e,xs,own,r,hl,l,λa ws H' sm t j m=>q _ H' sm<|eO.mpr ⟨a,ws,rfl,(by rwa [bQ<|own.free t]),m.mono<|jC λb g=>Lc _ g⟩⟩
 exact⟨λvs H Q E h=>F.len vs H Q E<|i vs H Q E h,λA outer s H c us vs Q E n u g j h=>F.run A outer s H c us vs Q E n u g j<|i vs H Q E h⟩
end
structure ze(P:Program)(w:World)(K:Frag)(mg:dL)(base:Heap)(c m:String)(k np:Nat)(dv:db)(p:cr):Prop where
 ex:∃(C fa:Addr)(fd:FuncData)(ps:ut)(Ld:lw)(ds:ca),ClsAt K c C/\Meth K C (ofString m) fa/\Ha P w K mg base wc k fa fd ps (Wx K np p)/\Binds K fd ps ds/\Ka Ld ds/\∀H,bC K H dv Ld
 len:∀ds d,p ds=.ok d->ds.length=np
 lst:∀ds d,p ds=.ok d->∃xs,d=.lst xs
def ze.of{w:World}{K:Frag} {k:Nat} {f:Addr} {a:ca} (e:ClsAt K c C) (d:Meth K C (ofString m) f) (F:Ha P w K mg base wc k f fd ps (Wx K np<|dD np n<|mq bd i)) (b:Binds K fd ps a) (v:Ka Ld a) (r:∀H,bC K H dv Ld):ze P w K mg base c m k np dv (dD np n<|mq bd i):=
 ⟨⟨C,f,fd,ps,Ld,a,e,d,F,b,v,r⟩,my,λ_ _ h=>ŭ h⟩
def ze.plain{w:World}{K:Frag} {k:Nat} (h:ze P w K mg base c m k np dv p):ye P w K mg base c m k np dv p:=by
 obtain⟨C,fa,fd,ps,Ld,ds,d,a,F,b,v,r⟩:=h.ex;exact⟨⟨C,fa,fd,ps,Ld,ds,d,a,Ů h.lst F,b,v,r⟩,h.len⟩
section
def bKr{k:Nat} (h:ze X.prog X.w X.K X.mg X.base c m k np dv p) (K:Cb j X.A) (O:k<=j) (L:PE X o (tI X.K B f)) (S:PA X (e::es) (tA X.K B r))
  (Jg:Oe e es X.env:=by rfl) (hpl:lh pos es X.env:=by rfl)
  (J:eval (.Call (.Attribute o (ofString m) Fb) (e::es) [] pos) X.env=(do
   let i <- eval o X.env
   standAt Fb.atName
   let (f,first) <- holding [i] (getMethod i (ofString m) pl)
   callWith pos f first (backTo pos<|starEach (e::es) X.env) (backToKw pos<|keywordEach [] X.env)):=by rfl) :
  PE X (.Call (.Attribute o (ofString m) Fb) (e::es) [] pos) (tF X.K B<|rT c m p dv f r):=by
 obtain⟨C,fa,fd,ps,Ld,ds,l,N,F,bd,w,D⟩:=h.ex;refine cC (mM L l.cl N F (K.mono O) bd w zr S Jg hpl J) ?_
 rintro σ H Q ⟨A,st,xs,g,P,q⟩;obtain⟨x,I,W⟩:=R.ua P;obtain⟨ys,Mo,s⟩:=R.ua W;refine⟨A,st,x,g,I,λv H1 s1 r1=>?_⟩
 cases x<;>first|(cases s)|skip
 obtain⟨⟨e1,M⟩,n⟩:=aM s;subst e1;obtain⟨G,C',Z,fs,e2,V,U,T,h8⟩:=kY.ins<|.inl r1;have:C'=C:=by have z:=U.symm.trans l.ns;injection z with z;injection z with z;injection z
 subst this;refine⟨G,Z,fs,e2,V,lookup_none T M,A,st,ys,g.mono s1,Mo,λvs H2 s2 E=>⟨A++B,_,xs,g.own.mono<|s1.trans s2,.cons (r1.mono<|aR.hide s2)<|E.append<|D _,h.len _ _ n,n,λa ws H' s' Up hv rv=>?_⟩⟩
 have Y:Tb (hide [a] H') a (.lst ws)=H':=by
  funext b
  by_cases d:b=a
  .subst d;rw[bO];exact hv.symm
  rw[aZ d,bQ (by simpa using d)]
 have z:=q a ws (hide [a] H') (λb u hz=>?_) (iT<|by simp) ?_
 .rwa [Y]at z
 .have t:=s2 _ _<|s1 _ _ hz;rw[bQ (by simpa using aU t Up)]
  exact s' _ _ t
 refine rv.mono λb u hz=>?_
 have d:b∉a::(A++B):=λy=>by rw[iT y]at hz;cases hz
 rw[bQ λy=>d<|Lc _ y,bQ (by simpa using λy=>d<|by rw[y];exact Zb)]
 exact aX _ _ _ _ hz
end
def FJ(K:Frag)(a:Addr):It:=
 ⟨λi H=>∃xs x,ue K H a xs/\xs[i]?=some x,λi H x H'=>∃T v,x=V.ref T/\H T=none/\H'=Tb H T (.tup [.int (i:Int),v])/\∀xs,ue K H a xs->xs[i]?=some v,λi H=>∃xs,ue K H a xs/\xs.length<=i⟩
theorem ů{w:World}{K:Frag} {x1} (a e it:Addr) (Y:e≠it):Turn P w K (.Tuple Kj x1 tp) (FJ K a) [e,it] e (λi h=>(∃j,IsEnum h e it (i:Int) j)/\h.IsListIter it a i) where
 mem:=by simp
 obj:=λi h st b g=>by
  obtain⟨⟨j,m⟩,hit⟩:=st;simp only[mem_cons,not_mem_nil,or_false]at g;rcases g with rfl|rfl
  .exact⟨_,m,λv z=>by cases z⟩
  obtain⟨o,e1,c,d⟩:=hit;exact⟨o,e1,λv z=>by rw[d]at z;cases z⟩
 keep:=λi h h' st k=>by
  obtain⟨⟨j,m⟩,hit⟩:=st;exact⟨⟨j,k e (by simp) _ m⟩,hit.at λo x=>k it (by simp) o x⟩
 item:=by
  intro X O L Q T i aa s σ H E I F st M;subst O L Q;obtain⟨⟨j,m⟩,hit⟩:=st;obtain⟨xs,x,D,l⟩:=M;obtain⟨J,G,p,hz⟩:=I.list D;obtain⟨u,hu,ru⟩:=G.get l;have A:=F e (by simp)
  have t:=F it (by simp)
  have U:=I.Xa.fresh<|Ec _;refine wpAny_pyNext_enum_item m hit p.isList (by simpa using hu) Y λh' ho Km N zh hk=>⟨_,rfl,wpAny_letOwnedTupleGo_enum ho λh2 XR sb=>?_⟩
  have f:=λb o V h3 q=>(sb.2 b V).trans<|hk b o V h3 q
  have elt:=ff<|Tc m;have Z:=(sb.2 _ elt.symm).trans N;have nT:∀b r,H b=some r->b≠s.heap.objs.size:=λb r q=>aU q U
  have R:∀b r,H b=some r->b≠e/\b≠it:=λb r q=>⟨aU q A.1,aU q t.1⟩
  have mx:∀b:Addr,b∉[e,it]->b≠e/\b≠it:=λb g=>⟨λz=>g (by simp[z]),λz=>g<|by simp[z]⟩
  have C:∀b o,s.heap.get? b=some o->b≠s.heap.objs.size:=λb o q=>ff<|Tc q
  have un:Un (Xg X.stack) [e,it] H (Tb H s.heap.objs.size<|.tup [.int i,x]) s.heap h2:=by
   refine⟨λb o q n g l=>f b o (mx b l).1 (mx b l).2 q,λb o q n g l=>⟨o.slots,f b o (mx b l).1 (mx b l).2 q⟩,λb o q n l=>by rwa [aZ<|C b o q],λb o q l=>⟨o,f b o (mx b l).1 (mx b l).2 q⟩,λb ys q=>by rwa [aZ<|nT b _ q],λb o r q=>by rw[aZ<|nT b _ q];exact q,λb ps q=>⟨#[],by rw[aZ<|nT b _ q,Array.append_empty];exact q⟩⟩
  have Xa:Bf X.prog X.w (Tb H s.heap.objs.size<|.tup [.int i,x]) h2:=λb r q=>by
   by_cases g:b=s.heap.objs.size
   .subst g;rw[bO]at q;cases q;exact⟨show 2<=sizeLine by decide,[.int i s.toks,u],.cons ⟨_,rfl⟩<|.cons ru .nil,_,Z,rfl,_,rfl⟩
   rw[aZ g]at q;refine(I.Xa b r q).Dh (λc v jj B=>?_) (λc B=>by rwa [aZ<|nT c _ B]) λc ys B=>by rwa [aZ<|nT c _ B]
   have:∃W,H c=some W:=by
    rcases jj with z|z
    .exact⟨r,by rw[z];exact q⟩
    exact⟨_,z⟩
   obtain⟨W,S⟩:=this;exact f c v (R c _ S).1 (R c _ S).2 B
  have I2:Ea X aa σ _ {s with heap:=h2,toks:=s.toks+1}:=I.call un Xa I.bare λb g=>by
   simp only[mem_cons,not_mem_nil,or_false]at g;rcases g with rfl|rfl
   .exact⟨A.2.2.2.1,A.2.1,A.2.2.2.2.1,A.2.2.2.2.2⟩
   exact⟨t.2.2.2.1,t.2.1,t.2.2.2.2.1,t.2.2.2.2.2⟩
  refine⟨.ref s.heap.objs.size,_,I2,rfl,⟨_,x,rfl,U,rfl,λys hy=>by rwa [I.dh hy D]⟩,⟨⟨_,by simpa using XR⟩,Km.at λo y=>(sb.2 it Y.symm).trans y⟩,λb g=>?_⟩
  simp only[mem_cons,not_mem_nil,or_false]at g;rcases g with rfl|rfl
  .rw[aZ elt];exact A.1
  rw[aZ (by obtain⟨o,q,_⟩:=hit;exact C _ _ q)];exact t.1
 done:=by
  intro X O L Q T i aa s σ H E I F st M;subst O L Q;obtain⟨⟨j,m⟩,hit⟩:=st;obtain⟨xs,D,l⟩:=M;obtain⟨J,G,p,hz⟩:=I.list D;obtain⟨f0,f1,f2,f3,f4,f5⟩:=F it (by simp)
  have hl:=G.length;exact wpAny_pyNext_enum_end (I.ok.hd T) m hit p.isList (by simp;lia) λh' eb=>⟨rfl,I.turned (λb o g e=>eb b o g e) f0 f1 f3 f4 f5⟩
 self:=λ_ _ _ _ _ st h=>by
  obtain⟨⟨j,m⟩,_⟩:=st;exact wpAny_pyIter_enum m h
theorem OY:∀(n:Nat)(a:db),(wL n a).length=a.length
 |_,[]=>rfl
 |n,d::a=>by rw[wL,fg,fg,OY]
theorem PY:∀(n:Nat)(a:db)(i:Nat),(wL n a)[i]?=a[i]?.map λd=>D.tup [.int ((n+i:Nat):Int),d]
 |_,[],_=>by simp[wL]
 |n,d::a,0=>by simp[wL]
 |n,d::a,i+1=>by
  rw[wL,BQ,BQ,PY (n+1) a i,show n+1+i=n+(i+1) by lia]
section
variable {a:Expr}
def bKs{K:Frag} (j:ue K (hide (A++B) H) l vs) (r:bC K (hide (A++B) H) ds vs):bu K B A H (FJ K l) (wL 0 ds):=by
 intro o H' c own i;have b:=(aX _ _).seq<|(Le.app c).seq j;refine⟨λd hd=>?_,λhl=>⟨vs,b,by rw[r.length];rwa [OY]at hl⟩⟩
 rw[PY,cx]at hd;cases a:ds[i]? with
 |none=>rw[a]at hd;cases hd
 |some m=>
  rw[a]at hd;cases hd;obtain⟨v,f,h⟩:=r.get a;refine⟨⟨vs,v,b,f⟩,λx n y=>?_⟩
  obtain⟨T,v',rfl,g,rfl,k⟩:=y;have e:=k vs b;rw[f]at e;cases e;exact⟨cQ g,vK own g<|.cons (bK.mpr rfl)<|.cons (h.mono<|Le.app c) .nil⟩
def bGf{x1}{p:Pos}(m:X.mg "enumerate"=none)(t:PE X a (tI X.K B f))(o:Gl X "enumerate":=by rfl)(c:starEach [a] X.env=[(false,eval a X.env)]:=by rfl):L2.PI X (.Tuple Kj x1 tp) (.Call (.Name "enumerate" p) [a] [] pos) (Um X.K B<|b8 f):=by
 intro aa s σ H D I ⟨A,st,ds,i,r,q⟩;obtain⟨x,k,g⟩:=R.ua r;cases x<;>first|(cases g;done)|skip
 rename_i xs;cases g;refine Call_<|vR I o m boot_enumerate<|fu (Cc ((cM t fJ c) pos aa s σ H (λvs H1=>∃v,vs=[v]/\aR H H1/\Ib X.K (hide _ H1) _ v) I ⟨A,st,_,i,k,λv H1 s1 r1=>⟨v,rfl,s1,r1⟩⟩) λus s1 ⟨vs,H1,I1,r1,v,hv,sm,rv⟩=>?_) c rfl
 subst hv;obtain⟨l,ws,rfl,d,w⟩:=eO.mp rv;obtain⟨u,rfl,h⟩:=r1.one;subst h;obtain⟨j,C,p,z⟩:=I1.list<|(aX _ _).seq d;refine call_enumerate_list p.isList λh' e hit y n=>wpAny_pyIter_enum e ⟨s1.heap.objs.size+1,[s1.heap.objs.size+1,s1.heap.objs.size],_,FJ X.K l,H1,rfl,I1.kept n,ů l _ s1.heap.objs.size<|Wr<|Np _,⟨⟨_,e⟩,hit⟩,λb hb=>?_,q _ H1 sm<|bKs d w⟩
 simp at hb;rcases hb with rfl|rfl
 .exact I1.Mj (Qp _) (I1.Xa.fresh<|Qp _)
 exact I1.Mj (Ec _)<|I1.Xa.fresh<|Ec _
end
section
variable {a b:Expr}
theorem B1:∀{b:li}{a:ca},Ka (b.map V.int) a->IntsAre a b
 |[],a,h=>by rw[h.zero];exact .nil
 |n::b,a,h=>by
  cases h with
  |cons r t=>
   obtain⟨k,rfl⟩:=r;exact .cons n k<|B1 t
theorem QY{K:Frag}{H:Hp}:∀{l:li}{vs:lw},bC K H (l.map D.int) vs->vs=l.map V.int
 |[],vs,h=>cZ.mp h
 |i::l,vs,h=>by
  obtain⟨v,r,rfl,b,a⟩:=bM.mp h;rw[bK.mp b,QY a];rfl
end
def xv:Hp:=λ_=>none
def SE:aR xv H:=λ_ _ h=>nomatch h
def VL{K:Frag} (h:atom d=true) (r:Ib K H d v):Ib K xv d v:=by
 cases d<;>first|(cases h;done)|skip
 .exact sU.mpr (sU.mp r)
 .exact dW.mpr (dW.mp r)
 .exact bK.mpr (bK.mp r)
 exact eF.mpr<|eF.mp r
theorem iL{K:Frag}{H:Hp}:∀{a:db}{vs:lw},a.all atom=true->bC K H a vs->bC K xv a vs
 |[],_,_,r=>by rw[cZ.mp r];exact .nil
 |d::a,_,h,r=>by
  obtain⟨v,w,rfl,q,t⟩:=bM.mp r;rw[all_cons,Xr]at h;exact .cons (VL h.1 q)<|iL h.2 t
def tD(K:Frag)(B:bv)(f:Ex):TE:=λσ H Q=>∃A st d,RS K B A H st σ/\f st=.ok d/\∀v H',aR H H'->(∀Z,Own Z H->Ib K (hide Z H') d v)->Q v H'
def tC(K:Frag)(B:bv)(f:Ex):TE:=λσ H Q=>∃A st d xs,RS K B A H st σ/\f st=.ok d/\Sv d=.ok (.lst xs)/\∀P ps H',aR H H'->(∀p∈P::ps,H p=none)->(P::ps).Nodup->H' P=some (.lst<|ps.map V.ref)->Vi K xv H' (xs.map YC) ps->Q (.ref P) H'
def RY(h:Sv d=.ok (.lst xs)):d=.lst xs/\xs.length<=big/\xs.all Wy=true:=by
 cases d<;>first|(cases h)|skip
 obtain⟨⟨c,b⟩,a⟩:=aM h;cases a;exact⟨rfl,c,b⟩
def Ī{e:D}(h:Sv d=.ok e):∃xs,e=.lst xs:=by
 cases d<;>first|(cases h)|skip
 obtain⟨_,a⟩:=aM h;cases a;exact⟨_,rfl⟩
theorem Vi.snoc{K:Frag}{G H:Hp}{ys:db}{n:Addr}{a:lw}(d:H n=some (.lst a))(c:bC K G ys a):∀{b:Ix} {ps:bv},Vi K G H b ps->Vi K G H (b++[ys]) (ps++[n])
 |[],ps,h=>by rw[h];exact⟨n,[],a,rfl,d,c,rfl⟩
 |x::b,ps,h=>by
  obtain⟨p,r,vs,rfl,g,f,e⟩:=h;exact⟨p,r++[n],vs,rfl,g,f,Vi.snoc d c e⟩
def NC(K:Frag)(j:Nat):TE:=λτ H Q=>∃l xs,τ[j]?=some (some<|.ref l)/\ue K H l xs/\∀n,H n=none->Q (.ref n) (Tb H n<|.lst xs)
def WI(j:Nat):TG:=λv τ H Q=>Q (τ.set j<|some v) H
theorem bKt{K:Frag} {st:za} (R:RS K B A H st σ) (hj:j<σ.length) (hx:Cd f st=.ok xs) (hl:xs.length<=big) (I:xs.all Wy=true) {Q:VK}
  (q:∀P ps d,aR H d->(∀p∈P::ps,H p=none)->(P::ps).Nodup->d P=some (.lst<|ps.map V.ref)->Vi K xv d (xs.map YC) ps->Q (.ref P) d):IU [j] (Um K B<|Cd f) (WI j) VM (NC K j) σ H Q:=by
 refine⟨A,st,xs,R,hx,λJ H1 s1 OB P hP=>⟨λi m τ vs d=>m=xs.length-i/\i<=xs.length/\τ.length=σ.length/\∃ps,vs=ps.map V.ref/\ps.length=i/\d P=some (.lst vs)/\aR H1 d/\(∀p∈ps,H1 p=none)/\(P::ps).Nodup/\Vi K xv d ((xs.take i).map YC) ps,
  ⟨xs.length,by simp,zero_le _,by rw[RL],[],rfl,rfl,bO,cQ hP,(λ_ h=>nomatch h),by simp,rfl⟩,?_⟩⟩
 rintro i m τ vs d ⟨rfl,hi,X,ps,rfl,r,D,s,T,E,c⟩;refine⟨D,?_⟩;obtain⟨i1,i2⟩:=OB (P::A) d (λb u z=>by
  have M:=aX _ _ _ _ z;rw[bQ<|show b∉P::A from λw=>(qc.mp w).elim (aU M hP)<|λw=>by rw[iT w]at z;cases z]
  exact s b u M) (λa h=>by
  rcases qc.mp (show a∈P::(A++B) from h) with rfl|h
  .rw[D];rfl
  exact((R.own.mono s1).mono s) a h) i
 by_cases g:i<xs.length
 .obtain⟨go,Y⟩:=i1 _<|Be g;refine .inr ⟨go,λx H2 y=>?_⟩
  obtain⟨C,O⟩:=Y x H2 y;have t:=Hz.mp I _<|gj g;obtain⟨ys,U⟩:∃ys,xs[i]=.lst ys:=by
   cases hh:xs[i] <;> rw[hh]at t<;>first|exact⟨_,rfl⟩|exact nomatch t
  rw[U]at O t;obtain⟨l,ws,rfl,hs,Z⟩:=eO.mp O;dsimp only[WI,VM];refine⟨l,ws,?_,(aX _ _).seq hs,λn hn=>?_⟩
  .rw[Mh,Kb rfl,Kb (by rwa [X])]
  have N:=s.trans C;have pS:=C _ _ D;have F:n≠P:=λz=>by rw[z,pS]at hn;cases hn
  have W:n∉ps:=λz=>by
   obtain⟨k,S⟩:=mn.mp z;have G:k<((xs.take i).map YC).length:=by rw[<-c.len];exact(xg.mp S).1
   obtain⟨p',Gi,e1,e2,_⟩:=c.get<|Be G;rw[S]at e1;cases e1;rw[C _ _ e2]at hn;cases hn
  have L:H1 n=none:=by
   cases h:H1 n with
   |none=>rfl
   |some u=>rw[N _ _ h]at hn;cases hn
  refine⟨by rwa [aZ<|uh F],?_,xs.length-(i+1),by lia,rfl,g,by rw[uo,X],ps++[n],by rw[qh];rfl,by rw[Pg,r];rfl,bO,λb u z=>?_,λp hp=>?_,?_,?_⟩
  .rw[Yc,r];have:sizeLine=16777216:=by decide
   have hbg:=rE;lia
  .rw[aZ<|aU z hP,aZ<|aU z L];exact N b u z
  .rcases Wh.mp hp with hp|hp
   .exact T p hp
   rwa [Ce.mp hp]
  .obtain⟨n1,n2⟩:=xn.mp E;refine xn.mpr ⟨λz=>(Wh.mp z).elim n1 λz=>F (Ce.mp z).symm,Rr.mpr ⟨n2,by simp,λa I b hb=>?_⟩⟩
   rw[Ce.mp hb];exact λz=>W<|z ▸ I
  rw[List.take_succ_eq_append_getElem g,qh];refine Vi.snoc (by rw[aZ F,bO]) ?_<|c.mono (aR.refl _) λp hp o e=>?_
  .rw[U];exact iL (show ys.all atom=true from t) Z
  have v:p≠P:=λz=>(xn.mp E).1<|z ▸ hp
  have h2:p≠n:=λz=>W<|z ▸ hp
  rw[aZ v,aZ h2];exact C _ _ e
 have e:i=xs.length:=by lia
 subst e;rw[LQ]at c;refine .inl ⟨i2<|Ec _,q P ps d (s1.trans s) (λp hp=>?_) E D c⟩
 have v:=(qc.mp hp).elim (λz=>by rwa [z])<|T p
 cases h:H p with
 |none=>rfl
 |some u=>rw[s1 _ _ h]at v;cases v
section
variable {iter:Expr} {pl:Pos} {r:Str}
def bD0{K:Frag} (Q a:VK) (m:∀v b,Q v b->a v b) (h:NC K j τ H Q):NC K j τ H a:=
 let ⟨l,xs,f,e,d⟩:=h;⟨l,xs,f,e,λn c=>m _ _<|d n c⟩
def bGg(j:Nat)(S:qd X scope [j])(n:L2.PI X (.Name r p2) iter (Um X.K B<|Cd f))(o:∀(C:Addr)(c:Shared)(b:Hp)(a:bv),PG (fP X scope C c b a) (.Name r p2)<|WI j)
  (he:∀(C:Addr)(c:Shared)(b:Hp)(a:bv),PE (fP X scope C c b a) (.Call (.Name "list" p0) [.Name r p1] [] pl)<|NC X.K j) (u:X.calm=true) (l:decide (j<X.N.length)=true:=by rfl) (k:∀x,foldedSetIterable iter X.env x=pure x:=by intro _;rfl) :
  PE X (.ListComp (.Call (.Name "list" p0) [.Name r p1] [] pl) [⟨.Name r p2,iter,[],0⟩] scope pos) (tC X.K B f):=by
 intro aa s σ H Q I h;obtain⟨A,st,d,xs,e,t,y,q⟩:=h;obtain⟨rfl,hl,v⟩:=RY y;exact xH (rest:=λenv it p=>eval _ env >>= λx=>call _ [p,x] >>= λ_=>again<|.compLoop _ 0 it p env) S u n (λC c b a=>o C c b a) (λ_ _ _=>uI)
  (λC c b a it p s Q h=>CP h) (λC c b a it p τ H s aa vs N Q I h q=>eP rfl (he C c b a) τ H s aa vs N Q I h (λQ D m h=>bD0 Q D m h) q) k I
  (bKt e (by rw[I.len];exact Qr l) (by unfold Cd;rw[t];rfl) hl v q) λC p K L i M O a τ w G z F E g=>⟨i,E,λh' J=>⟨.ref p,K,Cy G z w F J,rfl,g⟩⟩
def bGh(h:PE X e (tC X.K B f)):PE X e (tD X.K B<|e1 Sv f):=cC h (by
 rintro σ H Q ⟨A,st,d,j,l,q⟩;obtain⟨o,h0,c⟩:=R.ua l;obtain⟨xs,rfl⟩:=Ī c;refine⟨A,st,o,xs,j,h0,c,λP ps H' sm fr s t inn=>q _ H' sm λZ hZ=>?_⟩
 obtain⟨rfl,hl,m⟩:=RY c;have a:∀p∈P::ps,p∉Z:=λp b z=>by
  have:=hZ p z;rw[fr p b]at this;cases this
 have Qm:∀(g:List _)(ps:bv),(∀p∈ps,p∉Z)->Vi X.K xv H' g ps->bC X.K (hide Z H') (g.map D.lst) (ps.map V.ref):=by
  intro g
  induction g with
  |nil=>intro ps _ h;rw[h];exact .nil
  |cons ys g k=>
   intro ps i h;obtain⟨p,r,vs,rfl,u,c,n⟩:=h;exact .cons (eO.mpr ⟨p,vs,rfl,(by rwa [bQ<|i p Zb]),c.mono SE⟩)<|k r (λp b=>i p<|Lc _ b) n
 have:=Qm _ ps (λp b=>a p<|Lc _ b) inn
 rw[Q2 m]at this;exact eO.mpr ⟨P,_,rfl,(by rwa [bQ<|a P Zb]),this⟩)
def bGi{a:Expr}(m:X.mg "list"=none)(r:PE X a (tI X.K B f))(o:Gl X "list":=by rfl)(g:Oe a [] X.env:=by rfl):PE X (.Call (.Name "list" p0) [a] [] pos) (tD X.K B<|e1 CN f):=by
 refine cC (nM EK o m rfl (cM r fJ g) (he:=g)) ?_
 rintro σ H Q ⟨A,st,d,i,p,q⟩;obtain⟨x,k,h⟩:=R.ua p;refine⟨A,st,x,i,k,λv H1 s1 r1=>?_⟩
 cases x<;>first|(cases h)|skip
 obtain⟨b,c⟩:=aM h;cases c;obtain⟨l,vs,rfl,c,j⟩:=eO.mp r1;refine⟨l,vs,rfl,.inl<|(aX _ _).seq c,λn hn=>q _ _ (s1.trans<|cQ hn) λZ hZ=>eO.mpr ⟨n,vs,rfl,?_,(iL b j).mono SE⟩⟩
 rw[bQ λz=>?_]
 .exact bO
 obtain⟨u,e,_⟩:=uw<|hZ n z;rw[s1 _ _ e]at hn;cases hn
def O6(h:PE X e (tI X.K B f)):PE X e (tD X.K B<|FA f):=cC h (by
 rintro σ H Q ⟨A,st,d,a,b,q⟩;obtain⟨j,h0,i⟩:=R.ua b;obtain⟨c,g⟩:=aM i;cases g;exact⟨A,st,_,a,h0,λv H' sm r=>q v H' sm λZ _=>(VL c r).mono SE⟩)
def bGj{a:Expr}(j:X.mg "tuple"=none)(o:PE X a (tI X.K B f))(k:Gl X "tuple":=by rfl)(c:Oe a [] X.env:=by rfl):PE X (.Call (.Name "tuple" p0) [a] [] pos) (tI X.K B<|e1 BA f):=by
 refine cC (nM ϸ k j rfl (cM o fJ c) (he:=c)) ?_
 rintro σ H Q ⟨A,st,d,b,m,q⟩;obtain⟨x,i,g⟩:=R.ua m;refine⟨A,st,x,b,i,λv H1 s1 r1=>?_⟩
 cases x<;>first|(cases g;done)|skip
 cases g;obtain⟨l,vs,rfl,p,h⟩:=eO.mp r1;exact⟨l,vs,rfl,.inl ⟨(aX _ _).seq p,λn e=>q _ _ (s1.trans<|cQ e)<|vK (b.own.mono s1) e h⟩⟩
end
section
variable {r:Str}
def bO1(j:Nat)(c:X.mg "list"=none)(f:X.N[j]?=some r:=by rfl)(a:Ik X.env.scope r:=by exact Wo rfl)(e:dg r:=by decide)
  (k:Vo r:=by decide) (d:Gl X "list":=by rfl) (b:starEach [Expr.Name r p1] X.env=(false,eval (.Name r p1) X.env)::starEach [] X.env:=by rfl):PE X (.Call (.Name "list" p0) [.Name r p1] [] pos) (NC X.K j):=
 cC (nM EK d c rfl<|cM (vQ f a e k) fJ b) (by
  rintro σ H Q ⟨l,xs,i,h,g⟩;exact⟨.ref l,i,l,xs,rfl,.inl h,g⟩)
def g_row(j:Nat)(d:X.N.Nodup)(b:X.N[j]?=some r:=by rfl)(a:Loc X.env.scope r:=by exact bq rfl)
  (c:Pm X r:=by first|exact .inl rfl|exact .inr rfl|assumption):PG X (.Name r pos) (WI j):=E2 d b a c
end
structure RM(K:Frag)(H0:Hp)(x:Addr)(H:Hp)(st:za)(σ:Mi):Prop where
 rs:RS K [] [x] H st σ
 sm:aR (hide [x] H0) H
 x0:(H0 x).any nT=true
 fr:∀n c ns xs,st[0]?=some (some<|.o (.i n c ns) xs)->σ[0]?=some (some<|.ref x)/\∀C dx fs,H x=some (.ins C dx fs)->∀Z,Own Z H0->bC K (hide Z H) xs (fs.map (·.2))
theorem RM.mono{K:Frag}{g:Hp}{x:Addr}{H i:Hp}{st:za}{b:Mi}(m:RM K g x H st b)(s:aR H i):RM K g x i st b:=
 ⟨m.rs.mono s,m.sm.trans s,m.x0,λn c ns xs e=>by
  obtain⟨f,j⟩:=m.fr n c ns xs e;obtain⟨a,o,vs,e1,_,d,k,_⟩:=m.rs.lst 0 _ _ e;rw[f]at e1;cases e1;refine⟨f,λC l fs h Z hZ=>?_⟩
  have h':=s _ _ d;rw[h]at h';cases h';exact(j _ _ _ d Z hZ).mono (aR.hide s)⟩
theorem RM.own{K:Frag}{a:Hp}{x:Addr}{H:Hp}{st:za}{b:Mi}(m:RM K a x H st b){Z:bv}(d:Own Z a):Own Z H:=λz c=>by
 by_cases e:z=x
 .rw[e];exact m.rs.own x (by simp)
 obtain⟨u,f,n⟩:=uw<|d z c
 rwa [m.sm z u (by rwa [bQ (by simpa using e)])]
def tM(K:Frag)(c:Hp)(x:Addr)(W:XW)(b:Bd):TS:=λDn σ H=>∃st,RM K c x H st σ/\(match b st with
 |.ok (.nx st')=>∀a H',RM K c x H' st' a->Dn.nx a H'
 |.exc e=>∀a H',aR (hide [x] c) H'->W e a H'
 |_=>False)
section
variable{a b:Expr} {rest:List Stmt} {x:Addr}
def N7:Ae X [] (tM X.K H0 x W cX):=vL kM (by
 rintro Dn σ H ⟨st,m,q⟩;exact q σ H m)
def qq(h:PS X sm (tM X.K H0 x W bd)):Ae X [sm] (tM X.K H0 x W bd):=fE h
def lG(e:PS X sm (tM X.K H0 x W bd))(c:Ae X rest (tM X.K H0 x W Rk)):Ae X (sm::rest) (tM X.K H0 x W<|aW bd Rk):=vL (JD e c) (by
 rintro Dn σ H ⟨st,m,q⟩;refine⟨st,m,?_⟩;unfold aW Cw at q;cases a:bd st with
 |ok r=>
  rw[a]at q;cases r with
  |nx s1=>exact λf H' b=>⟨s1,b,q⟩
  |rt d=>exact q
  |bk s1=>exact q
  |ct s1=>exact q
 |exc x=>rwa [a]at q
 |bad=>rwa [a]at q)
def s8{c:Expr}{t:Ex}{y z:List Stmt}(b:PT X c (tT X.K [] t))(f:Ae X y (tM X.K H0 x W bd))(e:Ae X z (tM X.K H0 x W Rk)):PS X (.If c y z pos) (tM X.K H0 x W<|Pd (Ql t) bd Rk):=fC (DO b f e) (by
 rintro Dn σ H ⟨st,m,q⟩;unfold Pd Ql at q;cases a:t st with
 |exc x=>rw[a]at q;exact q.elim
 |bad=>rw[a]at q;exact q.elim
 |ok d=>
  rw[a]at q;cases d<;>first|exact q.elim|skip
  rename_i k;refine⟨[x],st,k,m.rs,a,λH1 s1=>?_⟩
  cases k with
  |true=>exact⟨st,m.mono s1,q⟩
  |false=>exact⟨st,m.mono s1,q⟩)
def O4{h:Pos}(l:pq X W)(b:ExcAt X.K c C tl)(i:X.mg (ofString c)=some (.ref C))(n:X.calm=true)(k:PA X (e::es) (tA X.K [] r))(j:Gl X (ofString c):=by rfl)(g:dg (ofString c):=by decide)
  (he:Oe e es X.env:=by rfl) (hpl:lh Nb es X.env:=by rfl) (d:(e::es).length<=100:=by decide) :
  PS X (.Raise (some<|.Call (.Name (ofString c) h) (e::es) [] Nb) none pos) (tM X.K H0 x W<|xV c r):=by
 refine fC (W0 l b i n k j g he hpl d) ?_
 rintro Dn σ H ⟨st,m,q⟩;unfold xV at q;cases a:r st with
 |exc x=>rw[a]at q;exact q.elim
 |bad=>rw[a]at q;exact q.elim
 |ok ds=>
  rw[a]at q
  by_cases hl:ds.length<=100
  .refine⟨[x],st,ds,m.rs,a,λvs H1 s1 f=>⟨by rwa [f.length],c,tl,b,?_⟩⟩
   rw[show (R.ok ds).Ve.bind (λxs=>aP (xs.length<=100) _)=.exc _ from aD hl]at q
   exact q σ H1<|m.sm.trans s1
  rw[show (R.ok ds).Ve.bind (λxs=>aP (xs.length<=100) _)=.bad from Pa hl]at q
  exact q.elim
def rW{y:Str} (E:ClsAt X.K c C) (P:bV X.K C (ofString f')) (he:PE X value (tD X.K [] f)) (S:X.N[0]?=some y:=by rfl) (N:Ik X.env.scope y:=by exact Wo rfl) (k:dg y:=by decide)
  (Y:Vo y:=by decide) (O:Bk value (some<|.Attribute (.Name y p1) (ofString f') p2) pos.line X.env:=by rfl) :
  PS X (.Assign [.Attribute (.Name y p1) (ofString f') p2] value pos) (tM X.K H0 x W<|Qg<|gQ 0 c f' f):=by
 refine fC (v5 (vQ S N k Y) he O) ?_
 rintro Dn σ H ⟨st,m,q⟩;unfold Qg at q;cases e:gQ 0 c f' f st with
 |exc x=>rw[e]at q;exact q.elim
 |bad=>rw[e]at q;exact q.elim
 |ok r=>
  rw[e]at q;obtain⟨d,k,s⟩:=R.ua e;split at s
  .rename_i n c' ns xs e1;obtain⟨⟨V,Q,uc⟩,T⟩:=aM s;subst V;cases T;obtain⟨l,o,vs,e2,mm,F,M,K,u⟩:=m.rs.lst 0 _ _ e1;obtain⟨g,j⟩:=m.fr _ _ _ _ e1;rw[g]at e2;cases e2;obtain⟨U,h,t,fs,rfl,D,i,rfl⟩:=M;have:h=C:=by have z:=D.symm.trans E.ns;injection z with z;injection z with z;injection z
   subst this;refine⟨[x],st,d,m.rs,k,λw H1 s1 r1=>⟨.ref x,g,x,h,t,fs,rfl,s1 _ _ F,E.cl,P,?_,?_⟩⟩
   .have:=congrArg List.length i;rw[Yc,Yc]at this;omega
   rw[UL i Q];have B:=m.mono s1;obtain⟨J,w2⟩:=B.rs.write e1 g (k1:=.i n c'<|ns++[f']) (o':=.ins h t<|fs++[(ofString f',w)]) ⟨U,h,t,_,rfl,D,by rw[qh,qh,i];rfl,by rw[qh];rfl⟩<|(K.mono<|aR.hide s1).append<|.cons (r1 _ m.rs.own) .nil
   refine q _ _ ⟨J,λb v e=>?_,m.x0,λn2 c2 L I e4=>?_⟩
   .rw[aZ (λz=>by rw[z,iT (by simp)]at e;cases e)]
    exact B.sm b v e
   rw[Mh,Kb<|(xg.mp e1).1]at e4;cases e4;refine⟨g,λC2 LR PR h5 Z hZ=>?_⟩
   rw[bO]at h5;cases h5;rw[qh];have G:=λa p=>(qc.mp p).elim (λz=>by rw[z];exact m.x0)<|hZ a
   have A:=((j _ _ _ F _ G).mono<|aR.hide s1).append<|.cons (r1 _<|m.own G) .nil;rw[<-uE Zb]at A;exact A.mono<|jC λa p=>Lc _ p
  cases s
end
def jn(K:Frag)(c:String)(a:Nat)(p:cr):Sp:=λvs H Q E=>∃x ws C b ds,vs=.ref x::ws/\H x=some (.ins C b [])/\nsIn K mainGlobals (ofString c)=some (some<|.ref C)/\bC K (hide [x] H) ds ws/\ds.length=a/\(match p ds with
 |.ok d=>∀H',aR (hide [x] H) H'->(∀A,Own A H->x∉A->Ib K (hide A H') d (.ref x))->Q .xc H'
 |.exc e=>∀C c f H',e=.Dg c [] []->ExcAt K c C f->aR (hide [x] H) H'->E (.ref C) none H'
 |.bad=>False)
def uN{w:World}{K:Frag} {x:Str} {st:Stmt} {f:Addr} {k:Nat} (F:Qa K x qual st dV f fd) (S:Dd N ps (bD st)) (c:String) (t n:Nat) (m:Bd) (Xl:ps.length=t+1) (hn:N.length=n)
  (hb:∀(l:Value)(A:Around)(b:xz)(s:Shared)(H:Hp)(E:XK)(x:Addr)(W:XW),Cb k (A.deeper<|envOfC qual (bD st) s.heap.objs.size f l)->
   pq (Kk (Ng P w) P w K mg base N qual (bD st) f l A b s H E) W->Ae (Kk (Ng P w) P w K mg base N qual (bD st) f l A b s H E) (dI st) (tM K H x W m)):Ha P w K mg base (Ng P w) (k+1) f fd ps (jn K c t<|pB c t n m):=by
 obtain⟨oc,od,kV,doc,pm,an,l,ct,Zi,rfl,lk,Rf⟩:=F.ex;refine JF lk Rf S (λvs H Q E h=>?_) λA b s H vs Q E hr h=>?_
 .obtain⟨y,ws,C,dx,ds,rfl,_,_,r,hl,_⟩:=h;rw[fg,r.length,hl,Xl]
 obtain⟨y,ws,C,dx,ds,rfl,v,Fn,r,hl,q⟩:=h
 let W:XW:=λx _ H'=>∀C c i,x=.Dg c [] []->ExcAt K c C i->E (.ref C) none H'
 refine⟨tM K H y W m,hb l A b s H E y W hr ?_,?_⟩
 .intro aa σ H1 s1 ea C H' s' I h1 h2 h3 G j ⟨c,i,D,hw⟩;exact V0 aa σ H1 s1 ea C H' s' I h1 h2 h3 G j<|hw C c i rfl D
 have M:=MY (N:=N) (A:=[]) (λ_ h=>nomatch h) (by simp) v Fn r
 rw[<-FZ (λz=>by rwa [z]at q) y]at q
 unfold wK at q;rw[aD hl]at q;rw[hl,hn]at M;refine⟨_,⟨M,aX _ _,by rw[v];rfl,λn' c' ns xs e=>?_⟩,?_⟩
 .simp at e;obtain⟨⟨rfl,rfl,rfl⟩,rfl⟩:=e;refine⟨rfl,λT R O j Z _=>?_⟩
  rw[v]at j;cases j;exact .nil
 generalize Jg:(some _::(ds.map _++List.replicate _ none))=s0 at q;cases J:m s0 with
 |bad=>rwa [J]at q
 |exc e=>
  rw[J]at q;exact λxb H' sm C c i e1 D=>q C c i H' e1 D sm
 |ok fl=>
  rw[J]at q;cases fl with
  |nx s1=>
   intro vt H1 u;have p:(match (match (s1[0]?) with|some (some<|.o (.i L c' ns) xs)=>aP _ _|_=>.bad) with
    |.ok d=>∀H',aR _ H'->(∀A,Own A H->y∉A->Ib K _ d _)->Q .xc H'
    |.exc e=>∀C c i H',e=.Dg c [] []->ExcAt K c C i->aR _ H'->E _ none H'
    |.bad=>False):=q
   split at p
   .rename_i d g;split at g
    .rename_i L c' ns xs e1;obtain⟨rfl,G⟩:=aM g;cases G;obtain⟨a,o,vs,e2,mm,j,U,r5,_⟩:=u.rs.lst 0 _ _ e1;obtain⟨Y,B⟩:=u.fr _ _ _ _ e1;rw[Y]at e2;cases e2;obtain⟨_,T,R,O,rfl,X,V,rfl⟩:=U;exact p H1 u.sm λA' own CS=>ME.mpr ⟨L,T,R,O,_,rfl,by rwa [bQ CS],X,V,rfl,B _ _ _ j _ own⟩
    cases g
   .rename_i e g;split at g
    .unfold aP at g;split at g<;>cases g
    cases g
   exact p.elim
  |rt d'=>exact q
  |bk s1=>exact q
  |ct s1=>exact q
structure Lb(P:Program)(w:World)(K:Frag)(mg:dL)(base:Heap)(c:String)(k np:Nat)(p:cr):Prop where
 ex:∃(C fa:Addr)(fd:FuncData)(ps:ut),ClsAt K c C/\Mk K C fa/\Ha P w K mg base (Ng P w) k fa fd ps (jn K c np p)/\Binds K fd ps []/\mg (ofString c)=some (.ref C)
 len:∀ds,p ds≠.bad->ds.length=np
def Ű(a:db)(h:pB c np n bd a≠.bad):a.length=np:=by
 by_cases hl:a.length=np
 .exact hl
 exact(h<|by rw[<-(FZ h 0)];exact Pa hl).elim
def Lb.of{w:World}{K:Frag} {f:Addr} {k:Nat} (d:ClsAt K c C) (a:Mk K C f) (F:Ha P w K mg base (Ng P w) k f fd ps (jn K c np<|pB c np n bd)) (b:Binds K fd ps []) (m:mg (ofString c)=some (.ref C)):Lb P w K mg base c k np (pB c np n bd):=
 ⟨⟨C,f,fd,ps,d,a,F,b,m⟩,Ű⟩
def FP(K:Frag)(c:String)(a:Nat)(p:cr):Sp:=λvs H Q _=>∃x ws C b ds d,vs=.ref x::ws/\H x=some (.ins C b [])/\nsIn K mainGlobals (ofString c)=some (some<|.ref C)/\bC K (hide [x] H) ds ws/\ds.length=a/\p ds=.ok d/\
 ∀H',aR (hide [x] H) H'->(∀A,Own A H->x∉A->Ib K (hide A H') d (.ref x))->Q .xc H'
def E1{w:World}{K:Frag} {k:Nat} {f:Addr} (F:Ha P w K mg base (Ng P w) k f fd ps (jn K c np p)):Ha P w K mg base wc k f fd ps (FP K c np<|ug p):=by
 have b:∀vs H Q E,FP K c np (ug p) vs H Q E->jn K c np p vs H Q E0:=by
  rintro vs H Q E ⟨x,ws,C,t,ds,d,e,g,u,r,hl,l,q⟩;refine⟨x,ws,C,t,ds,e,g,u,r,hl,?_⟩
  rwa [R.Lg l]
 refine⟨λvs H Q E h=>F.len vs H Q E0<|b vs H Q E h,λA outer s H a us vs Q E j o m i h=>Em (F.run A outer s H a us vs Q E0 j o m i<|b vs H Q E h) λr s' z=>?_⟩
 cases r with
 |error e=>obtain⟨_,_,_,_,_,_,_,_,_,n⟩:=z;exact n.elim
 |ok fl=>cases fl<;>exact z
def Lb.calm{w:World}{K:Frag} {k:Nat} (h:Lb P w K mg base c k np p):nh P w K mg base c k np (ug p):=by
 obtain⟨C,fa,fd,ps,t,o,F,b,m⟩:=h.ex;have G:=E1 F;have g:∀vs H Q E,FC K c np (ug p) vs H Q E->FP K c np (ug p) vs H Q E:=by
  rintro vs H Q E ⟨x,ws,A,C,B,ds,d,e,i,I,own,D,r,hl,n,q⟩;exact⟨x,ws,C,B,ds,d,e,i,I,r.mono (jC λa v=>by rw[Ce.mp v];exact Zb),hl,n,λH' s' h=>q H' s'<|h A own D⟩
 refine⟨⟨C,fa,fd,ps,t,o,⟨λvs H Q E h=>G.len vs H Q E<|g vs H Q E h,λA outer s H f us vs Q E l y u j h=>G.run A outer s H f us vs Q E l y u j<|g vs H Q E h⟩,b,m⟩,λds d e=>h.len ds λz=>?_⟩
 rw[R.Lg e]at z;cases z
section
variable {a b:Expr}
def ű{k:Nat} {E:XK} {g:L2.St} {Q:VK} {l:ca} (M:Mk X.K C fa) (F:Ha X.prog X.w X.K X.mg X.base CX k fa fd ps sp) (p:Cb (k+1) X.A) (t:Binds X.K fd ps l) (q:Ka Ld l)
  (I:Ea X aa g H s) (r:Ka vs us) (o:∀f s2,Ea X aa g f s2->∀e b,CX X.stack f s2 E e b->X.xe e b) (h:∀x c,H x=none->H c=none->c≠x->sp (.ref x::(vs++Ld)) (Tb (Tb H c<|.own x) x<|.ins C c []) (λv f=>v=.xc/\Q (.ref x) f) E) :
  wpAny (model X.prog X.w) X.A (call (.ref C) us) (EP X aa g Q) X.xe s:=by
 have j:=h _ s.heap.objs.size (I.Xa.fresh<|Qp _) (I.Xa.fresh<|Ec _)<|ff<|Np _;have d:=Ea.made (C:=C) I;have i:Ka (V.ref (s.heap.objs.size+1)::(vs++Ld)) _:=.cons rfl<|r.append q;refine gx<|YY I.Hf M.makes M.init (Fm.mp M.fn)<|Em (F.run _ X.stack _ _ _ _ _ _ E (p.make C us [])
  (d.yo.make C us []) (t _ _ d.Hf (by
  have e:=i.length;rw[F.len _ _ _ _ j]at e;exact e.symm)) i j) λr b a=>?_
 cases r with
 |error e=>exact o _ _ d e b a
 |ok fl=>
  cases fl with
  |ret u=>
   obtain⟨v,H',y,m,w,n⟩:=d.after a;subst w;exact⟨m,⟨V.ref _,H',y,rfl,n⟩⟩
  |next=>exact False.elim a
  |brk=>exact False.elim a
  |cont=>exact False.elim a
def Ey{k:Nat} (h:Lb X.prog X.w X.K X.mg X.base c k np p) (T:pq X W) (L:Cb j X.A) (O:k+1<=j) (S:PA X (e::es) (tA X.K B r)) (P:Gl X (ofString c):=by rfl) (K:dg (ofString c):=by decide)
  (he:Oe e es X.env:=by rfl) (hpl:lh pos es X.env:=by rfl):PE X (.Call (.Name (ofString c) p0) (e::es) [] pos) (Bl X.K B W<|jM p r):=by
 obtain⟨C,fa,fd,ps,l,M,F,bd,N⟩:=h.ex;intro aa s σ H Q I ⟨A,st,t,q⟩;unfold jM at q;cases a:r st with
 |exc x=>rw[a]at q;exact q.elim
 |bad=>rw[a]at q;exact q.elim
 |ok xs=>
  rw[a]at q;refine Bq<|xQ I P N (Ww I.ok.mod.Tj M.kp (Cc (S pos aa s σ H (λvs H1=>aR H H1/\bC X.K _ xs vs) I ⟨A,st,xs,t,a,λvs H1 s1 G=>⟨s1,G⟩⟩) λus s1 ⟨vs,H1,w,D,sm,rp⟩=>⟨w.Hf,(ű M F (L.mono O) bd .nil w D (λH2 Y V e s'=>DP T V e s') λx dx Zl Qu Z=>?_)⟩) he hpl) K
  have f:(match p xs with
   |.ok d=>∀v H',aR H H'->Ib X.K _ d v->Q v H'
   |.exc x=>∀H',aR H H'->W x σ H'
   |.bad=>False):=q
  have o:=t.own.mono sm;have m:∀b u,H1 b=some u->Tb (Tb H1 dx<|.own x) x (.ins C dx []) b=some u:=λb u z=>by
   rwa [aZ<|aU z Zl,aZ<|aU z Qu]
  have back:∀{H':Hp},aR (hide [x] _) H'->aR H H':=λE b u z=>by
   have g:=sm _ _ z;exact E b u (by rw[bQ (by simpa using aU g Zl)];exact m b u g)
  rw[so];refine⟨x,vs,C,dx,xs,rfl,bO,l.ns,?_,h.len xs λz=>?_,?_⟩
  .refine rp.mono λb u z=>?_
   have g:=aX _ _ _ _ z;rw[bQ (by simpa using aU g Zl)]
   exact m b u g
  .rwa [z]at f
  cases i:p xs with
  |ok d=>rw[i]at f;exact λH' s' J=>⟨rfl,f _ H' (back s')<|J _ (λb R=>by
   obtain⟨u,z,n⟩:=uw<|o b R
   rwa [m b u z])<|o.free Zl⟩
  |exc y=>rw[i]at f;exact λC c U H' e1 l s'=>⟨C,c,U,rfl,l,by rw[<-e1];exact f H'<|back s'⟩
  |bad=>rwa [i]at f
end
open Builtin
section
variable{prog:Program}{w:World}{A:Around}{E:be}{s:Shared}
variable{z TI TO i1 i2 l:Addr}{fp:bv}{n k1 k2:Nat}{P:Nat->Value->Prop}{St:Fa}{ys:wE}{y a b:Value}
structure Jd(z TI TO i1 i2 l:Addr)(fp:bv):Prop where
 TIz:TI≠z
 TOz:TO≠z
 i1z:i1≠z
 i2z:i2≠z
 TITO:TI≠TO
 TIi1:TI≠i1
 TIi2:TI≠i2
 TOi1:TO≠i1
 TOi2:TO≠i2
 i12:i1≠i2
 lz:l≠z
 QB:l≠TO
 RB:l≠i1
 QS:l≠i2
 zf:z∉fp
 Tf:TO∉fp
 X9:i2∉fp
theorem DX{n l:Nat}(h:l<n):Jd (n+4) (n+2) (n+3) n (n+1) l [n]:=by
 constructor
 .lia
 .lia
 .lia
 .lia
 .lia
 .lia
 .lia
 .lia
 .lia
 .lia
 .lia
 .lia
 .lia
 .lia
 .intro z;have:=Ce.mp z;lia
 .intro z;have:=Ce.mp z;lia
 intro z;have:=Ce.mp z;lia
abbrev wz(h:Heap)(z TI TO:Addr)(b a:Value):Prop:=h.get? z=some {cls:=.type "zip",dict:=none,data:=.fields #[b,a,.bool false,.ref TI,.ref TO],slots := #[]}
def ID(a:wz s.heap z TI TO .none f1)(Q:sB)(q:Q true s):wpAny (model prog w) A (Builtin.SmallTypes.ownedTupleIsFree<|.ref z) Q E s:=by
 exact xa<|Pk a rfl rfl<|Ua q
variable{f0 f1:Value}
def WL(G:Draws prog w A i1 fp n P St)(D:Jd z TI TO i1 i2 l fp)
  (B:wz s.heap z TI TO f0 f1) (I:∀Q:sB,Q true s->wpAny (model prog w) A (Builtin.SmallTypes.ownedTupleIsFree<|.ref z) Q E s) (Yg:IsPair s.heap TI (.ref i1) (.ref i2)) (yh:IsPair s.heap TO a b)
  (h1:St k1 s.heap) (H:k1<n) (h2:s.heap.IsListIter i2 l k2) (hl:s.heap.IsList l ys) (hy:ys[k2]?=some y)
  (hQ:∀k O x,P k1 x->IsZip k z TI TO (rawInt s.heap.objs.size)->IsPair k TO x y->St (k1+1) k->k.IsListIter i2 l (k2+1)->IsPair k s.heap.objs.size x y->k.objs.size=s.heap.objs.size+1->
   (∀c o,c≠z->c≠TO->c≠i1->c≠i2->s.heap.get? c=some o->k.get? c=some o)->Q (.ref s.heap.objs.size) {s with heap:=k,toks:=O}) :
  wpAny (model prog w) A (Builtin.«zip.__next__» ⟨[.ref z],[]⟩) (λJ s'=>∃v,J=.done (.ret v)/\Q v s') E s:=by
 show wpAny _ _ (field (.ref z) 2 >>= _) _ _ _;refine xa<|Pk B rfl (x:=.bool false) rfl ?_;refine xa<|Pk B rfl rfl<|xa<|Ll Yg rfl ?_;refine xa<|I _ ?_;refine xa<|Zr<|xa<|Pk B rfl rfl<|xa<|nu B (by simp) λY Zg f=>(xa ?_)
 simp only[List.zipIdx_cons,List.zipIdx_nil,forIn_cons,forIn_nil];refine xa<|xa<|VH ?_;refine xa<|G.item k1 {s with heap:=Y} _ _ H (G.frame k1 s.heap Y h1 λb p o e=>f.extBut _ _ (λx=>D.zf<|x ▸ p) e) λx Yk O hP Nj d=>Ua ?_
 have R:=d.extBut _ _ D.TOi1<|f.extBut _ _ D.TOz yh;refine xa<|Ll R rfl<|xa<|dQ R λZk Bo j=>?_
 refine xa<|Yr<|Ua<|xa<|xa<|VH ?_;refine xa (YG (((h2.extBut f.extBut D.i2z).extBut d.extBut D.i12.symm).extBut j.extBut D.TOi2.symm)
  (((hl.extBut f.extBut D.lz).extBut d.extBut D.RB).extBut j.extBut D.QB) hy λLB NA hs₄=>Ua ?_)
 have Z:=hs₄.extBut _ _ D.TOi2 Bo;refine xa<|Ll Z rfl<|xa<|dQ Z λm u Yl=>?_
 replace u:IsPair m TO x y:=u
 refine xa<|Yr<|Ua<|Ua<|xa<|Ll u rfl<|xa<|wpAny_newTuple ?_;have h:=j;have g:=hs₄;have r:Heap.SameBut TO LB m:=Yl;have N:m.objs.size=s.heap.objs.size:=by rw[r.1,g.1,h.1,d.1,f.1]
 have V:=r.extBut _ _ D.TOz.symm<|g.extBut _ _ D.i2z.symm<|h.extBut _ _ D.TOz.symm<|d.extBut _ _ D.i1z.symm Zg;have W:=Tc V;refine xa ?_
 refine xa<|nu (vc _ V) (by simp) λS JB i=>?_
 refine nu JB (by simp) λF T M=>?_
 have t:∀c o,c≠z->m.get? c=some o->F.get? c=some o:=λc o q e=>M.extBut _ _ q<|i.extBut _ _ q<|vc _ e
 have X:=M.extBut _ _ (Wr W)<|i.extBut _ _ (Wr W)<|Af _ rfl;have U:F.objs.size=m.objs.size+1:=by rw[M.1,i.1,Xh]
 rw[N]at T X U;refine Ua ⟨_,rfl,?_⟩;rw[N];exact hQ F _ x hP T (t _ _ D.TOz u) (G.frame _ m F (G.frame _ Yk m Nj λb p o e=>r.extBut _ _ (λx=>D.Tf<|x ▸ p)<|g.extBut _ _ (λx=>D.X9<|x ▸ p)<|h.extBut _ _ (λx=>D.Tf<|x ▸ p) e) λb p o e=>t b o (λx=>D.zf<|x ▸ p) e) ((NA.extBut r.extBut D.TOi2.symm).at λo e=>t _ o D.i2z e) X U λc o q C L K e=>t c o q<|(λc o q C L K e=>
  r.extBut _ _ C (g.extBut _ _ K<|h.extBut _ _ C<|d.extBut _ _ L<|f.extBut _ _ q e)) c o q C L K e
def ZM(K:Draws prog w A i1 fp n P St)(S:A.handled=none)(D:Jd z TI TO i1 i2 l fp)
  (m:wz s.heap z TI TO f0 f1) (r:∀Q:sB,Q true s->wpAny (model prog w) A (Builtin.SmallTypes.ownedTupleIsFree<|.ref z) Q E s) (Z:IsPair s.heap TI (.ref i1) (.ref i2)) (M:IsPair s.heap TO a b)
  (V:St k1 s.heap) (U:s.heap.IsListIter i2 l k2) (R:s.heap.IsList l ys)
  (u:(∀(s:Shared)(Q:be)(E:be),St k1 s.heap->(∀h e,Heap.ExtBut i1 s.heap h->(∃o,h.get? e=some o/\o.cls=.type "StopIteration")->E (.ref e) {s with heap:=h})->wpAny (model prog w) A (Builtin.SmallTypes.nextOf<|.ref i1) Q E s)\/(k1<n/\ys[k2]?=none)) {Q:Fin->pp}
  (C:∀h e y,(∀c o,c≠z->c≠TO->c≠i1->c≠i2->s.heap.get? c=some o->h.get? c=some o)->(∃o,h.get? e=some o/\o.cls=.type "StopIteration")->E (.ref e) {s with heap:=h,toks:=y}) :
  wpAny (model prog w) A (Builtin.«zip.__next__» ⟨[.ref z],[]⟩) Q E s:=by
 show wpAny _ _ (field _ 2 >>= _) _ _ _;refine xa<|Pk m rfl (x:=.bool false) rfl<|xa<|Pk m rfl rfl<|xa<|Ll Z rfl<|xa<|r _<|xa<|Zr<|xa<|Pk m rfl rfl<|xa<|nu m (by simp) λv G d=>xa ?_
 simp only[List.zipIdx_cons,List.zipIdx_nil,forIn_cons,forIn_nil];refine xa<|xa<|VH ?_;have L:=K.frame k1 s.heap v V λb T o e=>d.extBut _ _ (λx=>D.zf<|x ▸ T) e
 rcases u with u|⟨q,O⟩
 .refine xa (u {s with heap:=v} _ _ L λY e hs₂ he=>?_)
  obtain⟨p,i,k⟩:=he;have J:=hs₂ _ _ D.i1z.symm G;refine nu J (by simp) λF _ g=>C F e _ (λc o j _ t _ x=>g.extBut _ _ j<|hs₂ _ _ t<|d.extBut _ _ j x) ⟨p,g.extBut _ _ (λx=>by subst x;rw[J]at i;cases i;simp at k) i,k⟩
 refine xa<|K.item k1 {s with heap:=v} _ _ q L λx Y y hP Nj hs₂=>Ua ?_
 have B:=hs₂.extBut _ _ D.TOi1<|d.extBut _ _ D.TOz M;refine xa<|Ll B rfl<|xa<|dQ B λF Bo g=>?_
 have f:=g;refine xa<|Yr<|Ua<|xa<|xa<|VH<|xa (BH S (((U.extBut d.extBut D.i2z).extBut hs₂.extBut D.i12.symm).extBut f.extBut D.TOi2.symm)
  (((R.extBut d.extBut D.lz).extBut hs₂.extBut D.RB).extBut f.extBut D.QB) O λLB e hs₄ he=>?_)
 obtain⟨p,i,k⟩:=he;have I:=hs₄ _ _ D.i2z.symm<|f.extBut _ _ D.TOz.symm<|hs₂.extBut _ _ D.i1z.symm G;refine nu I (by simp) λN _ H=>C N e _ (λc o j X t W x=>H.extBut _ _ j<|hs₄ _ _ W<|f.extBut _ _ X<|hs₂.extBut _ _ t<|d.extBut _ _ j x) ⟨p,H.extBut _ _ (λx=>by subst x;rw[I]at i;cases i;simp at k) i,k⟩
end
section
variable{prog:Program}{w:World}{A:Around}{E:be}{s:Shared}
abbrev BJ(h:Heap)(x:Str)(t:Tok):Heap:=h.push {cls:=.type<|strIterType x,data:=.fields #[.str x t,.int 0 0]}
abbrev CJ(h:Heap)(x:Str)(t:Tok)(l:Addr):Heap:=(BJ h x t).push {cls:=.type "list_iterator",data:=.fields #[.ref l,.int 0 0]}
abbrev DJ(h:Heap)(x:Str)(t:Tok)(l:Addr):Heap:=(CJ h x t l).push {cls:=.type "tuple",data:=.seq #[.ref h.objs.size,.ref (BJ h x t).objs.size]}
abbrev EJ(h:Heap)(x:Str)(t:Tok)(l:Addr):Heap:=(DJ h x t l).push {cls:=.type "tuple",data:=.seq #[.none,.none]}
abbrev sD(h:Heap)(x:Str)(t:Tok)(l:Addr):Heap:=(EJ h x t l).push {cls:=.type "zip",data:=.fields #[.none,.bool false,.bool false,.ref (CJ h x t l).objs.size,.ref (DJ h x t l).objs.size]}
def ī(x:Str)(t:Tok)(l:Addr)(ys:wE) :
  Meets (Builtin.«zip.__new__» ⟨[.type "zip",.str x t,.ref l],[]⟩) (λ_ R s=>s.heap.IsList l ys/\
   R (.ok<|.ret<|.ref (EJ s.heap x t l).objs.size) {s with heap:=sD s.heap x t l}):=
 .of_wp λprog w A R s h=>by
  obtain⟨hl,h⟩:=h;have a:=sub_zip
  wp_walk using wpAny_pyIter_strU,wpAny_pyIter_list<|Heap.IsList.push hl _
  exact⟨_,rfl,h⟩
def Ų{t:Tok} (n:s.heap.IsList l ys)
  (h:∀a,IsZip a (s.heap.objs.size+4) (s.heap.objs.size+2) (s.heap.objs.size+3) .none->IsPair a (s.heap.objs.size+2) (.ref s.heap.objs.size) (.ref<|s.heap.objs.size+1)->
   IsPair a (s.heap.objs.size+3) .none .none->a.IsStrIter s.heap.objs.size (strIterType x) x t 0->a.IsListIter (s.heap.objs.size+1) l 0->a.objs.size=s.heap.objs.size+5->
   (∀c o,s.heap.get? c=some o->a.get? c=some o)->Q (.ref<|s.heap.objs.size+4) {s with heap:=a}) :
  wpAny (model prog w) A (call (.type "zip") [.str x t,.ref l]) Q E s:=by
 refine callType_new PySem.F.called_zip rfl (X8 _ _) (Z8 _ _) (λg=>G8 g _ _) b9
  (ī x t l ys) ⟨n,?_⟩
 have f:(BJ s.heap x t).objs.size=s.heap.objs.size+1:=Xh ..;have e:(CJ s.heap x t l).objs.size=s.heap.objs.size+2:=by rw[Xh,f]
 have d:(DJ s.heap x t l).objs.size=s.heap.objs.size+3:=by rw[Xh,e]
 have b:(EJ s.heap x t l).objs.size=s.heap.objs.size+4:=by rw[Xh,d]
 have i:(sD s.heap x t l).get? (EJ s.heap x t l).objs.size=some _:=Af _ rfl;have j:(sD s.heap x t l).get? (DJ s.heap x t l).objs.size=some _:=vc _<|Af _ rfl;have k:(sD s.heap x t l).get? (CJ s.heap x t l).objs.size=some _:=vc _<|vc _<|Af _ rfl;have m:(sD s.heap x t l).get? (BJ s.heap x t).objs.size=some _:=vc _<|vc _<|vc _<|Af _ rfl;rw[e,d,b]at i;rw[f,e]at k;rw[d]at j;rw[f]at m;rw[b];exact⟨⟨_,i,rfl⟩,h _ i k j ⟨_,(vc _<|vc _<|vc _<|vc _<|Af _ rfl),rfl,rfl⟩ ⟨_,m,rfl,rfl⟩ (by rw[Xh,b]) λc o x=>
  vc _ (vc _<|vc _<|vc _<|vc _ x)⟩
def SY(a:A.handled=none)(it:Addr)(x:Str)(t:Tok){n:String}(b:n="str_ascii_iterator"\/n="str_iterator") :
  Draws prog w A it [it] x.cps.size (λi v=>∃c u,x.cps[i]?=some c/\v=.str ⟨#[c]⟩ u) (λi h=>h.IsStrIter it n x t i):=by
 rcases b with rfl|rfl
 .exact Draws.strAscii a it x t
 exact Draws.strWide a it x t
def bGk(c:A.handled=none){it:Addr} {t:Tok} {n:String} (f:n="str_ascii_iterator"\/n="str_iterator") (st:s.heap.IsStrIter it n x t i) (b:x.cps[i]?=none)
  (d:∀a e,Heap.ExtBut it s.heap a->(∃o,a.get? e=some o/\o.cls=.type "StopIteration")->E (.ref e) {s with heap:=a}):wpAny (model prog w) A (Builtin.SmallTypes.nextOf<|.ref it) Q E s:=by
 rcases f with rfl|rfl
 .exact wpAny_nextOf_ascii_end c st b d
 exact wpAny_nextOf_wide_end c st b d
def Æ(x:Str):strIterType x="str_ascii_iterator"\/strIterType x="str_iterator":=by
 unfold strIterType;split<;>simp
end
def IJ(K:Frag)(z:ac)(a:Addr):It:=
 ⟨λi H=>i<z.length/\∃xs x,ue K H a xs/\xs[i]?=some x,λi H x H'=>∃T c v,x=V.ref T/\H T=none/\z[i]?=some c/\H'=Tb H T (.tup [.str ⟨#[c]⟩,v])/\∀xs,ue K H a xs->xs[i]?=some v,λi H=>∃xs,ue K H a xs/\(z.length<=i\/xs.length<=i)⟩
theorem bD3{w:World}{K:Frag} {x1} {S:ac} {t:Tok} {n:String} (hn:n="str_ascii_iterator"\/n="str_iterator") (a z TI TO f g:Addr) (D:∀l,l=a->Jd z TI TO f g l [f]) :
  Turn P w K (.Tuple Kj x1 tp) (IJ K S a) [z,TI,TO,f,g] z (λi h=>IsZip h z TI TO .none/\IsPair h TI (.ref f) (.ref g)/\(∃u v,IsPair h TO u v)/\h.IsStrIter f n ⟨S.toArray⟩ t i/\h.IsListIter g a i) where
 mem:=by simp
 obj:=λi h st b d=>by
  obtain⟨A,G,⟨u,v,J⟩,⟨N,L,c1,d1⟩,⟨o2,q2,c2,d2⟩⟩:=st;simp only[mem_cons,not_mem_nil,or_false]at d;rcases d with rfl|rfl|rfl|rfl|rfl
  .exact⟨_,A,λv z=>by cases z⟩
  .exact⟨_,G,λv z=>by cases z⟩
  .exact⟨_,J,λv z=>by cases z⟩
  .exact⟨N,L,λv z=>by rw[d1]at z;cases z⟩
  .exact⟨o2,q2,λv z=>by rw[d2]at z;cases z⟩
 keep:=λi h h' st k=>by
  obtain⟨A,G,⟨u,v,J⟩,⟨N,L,r1⟩,R⟩:=st;exact⟨k z (by simp) _ A,k TI (by simp) _ G,⟨u,v,k TO (by simp) _ J⟩,⟨N,k f (by simp) _ L,r1⟩,R.at λo x=>k g (by simp) o x⟩
 item:=by
  intro X W hw hK hc i aa s σ H E I V st hg;subst W hw hK;obtain⟨A,G,⟨u0,v0,J⟩,h1,R⟩:=st;obtain⟨hi,xs,x,hq,j⟩:=hg;obtain⟨its,rv,p,_⟩:=I.list hq;obtain⟨u,hu,ru⟩:=rv.get j;have D:=D a rfl;have C:∀b∈[z,TI,TO,f,g],H b=none:=λb d=>(V b d).1
  have hT:H s.heap.objs.size=none:=I.Xa.fresh<|Ec _;have Z:s.TypeIs (.ref z) "zip":=⟨_,A,rfl⟩;have U:=I.ok.hd hc;unfold pyNext;refine xa<|Mp (Ip Z Aq
   (ak Aq Z ZG
    (WL (SY (A:=X.A.in1) U f ⟨S.toArray⟩ t hn) D A (ID A) G J h1 (by simpa using hi) R p.isList (by simpa using hu) λh' tk v W a1 a2 a3 a4 a5 a6 hk=>wpAny_pure ?_) (PySem.F.args_zip_next_1 _)))
  obtain⟨c,uu,zI,rfl⟩:=W;refine⟨_,rfl,wpAny_letOwnedTupleGo_zip a1 λh9 hz9 sb=>?_⟩
  have B:∀b o,b≠z->b≠TO->b≠f->b≠g->s.heap.get? b=some o->h9.get? b=some o:=λb o e1 e2 e3 e4 q=>(sb.2 b e1).trans<|hk b o e1 e2 e3 e4 q
  have zlt:z≠s.heap.objs.size:=ff<|Tc A;have sv:h9.get? s.heap.objs.size=some {cls:=.type "tuple",data:=.seq #[.str ⟨#[c]⟩ uu,u]}:=(sb.2 _ zlt.symm).trans a5;have nT:∀b m,H b=some m->b≠s.heap.objs.size:=λb m q=>aU q hT
  have nx:∀b m,H b=some m->b≠z/\b≠TO/\b≠f/\b≠g:=λb m q=>⟨aU q<|C z<|by simp,aU q<|C TO<|by simp,aU q<|C f<|by simp,aU q<|C g<|by simp⟩
  have mx:∀b:Addr,b∉[z,TI,TO,f,g]->b≠z/\b≠TO/\b≠f/\b≠g:=λb d=>⟨λq=>d (by simp[q]),λq=>d (by simp[q]),λq=>d (by simp[q]),λq=>d<|by simp[q]⟩
  have T:∀b o,s.heap.get? b=some o->b≠s.heap.objs.size:=λb o q=>ff<|Tc q
  have M:∀b o,b∉[z,TI,TO,f,g]->s.heap.get? b=some o->h9.get? b=some o:=λb o d q=>B b o (mx b d).1 (mx b d).2.1 (mx b d).2.2.1 (mx b d).2.2.2 q
  have un:Un (Xg X.stack) [z,TI,TO,f,g] H (Tb H s.heap.objs.size<|.tup [.str ⟨#[c]⟩,x]) s.heap h9:=by
   refine⟨λb o q n d j=>M b o j q,λb o q n d j=>⟨o.slots,M b o j q⟩,λb o q n j=>by rw[aZ<|T b o q];exact n,λb o q j=>⟨o,M b o j q⟩,λb ys q=>by rw[aZ<|nT b _ q];exact q,λb o m q=>by rw[aZ<|nT b _ q];exact q,λb ps q=>⟨#[],by rw[aZ<|nT b _ q,Array.append_empty];exact q⟩⟩
  have Xa:Bf X.prog X.w (Tb H s.heap.objs.size<|.tup [.str ⟨#[c]⟩,x]) h9:=λb m q=>by
   by_cases d:b=s.heap.objs.size
   .subst d;rw[bO]at q;cases q;exact⟨show 2<=sizeLine by decide,[.str ⟨#[c]⟩ uu,u],.cons ⟨_,rfl⟩<|.cons ru .nil,_,sv,rfl,_,rfl⟩
   .rw[aZ d]at q;refine(I.Xa b m q).Dh (λc v jj r=>?_) (λc r=>by rw[aZ<|nT c _ r];exact r) λc ys r=>by rw[aZ<|nT c _ r];exact r
    have:∃Y,H c=some Y:=by
     rcases jj with z|z
     .exact⟨m,by rw[z];exact q⟩
     .exact⟨_,z⟩
    obtain⟨Y,O⟩:=this;obtain⟨e1,e2,e3,e4⟩:=nx c _ O;exact B c v e1 e2 e3 e4 r
  have I2:Ea X aa σ _ {s with heap:=h9,toks:=tk}:=I.call un Xa I.bare λb d=>by
   have F:=V b d;exact⟨F.2.2.2.1,F.2.1,F.2.2.2.2.1,F.2.2.2.2.2⟩
  have up:∀b o,b≠z->h'.get? b=some o->h9.get? b=some o:=λb o e q=>(sb.2 b e).trans q
  refine⟨.ref s.heap.objs.size,_,I2,rfl,⟨_,c,x,rfl,hT,by simpa using zI,rfl,λys hy=>by rw[I.dh hy hq];exact j⟩,⟨hz9,up _ _ D.TIz<|hk _ _ D.TIz D.TITO D.TIi1 D.TIi2 G,⟨_,_,up _ _ D.TOz a2⟩,?_,a4.at λo y=>up _ o D.i2z y⟩,λb d=>?_⟩
  .obtain⟨N,L,r1⟩:=a3;exact⟨N,up _ _ D.i1z L,r1⟩
  .have hbs:∃o,s.heap.get? b=some o:=by
    simp only[mem_cons,not_mem_nil,or_false]at d;obtain⟨N,L,_⟩:=h1;obtain⟨o2,q2,_⟩:=R;rcases d with rfl|rfl|rfl|rfl|rfl
    .exact⟨_,A⟩
    .exact⟨_,G⟩
    .exact⟨_,J⟩
    .exact⟨_,L⟩
    .exact⟨_,q2⟩
   obtain⟨o,q⟩:=hbs;rw[aZ<|T b o q];exact C b d
 done:=by
  intro X W hw hK hc i aa s σ H E I V st hg;subst W hw hK;obtain⟨A,G,⟨u0,v0,J⟩,h1,R⟩:=st;obtain⟨xs,hq,j⟩:=hg;obtain⟨its,rv,p,_⟩:=I.list hq;have D:=D a rfl;have Z:s.TypeIs (.ref z) "zip":=⟨_,A,rfl⟩;have U:=I.ok.hd hc;have hl:=rv.length;refine xa<|Mp (Ip Z Aq
   (ak Aq Z ZG
    (ZM (SY (A:=X.A.in1) U f ⟨S.toArray⟩ t hn) U D A (ID A) G J h1 R p.isList (by
     by_cases hi:S.length<=i
     .refine .inl λs' Q E st hE=>bGk (A:=X.A.in1) U hn st (by simpa using hi) hE
     .exact .inr ⟨by simpa using hi,by simp;lia⟩) λh' e tk hk he=>?_) (JP _)))
  obtain⟨o,ho,Kq⟩:=he;refine xa<|Tw ⟨o,ho,Kq⟩ Mz ?_;refine Ua ⟨rfl,?_⟩;have C:=λb d=>(V b d).1
  have mx:∀b:Addr,b∉[z,TI,TO,f,g]->b≠z/\b≠TO/\b≠f/\b≠g:=λb d=>⟨λq=>d (by simp[q]),λq=>d (by simp[q]),λq=>d (by simp[q]),λq=>d<|by simp[q]⟩
  have M:=λb o d q=>hk b o (mx b d).1 (mx b d).2.1 (mx b d).2.2.1 (mx b d).2.2.2 q
  have un:Un (Xg X.stack) [z,TI,TO,f,g] H H s.heap h':=
   ⟨λb o q n d j=>M b o j q,λb o q n d j=>⟨o.slots,M b o j q⟩,λb o q n j=>n,λb o q j=>⟨o,M b o j q⟩,λb ys q=>q,λb o m q=>q,λb ps q=>⟨#[],by exact q⟩⟩
  have Xa:Bf X.prog X.w H h':=λb m q=>by
   refine(I.Xa b m q).Dh (λc v jj r=>?_) (λc r=>r) λc ys r=>r
   have:∃Y,H c=some Y:=by
    rcases jj with z|z
    .exact⟨m,by rw[z];exact q⟩
    .exact⟨_,z⟩
   obtain⟨Y,O⟩:=this;exact hk c v (aU O<|C z<|by simp) (aU O<|C TO<|by simp) (aU O<|C f<|by simp) (aU O<|C g<|by simp) r
  exact I.call un Xa I.bare λb d=>by
   have F:=V b d;exact⟨F.2.2.2.1,F.2.1,F.2.2.2.2.1,F.2.2.2.2.2⟩
 self:=λ_ _ _ _ _ st h=>wpAny_pyIter_zip st.1 h
theorem F1:∀(z:ac)(a:db),(zX z a).length=min z.length a.length
 |[],a=>by simp[zX]
 |c::z,[]=>by simp[zX]
 |c::z,d::a=>by rw[zX,fg,fg,fg,F1];lia
theorem G1:∀(z:ac)(a:db)(i:Nat)(d:D),(zX z a)[i]?=some d->∃c e,z[i]?=some c/\a[i]?=some e/\d=.tup [.str [c],e]
 |[],a,i,d,h=>by simp[zX]at h
 |c::z,[],i,d,h=>by simp[zX]at h
 |c::z,e::a,0,d,h=>by
  rw[zX]at h;simp at h;exact⟨c,e,rfl,rfl,h.symm⟩
 |c::z,e::a,i+1,d,h=>by
  obtain⟨c',j,g,f,b⟩:=G1 z a i d h;exact⟨c',j,by simpa using g,by simpa using f,b⟩
section
variable {a b:Expr}
theorem bKv{K:Frag} (n:ue K (hide (A++B) H) l vs) (r:bC K (hide (A++B) H) ds vs):bu K B A H (IJ K z l) (zX z ds):=by
 intro s H' b own i;have a:=(aX _ _).seq<|(Le.app b).seq n;refine⟨λd hd=>?_,λhl=>⟨vs,a,?_⟩⟩
 .obtain⟨c,e,k,p,rfl⟩:=G1 z ds i d hd;obtain⟨v,h,m⟩:=r.get p;refine⟨⟨(xg.mp k).1,vs,v,a,h⟩,λx q y=>?_⟩
  obtain⟨T,c',v',rfl,j,f,rfl,o⟩:=y;have g:=o vs a;rw[h]at g;cases g;rw[k]at f;cases f;exact⟨cQ j,vK own j<|.cons (eF.mpr rfl)<|.cons (m.mono<|Le.app b) .nil⟩
 rw[F1]at hl;rw[r.length];lia
def P6{x1}{p:Pos}(N:X.mg "zip"=none)(S:PE X a (tI X.K B f))(d:PE X b (tI X.K B g))(P:Gl X "zip":=by rfl)(r:starEach [a,b] X.env=(false,eval a X.env)::starEach [b] X.env:=by rfl)(C:starEach [b] X.env=[(false,eval b X.env)]:=by rfl):L2.PI X (.Tuple Kj x1 tp) (.Call (.Name "zip" p) [a,b] [] pos) (Um X.K B<|NF f g):=by
 intro aa s σ H Rq I ⟨A,st,ds,n,Q,q⟩;obtain⟨x,M,T⟩:=R.ua Q;obtain⟨y,L,k⟩:=R.ua T;split at k
 rotate_left
 .cases k
 rename_i zs ws;cases k;refine Call_<|vR I P N boot_zip<|fu (Cc ((cM S (cM d fJ C) r) pos aa s σ H (λvs H1=>∃v w,vs=[v,w]/\aR H H1/\Ib X.K (hide _ H1) _ v/\Ib X.K (hide _ H1) _ w) I ⟨A,st,_,n,M,λv H1 s1 r1=>⟨A,st,_,n.mono s1,L,λw H2 m G=>⟨v,w,rfl,s1.trans m,r1.mono<|aR.hide m,G⟩⟩⟩) λus s1 ⟨vs,H1,I1,r1,v,w,hv,sm,rv,Wj⟩=>?_) r<|by rw[C];rfl
 subst hv;obtain⟨i,h,rfl,j,c⟩:∃i h,us=[i,h]/\L2.RelV v i/\L2.RelV w h:=by
  cases r1 with
  |cons j c=>
   cases c with
   |cons c F=>
    cases F;exact⟨_,_,rfl,j,c⟩
 obtain⟨l,Z,rfl,u,E⟩:=eO.mp Wj;have U:=eF.mp rv;subst U;obtain⟨t,rfl⟩:=(j);subst c;obtain⟨K,SI,pl,hz⟩:=I1.list<|(aX _ _).seq u;refine Ų pl.isList λh' z V D J W Y O=>wpAny_pyIter_zip z ⟨s1.heap.objs.size+4,[s1.heap.objs.size+4,s1.heap.objs.size+2,s1.heap.objs.size+3,s1.heap.objs.size,s1.heap.objs.size+1],_,IJ X.K zs l,H1,rfl,I1.kept O,bD3 (Æ _) l _ _ _ s1.heap.objs.size _<|λl' e=>?_,⟨z,V,⟨_,_,D⟩,J,W⟩,λb d=>?_,q _ H1 sm<|bKv u E⟩
 .subst e;exact DX (by
  obtain⟨o,e,_⟩:=pl.isList;exact Tc e)
 simp at d;rcases d with rfl|rfl|rfl|rfl|rfl<;>exact I1.Mj (by simp)<|I1.Xa.fresh<|by simp
end
def bitAnd_nn{i j:Int}(b:0<=i)(a:0<=j):Builtin.bitAnd i j=((i.toNat&&&j.toNat:Nat):Int):=by
 unfold Builtin.bitAnd;rw[fh b,fh a]
theorem bD5{i j:Int}(b:0<=i)(a:0<=j):Builtin.bitOr i j=((i.toNat|||j.toNat:Nat):Int):=by
 unfold Builtin.bitOr Builtin.bitAnd;rw[bf (by unfold Builtin.bitNot;lia),bf (by unfold Builtin.bitNot;lia)]
 have e1:Builtin.bitNot (Builtin.bitNot i)=i:=by unfold Builtin.bitNot;lia
 have e2:Builtin.bitNot (Builtin.bitNot j)=j:=by unfold Builtin.bitNot;lia
 unfold Builtin.bitNot;lia
section
variable {a b:Expr}
def O7(i:PE X a (tP X.K B f))(h:PE X b (tP X.K B g)):PE X (.BinOp a .LShift b pos) (tI X.K B<|e2 Hr f g):=
 Fp bJ0 (Ly (λ_ _ _=>bK.mpr rfl) λx y d e=>by
  unfold Hr at e;split at e
  .obtain⟨c,e⟩:=aM e;cases e;exact⟨_,_,rfl,rfl,c,rfl⟩
  cases e) i h
def bO3(i:PE X a (tP X.K B f))(h:PE X b (tP X.K B g)):PE X (.BinOp a .RShift b pos) (tI X.K B<|e2 pz f g):=
 Fp bJ1 (Ly (λ_ _ _=>bK.mpr rfl) λx y d e=>by
  unfold pz at e;split at e
  .obtain⟨c,e⟩:=aM e;cases e;exact⟨_,_,rfl,rfl,c,rfl⟩
  cases e) i h
def Q6(i:PE X a (tP X.K B f))(h:PE X b (tP X.K B g)):PE X (.BinOp a .BitAnd b pos) (tI X.K B<|e2 Ir f g):=
 Fp bJ2 (yH (λ_ _ _=>bK.mpr rfl) λx y d e=>by
  unfold Ir at e;split at e
  .obtain⟨c,e⟩:=aM e;cases e;exact⟨_,_,rfl,rfl,by rw[bitAnd_nn c.1 c.2]⟩
  cases e) i h
def AG(i:PE X a (tP X.K B f))(h:PE X b (tP X.K B g)):PE X (.BinOp a .BitOr b pos) (tI X.K B<|e2 Gq f g):=
 Fp bM6 (yH (λ_ _ _=>bK.mpr rfl) λx y d e=>by
  unfold Gq at e;split at e
  .obtain⟨c,e⟩:=aM e;cases e;exact⟨_,_,rfl,rfl,by rw[bD5 c.1 c.2]⟩
  cases e) i h
theorem Ag:∀{l:li}{a:ca},Ka (l.map V.int) a->∀(j:Nat)(h:j<a.length),∃i t,l[j]?=some i/\a[j]=.int i t
 |[],a,r,j,h=>by cases r;simp at h
 |i::l,a,r,j,h=>by
  cases r with
  |cons c b=>
   obtain⟨t,rfl⟩:=c;cases j with
   |zero=>exact⟨i,t,rfl,rfl⟩
   |succ j=>
    obtain⟨d,t',f,e⟩:=Ag b j _;exact⟨d,t',by simpa using f,by simpa using e⟩
def bGl:jq X "int.bit_length" (λx vs H Q=>∃i:Int,x=.int i/\vs=[]/\Q (.int ((Builtin.Int.intBits i:Nat):Int)) H):=by
 intro aa s σ H x vs v us Q I b c h;obtain⟨i,rfl,rfl,q⟩:=h;obtain⟨t,rfl⟩:=(b);have a:=c.zero;subst a;exact call_int_bit_length ⟨.int _,H,I.tok _,⟨_,rfl⟩,q⟩
def bGm(i:Int):Builtin.Int.intBits i=zY i:=by
 unfold Builtin.Int.intBits zY
 by_cases h:i=0
 .rw[Kb h,Kb (by rw[h];rfl)]
 rw[Pa h,Pa (by simpa using h)]
def bKw(g:PE X o (tP X.K B f))(i:Ak o "bit_length" X.env:=by rfl)(j:Pn Fb Nb:=by rfl) :
  PE X (.Call (.Attribute o "bit_length" Fb) [] [] Nb) (tI X.K B<|e1 nE f):=by
 refine cC (bJ9 PySem.F.plainAttrs_int PySem.F.slot_int_bit_length PySem.F.type_int_bit_length bGl g i j) ?_
 rintro σ H Q ⟨A,st,d,c,h,k⟩;obtain⟨x,e,b⟩:=R.ua h;cases x<;>first|(cases b;done)|skip
 cases b;refine⟨A,st,_,c,e,λv H1 s1 a=>⟨by rw[a.int];rfl,_,a.int,rfl,?_⟩⟩
 rw[bGm];exact k _ H1 s1<|bK.mpr rfl
end
section
open PySem.SeqAt
open PySem.AutoSeq1 (wpAny_loadPart')
open PySem.MeetsSeq PySem.MeetsSeq2 PySem.MeetsSeq3
inductive wm (A:Around) (s:Shared):List Value->List Value->Bool->Prop where
 |nn:wm A s [] [] true
 |nc {w:Value} {ws:ca}:wm A s [] (w::ws) true
 |cn {v:Value} {vs:ca}:wm A s (v::vs) [] false
 |eq {v w:Value} {vs ws:ca} {b:Bool}:EqAt A s v w true->wm A s vs ws b->wm A s (v::vs) (w::ws) b
 |lt {v w:Value} {vs ws:ca} {b:Bool}:EqAt A s v w false->(∀(prog:Program)(wd:World)(E Q:be),Q (.bool b) s->wpAny (model prog wd) A (richCompare .LtE v w) Q E s)->wm A s (v::vs) (w::ws) b
end
end Pu
namespace Pu
section
open PySem PySem.Spec PyProof.Rows L2
variable {a b:Expr}
def Fy{K:Frag}:Zj K (kl λi j=>.bl<|decide (i<j)) ao:=yH (λ_ _ _=>dW.mpr rfl) λx y d e=>by
 unfold ao at e;split at e
 .cases e;exact⟨_,_,rfl,rfl,rfl⟩
 cases e
def bD7{i j:Int}(c:(-18446744073709551616<i/\i<18446744073709551616)\/(-18446744073709551616<j/\j<18446744073709551616)):cz i j:=by
 unfold cz;omega
def nF(k:PE X a (tP X.K B f))(j:PE X b (tP X.K B g)):PE X (.BinOp a .Mult b pos) (tI X.K B<|e2 lZ f g):=by
 refine Fp bIx ?_ k j;intro A H x y d v u Q w i h e q;unfold lZ at e;split at e
 .obtain⟨c,e⟩:=aM e;cases e;exact⟨_,_,i.int,h.int,bD7 c,q _ H (aR.refl _)<|bK.mpr rfl⟩
 cases e
end
end Pu
namespace Pu
open PySem PySem.Spec PyProof.Rows L2
def bPs{K:Frag} {p:Addr} (s1:aR H H1) (d:H1 p=none) (s2:aR H1 H') (c:H' p=some (.lst vs)) (r:bC K (hide (A++p::B) H') ds vs):∃G,aR H G/\G p=none/\Tb G p (.lst vs)=H'/\bC K (hide (A++B) G) ds vs:=by
 let G:=λb=>if b=p then none else H' b
 refine⟨G,λb o z=>?_,(Kb rfl),?_,r.mono λb o z=>?_⟩
 .show (if b=p then none else H' b)=_
  rw[Pa<|aU (s1 _ _ z) d];exact s2 _ _<|s1 _ _ z
 .funext b
  by_cases a:b=p
  .subst a;rw[bO,c]
  rw[aZ a];exact Pa a
 have a:b∉A++p::B:=λw=>by rw[iT w]at z;cases z
 have e:=aX _ _ _ _ z;rw[bQ λw=>a<|mem_mid.mpr<|.inr w]
 show (if b=p then none else H' b)=_
 rwa [Pa λw=>a<|mem_mid.mpr<|.inl w]
section
variable {σ:List (Option V)}
def bD8(I:Ea X aa σ H s)(k:∀b u,s.heap.get? b=some u->h'.get? b=some u)(sm:aR H H')(f:∀b,b<s.heap.objs.size->H' b=H b)(c:∀a o,H a=none->H' a=some o->lX X.prog X.w H' h' a o):Ea X aa σ H' {s with heap:=h',toks:=t'}:=by
 refine I.un ⟨λb u q _ _ _=>k b u q,λb u q _ _ _=>⟨u.slots,k b u q⟩,λb u q n _=>by rwa [f b<|Tc q],λb u q _=>⟨u,k b u q⟩,λb xs q=>sm _ _ q,λb u xs q=>sm _ _ q,λb ps q=>⟨#[],by rw[sm _ _ q];simp⟩⟩ λa o e=>?_
 cases d:H a with
 |none=>exact c a o d e
 |some u=>
  have z:=sm a u d;rw[e]at z;cases z;exact(I.Xa a _ d).Dh (λb v _ q=>k b v q) (λb q=>sm _ _ q) λb xs q=>sm _ _ q
end
section
variable {a:Expr} {rest:List Stmt}
def bKx(h:PE X e (tF X.K B f))(g:∀st d,f st=.ok d->∃xs,d=.lst xs):PE X e (tI X.K B f):=cC h (by
 rintro σ H Q ⟨A,st,d,a,c,q⟩;obtain⟨xs,rfl⟩:=g st d c;exact⟨A,st,xs,a,c,λp vs H' s b r=>q _ _ (s.trans<|cQ b)<|iH (a.own.mono s) b r⟩)
end
structure DA(K:Frag)(n:Str)(st:Stmt):Prop where
 ex:∃(f:Addr)(fd:FuncData),nsIn K mainGlobals n=some (some<|.ref f)/\Qa K n n st .none f fd
section
variable{P:Program}{w:World}{K:Frag}{h base:Heap}{mg:dL}{n:Str}{st:Stmt}{f:Addr}{ps:ut}{k np m:Nat}{p:cr}{bd:Bd}{g:Ex}
def eX{b:pc}{kV:Value} (a:nsIn K mainGlobals n=some (some<|.ref f)) (l:K.lookup f=some ⟨oc,b,.func<|fnOf n n (fD st) (dI st) (bD st) .none kV doc pm an bc ct,Zi⟩)
  (c:codeIn K bc n=true) (k:keepIn K (.ref f)=true):DA K n st:=⟨⟨f,_,a,sV l c k⟩⟩
structure Ct(P:Program)(w:World)(K:Frag)(mg:dL)(base h:Heap):Prop where
 X:K.In h
 G:h.Ns mainGlobals mg
def Bn(n:Str)(st:Stmt)(ps:ut):Prop:=∀(kV a b:Value)(e:pc)(d c:Value)(us:ca),us.length=ps.length->bindArgs (fnOf n n (fD st) (dI st) (bD st) .none kV a b e d c) ⟨us,[]⟩=pure (ps.zip us)
structure zD(n q:Str)(st:Stmt)(ps:ut):Prop where
 ok:∀(kV doc pm:Value)(an:pc)(bc ct:Value)(us:ca),us.length=ps.length->bindArgs (fnOf n q (fD st) (dI st) (bD st) .none kV doc pm an bc ct) ⟨us,[]⟩=pure (ps.zip us):=by first|exact λ_ _ _ _ _ _=>L4 rfl|exact λ_ _ _ _ _ _=>XM λ_=>rfl|exact λ_ _ _ _ _ _=>YM λ_ _=>rfl|exact λ_ _ _ _ _ _=>yN λ_ _ _=>rfl|exact λ_ _ _ _ _ _=>M4 λ_ _ _ _=>rfl|exact λ_ _ _ _ _ _=>RE λ_ _ _ _ _=>rfl|exact λ_ _ _ _ _ _=>bGe λ_ _ _ _ _ _=>rfl
def DA.ZC(D:DA K n st)(C:Ct P w K mg base h)(b:Bn n st ps):∃(f:Addr)(c:FuncData),Qa K n n st .none f c/\mg n=some (.ref f)/\Binds K c ps []:=by
 obtain⟨f,c,a,F⟩:=D.ex;exact⟨f,c,F,Oh C.X C.G a,F.Gg b⟩
theorem DA.ok(D:DA K n st)(C:Ct P w K mg base h)(r:∀{f:Addr}{c:FuncData},Qa K n n st .none f c->Ha P w K mg base wc k f c ps (Xc K np<|dD np m bd))(b:zD n n st ps:=by exact {}):Za P w K mg base n k np (dD np m bd):=by
 obtain⟨f,c,F,a,z⟩:=D.ZC C b.ok;exact .of (r F) a F.kp z my
def DA.Nn(D:DA K n st)(C:Ct P w K mg base h)(r:∀{f:Addr}{c:FuncData},Qa K n n st .none f c->Ha P w K mg base (Ng P w) k f c ps (tm K np<|dD np m bd))(b:zD n n st ps:=by exact {}):pf P w K mg base n k np (dD np m bd):=by
 obtain⟨f,c,F,a,z⟩:=D.ZC C b.ok;exact .of (r F) a F.kp z
structure MA(K:Frag)(C:Addr)(m:String)(n q:Str)(st:Stmt):Prop where
 ex:∃(f:Addr)(fd:FuncData),Meth K C (ofString m) f/\Qa K n q st .none f fd
def kO{m:String}{q:Str}{b:pc}{kV:Value} (a:findIn K (.ref C) (ofString m)=some (some<|.ref f)) (e:isFn K (.ref f)=true) (l:K.lookup f=some ⟨oc,b,.func<|fnOf n q (fD st) (dI st) (bD st) .none kV doc pm an bc ct,Zi⟩)
  (c:codeIn K bc q=true) (k:keepIn K (.ref f)=true):MA K C m n q st:=⟨⟨f,_,⟨a,e,k⟩,sV l c k⟩⟩
theorem MA.ok{C:Addr}{c m:String}{q:Str}{j:Nat}(D:MA K C m n q st)(_:Ct P w K mg base h)(d:ClsAt K c C)(r:∀{f:Addr}{a:FuncData},Qa K n q st .none f a->Ha P w K mg base wc k f a ps (Xc K np<|dD np j bd))(b:zD n q st ps:=by exact {}):ye P w K mg base c m k np [] (dD np j bd):=by
 obtain⟨f,a,M,F⟩:=D.ex;exact ye.of d M (r F) (F.Gg b.ok) .nil λ_=>.nil
end
structure XA(K:Frag)(c:String)(C:Addr)(An:ca)(newId:String):Prop where
 a:nsIn K mainGlobals (ofString c)=some (some<|.ref C)
 q:excIn K C An newId=true
 g1:findIn K (.ref C) "__getattribute__"=some (some<|.builtin "BaseException.__getattribute__")
 g6:findIn K (.ref C) "__getattr__"=some none
 g7:mroIn K C (.type "BaseException")=some true
 g2:findIn K (.ref C) "__class__"=some (some<|.builtin "object.__class__")
 g5:mroIn K C (.type "object")=some true
def XA.at{K:Frag}{B:String} (Y:XA K c C An newId) (F:ExcBaseFacts B newId Kg An) (b:specialIn K (.builtin "object.__class__") "__get__"=some (some<|.builtin "getset_descriptor.__get__")) (a:takesIn K (.builtin "object.__class__")=some true):∃d,ExcAt K c C d:=bCz F Y.a Y.q Y.g1 Y.g6 Y.g7 Y.g2 b a Y.g5
section
variable {a b:Expr}
def UE(h:X.mg "int"=none)(k:PE X a (tP X.K B f))(i:Gl X "int":=by rfl)(c:Oe a [] X.env:=by rfl):PE X (.Call (.Name "int" p0) [a] [] pos) (tI X.K B<|e1 vq f):=by
 refine cC (nM ń i h rfl (cM k fJ c) (he:=c)) ?_
 rintro σ H Q ⟨A,st,d,e,j,q⟩;obtain⟨y,g,b⟩:=R.ua j;refine⟨A,st,y,e,g,λv H1 s1 r1=>?_⟩
 unfold vq at b;split at b
 .cases b;exact .inl ⟨_,by rw[r1.int],q _ H1 s1<|bK.mpr rfl⟩
 .cases b;exact .inr ⟨_,by rw[r1.bl],q _ H1 s1<|bK.mpr rfl⟩
 cases b
end
open Builtin
theorem ă{l b:Nat}(h:l<n)(d:b<n):Jd (n+4) (n+2) (n+3) n (n+1) l [n,b]:=by
 have z:=DX h;have a:∀m:Nat,n<m->m∉[n,b]:=λm c q=>by
  simp at q;rcases q with q|q<;>lia
 exact⟨z.TIz,z.TOz,z.i1z,z.i2z,z.TITO,z.TIi1,z.TIi2,z.TOi1,z.TOi2,z.i12,z.lz,z.QB,z.RB,z.QS,a _ (by lia),a _ (by lia),a _<|by lia⟩
section
variable{prog:Program}{w:World}{A:Around}{E:be}{s:Shared}
abbrev ZI(h:Heap)(a:Addr):Heap:=h.push {cls:=.type "list_iterator",data:=.fields #[.ref a,.int 0 0]}
abbrev eJ(h:Heap)(a:Addr)(l:Addr):Heap:=(ZI h a).push {cls:=.type "list_iterator",data:=.fields #[.ref l,.int 0 0]}
abbrev tJ(h:Heap)(a:Addr)(l:Addr):Heap:=(eJ h a l).push {cls:=.type "tuple",data:=.seq #[.ref h.objs.size,.ref (ZI h a).objs.size]}
abbrev AJ(h:Heap)(a:Addr)(l:Addr):Heap:=(tJ h a l).push {cls:=.type "tuple",data:=.seq #[.none,.none]}
abbrev kD(h:Heap)(a:Addr)(l:Addr):Heap:=(AJ h a l).push {cls:=.type "zip",data:=.fields #[.none,.bool false,.bool false,.ref (eJ h a l).objs.size,.ref (tJ h a l).objs.size]}
def Ĭ(a l:Addr)(d ys:wE) :
  Meets (Builtin.«zip.__new__» ⟨[.type "zip",.ref a,.ref l],[]⟩) (λ_ R s=>s.heap.IsList a d/\s.heap.IsList l ys/\
   R (.ok<|.ret<|.ref (AJ s.heap a l).objs.size) {s with heap:=kD s.heap a l}):=
 .of_wp λprog w A R s h=>by
  obtain⟨c,hl,h⟩:=h;have b:=sub_zip
  wp_walk using wpAny_pyIter_list c,wpAny_pyIter_list<|Heap.IsList.push hl _
  exact⟨_,rfl,h⟩
def ų (n:s.heap.IsList l1 UU) (p:s.heap.IsList l ys)
  (h:∀a,IsZip a (s.heap.objs.size+4) (s.heap.objs.size+2) (s.heap.objs.size+3) .none->IsPair a (s.heap.objs.size+2) (.ref s.heap.objs.size) (.ref<|s.heap.objs.size+1)->
   IsPair a (s.heap.objs.size+3) .none .none->a.IsListIter s.heap.objs.size l1 0->a.IsListIter (s.heap.objs.size+1) l 0->a.objs.size=s.heap.objs.size+5->
   (∀c o,s.heap.get? c=some o->a.get? c=some o)->Q (.ref<|s.heap.objs.size+4) {s with heap:=a}) :
  wpAny (model prog w) A (call (.type "zip") [.ref l1,.ref l]) Q E s:=by
 refine callType_new PySem.F.called_zip rfl (X8 _ _) (Z8 _ _) (λg=>G8 g _ _) b9
  (Ĭ l1 l UU ys) ⟨n,p,?_⟩
 have f:(ZI s.heap l1).objs.size=s.heap.objs.size+1:=Xh ..;have e:(eJ s.heap l1 l).objs.size=s.heap.objs.size+2:=by rw[Xh,f]
 have d:(tJ s.heap l1 l).objs.size=s.heap.objs.size+3:=by rw[Xh,e]
 have b:(AJ s.heap l1 l).objs.size=s.heap.objs.size+4:=by rw[Xh,d]
 have i:(kD s.heap l1 l).get? (AJ s.heap l1 l).objs.size=some _:=Af _ rfl;have j:(kD s.heap l1 l).get? (tJ s.heap l1 l).objs.size=some _:=vc _<|Af _ rfl;have k:(kD s.heap l1 l).get? (eJ s.heap l1 l).objs.size=some _:=vc _<|vc _<|Af _ rfl;have m:(kD s.heap l1 l).get? (ZI s.heap l1).objs.size=some _:=vc _<|vc _<|vc _<|Af _ rfl;rw[e,d,b]at i;rw[f,e]at k;rw[d]at j;rw[f]at m;rw[b];exact⟨⟨_,i,rfl⟩,h _ i k j ⟨_,(vc _<|vc _<|vc _<|vc _<|Af _ rfl),rfl,rfl⟩ ⟨_,m,rfl,rfl⟩ (by rw[Xh,b]) λc o x=>
  vc _ (vc _<|vc _<|vc _<|vc _ x)⟩
def bD9(d:A.handled=none){it:Addr} (st:s.heap.IsListIter it l i) (c:s.heap.IsList l ys) (b:ys[i]?=none)
  (f:∀a e,Heap.ExtBut it s.heap a->(∃o,a.get? e=some o/\o.cls=.type "StopIteration")->E (.ref e) {s with heap:=a}):wpAny (model prog w) A (Builtin.SmallTypes.nextOf<|.ref it) Q E s:=BH d st c b f
end
end Pu
namespace Pu
open PySem PyProof.Rows
def Il(h:Heap)(d:Addr)(a:Array DictEntry)(b:Nat):Prop:=∃o,h.get? d=some o/\o.ExactDict/\o.data=.dict a b
def Il.ty{d:Addr}{a:Array DictEntry} (x:Il s.heap d a ep):s.TypeIs (.ref d) "dict":=let ⟨o,h,e,_⟩:=x;⟨o,h,e.1⟩
def Il.at{d:Addr}{a:Array DictEntry} (x:Il h d a ep) (k:∀o,h.get? d=some o->h'.get? d=some o):Il h' d a ep:=let ⟨o,e,r⟩:=x;⟨o,k o e,r⟩
def Il.lt{d:Addr}{a:Array DictEntry} (x:Il h d a ep):d<h.objs.size:=let ⟨_,e,_⟩:=x;Tc e
section
variable{w:World}{A:Around} {it d:Addr} {es:Array DictEntry}
def bDa(c:(d==sysModules)=false)(x:Il s.heap d es ep)(q:Q (.ref s.heap.objs.size) {s with heap:=s.heap.push {cls:=.type "dict_keyiterator",data:=.fields #[.ref d,.int 0 0,.int es.size 0,.int ep 0]} }):wpAny (model prog w) A (pyIter<|.ref d) Q E s:=by
 obtain⟨o,a,e,b⟩:=id x;refine IH x.ty F.slot_dict_iter<|ak F.slot_dict_iter x.ty F.entry_dict_iter (xa<|xa<|wpAny_notOrdered_dict x.ty<|Ua<|(?_:wpAny _ _ (Builtin.Dict.showsAll d >>= _) _ _ s))<|F.args_dict_iter_1 _;unfold Builtin.Dict.showsAll;rw[Pa (by rw[c];exact jo)]
 refine xa<|Ua<|xa<|HQ a b<|xa<|OQ a b<|xa<|oo<|Ua ⟨_,rfl,"dict_keyiterator",_,⟨_,Af _ rfl,rfl⟩,yz.lookup,?_⟩;simpa [rawInt] using q
def bDb{e:DictEntry}{Q:tz}(hit:s.heap.IsKeyIter it d i es.size ep)(x:Il s.heap d es ep)(k:es[i]?=some e)
  (q:∀f,f.IsKeyIter it d (i+1) es.size ep->Heap.SameBut it s.heap f->Q (some e.key) {s with heap:=f}):wpAny (model prog w) A (pyNext<|.ref it) Q E s:=by
 obtain⟨o,b,m,a⟩:=id hit;obtain⟨n,j,_,g⟩:=id x;refine xa<|Mp<|Ip hit.typeIs yz<|ak yz hit.typeIs w8 (xa<|Ua<|xa<|xa ?_)<|v8 _
 first|refine xa (RG hit.typeIs<|Ua ?_)|refine xa<|WG hit.typeIs<|Ua ?_
 refine xa<|Xw b a<|((xa<|Ua<|xa<|HQ j g ?_):wpAny _ _ _ _ _ s);rw[Pa (by simp)]
 refine xa<|Ua<|xa<|OQ j g ?_;rw[Pa (by simp)]
 refine Ua ?_
 obtain⟨c,l⟩:=gu.mp k;subst l;simp[Array.getElem?_eq_getElem c];refine xa ?_
 first|refine xa (RG hit.typeIs<|Ua ?_)|refine xa<|WG hit.typeIs<|Ua ?_
 refine xa<|wpAny_isOneOf_keyiter hit.typeIs<|((xa<|Ur b a (by simp) ?_):wpAny _ _ (setField _ 1 _ >>= _) _ _ s)
 have h:(s.heap.update it (Obj.mapFields (·.setIfInBounds 1 (rawInt<|i+1)))).IsKeyIter it d (i+1) es.size ep:=
  ⟨_,rn _ b<|Bz<|Qw a _,(Obj.cls_mapFields ..).trans m,by rw[Qw a];simp[rawInt]⟩
 exact xa<|gh<|xa<|wpAny_isOneOf_keyiter h.typeIs<|(Ua<|Ua ⟨_,rfl,Ua<|q _ h<|ku ..⟩)
def bGn{Q:tz}(h:A.handled=none)(hit:s.heap.IsKeyIter it d i es.size ep)(x:Il s.heap d es ep)(g:es.size<=i)
  (q:∀c,Heap.ExtBut it s.heap c->Q none {s with heap:=c}):wpAny (model prog w) A (pyNext<|.ref it) Q E s:=by
 obtain⟨o,a,k,b⟩:=id hit;obtain⟨j,f,_,e⟩:=id x;refine xa<|Mp<|Ip hit.typeIs yz<|ak yz hit.typeIs w8 (xa<|Ua<|xa<|xa ?_)<|v8 _
 first|refine xa (RG hit.typeIs<|Ua ?_)|refine xa<|WG hit.typeIs<|Ua ?_
 refine xa<|Xw a b<|((xa<|Ua<|xa<|HQ f e ?_):wpAny _ _ _ _ _ s);rw[Pa (by simp)]
 refine xa<|Ua<|xa<|OQ f e ?_;rw[Pa (by simp)]
 refine Ua ?_
 simp[Array.getElem?_eq_none g];refine xa ?_
 first|refine xa (RG hit.typeIs<|Ua ?_)|refine xa<|WG hit.typeIs<|Ua ?_
 refine((xa<|Ur a b (by simp) ?_):wpAny _ _ (setField _ 0 .none >>= _) _ _ s)
 refine xa<|xa<|oo (xa<|XH (by first|rfl|(rfl))<|oo (xa<|wpAny_handled ?_)<|by size_fits)<|by size_fits
 rw[h];refine xa<|Ua<|wpAny_throw ?_;exact xa<|Tw ⟨_,Af _ rfl,rfl⟩ Mz<|Ua<|q _<|((ku ..).extBut.push _).push _
def Ŵ(l:A.handled=none)(I:Addr)(m:d≠I):Walks prog w A I [I,d] [I] es.size (λi v=>∃e,es[i]?=some e/\v=e.key) (λi h=>h.IsKeyIter I d i es.size ep/\Il h d es ep) where
 sub:=λb a=>by simp at a;simp[a]
 frame:=λ_ _ _ st g=>⟨st.1.at λo e=>g I (by simp) o e,st.2.at λo e=>g d (by simp) o e⟩
 item:=λi s Q E j st c=>bDb st.1 st.2 (Lk j) λh' n k=>c _ h' s.toks ⟨_,Lk j,rfl⟩ ⟨n,st.2.at λo e=>k.extBut d o m e⟩ λb o a e=>k.extBut b o (λh=>a<|by simp[h]) e
 done:=λs Q E st c=>bGn l st.1 st.2 (Ec _) λh' f=>c h' s.toks λb o a e=>f b o (λh=>a<|by simp[h]) e
 self:=λ_ _ _ _ st c=>wpAny_pyIter_keyiter st.1 c
def P4(lo:(d==sysModules)=false):KdlSrc prog w "dict" d d es.size (λi v=>∃e,es[i]?=some e/\v=e.key) (λh=>Il h d es ep) where
 type:=λ_ x=>x.ty
 there:=λ_ x=>⟨x.lt,x.lt⟩
 keep:=λ_ _ x b=>x.at λo e=>b d (.inl rfl) o e
 notList:=rfl
 notTuple:=rfl
 hint:=λ_ _ _ _ x a=>PySem.W.kdl_hint_dict x.ty a
 iter:=λ_ _ c x=>⟨_,_,(λ_ _ a=>bDa lo x a),Ŵ c _<|ff x.lt,⟨⟨_,Af _ rfl,rfl,rfl⟩,x.at λ_ e=>vc _ e⟩⟩
end
section
variable{w:World}{A:Around} {T:String} {r d:Addr} {P:Nat->Value->Prop} {OK:Heap->Prop}
def bKy{R:GT}(K:KdlSrc prog w T r d n P OK)(t:A.handled=none)(l:OK s.heap)(p:n<=sizeLine)
  (q:∀(a:Heap)(g:Nat)(vs:ca),ItemsOf P vs.toArray n->(∀b o,s.heap.get? b=some o->a.get? b=some o)->R vs {s with heap:=a,toks:=g}) :
  wpAny (model prog w) A (collect<|.ref r) R E s:=by
 refine xa<|wpAny_runValue<|Dm entry_proto_collect'<|xa<|oo<|Ua ⟨yn O8 _,Dm entry_list_iadd' ?_⟩;have la:=K.there _ l;have h:∀(a:Heap)(g:Nat)(vs:ca)(c:Nat),ItemsOf P vs.toArray n->(∀b o,s.heap.get? b=some o->a.get? b=some o)->a.get? s.heap.objs.size=some {cls:=.type "list",dict:=none,data:=.seq vs.toArray c,slots := #[]}->
   wpAny (model prog w) A (load s.heap.objs.size >>= λo=>match o.data with|.seq xs _=>pure xs.toList|_=>unsupported "internal:collect") R E {s with heap:=a,toks:=g}:=λa g vs c i k o=>by
  exact xa<|wpAny_load o<|Ua<|q a g vs i k
 refine dk (PySem.W.kdl_extend (s:={s with heap:=s.heap.push {cls:=.type "list",data:=.seq ([]).toArray} })
  (R:=λq s'=>q=.ok _/\∃(a:Heap)(g:Nat)(vs:ca)(c:Nat),s'={s with heap:=a,toks:=g}/\ItemsOf P vs.toArray n/\(∀b o,s.heap.get? b=some o->a.get? b=some o)/\a.get? s.heap.objs.size=some {cls:=.type "list",dict:=none,data:=.seq vs.toArray c,slots := #[]})
  K t (K.keep _ _ l λb _ o e=>vc _ e) s.heap.objs.size (Wr la.1) (Wr la.2) _ 0 (Af _ rfl)
  (λa g qa c k o it=>⟨rfl,a,g,qa.toList,c,rfl,by simpa using it,λb m j=>k b m (Nat.ne_of_lt<|Heap.lt_size j)<|Heap.get?_push_of_some _ j,by simpa using o⟩) p) (λfin s' y=>?_) λe s' y=>nomatch y.1
 cases fin with
 |done f=>
  obtain⟨e,a,g,vs,c,rfl,i,k,o⟩:=y;cases e;exact h a g vs c i k o
 |again u=>
  refine⟨y.1,Em y.2 λq v z=>?_⟩
  obtain⟨rfl,a,g,vs,c,rfl,i,k,o⟩:=z;exact h a g vs c i k o
end
end Pu
namespace Pu
open PySem PySem.Spec PyProof.Rows L2
def iq(H:Hp):List (List Key×V)->List Addr->Prop:=Paired λa p=>H p=some (.tup<|a.1.map kV)
def iq.len{ps:bv}(h:iq H Ca ps):Ca.length=ps.length:=Paired.length h
def P7{w:World} (ok:Bf P w H h) (e:H a=some (.dT Ca)):Ca.length<=sizeLine/\(a==sysModules)=false/\∃b c ps,Il h a b c/\iq H Ca ps/\b.toList.map (·.key)=ps.map Value.ref:=by
 obtain⟨z,y,xs,r,o,b,c,j,i,g,f,k⟩:=((ok a _ e));refine⟨z,y,b,c,xs.map (·.2.1),⟨o,j,i,g⟩,?_,?_⟩
 .have:∀{l:List _} {m:List (List Key×Addr×Value)},Paired (λp q=>p.1=q.1/\H q.2.1=some (.tup<|p.1.map kV)/\RelV p.2 q.2.2) l m->iq H l (m.map _):=λ{l m} q=>by
   induction q with
   |nil=>exact .nil
   |cons h0 _ d=>exact .cons h0.2.1 d
  exact this r
 rw[f,Gh,Gh];rfl
theorem J1{a:Array DictEntry}{ps:bv}{vs:ca}(h:a.toList.map (·.key)=ps.map Value.ref)(it:ItemsOf (λi v=>∃e,a[i]?=some e/\v=e.key) vs.toArray a.size):vs=ps.map Value.ref:=by
 obtain⟨f,d⟩:=it;rw[<-h];refine IQ λi=>?_
 cases b:vs[i]? with
 |none=>
  have:=List.getElem?_eq_none_iff.mp b;rw[Lh]at f;exact(iu<|by rw[Yc,Ez];lia).symm
 |some v=>
  obtain⟨e,c,rfl⟩:=d i v (by simpa using b)
  rw[Ij,Sr,c];rfl
theorem kL:∀ps:bv,Ka (ps.map V.ref) (ps.map Value.ref)
 |[]=>.nil
 |_::ps=>.cons rfl<|kL ps
theorem iq.Qm{K:Frag}{A:bv}{H:Hp}(w:Own A H):∀{a:wS} {ps:bv},iq H a ps->bC K (hide A H) (a.map λp=>D.tup<|p.1.map rP) (ps.map V.ref)
 |_,_,.nil=>.nil
 |b::_,_,.cons h0 t=>by
  refine .cons (rD.mpr ⟨_,_,rfl,by rwa [bQ<|w.tup h0],?_⟩)<|iq.Qm w t
  have:∀ks:Db,bC K (hide A H) (ks.map rP) (ks.map kV):=λks=>by
   induction ks with
   |nil=>exact .nil
   |cons k ks c=>
    refine .cons ?_ c;cases k with
    |inl i=>exact bK.mpr rfl
    |inr x=>exact eF.mpr (by simp[kV])
  exact this b.1
section
variable {a:Expr}
def EX(j:X.calm=true):lY X (.type "list") (λvs H Q=>∃(r:Addr) (a:wS),vs=[.ref r]/\H r=some (.dT a)/\∀n ps,H n=none->iq H a ps->Q (.ref n) (Tb H n<|.lst<|ps.map V.ref)):=by
 intro aa s σ H vs us Q I r h;obtain⟨l,a,rfl,hl,q⟩:=h;obtain⟨u,rfl,e⟩:=r.one;obtain rfl:u=Value.ref l:=e;obtain⟨o,hs,es,ep,ps,i,b,c⟩:=P7 I.Xa hl;have d:es.size=a.length:=by
  have:=congrArg List.length c;rw[Yc,Yc,Ez]at this;rw[this,b.len]
 refine PySem.W.kdl_call (P4 hs) (I.ok.hd j) i (by rwa [d]) λh' m qa c' f k g=>⟨.ref s.heap.objs.size,_,I.laid (o:=.lst _) f (Ec _) ⟨by rwa [Yc,<-b.len],ps.map Value.ref,c',kL ps,by rw[<-(J1 c<|by simpa using g)];simpa using k⟩,rfl,q _ _ (I.Xa.fresh<|Nat.le_refl _) b⟩
def bGo(k:X.mg "list"=none)(r:X.calm=true)(s:PE X a (tI X.K B f))(m:Gl X "list":=by rfl)(h:Oe a [] X.env:=by rfl):PE X (.Call (.Name "list" p0) [a] [] pos) (tI X.K B<|e1 Tv f):=by
 refine cC (nM (EX r) m k rfl (cM s fJ h) (he:=h)) ?_
 rintro σ H Q ⟨A,st,d,g,o,q⟩;obtain⟨x,j,b⟩:=R.ua o;refine⟨A,st,x,g,j,λv H1 s1 r1=>?_⟩
 unfold Tv at b;split at b
 .obtain⟨c,u⟩:=aM b;cases u;obtain⟨p,vs,rfl,t,y⟩:=vJ.mp r1;rcases t with ⟨e,_⟩|⟨_,Ca,e,rfl,rfl⟩
  .cases e
  have w:=g.own.mono s1;exact⟨p,Ca,rfl,aX _ _ _ _ e,λn ps i l=>q _ _ (s1.trans<|cQ i)<|iH w i<|l.Qm w⟩
 cases b
end
def Vn(h:Heap)(v:Value)(i j:Int):Prop:=∃a o t u n,v=.ref a/\h.get? a=some o/\o.cls=.type "tuple"/\o.data=.seq #[.int i t,.int j u] n
section
open PySem.W (kat_lt kat_cons kat_go kat_yes kat_no kat_nil kat_one KatTups kat_kind kat_run kat_snds)
variable{w:World}{A:Around}
def Vn.keep{v:Value}{i j:Int}(p:Vn h v i j)(k:∀a o,h.get? a=some o->o.cls=.type "tuple"->h'.get? a=some o):Vn h' v i j:=by
 obtain⟨a,o,t,u,n,e,c,b,d⟩:=p;exact⟨a,o,t,u,n,e,k a o c b,b,d⟩
def bGp{x:Value}{p q:Do}{C:sB}(f:Vn s.heap x p.1 p.2)(d:Vn s.heap y q.1 q.2)(h:C (ltQ p q) s):wpAny (model prog w) A (keyLt' (tuples' true) x y) C E s:=by
 obtain⟨i,j⟩:=p;obtain⟨k,l⟩:=q;obtain⟨a,o,t,u,n,rfl,g,_,m⟩:=f;obtain⟨b,z,t',c,B,rfl,v,_,r⟩:=d;refine kat_lt g m v r<|kat_cons<|SeqAt.EqAt.int_int i t k t' _ _ _ _<|kat_go (λe=>?_) λe=>?_
 .have h':=by unfold ltQ at h;rw[Kb e]at h;exact h
  refine kat_yes<|kat_cons<|SeqAt.EqAt.int_int j u l c _ _ _ _<|kat_go (λe=>?_) λe=>?_
  .have e:=eq_of_beq e;subst e;exact kat_yes<|kat_nil<|by simpa using h'
  exact kat_no<|kat_one _ _<|lt_int h'
 exact kat_no<|oneLt_int<|by unfold ltQ at h;rw[Pa (by rw[e];exact jo)]at h;exact h
def bKz{c:Da} {Q:α->Prop} {G:α->pp} {a:Nat->Nat->(Bool->Shared->Prop)->Shared->Prop} (d:∀i j,i<n->j<n->∀C:sB,C (c i j) s->a i j C s) {t:PySem.W.KasT α} (h:Ji c n t Q) (g:G (qz c t) s):t.kasWp a G s:=by
 induction t with
 |ret _=>exact g
 |ask i j k b=>exact d i j h.1 h.2.1 _<|b _ h.2.2 g
theorem bO4{vs:ca} {P:PySem.Fin->pp} {ps:pi} (D:s.heap.get? a=some (seqObj "list" vs.toArray n)) (B:Paired (λ(x:Do) u=>Vn s.heap u x.1 x.2) ps vs) (Gu:vs.length<64)
  (q:∀(c:Nat)(M:Heap),(∀b o,b≠a->s.heap.get? b=some o->M.get? b=some o)->M.get? a=some (seqObj "list" ((fm ps).map λi=>vs.getD i Value.none).toArray c)->P (.done<|.ret .none) {s with heap:=M}) :
  wpAny (model prog w) A (Builtin.«list.sort» ⟨[.ref a],[]⟩) P E s:=by
 have L:vs.length<=sizeLine:=by rw[Pp];lia
 have hl:=Paired.length B;obtain⟨e1,R⟩:∃e1,(s.heap.update a<|Obj.mapSeq λ_=>(#[])).get? a=some (seqObj "list" #[] e1):=⟨_,get?_update_seq D λ_ => #[]⟩
 have J:∀b o,b≠a->s.heap.get? b=some o->(((s.heap.update a<|Obj.mapSeq λ_=>(#[])).push<|seqObj "tuple" vs.toArray 0).push<|seqObj "list" #[] 0).get? b=some o:=λb o k e=>vc _<|vc _<|by rwa [FH _ _ _ _ k]
 have l:(((s.heap.update a<|Obj.mapSeq λ_=>(#[])).push<|seqObj "tuple" vs.toArray 0).push<|seqObj "list" #[] 0).get? a=some (seqObj "list" #[] e1):=vc _<|vc _ R
 rw[list_sort_plain];refine xa<|listItems_at D rfl<|xa<|listUpdate_at D rfl (xa<|seqEpoch_at R rfl<|xa<|wpAny_newTuple (xa<|wpAny_newList (gh ?_)<|rh _)<|by exact L) (by rwa [Lh])<|rh _
 generalize ((s.heap.update a<|Obj.mapSeq λ_=>(#[])).push _).push (seqObj "list" #[] 0)=h3 at J l
 have tup:∀b o,s.heap.get? b=some o->o.cls=.type "tuple"->h3.get? b=some o:=λb o e g=>J b o (λz=>by
  rw[z,D]at e;cases e;injection g with g
  exact absurd g<|by decide) e
 have T:vs.toArray.size=vs.length:=Lh;have Q:((fm ps).map λi=>vs.getD i Value.none).length=vs.length:=by rw[Yc,(KD ps).length_eq,fx,hl]
 have y:P (.done<|.ret .none) {s with heap:=h3.update a (Obj.mapSeq λ_=>((fm ps).map λi=>vs.getD i Value.none).toArray)}:=by
  obtain⟨N,Z⟩:∃N,(h3.update a _).get? a=some (seqObj "list" ((fm ps).map λi=>vs.getD i Value.none).toArray N):=⟨_,get?_update_seq l λ_=>_⟩
  exact q N _ (λb o k e=>by rw[FH _ _ _ _ k];exact J b o k e) Z
 dsimp only
 by_cases F:vs.toArray.size<2
 .rw[Kb F];refine xa<|Ua ?_;rw[Kb F,StateT.run_pure];refine xa<|Ua ?_;have G:(arrOf<|SortSt.mk' general' (vs.toArray.zip vs.toArray) #[] 7 none).map (·.2)=((fm ps).map λi=>vs.getD i Value.none).toArray:=by
   apply Array.toList_inj.mp;rw[Array.toList_map,ksk_zip,List.map_snd_zip<|Ec _,List.toList_toArray];unfold fm;rw[Kb (by lia),hl,map_range]
  have d:failedOf (SortSt.mk' general' (vs.toArray.zip vs.toArray) #[] 7 none)=none:=rfl;generalize SortSt.mk' general' (vs.toArray.zip vs.toArray) #[] 7 none=st at G d;rw[G];refine xa<|seqEpoch_at l rfl<|xa<|listUpdate_at l rfl ?_ (rh _)<|by rw[Lh,Q];exact Nat.le_succ_of_le L
  rw[d];simp;exact Ua y
 rw[Pa F];have U:∀{ps:pi} {us:ca},Paired (λx u=>Vn s.heap u x.1 x.2) ps us->∃fs:ca,KatTups h3 us fs/\fs.length=us.length/\∀f∈fs,∃n t,f=.int n t:=λ{ps us} h=>by
  induction h with
  |nil=>exact⟨[],.nil,rfl,λ_ h=>nomatch h⟩
  |cons h0 _ K=>
   obtain⟨fs,I,O,H⟩:=K;obtain⟨b,o,t,u,m,e,k,g,W⟩:=h0;subst e;refine⟨.int _ t::fs,.cons (tup _ _ k g) g W rfl I,by rw[fg,fg,O],λf d=>?_⟩
   rcases qc.mp d with rfl|d
   .exact⟨_,t,rfl⟩
   exact H f d
 have S:∀{ps:pi} {us:ca},Paired (λx u=>Vn s.heap u x.1 x.2) ps us->∀i,i<us.length->Vn h3 (us.getD i Value.none) (ps.getD i (0,0)).1 (ps.getD i (0,0)).2:=λ{ps us} h=>by
  induction h with
  |nil=>exact λi r=>absurd r<|yu _
  |cons h0 _ K=>
   intro i r;cases i with
   |zero=>exact h0.keep tup
   |succ i=>exact K i<|Y8 r
 obtain⟨fs,I,O,H⟩:=U B;refine xa<|kat_kind (T:=.type "int") I (by lia) (λv d=>?_) rfl ?_
 .obtain⟨n,t,rfl⟩:=H v d;exact .now
 rw[Pa F];refine xa (dk (kat_run (Q:=λst' s'=>s'={s with heap:=h3}/\failedOf st'=none/\(arrOf st').map (·.2)=((fm ps).map λi=>vs.getD i Value.none).toArray) (G:=λp s'=>s'={s with heap:=h3}/\p=qz (p9 ps) (PySem.W.kas_sort vs.length)) rfl (by lia) Gu (λp st' s' _ ha d ⟨Y,g2⟩=>⟨Y,d,?_⟩)<|bKz (λi j r V C X=>bGp (S B i r) (S B j V) X) (U2<|by lia) ⟨rfl,rfl⟩) ?_ λ_ _ z=>z)
 .rw[kat_snds rfl ha,g2];unfold fm;rw[Pa (by lia),hl]
 rintro⟨⟨⟩,st⟩ s' ⟨rfl,d,G⟩;rw[G];refine xa<|seqEpoch_at l rfl<|xa<|listUpdate_at l rfl ?_ (rh _)<|by rw[Lh,Q];exact Nat.le_succ_of_le L
 rw[d];simp;exact Ua y
theorem ĭ{d:Addr}{j:Array DictEntry} {vs:ca} {ps:pi} (lo:(d==sysModules)=false) (y:A.handled=none) (x:Il s.heap d j ep) (he:∀g:ca,ItemsOf (λi v=>∃e,j[i]?=some e/\v=e.key) g.toArray j.size->g=vs) (t:Paired (λ(x:Do) u=>Vn s.heap u x.1 x.2) ps vs) (F:j.size<64)
  (q:∀(D:Addr)(f:Heap)(l:Nat)(c:Nat),(∀b o,s.heap.get? b=some o->f.get? b=some o)->(∀b o,s.heap.get? b=some o->b<D)->f.get? D=some (seqObj "list" ((fm ps).map λi=>vs.getD i Value.none).toArray c)->Q (.ref D) {s with heap:=f,toks:=l}) :
  wpAny (model prog w) A (call (.builtin "sorted") [.ref d]) Q E s:=by
 refine Calls.call_function_entry kind_sorted plain_sorted entry_sorted (args_sorted1 _)<|xa<|Ua<|xa<|bKy (P4 lo) y x (by rw[Pp];lia) λf l g n m=>?_
 have B:=by have:=n.1;rwa [Lh]at this
 obtain rfl:=he g n;refine xa<|wpAny_newList ?_<|by rw[Pp];lia
 have o:(f.push<|seqObj "list" g.toArray 0).get? f.objs.size=some _:=Af _ rfl;have r:∀b o,s.heap.get? b=some o->(f.push<|seqObj "list" g.toArray 0).get? b=some o:=λb o e=>vc _<|m b o e
 exact xa<|gh<|ak slot_list_sort ⟨_,o,rfl⟩ entry_list_sort (bO4 o (Paired.imp' (λ_ _ p=>p.keep λa o e _=>r a o e) t) (by lia) λc C k z=>⟨_,rfl,(Ua ⟨_,rfl,q _ _ l c (λb ob h=>k b ob (ff<|Tc<|m b ob h)<|r b ob h) (λb ob h=>Tc<|m b ob h) z⟩)⟩)<|args_list_sort _
end
def bGq{w:World} {o:HO} (x:lX P w H h a o):∃u,h.get? a=some u:=by
 cases o with
 |lst xs=>obtain⟨_,_,_,_,e⟩:=x;exact⟨_,e⟩
 |tup xs=>obtain⟨_,_,_,o,e,_⟩:=x;exact⟨_,e⟩
 |dK Ca=>obtain⟨_,_,_,_,o,_,_,e,_⟩:=x;exact⟨_,e⟩
 |dT Ca=>obtain⟨_,_,_,_,o,_,_,e,_⟩:=x;exact⟨_,e⟩
 |set S n=>obtain⟨o,_,_,_,e,_⟩:=x;exact⟨_,e⟩
 |ins C d fs=>obtain⟨_,_,_,e,_⟩:=x;exact⟨_,e⟩
 |own y=>obtain⟨_,e⟩:=x;exact⟨_,e⟩
 |xd fs=>obtain⟨_,⟨_,_,_,e,_⟩,_⟩:=x;exact⟨_,e⟩
 |Sx lo c=>obtain⟨_,_,_,e⟩:=x;exact⟨_,e⟩
 |Vk ob u=>obtain⟨e,_⟩:=x;exact⟨_,e⟩
 |dq ps=>exact⟨_,(x)⟩
 |met f y=>exact⟨_,(x)⟩
 |ext b=>obtain⟨_,⟨_,e⟩,_⟩:=x;exact⟨_,e⟩
section
variable {a:Expr}
theorem R6{H:Hp}:∀{e:wS} {ps:bv} {l:pi},iq H e ps->(e.map λp=>D.tup<|p.1.map rP)=l.map pD->Paired (λ(x:Do) a=>H a=some (.tup [.int x.1,.int x.2])) l ps
 |_,_,[],.nil,_=>.nil
 |_,_,_::_,.nil,h=>nomatch h
 |_,_,[],.cons _ _,h=>nomatch h
 |f::_,_,x::l,.cons h0 t,h=>by
  injection h with b g
  refine .cons ?_<|R6 t g;rw[h0];injection b with b
  match n:f.1,b with
  |[],b=>simp at b
  |[_],b=>simp at b
  |d::c::[],b=>
   simp at b;obtain⟨e1,e2⟩:=b;rcases d with m|x1
   .rcases c with k|i
    .injection e1 with e1
     injection e2 with e2
     rw[<-e1,<-e2];rfl
    exact nomatch (show D.str _=D.int _ from e2)
   exact nomatch (show D.str _=D.int _ from e1)
  |d::c::j::r,b=>simp at b
theorem Q4(ps:bv):∀is:ac,Ka (is.map λi=>(ps.map V.ref).getD i .xc) (is.map λi=>(ps.map Value.ref).getD i Value.none)
 |[]=>.nil
 |i::is=>by
  refine .cons ?_<|Q4 ps is;dsimp only
  by_cases h:i<ps.length
  .rw[Kh,Kh,Ij,Ij,Be h];rfl
  rw[Kh,Kh,Ij,Ij,iu (by lia)]
  rfl
theorem R4{K:Frag}{H:Hp}{l:pi}{ps:bv}(h:∀i,i<l.length->∃a,ps[i]?=some a/\H a=some (.tup [.int (l.getD i (0,0)).1,.int (l.getD i (0,0)).2])):∀is:ac,(∀i∈is,i<l.length)->bC K H ((is.map λi=>l.getD i (0,0)).map pD) (is.map λi=>(ps.map V.ref).getD i .xc)
 |[],_=>.nil
 |i::is,b=>by
  obtain⟨a,e,d⟩:=h i<|b i Zb;refine .cons (rD.mpr ⟨a,_,?_,d,.cons (bK.mpr rfl)<|.cons (bK.mpr rfl) .nil⟩)<|R4 h is λi c=>b i<|Lc _ c
  dsimp only;rw[Kh,Ij,e];rfl
theorem ŵ(w:X.calm=true):lY X (.builtin "sorted") (λxs H Q=>∃(p:Addr) (A:wS) (l:pi),xs=[.ref p]/\H p=some (.dT A)/\(A.map λp=>D.tup<|p.1.map rP)=l.map pD/\l.length<64/\∀n ps,H n=none->Paired (λ(x:Do) a=>H a=some (.tup [.int x.1,.int x.2])) l ps->Q (.ref n) (Tb H n<|.lst<|(fm l).map λi=>(ps.map V.ref).getD i .xc)):=by
 intro aa s σ H xs us Q I r h;obtain⟨p,A,l,rfl,N,d,U,q⟩:=h;obtain⟨u,rfl,G⟩:=vals1 r;cases G;obtain⟨T,hs,es,ep,ps,g,P,B⟩:=P7 I.Xa N;have j:=R6 P d;have R:es.size=l.length:=by
  have:=congrArg List.length B;rw[Yc,Yc,Ez]at this;rw[this,(Paired.length j)]
 have y:∀{l:pi} {ps:bv},Paired (λx a=>H a=some (.tup [.int x.1,.int x.2])) l ps->Paired (λx u=>Vn s.heap u x.1 x.2) l (ps.map Value.ref):=λ{l ps} h=>by
  induction h with
  |nil=>exact .nil
  |cons h0 _ M=>
   refine .cons ?_ M;obtain⟨L,f,⟨o,k,w,n,g⟩,_⟩:=I.tuple<|eh.of h0;cases f with
   |cons K f=>cases f with
    |cons J f=>
     cases f;obtain⟨t,rfl⟩:=K;obtain⟨t',rfl⟩:=J;exact⟨_,o,t,t',n,rfl,k,w,g⟩
 refine ĭ hs (I.ok.hd w) g (λus it=>J1 B it) (y j) (by lia) λD h' S c d E g=>?_
 have F:H D=none:=by
  cases O:H D with
  |none=>rfl
  |some o=>
   obtain⟨u,e⟩:=bGq<|I.Xa D o O;exact absurd (E D u e)<|Oi _
 have sm:aR H (Tb H D<|.lst<|(fm l).map λi=>(ps.map V.ref).getD i .xc):=cQ F
 refine⟨.ref D,_,I.step (ch:=[]) (λ_ z=>nomatch z) (λb o _ _ _ e _=>d b o e) (λb o _ _ _ e _=>⟨o.slots,d b o e⟩) (λb o _ e n=>by rwa [aZ<|ff<|E b o e]) (λb o _ e=>⟨o,d b o e⟩) (λb xs e=>sm _ _ e) (λb o u e=>sm _ _ e) (λb ps e=>⟨#[],by rw[sm _ _ e];simp⟩) (λm ⟨o,es,ep,k,r⟩=>⟨o,es,ep,d _ o k,r⟩) (λb o e=>?_) I.bare,rfl,q _ _ F j⟩
 by_cases C:b=D
 .subst C;rw[bO]at e;cases e;exact⟨by rw[Yc,(KD l).length_eq,fx,Pp];lia,_,c,Q4 ps _,g⟩
 rw[aZ C]at e;exact(I.Xa b _ e).Dh (λb v _ q=>d b v q) (λb q=>sm _ _ q) λb xs q=>sm _ _ q
def bL0(w:X.mg "sorted"=none)(C:X.calm=true)(E:PE X a (tI X.K B f))(y:Gl X "sorted":=by rfl)(r:Oe a [] X.env:=by rfl):PE X (.Call (.Name "sorted" p0) [a] [] pos) (tF X.K B<|e1 Xy f):=by
 refine cC (nU (ŵ C) y w L8 (cM E fJ r) (he:=r)) ?_
 rintro σ H Q ⟨A,st,d,o,z,q⟩;obtain⟨x,t,j⟩:=R.ua z;refine⟨A,st,x,o,t,λv H1 s1 r1=>?_⟩
 unfold Xy at j;split at j
 .obtain⟨l,hl,F⟩:=R.ua j;obtain⟨c,m⟩:=aM F;cases m;obtain⟨p,vs,rfl,m,G⟩:=vJ.mp r1;rcases m with ⟨k,_⟩|⟨_,Ca,k,rfl,rfl⟩
  .cases k
  refine⟨p,Ca,l,rfl,aX _ _ _ _ k,N5 hl,c,λn ps u hp=>q n _ H1 s1 u<|R4 (λi g=>?_) _ λi g=>Jj.mp<|(KD l).mem_iff.mp g⟩
  have:∀{l:List _}{ps:bv},Paired (λx a=>H1 a=some (.tup [.int x.1,.int x.2])) l ps->∀i,i<l.length->∃a,ps[i]?=some a/\H1 a=some (.tup [.int (l.getD i (0,0)).1,.int (l.getD i (0,0)).2]):=λ{l ps} h=>by
   induction h with
   |nil=>exact λi g=>absurd g<|yu _
   |cons h0 _ s=>
    intro i g;cases i with
    |zero=>exact⟨_,rfl,h0⟩
    |succ i=>exact s i<|Y8 g
  obtain⟨b,e,D⟩:=this hp i g;exact⟨b,e,by rwa [bQ<|(o.own.mono s1).tup D]⟩
 cases j
end
open Builtin
abbrev Kw(h:Heap)(z TI TO a:Addr)(f:Bool):Prop:=h.get? z=some {cls:=.type "zip",dict:=none,data:=.fields #[rawInt a,.bool f,.bool false,.ref TI,.ref TO],slots := #[]}
section
variable{w:World}{A:Around} {z TI TO i1 i2 l1 l2:Addr} {f:Bool} {k:Nat} {xs:wE} {x:Value}
def S4{Q:sB}(c:Kw s.heap z TI TO a f)(e:s.heap.get? a=some oa)(q:∀d,Kw d z TI TO a true->Heap.SameBut z s.heap d->Q false {s with heap:=d}):wpAny (model prog w) A (Builtin.SmallTypes.ownedTupleIsFree<|.ref z) Q E s:=by
 refine xa<|Pk c rfl rfl<|((xa<|PySem.W.kdx_alive e<|xa<|Pk c rfl (x:=.bool f) rfl ?_):wpAny _ _ _ _ _ _);cases f with
 |true=>
  exact xa<|Ua<|Ua<|q s.heap c<|Heap.SameBut.refl _ _
 |false=>
  refine xa<|nu c (by simp) λh g b=>Ua<|q h g b
def bGr(j:Kw s.heap z TI TO a f)(t:s.heap.get? a=some oa)(J:IsPair s.heap TI (.ref i1) (.ref i2))(B:s.heap.IsListIter i1 l1 k)(u:s.heap.IsListIter i2 l2 k)(n:s.heap.IsList l1 xs)(K:s.heap.IsList l2 ys)(r:xs[k]?=some x)(p:ys[k]?=some y)(D:ZipApart z TI TO i1 i2 l1 l2)
  (q:∀h,Kw h z TI TO a true->h.IsListIter i1 l1 (k+1)->h.IsListIter i2 l2 (k+1)->IsPair h s.heap.objs.size x y->h.objs.size=s.heap.objs.size+1->(∀c o,c≠z->c≠i1->c≠i2->s.heap.get? c=some o->h.get? c=some o)->Q (.ref s.heap.objs.size) {s with heap:=h}) :
  wpAny (model prog w) A (Builtin.«zip.__next__» ⟨[.ref z],[]⟩) (λl m=>∃v,l=.done (.ret v)/\Q v m) E s:=by
 show wpAny _ _ (field _ 2 >>= _) _ _ _;refine xa<|Pk j rfl (x:=.bool false) rfl<|xa<|Pk j rfl rfl<|xa<|Ll J rfl<|xa<|S4 j t λO I b=>xa<|xa<|xa<|gh<|xa<|YG (B.extBut b.extBut D.i1z) (n.extBut b.extBut D.l1z) r λN L d=>Ua<|Ua<|xa<|xa<|gh<|xa<|YG ((u.extBut b.extBut D.i2z).extBut d.extBut D.i12.symm) ((K.extBut b.extBut D.l2z).extBut d.extBut D.l2i1) p λH M g=>Ua<|Ua<|Ua ?_
 have i:H.objs.size=s.heap.objs.size:=by rw[g.1,d.1,b.1]
 refine xa<|wpAny_newTuple (Ua ⟨_,rfl,?_⟩)<|by show 2<=sizeLine;decide
 rw[i];exact q _ (vc _<|g.extBut _ _ D.i2z.symm<|d.extBut _ _ D.i1z.symm I) ((L.extBut g.extBut D.i12).at λo e=>vc _ e) (M.at λo e=>vc _ e) (by rw[<-i];exact Af _ rfl) (by rw[Xh,i]) λc o G F C e=>vc _<|g.extBut _ _ C<|d.extBut _ _ F<|b.extBut _ _ G e
def bL1{Q:PySem.Fin->pp}(p:A.handled=none)(h:Kw s.heap z TI TO a f)(u:s.heap.get? a=some oa)(C:IsPair s.heap TI (.ref i1) (.ref i2))(r:s.heap.IsListIter i1 l1 k)(v:s.heap.IsListIter i2 l2 k)(n:s.heap.IsList l1 xs)(F:s.heap.IsList l2 ys)(he:xs[k]?=none\/ys[k]?=none)(D:ZipApart z TI TO i1 i2 l1 l2)
  (q:∀j e,(∀c o,c≠z->c≠i1->c≠i2->s.heap.get? c=some o->j.get? c=some o)->(∃o,j.get? e=some o/\o.cls=.type "StopIteration")->E (.ref e) {s with heap:=j}) :
  wpAny (model prog w) A (Builtin.«zip.__next__» ⟨[.ref z],[]⟩) Q E s:=by
 show wpAny _ _ (field _ 2 >>= _) _ _ _;refine xa<|Pk h rfl (x:=.bool false) rfl<|xa<|Pk h rfl rfl<|xa<|Ll C rfl<|xa<|S4 h u λI G b=>?_
 simp only[Bool.false_eq_true,if_false];rw[<-Array.forIn_toList];simp only[forIn_cons,forIn_nil];refine xa<|xa<|xa<|gh ?_;cases i:xs[k]? with
 |none=>exact xa<|BH p (r.extBut b.extBut D.i1z) (n.extBut b.extBut D.l1z) i λt e d he=>q t e (λc o m l _ x=>(d) _ _ l<|b.extBut _ _ m x) he
 |some x=>
  exact xa<|YG (r.extBut b.extBut D.i1z) (n.extBut b.extBut D.l1z) i λt H d=>Ua<|Ua<|xa<|xa<|gh<|xa<|BH p ((v.extBut b.extBut D.i2z).extBut d.extBut D.i12.symm) ((F.extBut b.extBut D.l2z).extBut d.extBut D.l2i1) (he.resolve_left<|by rw[i];exact nofun) λB e g he=>q B e (λc o m l y x=>(g) _ _ y<|d.extBut _ _ l<|b.extBut _ _ m x) he
end
open Builtin
def kq(h:Heap)(z TI TO:Addr):Prop:=IsZip h z TI TO .none\/∃a f,Kw h z TI TO a f
def kq.ob{z TI TO:Addr}(x:kq h z TI TO):∃c b,wz h z TI TO c b:=by
 rcases x with x|⟨a,f,x⟩
 .exact⟨_,_,x⟩
 exact⟨_,_,x⟩
def kq.keep{z TI TO:Addr}(x:kq h z TI TO)(k:∀o,h.get? z=some o->h'.get? z=some o):kq h' z TI TO:=by
 rcases x with x|⟨a,f,x⟩
 .exact .inl (k _ x)
 exact .inr ⟨a,f,k _ x⟩
section
variable{w:World}{A:Around} {z TI TO i1 i2 l1 l2:Addr} {k:Nat} {xs:wE} {x:Value}
def Jd.two(D:Jd z TI TO i1 i2 l2 [i1,l1])(a:l1≠i1):ZipApart z TI TO i1 i2 l1 l2:=
 ⟨D.TIz,D.TOz,D.i1z,D.i2z,D.TITO,D.TIi1,D.TIi2,D.TOi1,D.TOi2,D.i12,λe=>D.zf (by simp[e]),λe=>D.Tf (by simp[e]),a,λe=>D.X9 (by simp[e]),D.lz,D.QB,D.RB,D.QS⟩
def TY(c:wz s.heap z TI TO (rawInt a) f1)(d:s.heap.get? a=none)(Q:sB)(q:Q true s):wpAny (model prog w) A (Builtin.SmallTypes.ownedTupleIsFree<|.ref z) Q E s:=by
 refine xa<|Pk c rfl rfl<|(?_:wpAny _ _ _ _ _ _);have b:∀{R:Option Obj->Shared->Prop},R none s->wpAny (model prog w) A (loadIfAlive a) R E s:=λ{R} h=>by
  have h':R (s.heap.get? a) s:=by rwa [d]
  exact λ_ _ _=>h'
 exact xa<|b<|Ua q
def bGs(F:A.handled=none)(g:kq s.heap z TI TO)(t:IsPair s.heap TI (.ref i1) (.ref i2))(h:∃u v,IsPair s.heap TO u v)(r:s.heap.IsListIter i1 l1 k)(p:s.heap.IsListIter i2 l2 k)(j:s.heap.IsList l1 xs)(B:s.heap.IsList l2 ys)(n:xs[k]?=some x)(m:ys[k]?=some y)(D:Jd z TI TO i1 i2 l2 [i1,l1])(l:l1≠i1)
  (q:∀b i,kq b z TI TO->(∃u v,IsPair b TO u v)->b.IsListIter i1 l1 (k+1)->b.IsListIter i2 l2 (k+1)->IsPair b s.heap.objs.size x y->(∀c o,c≠z->c≠TO->c≠i1->c≠i2->s.heap.get? c=some o->b.get? c=some o)->Q (.ref s.heap.objs.size) {s with heap:=b,toks:=i}) :
  wpAny (model prog w) A (Builtin.«zip.__next__» ⟨[.ref z],[]⟩) (λd I=>∃v,d=.done (.ret v)/\Q v I) E s:=by
 obtain⟨Y,X,h⟩:=h;have d:∀b i v,xs[k]?=some v->IsZip b z TI TO (rawInt s.heap.objs.size)->IsPair b TO v y->(b.IsListIter i1 l1 (k+1)/\b.IsList l1 xs)->b.IsListIter i2 l2 (k+1)->IsPair b s.heap.objs.size v y->b.objs.size=s.heap.objs.size+1->(∀c o,c≠z->c≠TO->c≠i1->c≠i2->s.heap.get? c=some o->b.get? c=some o)->Q _ {s with heap:=b,toks:=i}:=λb i v e W V U T S _ R=>by
  rw[n]at e;cases e;exact q b i (.inr ⟨_,_,W⟩) ⟨_,_,V⟩ U.1 T S R
 have C:=(gu.mp n).1;rcases g with g|⟨a,f,g⟩
 .exact WL (Draws.list F i1 l1 l xs) D g (ID g) t h ⟨r,j⟩ C p B m d
 cases G:s.heap.get? a with
 |none=>exact WL (Draws.list F i1 l1 l xs) D g (TY g G) t h ⟨r,j⟩ C p B m d
 |some oa=>exact bGr g G t r p j B n m (D.two l) λb P O N M _ H=>q b s.toks (.inr ⟨_,_,P⟩) ⟨_,_,H TO _ D.TOz D.TOi1 D.TOi2 h⟩ O N M λc o L _ K J e=>H c o L K J e
def bL2{Q:PySem.Fin->pp}(g:A.handled=none)(d:kq s.heap z TI TO)(p:IsPair s.heap TI (.ref i1) (.ref i2))(h:∃u v,IsPair s.heap TO u v)(n:s.heap.IsListIter i1 l1 k)(m:s.heap.IsListIter i2 l2 k)(i:s.heap.IsList l1 xs)(r:s.heap.IsList l2 ys)(he:xs[k]?=none\/ys[k]?=none)(D:Jd z TI TO i1 i2 l2 [i1,l1])(j:l1≠i1)
  (q:∀b e B,(∀c o,c≠z->c≠TO->c≠i1->c≠i2->s.heap.get? c=some o->b.get? c=some o)->(∃o,b.get? e=some o/\o.cls=.type "StopIteration")->E (.ref e) {s with heap:=b,toks:=B}) :
  wpAny (model prog w) A (Builtin.«zip.__next__» ⟨[.ref z],[]⟩) Q E s:=by
 obtain⟨L,K,h⟩:=h;have y:(∀(s:Shared)(Q:be)(E:be),(s.heap.IsListIter i1 l1 k/\s.heap.IsList l1 xs)->(∀b e,Heap.ExtBut i1 s.heap b->(∃o,b.get? e=some o/\o.cls=.type "StopIteration")->E (.ref e) {s with heap:=b})->wpAny (model prog w) A (Builtin.SmallTypes.nextOf<|.ref i1) Q E s)\/(k<xs.size/\ys[k]?=none):=by
  cases l:xs[k]? with
  |none=>exact .inl λs Q E st C=>bD9 g st.1 st.2 l C
  |some x=>exact .inr ⟨(gu.mp l).1,he.resolve_left<|by rw[l];exact nofun⟩
 rcases d with d|⟨a,f,d⟩
 .exact ZM (Draws.list g i1 l1 j xs) g D d (ID d) p h ⟨n,i⟩ m r y q
 cases t:s.heap.get? a with
 |none=>exact ZM (Draws.list g i1 l1 j xs) g D d (TY d t) p h ⟨n,i⟩ m r y q
 |some oa=>exact bL1 g d t p n m i r he (D.two j) λb e J I=>q b e s.toks (λc o H _ G F x=>J c o H G F x) I
end
end Pu
namespace Pu
open PySem PySem.Calls PyProof.Rows PySem.Spec
open Builtin
section
variable{prog:Program}{w:World}{A:Around}{E:be}{s:Shared}{z TI TO i1 i2 l1 l2 S:Addr}{xs ys:wE}
structure ZW(h:Heap)(z TI TO i1 i2 l1 l2 S:Addr)(xs ys:wE)(k:Nat):Prop where
 st:kq h z TI TO
 ti:IsPair h TI (.ref i1) (.ref i2)
 to:∃u v,IsPair h TO u v
 a:h.IsListIter i1 l1 k
 b:h.IsListIter i2 l2 k
 la:h.IsList l1 xs
 lb:h.IsList l2 ys
theorem ZW.keep{h d:Heap}{k:Nat}(x:ZW h z TI TO i1 i2 l1 l2 S xs ys k)(c:S∉[z,TI,TO,i1,i2,l1,l2])(a:∀b o,b≠S->h.get? b=some o->d.get? b=some o):ZW d z TI TO i1 i2 l1 l2 S xs ys k:=by
 simp at c;obtain⟨s1,m,l,j,i,g,f⟩:=c;obtain⟨u,v,t⟩:=x.to;exact⟨x.st.keep λo e=>a z o (uh s1) e,a _ _ (uh m) x.ti,⟨u,v,a _ _ (uh l) t⟩,x.a.at λo e=>a _ o (uh j) e,x.b.at λo e=>a _ o (uh i) e,x.la.at λo e=>a _ o (uh g) e,x.lb.at λo e=>a _ o (uh f) e⟩
def bGt{k:Nat}{x:Value}{Q:tz}(i:A.handled=none)(W:ZW s.heap z TI TO i1 i2 l1 l2 S xs ys k)(D:Jd z TI TO i1 i2 l2 [i1,l1])(d:l1≠i1)(h:xs[k]?=some x)(g:ys[k]?=some y)
  (q:∀a b,ZW a z TI TO i1 i2 l1 l2 S xs ys (k+1)->IsPair a s.heap.objs.size x y->(∀c o,c≠z->c≠TO->c≠i1->c≠i2->s.heap.get? c=some o->a.get? c=some o)->Q (some<|.ref s.heap.objs.size) {s with heap:=a,toks:=b}):wpAny (model prog w) A (pyNext<|.ref z) Q E s:=by
 obtain⟨u,t,r⟩:=W.st.ob;have f:s.TypeIs (.ref z) "zip":=⟨_,r,rfl⟩;refine xa<|Mp<|Ip f Aq (ak Aq f ZG
  (bGs i W.st W.ti W.to W.a W.b W.la W.lb h g D d λa b p n m l j hk=>Ua<|q a b ⟨p,hk _ _ D.TIz D.TITO D.TIi1 D.TIi2 W.ti,n,m,l,?_,?_⟩ j hk) (JP _))
 .have Z:=D.two d;exact W.la.at λo e=>hk _ o Z.l1z Z.l1TO Z.l1i1 Z.l1i2 e
 exact W.lb.at λo e=>hk _ o D.lz D.QB D.RB D.QS e
def bL3{k:Nat}{Q:tz}(f:A.handled=none)(W:ZW s.heap z TI TO i1 i2 l1 l2 S xs ys k)(D:Jd z TI TO i1 i2 l2 [i1,l1])(b:l1≠i1)(he:xs[k]?=none\/ys[k]?=none)
  (q:∀h' tk,(∀c o,c≠z->c≠TO->c≠i1->c≠i2->s.heap.get? c=some o->h'.get? c=some o)->Q none {s with heap:=h',toks:=tk}):wpAny (model prog w) A (pyNext<|.ref z) Q E s:=by
 obtain⟨j,i,h⟩:=W.st.ob;have a:s.TypeIs (.ref z) "zip":=⟨_,h,rfl⟩;refine xa<|Mp<|Ip a Aq (ak Aq a ZG
  (bL2 f W.st W.ti W.to W.a W.b W.la W.lb he D b λh' e tk hk he=>?_) (JP _))
 obtain⟨o,d,g⟩:=he;exact xa<|Tw ⟨o,d,g⟩ Mz<|Ua<|q h' tk hk
def QG(h:Heap)(lo:Addr)(xs ys:wE)(b:bv):Prop:=b.Nodup/\∀(j:Nat)(a:Addr),b[j]?=some a->lo<a/\∃x y,xs[j]?=some x/\ys[j]?=some y/\IsPair h a x y
theorem bGv{R:Result->pp}(hh:A.handled=none)(D:Jd z TI TO i1 i2 l2 [i1,l1])(ne:l1≠i1)(q:S∉[z,TI,TO,i1,i2,l1,l2])(hn:min xs.size ys.size<=sizeLine)(lo:Addr)(Tu:∀b∈[z,TO,i1,i2,S],b<=lo)(v:Value){Ff:Heap}
  (hR:∀n u l c g,(∀b o,b∉[S,z,TO,i1,i2]->Ff.get? b=some o->n.get? b=some o)->n.get? S=some {cls:=.type "list",dict:=none,data:=.seq l c,slots := #[]}->g.length=min xs.size ys.size->QG n lo xs ys g->l.toList=g.map Value.ref->R (.ok<|.ret v) {s with heap:=n,toks:=u}) :
  ∀(k i:Nat)(h:Heap)(u c:Nat)(l:wE)(g:bv),min xs.size ys.size-i=k->i<=min xs.size ys.size->ZW h z TI TO i1 i2 l1 l2 S xs ys i->(∀b o,b∉[S,z,TO,i1,i2]->Ff.get? b=some o->h.get? b=some o)->
   h.get? S=some {cls:=.type "list",dict:=none,data:=.seq l c,slots := #[]}->l.toList=g.map Value.ref->g.length=i->QG h lo xs ys g->lo<h.objs.size->
   codeAny (model prog w) A (.builtin "list.extend.loop" ⟨[.ref S,.ref z,v],[]⟩) R {s with heap:=h,toks:=u}:=by
 have v9:∀{b:Addr},lo<b->b≠z/\b≠TO/\b≠i1/\b≠i2/\b≠S:=λ{b} f=>by
  refine⟨?_,?_,?_,?_,?_⟩ <;> (rintro rfl;exact absurd (Tu _<|by simp)<|Nat.not_le_of_lt f)
 have p:S≠z/\S≠TO/\S≠i1/\S≠i2:=by
  simp only[mem_cons,not_mem_nil,or_false,not_or]at q;exact⟨q.1,q.2.2.1,q.2.2.2.1,q.2.2.2.2.1⟩
 have B:∀{b:Addr},b∉[S,z,TO,i1,i2]->b≠S/\b≠z/\b≠TO/\b≠i1/\b≠i2:=λ{b} f=>by
  simpa only[mem_cons,not_mem_nil,or_false,not_or] using f
 intro k
 induction k with
 |zero=>
  intro i h u c l g hk hi W d G I F r J;refine Dm J8 ?_
  refine xa<|bL3 hh W D ne (by
   by_cases K:xs.size<=i
   .exact .inl (OP K)
   exact .inr<|OP<|by lia) λn Z M=>?_
  refine Ua<|hR n Z l c g (λb o f e=>let ⟨_,Y,X,V,U⟩:=B f;M b o Y X V U (d b o f e)) (M S _ p.1 p.2.1 p.2.2.1 p.2.2.2 G) (by lia) ⟨r.1,λj a hj=>?_⟩ I
  obtain⟨E,x,y,O,N,C⟩:=r.2 j a hj;obtain⟨f1,T,Q,P,_⟩:=v9 E;exact⟨E,x,y,O,N,M a _ f1 T Q P C⟩
 |succ k ih=>
  intro i h u c l g hk hi W d G I F r J;have K:xs[i]?=some xs[i]:=Lk (by lia)
  have hy:ys[i]?=some ys[i]:=Lk (by lia)
  have F9:l.size=i:=by rw[<-Ez,I,Yc,F]
  refine Dm J8 ?_
  refine xa<|bGt hh W D ne K hy λn Z W' L m=>?_
  dsimp only at L m ⊢;have Cs:=m S _ p.1 p.2.1 p.2.2.1 p.2.2.2 G;have t:∀b o,b≠S->n.get? b=some o->(n.update S (Obj.mapSeq (·.push (Value.ref h.objs.size)))).get? b=some o:=λb o f e=>(kn _ _<|uh f).trans e
  have nS:=Wr<|Tc G;refine xa<|Cq Cs rfl (Ua ⟨yn VG _,ih (i+1) _ Z _ _ (g++[h.objs.size]) (by lia) (by lia) (W'.keep q t)
   (λb o f e=>let ⟨b0,Y,X,V,U⟩:=B f;t b o b0 (m b o Y X V U<|d b o f e)) (rn _ Cs rfl) (by rw[toList_push,I,qh];rfl) (by rw[Pg,F];rfl) ⟨?_,λj a hj=>?_⟩ ?_⟩) (by rw[F9];lia)<|by rw[Array.size_push,F9];lia
  .refine Rr.mpr ⟨r.1,by simp,λa ha b f=>?_⟩
   rw[Ce.mp f];obtain⟨j,hj⟩:=mn.mp ha;obtain⟨_,_,_,_,_,C⟩:=r.2 j a hj;exact ff<|Tc C
  .rcases Jp j g.length with H|H|H
   .rw[zq H]at hj;obtain⟨E,x,y,O,N,C⟩:=r.2 j a hj;obtain⟨f1,T,Q,P,f5⟩:=v9 E;exact⟨E,x,y,O,N,t a _ f5<|m a _ f1 T Q P C⟩
   .subst H;have f:=by simpa using hj
    subst f;exact⟨J,_,_,by rwa [F],by rwa [F],t _ _ nS L⟩
   have nB:(g++[h.objs.size])[j]?=none:=iu (by rw[Pg,vn];lia)
   rw[nB]at hj;cases hj
  have e:=t _ _ nS L;exact xu J<|Tc e
def bDd:typeLookup (.type "zip") "__len__"=pure none:=by kernel_rfl
def Ŷ:typeLookup (.type "zip") "__length_hint__"=pure none:=by kernel_rfl
def bDe{Q:sB}(a:s.TypeIs (.ref z) "zip")(q:Q true s):wpAny (model prog w) A (Builtin.List.listLengthHint<|.ref z) Q E s:=by
 exact xa<|Kz a bDd<|xa<|Kz a Ŷ<|Ua q
def bGw{R:Result->pp}(J:A.handled=none)(W:ZW s.heap z TI TO i1 i2 l1 l2 S xs ys 0)(D:Jd z TI TO i1 i2 l2 [i1,l1])(G:l1≠i1)(m:S∉[z,TI,TO,i1,i2,l1,l2])(H:min xs.size ys.size<=sizeLine)(n:∀b∈[z,TO,i1,i2],b<S)(p:s.heap.get? S=some {cls:=.type "list",data:=.seq #[]})
  (K:∀g q l c h,(∀b o,b∉[S,z,TO,i1,i2]->s.heap.get? b=some o->g.get? b=some o)->g.get? S=some {cls:=.type "list",dict:=none,data:=.seq l c,slots := #[]}->h.length=min xs.size ys.size->QG g S xs ys h->l.toList=h.map Value.ref->R (.ok<|.ret .none) {s with heap:=g,toks:=q}) :
  wpAny (model prog w) A.in1 (Builtin.«list.__init__» ⟨[.ref S,.ref z],[]⟩)
   (λt k=>match t with|.done f=>R (.ok f) k|.again y=>y.quiet=true/\codeAny (model prog w) A y R k) (λe k=>R (.error e) k) s:=by
 refine xa<|xa<|Ll p rfl<|Ua<|((xa<|Cq p rfl<|xa<|Yr ?_):wpAny _ _ _ _ _ s);have u:=rn (Obj.mapSeq<|λ_=>(#[])) p rfl
 have r:∀b o,b≠S->s.heap.get? b=some o->(s.heap.update S<|Obj.mapSeq<|λ_=>(#[])).get? b=some o:=λb o d e=>(kn _ _<|uh d).trans e
 generalize s.heap.update S _=Ff at u r;have x:=W.keep m r;obtain⟨T,Q,O⟩:=x.st.ob;have i:Shared.TypeIs {s with heap:=Ff} (.ref z) "zip":=⟨_,O,rfl⟩
 have F:S≠z:=λe=>m (by simp[e])
 refine xa<|wpAny_typeOf i ?_;simp only[show Builtin.List.listSameRef (.ref S) (.ref z)=false by simp[Builtin.List.listSameRef,F]]
 refine xa<|IH i d9<|ak d9 i PySem.F.entry_zip_iter ((Ua ⟨_,rfl,"zip",_,i,Aq.lookup,(xa<|gh<|bDe i<|xa<|Zr<|xa<|(xa<|Cq u rfl ?_))⟩))<|PySem.F.args_zip_iter_1 _;have E:=rn (Obj.mapSeq (·.push Value.none)) u rfl;refine Cq E rfl ?_
 have C:=rn (Obj.mapSeq (·.pop)) E rfl;have v:∀b o,b≠S->Ff.get? b=some o->((Ff.update S (Obj.mapSeq (·.push Value.none))).update S (Obj.mapSeq (·.pop))).get? b=some o:=λb o d e=>(kn _ _<|uh d).trans<|(kn _ _<|uh d).trans e
 refine Ua ⟨yn VG _,bGv J D G m H S (λb d=>?_) .none (λg q l c h M P hl L N=>K g q l c h M P hl L N)
  _ 0 _ _ _ #[] [] (UQ _) (rh _) (x.keep m v) (λb o d e=>?_) C rfl rfl ⟨PQ,λj a I=>by simp at I⟩ (Tc C)⟩
 .simp at d;rcases d with rfl|rfl|rfl|rfl|rfl
  .exact Vr (n _<|by simp)
  .exact Vr (n _<|by simp)
  .exact Vr (n _<|by simp)
  .exact Vr (n _<|by simp)
  exact Ec _
 have B:b≠S:=λz=>d (by simp[z])
 exact v b o B<|r b o B e
def bGx(C:A.handled=none)(W:∀S,ZW s.heap z TI TO i1 i2 l1 l2 S xs ys 0)(D:Jd z TI TO i1 i2 l2 [i1,l1])(x:l1≠i1)(y:min xs.size ys.size<=sizeLine)
  (q:∀d j i c g,(∀b o,b∉[z,TO,i1,i2]->s.heap.get? b=some o->d.get? b=some o)->d.get? s.heap.objs.size=some {cls:=.type "list",dict:=none,data:=.seq i c,slots := #[]}->g.length=min xs.size ys.size->QG d s.heap.objs.size xs ys g->i.toList=g.map Value.ref->Q (.ref s.heap.objs.size) {s with heap:=d,toks:=j}) :
  wpAny (model prog w) A (call (.type "list") [.ref z]) Q E s:=by
 refine callType_codes (Q₁:=λf m=>f=.ref s.heap.objs.size/\m={s with heap:=s.heap.push {cls:=.type "list",data:=.seq #[]} }) PySem.F.called_list (PySem.F.typeCall_list_1 _) PySem.F.entry_list_init (code_list_new _ ⟨rfl,rfl⟩) λf m H=>?_
 obtain⟨rfl,rfl⟩:=H;have k:(s.heap.push {cls:=.type "list",data:=.seq #[]}).get? s.heap.objs.size=some {cls:=.type "list",data:=.seq #[]}:=Af _ rfl;have lt:∀b∈[z,TI,TO,i1,i2,l1,l2],b<s.heap.objs.size:=λb a=>by
  have W:=W 0;obtain⟨_,_,v⟩:=W.st.ob;obtain⟨_,_,u⟩:=W.to;obtain⟨_,t,_⟩:=W.a;obtain⟨_,r,_⟩:=W.b;obtain⟨_,p,_⟩:=W.la;obtain⟨_,n,_⟩:=W.lb;simp at a;rcases a with rfl|rfl|rfl|rfl|rfl|rfl|rfl
  .exact Tc v
  .exact Tc W.ti
  .exact Tc u
  .exact Tc t
  .exact Tc r
  .exact Tc p
  exact Tc n
 have l:s.heap.objs.size∉[z,TI,TO,i1,i2,l1,l2]:=λe=>absurd (lt _ e)<|Oi _
 refine⟨⟨_,k,rfl⟩,PySem.F.args_list_init_2 _ _,bGw C ((W _).keep l λb o _ e=>vc _ e) D x l y (λb a=>lt b ?_) k λd j i c g B I hl F G=>⟨rfl,q d j i c g (λb o a e=>B b o (λz=>?_)<|vc _ e) I hl F G⟩⟩
 .simp at a ⊢;rcases a with h|h|h|h<;>simp[h]
 rcases qc.mp z with z|z
 .exact absurd (Tc e) (by rw[z];exact Oi _)
 exact a z
end
end Pu
namespace Pu
open PySem PySem.Spec PyProof.Rows L2
open Builtin
theorem FX{K:Frag}{H:Hp}:∀{d e:db}{c vs:lw}(ps:bv),bC K H d c->bC K H e vs->ps.length=min c.length vs.length->(∀(j:Nat)(a:Addr),ps[j]?=some a->∃x y,c[j]?=some x/\vs[j]?=some y/\H a=some (.tup [x,y]))->bC K H (Cp d e) (ps.map V.ref)
 |[],e,c,vs,ps,r,_,hl,_=>by
  rw[cZ.mp r]at hl;rw[Nw.mp hl,Cp];exact .nil
  exact λ_ _ _ _ z=>by cases z
 |z::d,[],c,vs,ps,_,r,hl,_=>by
  rw[cZ.mp r,NQ,Nat.min_zero]at hl;rw[Nw.mp hl,Cp];exact .nil
  exact λ_ _ _ _ _ z=>by cases z
 |z::d,w::e,c,vs,ps,g,f,hl,h=>by
  obtain⟨u,c,rfl,m,g⟩:=bM.mp g;obtain⟨v,vs,rfl,l,f⟩:=bM.mp f;cases ps with
  |nil=>simp at hl
  |cons a ps=>
   obtain⟨x,y,e1,e2,i⟩:=h 0 a rfl;cases e1;cases e2;refine .cons (rD.mpr ⟨a,_,rfl,i,.cons m<|.cons l .nil⟩)<|FX ps g f (by simp at hl;omega) λj b k=>?_
   obtain⟨x,y,e1,e2,i⟩:=h (j+1) b (by simpa using k)
   exact⟨x,y,by simpa using e1,by simpa using e2,i⟩
section
variable {a b:Expr}
theorem T4(N:X.mg "list"=none)(hm:X.mg "zip"=none)(hc:X.calm=true)(m:PE X a (tI X.K B f))(r:PE X b (tI X.K B g))(P:Gl X "list":=by rfl)(hg:Gl X "zip":=by rfl)(hs:starEach [a,b] X.env=(false,eval a X.env)::starEach [b] X.env:=by rfl)(Mf:starEach [b] X.env=[(false,eval b X.env)]:=by rfl)
  (L:starEach [.Call (.Name "zip" p1) [a,b] [] p2] X.env=(false,eval (.Call (.Name "zip" p1) [a,b] [] p2) X.env)::starEach [] X.env:=by rfl):PE X (.Call (.Name "list" p0) [.Call (.Name "zip" p1) [a,b] [] p2] [] pos) (tI X.K B<|e2 OF f g):=by
 intro aa s σ H Rq I ⟨A,st,d,E,hd,q⟩;obtain⟨x,hx,h2⟩:=R.ua hd;obtain⟨y,hy,F⟩:=R.ua h2;unfold OF at F;split at F
 rotate_left
 .cases F
 rename_i zs ws;cases F;refine Bq<|vR I P N (by rfl)<|fu ?_ L rfl
 refine Calls.spliced_cons ?_
 refine Bq<|vR I hg hm boot_zip<|fu (Cc ((cM m (cM r fJ Mf) hs) p2 aa s σ H (λvs H1=>∃v w,vs=[v,w]/\aR H H1/\Ib X.K (hide (A++B) H1) (.lst zs) v/\Ib X.K (hide (A++B) H1) (.lst ws) w) I ⟨A,st,_,E,hx,λv H1 s1 r1=>⟨A,st,_,E.mono s1,hy,λw H2 s2 r2=>⟨v,w,rfl,s1.trans s2,r1.mono<|aR.hide s2,r2⟩⟩⟩) λus s1 ⟨vs,H1,I1,r1,v,w,hv,sm,rv,Wj⟩=>?_) hs<|by rw[Mf];rfl
 subst hv;obtain⟨l,n,rfl,hq,rr⟩:=eO.mp Wj;obtain⟨l1,t,rfl,M,J⟩:=eO.mp rv;obtain rfl:us=[.ref l1,.ref l]:=by
  cases r1 with
  |cons ra K=>cases K with
   |cons K rc=>cases rc;rw[show _=Value.ref l1 from ra,show _=Value.ref l from K]
 obtain⟨its1,EC,Z,hz1⟩:=I1.list<|(aX _ _).seq M;have ZA:=let ⟨o,e,_⟩:=Z.isList;Tc e;obtain⟨its,SI,pl,hz⟩:=I1.list<|(aX _ _).seq hq;have O:=let ⟨o,e,_⟩:=pl.isList;Tc e;refine ų Z.isList pl.isList λD Nq Yg yh lj Ri zh k=>(Calls.spliced_nil ?_)
 have e1:=EC.length;have Du:=SI.length;refine bGx (I1.ok.hd hc) (λS=>⟨.inl Nq,Yg,⟨_,_,yh⟩,lj,Ri,Z.isList.at λo e=>k _ o e,pl.isList.at λo e=>k _ o e⟩) (ă O ZA) (ff ZA) (by simp;lia) λh' tk qa c h hk hS hl Q Qi=>?_
 have Gx:h.length=min t.length n.length:=by rw[hl];simp[e1,Du]
 have lo:=λa m=>let ⟨j,i⟩:=mn.mp m;(Q.2 j a i).1
 have nn:∀a∈h,H1 a=none:=λa m=>I1.Xa.fresh (by have:=lo a m;lia)
 let G:Hp:=λb=>if b∈h then ((t.zip n)[h.idxOf b]?).map (λp=>.tup [p.1,p.2]) else H1 b
 have C:aR H1 G:=λb o e=>by
  show (if b∈h then _ else H1 b)=_
  rw[Pa λz=>by rw[nn b z]at e;cases e]
  exact e
 have T:G D.objs.size=none:=by
  show (if _∈h then _ else H1 _)=_
  rw[Pa λz=>Oi _<|lo _ z]
  exact I1.Xa.fresh (by lia)
 have gA:∀(j:Nat)(a:Addr),h[j]?=some a->∃x y,t[j]?=some x/\n[j]?=some y/\G a=some (.tup [x,y]):=λj a e=>by
  have i:=(xg.mp e).1;have W:j<t.length:=by lia
  have U:j<n.length:=by lia
  refine⟨t[j],n[j],Be W,Be U,?_⟩;show (if a∈h then _ else H1 a)=_
  obtain⟨i,ej⟩:=xg.mp e;rw[<-ej,Q.1.idxOf_getElem j i,Be (by simp;lia)]
  simp
 have I2:Ea X aa σ (Tb G D.objs.size<|.lst<|h.map V.ref) {s1 with heap:=h',toks:=tk}:=by
  refine bD8 I1 (λb u e=>hk b u (λz=>?_)<|k b u e) (C.trans<|cQ T) (λb r=>?_)<|λa o m e=>?_
  .have:=Tc e;simp only[mem_cons,not_mem_nil,or_false]at z;rcases z with rfl|rfl|rfl|rfl<;>first|exact absurd this (Oi _)|exact absurd this<|YH.mpr<|OH _ _
  .have Rl:b<D.objs.size:=ph r (by rw[zh];exact OH _ _)
   rw[aZ<|ff Rl];show (if b∈h then _ else H1 b)=_
   rw[Pa λz=>Oi _<|xu Rl<|lo _ z]
  by_cases r:a=D.objs.size
  .subst r;rw[bO]at e;cases e;refine⟨by rw[Yc,Gx];lia,qa.toList,c,by rw[Qi];exact kL h,by simpa using hS⟩
  rw[aZ r]at e;have Up:a∈h:=by
   refine HP λz=>?_
   have e':(if a∈h then ((t.zip n)[h.idxOf a]?).map (λp=>HO.tup [p.1,p.2]) else H1 a)=some o:=e
   rw[Pa z,m]at e';cases e'
  obtain⟨j,i⟩:=mn.mp Up;obtain⟨x,y,e1,e2,Y⟩:=gA j a i;obtain⟨_,x',y',f1,f2,f3⟩:=Q.2 j a i;rw[Y]at e;cases e;obtain⟨x2,W,U⟩:=EC.get e1;obtain⟨y2,g3,g4⟩:=SI.get e2;rw[Jz,W]at f1;rw[Jz,g3]at f2;obtain rfl:=qo f1;obtain rfl:=qo f2;exact⟨show 2<=sizeLine by decide,[_,_],.cons U<|.cons g4 .nil,_,f3,rfl,_,rfl⟩
 exact⟨.ref D.objs.size,_,I2,rfl,q _ _ (sm.trans<|C.trans<|cQ T)<|iH (E.own.mono<|sm.trans C) T (FX h (J.mono<|aR.hide C) (rr.mono<|aR.hide C) Gx λj a i=>let ⟨x,y,e1,e2,Y⟩:=gA j a i;⟨x,y,e1,e2,by rw[bQ<|(E.own.mono sm).free<|nn a<|Bm i];exact Y⟩)⟩
end
section
theorem fN{aa:ce}{g:Mi}{H:Hp}{s:Shared}(I:Ea X aa g H s){x:D}:∀{b:db}{c:lw}{a:ca},bC X.K H b c->Ka c a->dR b=true->∀(m:Nat)(h:m<a.length)(f:m<b.length),Am X.K H x a[m]=ae b[m] x
 |[],c,a,r,v,_,m,h,f=>absurd f<|yu _
 |d::b,c,a,r,v,p,m,h,f=>by
  obtain⟨z,k,e,j,i⟩:=bM.mp r;subst e;simp at p;cases v with
  |cons v vs=>
   cases m with
   |zero=>exact WM I j v p.1
   |succ m=>exact fN I i vs p.2 m _ _
theorem Į(R:X.A.units+64<cLine):jq X "list.index" (λx vs H Q=>∃(p:Addr)(a:db)(f:lw)(y:D)(z:V)(n:Nat),x=V.ref p/\vs=[z]/\ue X.K H p f/\bC X.K H a f/\Ib X.K H y z/\a.findIdx? (λd=>ae d y)=some n/\a.length<=10000000/\jR a<=60/\plain y=true/\dR a=true/\Q (.int (n:Int)) H):=by
 intro aa s σ H x vs v us Q I r t h;obtain⟨p,a,f,y,z,n,rfl,rfl,E,e,o,F,hl,T,B,g,q⟩:=h;obtain⟨u,rfl,A⟩:=t.one;obtain rfl:v=Value.ref p:=r;obtain⟨b,c,⟨⟨M,L,j,l⟩,C,i,G,_,N⟩,P⟩:=I.list E;have O:=c.length;have W:=e.length;obtain⟨K,U,J⟩:=List.findIdx?_eq_some_iff_getElem.mp F;subst G N;have k:n<b.length:=by lia
 refine call_meets P8 ⟨_,i,rfl⟩ PySem.F.entry_list_index (PySem.F.args_list_index_2 _ _) (PySem.SeqAt.list_indexAt p b.toArray C L l u (Am X.K H y) n (by simpa using k) (by lia) ?_ λm S hmn=>?_) ⟨i,λw hw=>?_,?_⟩
 .rwa [m9,fN I e c g n k K]
 .rw[m9,fN I e c g m _ _];simpa using (J m hmn)
 .exact aw I o A B e c g (by lia) w (by simpa using hw)
 exact⟨.int n,H,I.tok _,⟨_,rfl⟩,q⟩
def ŷ(l:X.A.units+64<cLine)(q:PE X o (tP X.K B f))(u:PA X [e] (tA X.K B r))(J:Ak o "index" X.env:=by rfl)
  (i:aq Nb [e] X.env:=by rfl)
  (L:Pn Fb Nb:=by rfl) (m:Oe e [] X.env:=by rfl) :
  PE X (.Call (.Attribute o "index" Fb) [e] [] Nb) (tI X.K B<|ik UO f r):=by
 refine cC (LF IP P8 PySem.F.type_list_index (Į l) q u J i L m rfl) ?_
 rintro σ H Q ⟨A,st,d,b,t,k⟩;obtain⟨x,j,D⟩:=R.ua t;obtain⟨xs,K,a⟩:=R.ua D;unfold UO at a;split at a
 .rename_i ys y;obtain⟨n,s,C⟩:=R.ua a;obtain⟨⟨g,G,F,E⟩,z⟩:=aM C;cases z;refine⟨A,st,_,b,j,λv H1 s1 r1=>?_⟩
  obtain⟨p,vs,e1,c,h⟩:=r1.lst;refine⟨by rw[e1];exact .inl ⟨rfl,_,c⟩,A,st,_,b.mono s1,K,λws H2 s2 r2=>?_⟩
  obtain⟨w,rfl,I⟩:=vw r2;rw[rE]at g;exact⟨p,ys,vs,y,w,n,e1,rfl,s2.seq c,(h.mono<|aX _ _).mono s2,I.mono<|aX _ _,Yv s,g,G,F,E,k _ H2 (s1.trans s2)<|bK.mpr rfl⟩
 cases a
end
def bO5(d c:TE):TE:=λσ H Q=>∀p,H p=none->d σ (Tb H p<|.dT []) λx H1=>c σ H1 λy a=>a p=some (.dT [])/\∃b k,x=.ref b/\a b=some (.tup<|k.map kV)/\Q (.ref p) (Tb a p<|.dT [(k,y)])
section
variable {a b:Expr} {tk tv:TE}
def bGy(E:X.A.units+64<cLine)(m:PE X a tk)(l:PE X b tv):PE X (.Dict [some a] [b] pos) (bO5 tk tv):=by
 intro aa s σ H Q I q;rw[arm_eval_Dict,zip_pairTrees [some a] [b] X.env pos rfl rfl,dictDisplay_pairs _ (by simp[pairTrees]) (by simp[pairTrees])]
 refine xa<|Zw<|xa<|xa<|wpAny_alloc<|xa<|gh<|xa<|Cc ((aZt m l bE8) aa _ σ _ (λps f=>match ps with
  |[(x,y)]=>f s.heap.objs.size=some _/\∃b k,x=.ref b/\f b=some (.tup<|k.map kV)/\Q _ (Tb f s.heap.objs.size<|.dT [(k,y)])
  |_=>False) (I.laid (t':=s.toks) (λ_ _ q=>vc _ q) (Ec _)<|CZ s.heap I.big)<|q _<|I.Xa.fresh<|Ec s.heap.objs.size) λws D ⟨ps,f,g,d,e⟩=>?_
 cases d with
 |nil=>exact e.elim
 |@cons x p _ _ h t=>
  cases t with
  |cons _ _=>exact e.elim
  |nil=>
   obtain⟨u,v⟩:=p;obtain⟨x,y⟩:=x;obtain⟨e1,F,k,e2,j,e⟩:=e;subst e2;cases ((h.1));obtain⟨z,n,xs,d,B⟩:=Z6 g.Xa e1;cases d;refine gh<|xa<|xa<|xa<|wpAny_dictSet_heap (show X.A.units<cLine by omega) (Ov g.Xa j) B λh' C hs=>Ua<|(?_:wpAny _ _ _ _ _ _)
   refine Ua<|Ua<|Ua ?_;obtain⟨q,es,ep,i,A,w,r,_,o⟩:=C;refine Ua ⟨.ref s.heap.objs.size,Tb f s.heap.objs.size<|.dT [(k,y)],BM g (by rw[e1];exact True.intro) hs ⟨q,i⟩ ⟨show 1<=sizeLine by decide,n,_,(KT.put .nil k j h.2).keeps λc ys ec=>?_,q,es,ep,i,A,w,r,o⟩,rfl,e⟩
   rwa [aZ<|S6 ec e1<|λz=>nomatch z]
def K1(t:X.A.units+64<cLine)(i:Nat) (j:PE X a (tI X.K B g)) (s:PE X b (tI X.K B f)) (F:X.N.Nodup) (C:X.N[i]?=some x:=by rfl) (q:Loc X.env.scope x:=by exact bq rfl) (w:Bk (.Dict [some a] [b] dp) (some<|.Name x pos') pos.line X.env:=by rfl)
  (D:Pm X x:=by first|exact .inl rfl|exact .inr rfl|assumption):PS X (.Assign [.Name x pos'] (.Dict [some a] [b] dp) pos) (tS X.K B<|YE i g f):=fC (Nv F C q (bGy t j s) w D) (by
 rintro Dn σ H ⟨A,st,r,h,y,p⟩;obtain⟨k,j,K⟩:=R.ua y;obtain⟨d,E,J⟩:=R.ua K;obtain⟨⟨Q,P⟩,I⟩:=aM J;cases I;intro a l;refine⟨A,st,k,h.mono<|cQ l,j,λu H1 s1 r1=>⟨A,st,d,(h.mono<|cQ l).mono s1,E,λv H2 s2 r2=>?_⟩⟩
 obtain⟨e,S,O,N,M⟩:=RJ (r1.mono<|aX _ _) Q;subst O N;refine⟨(s2 _ _<|s1 _ _ bO),S,e,rfl,s2 _ _ M,?_⟩
 let G:=λb=>if b=a then none else H2 b
 have m:aR H G:=λb o z=>by
  have c:=aU z l;show (if b=a then none else H2 b)=_
  rw[Pa c];exact s2 _ _<|s1 _ _<|by rwa [aZ c]
 have n:G a=none:=Kb rfl;have L:Tb H2 a (.dT [(e,v)])=Tb G a (.dT [(e,v)]):=by
  funext b
  by_cases c:b=a
  .subst c;rw[bO,bO]
  rw[aZ c,aZ c];exact(Pa c).symm
 rw[L];exact p _ _ _ ((Le.of m).trans<|DF n)<|(h.mono m).Yq i n (.inr ⟨rfl,[(e,v)],rfl,rfl,rfl⟩)<|.cons ((VL P r2).mono SE) .nil)
end
end Pu
namespace Pu
open PySem
structure TI(b:Bool)(t:SetTable):Prop where
 rise:t.place.toList.Pairwise (· < ·)
 r9:t.dummies = #[]
 led:t.led=b
theorem YL(xs:Gc)(j:Nat)(p:xs.toList.Pairwise (· < ·)):∀(c lo d:Nat),d-lo<=c->lo<=d->d<=xs.size->(∀(i:Nat)(a:Nat),i<lo->xs[i]?=some a->a<j)->(∀(i:Nat)(a:Nat),d<=i->xs[i]?=some a->j<=a)->
  (∀(i:Nat)(a:Nat),i<SetTable.below.go xs j c lo d->xs[i]?=some a->a<j)/\(∀(i:Nat)(a:Nat),SetTable.below.go xs j c lo d<=i->xs[i]?=some a->j<=a)/\SetTable.below.go xs j c lo d<=xs.size
 |0,lo,d,w,hl,hs,n,m=>by
  have e:lo=d:=by lia
  subst e;exact⟨n,m,hs⟩
 |c+1,lo,d,w,hl,hs,n,m=>by
  unfold SetTable.below.go;have s:∀(i k:Nat)(a b:Nat),i<k->xs[i]?=some a->xs[k]?=some b->a<b:=λi k a b q f t=>by
   rw[<-Sr]at f t;obtain⟨o,y⟩:=xg.mp f;obtain⟨z,x⟩:=xg.mp t;have:=UG.mp p i k o z q
   rwa [y,x]at this
  by_cases h:lo<d
  .rw[Kb h];have u:(lo+d)/2<xs.size:=by lia
   have g:=Lk u;have v:xs.getD ((lo+d)/2) j=xs[(lo+d)/2]:=by rw[CH,g];rfl
   dsimp only;rw[v]
   by_cases l:xs[(lo+d)/2] < j
   .rw[Kb l];refine YL xs j p c _ _ (by lia) (by lia) hs (λi a o f=>?_) m
    by_cases r:i=(lo+d)/2
    .subst r;rw[g]at f;cases f;exact l
    exact xu (s i _ a _ (by lia) f g) l
   rw[Pa l];refine YL xs j p c _ _ (by lia) (by lia) (by lia) n λi a o f=>?_
   by_cases r:i=(lo+d)/2
   .subst r;rw[g]at f;lia
   have:=s _ i _ a (by lia) g f;lia
  rw[Pa h];have e:lo=d:=by lia
  subst e;exact⟨n,m,hs⟩
theorem GX(xs:Gc)(j:Nat)(b:xs.toList.Pairwise (· < ·)):(∀(i:Nat)(a:Nat),i<SetTable.below xs j->xs[i]?=some a->a<j)/\(∀(i:Nat)(a:Nat),SetTable.below xs j<=i->xs[i]?=some a->j<=a)/\SetTable.below xs j<=xs.size:=
 YL xs j b xs.size 0 xs.size (by lia) (rh _) (Ec _) (λi a h=>absurd h<|yu _) λi a h c=>by
  have:=(gu.mp c).1;lia
theorem Ą(xs:Gc)(j:Nat)(f:xs.toList.Pairwise (· < ·))(p:xs[SetTable.below xs j]?≠some j):(SetTable.insertAt xs (SetTable.below xs j) j).toList.Pairwise (· < ·):=by
 obtain⟨q,l,r⟩:=GX xs j f;have e:(SetTable.insertAt xs (SetTable.below xs j) j).toList=xs.toList.take (SetTable.below xs j)++j::xs.toList.drop (SetTable.below xs j):=by
  unfold SetTable.insertAt;simp;rw[LP (by simp)]
 rw[e,List.pairwise_append];have m:∀a∈xs.toList.drop _,j<a:=λa i=>by
  obtain⟨k,c⟩:=mn.mp i;rw[List.getElem?_drop,Sr]at c;have:=l _ a (OH _ _) c;rcases Nat.lt_or_eq_of_le this with h|h
  .exact h
  subst h;exfalso;have d:SetTable.below xs j<xs.size:=by have:=(gu.mp c).1;lia
  have s:=l _ _ (Ec _)<|Lk d
  by_cases o:k=0
  .subst o;exact p c
  have n:=gu.mp c;have:=UG.mp f _ _ (by simpa using d) (by simpa using n.1) (by lia)
  rw[n9,n9,n.2]at this;lia
 refine⟨f.sublist<|List.take_sublist _ _,List.pairwise_cons.mpr ⟨m,f.sublist<|List.drop_sublist _ _⟩,λa i b d=>?_⟩
 have la:a<j:=by
  obtain⟨k,c⟩:=mn.mp i;rw[List.getElem?_take]at c;split at c
  .rename_i g;rw[Sr]at c;exact q k a g c
  cases c
 rcases qc.mp d with rfl|d
 .exact la
 exact xu la<|m b d
theorem L1(t:SetTable)(hashAt:Nat->Int)(h:Int)(f:t.dummies = #[]):∀(c:Nat)(p:SetTable.Probe)(j:Nat)(d:Option Nat),SetTable.probe.go t hashAt h c p=some (.empty j d)->t.slot j=.empty/\d=p.dummy
 |0,p,j,d,e=>by cases e
 |c+1,p,j,d,e=>by
  unfold SetTable.probe.go at e;cases hs:t.slot p.j with
  |empty=>rw[hs]at e;cases e;exact⟨hs,rfl⟩
  |dummy=>
   unfold SetTable.slot at hs;dsimp only at hs;split at hs
   .cases hs
   rw[f]at hs;cases hs
  |live i=>
   rw[hs]at e;dsimp only at e;split at e
   .cases e
   obtain⟨a,b⟩:=L1 t hashAt h f c _ j d e;exact⟨a,b.trans (by
    unfold SetTable.advance;split<;>rfl)⟩
def Ÿ{t:SetTable}{h:Int} {w:Bool} (f:t.dummies = #[]) (e:t.freeSlot h=some (j,w)):t.slot j=.empty:=by
 unfold SetTable.freeSlot at e;split at e
 .rename_i g d c;obtain⟨a,b⟩:=L1 t _ h f _ _ _ _ c;subst b;cases e;exact a
 cases e
def Ź{t:SetTable} (h:t.slot j=.empty):t.place[SetTable.below t.place j]?≠some j:=λe=>by
 unfold SetTable.slot at h;rw[Kb (by rw[e];exact beq_self_eq_true _)]at h
 cases h
theorem TI.put{b:Bool}{t:SetTable}{j:Nat}(x:TI b t)(h:t.slot j=.empty):TI b (t.put j).1:=by
 refine⟨Ą t.place j x.rise<|Ź h,?_,x.led⟩;show (if SetTable.has t.dummies j then _ else t.dummies)=_
 rw[x.r9];rfl
def į(n:Nat):(Array.range n).toList.Pairwise (· < ·):=by
 rw[Array.toList_range];exact MP
def TI.um{t:SetTable}(x:TI b t)(n:Nat):TI b (t.standIn n):=⟨į n,rfl,x.led⟩
def TI.Vq{t:SetTable}(x:TI b t)(n:Nat):TI b (t.orStandIn n):=by
 unfold SetTable.orStandIn;split
 .exact x
 exact x.um n
def TI.lay{t:SetTable}(x:TI b t)(a:jp)(h:Int)(v:Value):TI b (layNew t a h v).2.1:=by
 unfold layNew;split
 .rename_i j w e;exact(x.put<|Ÿ x.r9 e).Vq _
 exact x.um _
def TI.sC{t:SetTable}(x:TI b t)(p:jp)(n:Nat):TI b (relayAll t p n).2.1:=by
 unfold relayAll;split
 .rename_i t' i e;have y:TI b t':=by
   obtain⟨d,_,e2⟩:=Option.bind_eq_some_iff.mp e;cases e2;refine⟨?_,rfl,x.led⟩;rw[List.map_filterMap];refine(MP).filterMap _ λa j l c h c' g=>?_
   have o:c=a:=by
    cases f:(d.getD a none) with
    |none=>rw[f]at h;cases h
    |some k=>rw[f]at h;cases h;rfl
   have m:c'=j:=by
    cases f:(d.getD j none) with
    |none=>rw[f]at g;cases g
    |some k=>rw[f]at g;cases g;rfl
   rwa [o,m]
  dsimp only;split
  .exact y
  exact x.um _
 exact x.um _
theorem TI.fresh(b:Bool):TI b (.fresh 0 0 b):=⟨List.Pairwise.nil,rfl,rfl⟩
def N1(t:SetTable)(a:jp)(h:Int)(v:Value):(layNew t a h v).1.toList.Perm (a.toList++[(h,v)]):=by
 have p:=layNew_perm t a h v
 rwa [toList_push]at p
def numOf:Value->Int
 |.int n _=>n
 |_=>0
def Lw(e:Int×Value):Prop:=∃(n:Int)(t:Tok),e=(hashInt n,.int n t)
structure Mc(b:Bool)(a:Addr)(ns:li)(es:jp)(ep:Nat)(t:SetTable)(h:Heap):Prop where
 obj:h.get? a=some {cls:=.type "set",dict:=none,data:=.set es ep t,slots := #[]}
 fit:t.fits es.size=true
 ti:TI b t
 perm:(es.toList.map λe=>numOf e.2).Perm ns
 nums:∀e∈es.toList,Lw e
def Mc.keep{c:jp} {t:SetTable} (x:Mc b a ns c ep t h) (k:∀o,h.get? a=some o->h'.get? a=some o):Mc b a ns c ep t h':=
 ⟨k _ x.obj,x.fit,x.ti,x.perm,x.nums⟩
theorem Mc.size{b:Bool}{a:Addr}{c:li}{d:jp}{e:Nat}{t:SetTable}{h:Heap}(x:Mc b a c d e t h):d.size=c.length:=by
 simpa using x.perm.length_eq
def Mc.put{j f:jp} {t t':SetTable} (x:Mc b a ns j ep t h) (g:t'.fits f.size=true) (i:TI b t') (c:(f.toList.map λe=>numOf e.2).Perm Xp) (d:∀e∈f.toList,Lw e) :
  Mc b a Xp f (ep+1) t' (h.update a<|Obj.putSet f t'):=by
 refine⟨?_,g,i,c,d⟩;rw[rn _ x.obj rfl];rfl
def xq(a:li)(k:Int):li:=if a.any (· == k) then a else a++[k]
def bGz(a:li)(k:Int):(xq a k).length<=a.length+1:=by
 unfold xq;split
 .exact Qp _
 simp
section
variable{w:World}{A:Around}
def bH0{b:List (Int×Value)}(a:∀e∈b,Lw e):ElemsOf (intKind prog w) b:=λe c=>by
 obtain⟨n,t,rfl⟩:=a e c;exact⟨⟨n,Uz prog w n t,rfl⟩,rfl⟩
def bH1{f:List (Int×Value)} (b:∀e∈f,Lw e) (a:(f.map λe=>numOf e.2).Perm ns) (k:Int):(f.findIdx?<|λe=>(intKind prog w).is k e.2).isSome=ns.any (· == k):=by
 rw[List.findIdx?_isSome,su,Iz,Iz];constructor
 .rintro⟨e,c,d⟩;obtain⟨n,t,rfl⟩:=b e c;exact⟨n,a.mem_iff.mp<|gf.mpr ⟨_,c,rfl⟩,Fm.mpr<|(intKind prog w).inj _ n k (Uz prog w n t) d⟩
 rintro⟨n,i,d⟩;obtain⟨e,c,h⟩:=gf.mp<|a.mem_iff.mpr i;obtain⟨g,t,rfl⟩:=b e c;refine⟨_,c,?_⟩;rw[<-(Fm.mp d),<-(h)];exact Uz prog w g t
def iN{Q:u8}(c:Bool)(q:Q () s):wpAny (model prog w) A (match c with|true=>rule "set.scan.the-table-gave-way"|false=>pure ()) Q E s:=by
 cases c with
 |true=>exact Zr q
 |false=>exact Ua q
def vg{l f:jp}{m:Nat}{t t':SetTable}{d:Bool}{R:Option Bool->Shared->Prop}{g:Bool->Sem Unit}
  (v:∀(c:Bool)(u:Shared)(Q:u8),Q () u->wpAny (model prog w) A (g c) Q E u) (x:Mc b a ns l m t s.heap)
  (B:f.size<scanBound) (k:t'.fits f.size=true) (n:TI b t') (h:(f.toList.map λe=>numOf e.2).Perm Xp) (i:∀e∈f.toList,Lw e)
  (r:∀(j:Heap) (l:jp) (m:Nat) (t:SetTable),Heap.SameBut a s.heap j->Mc b a Xp l m t j->R (some true) {s with heap:=j}) :
  wpAny (model prog w) A (storeSet a f t' >>= λ_=>if (!d&&t'.tooFull)=true then g (relayAll t' f<|SetTable.grown f.size).2.2 >>= λ_=>storeSet a (relayAll t' f<|SetTable.grown f.size).1 (relayAll t' f<|SetTable.grown f.size).2.1 >>= λ_=>pure (some true) else pure (some true)) R E s:=by
 have y:=x.put k n h i;have o:=ku s.heap a<|Obj.putSet f t';refine xa<|wpAny_storeSet_of x.obj rfl ?_<|JH B
 by_cases q:(!d&&t'.tooFull)=true
 .rw[Kb q];have p:=relayAll_perm t' f<|SetTable.grown f.size;have sz:=by simpa using p.length_eq
  exact xa<|v _ _ _<|xa<|wpAny_storeSet_of y.obj rfl (Ua<|r _ _ _ _ (o.trans<|ku _ a _)<|y.put (relayAll_fits t' f _) (n.sC f _) ((p.map _).trans h) λe z=>i e<|p.mem_iff.mp z)<|JH<|by rwa [sz]
 rw[Pa q];exact Ua<|r _ _ _ _ o y
theorem bL4{f:jp}{h:Nat}{t:SetTable}{k:Int}{Q:sB}(x:Mc b a ns f h t s.heap)(F:ns.length+1<scanBound)
  (q:∀(c:Bool)(g:Heap) (f:jp) (h:Nat) (t:SetTable),Heap.SameBut a s.heap g->Mc b a (xq ns k) f h t g->Q c {s with heap:=g}) :
  wpAny (model prog w) A (setAddHashed a (.int k tk)<|hashInt k) Q E s:=by
 have v:ElemsOf (intKind prog w) f.toList:=bH0 x.nums;have l:=bH1 (prog:=prog) (w:=w) x.nums x.perm k;have n:∀e∈(layNew t f _ _).1.toList,Lw e:=λe i=>by
  rcases Wh.mp ((N1 t f _ _).mem_iff.mp i) with i|i
  .exact x.nums e i
  exact⟨k,tk,Ce.mp i⟩
 have m:=by
  have:=(N1 t f (hashInt k)<|.int k tk).map λe=>numOf e.2
  rw[qh]at this;exact this.trans<|x.perm.append_right _
 have p:(layNew t f (hashInt k)<|.int k tk).1.size<scanBound:=by
  have:=m.length_eq;simp at this;lia
 refine gh<|xa<|Sw x.obj rfl x.fit ?_;dsimp only;rw[Kb<|byScan_of rfl (by rw[x.size];lia) v]
 refine xa<|xa<|Zr<|xa<|wpAny_setScan_of (Uz prog w k tk) x.obj rfl x.fit v ?_;cases r:f.toList.findIdx? _ with
 |some j=>
  rw[r]at l;have:xq ns k=ns:=Kb l.symm;rw[this]at q;exact Ua<|Ua<|q false s.heap f h t (Heap.SameBut.refl a s.heap) x
 |none=>
  rw[r]at l;have:xq ns k=ns++[k]:=by unfold xq;rw[<-l];rfl
  rw[this]at q;have tl:=x.ti.lay f (hashInt k)<|.int k tk;have fl:=layNew_fits t f (hashInt k)<|.int k tk;generalize layNew t f _ _=L at m n p tl fl ⊢;obtain⟨D,z,d,gv⟩:=L;refine xa<|iN _ ?_
  by_cases u:z.plain=true
  .rw[Kb u];exact xa<|Ua<|vg (λc B C g=>iN c g) x p fl tl m n λg f h t o y=>Ua<|q true g f h t o y
  rw[Pa u];exact xa<|Ua<|vg (λc B C g=>iN c g) x p fl tl m n λg f h t o y=>Ua<|q true g f h t o y
end
end Pu
namespace Pu
open PySem PyProof.Rows
section
variable{prog:Program}{w:World}{A:Around}{E:be}{s:Shared}
def du(val:Nat->Int):Nat->List Int
 |0=>[]
 |i+1=>xq (du val i)<|val i
theorem U4(val:Nat->Int):∀i,(du val i).length<=i
 |0=>Ec _
 |i+1=>Nh (bGz _ _)<|Nat.succ_le_succ<|U4 val i
def jQ(b:Bool)(a:Addr)(c:li)(h:Heap):Prop:=∃es ep t,Mc b a c es ep t h
theorem jQ.keep{b:Bool}{a:Addr}{c:li}{h d:Heap}(x:jQ b a c h)(k:∀o,h.get? a=some o->d.get? a=some o):jQ b a c d:=
 let ⟨es,ep,t,y⟩:=x
 ⟨es,ep,t,y.keep k⟩
def bL5{k:Int}{t:Tok}{Q:sB}(x:jQ b a ns s.heap)(g:ns.length+1<scanBound)
  (q:∀(c:Bool)(d:Heap),Heap.SameBut a s.heap d->jQ b a (xq ns k) d->Q c {s with heap:=d,toks:=s.toks+1}) :
  wpAny (model prog w) A (setAdd a<|.int k t) Q E s:=by
 obtain⟨es,ep,tb,y⟩:=x;exact gh<|xa<|(intKind prog w).pyHash (Uz prog w k t)<|bL4 y g λc d f h t' e z=>q c d e ⟨f,h,t',z⟩
variable{I:Addr}{fp wr:bv}{G:Array GenState->Array GenState->Prop}{n:Nat}{P:Nat->Value->Prop}{St:Nat->Shared->Prop}
theorem bH2(W:WalksS prog w A.in1 I fp wr G n P St){R:Result->pp}(a:Addr)(b:Bool)(j:a∉fp)(val:Nat->Int)(Xs:∀i v,P i v->∃t,v=.int (val i) t)(E:n+1<scanBound) :
  ∀(m i:Nat)(s:Shared),i+m=n->St i s->jQ b a (du val i) s.heap->
   (∀f,Moved (a::wr) G s f->jQ b a (du val n) f.heap->R (.ok<|.ret .none) f)->
   codeAny (model prog w) A (.builtin "set.update.loop" ⟨[.ref a,.ref I],[]⟩) R s:=by
 have u:=λh=>j<|W.sub _ h
 have q:∀c∈wr,c∈a::wr:=λc g=>Lc _ g
 intro m
 induction m with
 |zero=>
  intro i s e st x r;subst e;refine Dm F.entry_set_update_loop ?_
  rw[Around.under_plainId F.plain_set_update_loop _];exact xa<|W.done s _ _ st λf k=>Ua<|r f (k.mono q)<|x.keep λo l=>k.heap a o u l
 |succ m D=>
  intro i s e st x r;refine Dm F.entry_set_update_loop<|xa<|W.item i s _ _ (by lia) st λv f pv st' k=>?_
  obtain⟨t,rfl⟩:=Xs i v pv;refine xa<|gh<|bL5 (x.keep λo l=>k.heap a o u l) (by have:=U4 val i;lia) λc h' B y=>Ua ⟨yn F.plain_set_update_loop _,?_⟩
  have d:=λc g=>B.2 c g
  refine D (i+1) _ (by lia) (W.frame _ f _ _ st' (Qp _) λc g o l=>?_) y λC p z=>?_
  .rwa [d c λh=>j<|h ▸ g]
  refine r C (Moved.trans W.gtrans ((k.mono q).then_heap (Qp _) λc o g l=>?_) p) z
  rwa [d c λh=>g<|h ▸ Zb]
end
section
variable{prog:Program}{w:World}{A:Around}{E:be}{s:Shared}
def Fj(w:World):Bool:=w.params.followText "set-order"
def oy(w:World):Obj:={cls:=.type "set",dict:=none,data:=.set #[] 0 (.fresh 0 0<|!Fj w),slots := #[]}
def bH3(a:Value) (q:Q (.ref s.heap.objs.size) {s with heap:=s.heap.push (oy w)}) :
  codeAny (model prog w) A (.call (.builtin "set.__new__") ⟨[.type "set",a],[]⟩) (wants Q E) s:=by
 refine codeAny_of_tree<|(xa<|XH (F.newCall_set_1 a)<|Ua ⟨yn F.plain_set_new _,Dm F.entry_set_new ?_⟩);unfold Builtin.«set.__new__» Builtin.Frozenset.newClass;have sub:=sub_set_self;dsimp only
 wp_walk
 exact Uw<|Ua<|xa<|wpAny_alloc<|Ua<|Ua q
def ź(w:World) (o:h.get? a=some (oy w)):jQ (!Fj w) a [] h:=
 ⟨#[],0,_,o,rfl,TI.fresh _,List.Perm.nil,λe b=>nomatch b⟩
def bH4{R:Result->pp}(u:A.handled=none)(o:s.heap.get? a=some (oy w))(q:l≠a)(d:s.heap.IsList l items)(Xs:IntsAre items.toList ns)(B:items.size+1<scanBound)
  (r:∀(g:Heap)(n:Nat),jQ (!Fj w) a (du (λi=>ns.getD i 0) items.size) g->(∀b o,b≠a->s.heap.get? b=some o->g.get? b=some o)->R (.ok<|.ret .none) {s with heap:=g,toks:=n}) :
  wpAny (model prog w) A.in1 (Builtin.«set.__init__» ⟨[.ref a,.ref l],[]⟩) (λj s'=>match j with|.done f=>R (.ok f) s'|.again m=>m.quiet=true/\codeAny (model prog w) A m R s') (λe s'=>R (.error e) s') s:=by
 obtain⟨p,c,C,E,y⟩:=id d;obtain⟨L,J,K,D⟩:=p;subst C;have I:=F.sub_list_set;have H:=F.sub_list_frozenset;unfold Builtin.«set.__init__» noKeywords Builtin.Frozenset.updateFrom;generalize t:pyIter=it
 wp_walk
 subst t;refine Gz d<|xa<|wpAny_runValue (bH2 ((Tz (by simp[u]) _ l (ff<|Tc c) items).toS) a _ (by
  intro h;rcases qc.mp h with h|h
  .exact(ff<|Tc o) h
  exact q (Ce.mp h).symm) _ (λi v G=>IntsAre.int_at Xs i v<|by rwa [Sr]) B items.size 0 _ (cx _)
  ⟨⟨_,Af _ rfl,rfl,rfl⟩,d.push _⟩ (ź w<|vc _ o) λs' mv x=>?_)
 rw[Moved.eq_with mv];refine Ua<|Ua<|r s'.heap s'.toks x λb o z k=>mv.heap b o (λhm=>?_)<|vc _ k
 rcases qc.mp hm with h|h
 .exact z h
 exact absurd (Ce.mp h)<|ff<|Tc k
def bH5(y:A.handled=none)(j:s.heap.IsList l items)(Xs:IntsAre items.toList ns)(C:items.size+1<scanBound)
  (q:∀(a:Heap)(c:Nat),jQ (!Fj w) s.heap.objs.size (du (λi=>ns.getD i 0) items.size) a->(∀b o,s.heap.get? b=some o->a.get? b=some o)->Q (.ref s.heap.objs.size) {s with heap:=a,toks:=c}) :
  wpAny (model prog w) A (call (.type "set") [.ref l]) Q E s:=by
 have K:=Pz.made;have J:=Pz.sub;have I:=F.typeCall_set_1<|.ref l;refine gx<|codeAny_of_tree<|(Ua ⟨Code.quiet_builtin _ (by decide+kernel),Dm F.entry_type_call ?_⟩)
 rw[Around.under_plain (weight_type_call_type "set" [.ref l] []) rfl]
 repeat (any_goals (first|assumption|wp_step))
 refine Em (bH3 (.ref l) (E:=E) (Q:=λv m=>v=.ref s.heap.objs.size/\m={s with heap:=s.heap.push _}) ⟨rfl,rfl⟩) λd m p=>?_
 match d,p with
 |.error e,f=>exact f
 |.ok (.ret v),⟨u,hs⟩=>
  subst u;subst hs;have ob:(s.heap.push _).get? s.heap.objs.size=some (oy w):=Af _ rfl;have z:Shared.TypeIs {s with heap:=s.heap.push (oy w)} (.ref s.heap.objs.size) "set":=⟨_,ob,rfl⟩
  have H:=Pz.init.lookup;have G:=Pz.init.bind<|.ref s.heap.objs.size
  repeat (any_goals (first|assumption|wp_step))
  refine Em (codeAny_call_builtin (R:=wants (λr n=>r=.none/\Q _ n) E) Pz.init.plain F.entry_set_init (check_set_init_1 z
   (bH4 (by simp[y]) ob (let ⟨_,h,_⟩:=j;ff (Tc h)) (j.push _) Xs C λa c x k=>⟨rfl,q a c x λb o g=>k b o (ff<|Tc g)<|vc _ g⟩))) λB n t=>?_
  match B,t with
  |.error e,f=>exact f
  |.ok (.ret _),⟨h0,D⟩=>
   repeat (any_goals (first|assumption|wp_step))
end
theorem FK{a:Type}:∀(xs:List a)(i:Nat)(x:a),xs[i]?=some x->(x::xs.eraseIdx i).Perm xs
 |[],_,_,h=>nomatch h
 |y::xs,0,x,h=>by cases h;exact UH _
 |y::xs,i+1,x,h=>by
  exact(List.Perm.swap y x _).trans ((FK xs i x<|by simpa using h).cons y)
theorem UY{b:Type}(next:ss):∀(n k:Nat)(left:List b)(a:Array b),left.length=n->(pickOrder.go next n k left a).toList.Perm (a.toList++left)
 |0,k,left,a,h=>by
  cases left with
  |nil=>rw[so];exact UH _
  |cons _ _=>cases h
 |n+1,k,left,a,h=>by
  unfold pickOrder.go;have hl:next k%left.length<left.length:=mod_lt _ (by lia)
  have e:=Be hl;rw[e];refine(UY next n (k+1) _ _ (by rw[H8 hl];lia)).trans ?_
  rw[toList_push,Rw];exact(FK left _ _ e).append_left _
def ϣ(next:ss)(xs:Array α):(pickOrder next xs).toList.Perm xs.toList:=UY next xs.size 0 xs.toList #[] Ez
section
variable{w:World}{A:Around}
def Ż{s:Shared} {Q:Nat->Shared->Prop} (a:n≠0) (q:∀i d,i<n->Q i {s with drawn:=d}):wpAny (model prog w) A (choose src n) Q E s:=
 λ_ _ _=>⟨a,q _ _<|mod_lt _<|Nat.pos_of_ne_zero a⟩
theorem bH6{a:Type}(n:Nat):∀(xs:List a)(s:Shared)(Q:List a->pp),xs.length=n->(∀ys d,ys.Perm xs->Q ys {s with drawn:=d})->wpAny (model prog w) A (drawOrder n xs) Q E s:=by
 induction n with
 |zero=>
  intro xs s Q h q;have e:=Nw.mp h;subst e;exact Ua<|q [] s.drawn<|UH _
 |succ n c=>
  intro xs s Q h q;have b:xs≠[]:=λe=>by rw[e]at h;cases h
  obtain⟨x,l,rfl⟩:=List.exists_cons_of_ne_nil b;refine((xa<|Ż (by simp) λi d hi=>?_):wpAny _ A (choose .order (x::l).length >>= λi=>match (x::l)[i]? with|some y=>drawOrder n _ >>= λr=>pure _|none=>unsupported "internal:drawOrder") Q E s)
  have e:=Be hi;rw[e];exact xa<|c _ _ _ (by rw[H8 hi];lia) λys g f=>Ua<|q _ g<|(f.cons _).trans<|FK _ _ _ e
end
def qT:Slot "set_iterator" "__next__" "set_iterator.__next__":=
 .of (owner:="set_iterator") (n:="__next__") (by kernel_rfl) (by decide+kernel) (by decide+kernel) (by decide+kernel) (.inl<|by decide+kernel) (by kernel_rfl)
def bE:entryFor table "set_iterator.__next__"=some Builtin.«set_iterator.__next__» := entryFor_of_tree (by kernel_rfl)
def VE(a:Value):argsOk "set_iterator.__next__" ⟨[a],[]⟩:=by
 kernel_rfl
def O1:Slot "set_iterator" "__iter__" "set_iterator.__iter__":=
 .of (owner:="set_iterator") (n:="__iter__") (by kernel_rfl) (by decide+kernel) (by decide+kernel) (by decide+kernel) (.inl<|by decide+kernel) (by kernel_rfl)
def ż:entryFor table "set_iterator.__iter__"=some Builtin.«dict_keyiterator.__iter__» := entryFor_alias (id':="dict_keyiterator.__iter__") (by kernel_rfl) rfl (by decide+kernel) (by kernel_rfl)
def bDf(a:Value):argsOk "set_iterator.__iter__" ⟨[a],[]⟩:=by
 kernel_rfl
def İ:entryFor table "set.__iter__"=some Builtin.«frozenset.__iter__» := entryFor_alias (id':="frozenset.__iter__") (by kernel_rfl) rfl (by decide+kernel) (by kernel_rfl)
def bH7:typeLookup (.type "set") "__len__"=pure (some<|.builtin "set.__len__"):=by kernel_rfl
def Gp(first:Value)(i:Nat)(a:Addr)(n b:Nat):Obj:={cls:=.type "set_iterator",dict:=none,data:=.fields #[first,.int i 0,.ref a,.int n 0,.int b 0],slots := #[]}
section
variable{prog:Program}{w:World}{A:Around}{E:be}{s:Shared}
def bH8{e:jp} {t:SetTable} {c:Nat} {v:Value} {Q:tz}
  (d:s.heap.get? I=some (Gp (.int c 0) i a e.size ep)) (x:Mc b a ns e ep t s.heap)
  (j:∀(A:Around)(E:be) (Q:wP),Q (some (v,c')) s->wpAny (model prog w) A (setNext a c i ep) Q E s)
  (q:∀f,f.get? I=some (Gp (.int c' 0) (i+1) a e.size ep)->Heap.SameBut I s.heap f->Q (some v) {s with heap:=f}) :
  wpAny (model prog w) A (pyNext<|.ref I) Q E s:=by
 have g:s.TypeIs (.ref I) "set_iterator":=⟨_,d,rfl⟩;refine xa<|Mp<|Ip g qT<|ak qT g bE (xa<|Ua<|xa<|Xw d rfl ?_)<|VE _;dsimp only;refine xa<|Fz x.obj rfl x.fit ?_;rw[Pa (by simp)]
 refine xa<|j _ _ _<|xa<|Ur d rfl (by simp) ?_
 have h:(s.heap.update I (Obj.mapFields (·.setIfInBounds 0 (rawInt c')))).get? I=some (Gp (.int c' 0) i a e.size ep):=by
  rw[rn _ d<|Bz<|Qw rfl _];rfl
 refine xa<|Ur h rfl (by simp)<|Ua ⟨v,rfl,Ua<|q _ ?_<|(ku ..).trans<|ku ..⟩
 rw[rn _ h<|Bz<|Qw rfl _];rfl
def V4{R:be}{Q:Fin->pp}(d:A.handled=none)(r:∀(a:Heap)(e:Addr),(∀b o,s.heap.get? b=some o->a.get? b=some o)->(∃o,a.get? e=some o/\o.cls=.type "StopIteration")->R (.ref e) {s with heap:=a}) :
  wpAny (model prog w) A (newExc (.type "StopIteration") [] >>= λe=>raiseNew e) Q R s:=by
 refine xa<|xa<|oo (xa<|XH (by first|rfl|(rfl))<|oo (xa<|wpAny_handled ?_)<|by size_fits)<|by size_fits
 rw[d];exact xa<|Ua<|wpAny_throw<|r _ _ (λb o c=>vc _<|vc _ c) ⟨_,Af _ rfl,rfl⟩
def bL6{b:Bool} {h:jp} {t:SetTable} {c:Nat} {Q:tz} (n:A.handled=none)
  (d:s.heap.get? I=some (Gp (.int c 0) i a h.size ep)) (x:Mc b a ns h ep t s.heap)
  (l:∀(A:Around)(E:be) (Q:wP),Q none s->wpAny (model prog w) A (setNext a c i ep) Q E s)
  (q:∀f,(∀b o,b≠I->s.heap.get? b=some o->f.get? b=some o)->Q none {s with heap:=f}) :
  wpAny (model prog w) A (pyNext<|.ref I) Q E s:=by
 have g:s.TypeIs (.ref I) "set_iterator":=⟨_,d,rfl⟩;refine xa<|Mp<|Ip g qT<|ak qT g bE (xa<|Ua<|xa<|Xw d rfl ?_)<|VE _;dsimp only;refine xa<|Fz x.obj rfl x.fit ?_;rw[Pa (by simp)]
 refine xa<|l _ _ _<|xa<|Ur d rfl (by simp)<|V4 n λf e k o=>?_
 obtain⟨o,m,p⟩:=o;refine xa<|Tw ⟨o,m,p⟩ Mz<|Ua<|q _ λb j r u=>k b j ?_
 rwa [kn _ _<|uh r]
def Ž{d:jp} {t:SetTable} (x:Mc b a ns d ep t s.heap) (g:Fj w=true) (c i:Nat) {Q:wP}
  (q:Q (((pickOrder (w.params.setOrder a ep) d)[i]?).map λe=>(e.2,c)) s):wpAny (model prog w) A (setNext a c i ep) Q E s:=by
 have f:=g;refine xa<|Sw x.obj rfl x.fit ?_;dsimp only;refine xa<|xa<|Uw<|Ua<|Kp (λ_=>?_) λh=>absurd f h
 rw[Pa (by simp)]
 exact xa<|xa<|Sw x.obj rfl x.fit<|xa<|xa<|Uw<|Ua<|Kp (λ_=>xa<|Uw<|Ua<|Ua q) λh=>absurd f h
def Ot(t:SetTable):ss
 |0=>0
 |i+1=>t.place.getD i 0+1
theorem below_at{t:SetTable}(a:TI b t)(i:Nat)(l:i<=t.place.size):SetTable.below t.place (Ot t i)=i:=by
 obtain⟨d,c,f⟩:=GX t.place _ a.rise;generalize j:SetTable.below t.place _=m at d c f;rcases Jp m i with h|h|h
 .have lt:i-1<t.place.size:=by lia
  have:=c (i-1) _ (by lia)<|Lk lt
  have e:Ot t i=t.place[i-1]+1:=by
   cases i with
   |zero=>lia
   |succ k=>
    show t.place.getD k 0+1=_;rw[CH,Lk (by lia)]
    rfl
  lia
 .exact h
 have g:=d i _ h<|Lk<|by lia
 cases i with
 |zero=>exact absurd g<|yu _
 |succ k=>
  have e:Ot t (k+1)=t.place[k]+1:=by
   show t.place.getD k 0+1=_;rw[CH,(Lk _)];rfl
  have r:=UG.mp a.rise k (k+1) (by simp;lia) (by simp;lia) (by lia)
  simp at r;lia
theorem bDg{b:jp} {t:SetTable} (x:Mc true a ns b ep t s.heap) (f:Fj w=false) (d:(!t.plain&&decide (b.size>1))=false) (i:Nat) (g:i<=b.size) {Q:wP}
  (q:Q ((b[i]?).map λe=>(e.2,Ot t<|i+1)) s):wpAny (model prog w) A (setNext a (Ot t i) i ep) Q E s:=by
 have sz:=by
  have:=x.fit;simp[SetTable.fits]at this;exact this.1
 refine xa<|Sw x.obj rfl x.fit ?_;dsimp only;refine xa<|xa<|Uw<|Ua<|Kp (λh=>absurd ((f).symm.trans h) jo) λ_=>Kp (λh=>absurd (d.symm.trans h) jo) λ_=>xa (m:=(if (!t.led && !b.isEmpty)=true then unsupported "set:maker-not-led" else pure ())) ?_
 rw[Pa (by rw[x.ti.led];exact jo)]
 refine Ua ?_
 rw[below_at x.ti i (by rwa [sz])]
 by_cases c:i<b.size
 .rw[Lk c]at q;rw[Lk c,Lk _];refine Ua ?_
  have:Ot t (i+1)=t.place[i]+1:=by
   show t.place.getD i 0+1=_;rw[CH,Lk _];rfl
  rwa [this]at q
 rw[(OP<|by lia)]at q ⊢
 exact Ua q
def bH9{T:Addr} {d:jp} {t:SetTable} {ys:ac} {e:Int×Value} {y:Nat} {Q:tz}
  (c:s.heap.get? I=some (Gp (.ref T) i a d.size ep)) (x:Mc b a ns d ep t s.heap) (h:s.heap.get? T=some {cls:=.type "tuple",data:=.seq (ys.map λ(n:Nat)=>rawInt n).toArray})
  (j:ys[i]?=some y) (he:d[y]?=some e)
  (q:∀f,f.get? I=some (Gp (.ref T) (i+1) a d.size ep)->Heap.SameBut I s.heap f->Q (some e.2) {s with heap:=f}) :
  wpAny (model prog w) A (pyNext<|.ref I) Q E s:=by
 have g:s.TypeIs (.ref I) "set_iterator":=⟨_,c,rfl⟩;refine xa<|Mp<|Ip g qT<|ak qT g bE (xa<|Ua<|xa<|Xw c rfl ?_)<|VE _;dsimp only;refine xa<|Fz x.obj rfl x.fit ?_;rw[Pa (by simp)]
 refine xa<|Ll h rfl ?_;dsimp only;have k:((ys.map λ(n:Nat)=>rawInt n).toArray)[(i:Int).toNat]?=some (.int y 0):=by
  rw[Yw,Jz,Ij,j];rfl
 rw[k];refine xa<|xa<|Sw x.obj rfl x.fit ?_;dsimp only;rw[Pa (by simp),Yw,he]
 refine Ua<|xa<|Ur c rfl (by simp)<|Ua ⟨e.2,rfl,Ua<|q _ ?_<|ku ..⟩
 rw[rn _ c<|Bz<|Qw rfl _];rfl
def bL7{T:Addr}{b:Bool} {f:jp} {t:SetTable} {ys:ac} {Q:tz} (r:A.handled=none)
  (c:s.heap.get? I=some (Gp (.ref T) i a f.size ep)) (x:Mc b a ns f ep t s.heap) (l:s.heap.get? T=some {cls:=.type "tuple",data:=.seq (ys.map λ(n:Nat)=>rawInt n).toArray})
  (p:ys[i]?=none)
  (q:∀d,(∀b o,b≠I->s.heap.get? b=some o->d.get? b=some o)->Q none {s with heap:=d}) :
  wpAny (model prog w) A (pyNext<|.ref I) Q E s:=by
 have h:s.TypeIs (.ref I) "set_iterator":=⟨_,c,rfl⟩;refine xa<|Mp<|Ip h qT<|ak qT h bE (xa<|Ua<|xa<|Xw c rfl ?_)<|VE _;dsimp only;refine xa<|Fz x.obj rfl x.fit ?_;rw[Pa (by simp)]
 refine xa<|Ll l rfl ?_;dsimp only;have y:((ys.map λ(n:Nat)=>rawInt n).toArray)[(i:Int).toNat]?=none:=by
  rw[Yw,Jz,Ij,p];rfl
 rw[y];refine xa<|Ur c rfl (by simp) ?_
 have v:(s.heap.update I (Obj.mapFields (·.setIfInBounds 0 (rawInt 0)))).get? I=some (Gp (.int 0 0) i a f.size ep):=by
  rw[rn _ c<|Bz<|Qw rfl _];rfl
 refine xa<|Ur v rfl (by simp)<|V4 r λd e k o=>?_
 obtain⟨o,m,u⟩:=o;refine xa<|Tw ⟨o,m,u⟩ Mz<|Ua<|q _ λb j g z=>k b j ?_
 rwa [kn _ _<|uh g,kn _ _<|uh g]
def W4{o:Obj} (c:s.heap.get? I=some o) (b:o.cls=.type "set_iterator") (q:Q (.ref I) s):wpAny (model prog w) A (pyIter<|.ref I) Q E s:=by
 have a:s.TypeIs (.ref I) "set_iterator":=⟨o,c,b⟩;exact IH a O1<|ak O1 a ż ((Ua ⟨_,rfl,"set_iterator",_,a,qT.lookup,q⟩))<|bDf _
def P1(r:A.handled=none) (p:a≠I) {g:jp} {t:SetTable} (c:ss) (vs:ca)
  (l:∀(s:Shared)(i:Nat),i<=vs.length->Mc b a ns g ep t s.heap->∀(A:Around)(E:be) (Q:wP),Q ((vs[i]?).map λv=>(v,c<|i+1)) s->wpAny (model prog w) A (setNext a (c i) i ep) Q E s) :
  Walks prog w A I [I,a] [I] vs.length (λi v=>vs[i]?=some v) (λi h=>h.get? I=some (Gp (.int (c i) 0) i a g.size ep)/\Mc b a ns g ep t h) where
 sub:=λb f=>by rw[Ce.mp f];exact Zb
 frame:=λ_ _ _ st k=>⟨k I Zb _ st.1,st.2.keep λo d=>k a (Lc _ Zb) o d⟩
 item:=λi s Q E m st q=>by
  have e:=Be m;refine bH8 st.1 st.2 (λA E j h=>l s i (Vr m) st.2 A E j<|by rwa [e]) λh' u n=>?_
  have k:∀b o,b≠I->s.heap.get? b=some o->h'.get? b=some o:=λb o f d=>by rwa [n.2 b f]
  exact q _ h' s.toks e ⟨u,st.2.keep λo d=>k a o p d⟩ λb o f d=>k b o (λh=>f<|Ce.mpr h) d
 done:=λs Q E st q=>
  bL6 r st.1 st.2 (λA E j h=>l s _ (Ec _) st.2 A E j<|by rwa [iu<|Ec _]) λh' k=>q h' s.toks λb o f d=>k b o (λh=>f<|Ce.mpr h) d
 self:=λ_ _ _ _ st q=>W4 st.1 rfl q
def bHa(p:A.handled=none){T:Addr}(m:a≠I)(nT:T≠I) {f:jp} {t:SetTable} (ys:ac) (lt:∀y∈ys,y<f.size) :
  Walks prog w A I [I,a,T] [I] (ys.map λy=>(f.getD y (0,.none)).2).length (λi v=>(ys.map λy=>(f.getD y (0,.none)).2)[i]?=some v)
   (λi h=>h.get? I=some (Gp (.ref T) i a f.size ep)/\Mc b a ns f ep t h/\h.get? T=some {cls:=.type "tuple",data:=.seq (ys.map λ(n:Nat)=>rawInt n).toArray}) where
 sub:=λb d=>by rw[Ce.mp d];exact Zb
 frame:=λ_ _ _ st k=>⟨k I Zb _ st.1,st.2.1.keep λo c=>k a (Lc _ Zb) o c,k T (Lc _<|Lc _ Zb) _ st.2.2⟩
 item:=λi s Q E g st q=>by
  rw[Yc]at g;have e:=Be g;have j:=Lk<|lt _<|gj g;refine bH9 st.1 st.2.1 st.2.2 e j λh' r l=>?_
  have k:∀b o,b≠I->s.heap.get? b=some o->h'.get? b=some o:=λb o d c=>by rwa [l.2 b d]
  refine q _ h' s.toks ?_ ⟨r,st.2.1.keep λo c=>k a o m c,k T _ nT st.2.2⟩ λb o d c=>k b o (λh=>d<|Ce.mpr h) c
  rw[Ij,e];simp[j]
 done:=λs Q E st q=>by
  rw[Yc]at st;exact bL7 p st.1 st.2.1 st.2.2 (iu<|Ec _) λh' k=>q h' s.toks λb o d c=>k b o (λh=>d<|Ce.mpr h) c
 self:=λ_ _ _ _ st q=>W4 st.1 rfl q
def Nums(vs:ca)(a:li):Prop:=(vs.map numOf).Perm a/\∀v∈vs,∃n t,v=.int n t
def Mc.qj{c:jp} {t:SetTable} (x:Mc b a ns c ep t h) {l:List (Int×Value)} (p:l.Perm c.toList):Nums (l.map (·.2)) ns:=by
 refine⟨?_,λv hv=>?_⟩
 .rw[Gh];exact(p.map λe=>numOf e.2).trans x.perm
 obtain⟨e,f,rfl⟩:=gf.mp hv;obtain⟨n,d,rfl⟩:=x.nums e<|p.mem_iff.mp f;exact⟨n,d,rfl⟩
def bHb(l:A.handled=none) (x:jQ (!Fj w) a ns s.heap) (K:ns.length<scanBound)
  (q:∀(I:Addr)(m:Heap)(d:_)(vs:ca)(z:bv)(St:Fa),Nums vs ns->(∀b o,s.heap.get? b=some o->m.get? b=some o)->s.heap.objs.size<=I->(∀f∈z,f=a\/s.heap.objs.size<=f)->
   Walks prog w A I z [I] vs.length (λi v=>vs[i]?=some v) St->St 0 m->Q (.ref I) {s with heap:=m,drawn:=d}) :
  wpAny (model prog w) A (pyIter<|.ref a) Q E s:=by
 obtain⟨es,ep,t,x⟩:=x;have u:s.TypeIs (.ref a) "set":=⟨_,x.obj,rfl⟩;have la:=Tc x.obj;refine IH u F.slot_set_iter<|ak F.slot_set_iter u İ (xa<|xa<|Ua<|(Ua<|xa<|xa<|Fz x.obj rfl x.fit<|Ua ?_))<|F.args_set_iter_1 _;refine xa<|xa<|Sw x.obj rfl x.fit ?_;refine xa<|xa<|Uw<|Ua<|Ua ?_;have g:∀(s':Shared)(first:Value),Mc (!Fj w) a ns es ep t s'.heap->Q (.ref s'.heap.objs.size) {s' with heap:=s'.heap.push _}->wpAny (model prog w) A.in1 (setEpoch a >>= λe=>newFields "set_iterator" [first,rawInt 0,.ref a,rawInt es.size,rawInt e] >>= λr=>ret r)
   (λg s'=>∃r,g=.done (.ret r)/\∃B D,s'.TypeIs r B/\typeLookup (.type B) "__next__"=pure (some D)/\Q r s') E s':=λs' first y G=>by
  refine xa<|wpAny_setEpoch_of y.obj rfl y.fit ?_;exact xa<|oo<|Ua ⟨_,rfl,"set_iterator",_,⟨_,Af _ rfl,rfl⟩,qT.lookup,G⟩
 by_cases k:(!Fj w&&(!t.plain&&decide (es.size>1)))=true
 .refine Kp (λ_=>xa<|bH6 es.size (List.range es.size) s _ fx λys d py=>?_) λh=>absurd k h
  have sz:ys.length<=sizeLine:=JH (by rwa [py.length_eq,fx,x.size])
  refine xa<|oo (g _ _ (x.keep λo c=>vc _ c) (q _ _ d _ _ _ ?_ (λb o c=>vc _<|vc _ c) ?_ (λf hf=>?_)
   (bHa l ?_ ?_ ys<|λy H=>Jj.mp<|py.mem_iff.mp H) ⟨Af _ rfl,x.keep λo c=>vc _<|vc _ c,vc _<|Af _ rfl⟩))<|by show (List.map _ ys).toArray.size<=sizeLine;rwa [Lh,Yc]
  .have e:(ys.map λy=>(es.getD y (0,.none)).2)=(ys.map λy=>es.getD y (0,.none)).map (·.2):=by rw[Gh];rfl
   rw[e];refine x.qj<|(py.map _).trans<|List.Perm.of_eq<|IQ λi=>?_
   by_cases j:i<es.size
   .simp[List.getElem?_map,List.getElem?_range j,getD_eq_getD_getElem?,j]
   simp[j]
  .rw[Xh];exact Qp _
  .rcases qc.mp hf with h|h
   .exact .inr (by rw[h,Xh];exact Qp _)
   rcases qc.mp h with h|h
   .exact .inl h
   exact .inr<|Nz (Ce.mp h).symm
  .rw[Xh];exact ff<|Nat.lt_succ_of_lt la
  rw[Xh];exact ff<|Np _
 refine Kp (λh=>absurd h k) λ_=>xa<|Ua<|g s (.int 0 0) x ?_
 by_cases p:Fj w=true
 .refine q s.heap.objs.size _ s.drawn ((pickOrder (w.params.setOrder a ep) es).toList.map (·.2)) _ _ (x.qj<|ϣ _ es) (λb o c=>vc _ c) (Ec _) (λf hf=>?_)
   (P1 l (ff la) (λ_=>0) _ λs i j y A E J h=>Ž y p 0 i ?_) ⟨Af _ rfl,x.keep λo c=>vc _ c⟩
  .rcases qc.mp hf with h|h
   .exact .inr (Nz h.symm)
   exact .inl<|Ce.mp h
  rwa [Ij,Option.map_map,Sr]at h
 have n:Fj w=false:=by revert p;cases Fj w<;>intro h<;>first|rfl|exact absurd rfl h
 have C:=by rw[n]at x;exact x
 refine q s.heap.objs.size _ s.drawn (es.toList.map (·.2)) _ _ (x.qj<|UH _) (λb o c=>vc _ c) (Ec _) (λf hf=>?_)
  (P1 l (ff la) (Ot t) _ λs i j y A E J h=>bDg y n (by
  rw[n]at k;revert k;cases (!t.plain&&decide (es.size>1)) <;> intro h<;>first|rfl|exact absurd rfl h) i (by simpa using j) ?_) ⟨Heap.get?_push_size _ rfl,C.keep λo c=>Heap.get?_push_of_some _ c⟩
 .rcases qc.mp hf with h|h
  .exact .inr (Nz h.symm)
  exact .inl<|Ce.mp h
 rwa [Ij,Option.map_map,Sr]at h
end
section
variable{w:World}{A:Around}
def bDh{r:Addr}{Q:sB}(b:s.TypeIs (.ref r) "set")(q:Q false s):wpAny (model prog w) A (Builtin.List.listLengthHint<|.ref r) Q E s:=by
 refine xa<|Kz b bH7 ?_;generalize a:("set.__len__")=id0;subst a;exact xa<|Tw b sub_set_self<|Kp (λh=>absurd h<|by decide) λ_=>Kp (λ_=>xa<|wpAny_typeOf b<|Ua q) λh=>absurd (by decide+kernel) h
def jQ.typeIs(x:jQ b a ns s.heap):s.TypeIs (.ref a) "set":=let ⟨_,_,_,y⟩:=x;⟨_,y.obj,rfl⟩
def Nums.len{vs:ca} (h:Nums vs ns):vs.length=ns.length:=by
 simpa using h.1.length_eq
def bL8{S:Addr} {R:Result->pp} (P:A.handled=none) (x:jQ (!Fj w) a ns s.heap) (T:ns.length<scanBound) (y:s.heap.get? S=some {cls:=.type "list",data:=.seq #[] 0}) (E:S≠a)
  (r:∀(m:Heap)(d:_)(L:Nat)(vs:ca)(c:Nat),Nums vs ns->(∀b o,b≠S->s.heap.get? b=some o->m.get? b=some o)->m.get? S=some {cls:=.type "list",dict:=none,data:=.seq vs.toArray c,slots := #[]}->R (.ok<|.ret res) {s with heap:=m,drawn:=d,toks:=L}) :
  wpAny (model prog w) A.in1 (Builtin.List.listExtendWith (.ref S) (.ref a) res) (λz l=>match z with|.done f=>R (.ok f) l|.again p=>p.quiet=true/\codeAny (model prog w) A p R l) (λe l=>R (.error e) l) s:=by
 refine xa<|wpAny_typeOf x.typeIs ?_;rw[Pa (by simp[Builtin.List.listSameRef,E])]
 refine xa<|bHb (A:=A.in1) P x T λI m d vs fp St D k N M W st=>xa<|gh<|bDh (jQ.typeIs<|x.keep λo g=>k a o g) ?_
 have F:S∉fp:=λh=>by
  rcases M S h with e|e
  .exact E e
  exact absurd (Tc y)<|YH.mpr e
 have J:∀(n:Heap)(q:Nat),St 0 n->(∀b o,b≠S->s.heap.get? b=some o->n.get? b=some o)->n.get? S=some {cls:=.type "list",data:=.seq #[] q}->
   codeAny _ A _ R {s with heap:=n,drawn:=d}:=λn q t O u=>by
  refine codeAny_extend_loopS W.toS (JH<|by rwa [D.len]) S F res vs.length 0 _ #[] q rfl (rh _) t u (ItemsOf.nil _) λl qa p G U it=>?_
  have Q:qa=vs.toArray:=by
   apply ext';refine IQ λi=>?_
   rw[Sr];cases H:qa[i]? with
   |some v=>exact(it.2 i v H).symm
   |none=>exact(iu<|by rw[<-it.1];exact Array.getElem?_eq_none_iff.mp H).symm
  subst Q;rw[Moved.eq_with G];refine r l.heap d l.toks vs p D (λb o j g=>G.heap b o (λhm=>?_)<|O b o j g) U
  rcases qc.mp hm with h|h
  .exact j h
  exact absurd (Tc g) (by rw[Ce.mp h];exact YH.mpr N)
 refine Kp (λ_=>xa<|Zr<|xa<|?_) λ_=>Ua ⟨yn VG _,J m 0 st (λb o _ g=>k b o g)<|k S _ y⟩
 have C:=k S _ y;have B:=rn (Obj.mapSeq (·.push Value.none)) C rfl;have K:∀b o,b≠S->m.get? b=some o->((m.update S (Obj.mapSeq (·.push Value.none))).update S (Obj.mapSeq (·.pop))).get? b=some o:=λb o j g=>by
  rwa [kn _ _<|uh j,kn _ _<|uh j]
 exact xa<|Cq C rfl<|Cq B rfl<|Ua ⟨yn VG _,J _ _ (W.frame 0 _ _ st λb j o g=>K b o (λe=>F<|e ▸ j) g) (λb o j g=>K b o j<|k b o g)<|rn _ B rfl⟩
def bHc{R:GT}(n:A.handled=none)(x:jQ (!Fj w) a ns s.heap)(p:ns.length<scanBound)
  (r:∀(g:Heap)(d:_)(h:Nat)(vs:ca),Nums vs ns->(∀b o,s.heap.get? b=some o->g.get? b=some o)->R vs {s with heap:=g,drawn:=d,toks:=h}) :
  wpAny (model prog w) A (collect<|.ref a) R E s:=by
 refine xa<|wpAny_runValue<|Dm entry_proto_collect'<|xa<|oo<|Ua ⟨yn O8 _,Dm entry_list_iadd' ?_⟩;have la:=let ⟨_,_,_,y⟩:=x;Tc y.obj;have i:∀(g:Heap)(d:_)(h:Nat)(vs:ca)(c:Nat),Nums vs ns->(∀b o,s.heap.get? b=some o->g.get? b=some o)->g.get? s.heap.objs.size=some {cls:=.type "list",dict:=none,data:=.seq vs.toArray c,slots := #[]}->
   wpAny (model prog w) A (load s.heap.objs.size >>= λo=>match o.data with|.seq xs _=>pure xs.toList|_=>unsupported "internal:collect") R E {s with heap:=g,drawn:=d,toks:=h}:=λg d h vs c j k o=>by
  exact xa<|wpAny_load o<|Ua<|r g d h vs j k
 refine dk (bL8 (s:={s with heap:=s.heap.push {cls:=.type "list",data:=.seq ([]).toArray} }) (prog:=prog)
  (R:=λq s'=>q=.ok _/\∃(g:Heap)(d:_)(h:Nat)(vs:ca)(c:Nat),s'={s with heap:=g,drawn:=d,toks:=h}/\Nums vs ns/\(∀b o,s.heap.get? b=some o->g.get? b=some o)/\g.get? s.heap.objs.size=some {cls:=.type "list",dict:=none,data:=.seq vs.toArray c,slots := #[]})
  n (x.keep λo l=>vc _ l) p (Af _ rfl) (Wr la)
  λg d h vs c j k o=>⟨rfl,g,d,h,vs,c,rfl,j,λb m l=>k b m (ff<|Tc l)<|vc _ l,o⟩) (λfin s' y=>?_) λe s' y=>nomatch y.1
 cases fin with
 |done f=>
  obtain⟨e,g,d,h,vs,c,rfl,j,k,o⟩:=y;cases e;exact i g d h vs c j k o
 |again t=>
  refine⟨y.1,Em y.2 λq u z=>?_⟩
  obtain⟨rfl,g,d,h,vs,c,rfl,j,k,o⟩:=z;exact i g d h vs c j k o
theorem Q1:∀{vs:ca},(∀v∈vs,∃n t,v=Value.int n t)->IntsAre vs (vs.map Pu.numOf)
 |[],_=>IntsAre.nil
 |v::vs,h=>by
  obtain⟨n,t,rfl⟩:=h v Zb;exact IntsAre.cons _ _<|Q1 λv a=>h v<|Lc _ a
theorem ž(i:A.handled=none)(x:jQ (!Fj w) a ns s.heap)(j:ns.length<64)
  (q:∀(D:Addr)(e:Heap)(d:_)(f:Nat)(out:wE)(Xp:li)(c:Nat),IntsAre out.toList Xp->Xp.Perm ns->Xp.Pairwise (· <= ·)->(∀b o,s.heap.get? b=some o->e.get? b=some o)->(∀b o,s.heap.get? b=some o->b<D)->e.get? D=some (seqObj "list" out c)->Q (.ref D) {s with heap:=e,drawn:=d,toks:=f}) :
  wpAny (model prog w) A (call (.builtin "sorted") [.ref a]) Q E s:=by
 refine Calls.call_function_entry kind_sorted plain_sorted entry_sorted (args_sorted1 _)<|xa<|Ua<|xa<|bHc i x (by unfold scanBound;lia) λe d f vs g k=>?_
 have h:vs.length<64:=by rwa [g.len]
 refine xa<|wpAny_newList ?_<|by rw[Pp];lia
 have o:(e.push _).get? e.objs.size=some (seqObj "list" vs.toArray 0):=Af _ rfl;refine xa<|gh<|ak slot_list_sort ⟨_,o,rfl⟩ entry_list_sort (list_sort_tree o (Q1 g.2) h λout Xp e1 e2 e3=>⟨_,rfl,?_⟩)<|args_list_sort _
 obtain⟨c,oc⟩:=sortedHeap_at o;refine Ua ⟨_,rfl,q _ _ d f out Xp c e1 (e2.trans g.1) e3 (λb ob hb=>?_) (λb ob hb=>Tc<|k b ob hb) oc⟩
 have l:=Tc<|k b ob hb;rw[sortedHeap_old (ff l) (by rw[Xh];exact Nat.lt_succ_of_lt l)]
 exact vc _<|k b ob hb
end
end Pu
namespace Pu
open PySem PySem.Spec PyProof.Rows L2
theorem VY(a:li):∀k,k<=a.length->du (λi=>a.getD i 0) k=tL (a.take k)
 |0,_=>rfl
 |k+1,h=>by
  have e:a.take (k+1)=a.take k++[a.getD k 0]:=by
   rw[List.take_add_one,Kh,Be<|(by lia)]
   rfl
  rw[e];show xq _ _=_;rw[VY a k (by lia)]
  unfold tL;rw[List.foldl_append];rfl
def bL9{l m:li}(h:m.Perm l)(c:m.Pairwise (· <= ·)):m=ym l:=List.Perm.eq_of_pairwise (λa b _ _ e d=>Int.le_antisymm e d) c (bA6 l)<|h.trans (wM l).symm
theorem R1:∀{a:ca}{b:li},IntsAre a b->Ka (b.map V.int) a
 |_,_,.nil=>.nil
 |_,_,.cons n t h=>.cons ⟨t,rfl⟩<|R1 h
def bDi{w:World} {o:HO} (x:lX P w H h a o):∃u,h.get? a=some u:=by
 cases o with
 |lst xs=>obtain⟨_,_,_,_,e⟩:=x;exact⟨_,e⟩
 |tup xs=>obtain⟨_,_,_,o,e,_⟩:=x;exact⟨_,e⟩
 |dK Ca=>obtain⟨_,_,_,_,o,_,_,e,_⟩:=x;exact⟨_,e⟩
 |dT Ca=>obtain⟨_,_,_,_,o,_,_,e,_⟩:=x;exact⟨_,e⟩
 |set S n=>obtain⟨o,_,_,_,e,_⟩:=x;exact⟨_,e⟩
 |ins C d fs=>obtain⟨_,_,_,e,_⟩:=x;exact⟨_,e⟩
 |own y=>obtain⟨_,e⟩:=x;exact⟨_,e⟩
 |xd fs=>obtain⟨_,⟨_,_,_,e,_⟩,_⟩:=x;exact⟨_,e⟩
 |Sx lo c=>obtain⟨_,_,_,e⟩:=x;exact⟨_,e⟩
 |Vk ob u=>obtain⟨e,_⟩:=x;exact⟨_,e⟩
 |dq ps=>exact⟨_,(x)⟩
 |met f y=>exact⟨_,(x)⟩
 |ext b=>obtain⟨_,⟨_,e⟩,_⟩:=x;exact⟨_,e⟩
section
variable {a:Expr}
theorem ſ(m:X.calm=true):lY X (.type "set") (λxs H Q=>∃p a,xs=[.ref p]/\ue X.K H p (a.map V.int)/\a.length<=4000/\∀l,H l=none->Q (.ref l) (Tb H l<|.ext<|jQ (!Fj X.w) l<|tL a)):=by
 intro aa s σ H xs us Q I r h;obtain⟨p,a,rfl,i,hl,q⟩:=h;obtain⟨u,rfl,g⟩:=vals1 r;cases g;obtain⟨c,f,pl,o⟩:=I.list i;have b:=f.length;rw[Yc]at b;refine bH5 (I.ok.hd m) pl.isList (by simpa using B1 f) (by rw[List.size_toArray,<-b];show a.length+1<4096;lia) λh' n d j=>?_
 rw[show c.toArray.size=a.length by rw[Lh,b],VY a _<|Ec _,LQ]at d
 obtain⟨es,ep,t,e⟩:=id d;exact⟨.ref s.heap.objs.size,_,I.laid (o:=.ext _) j (Ec _) ⟨d,⟨_,e.obj⟩,λw v x k=>x.keep k⟩,rfl,q _<|I.Xa.fresh<|Ec _⟩
theorem aYs(E:X.calm=true):lY X (.builtin "sorted") (λxs H Q=>∃p a,xs=[.ref p]/\H p=some (.ext<|jQ (!Fj X.w) p a)/\a.length<64/\∀l,H l=none->Q (.ref l) (Tb H l<|.lst<|(ym a).map V.int)):=by
 intro aa s σ H xs us Q I r h;obtain⟨p,a,rfl,y,B,q⟩:=h;obtain⟨u,rfl,w⟩:=vals1 r;cases w;obtain⟨F,_,_⟩:=I.Xa _ _ y;refine ž (I.ok.hd E) F B λD h' d J g K c i A x f k C=>?_
 obtain rfl:=bL9 A x;have t:H D=none:=by
  cases G:H D with
  |none=>rfl
  |some o=>
   obtain⟨u,e⟩:=bDi<|I.Xa D o G;exact absurd (k D u e)<|Oi _
 have sm:aR H (Tb H D<|.lst<|(ym a).map V.int):=cQ t;refine⟨.ref D,Tb H D _,I.step (ch:=[]) (λ_ z=>nomatch z) (λb o _ _ _ e _=>f b o e) (λb o _ _ _ e _=>⟨o.slots,f b o e⟩) (λb o _ e n=>by rwa [aZ<|ff<|k b o e]) (λb o _ e=>⟨o,f b o e⟩) (λb xs e=>sm _ _ e) (λb o u e=>sm _ _ e) (λb ps e=>⟨#[],by rw[sm _ _ e];simp⟩) (λm ⟨o,es,ep,i,r⟩=>⟨o,es,ep,f _ o i,r⟩) (λb o e=>?_) I.bare,rfl,q _ t⟩
 by_cases j:b=D
 .subst j;rw[bO]at e;cases e;exact⟨by rw[Yc,((wM a).length_eq),Pp];lia,g.toList,c,R1 i,by simpa using C⟩
 rw[aZ j]at e;exact(I.Xa b _ e).Dh (λb v _ q=>f b v q) (λb q=>sm _ _ q) λb xs q=>sm _ _ q
theorem U1{K:Frag}{H:Hp}:∀(l:li),bC K H (l.map D.int) (l.map V.int)
 |[]=>.nil
 |_::l=>.cons (bK.mpr rfl)<|U1 l
def V1(w:X.mg "sorted"=none)(b:X.mg "set"=none)(j:X.calm=true)(C:PE X a (tP X.K B f))(y:Gl X "sorted":=by rfl)(F:Gl X "set":=by rfl)(u:starEach [.Call (.Name "set" p1) [a] [] p2] X.env=(false,eval (.Call (.Name "set" p1) [a] [] p2) X.env)::starEach [] X.env:=by rfl)
  (r:Oe a [] X.env:=by rfl):PE X (.Call (.Name "sorted" p0) [.Call (.Name "set" p1) [a] [] p2] [] pos) (tI X.K B<|e1 pE f):=by
 refine cC (nU (aYs j) y w L8<|cM (nM (ſ j) F b PyProof.Rows.boot_set (cM C fJ r) (he:=r)) fJ u) ?_
 rintro σ H Q ⟨A,st,d,g,z,q⟩;obtain⟨x,t,o⟩:=R.ua z;cases x<;>first|(cases o)|skip
 obtain⟨l,hl,E⟩:=R.ua o;obtain⟨c,D⟩:=aM E;cases D;refine⟨A,st,_,g,t,λv H1 s1 r1=>?_⟩
 obtain⟨p,vs,e,k,h⟩:=r1.lst;rw[sL hl]at h;rw[QY h]at k;exact⟨p,l,by rw[e],k,c.1,λn i=>⟨n,_,rfl,bO,c.2,λm s=>q _ _ (s1.trans<|(cQ i).trans<|cQ s)<|iH (g.own.mono<|s1.trans<|cQ i) s<|U1 _⟩⟩
end
section
variable {iter c:Expr} {t:Tg} {u:Ex}
def X1{is:ac}(v:L2.PI X tg iter (Um X.K B it))(w:∀(B:bv)(C:Addr)(e:Shared)(b:Hp)(a:bv),PG (fP X scope C e b a) tg<|tG X.K B t)
  (n:∀(B:bv)(C:Addr)(e:Shared)(b:Hp)(a:bv),PT (fP X scope C e b a) c<|tT X.K B u)
  (he:∀(B:bv)(C:Addr)(e:Shared)(b:Hp)(a:bv),PE (fP X scope C e b a) elt<|tI X.K B f) (z:X.calm=true:=by rfl) (hsub:Tt is t:=by exact XF) (S:qd X scope is:=by exact .of rfl) (o:∀x,foldedSetIterable iter X.env x=pure x:=by intro _;rfl) :
  PE X (.ListComp elt [⟨tg,iter,[c],0⟩] scope pos) (tF X.K B<|bU is t it u f):=by
 intro aa s σ H Q I h;obtain⟨A,st,d,g,y,q⟩:=h;obtain⟨xs,l,J⟩:=R.ua y;obtain⟨hl,F⟩:=aM J;obtain⟨ys,k,E⟩:=R.ua F;cases E;refine xH (te:=Yx X.K f) (rest:=λenv it p=>isTrue c env (eval c env) >>= λok=>if ok=true then (eval elt env >>= λx=>call _ [p,x] >>= λ_=>again<|.compLoop _ 0 it p env) else again (.compLoop _ 0 it p env)) S z v (λC e b a=>LG λB=>w B C e b a) (λ_ _ _=>uI)
  (λC e b a it p s Q h=>o8 h) (λC e b a it p τ H s aa vs N Q I h q=>K7 rfl (KG λB=>he B C e b a) (q8 λB=>n B C e b a) τ H s aa vs N Q I h (λ_ Q T m h=>XD Q T m h) q) o I
  (YF hsub (λτ H Q h=>h) g l hl k λp vs H1 H' s1 hp s2 hv r=>?_) λC p Z s5 j s3 H3 a τ D W P V U i=>⟨j,U,λh' Y=>⟨.ref p,Z,Cy W P D V Y,rfl,i⟩⟩
 obtain⟨G,O,M,L,K⟩:=bPs s1 hp s2 hv r;have:=q p vs G O M K
 rwa [L]at this
end
def aYt(a v d:Value):argsOk "min" ⟨[a],[(ofString "key",v),(ofString "default",d)]⟩:=by kernel_rfl
section
variable {σ:L2.St}
def X4{k:Nat} {u:Value} {Q:VK} (F:Ha X.prog X.w X.K X.mg X.base wc k fa fd ps (Xc X.K np p)) (b:Cb (k+1) X.A) (c:Binds X.K fd ps []) (I:Ea X aa σ H s) (r:RelV v u) (h:Xc X.K np p [v] H Q E0) :
  wpAny (model X.prog X.w) X.A.in1 (call (.ref fa) [u]) (EP X aa σ Q) (λ_ _=>False) s:=by
 refine gx<|Em (F.run X.A.in1 X.stack s H _ [u] [v] Q E0 b.in1 I.yo.in1 (c s [u] I.Hf<|by simpa using (F.len _ _ _ _ h)) (.cons r .nil) h) λr s' a=>?_
 cases r with
 |error e=>exact a.elim
 |ok fl=>
  cases fl with
  |ret u=>exact I.after a
  |next=>exact False.elim a
  |brk=>exact False.elim a
  |cont=>exact False.elim a
theorem bLa{b:Addr}{e:lw}{ys:db}{t:Bool} (J:X.A.units+64<cLine) (I:Ea X aa σ H s) (A:eh X.K H a vs) (z:eh X.K H b e) (m:bC X.K H xs vs) (l:bC X.K H ys e) (h:jR xs<=60) (u:dR xs=true) (r:dR ys=true) (w:Ym xs ys=.ok t) (q:Q (.bool t) s):wpAny (model X.prog X.w) X.A.in1 (richCompare .Lt (.ref a)<|.ref b) Q E s:=by
 obtain⟨c,p,p1,_⟩:=I.tuple A;obtain⟨j,o,p2,_⟩:=I.tuple z;obtain⟨⟨C,B,i,k⟩,g,y,n,h⟩:=id p1;obtain⟨⟨K,G,data2,D⟩,f,F,v,d⟩:=id p2;subst y h F d;refine richCompare_meets_room ⟨_,g,rfl⟩ ⟨_,f,rfl⟩ PySem.F.slot_tuple_lt PySem.F.entry_tuple_lt (PySem.F.args_tuple_lt_2 _ _) (ť a b c.toArray j.toArray n v B G k D t) ⟨g,f,?_,?_⟩ (by lia)
 .exact B4 I (A:=X.A.in1.in1) xs ys m l p o (by lia) u r w
 exact⟨(λx=>nomatch x),q⟩
theorem bDj {k : Nat}    {g : List D -> R D} (F : Ha X.prog X.w X.K X.mg X.base wc k fa fd ps (Xc X.K 1 g)) (hr : Cb (k + 1) X.A) (K : Binds X.K fd ps []) (hc : X.calm = true) (hu : X.A.units + 64 < cLine)
     {it S:Addr} {dv:Value} {r:D} {Q:VK} (hl:ue X.K H l zs) (hz:bC X.K (hide (S::Z) H) ds zs) (hZ:Own Z H) (YA:l≠it) (hS:H S=none)
  (hQ:∀v d,aR H d->Ib X.K (hide Z d) r v->Q v d):∀(n j:Nat)(f:Shared)(d:Hp)(b kb:D)(p U:V),j+n=ds.length->Ea X aa σ d f->Jk X aa d it->f.heap.IsListIter it l j->aR H d->d S=some (.lst [p,U])->
   Ib X.K (hide (S::Z) d) b p->Ib X.K (hide (S::Z) d) kb U->nq g b kb (ds.drop j)=.ok r->
   codeAny (model X.prog X.w) X.A (.builtin "min.loop" ⟨[.ref it,.ref fa,.ref S],[(ofString "default",dv)]⟩) (λr f=>match r with|.ok (.ret v)=>EP X aa σ Q v f|.ok _=>False|.error e=>X.xe e f) f:=by
 have nm:(toString "min" ++ toString ".loop")="min.loop":=by decide
 have BI:=hz.length;intro n
 induction n with
 |zero=>
  intro j f d b kb p U hj I fp hit sm hs rb rk c;obtain⟨h,Y,pl,_⟩:=I.list<|sm.seq hl;have W:=Tz (prog:=X.prog) (w:=X.w) (A:=X.A.in1) (I.ok.hd hc) it l YA h.toArray;have zh:h.toArray.size=j:=by rw[Lh,<-Y.length];lia
  obtain⟨_,xi,n2,C,l2,o2⟩:=I.Vj hs;obtain⟨ub,w1,rfl,r3,r4⟩:=C.two;refine Dm QP ?_
  rw[Around.under_plainId Az _];show wpAny _ X.A.in1 (seqItems? (.ref S) >>= _) _ _ f;refine xa<|Ll o2 rfl ?_;refine xa<|tu<|W.done f _ _ ⟨by rwa [zh],pl.isList⟩ λh' B kk=>?_
  obtain⟨f1,w,f3,N,M,L⟩:=fp;have hSi:S≠it:=λz=>by rw[z,f1]at hs;cases hs
  have I1:=I.turned (t':=B) (λb o K e=>kk b o (by simpa using K) e) f1 w N M L
  have E:=kk S _ (by simpa using hSi) o2
  refine xa<|Cq E rfl<|xa<|Yr<|Ua ?_;have I2:=I1.Nm (t':=B) (f:=λ_ => #[]) hs E rfl .nil<|rh _
  have e:b=r:=by
   rw[NP (by lia)]at c
   cases c;rfl
  subst e;refine⟨p,_,I2,r3,hQ p _ (λb o e=>?_) ?_⟩
  .rw[aZ<|aU e hS];exact sm _ _ e
  refine rb.mono λb o e=>?_
  unfold hide at e ⊢
  by_cases i:b∈S::Z
  .rw[Kb i]at e;cases e
  rw[Pa i]at e
  rwa [Pa λz=>i<|Lc _ z,aZ λz=>i (by rw[z];exact Zb)]
 |succ n ih=>
  intro j f d b kb p U hj I fp hit sm hs rb rk c;have J:j<ds.length:=by lia
  have mB:j<zs.length:=by lia
  obtain⟨h,Y,pl,_⟩:=I.list<|sm.seq hl;have W:=Tz (prog:=X.prog) (w:=X.w) (A:=X.A.in1) (I.ok.hd hc) it l YA h.toArray;have zh:h.toArray.size=zs.length:=by rw[Lh,<-Y.length]
  obtain⟨_,xi,n2,C,l2,o2⟩:=I.Vj hs;obtain⟨ub,uk,rfl,r3,r4⟩:=C.two;refine Dm QP ?_
  refine xa<|Ll o2 rfl ?_;refine xa<|tu<|W.item j f _ _ (by rwa [zh]) ⟨hit,pl.isList⟩ λv h' B hP qv kk=>?_
  obtain⟨f1,w,f3,N,M,L⟩:=id fp;have I1:=I.turned (t':=B) (λb o K e=>kk b o (by simpa using K) e) f1 w N M L
  obtain⟨oI,jS,Xu,Gn⟩:=id qv.1;have DC:RelV zs[j] v:=by
   obtain⟨u,hu,q⟩:=Y.get<|Be mB;have:=by simpa using hP
   rw[hu]at this;cases this;exact q
  have I2:Ea X (aa++[(it,oI)]) σ d {f with heap:=h',toks:=B}:=I1.Zh λq G=>by
   rcases Wh.mp G with G|G
   .exact I1.pin q (oh _ G)
   rw[Ce.mp G];exact⟨jS,f1,w,f3,λv z=>by rw[Gn]at z;cases z⟩
  have own:Own (S::Z) d:=λa ha=>by
   rcases qc.mp ha with rfl|ha
   .rw[hs];rfl
   exact hZ.mono sm a ha
  rw[Cz J]at c;obtain⟨kd,hk,h2⟩:=R.ua c;have rd:Ib X.K (hide (S::Z) d) ds[j] zs[j]:=by
   obtain⟨z,e,q⟩:=hz.get<|Be J;rw[Be mB]at e;cases e;exact q.mono<|aR.hide sm
  refine xa<|tu<|gh<|dk (X4 F hr K I2 DC ⟨S::Z,[ds[j]],kd,own,.cons rd .nil,rfl,hk,λv A s2 C=>(⟨s2,C⟩:aR d A/\Ib X.K (hide (S::Z) A) kd v)⟩) (λu s2 he=>?_) λ_ _ z=>z.elim
  obtain⟨QU,A,T,Vx,s,Rx⟩:=he;split at h2
  rotate_left
  .cases h2
  rename_i x y;obtain⟨⟨c1,c2,c3⟩,h3⟩:=aM h2;obtain⟨t,ht,h4⟩:=R.ua h3;obtain⟨O,va,rfl,q1,q2⟩:=rD.mp Rx;obtain⟨a2,va2,rfl,q3,q4⟩:=rD.mp<|rk.mono<|aR.hide s;obtain rfl:u=Value.ref O:=Vx;obtain rfl:uk=Value.ref a2:=r4;have m:=T.pin (it,oI)<|oh _<|oh _<|Ce.mpr rfl;have Ri:s2.heap.IsListIter it l (j+1):=⟨oI,m.1,Xu,Gn⟩;refine xa<|tu<|gh<|xa<|bLa hu T (eh.of<|aX _ _ _ _ q1) (eh.of<|aX _ _ _ _ q3) (q2.mono<|aX _ _) (q4.mono<|aX _ _) c1 c2 c3 ht<|xa<|gh<|ou<|xa<|Yr<|Ua ?_;have fp2:Jk X aa A it:=⟨m.2.1,w,f3,N,M,L⟩;have Qn:=sm.trans s;have P:=s _ _ hs;cases t with
  |true=>
   rw[Kb rfl]at h4;simp only[if_true];obtain⟨_,ES,n3,r5,l3,E⟩:=T.Vj P;refine xa<|Cq E rfl<|xa<|Yr ?_;rw[nm];have I4:=T.Xe.Nm (t':=s2.toks) (f:=λ_ => #[v,.ref O]) (ys:=[zs[j],.ref O]) P E rfl (.cons DC<|.cons rfl .nil) (by rw[Pp];show 2<=_;lia)
   have hd:hide (S::Z) (Tb A S<|.lst [zs[j],.ref O])=hide (S::Z) A:=uE Zb;refine Ua ⟨yn Az _,ih (j+1) _ _ ds[j] (.tup x) zs[j] (.ref O) (by lia) I4 ?_ ?_ (λb o e=>?_) bO (by rw[hd];exact rd.mono<|aR.hide s) (by rwa [hd]) h4⟩
   .refine⟨?_,w,f3,N,M,L⟩;rw[aZ λz=>by rw[z,P]at m;cases m.2.1]
    exact m.2.1
   .refine⟨oI,?_,Xu,Gn⟩;rw[kn _ _ λz=>by rw[<-z,P]at m;cases m.2.1]
    exact m.1
   rw[aZ<|aU e hS];exact Qn _ _ e
  |false=>
   refine xa<|Yr ?_;rw[nm];exact Ua ⟨yn Az _,ih (j+1) _ _ b (.tup y) p (.ref a2) (by lia) T.Xe fp2 Ri Qn P (rb.mono<|aR.hide s) (rk.mono<|aR.hide s) h4⟩
end
section
variable {p kp LI Sq jm:Pos}
theorem aYu {k : Nat}    {g : List D -> R D} (F : Ha X.prog X.w X.K X.mg X.base wc k fa fd ps (Xc X.K 1 g)) (hr : Cb (k + 1) X.A) (i : Binds X.K fd ps []) (hc : X.calm = true) (L : X.A.units + 64 < cLine)
     {t:L2.St} (I:Ea X aa t H s) {r:D} {Q:VK} (M:ue X.K H l zs) (hz:bC X.K (hide Z H) ds zs) (hZ:Own Z H) (hm:Jr g (.lst ds)=.ok r)
  (hQ:∀v H',aR H H'->Ib X.K (hide Z H') r v->Q v H'):wpAny (model X.prog X.w) X.A (call (.builtin "min") [.ref l] [(ofString "key",.ref fa),(ofString "default",.none)]) (EP X aa t Q) X.xe s:=by
 have nm:(toString "min" ++ toString ".loop")="min.loop":=by decide
 obtain⟨f,A,pl,_⟩:=I.list M;refine kmk_tree PySem.F.kind_min PySem.F.plain_min PySem.F.entry_min (aYt _ _ _) ?_
 refine xa<|XH (show Builtin.Builtins.bindParams "min" ["key","default"] 0 ⟨[],[(ofString "key",Value.ref fa),(ofString "default",Value.none)]⟩=pure [some<|Value.ref fa,some Value.none] from rfl) ?_
 refine xa<|Ua ?_;refine xa<|Gz pl.isList ?_;refine xa<|oo ?_;rw[nm];refine Ua ⟨yn Az _,?_⟩;have YA:l≠s.heap.objs.size:=by obtain⟨_,q,_⟩:=pl.isList;exact ff<|Tc q
 have I1:Ea X aa t H {s with heap:=s.heap.push {cls:=.type "list_iterator",data:=.fields #[.ref l,.int 0 0]} }:=I.kept λ_ _ q=>vc _ q
 have lj:(s.heap.push {cls:=.type "list_iterator",data:=.fields #[.ref l,.int 0 0]}).IsListIter s.heap.objs.size l 0:=⟨_,Af _ rfl,rfl,rfl⟩;have fp:=I.Mj (Ec _) I.fresh;have E:s.heap.objs.size<(s.heap.push {cls:=.type "list_iterator",data:=.fields #[.ref l,.int 0 0]}).objs.size:=by rw[Xh];exact Np _
 generalize s.heap.objs.size=it at *;generalize s.heap.push {cls:=.type "list_iterator",data:=.fields #[.ref l,.int 0 0]}=h1 at *;have n:=I1.uv (t':=s.toks) .nil<|rh _;have m:=I1.fresh;have V:(h1.push {cls:=.type "list",data:=.seq ([]).toArray}).IsListIter it l 0:=let ⟨o,a,b,c⟩:=lj;⟨o,vc _ a,b,c⟩;have oS:(h1.push {cls:=.type "list",data:=.seq ([]).toArray}).get? h1.objs.size=some {cls:=.type "list",data:=.seq #[] 0}:=Af _ rfl;have Y:=ff E;dsimp only at n oS V m ⊢;generalize h1.objs.size=S at *;have sm:aR H (Tb H S<|.lst []):=cQ m;have Nq:bC X.K (hide (S::Z) H) ds zs:=hz.mono λb o e=>by
  unfold hide at e ⊢
  by_cases h:b∈Z
  .rw[Kb h]at e;cases e
  rw[Pa h]at e;rw[Pa λz=>(qc.mp z).elim (λz=>by rw[z,m]at e;cases e) h]
  exact e
 obtain⟨f1,w,f3,T,P,O⟩:=id fp;have IA:(Tb H S<|.lst []) it=none:=by rw[aZ Y];exact f1
 obtain⟨f,A,pl,_⟩:=n.list<|sm.seq M;have W:=Tz (prog:=X.prog) (w:=X.w) (A:=X.A.in1) (n.ok.hd hc) it l YA f.toArray;have zh:f.toArray.size=zs.length:=by rw[Lh,<-A.length]
 have BI:=hz.length;refine Dm QP ?_
 refine xa<|Ll oS rfl ?_;cases ds with
 |nil=>
  have K:f.toArray.size=0:=by rw[zh,BI];rfl
  refine xa<|tu<|W.done _ _ _ ⟨by rw[K];exact V,pl.isList⟩ λh' y G=>?_
  have x:=n.turned (t':=y) (λb o i e=>G b o (by simpa using i) e) IA w T P O
  refine xa<|Zr<|Ua ?_;cases hm;exact⟨.xc,_,x,rfl,hQ _ _ sm<|sU.mpr rfl⟩
 |cons d ds=>
  have U:0<zs.length:=by rw[BI];exact Nat.succ_pos _
  refine xa<|tu<|W.item 0 _ _ _ (by rw[zh];exact U) ⟨V,pl.isList⟩ λv h' y hP qv G=>?_
  have x:=n.turned (t':=y) (λb o i e=>G b o (by simpa using i) e) IA w T P O
  obtain⟨C,jS,Xu,Gn⟩:=id qv.1;have DC:RelV zs[0] v:=by
   obtain⟨u,L,q⟩:=A.get<|Be U;have:=by simpa using hP
   rw[L]at this;cases this;exact q
  have I4:Ea X (aa++[(it,C)]) t _ _:=x.Zh λq j=>by
   rcases Wh.mp j with j|j
   .exact x.pin q (oh _ j)
   .rw[Ce.mp j];exact⟨jS,IA,w,f3,λv z=>by rw[Gn]at z;cases z⟩
  have own:Own (S::Z) (Tb H S<|.lst []):=λa N=>by
   rcases qc.mp N with rfl|N
   .rw[bO];rfl
   .exact hZ.mono sm a N
  obtain⟨J,hk,h2⟩:=R.ua hm;have rd:Ib X.K (hide (S::Z)<|Tb H S<|.lst []) d zs[0]:=by
   obtain⟨z,e,q⟩:=Nq.get (i:=0) rfl;rw[Be U]at e;cases e;exact q.mono<|aR.hide sm
  refine xa<|tu<|gh<|dk (X4 F hr i I4 DC ⟨S::Z,[d],J,own,.cons rd .nil,rfl,hk,λv p s2 r2=>(⟨s2,r2⟩:aR (Tb H S<|.lst []) p/\Ib X.K (hide (S::Z) p) J v)⟩) (λu s2 he=>?_) λ_ _ z=>z.elim
  obtain⟨QU,p,I5,Vx,B,Rx⟩:=he;have Mf:=B _ _ bO;have pn:=I5.pin (it,C)<|oh _<|oh _<|Ce.mpr rfl;obtain⟨_,ES,n3,r5,l3,o3⟩:=I5.Vj Mf;refine xa ?_
  refine Cq o3 rfl ?_
  rw[nm];have I6:=I5.Xe.Nm (t':=s2.toks) (f:=λ_ => #[v,u]) Mf o3 rfl (.cons DC<|.cons Vx .nil) (by rw[Pp];show 2<=_;lia)
  have hd:hide (S::Z) (Tb p S<|.lst [zs[0],QU])=hide (S::Z) p:=uE Zb;refine Ua ⟨yn Az _,bDj F hr i hc L M Nq hZ YA m hQ ds.length 1 _ _ d J zs[0] QU (by rw[fg];lia) I6 ?_ ?_ (λb o e=>?_) bO (by rw[hd];exact rd.mono<|aR.hide B) (by rw[hd];exact Rx) h2⟩
  .refine⟨?_,w,f3,T,P,O⟩;rw[aZ Y];exact pn.2.1
  .refine⟨C,?_,Xu,Gn⟩;rw[kn _ _<|uh Y];exact pn.1
  .rw[aZ<|aU e m];exact B _ _<|sm _ _ e
def bLb{k:Nat}{g:cr}(h:Za X.prog X.w X.K X.mg X.base x k 1 g)(L:Cb j X.A)(O:k+1<=j)(T:X.calm=true)(J:X.A.units+64<cLine)(N:X.mg "min"=none)(U:PE X e (tI X.K B f))(n:Gl X x:=by rfl)(Qu:dg x:=by decide)(P:Gl X "min":=by rfl)
  (K:Oe e [] X.env:=by rfl)
  (he:backTo pos (starEach [e] X.env)=(false,eval e X.env)::backTo pos (starEach [] X.env):=by rfl) (Xd:(backTo pos<|starEach [e] X.env).any (·.1)=false:=by rfl)
  (Eo:(backToKw pos<|keywordEach [⟨some "key",.Name x kp,Sq⟩,⟨some "default",.Constant .none jc LI,jm⟩] X.env).all (·.1.isSome)=true:=by rfl) (i:(backToKw pos<|keywordEach [⟨some "key",.Name x kp,Sq⟩,⟨some "default",.Constant .none jc LI,jm⟩] X.env).any (·.1.isNone)=false:=by rfl)
  (Su:(backToKw pos<|keywordEach [⟨some "key",.Name x kp,Sq⟩,⟨some "default",.Constant .none jc LI,jm⟩] X.env).filterMap (·.1)=[("key":Str),("default":Str)]:=by rfl) :
  PE X (.Call (.Name "min" p) [e] [⟨some "key",.Name x kp,Sq⟩,⟨some "default",.Constant .none jc LI,jm⟩] pos) (tI X.K B<|e1 (Jr g) f):=by
 obtain⟨fa,fd,ps,F,m,E,bn⟩:=h.ex;intro aa s σ H Q I h;obtain⟨A,st,d,o,S,q⟩:=h;obtain⟨y,G,a⟩:=R.ua S;obtain⟨ds,rfl⟩:∃ds,y=.lst ds:=by
  unfold Jr at a;split at a
  .exact⟨_,rfl⟩
  .exact⟨_,rfl⟩
  cases a
 refine Bq<|vR I P N rfl (callWith_kw (Cc (cM U fJ K pos aa s σ H (λvs H1=>∃l zs,vs=[V.ref l]/\aR H H1/\ue X.K H1 l zs/\bC X.K (hide (A++B) H1) ds zs) I ?_) λus s1 ⟨vs,H1,I1,r1,l,zs,e1,sm,q1,q2⟩=>?_) he Xd Eo i) (by decide) rfl
 .refine⟨A,st,_,o,G,λv H1 s1 r1=>?_⟩
  obtain⟨l,zs,rfl,M,Kx⟩:=eO.mp r1;exact⟨l,zs,rfl,s1,(aX _ _).seq M,Kx⟩
 subst e1;obtain⟨u,rfl,w⟩:=r1.one;obtain rfl:u=Value.ref l:=w;refine kws_cons<|Cc (dE (v:=.ref fa) n m rfl Qu aa s1 σ H1 (λb c=>b=.ref fa/\c=H1) I1 ⟨rfl,rfl⟩) λv t ⟨b,c,I2,D,e2,Z⟩=>?_
 subst e2 Z;obtain rfl:v=Value.ref fa:=D;refine kws_cons<|Cc (o5 aa t σ _ (λb c=>b=.xc/\c=_) I2 ⟨rfl,rfl⟩) λv s3 ⟨b,H3,I3,C,Y,W⟩=>kws_nil ?_
 subst Y W;obtain rfl:v=Value.none:=C;exact aYu F (L.mono O) bn T J I3 q1 q2 (o.own.mono sm) a λv H' r z=>q v H' (sm.trans r) z
def bDk(st:za)(d:D)(h:e1 Xy f st=.ok d):∃xs,d=.lst xs:=by
 obtain⟨x,_,a⟩:=R.ua h;unfold Xy at a;split at a
 .obtain⟨l,_,c⟩:=R.ua a;obtain⟨_,b⟩:=aM c;cases b;exact⟨_,rfl⟩
 cases a
def bHd{a:Expr} (y:X.mg "list"=none) (D:X.calm=true) (E:PE X a (tP X.K B f)) (z:Gl X "list":=by rfl) (l:Oe a [] X.env:=by rfl):PE X (.Call (.Name "list" p0) [a] [] pos) (tF X.K B<|e1 Tv f):=by
 refine cC (nM (EX D) z y rfl (cM E fJ l) (he:=l)) ?_
 rintro σ H Q ⟨A,st,d,k,C,q⟩;obtain⟨x,u,b⟩:=R.ua C;refine⟨A,st,x,k,u,λv H1 s1 r1=>?_⟩
 unfold Tv at b;split at b
 .obtain⟨c,G⟩:=aM b;cases G;have w:=k.own.mono s1;rcases r1 with h|⟨p,t,o,J,vs,e,e2,h,s,r⟩
  .obtain⟨p,vs,rfl,F,I⟩:=vJ.mp h;rcases F with ⟨j,_⟩|⟨_,Ca,j,rfl,rfl⟩
   .cases j
   exact⟨p,Ca,rfl,aX _ _ _ _ j,λn ps g i=>q n _ H1 s1 g<|i.Qm w⟩
  cases t<;>cases e;rcases s with ⟨m,_⟩|⟨_,Ca,rfl,rfl,rfl⟩
  .cases m
  exact⟨p,Ca,by rw[e2],h,λn ps g i=>q n _ H1 s1 g<|i.Qm w⟩
 cases b
end
section
variable {rest:List Stmt}
def zw{x:Addr}(h:PE X e (Bl X.K [] W f))(b:Bk e none pos.line X.env:=by rfl):PS X (.Expr e pos) (tM X.K H0 x W<|rF f):=fC (sy h b) (by
 rintro Dn σ H ⟨st,m,q⟩;unfold rF at q;cases a:f st with
 |ok d=>
  rw[a]at q;exact⟨[x],st,m.rs,by rw[a];exact λv H' s r=>q σ H'<|m.mono s⟩
 |exc y=>
  rw[a]at q;exact⟨[x],st,m.rs,by rw[a];exact λH' s=>q σ H'<|m.sm.trans s⟩
 |bad=>rw[a]at q;exact q.elim)
end
structure Dk(P:Program)(w:World)(K:Frag)(mg:dL)(base:Heap)(x:Str)(k np:Nat)(dv:db)(p:cr):Prop where
 ex:∃(fa:Addr)(fd:FuncData)(ps:ut)(ds:ca)(Ld:lw),Ha P w K mg base wc k fa fd ps (Xc K np p)/\mg x=some (.ref fa)/\keepIn K (.ref fa)=true/\Binds K fd ps ds/\Ka Ld ds/\∀H,bC K H dv Ld
 len:∀ds d,p ds=.ok d->ds.length=np
section
def Y1{k:Nat} (h:Dk X.prog X.w X.K X.mg X.base x k np dv p) (o:Cb j X.A) (s:k<=j) (y:PA X (e::es) (tA X.K B r)) (t:Gl X x:=by rfl) (i:dg x:=by decide)
  (he:Oe e es X.env:=by rfl) (hpl:lh pos es X.env:=by rfl):PE X (.Call (.Name x p0) (e::es) [] pos) (tI X.K B<|EN p dv r):=by
 obtain⟨fa,fd,ps,ds,Ld,F,m,l,bd,v,c⟩:=h.ex;refine cC (F2 F (o.mono s) t m l bd v zr y i he hpl) ?_
 rintro σ H Q ⟨A,st,d,a,u,q⟩;obtain⟨xs,n,b⟩:=R.ua u;exact⟨A,st,xs,a,n,λvs H1 s1 f=>⟨A++B,xs++dv,d,a.own.mono s1,f.append<|c _,h.len _ _ b,b,λw H' s' g=>q w H' (s1.trans s') g⟩⟩
end
def JC(K:Frag)(B:bv)(W:XW)(r:mh):TA:=λσ H Q=>∃A st,RS K B A H st σ/\(match r st with
 |.ok ds=>∀vs H',aR H H'->bC K (hide (A++B) H') ds vs->Q vs H'
 |.exc x=>∀H',aR H H'->W x σ H'
 |.bad=>False)
section
def bLc:PA X [] (JC X.K B W aK):=AF fJ (by
 rintro σ H Q ⟨A,st,a,q⟩;exact q [] H (aR.refl _) .nil)
def Y4(k:PE X e (Bl X.K B W f))(a:PA X es (JC X.K B W r))(j:Oe e es X.env:=by rfl):PA X (e::es) (JC X.K B W<|aC f r):=by
 refine AF (cM k a j) ?_
 rintro σ H Q ⟨A,st,g,q⟩;refine⟨A,st,g,?_⟩;unfold aC at q;cases b:f st with
 |ok d=>
  rw[b]at q;intro v H1 s1 i;refine⟨A,st,g.mono s1,?_⟩;cases a:r st with
  |ok ds=>
   rw[a]at q;exact λvs l c h=>q _ l (s1.trans c)<|.cons (i.mono<|aR.hide c) h
  |exc x=>rw[R.Dq,a]at q;exact λH' s'=>q H'<|s1.trans s'
  |bad=>rwa [a]at q
 |exc x=>rwa [b]at q
 |bad=>rwa [b]at q
end
structure Dl(K:Frag)(C:Addr):Prop where
 one:kitOne K (.ref C) (.ref C)=some true
 at_:findIn K (.ref C) "__class__"=some (some<|.builtin "object.__class__")
 get:specialIn K (.builtin "object.__class__") "__get__"=some (some<|.builtin "getset_descriptor.__get__")
 tak:takesIn K (.builtin "object.__class__")=some true
 top:mroIn K C (.type "object")=some true
section
variable {a b:Expr}
def kW(c:PE X e (tI X.K B f))(b:PE X e (tI X.K B g)):PE X e (tI X.K B<|gP f g):=by
 intro aa s σ H Q I h;obtain⟨A,st,d,a,i,q⟩:=h;rcases bJn i with h|h
 .exact c aa s σ H Q I ⟨A,st,d,a,h,q⟩
 exact b aa s σ H Q I ⟨A,st,d,a,h,q⟩
end
section
def aYv (h:Wm X.K C) (a:Dl X.K C) (g:kitOne X.K (.ref C) (.ref C')=some b):lY X (.builtin "isinstance") (λxs H Q=>∃l c fs,xs=[.ref l,.ref C']/\H l=some (.ins C c fs)/\Q (.bl b) H):=by
 intro aa s σ H xs us Q I r q;obtain⟨l,c,fs,rfl,hl,q⟩:=q;obtain⟨j,i,rfl,f,e⟩:=r.two;subst e;exact Ň I f (.ins hl h a.at_ a.get a.tak a.top) g λd=>⟨.bl b,H,I.tok d,rfl,q⟩
def eV{a:Expr} {e:String} (n:X.mg "isinstance"=none) (h:ClsAt X.K c C) (u:X.mg (ofString e)=some (.ref C')) (o:Dl X.K C) (m:kitOne X.K (.ref C) (.ref C')=some b) (t:PE X a (tP X.K B f)) (r:Gl X "isinstance":=by rfl) (G:Gl X (ofString e):=by rfl) (k:dg (ofString e):=by decide)
  (g:starEach [a,.Name (ofString e) p1] X.env=(false,eval a X.env)::starEach [.Name (ofString e) p1] X.env:=by rfl) (F:starEach [.Name (ofString e) p1] X.env=(false,eval (.Name (ofString e) p1) X.env)::starEach [] X.env:=by rfl) :
  PE X (.Call (.Name "isinstance" p0) [a,.Name (ofString e) p1] [] pos) (tI X.K B<|e1 (fG c b) f):=by
 refine cC (nU (aYv h.cl o m) r n boot_isinstance (cM t (cM (dE (v:=.ref C') G u rfl k) fJ F) g) (he:=g)) ?_
 rintro σ H Q ⟨A,st,d,j,s,q⟩;obtain⟨x,l,i⟩:=R.ua s;refine⟨A,st,x,j,l,λv H1 s1 r1=>?_⟩
 cases x<;>first|(cases i)|skip
 obtain⟨e1,D⟩:=aM i;subst e1;cases D;obtain⟨p,C',E,fs,e2,y,w,J,I⟩:=r1.ins;subst e2;have:C'=C:=by have z:=w.symm.trans h.ns;injection z with z;injection z with z;injection z
 subst this;exact⟨p,E,fs,rfl,y,q _ H1 s1<|dW.mpr rfl⟩
def HF(b:PE X e (Bl X.K B W f))(c:PE X e (Bl X.K B W g)):PE X e (Bl X.K B W<|gP f g):=by
 intro aa s σ H Q I ⟨A,st,a,q⟩;unfold gP at q;cases h:f st with
 |bad=>rw[h]at q;exact c aa s σ H Q I ⟨A,st,a,q⟩
 |ok d=>rw[h]at q;exact b aa s σ H Q I ⟨A,st,a,by rwa [h]⟩
 |exc x=>rw[h]at q;exact b aa s σ H Q I ⟨A,st,a,by rwa [h]⟩
end
section
variable{w:World}{K:Frag} {n:Str} {st:Stmt} {k:Nat}
def MA.Nn{q:Str} (D:MA K C m n q st) (_:Ct P w K mg base h) (d:ClsAt K c C) (r:∀{f:Addr}{a:FuncData},Qa K n q st .none f a->Ha P w K mg base (Ng P w) k f a ps (tm K np<|dD np j bd)) (b:zD n q st ps:=by exact {}):Bb P w K mg base c m k np [] (dD np j bd):=by
 obtain⟨f,a,M,F⟩:=D.ex;exact Bb.of d M (r F) (F.Gg b.ok) .nil λ_=>.nil
end
def Nr(K:Frag)(a:re)(f:String):Prop:=∀c∈a,∃C,ClsAt K c C/\bV K C (ofString f)
def Z1{K:Frag}{f:String}:Nr K [] f:=λ_ h=>nomatch h
def jY{K:Frag}{c f:String} (h:ClsAt K c C) (n:bV K C (ofString f)) (a:Nr K cs f):Nr K (c::cs) f:=λd b=>(qc.mp b).elim (λe=>by rw[e];exact⟨C,h,n⟩)<|a d
def Jl(P:Program)(w:World)(K:Frag)(mg:dL)(base:Heap)(m:String)(k a:Nat)(tb:v6):Prop:=∀x∈tb,ye P w K mg base x.1 m k a [] x.2
def cE{w:World}{K:Frag} {k:Nat}:Jl P w K mg base m k np []:=λ_ h=>nomatch h
def dO{w:World}{K:Frag} {k:Nat} (h:ye P w K mg base c m k np [] p) (b:Jl P w K mg base m k np tb):Jl P w K mg base m k np ((c,p)::tb):=λx a=>(qc.mp a).elim (λe=>by rwa [e])<|b x
theorem lookup_mem{a:Type}{c:String}{p:a}:∀{tb:List (String×a)},tb.lookup c=some p->(c,p)∈tb
 |(d,q)::tb,h=>by
  rw[ck]at h;split at h
  .rename_i e;cases h;rw[eq_of_beq e];exact Zb
  exact Lc _<|lookup_mem h
section
variable {a:Expr}
def Pt(h:Nr X.K cs f')(l:PE X a (tP X.K B g))(k:Ak a (ofString f') X.env:=by rfl):PE X (.Attribute a (ofString f') pos) (tI X.K B<|e1 (zZ cs f') g):=by
 intro aa s σ H Q I ⟨A,st,d,e,i,q⟩;obtain⟨x,f,b⟩:=R.ua i;cases x<;>first|(cases b)|skip
 rename_i c ns fs;obtain⟨j,o⟩:=aM b;obtain⟨C,n,m⟩:=h c j;exact cT n m l k aa s σ H Q I ⟨A,st,d,e,by show (g st).bind _=_;rwa [f],q⟩
def sW{k:Nat} (h:Jl X.prog X.w X.K X.mg X.base m k np tb) (l:Cb j X.A) (u:k<=j) (t:PE X o (tI X.K B f)) (w:PA X (e::es) (tA X.K B r))
  (y:Oe e es X.env:=by rfl) (hpl:lh pos es X.env:=by rfl)
  (i:eval (.Call (.Attribute o (ofString m) Fb) (e::es) [] pos) X.env=(do
   let b <- eval o X.env
   standAt Fb.atName
   let (f,first) <- holding [b] (getMethod b (ofString m) pl)
   callWith pos f first (backTo pos<|starEach (e::es) X.env) (backToKw pos<|keywordEach [] X.env)):=by rfl) :
  PE X (.Call (.Attribute o (ofString m) Fb) (e::es) [] pos) (tI X.K B<|fV tb m f r):=by
 intro aa s σ H Q I ⟨A,st,d,g,v,q⟩;obtain⟨x,z,a⟩:=R.ua v;cases x<;>first|(cases a)|skip
 rename_i c ns fs;have a:(match tb.lookup c with|some p=>rT c m p [] f r st|none=>.bad)=.ok d:=a
 split at a
 .rename_i p n;exact Oy (h _<|lookup_mem n) t w l u y hpl i aa s σ H Q I ⟨A,st,d,g,a,q⟩
 cases a
def qy{k:Nat} (h:Jl X.prog X.w X.K X.mg X.base m k np tb) (i:Cb j X.A) (r:k<=j) (n:PE X o (tI X.K B f))
  (g:eval (.Call (.Attribute o (ofString m) Fb) [] [] pos) X.env=(do
   let b <- eval o X.env
   standAt Fb.atName
   let (f,first) <- holding [b] (getMethod b (ofString m) pl)
   callWith pos f first (backTo pos<|starEach [] X.env) (backToKw pos<|keywordEach [] X.env)):=by rfl) :
  PE X (.Call (.Attribute o (ofString m) Fb) [] [] pos) (tI X.K B<|fV tb m f aK):=by
 intro aa s σ H Q I ⟨A,st,d,e,t,q⟩;obtain⟨x,u,a⟩:=R.ua t;cases x<;>first|(cases a)|skip
 rename_i c ns fs;have a:(match tb.lookup c with|some p=>rT c m p [] f aK st|none=>.bad)=.ok d:=a
 split at a
 .rename_i p l;exact bG6 (h _<|lookup_mem l) i r n g aa s σ H Q I ⟨A,st,d,e,a,q⟩
 cases a
def bHe{k:Nat} (h:ye X.prog X.w X.K X.mg X.base c m k np [] p) (L:Cb j X.A) (P:k<=j) (M:PE X o (tI X.K B f)) (R:PA X (e::es) (JC X.K B W r))
  (Z:Oe e es X.env:=by rfl) (hpl:lh pos es X.env:=by rfl)
  (K:eval (.Call (.Attribute o (ofString m) Fb) (e::es) [] pos) X.env=(do
   let t <- eval o X.env
   standAt Fb.atName
   let (f,first) <- holding [t] (getMethod t (ofString m) pl)
   callWith pos f first (backTo pos<|starEach (e::es) X.env) (backToKw pos<|keywordEach [] X.env)):=by rfl) :
  PE X (.Call (.Attribute o (ofString m) Fb) (e::es) [] pos) (Bl X.K B W<|Iy c m p f r):=by
 obtain⟨C,fa,fd,ps,Ld,ds,u,O,F,bd,D,E⟩:=h.ex;refine cC (mM M u.cl O F (L.mono P) bd D zr R Z hpl K) ?_
 rintro σ H Q ⟨A,st,n,q⟩;unfold Iy at q;cases i:f st with
 |exc x=>rw[i]at q;exact q.elim
 |bad=>rw[i]at q;exact q.elim
 |ok x=>
  rw[i]at q;cases x<;>first|exact q.elim|skip
  rename_i c' ns Y;have a:(match aP (c'=c/\m∉ns) _ with
   |.ok d=>∀v H',aR H H'->Ib X.K _ d v->Q v H'
   |.exc x=>∀H',aR H H'->W x σ H'
   |.bad=>False):=q
  by_cases s:c'=c/\m∉ns
  .rw[aD s]at a;clear q;obtain⟨rfl,N⟩:=s;refine⟨A,st,_,n,i,λv H1 s1 r1=>?_⟩
   obtain⟨J,C',V,fs,e2,U,T,S,h8⟩:=kY.ins<|.inl r1;have:C'=C:=by have z:=T.symm.trans u.ns;injection z with z;injection z with z;injection z
   subst this;refine⟨J,V,fs,e2,U,lookup_none S N,A,st,n.mono s1,?_⟩;cases b:r st with
   |bad=>rwa [b]at a
   |exc y=>rw[b]at a;exact λH' s'=>a H'<|s1.trans s'
   |ok xs=>
    rw[b]at a;intro vs H2 l G;have q:(match (p<|.ins c' ns Y::(xs++[])).Ve with
     |.ok d=>∀v H',aR H H'->Ib X.K _ d v->Q v H'
     |.exc x=>∀H',aR H H'->W x σ H'
     |.bad=>False):=a
    cases g:p _ with
    |bad=>rw[g]at q;exact q.elim
    |exc z=>rw[g]at q;exact q.elim
    |ok d=>
     rw[g]at q;exact⟨A++B,_,d,n.own.mono<|s1.trans l,.cons (r1.mono<|aR.hide l)<|G.append<|E _,h.len _ _ g,g,λw H' s' I=>q w H' (s1.trans<|l.trans s') I⟩
  rw[show aP _ _=.bad from Pa s]at a
  exact a.elim
def bDl{k:Nat} (h:Jl X.prog X.w X.K X.mg X.base m k np tb) (n:Cb j X.A) (u:k<=j) (t:PE X o (tI X.K B f)) (w:PA X (e::es) (JC X.K B W r))
  (y:Oe e es X.env:=by rfl) (hpl:lh pos es X.env:=by rfl)
  (l:eval (.Call (.Attribute o (ofString m) Fb) (e::es) [] pos) X.env=(do
   let g <- eval o X.env
   standAt Fb.atName
   let (f,first) <- holding [g] (getMethod g (ofString m) pl)
   callWith pos f first (backTo pos<|starEach (e::es) X.env) (backToKw pos<|keywordEach [] X.env)):=by rfl) :
  PE X (.Call (.Attribute o (ofString m) Fb) (e::es) [] pos) (Bl X.K B W<|vy tb m f r):=by
 intro aa s σ H Q I ⟨A,st,i,q⟩;unfold vy at q;cases b:f st with
 |exc x=>rw[b]at q;exact q.elim
 |bad=>rw[b]at q;exact q.elim
 |ok x=>
  rw[b]at q;cases x<;>first|exact q.elim|skip
  rename_i c ns fs;have q:(match (match tb.lookup c with|some p=>Iy c m p f r st|none=>.bad) with
   |.ok d=>∀v H',aR H H'->Ib X.K _ d v->Q v H'
   |.exc x=>∀H',aR H H'->W x σ H'
   |.bad=>False):=q
  cases a:tb.lookup c with
  |none=>rw[a]at q;exact q.elim
  |some p=>
   rw[a]at q;exact bHe (h _<|lookup_mem a) n u t w y hpl l aa s σ H Q I ⟨A,st,i,q⟩
end
section
def mZ{k:Nat} (h:Lb X.prog X.w X.K X.mg X.base c k np p) (y:Cb j X.A) (E:k+1<=j) (K:PA X (e::es) (tA X.K B r)) (G:Gl X (ofString c):=by rfl) (v:dg (ofString c):=by decide)
  (he:Oe e es X.env:=by rfl) (hpl:lh pos es X.env:=by rfl):PE X (.Call (.Name (ofString c) p0) (e::es) [] pos) (tD X.K B<|aV (ug p) r):=by
 obtain⟨C,fa,fd,ps,J,M,F,bd,D⟩:=h.ex;refine cC (G2 M (E1 F) (y.mono E) G D bd .nil zr K v he hpl) ?_
 rintro σ H Q ⟨A,st,d,s,I,q⟩;obtain⟨xs,w,o⟩:=R.ua I;refine⟨A,st,xs,s,w,λvs H1 s1 r1 x dx Zl Qu L=>?_⟩
 have g:∀b u,H1 b=some u->Tb (Tb H1 dx<|.own x) x (.ins C dx []) b=some u:=λb u z=>by
  rwa [aZ<|aU z Zl,aZ<|aU z Qu]
 have i:∀{Z:bv},Own Z H->Own Z (Tb _ x _)/\x∉Z:=λ{Z} f=>by
  have l:=f.mono s1;refine⟨λb hb=>?_,l.free Zl⟩
  obtain⟨u,z,n⟩:=uw<|l b hb
  rwa [g b u z]
 refine⟨x,vs++[],C,dx,xs,d,rfl,bO,J.ns,?_,h.len xs λz=>?_,o,λH' sm t=>⟨rfl,q _ H' (λb u z=>?_) λZ f=>t Z (i f).1 (i f).2⟩⟩
 .rw[so];refine r1.mono λb u z=>?_
  have a:=aX _ _ _ _ z;rw[bQ (by simpa using aU a Zl)]
  exact g b u a
 .have m:=R.Lg o;rw[z]at m;cases m
 have a:=s1 _ _ z;exact sm b u (by rw[bQ (by simpa using aU a Zl)];exact g b u a)
def ya(c:X.N[i]?=some x:=by rfl)(a:Ik X.env.scope x:=by exact Wo rfl)(b:dg x:=by decide)
  (d:Vo x:=by decide):PE X (.Name x pos) (tP X.K B<|aA i):=Ia<|aF c a b d
def Ab{i:Int}:PE X (.Constant (.int i) j pos) (tP X.K B<|eC<|.int i):=Ia fB
def Nd{P:ut}{a:Scope}(h:N.Nodup/\N.take P.length=P/\(∀x∈P,a.names.lookup x=some .local\/a.names.lookup x=some .cell)/\∀y∈a.names,y.2≠.free:=by decide+kernel)(k:a.kind=.function:=by rfl)(c:a.isCoroutine=false:=by rfl)(b:a.isGenerator=false:=by rfl):Dd N P a:=⟨k,c,b,h.1,h.2.1,h.2.2.1,h.2.2.2⟩
def cU{k:Nat} (h:Za X.prog X.w X.K X.mg X.base x k np p) (f:PA X (e::es) (tA X.K B r)) (b:Cb j X.A:=by assumption) (c:k<=j:=by decide) (d:Gl X x:=by rfl) (a:dg x:=by decide)
  (he:Oe e es X.env:=by rfl) (hpl:lh pos es X.env:=by rfl):PE X (.Call (.Name x p0) (e::es) [] pos) (tI X.K B<|aV p r):=bFt h b c f d a he hpl
end
end Pu
set_option maxHeartbeats 4000000
namespace Pu
open PySem PySem.Spec PyProof.Rows L2
def top(i:Nat):Stmt:=PySem.Challenge.pw_looprank_k56_joints.main.body.getD i<|.Pass ⟨0,0,0,0⟩
def Te(s:Stmt)(j:Nat):Stmt:=match s with
 |.ClassDef _ _ _ b _ _ _ _ _ _ _=>b.getD j<|.Pass ⟨0,0,0,0⟩
 |_=>.Pass ⟨0,0,0,0⟩
abbrev SJ:Stmt:=top 51
abbrev GK:Stmt:=top 52
abbrev wC:Stmt:=top 53
abbrev HK:Stmt:=top 54
abbrev wD:Stmt:=top 55
abbrev IK:Stmt:=top 56
abbrev rQ:Stmt:=top 33
abbrev qG:Stmt:=top 17
abbrev JK:Stmt:=top 15
abbrev LK:Stmt:=top 16
abbrev ZL:Stmt:=top 18
abbrev TJ:Stmt:=top 19
abbrev UJ:Stmt:=top 20
abbrev fM:Stmt:=Te (top 21) 0
abbrev dC:Stmt:=Te (top 44) 0
abbrev VJ:Stmt:=top 59
abbrev yO:Stmt:=top 60
abbrev yP:Stmt:=top 61
abbrev yQ:Stmt:=Te (top 45) 0
abbrev uO:Stmt:=Te (top 46) 0
abbrev yR:Stmt:=Te (top 47) 0
abbrev uP:Stmt:=Te (top 48) 0
abbrev WJ:Stmt:=Te (top 49) 0
abbrev gG:Stmt:=Te (top 44) 1
abbrev wF:Stmt:=top 64
abbrev MK:Stmt:=top 26
abbrev NK:Stmt:=top 27
abbrev eM:Stmt:=top 28
abbrev XJ:Stmt:=top 36
abbrev uQ:Stmt:=top 37
abbrev nL:Stmt:=top 25
abbrev yS:Stmt:=top 29
abbrev yU:Stmt:=top 30
abbrev wG:Stmt:=top 31
abbrev wH:Stmt:=top 38
abbrev qH:Stmt:=top 39
abbrev uR:Stmt:=top 40
abbrev wJ:Stmt:=top 41
abbrev qI:Stmt:=top 11
abbrev uT:Stmt:=top 34
abbrev YJ:Stmt:=top 23
abbrev lH:Stmt:=Te (top 21) 1
abbrev gH:Stmt:=Te (top 35) 0
abbrev jZ:Stmt:=top 42
abbrev yV:Stmt:=top 58
abbrev dY:Stmt:=Te (top 44) 3
abbrev ZJ:Stmt:=top 65
abbrev uU:Stmt:=top 62
abbrev rL:Stmt:=top 9
abbrev yW:Stmt:=top 10
abbrev dZ:Stmt:=Te (top 21) 3
abbrev jE:Stmt:=Te (top 21) 6
abbrev jF:Stmt:=Te (top 21) 7
abbrev iI:Stmt:=Te (top 44) 2
abbrev uV:Stmt:=top 63
abbrev cK:Stmt:=top 57
abbrev rq:Stmt:=top 66
abbrev Od(N:ut)(k:Nat)(st:Stmt):Prop:=Dd N (N.take k)<|bD st
theorem gK{w:World}{K:Frag} {st:Stmt} {f:Addr} {k:Nat} (F:Qa K x qual st dV f fd) (S:Dd N ps (bD st))
  (d:∀{b:Value}{A:Around}{a:xz}{s:Shared}{H:Hp}{E:XK}{B:bv},Cb k (A.deeper<|envOfC qual (bD st) s.heap.objs.size f b)->N.Nodup->
   Ae (Kk wc P w K mg base N qual (bD st) f b A a s H E).Ve (dI st) (tS K B bd)) (e:ps.length=np:=by rfl) (c:N.length=n:=by rfl):Ha P w K mg base wc (k+1) f fd ps (Xc K np<|dD np n bd):=bNy F S np n bd e c λ_ _ _ _ _ _ _ h=>d h S.nd
theorem â:Od ["_law_script","_law_k"] 2 SJ:=Nd
theorem ą:Od ["_law_cell_here","_law_k","_law_many","_law_number"] 3 GK:=Nd
theorem Ϥ:Od ["_law_cell_here","_law_many","_law_count","_law_row","_law_k"] 3 wC:=Nd
theorem Ć:Od ["_law_script","_law_start","_law_most","_law_count","_law_first","_law_many","_law_steps","_law_ranks","_law_k","_law_j","_law_rank"] 4 HK:=Nd
theorem ϥ:Od ["_law_cell_here","_law_steps","_law_ranks","_law_many","_law_way","_law_at","_law_twice","_law_k","_law_turned","_law_rank","_law_goal"] 3 wD:=Nd
theorem ć:Od ["_law_script","_law_cell_here","_law_count","_law_most","_law_one_here","_law_other"] 1 IK:=Nd
theorem xN:Od ["one","other"] 2 rQ:=Nd
theorem Η:Od ["thing","most"] 2 qG:=Nd
theorem Ĉ:Od ["thing"] 1 JK:=Nd
theorem ĉ:Od ["thing","limit"] 2 LK:=Nd
theorem aYw:Od ["thing","letters","rooms","room"] 3 ZL:=Nd
theorem ã:Od ["thing","row"] 1 TJ:=Nd
theorem ä:Od ["thing","rooms","rank"] 2 UJ:=Nd
theorem rY:Od ["self","steps","ranks","row"] 3 fM:=Nd
theorem cF:Od ["self","one","other"] 3 dC:=Nd
theorem GW:Od ["_law_kind","_law_one_here","_law_other"] 3 VJ:=Nd
theorem Ç:Od ["_law_kind"] 1 yO:=Nd
theorem È:Od ["_law_joint","_law_kinds_here"] 1 yP:=Nd
theorem É:Od ["self","left","right"] 3 yQ:=Nd
theorem Ϗ:Od ["self","left","right"] 3 uO:=Nd
theorem Ê:Od ["self","left","right"] 3 yR:=Nd
theorem ϐ:Od ["self","left","right"] 3 uP:=Nd
theorem å:Od ["self","left","right"] 3 WJ:=Nd
theorem Ϧ:Od ["self"] 1 gG:=Nd
theorem ϧ:Od ["_law_joint","_law_table_here","_law_told","_law_truth"] 2 wF:=Nd
theorem Ċ:Od ["bits","room"] 2 MK:=Nd
theorem ċ:Od ["bits","room"] 1 NK:=Nd
theorem aYx:Od ["sets","bits","rooms"] 1 eM:=Nd
theorem æ:Od ["wanted","p","q"] 3 XJ:=Nd
theorem ϑ:Od ["sides","wanted","found","p","q"] 2 uQ:=Nd
theorem ı:Od ["rooms","bits","room"] 1 nL:=Nd
theorem Ë:Od ["steps","allowed","rooms","seen","room","middle"] 2 yS:=Nd
theorem Ì:Od ["steps","part","rooms"] 2 yU:=Nd
theorem Ϩ:Od ["steps","allowed","seen","parts","room","part","other"] 2 wG:=Nd
theorem ϩ:Od ["sides","p","q","ranks","place","pair"] 3 wH:=Nd
theorem Θ:Od ["sides","part","places","place"] 2 qH:=Nd
theorem ϒ:Od ["sides","wanted","found","p","q","parts","part"] 2 uR:=Nd
theorem Ϫ:Od ["sides","wanted","start","words","met","turn","here","letter","goal","there"] 3 wJ:=Nd
theorem Ι:Od ["word"] 1 qI:=Nd
theorem ϓ:Od ["one","other","steps","left","right"] 2 uT:=Nd
theorem ç:Od ["steps","start","allowed","ways","met","place","here","letter","room"] 3 YJ:=Nd
theorem zQ:Od ["self","thing"] 2 lH:=Nd
theorem vO:Od ["self","one","other","left","right","steps","fronts","pair","goal"] 5 gH:=Nd
theorem ϫ:Od ["one","other","wanted","left","right","sides","places","words","place"] 5 jZ:=Nd
theorem Í:Od ["_law_machine","_law_word_here","_law_room","_law_letter","_law_seen","_law_rooms","_law_place","_law_steps","_law_ranks","_law_front","_law_turn","_law_one_here"] 2 yV:=Nd
theorem Γ:Od ["self"] 1 dY:=Nd
theorem è:Od ["_law_joint","_law_one_here","_law_other","_law_first","_law_second","_law_table_here","_law_word_here"] 6 ZJ:=Nd
theorem ϔ:Od ["_law_kind","_law_one_here","_law_other","_law_refused_here"] 3 uU:=Nd
theorem Ĳ:Od ["thing","many"] 2 rL:=Nd
theorem Î:Od ["thing","many"] 2 yW:=Nd
theorem oR:Od ["self","room","text","rooms","letter"] 3 dZ:=Nd
theorem zL:Od ["self","word","room","rooms","begun","ahead"] 3 jE:=Nd
theorem zM:Od ["self","word","room","ring","place"] 3 jF:=Nd
theorem WV:Od ["self","word"] 2 iI:=Nd
theorem ϕ:Od ["_law_joint","_law_word_here","_law_refused_here"] 2 uV:=Nd
theorem é:Od ["_law_cell_here","_law_size","_law_count","_law_k","_law_digit"] 3 cK:=Nd
theorem bLd:Od ["_law_script","_law_first","_law_second","_law_count","_law_unlike","_law_kind","_law_one_here","_law_other","_law_left","_law_right","_law_joint","_law_table_here","_law_k","_law_cell_here","_law_turn","_law_word_here","_law_due","_law_found","_law_step"] 1 rq:=Nd
section
variable{P:Program}{w:World}{K:Frag}{mg:dL}{base:Heap}{fa:Addr}{fd:FuncData}{dV:Value}
variable(cL:mg "len"=none)
def Č(F:Qa K "_law_cell" "_law_cell" SJ dV fa fd):Ha P w K mg base wc 1 fa fd ["_law_script","_law_k"] (Xc K 2 dX):=gK F â λb a=>(aL (nR (dB Qy Fy ya<|Ia<|jK cL ya) (bB<|bZ<|cR ya ya) gW)<|aL (nR (dB iB iC (Ia<|jK cL ya) Ab) (bB<|bZ<|eU (Ia<|nF Ab ya) Ab) gW)<|bB<|bZ<|eU (Ia<|cR ya<|Ia<|pG (Ia<|nF ya Ab)<|Ia<|jK cL ya)<|Ia<|nF Ab ya)
theorem ĳ(F:Qa K "_law_mix" "_law_mix" GK dV fa fd):Ha P w K mg base wc 1 fa fd ["_law_cell_here","_law_k","_law_many"] (Xc K 3 bI):=gK F ą λb a=>(aL (cI<|pG (Ia<|nF (Ia<|eU (Ia<|eU (Ia<|pG ya Ab)<|Ia<|nF Ab ya) Ab) Ab) Ab)<|aL (cI<|pG (Ia<|nF (Ia<|pG (Ia<|nF ya ya) Ab) Ab) Ab)<|bB<|bZ<|pG (Ia<|pG (Ia<|nF ya ya) Ab) ya)
variable(dH:mg "range"=none)
def Ï(F:Qa K "_law_digits" "_law_digits" wC dV fa fd):Ha P w K mg base wc 1 fa fd ["_law_cell_here","_law_many","_law_count"] (Xc K 3 mL):=gK F Ϥ λb a=>(aL (wA<|Er aG)<|aL (pJ (uH dH ya) bY<|aL (by exact Vt 3<|pG ya ya)<|by exact bB<|cI<|G6 ya ya)<|bB<|Lr [3]<|bZ aF)
variable(dM:Za P w K mg base "_law_cell" 1 2 dX)(Ja:Za P w K mg base "_law_mix" 1 3 bI)(zd:Za P w K mg base "_law_digits" 1 3 mL)
def Ĵ(F:Qa K "_law_one" "_law_one" HK dV fa fd):Ha P w K mg base wc 2 fa fd ["_law_script","_law_start","_law_most","_law_count"] (Xc K 4 tR):=gK F Ć λb a=>(aL (cI<|cU dM<|aB aF<|aB aF aG)<|aL (cI<|eU Ab<|Ia<|cU Ja<|aB aF<|aB fB<|aB aF aG)<|aL (bw (uH dH ya) (λ_ _ _ _ _=>bY)<|λ_ _ _ _ _=>fQ (uH dH ya) (λ_ _ _ _ _=>bY)<|λ_ _ _ _ _=>cU Ja<|aB (cU dM<|aB aF<|aB (eU (Ia<|eU ya Ab) ya) aG)<|aB aF<|aB aF aG)<|aL (nR (dB iB iC (Ia<|cU Ja<|aB aF<|aB fB<|aB fB aG) Ab) (bB<|bw (uH dH ya) (λ_ _ _ _ _=>bY)<|λ_ _ _ _ _=>cU zd<|aB (cU dM<|aB aF<|aB (eU (Ia<|eU ya Ab) ya) aG)<|aB aF<|aB aF aG) gW)<|aL (bw (uH dH ya) (λ_ _ _ _ _=>bY)<|λ_ _ _ _ _=>cU Ja<|aB (cU dM<|aB aF<|aB (eU (Ia<|eU ya Ab) ya) aG)<|aB fB<|aB (eU Ab<|Ia<|cU Ja<|aB aF<|aB fB<|aB fB aG) aG)<|aL (nR (dB iB iC (Ia<|cU Ja<|aB aF<|aB fB<|aB fB aG) Ab) (bB<|bw (jU aF) (λ_ _ _ _ _=>bY)<|λ_ _ _ _ _=>eU ya<|Ia<|nF (Ia<|pG (Ia<|cU dM<|aB aF<|aB aF aG)<|Ia<|bNk Ab Ab) Ab) gW)<|bB<|bZ<|uG<|aB aF<|aB aF aG)
def Ð(F:Qa K "_law_beside" "_law_beside" wD dV fa fd):Ha P w K mg base wc 2 fa fd ["_law_cell_here","_law_steps","_law_ranks"] (Xc K 3 jX):=gK F ϥ λb a=>(aL (cI<|jK cL ya)<|aL (cI<|cU Ja<|aB aF<|aB fB<|aB fB aG)<|aL (nR (dB iB iC ya Ab) (bB<|bZ<|uG<|aB aF<|aB (fQ (jU aF) (λ_ _ _ _ _=>bY)<|λ_ _ _ _ _=>eU ya Ab) aG) gW)<|aL (nR (dB iB iC ya Ab) (aL (by exact cI<|cU Ja<|aB aF<|aB fB<|aB aF aG)<|by exact bB<|bZ<|uG<|aB aF<|aB (eU (Ia<|eU (Ia<|Iw ya Zv<|xr ya)<|Ia<|uG<|aB (eU (Ia<|cR ya ya) Ab) aG)<|Ia<|Iw ya (xr<|Ia<|eU ya Ab) Zv) aG) gW)<|aL (nR (PW.pt<|bz (dB iB iC ya Ab)<|My<|dB Qy Fy ya Ab) (aL (by exact wA<|Er aG)<|by exact aL (by exact pJ (uH dH<|Ia<|nF Ab ya) bY<|bB<|Vt 6<|fQ (jU<|cR ya<|Ia<|pG ya ya) (λ_ _ _ _ _=>bY)<|λ_ _ _ _ _=>eU ya<|Ia<|nF ya<|Ia<|cU Ja<|aB aF<|aB (eU (Ia<|eU Ab<|Ia<|nF Ab ya) ya)<|aB fB aG)<|by exact bB<|Lr [6]<|bZ<|uG<|aB aF<|aB (eU ya<|Ia<|fQ (jU aF) (λ_ _ _ _ _=>bY)<|λ_ _ _ _ _=>eU ya Ab) aG) gW)<|aL (nR (dB iB iC ya Ab) (aL (by exact bw (uH dH ya) (λ_ _ _ _ _=>bY)<|λ_ _ _ _ _=>fQ (jU<|cR ya<|Ia<|bP ya Ab) (λ_ _ _ _ _=>bY)<|λ_ _ _ _ _=>pG (Ia<|eU ya Ab) ya)<|by exact bB<|bZ<|uG<|aB aF<|aB (fQ (uH dH ya) (λ_ _ _ _ _=>bY)<|λ_ _ _ _ _=>cR ya<|Ia<|bP ya Ab) aG) gW)<|bB<|bZ<|uG<|aB aF<|aB (fQ (jU aF) (λ_ _ _ _ _=>bY)<|λ_ _ _ _ _=>eU ya Ab) aG)
variable(uW:Za P w K mg base "_law_one" 2 4 tR)(rf:Za P w K mg base "_law_beside" 2 3 jX)
def ĵ(F:Qa K "_law_two" "_law_two" IK dV fa fd):Ha P w K mg base wc 3 fa fd ["_law_script"] (Xc K 1 xY):=gK F ć λb a=>(aL (cI<|cU dM<|aB aF<|aB fB aG)<|aL (cI<|eU Ab<|Ia<|cU Ja<|aB aF<|aB fB<|aB fB aG)<|aL (cI fB)<|aL (nR (dB iB iC (Ia<|cU Ja<|aB aF<|aB fB<|aB fB aG) Ab) (bB<|cI fB) gW)<|aL (cI<|cU uW<|aB aF<|aB fB<|aB aF<|aB aF aG)<|aL (cI<|cU uW<|aB aF<|aB fB<|aB aF<|aB aF aG)<|aL (nR (dB U6 J6 (Ia<|cU Ja<|aB aF<|aB fB<|aB fB aG) Ab) (bB<|cI<|cU rf<|aB (cU dM<|aB aF<|aB fB aG)<|aB (cR ya Ab)<|aB (cR ya Ab) aG) gW)<|bB<|bZ<|uG<|aB aF<|aB aF<|aB (cU Ja<|aB aF<|aB fB<|aB (jK cL<|Ia<|cR ya Ab) aG)<|aB (cU Ja<|aB aF<|aB fB<|aB (jK cL<|Ia<|cR ya Ab) aG) aG)
variable{Ra:Addr}(ia:ClsAt K "Machine" Ra)
variable(bL:bV K Ra (ofString "letters"))
variable{Ga:Addr}{Xf:ca}(yc:ExcAt K "OtherLetters" Ga Xf)
variable(fX:mg (ofString "OtherLetters")=some (.ref Ga))
def ϖ(F:Qa K "check_letters" "check_letters" rQ dV fa fd):Ha P w K mg base (Ng P w) 1 fa fd ["one","other"] (tm K 2 cD):=by
 refine vz (k:=0) (sm:=false) F xN 2 2 rJ rfl rfl λd A outer s H E B W c a=>?_
 have b:=xN.nd;exact xM<|uL<|Jw (s1:=false) (dB oM oN (Ia<|cT ia bL ya)<|Ia<|cT ia bL ya) (xM<|uL<|x_raise a yc fX rfl<|aB (pF _) aG) xw
variable(aH:mg "isinstance"=none)(dc:mg "list"=none)
def Ρ(F:Qa K "is_filled_list" "is_filled_list" qG dV fa fd):Ha P w K mg base wc 1 fa fd ["thing","most"] (Xc K 2 fL):=gK F Η λb a=>(bB<|bZ<|vM (oO ty_list aH dc ya)<|vM (mJ FO iO (Ia<|jK cL ya) Ab)<|uF<|mJ EO ZN (Ia<|jK cL ya) ya)
variable(zN:mg "int"=none)(jg:mg "bool"=none)
def Ķ(F:Qa K "is_whole" "is_whole" JK dV fa fd):Ha P w K mg base wc 1 fa fd ["thing"] (Xc K 1 lA):=gK F Ĉ λb a=>(bB<|bZ<|vM (oO ty_int aH zN ya)<|uF<|Dr<|oO ty_bool aH jg ya)
variable(nG:Za P w K mg base "is_whole" 1 1 lA)
def ķ(F:Qa K "is_below" "is_below" LK dV fa fd):Ha P w K mg base wc 2 fa fd ["thing","limit"] (Xc K 2 lB):=gK F ĉ λb a=>(bB<|bZ<|vM (cU nG<|aB aF aG)<|vM (mJ FO iO ya Ab)<|uF<|mJ Qy Fy ya ya)
variable(nJ:Za P w K mg base "is_below" 2 2 lB)(Hh:mg "all"=none)
def bDm(F:Qa K "is_row" "is_row" ZL dV fa fd):Ha P w K mg base wc 3 fa fd ["thing","letters","rooms"] (Xc K 3 LD):=gK F aYw λb a=>(bB<|bZ<|vM (mJ iB iC (Ia<|jK cL ya) ya)<|uF<|ZF Hh rfl<|Ia<|fQ (jU aF) (λ_ _ _ _ _=>bY)<|λ_ _ _ _ _=>cU nJ<|aB aF<|aB aF aG)
variable(jG:Za P w K mg base "is_filled_list" 1 2 fL)(ni:Za P w K mg base "is_row" 3 3 LD)
variable{Vf:Tok}(Nf:mg "MOST_ROOMS"=some (.int 8 Vf))
variable{We:Tok}(Pe:mg "MOST_LETTERS"=some (.int 3 We))
def č(F:Qa K "are_steps" "are_steps" TJ dV fa fd):Ha P w K mg base wc 4 fa fd ["thing"] (Xc K 1 uZ):=gK F ã λb a=>(aL (nR (pH<|fZ<|cU jG<|aB aF<|aB (F6 Nf) aG) (bB<|bZ jT) gW)<|aL (nR (pH<|fZ<|ZF Hh rfl<|Ia<|fQ (jU aF) (λ_ _ _ _ _=>bY)<|λ_ _ _ _ _=>cU jG<|aB aF<|aB (F6 Pe) aG) (bB<|bZ jT) gW)<|bB<|bZ<|ZF Hh rfl<|Ia<|fQ (jU aF) (λ_ _ _ _ _=>bY)<|λ_ _ _ _ _=>cU ni<|aB aF<|aB (jK cL<|Ia<|cR ya Ab)<|aB (jK cL ya) aG)
def Ď(F:Qa K "are_ranks" "are_ranks" UJ dV fa fd):Ha P w K mg base wc 2 fa fd ["thing","rooms"] (Xc K 2 vA):=gK F ä λb a=>(aL (nR (PW.pt<|dn (pH<|fZ<|oO ty_list aH dc ya)<|yp<|dB oM oN (Ia<|jK cL ya) ya) (bB<|bZ jT) gW)<|bB<|bZ<|ZF Hh rfl<|Ia<|fQ (jU aF) (λ_ _ _ _ _=>bY)<|λ_ _ _ _ _=>vM (cU nG<|aB aF aG)<|uF<|mJ FO iO ya Ab)
variable(vP:Za P w K mg base "are_steps" 4 1 uZ)(lg:Za P w K mg base "are_ranks" 2 2 vA)(ka:bV K Ra (ofString "steps"))(ma:bV K Ra (ofString "ranks"))(Jb:bV K Ra (ofString "many"))
variable{Hd:Addr}{Sg:ca}(jf:ExcAt K "NoMachine" Hd Sg)
variable(oU:mg (ofString "NoMachine")=some (.ref Hd))
def Δ(F:Qa K "__init__" "Machine.__init__" fM dV fa fd):Ha P w K mg base (Ng P w) 5 fa fd ["self","steps","ranks"] (jn K "Machine" 2 aY):=by
 refine uN (k:=4) F rY "Machine" 2 4 jN rfl rfl λd A outer s H E x W c a=>?_
 have b:=rY.nd;refine lG ?_ ?_
 .exact s8 (pH<|fZ<|cU vP<|aB aF aG) (qq<|O4 a jf oU rfl<|aB (pF _) aG) N7
 refine lG ?_ ?_
 .exact s8 (pH<|fZ<|cU lg<|aB aF<|aB (jK cL ya) aG) (qq<|O4 a jf oU rfl<|aB (pF _) aG) N7
 refine lG ?_ ?_
 .exact rW ia ka (bGh<|bGg 3 (.of rfl) (jU aF) (λ_ _ _ _=>g_row 3 b) (λ_ _ _ _=>bO1 3 dc) rfl)
 refine lG ?_ ?_
 .exact rW ia ma (bGi dc aF)
 refine lG ?_ ?_
 .exact rW ia Jb (O6<|jK cL ya)
 exact qq<|rW ia bL<|O6<|jK cL<|Ia<|cR ya Ab
variable(bF:pf P w K mg base "check_letters" 1 2 cD)(Ma:Lb P w K mg base "Machine" 5 2 aY)
variable{Ya:Addr}(Ed:ClsAt K "Joint" Ya)
variable(oV:bV K Ya (ofString "inner"))(Ue:bV K Ya (ofString "outer"))
def Τ(F:Qa K "__init__" "Joint.__init__" dC dV fa fd):Ha P w K mg base (Ng P w) 7 fa fd ["self","one","other"] (jn K "Joint" 2 Μ):=by
 refine uN (k:=6) F cF "Joint" 2 3 wO rfl rfl λd A outer s H E x W a b=>?_
 have c:=cF.nd;refine lG ?_ ?_
 .exact zw (yM bF b a (by decide)<|aB aF<|aB aF aG)
 refine lG ?_ ?_
 .exact rW Ed oV (mZ Ma a (by decide)<|aB (cT ia ka ya)<|aB (cT ia ma ya) aG)
 exact qq<|rW Ed Ue<|mZ Ma a (by decide)<|aB (cT ia ka ya)<|aB (cT ia ma ya) aG
variable{Na:Addr}(fc:ClsAt K "Both" Na)
variable(mR:bV K Na (ofString "inner"))(me:bV K Na (ofString "outer"))
def ϗ(F:Qa K "__init__" "Joint.__init__" dC dV fa fd):Ha P w K mg base (Ng P w) 7 fa fd ["self","one","other"] (jn K "Both" 2 rK):=by
 refine uN (k:=6) F cF "Both" 2 3 zF rfl rfl λd A outer s H E x W a b=>?_
 have c:=cF.nd;refine lG ?_ ?_
 .exact zw (yM bF b a (by decide)<|aB aF<|aB aF aG)
 refine lG ?_ ?_
 .exact rW fc mR (mZ Ma a (by decide)<|aB (cT ia ka ya)<|aB (cT ia ma ya) aG)
 exact qq<|rW fc me<|mZ Ma a (by decide)<|aB (cT ia ka ya)<|aB (cT ia ma ya) aG
variable{Aa:Addr}(pb:ClsAt K "Either" Aa)
variable(jV:bV K Aa (ofString "inner"))(Fd:bV K Aa (ofString "outer"))
def Κ(F:Qa K "__init__" "Joint.__init__" dC dV fa fd):Ha P w K mg base (Ng P w) 7 fa fd ["self","one","other"] (jn K "Either" 2 nY):=by
 refine uN (k:=6) F cF "Either" 2 3 vB rfl rfl λd A outer s H E x W a b=>?_
 have c:=cF.nd;refine lG ?_ ?_
 .exact zw (yM bF b a (by decide)<|aB aF<|aB aF aG)
 refine lG ?_ ?_
 .exact rW pb jV (mZ Ma a (by decide)<|aB (cT ia ka ya)<|aB (cT ia ma ya) aG)
 exact qq<|rW pb Fd<|mZ Ma a (by decide)<|aB (cT ia ka ya)<|aB (cT ia ma ya) aG
variable{Oa:Addr}(gc:ClsAt K "Less" Oa)
variable(mU:bV K Oa (ofString "inner"))(pe:bV K Oa (ofString "outer"))
def Ϙ(F:Qa K "__init__" "Joint.__init__" dC dV fa fd):Ha P w K mg base (Ng P w) 7 fa fd ["self","one","other"] (jn K "Less" 2 rM):=by
 refine uN (k:=6) F cF "Less" 2 3 zG rfl rfl λd A outer s H E x W a b=>?_
 have c:=cF.nd;refine lG ?_ ?_
 .exact zw (yM bF b a (by decide)<|aB aF<|aB aF aG)
 refine lG ?_ ?_
 .exact rW gc mU (mZ Ma a (by decide)<|aB (cT ia ka ya)<|aB (cT ia ma ya) aG)
 exact qq<|rW gc pe<|mZ Ma a (by decide)<|aB (cT ia ka ya)<|aB (cT ia ma ya) aG
variable{Ba:Addr}(qb:ClsAt K "Unlike" Ba)
variable(jW:bV K Ba (ofString "inner"))(Gd:bV K Ba (ofString "outer"))
def Λ(F:Qa K "__init__" "Joint.__init__" dC dV fa fd):Ha P w K mg base (Ng P w) 7 fa fd ["self","one","other"] (jn K "Unlike" 2 nZ):=by
 refine uN (k:=6) F cF "Unlike" 2 3 vC rfl rfl λd A outer s H E x W a b=>?_
 have c:=cF.nd;refine lG ?_ ?_
 .exact zw (yM bF b a (by decide)<|aB aF<|aB aF aG)
 refine lG ?_ ?_
 .exact rW qb jW (mZ Ma a (by decide)<|aB (cT ia ka ya)<|aB (cT ia ma ya) aG)
 exact qq<|rW qb Gd<|mZ Ma a (by decide)<|aB (cT ia ka ya)<|aB (cT ia ma ya) aG
variable{yb:Addr}(md:ClsAt K "Nor" yb)
variable(oW:bV K yb (ofString "inner"))(Ie:bV K yb (ofString "outer"))
def Ϭ(F:Qa K "__init__" "Joint.__init__" dC dV fa fd):Ha P w K mg base (Ng P w) 7 fa fd ["self","one","other"] (jn K "Nor" 2 tU):=by
 refine uN (k:=6) F cF "Nor" 2 3 CV rfl rfl λd A outer s H E x W a b=>?_
 have c:=cF.nd;refine lG ?_ ?_
 .exact zw (yM bF b a (by decide)<|aB aF<|aB aF aG)
 refine lG ?_ ?_
 .exact rW md oW (mZ Ma a (by decide)<|aB (cT ia ka ya)<|aB (cT ia ma ya) aG)
 exact qq<|rW md Ie<|mZ Ma a (by decide)<|aB (cT ia ka ya)<|aB (cT ia ma ya) aG
variable(kN:Lb P w K mg base "Both" 7 2 rK)(yi:Lb P w K mg base "Either" 7 2 nY)(il:Lb P w K mg base "Less" 7 2 rM)(zi:Lb P w K mg base "Unlike" 7 2 nZ)(Po:Lb P w K mg base "Nor" 7 2 tU)
def ď(F:Qa K "_law_made" "_law_made" VJ dV fa fd):Ha P w K mg base (Ng P w) 9 fa fd ["_law_kind","_law_one_here","_law_other"] (tm K 3 jJ):=by
 refine vz (k:=8) (sm:=false) F GW 3 3 KW rfl rfl λd A outer s H E B W a b=>?_
 have c:=GW.nd;refine uM (s1:=false) (s2:=false) ?_ ?_
 .exact uL (Jw (s1:=false) (dB iB iC ya Ab) (xM<|uL<|yw<|Ey kN b a (by decide)<|aB aF<|aB aF aG) xw)
 refine uM (s1:=false) (s2:=false) ?_ ?_
 .exact uL (Jw (s1:=false) (dB iB iC ya Ab) (xM<|uL<|yw<|Ey yi b a (by decide)<|aB aF<|aB aF aG) xw)
 refine uM (s1:=false) (s2:=false) ?_ ?_
 .exact uL (Jw (s1:=false) (dB iB iC ya Ab) (xM<|uL<|yw<|Ey il b a (by decide)<|aB aF<|aB aF aG) xw)
 refine uM (s1:=false) (s2:=false) ?_ ?_
 .exact uL (Jw (s1:=false) (dB iB iC ya Ab) (xM<|uL<|yw<|Ey zi b a (by decide)<|aB aF<|aB aF aG) xw)
 exact xM<|uL<|yw<|Ey Po b a (by decide)<|aB aF<|aB aF aG
theorem ê(F:Qa K "_law_table" "_law_table" yO dV fa fd):Ha P w K mg base wc 1 fa fd ["_law_kind"] (Xc K 1 oA):=by
 refine gK F Ç λb a=>?_
 refine bB ?_
 refine bZ ?_
 refine cR ?_ ?_
 .refine Ia ?_
  refine uG ?_
  iterate 5 (refine aB ?_ ?_;rotate_left)
  exact aG
  all_goals (exact pI<|aB jT<|aB jT<|aB jT<|aB jT aG)
 .exact ya
variable(qU:mg (ofString "Both")=some (.ref Na))(gd:mg (ofString "Either")=some (.ref Aa))(De:mg (ofString "Less")=some (.ref Oa))(Of:mg (ofString "Nor")=some (.ref yb))(jd:mg (ofString "Unlike")=some (.ref Ba))(kk_Nor_Unlike:kitOne K (.ref yb) (.ref Ba)=some false)(kk_Unlike_Unlike:kitOne K (.ref Ba) (.ref Ba)=some true)(kk_Less_Unlike:kitOne K (.ref Oa) (.ref Ba)=some false)(kk_Either_Unlike:kitOne K (.ref Aa) (.ref Ba)=some false)(kk_Both_Unlike:kitOne K (.ref Na) (.ref Ba)=some false)(kk_Nor_Less:kitOne K (.ref yb) (.ref Oa)=some false)(kk_Unlike_Less:kitOne K (.ref Ba) (.ref Oa)=some false)(kk_Less_Less:kitOne K (.ref Oa) (.ref Oa)=some true)(kk_Either_Less:kitOne K (.ref Aa) (.ref Oa)=some false)(kk_Both_Less:kitOne K (.ref Na) (.ref Oa)=some false)(kk_Nor_Either:kitOne K (.ref yb) (.ref Aa)=some false)(kk_Unlike_Either:kitOne K (.ref Ba) (.ref Aa)=some false)(kk_Less_Either:kitOne K (.ref Oa) (.ref Aa)=some false)(kk_Either_Either:kitOne K (.ref Aa) (.ref Aa)=some true)(kk_Both_Either:kitOne K (.ref Na) (.ref Aa)=some false)(kk_Nor_Both:kitOne K (.ref yb) (.ref Na)=some false)(kk_Unlike_Both:kitOne K (.ref Ba) (.ref Na)=some false)(kk_Less_Both:kitOne K (.ref Oa) (.ref Na)=some false)(kk_Either_Both:kitOne K (.ref Aa) (.ref Na)=some false)(kk_Both_Both:kitOne K (.ref Na) (.ref Na)=some true)(kk_Nor_Nor:kitOne K (.ref yb) (.ref yb)=some true)(kk_Unlike_Nor:kitOne K (.ref Ba) (.ref yb)=some false)(kk_Less_Nor:kitOne K (.ref Oa) (.ref yb)=some false)(kk_Either_Nor:kitOne K (.ref Aa) (.ref yb)=some false)(kk_Both_Nor:kitOne K (.ref Na) (.ref yb)=some false)(Qc:Dl K Ba)(xf:Dl K yb)(je:Dl K Oa)(Pc:Dl K Aa)(ie:Dl K Na)
def ë(F:Qa K "_law_kinds" "_law_kinds" yP dV fa fd):Ha P w K mg base wc 1 fa fd ["_law_joint"] (Xc K 1 sH):=gK F È λb a=>(aL (cI<|uG<|aB (kW (eV aH fc qU ie kk_Both_Both ya)<|kW (eV aH pb qU Pc kk_Either_Both ya)<|kW (eV aH gc qU je kk_Less_Both ya)<|kW (eV aH qb qU Qc kk_Unlike_Both ya)<|eV aH md qU xf kk_Nor_Both ya)<|aB (kW (eV aH fc gd ie kk_Both_Either ya)<|kW (eV aH pb gd Pc kk_Either_Either ya)<|kW (eV aH gc gd je kk_Less_Either ya)<|kW (eV aH qb gd Qc kk_Unlike_Either ya)<|eV aH md gd xf kk_Nor_Either ya)<|aB (kW (eV aH fc De ie kk_Both_Less ya)<|kW (eV aH pb De Pc kk_Either_Less ya)<|kW (eV aH gc De je kk_Less_Less ya)<|kW (eV aH qb De Qc kk_Unlike_Less ya)<|eV aH md De xf kk_Nor_Less ya)<|aB (kW (eV aH fc jd ie kk_Both_Unlike ya)<|kW (eV aH pb jd Pc kk_Either_Unlike ya)<|kW (eV aH gc jd je kk_Less_Unlike ya)<|kW (eV aH qb jd Qc kk_Unlike_Unlike ya)<|eV aH md jd xf kk_Nor_Unlike ya) aG)<|bB<|bZ<|eU ya<|Ia<|uG<|aB (kW (eV aH fc Of ie kk_Both_Nor ya)<|kW (eV aH pb Of Pc kk_Either_Nor ya)<|kW (eV aH gc Of je kk_Less_Nor ya)<|kW (eV aH qb Of Qc kk_Unlike_Nor ya)<|eV aH md Of xf kk_Nor_Nor ya) aG)
theorem ì(F:Qa K "truth" "Both.truth" yQ dV fa fd):Ha P w K mg base wc 1 fa fd ["self","left","right"] (Xc K 3 ZV):=gK F É λb a=>(bB<|bZ<|vM aF<|uF aF)
theorem ϭ(F:Qa K "truth" "Either.truth" uO dV fa fd):Ha P w K mg base wc 1 fa fd ["self","left","right"] (Xc K 3 DV):=gK F Ϗ λb a=>(bB<|bZ<|j8 aF<|G7 aF)
theorem í(F:Qa K "truth" "Less.truth" yR dV fa fd):Ha P w K mg base wc 1 fa fd ["self","left","right"] (Xc K 3 AW):=gK F Ê λb a=>(bB<|bZ<|vM aF<|uF<|Dr aF)
theorem Ϯ(F:Qa K "truth" "Unlike.truth" uP dV fa fd):Ha P w K mg base wc 1 fa fd ["self","left","right"] (Xc K 3 EV):=gK F ϐ λb a=>(bB<|bZ<|mJ oM oN ya ya)
theorem Đ(F:Qa K "truth" "Nor.truth" WJ dV fa fd):Ha P w K mg base wc 1 fa fd ["self","left","right"] (Xc K 3 LW):=gK F å λb a=>(bB<|bZ<|vM (Dr aF)<|uF<|Dr aF)
variable(dG:Jl P w K mg base "truth" 1 3 fH)
def kE(F:Qa K "leads" "Joint.leads" gG dV fa fd):Ha P w K mg base wc 2 fa fd ["self"] (Xc K 1 gC):=gK F Ϧ λa b=>(bB<|bZ<|pI<|aB (sW (pl:=_) dG a (by decide) aF<|aB jT<|aB jT aG)<|aB (sW (pl:=_) dG a (by decide) aF<|aB jT<|aB jT aG)<|aB (sW (pl:=_) dG a (by decide) aF<|aB jT<|aB jT aG)<|aB (sW (pl:=_) dG a (by decide) aF<|aB jT<|aB jT aG) aG)
variable(jH:Jl P w K mg base "leads" 2 1 tV)(yg:mg "tuple"=none)
def Ñ(F:Qa K "_law_truths" "_law_truths" wF dV fa fd):Ha P w K mg base wc 3 fa fd ["_law_joint","_law_table_here"] (Xc K 2 qL):=gK F ϧ λa b=>(aL (cI<|uG<|aB (sW (pl:=_) dG a (by decide) aF<|aB jT<|aB jT aG)<|aB (sW (pl:=_) dG a (by decide) aF<|aB jT<|aB jT aG)<|aB (sW (pl:=_) dG a (by decide) aF<|aB jT<|aB jT aG)<|aB (sW (pl:=_) dG a (by decide) aF<|aB jT<|aB jT aG) aG)<|aL (nR (PW.pt<|dn (dB oM oN (Ia<|YD (jU aF) (λ_ _ _ _ _=>bY) (λ_ _ _ _ _=>pH<|fZ<|oO ty_bool aH jg ya)<|λ_ _ _ _ _=>aF)<|Ia<|uG aG)<|yp<|dB oM oN (Ia<|bGj yg aF) ya) (bB<|bZ jT) gW)<|bB<|bZ<|vM (mJ iB iC (Ia<|qy (pl:=_) jH a (by decide) aF) ya)<|uF<|oO ty_tuple aH yg<|Ia<|qy (pl:=_) jH a (by decide) aF)
theorem ĸ(F:Qa K "has_room" "has_room" MK dV fa fd):Ha P w K mg base wc 1 fa fd ["bits","room"] (Xc K 2 pQ):=gK F Ċ λb a=>(bB<|bZ<|mJ iB iC (Ia<|Q6 (Ia<|bO3 ya ya) Ab) Ab)
variable(iM:Za P w K mg base "has_room" 1 2 pQ)
def Ĺ(F:Qa K "rooms_of" "rooms_of" NK dV fa fd):Ha P w K mg base wc 2 fa fd ["bits"] (Xc K 1 jO):=gK F ċ λb a=>(bB<|bZ<|YD (uH dH<|Ia<|bKw ya) (λ_ _ _ _ _=>bY) (λ_ _ _ _ _=>fZ<|cU iM<|aB aF<|aB aF aG)<|λ_ _ _ _ _=>aF)
theorem bDn(F:Qa K "joined" "joined" eM dV fa fd):Ha P w K mg base wc 1 fa fd ["sets"] (Xc K 1 MD):=gK F aYx λb a=>(aL (cI fB)<|aL (pJ (jU aF) bY<|bB<|cI<|AG ya ya)<|bB<|bZ aF)
theorem đ(F:Qa K "is_wanted" "is_wanted" XJ dV fa fd):Ha P w K mg base wc 1 fa fd ["wanted","p","q"] (Xc K 3 nP):=gK F æ λb a=>(bB<|bZ<|cR ya<|Ia<|eU (Ia<|nF (Ia<|pG ya Ab) Ab)<|Ia<|pG ya Ab)
variable(lJ:Za P w K mg base "is_wanted" 1 3 nP)
variable{Ob:Addr}(Sa:ClsAt K "Sides" Ob)
variable(cB:bV K Ob (ofString "lefts"))(Wa:bV K Ob (ofString "rights"))(Cf:mg "sorted"=none)(Ml:mg "set"=none)
def ϯ(F:Qa K "wanted_ranks" "wanted_ranks" uQ dV fa fd):Ha P w K mg base wc 2 fa fd ["sides","wanted"] (Xc K 2 oE):=gK F ϑ λb a=>(aL (wA<|Er aG)<|aL (pJ (jU<|V1 Cf Ml rfl<|Ia<|cT Sa cB ya) bY<|bB<|iP 2<|X1 (jU<|V1 Cf Ml rfl<|Ia<|cT Sa Wa ya) (λ_ _ _ _ _=>bY) (λ_ _ _ _ _=>fZ<|cU lJ<|aB aF<|aB aF<|aB aF aG)<|λ_ _ _ _ _=>pI<|aB aF<|aB aF aG)<|bB<|Lr [2]<|bZ aF)
theorem aYy(F:Qa K "bits_of" "bits_of" nL dV fa fd):Ha P w K mg base wc 1 fa fd ["rooms"] (Xc K 1 pU):=gK F ı λb a=>(aL (cI fB)<|aL (pJ (jU aF) bY<|bB<|cI<|AG ya<|Ia<|O7 Ab ya)<|bB<|bZ aF)
variable(dU:Za P w K mg base "rooms_of" 2 1 jO)(Td:Za P w K mg base "bits_of" 1 1 pU)
def î(F:Qa K "seen_among" "seen_among" yS dV fa fd):Ha P w K mg base wc 3 fa fd ["steps","allowed"] (Xc K 2 sI):=gK F Ë λa b=>(aL (cI<|cU dU<|aB aF aG)<|aL t4<|aL (pJ (jU aF) bY<|bB<|Mt a.units 3 aF<|Q6 (Ia<|AG (Ia<|cU Td<|aB (cR ya ya) aG)<|Ia<|O7 Ab ya) ya)<|aL (pJ (jU aF) bY<|bB<|pJ (jU aF) bY<|bB<|nR (fZ<|cU iM<|aB (cR eE ya)<|aB aF aG) (bB<|Mt a.units 3 aF<|AG (Ia<|cR eE ya)<|Ia<|cR eE ya) gW)<|bB<|Lr [3]<|bZ aF)
def ï(F:Qa K "goes_round" "goes_round" yU dV fa fd):Ha P w K mg base wc 3 fa fd ["steps","part"] (Xc K 2 sJ):=gK F Ì λb a=>(aL (cI<|cU dU<|aB aF aG)<|bB<|bZ<|j8 (mJ U6 J6 (Ia<|jK cL ya) Ab)<|G7<|mJ L6 M6 (Ia<|cR ya Ab)<|Ia<|cR ya<|Ia<|cR ya Ab)
variable(sX:Za P w K mg base "seen_among" 3 2 sI)(Pf:Za P w K mg base "goes_round" 3 2 sJ)
def Ò(F:Qa K "parts_among" "parts_among" wG dV fa fd):Ha P w K mg base wc 4 fa fd ["steps","allowed"] (Xc K 2 qM):=gK F Ϩ λb a=>(aL (cI<|cU sX<|aB aF<|aB aF aG)<|aL (wA<|Er aG)<|aL (pJ (jU<|cU dU<|aB aF aG) bY<|aL (by exact cI<|cU Td<|aB (YD (jU<|cU dU<|aB (cR ya ya) aG) (λ_ _ _ _ _=>bY) (λ_ _ _ _ _=>fZ<|cU iM<|aB (cR ya ya)<|aB aF aG)<|λ_ _ _ _ _=>aF) aG)<|by exact bB<|nR (PW.pt<|bz (dB xJ xK ya eE)<|My<|fZ<|cU Pf<|aB aF<|aB aF aG) (bB<|Vt 3 aF) gW)<|bB<|Lr [3]<|bZ aF)
variable(xO:mg "zip"=none)(kg:mg "enumerate"=none)
def Ó(F:Qa K "kept_places" "kept_places" wH dV fa fd):Ha P w K mg base wc 2 fa fd ["sides","p","q"] (Xc K 3 qN):=gK F ϩ λb a=>(aL (cI<|T4 dc xO rfl (cT Sa cB ya)<|cT Sa Wa ya)<|bB<|bZ<|cU Td<|aB (YD (bGf kg aF) (λ_ _ _ _ _=>Rt rfl<|iU<|iU Kt) (λ_ _ _ _ _=>PW.pt<|bz (dB EO ZN (Ia<|cR ya Ab) ya)<|My<|dB EO ZN (Ia<|cR ya Ab) ya) (λ_ _ _ _ _=>aF) (hsub:=bNq)) aG)
variable(pK:mg "max"=none)
def Υ(F:Qa K "greatest_ranks" "greatest_ranks" qH dV fa fd):Ha P w K mg base wc 3 fa fd ["sides","part"] (Xc K 2 lM):=gK F Θ λb a=>(aL (cI<|cU dU<|aB aF aG)<|bB<|bZ<|pI<|aB (kG pK rfl<|Ia<|fQ (jU aF) (λ_ _ _ _ _=>bY)<|λ_ _ _ _ _=>cR (Ia<|cT Sa cB ya) ya)<|aB (kG pK rfl<|Ia<|fQ (jU aF) (λ_ _ _ _ _=>bY)<|λ_ _ _ _ _=>cR (Ia<|cT Sa Wa ya) ya) aG)
variable(oX:Za P w K mg base "wanted_ranks" 2 2 oE)(uf:Za P w K mg base "parts_among" 4 2 qM)(tf:Za P w K mg base "kept_places" 2 3 qN)(Ud:Za P w K mg base "greatest_ranks" 3 2 lM)(Yb:bV K Ob (ofString "steps"))
def ϰ(F:Qa K "wanted_parts" "wanted_parts" uR dV fa fd):Ha P w K mg base wc 5 fa fd ["sides","wanted"] (Xc K 2 oF):=gK F ϒ λb a=>(aL (wA<|Er aG)<|aL (pJ (jU<|cU oX<|aB aF<|aB aF aG) (Rt rfl<|iU<|iU Kt)<|aL (by exact cI<|cU uf<|aB (cT Sa Yb ya)<|aB (cU tf<|aB aF<|aB aF<|aB aF aG) aG)<|by exact bB<|iP 2<|X1 (jU aF) (λ_ _ _ _ _=>bY) (λ_ _ _ _ _=>dB iB iC (Ia<|cU Ud<|aB aF<|aB aF aG)<|Ia<|pI<|aB aF<|aB aF aG)<|λ_ _ _ _ _=>aF)<|bB<|Lr [2]<|bZ aF)
variable{Eh:Tok}(Zc:mg "LETTERS"=some (.str "abc" Eh))
def Ô(F:Qa K "first_round" "first_round" wJ dV fa fd):Ha P w K mg base wc 2 fa fd ["sides","wanted","start"] (Xc K 3 qO):=gK F Ϫ λa b=>(aL (K1 a.units 3 (pI<|aB aF<|aB (Ut Ab)<|aB (Ut Ab) aG) (pF []) b)<|aL (wA<|bHd dc rfl eE)<|aL (cI fB)<|aL (NE (dB Qy Fy ya<|Ia<|jK cL eE)<|aL (by exact cI<|cR eE ya)<|by exact aL (by exact pJ (P6 xO (BF [97,98,99] Zc)<|cR (Ia<|cT Sa Yb ya)<|Ia<|cR ya Ab) (Rt rfl<|iU<|iU Kt)<|aL (by exact cI<|pI<|aB aF<|aB (BO pK rfl (Ia<|cR ya Ab)<|Ia<|cR (Ia<|cT Sa cB ya) ya)<|aB (BO pK rfl (Ia<|cR ya Ab)<|Ia<|cR (Ia<|cT Sa Wa ya) ya) aG)<|by exact aL (by exact nR (PW.pt<|bz (dB iB iC ya ya)<|My<|fZ<|cU lJ<|aB aF<|aB (cR ya Ab)<|aB (cR ya Ab) aG) (bB<|bZ<|eU (Ia<|cR eE ya) ya) gW)<|by exact bB<|nR (dB xJ xK ya eE) (aL (by exact Mt a.units 3 aF<|eU (Ia<|cR eE ya) ya)<|by exact bB<|Vt 4 aF) gW)<|by exact bB<|cI<|eU ya Ab)<|bB<|bZ ZO)
def Φ(F:Qa K "place_in_order" "place_in_order" qI dV fa fd):Ha P w K mg base wc 1 fa fd ["word"] (Xc K 1 cY):=gK F Ι λb a=>(bB<|bZ<|pI<|aB (eU (Ia<|jK cL<|Ia<|cR ya Ab)<|Ia<|jK cL<|Ia<|cR ya Ab)<|aB (jK cL<|Ia<|cR ya Ab)<|aB (cR ya Ab)<|aB (cR ya Ab) aG)
def ϱ(F:Qa K "paired_steps" "paired_steps" uT dV fa fd):Ha P w K mg base wc 1 fa fd ["one","other"] (Xc K 2 oG):=gK F ϓ λb a=>(aL (u4 2 a)<|aL (pJ (uH dH<|Ia<|cT ia Jb ya) bY<|bB<|pJ (uH dH<|Ia<|cT ia Jb ya) bY<|bB<|Mt b.units 2 (pI<|aB aF<|aB aF aG)<|T4 dc xO rfl (cR (Ia<|cT ia ka ya) ya)<|cR (Ia<|cT ia ka ya) ya)<|bB<|Lr [2]<|bZ aF)
def Ē(F:Qa K "ways_from" "ways_from" YJ dV fa fd):Ha P w K mg base wc 1 fa fd ["steps","start","allowed"] (Xc K 3 vD):=gK F ç λa b=>(aL (K1 a.units 3 aF (pF []) b)<|aL (wA<|Er<|aB aF aG)<|aL (cI fB)<|aL (NE (dB Qy Fy ya<|Ia<|jK cL eE)<|aL (by exact cI<|cR eE ya)<|by exact aL (by exact pJ (P6 xO (BF [97,98,99] Zc)<|cR ya ya) (Rt rfl<|iU<|iU Kt)<|bB<|nR (PW.pt<|bz (dB L6 M6 ya ya)<|My<|dB xJ xK ya eE) (aL (by exact Mt a.units 3 aF<|eU (Ia<|cR eE ya) ya)<|by exact bB<|Vt 4 aF) gW)<|by exact bB<|cI<|eU ya Ab)<|bB<|Lr [3]<|bZ aF)
def χ(F:Qa K "check_room" "Machine.check_room" lH dV fa fd):Ha P w K mg base wc 3 fa fd ["self","thing"] (Xc K 2 bW):=gK F zQ λb a=>(bB<|nR (pH<|fZ<|cU nJ<|aB aF<|aB (cT ia Jb ya) aG) (bB bG8) gW)
variable(oY:Za P w K mg base "paired_steps" 1 2 oG)(ng:Za P w K mg base "ways_from" 1 3 vD)(ib:ye P w K mg base "Machine" "check_room" 3 2 [] bW)(Sb:bV K Ob (ofString "pairs"))(Oc:bV K Ob (ofString "fronts"))
def Χ(F:zt K "__init__" "Sides.__init__" gH fa fd):Ha P w K mg base wc 4 fa fd ["self","one","other","left","right"] (FC K "Sides" 4 lN):=by
 refine bG7 (k:=3) F vO "Sides" 4 9 iV rfl rfl λc A outer s H E B a=>?_
 have b:=vO.nd;exact aL (VF<|cU (pf.calm bF)<|aB aF<|aB aF aG)<|aL (VF<|Oy (pl:=_) ib aF<|aB aF aG)<|aL (VF<|Oy (pl:=_) ib aF<|aB aF aG)<|aL (cI<|cU oY<|aB aF<|aB aF aG)<|aL (cI<|cU ng<|aB aF<|aB (pI<|aB aF<|aB aF aG)<|aB (bGo dc rfl aF) aG)<|aL (Py 0 Sa Sb<|bKx (bL0 Cf rfl aF) bDk)<|aL (Py 0 Sa Oc<|fQ (jU<|cT Sa Sb eE) (λ_ _ _ _ _=>bY)<|λ_ _ _ _ _=>cR ya ya)<|aL (Py 0 Sa Yb<|fQ (jU<|cT Sa Sb eE) (λ_ _ _ _ _=>bY)<|λ_ _ _ _ _=>fQ (jU<|cR ya ya) (λ_ _ _ _ _=>bY)<|λ_ _ _ _ _=>ŷ a.units (Ia<|cT Sa Sb eE)<|aB aF aG)<|aL (Py 0 Sa cB<|fQ (jU<|cT Sa Sb eE) (λ_ _ _ _ _=>bY)<|λ_ _ _ _ _=>cR (Ia<|cT ia ma ya)<|Ia<|cR ya Ab)<|bB<|Py 0 Sa Wa<|fQ (jU<|cT Sa Sb eE) (λ_ _ _ _ _=>bY)<|λ_ _ _ _ _=>cR (Ia<|cT ia ma ya)<|Ia<|cR ya Ab
variable(PK:Za P w K mg base "joined" 1 1 MD)(Se:Za P w K mg base "wanted_parts" 5 2 oF)(sf:Za P w K mg base "first_round" 2 3 qO)(Vd:Za P w K mg base "place_in_order" 1 1 cY)(pj:nh P w K mg base "Sides" 4 4 lN)(Wi:mg "min"=none)
def Õ(F:Qa K "wanted_word" "wanted_word" jZ dV fa fd):Ha P w K mg base wc 6 fa fd ["one","other","wanted","left","right"] (Xc K 5 gD):=gK F ϫ λa b=>(aL (cI<|FF pj a (by decide)<|aB aF<|aB aF<|aB aF<|aB aF aG)<|aL (cI<|cU dU<|aB (cU PK<|aB (cU Se<|aB aF<|aB aF aG) aG) aG)<|aL (bw (jU aF) (λ_ _ _ _ _=>bY)<|λ_ _ _ _ _=>pI<|aB (cR (Ia<|cT Sa Oc ya) ya)<|aB (cU sf<|aB aF<|aB aF<|aB aF aG) aG)<|bB<|bZ<|bLb Vd a (by decide) rfl a.units Wi aF)
def ð(F:Qa K "_law_plain" "_law_plain" yV dV fa fd):Ha P w K mg base wc 1 fa fd ["_law_machine","_law_word_here"] (Xc K 2 jP):=gK F Í λb a=>(aL (dP aF<|Rt rfl<|iU<|iU Kt)<|aL (dP aF<|Rt rfl<|iU<|iU Kt)<|aL (cI fB)<|aL (pJ (jU aF) bY<|bB<|cI<|cR (Ia<|cR ya ya)<|Ia<|o4 (Ia<|pF [97,98,99])<|aB aF aG)<|aL (u4 4 a)<|aL (wA<|Er aG)<|aL (cI fB)<|aL (NE (dB xJ xK (Ia<|pI<|aB aF<|aB aF aG) eE)<|aL (by exact Mt b.units 4 (pI<|aB aF<|aB aF aG)<|jK cL eE)<|by exact aL (by exact Vt 5 aF)<|by exact aL (by exact cI<|cR (Ia<|cR ya ya)<|Ia<|o4 (Ia<|pF [97,98,99])<|aB (cR ya ya) aG)<|by exact bB<|cI<|pG (Ia<|eU ya Ab)<|Ia<|jK cL ya)<|bB<|bZ<|mJ iB iC (Ia<|pG (Ia<|kG pK rfl<|Ia<|fQ (jU<|Iw eE (xr<|Ia<|cR eE<|Ia<|pI<|aB aF<|aB aF aG) Zv) (λ_ _ _ _ _=>bY)<|λ_ _ _ _ _=>cR ya ya) Ab) Ab)
variable(eY:Za P w K mg base "wanted_word" 6 5 gD)(Va:Dk P w K mg base "wanted_word" 6 5 [.int 0,.int 0] gD)(zb:Nr K nW "outer")(Eb:Nr K tQ "inner")
include jH eY Va zb Eb in
theorem fU(F:Qa K "some_word" "Joint.some_word" dY dV fa fd):Ha P w K mg base wc 7 fa fd ["self"] (Xc K 1 eZ):=gK F Γ λa b=>(bB<|bZ<|Y1 Va a (by decide)<|aB (Pt Eb ya)<|aB (Pt zb ya)<|aB (qy (pl:=_) jH a (by decide) aF) aG)
variable(gB:Za P w K mg base "_law_plain" 1 2 jP)(Kd:Jl P w K mg base "some_word" 7 1 lO)
include zN eY Va gB Kd in
theorem ē(F:Qa K "_law_some" "_law_some" ZJ dV fa fd):Ha P w K mg base wc 8 fa fd ["_law_joint","_law_one_here","_law_other","_law_first","_law_second","_law_table_here"] (Xc K 6 vG):=gK F è λa b=>(aL (cI<|qy (pl:=_) Kd a (by decide) aF)<|aL (nR (PW.pt<|dn (dB oM oN ya<|Ia<|Y1 Va a (by decide)<|aB aF<|aB aF<|aB aF aG)<|yp<|dB oM oN (Ia<|qy (pl:=_) Kd a (by decide) aF) ya) (bB<|bZ jT) gW)<|aL (nR (dB bKl bKm ya<|Ia ZO) (bB<|bZ jT) gW)<|bB<|bZ<|cR ya<|Ia<|eU (Ia<|nF Ab<|Ia<|UE zN<|Ia<|Dr<|cU gB<|aB aF<|aB aF aG)<|Ia<|UE zN<|Ia<|Dr<|cU gB<|aB aF<|aB aF aG)
variable(lK:pf P w K mg base "_law_made" 9 3 jJ)(Wb:dj K Ga true "OtherLetters")(lc:dj K Ga false "NoMachine")(Jc:dj K Ga false "NoRoom")(Kc:dj K Ga false "NoWord")
include yc fX lK Wb lc Jc Kc in
theorem ϲ(F:Qa K "_law_refused" "_law_refused" uU dV fa fd):Ha P w K mg base wc 10 fa fd ["_law_kind","_law_one_here","_law_other"] (Xc K 3 lC):=gK F ϔ λb e=>(aL (cI jT)<|aL (M7 (λ_ _ _ d=>xM<|L7<|yM lK d b (by decide)<|aB aF<|aB aF<|aB aF aG)<|Z0 yc fX (by intro c a;simp only[mem_cons,not_mem_nil,or_false]at a;rcases a with rfl<;>assumption) (by intro c a;simp only[mem_cons,not_mem_nil,or_false]at a;rcases a with rfl|rfl|rfl<;>assumption) (λ_=>bB<|cI jT) K4)<|bB<|bZ aF)
variable(CO:mg "str"=none)
def aYz(F:Qa K "is_word" "is_word" rL dV fa fd):Ha P w K mg base wc 1 fa fd ["thing","many"] (Xc K 2 lQ):=gK F Ĳ λb a=>(bB<|bZ<|vM (oO ty_str aH CO ya)<|uF<|mJ iB iC (Ia<|bG4 ya<|aB (Iw (Ia<|BF [97,98,99] Zc) Zv<|xr ya) aG)<|Ia<|pF [])
variable(xP:Za P w K mg base "is_word" 1 2 lQ)
def ñ(F:Qa K "is_endless" "is_endless" yW dV fa fd):Ha P w K mg base wc 2 fa fd ["thing","many"] (Xc K 2 dN):=gK F Î λb a=>(aL (nR (PW.pt<|dn (pH<|fZ<|oO ty_tuple aH yg ya)<|yp<|dB oM oN (Ia<|jK cL ya) Ab) (bB<|bZ jT) gW)<|bB<|bZ<|vM (cU xP<|aB (cR ya Ab)<|aB aF aG)<|vM (cU xP<|aB (cR ya Ab)<|aB aF aG)<|uF<|mJ oM oN (Ia<|cR ya Ab)<|Ia<|pF [])
def zR(F:Qa K "rooms_along" "Machine.rooms_along" dZ dV fa fd):Ha P w K mg base wc 1 fa fd ["self","room","text"] (Wx K 3 cH):=by
 refine bPr (k:=0) F oR 3 5 3 fY rfl rfl λc A outer s H E B b=>?_
 have a:=oR.nd;exact N4 (by exact wA<|Er<|aB aF aG) (by exact N4 (by exact pJ (jU aF) bY<|aL (by exact cI<|cR (Ia<|cR (Ia<|cT ia ka ya) ya)<|Ia<|bKj (Ia<|BF [97,98,99] Zc)<|aB aF aG)<|by exact bB<|Vt 3 aF)<|by exact bKq)
variable(sY:Za P w K mg base "is_endless" 2 2 dN)(Vb:ze P w K mg base "Machine" "rooms_along" 1 3 [] cH)
variable{Mb:Addr}{Xi:ca}(Df:ExcAt K "NoWord" Mb Xi)
variable(qJ:mg (ofString "NoWord")=some (.ref Mb))
def ϳ(F:Qa K "walk" "Machine.walk" jE dV fa fd):Ha P w K mg base (Ng P w) 4 fa fd ["self","word","room"] (tm K 3 iY):=by
 refine vz (k:=3) (sm:=false) F zL 3 6 LV rfl rfl λd A outer s H E B W a b=>?_
 have c:=zL.nd;refine uM (s1:=false) (s2:=false) ?_ ?_
 .exact Nt (s1:=false) (VF<|Oy (pl:=_) ib aF<|aB aF aG)
 refine uM (s1:=false) (s2:=false) ?_ ?_
 .exact uL (Jw (s1:=false) (pH<|fZ<|cU sY<|aB aF<|aB (cT ia bL ya) aG) (xM<|uL<|x_raise b Df qJ rfl<|aB (pF _) aG) xw)
 refine uM (s1:=false) (s2:=false) ?_ ?_
 .exact Nt (s1:=false) (wA<|bKr (pl:=_) Vb a (by decide) aF<|aB aF<|aB (cR ya Ab) aG)
 refine uM (s1:=false) (s2:=false) ?_ ?_
 .exact Nt (s1:=false) t4
 refine uM (s1:=false) (s2:=false) ?_ ?_
 .exact Nt (s1:=false) (NE (dB xJ xK (Ia<|cR eE<|Ia<|Ut Ab) eE) (aL (by exact Mt a.units 4 (cR eE<|Ia<|Ut Ab)<|bP (Ia<|jK cL eE) Ab)<|by exact bB<|iP 3<|bPq (Ia<|Oy (pl:=_) (ze.plain Vb) aF<|aB (cR eE<|Ia<|Ut Ab)<|aB (cR ya Ab) aG) (xr Ab) Zv) PassesOwn.leaving)
 refine uM (s1:=false) (s2:=false) ?_ ?_
 .exact Nt (s1:=false) (cI<|cR eE<|Ia<|cR eE<|Ia<|Ut Ab)
 exact xM<|Nt (s1:=false)<|bZ<|pI<|aB (Iw eE Zv<|xr ya)<|aB (Iw eE (xr ya)<|xr<|Ia<|Ut Ab) aG
variable(lV:Bb P w K mg base "Machine" "walk" 4 3 [] iY)
def ϴ(F:Qa K "lets" "Machine.lets" jF dV fa fd):Ha P w K mg base (Ng P w) 5 fa fd ["self","word","room"] (tm K 3 gM):=by
 refine vz (k:=4) (sm:=false) F zM 3 5 MV rfl rfl λd A outer s H E B W a c=>?_
 have b:=zM.nd;refine uM (s1:=false) (s2:=false) ?_ ?_
 .exact uL (bNz 3 (bO0 a.units (vN (pl:=_) lV c a (by decide) aF<|aB aF<|aB aF aG) Ab) b)
 exact xM<|Nt (s1:=false)<|bZ<|mJ iB iC (Ia<|pG (Ia<|kG pK rfl<|Ia<|fQ (jU aF) (λ_ _ _ _ _=>bY)<|λ_ _ _ _ _=>cR (Ia<|cT ia ma ya) ya) Ab) Ab
variable(dJ:Bb P w K mg base "Machine" "lets" 5 3 [.int 0] gM)
def lW(F:Qa K "lets" "Joint.lets" iI dV fa fd):Ha P w K mg base (Ng P w) 6 fa fd ["self","word"] (tm K 2 bR):=by
 refine vz (k:=5) (sm:=false) F WV 2 2 DW rfl rfl λd A outer s H E B W a b=>?_
 have c:=WV.nd;exact xM<|uL<|yw<|bDl (pl:=_) dG a (by decide) aF<|Y4 (vN (pl:=_) dJ b a (by decide) (Pt Eb ya)<|aB aF aG)<|Y4 (vN (pl:=_) dJ b a (by decide) (Pt zb ya)<|aB aF aG) bLc
variable(uX:Bb P w K mg base "Joint" "lets" 6 2 [] bR)(Qb:Bb P w K mg base "Both" "lets" 6 2 [] bR)(Gb:Bb P w K mg base "Either" "lets" 6 2 [] bR)(Rb:Bb P w K mg base "Less" "lets" 6 2 [] bR)(Hb:Bb P w K mg base "Unlike" "lets" 6 2 [] bR)(Xb:Bb P w K mg base "Nor" "lets" 6 2 [] bR)(Zd:dj K Mb true "NoWord")(ud:dj K Mb false "NoMachine")(Yd:dj K Mb false "NoRoom")(Fc:dj K Mb false "OtherLetters")
include Df qJ uX Qb Gb Rb Hb Xb Zd ud Yd Fc in
theorem ϵ(F:Qa K "_law_no_word" "_law_no_word" uV dV fa fd):Ha P w K mg base wc 7 fa fd ["_law_joint","_law_word_here"] (Xc K 2 iZ):=gK F ϕ λa e=>(aL (cI jT)<|aL (M7 (λ_ _ _ d=>xM<|L7<|HF (vN (pl:=_) Qb d a (by decide) aF<|aB aF aG)<|HF (vN (pl:=_) Gb d a (by decide) aF<|aB aF aG)<|HF (vN (pl:=_) Rb d a (by decide) aF<|aB aF aG)<|HF (vN (pl:=_) Hb d a (by decide) aF<|aB aF aG)<|vN (pl:=_) Xb d a (by decide) aF<|aB aF aG)<|Z0 Df qJ (by intro c b;simp only[mem_cons,not_mem_nil,or_false]at b;rcases b with rfl<;>assumption) (by intro c b;simp only[mem_cons,not_mem_nil,or_false]at b;rcases b with rfl|rfl|rfl<;>assumption) (λ_=>bB<|cI jT) K4)<|bB<|bZ aF)
def Ĕ(F:Qa K "_law_word" "_law_word" cK dV fa fd):Ha P w K mg base wc 2 fa fd ["_law_cell_here","_law_size","_law_count"] (Xc K 3 rB):=gK F é λb a=>(aL (nR (dB iB iC (Ia<|pG ya Ab) Ab) (bB<|bZ<|N6 (Ia<|pF [])<|aB (fQ (jU<|cU zd<|aB (G6 ya Ab)<|aB aF<|aB aF aG) (λ_ _ _ _ _=>bY)<|λ_ _ _ _ _=>cR (Ia<|pF [97,98,99]) ya) aG) gW)<|bB<|bZ<|N6 (Ia<|pF [])<|aB (fQ (uH dH ya) (λ_ _ _ _ _=>bY)<|λ_ _ _ _ _=>cR (Ia<|pF [97,98,99])<|Ia<|cU Ja<|aB aF<|aB (eU Ab ya)<|aB aF aG) aG)
variable(yX:Za P w K mg base "_law_two" 3 1 xY)(Fe:Za P w K mg base "_law_table" 1 1 oA)(Ee:Za P w K mg base "_law_kinds" 1 1 sH)(de:Za P w K mg base "_law_truths" 3 2 qL)(mf:Za P w K mg base "_law_some" 8 6 vG)(Vc:Za P w K mg base "_law_refused" 10 3 lC)(Ac:Za P w K mg base "_law_no_word" 7 2 iZ)(we:Za P w K mg base "_law_word" 2 3 rB)(Vh:Jl P w K mg base "lets" 6 2 vE)(ve:mg (ofString "Joint")=some (.ref Ya))(kk_Nor_Joint:kitOne K (.ref yb) (.ref Ya)=some true)(kk_Unlike_Joint:kitOne K (.ref Ba) (.ref Ya)=some true)(kk_Less_Joint:kitOne K (.ref Oa) (.ref Ya)=some true)(kk_Either_Joint:kitOne K (.ref Aa) (.ref Ya)=some true)(kk_Both_Joint:kitOne K (.ref Na) (.ref Ya)=some true)(si:Dl K Ya)
include cL dH dM Ja ia bL aH dc zN jg ka ma Ma Ed fc pb gc qb md qU gd De Of jd Qc xf je Pc ie pK Wi zb Eb gB lK yX Fe Ee de mf Vc Ac we Vh ve kk_Nor_Joint kk_Unlike_Joint kk_Less_Joint kk_Either_Joint kk_Both_Joint si in
theorem bO6(F:Qa K "law" "law" rq dV fa fd):Ha P w K mg base wc 11 fa fd ["_law_script"] (Xc K 1 ow):=gK F bLd λa b=>(aL (dP (cU yX<|aB aF aG)<|Rt rfl<|iU<|iU<|iU<|iU Kt)<|aL (cI<|FF (Lb.calm Ma) a (by decide)<|aB (fQ (jU<|cR ya Ab) (λ_ _ _ _ _=>bY)<|λ_ _ _ _ _=>GF dc ya)<|aB (GF dc<|Ia<|cR ya Ab) aG)<|aL (cI<|FF (Lb.calm Ma) a (by decide)<|aB (fQ (jU<|cR ya Ab) (λ_ _ _ _ _=>bY)<|λ_ _ _ _ _=>GF dc ya)<|aB (GF dc<|Ia<|cR ya Ab) aG)<|aL (cI<|cT ia bL ya)<|aL (cI<|FF (Lb.calm Ma) a (by decide)<|aB (uG<|aB (fQ (uH dH<|Ia<|eU Ab<|Ia<|pG ya Ab) (λ_ _ _ _ _=>bY)<|λ_ _ _ _ _=>fB) aG)<|aB (uG<|aB fB aG) aG)<|aL (pJ (uH dH Ab) bY<|aL (by exact cI<|cU (pf.calm lK)<|aB aF<|aB aF<|aB aF aG)<|by exact aL (by exact cI<|cU Fe<|aB aF aG)<|by exact aL (by exact nR (PW.pt<|dn (pH<|fZ<|kW (eV aH fc ve ie kk_Both_Joint ya)<|kW (eV aH pb ve Pc kk_Either_Joint ya)<|kW (eV aH gc ve je kk_Less_Joint ya)<|kW (eV aH qb ve Qc kk_Unlike_Joint ya)<|eV aH md ve xf kk_Nor_Joint ya)<|yp<|dB oM oN (Ia<|cU Ee<|aB aF aG)<|Ia<|fQ (uH dH Ab) (λ_ _ _ _ _=>bY)<|λ_ _ _ _ _=>mJ iB iC ya ya) (bB<|bZ jT) gW)<|by exact aL (by exact nR (PW.pt<|dn (dB oM oN (Ia<|cT ia ka<|Ia<|Pt Eb ya)<|Ia<|cR ya Ab)<|dn (dB oM oN (Ia<|cT ia ka<|Ia<|Pt zb ya)<|Ia<|cR ya Ab)<|yp<|dB oM oN (Ia<|cT ia ma<|Ia<|Pt zb ya)<|Ia<|cR ya Ab) (bB<|bZ jT) gW)<|by exact aL (by exact nR (PW.pt<|dn (pH<|fZ<|cU de<|aB aF<|aB aF aG)<|yp<|pH<|fZ<|cU mf<|aB aF<|aB aF<|aB aF<|aB aF<|aB aF<|aB aF aG) (bB<|bZ jT) gW)<|by exact aL (by exact nR (PW.pt<|dn (pH<|fZ<|cU Vc<|aB aF<|aB aF<|aB aF aG)<|yp<|pH<|fZ<|cU Vc<|aB aF<|aB aF<|aB aF aG) (bB<|bZ jT) gW)<|by exact aL (by exact nR (PW.pt<|dn (pH<|fZ<|cU Ac<|aB aF<|aB (pI<|aB (pF [])<|aB (pF []) aG) aG)<|dn (pH<|fZ<|cU Ac<|aB aF<|aB (pI<|aB (pF [])<|aB (pF [100]) aG) aG)<|yp<|pH<|fZ<|cU Ac<|aB aF<|aB ZO aG) (bB<|bZ jT) gW)<|by exact bB<|pJ (bNo dH Ab<|Ia<|BO pK rfl Ab<|Ia<|bKk Wi rfl Ab<|Ia<|jK cL ya) bY<|aL (by exact cI<|cU dM<|aB aF<|aB aF aG)<|by exact aL (by exact cI<|cU we<|aB (cU dM<|aB aF<|aB (eU ya Ab) aG)<|aB (eU Ab<|Ia<|cU Ja<|aB aF<|aB fB<|aB fB aG)<|aB aF aG)<|by exact aL (by exact cI<|pI<|aB (cU we<|aB aF<|aB (cU Ja<|aB aF<|aB fB<|aB fB aG)<|aB aF aG)<|aB aF aG)<|by exact aL (by exact cI<|cR ya<|Ia<|eU (Ia<|nF Ab<|Ia<|UE zN<|Ia<|Dr<|cU gB<|aB aF<|aB aF aG)<|Ia<|UE zN<|Ia<|Dr<|cU gB<|aB aF<|aB aF aG)<|by exact aL (by exact cI<|sW (pl:=_) Vh a (by decide) aF<|aB aF aG)<|by exact bB<|nR (PW.pt<|dn (pH<|fZ<|oO ty_bool aH jg ya)<|yp<|dB oM oN ya ya) (bB<|bZ jT) gW)<|bB<|bZ jT)
end
theorem all_mk {l : OpenLaw} {w : World} {K : Frag}    {BE To MB : String} {Yz : List Value} (FE : ExcBaseFacts BE To MB Yz) (X : K.In h) (G : h.Ns mainGlobals mg) (hfa : mg "law" = some (.ref fa))
             {ci:Addr} {gI:Addr} {lT KO:pc} {AU:na} {VS HS DR FT Zz YQ:Value} {Iq:Addr} {mT LO:pc} {BU:na} {WS IS ER IT dA ZQ:Value} {jI:Addr} {pT MO:pc} {CU:na} {XS JS FR JT eA eR:Value} {MR:Addr} {sT NO:pc} {DU:na} {YS KS GR MT fA fR:Value} {rV:Addr} {OC:Value} {RC:pc} {VC:na} {KU:Nat} {Zo:Tok} {ap:Tok} {mI:Addr} {vT OO:pc} {EU:na} {ZS LS HR NT iA kR:Value} {nI:Addr} {yT QO:pc} {FU:na} {aT MS JR OT sA sR:Value} {AV:Addr} {PC:Value} {TC:pc} {WC:na} {LU:Nat} {Dv:Tok} {xI:Addr} {CT RO:pc} {GU:na} {fT NS KR QT xA AR:Value} {BV:Addr} {QC:Value} {UC:pc} {XC:na} {NU:Nat} {bp:Tok} {NR:Addr} {DT iz:pc} {HU:na} {gT PB CA YB Bu AA:Value}
  (fc:ClsAt K "Both" Na)
  (ie:Dl K Na)
  (x5_Both:makesIn K Na=true)
  (x6_Both:keepIn K (.ref Na)=true)
  (ai_Both:findIn K (.ref Na) (ofString "__init__")=some (some<|.ref Iq))
  (pb:ClsAt K "Either" Aa)
  (Pc:Dl K Aa)
  (x5_Either:makesIn K Aa=true)
  (x6_Either:keepIn K (.ref Aa)=true)
  (ai_Either:findIn K (.ref Aa) (ofString "__init__")=some (some<|.ref Iq))
  (Ed:ClsAt K "Joint" Ya)
  (si:Dl K Ya)
  (x5_Joint:makesIn K Ya=true)
  (x6_Joint:keepIn K (.ref Ya)=true)
  (gc:ClsAt K "Less" Oa)
  (je:Dl K Oa)
  (x5_Less:makesIn K Oa=true)
  (x6_Less:keepIn K (.ref Oa)=true)
  (ai_Less:findIn K (.ref Oa) (ofString "__init__")=some (some<|.ref Iq))
  (ia:ClsAt K "Machine" Ra)
  (x5_Machine:makesIn K Ra=true)
  (x6_Machine:keepIn K (.ref Ra)=true)
  (md:ClsAt K "Nor" yb)
  (xf:Dl K yb)
  (x5_Nor:makesIn K yb=true)
  (x6_Nor:keepIn K (.ref yb)=true)
  (ai_Nor:findIn K (.ref yb) (ofString "__init__")=some (some<|.ref Iq))
  (Sa:ClsAt K "Sides" Ob)
  (x5_Sides:makesIn K Ob=true)
  (x6_Sides:keepIn K (.ref Ob)=true)
  (qb:ClsAt K "Unlike" Ba)
  (Qc:Dl K Ba)
  (x5_Unlike:makesIn K Ba=true)
  (x6_Unlike:keepIn K (.ref Ba)=true)
  (ai_Unlike:findIn K (.ref Ba) (ofString "__init__")=some (some<|.ref Iq))
  (kk_Both_Both:kitOne K (.ref Na) (.ref Na)=some true)
  (T:kitOne K (.ref Na) (.ref Aa)=some false)
  (kk_Both_Joint:kitOne K (.ref Na) (.ref Ya)=some true)
  (kk_Both_Less:kitOne K (.ref Na) (.ref Oa)=some false)
  (kk_Both_Nor:kitOne K (.ref Na) (.ref yb)=some false)
  (S:kitOne K (.ref Na) (.ref Ba)=some false)
  (R:kitOne K (.ref Aa) (.ref Na)=some false)
  (p:kitOne K (.ref Aa) (.ref Aa)=some true)
  (A:kitOne K (.ref Aa) (.ref Ya)=some true)
  (Q:kitOne K (.ref Aa) (.ref Oa)=some false)
  (kk_Either_Nor:kitOne K (.ref Aa) (.ref yb)=some false)
  (o:kitOne K (.ref Aa) (.ref Ba)=some false)
  (kk_Less_Both:kitOne K (.ref Oa) (.ref Na)=some false)
  (P:kitOne K (.ref Oa) (.ref Aa)=some false)
  (kk_Less_Joint:kitOne K (.ref Oa) (.ref Ya)=some true)
  (kk_Less_Less:kitOne K (.ref Oa) (.ref Oa)=some true)
  (kk_Less_Nor:kitOne K (.ref Oa) (.ref yb)=some false)
  (O:kitOne K (.ref Oa) (.ref Ba)=some false)
  (kk_Nor_Both:kitOne K (.ref yb) (.ref Na)=some false)
  (kk_Nor_Either:kitOne K (.ref yb) (.ref Aa)=some false)
  (kk_Nor_Joint:kitOne K (.ref yb) (.ref Ya)=some true)
  (kk_Nor_Less:kitOne K (.ref yb) (.ref Oa)=some false)
  (kk_Nor_Nor:kitOne K (.ref yb) (.ref yb)=some true)
  (kk_Nor_Unlike:kitOne K (.ref yb) (.ref Ba)=some false)
  (N:kitOne K (.ref Ba) (.ref Na)=some false)
  (n:kitOne K (.ref Ba) (.ref Aa)=some false)
  (z:kitOne K (.ref Ba) (.ref Ya)=some true)
  (M:kitOne K (.ref Ba) (.ref Oa)=some false)
  (kk_Unlike_Nor:kitOne K (.ref Ba) (.ref yb)=some false)
  (m:kitOne K (.ref Ba) (.ref Ba)=some true)
  (w_Both_inner:findIn K (.ref Na) (ofString "inner")=some none)
  (w_Both_outer:findIn K (.ref Na) (ofString "outer")=some none)
  (J:findIn K (.ref Aa) (ofString "inner")=some none)
  (I:findIn K (.ref Aa) (ofString "outer")=some none)
  (Z:findIn K (.ref Ya) (ofString "inner")=some none)
  (Y:findIn K (.ref Ya) (ofString "outer")=some none)
  (w_Less_inner:findIn K (.ref Oa) (ofString "inner")=some none)
  (w_Less_outer:findIn K (.ref Oa) (ofString "outer")=some none)
  (k:findIn K (.ref Ra) (ofString "letters")=some none)
  (H:findIn K (.ref Ra) (ofString "many")=some none)
  (y:findIn K (.ref Ra) (ofString "ranks")=some none)
  (x:findIn K (.ref Ra) (ofString "steps")=some none)
  (w_Nor_inner:findIn K (.ref yb) (ofString "inner")=some none)
  (w_Nor_outer:findIn K (.ref yb) (ofString "outer")=some none)
  (F:findIn K (.ref Ob) (ofString "fronts")=some none)
  (W:findIn K (.ref Ob) (ofString "lefts")=some none)
  (V:findIn K (.ref Ob) (ofString "pairs")=some none)
  (E:findIn K (.ref Ob) (ofString "rights")=some none)
  (U:findIn K (.ref Ob) (ofString "steps")=some none)
  (D:findIn K (.ref Ba) (ofString "inner")=some none)
  (B:findIn K (.ref Ba) (ofString "outer")=some none)
  (y3:specialIn K (.builtin "object.__class__") "__get__"=some (some<|.builtin "getset_descriptor.__get__"))
  (y4:takesIn K (.builtin "object.__class__")=some true)
  (Fh:XA K "NoMachine" Hd Yz To)
  (Cj:XA K "NoRoom" ci Yz To)
  (Dj:XA K "NoWord" Mb Yz To)
  (ig:XA K "OtherLetters" Ga Yz To)
  (j:mroIn K Hd (.ref Mb)=some false)
  (r:mroIn K ci (.ref Mb)=some false)
  (q:mroIn K Mb (.ref Mb)=some true)
  (g:mroIn K Ga (.ref Mb)=some false)
  (c:mroIn K Hd (.ref Ga)=some false)
  (f:mroIn K ci (.ref Ga)=some false)
  (d:mroIn K Mb (.ref Ga)=some false)
  (a:mroIn K Ga (.ref Ga)=some true)
  (D1:DA K "_law_cell" SJ)
  (D2:DA K "_law_mix" GK)
  (D3:DA K "_law_digits" wC)
  (D4:DA K "_law_one" HK)
  (D5:DA K "_law_beside" wD)
  (D6:DA K "_law_two" IK)
  (D7:DA K "check_letters" rQ)
  (D8:DA K "is_filled_list" qG)
  (D9:DA K "is_whole" JK)
  (v_:DA K "is_below" LK)
  (w_:DA K "is_row" ZL)
  (x_:DA K "are_steps" TJ)
  (y_:DA K "are_ranks" UJ)
  (a14:findIn K (.ref Ra) (ofString "__init__")=some (some<|.ref gI))
  (e14:isFn K (.ref gI)=true)
  (l14:K.lookup gI=some ⟨VS,lT,.func<|fnOf "__init__" "Machine.__init__" (fD fM) (dI fM) (bD fM) .none HS DR FT KO Zz YQ,AU⟩)
  (c14:codeIn K Zz "Machine.__init__"=true)
  (k14:keepIn K (.ref gI)=true)
  (a15:findIn K (.ref Ya) (ofString "__init__")=some (some<|.ref Iq))
  (e15:isFn K (.ref Iq)=true)
  (l15:K.lookup Iq=some ⟨WS,mT,.func<|fnOf "__init__" "Joint.__init__" (fD dC) (dI dC) (bD dC) .none IS ER IT LO dA ZQ,BU⟩)
  (c15:codeIn K dA "Joint.__init__"=true)
  (k15:keepIn K (.ref Iq)=true)
  (z_:DA K "_law_made" VJ)
  (A_:DA K "_law_table" yO)
  (B_:DA K "_law_kinds" yP)
  (P':MA K Na "truth" "truth" "Both.truth" yQ)
  (U':MA K Aa "truth" "truth" "Either.truth" uO)
  (V':MA K Oa "truth" "truth" "Less.truth" yR)
  (X':MA K Ba "truth" "truth" "Unlike.truth" uP)
  (Y':MA K yb "truth" "truth" "Nor.truth" WJ)
  (Z':MA K Ya "leads" "leads" "Joint.leads" gG)
  (C_:DA K "_law_truths" wF)
  (D_:DA K "has_room" MK)
  (E_:DA K "rooms_of" NK)
  (F_:DA K "joined" eM)
  (G_:DA K "is_wanted" XJ)
  (H_:DA K "wanted_ranks" uQ)
  (I_:DA K "bits_of" nL)
  (J_:DA K "seen_among" yS)
  (K_:DA K "goes_round" yU)
  (L_:DA K "parts_among" wG)
  (M_:DA K "kept_places" wH)
  (N_:DA K "greatest_ranks" qH)
  (O_:DA K "wanted_parts" uR)
  (P_:DA K "first_round" wJ)
  (Q_:DA K "place_in_order" qI)
  (R_:DA K "paired_steps" uT)
  (S_:DA K "ways_from" YJ)
  (γ:MA K Ra "check_room" "check_room" "Machine.check_room" lH)
  (a48:findIn K (.ref Ob) (ofString "__init__")=some (some<|.ref jI))
  (e48:isFn K (.ref jI)=true)
  (l48:K.lookup jI=some ⟨XS,pT,.func<|fnOf "__init__" "Sides.__init__" (fD gH) (dI gH) (bD gH) .none JS FR JT MO eA eR,CU⟩)
  (c48:codeIn K eA "Sides.__init__"=true)
  (k48:keepIn K (.ref jI)=true)
  (a49:nsIn K mainGlobals "wanted_word"=some (some<|.ref MR))
  (l49:K.lookup MR=some ⟨YS,sT,.func<|fnOf "wanted_word" "wanted_word" (fD jZ) (dI jZ) (bD jZ) (.ref rV) KS GR MT NO fA fR,DU⟩)
  (t49:K.lookup rV=some ⟨OC,RC,.seq #[.int 0 Zo,.int 0 ap] KU,VC⟩)
  (c49:codeIn K fA "wanted_word"=true)
  (k49:keepIn K (.ref MR)=true)
  (T_:DA K "_law_plain" yV)
  (ε:MA K Ya "some_word" "some_word" "Joint.some_word" dY)
  (U_:DA K "_law_some" ZJ)
  (V_:DA K "_law_refused" uU)
  (W_:DA K "is_word" rL)
  (X_:DA K "is_endless" yW)
  (a56:findIn K (.ref Ra) (ofString "rooms_along")=some (some<|.ref mI))
  (e56:isFn K (.ref mI)=true)
  (l56:K.lookup mI=some ⟨ZS,vT,.func<|fnOf "rooms_along" "Machine.rooms_along" (fD dZ) (dI dZ) (bD dZ) .none LS HR NT OO iA kR,EU⟩)
  (c56:codeIn K iA "Machine.rooms_along"=true)
  (k56:keepIn K (.ref mI)=true)
  (a57:findIn K (.ref Ra) (ofString "walk")=some (some<|.ref nI))
  (e57:isFn K (.ref nI)=true)
  (l57:K.lookup nI=some ⟨aT,yT,.func<|fnOf "walk" "Machine.walk" (fD jE) (dI jE) (bD jE) (.ref AV) MS JR OT QO sA sR,FU⟩)
  (t57:K.lookup AV=some ⟨PC,TC,.seq #[.int 0 Dv] LU,WC⟩)
  (c57:codeIn K sA "Machine.walk"=true)
  (k57:keepIn K (.ref nI)=true)
  (a58:findIn K (.ref Ra) (ofString "lets")=some (some<|.ref xI))
  (e58:isFn K (.ref xI)=true)
  (l58:K.lookup xI=some ⟨fT,CT,.func<|fnOf "lets" "Machine.lets" (fD jF) (dI jF) (bD jF) (.ref BV) NS KR QT RO xA AR,GU⟩)
  (t58:K.lookup BV=some ⟨QC,UC,.seq #[.int 0 bp] NU,XC⟩)
  (c58:codeIn K xA "Machine.lets"=true)
  (k58:keepIn K (.ref xI)=true)
  (ζ:MA K Ya "lets" "lets" "Joint.lets" iI)
  (Y_:DA K "_law_no_word" uV)
  (Z_:DA K "_law_word" cK)
  (a62:nsIn K mainGlobals "law"=some (some<|.ref NR))
  (l62:K.lookup NR=some ⟨gT,DT,.func<|fnOf "law" "law" (fD rq) (dI rq) (bD rq) .none PB CA YB iz Bu AA,HU⟩)
  (c62:codeIn K Bu "law"=true)
  (k62:keepIn K (.ref NR)=true)
  (η:MA K Na "leads" "leads" "Joint.leads" gG)
  (θ:MA K Na "lets" "lets" "Joint.lets" iI)
  (ι:MA K Na "some_word" "some_word" "Joint.some_word" dY)
  (μ:MA K Aa "leads" "leads" "Joint.leads" gG)
  (ν:MA K Aa "lets" "lets" "Joint.lets" iI)
  (ξ:MA K Aa "some_word" "some_word" "Joint.some_word" dY)
  (ο:MA K Oa "leads" "leads" "Joint.leads" gG)
  (π:MA K Oa "lets" "lets" "Joint.lets" iI)
  (ρ:MA K Oa "some_word" "some_word" "Joint.some_word" dY)
  (ς:MA K yb "leads" "leads" "Joint.leads" gG)
  (KJ:MA K yb "lets" "lets" "Joint.lets" iI)
  (LJ:MA K yb "some_word" "some_word" "Joint.some_word" dY)
  (MJ:MA K Ba "leads" "leads" "Joint.leads" gG)
  (NJ:MA K Ba "lets" "lets" "Joint.lets" iI)
  (OJ:MA K Ba "some_word" "some_word" "Joint.some_word" dY)
  (v_LETTERS:nsIn K mainGlobals "LETTERS"=some (some<|.str "abc" Eh))
  (L:nsIn K mainGlobals "MOST_LETTERS"=some (some<|.int 3 We))
  (v_MOST_ROOMS:nsIn K mainGlobals "MOST_ROOMS"=some (some<|.int 8 Vf))
  (z_all:nsIn K mainGlobals "all"=some none)
  (z_bool:nsIn K mainGlobals "bool"=some none)
  (z_enumerate:nsIn K mainGlobals "enumerate"=some none)
  (z_int:nsIn K mainGlobals "int"=some none)
  (z_isinstance:nsIn K mainGlobals "isinstance"=some none)
  (z_len:nsIn K mainGlobals "len"=some none)
  (z_list:nsIn K mainGlobals "list"=some none)
  (z_max:nsIn K mainGlobals "max"=some none)
  (z_min:nsIn K mainGlobals "min"=some none)
  (z_range:nsIn K mainGlobals "range"=some none)
  (z_set:nsIn K mainGlobals "set"=some none)
  (z_sorted:nsIn K mainGlobals "sorted"=some none)
  (z_str:nsIn K mainGlobals "str"=some none)
  (z_tuple:nsIn K mainGlobals "tuple"=some none)
  (z_zip:nsIn K mainGlobals "zip"=some none) :
  ∃fd:FuncData,(∀(s:Shared)(v:Value),BindsTo s fd ⟨[v],[]⟩ [("_law_script",v)])/\∀base:Heap,K.In base->base.Ns mainGlobals mg->Ha l.prog w K mg base wc 11 fa fd ["_law_script"] (Xc K 1 ow):=by
 have e:=hfa.symm.trans<|Oh X G a62;cases e;have qU:=Oh X G fc.ns;have gd:=Oh X G pb.ns;have ve:=Oh X G Ed.ns;have De:=Oh X G gc.ns;have Of:=Oh X G md.ns;have jd:=Oh X G qb.ns;have mR:bV K Na (ofString "inner"):=w_Both_inner;have me:bV K Na (ofString "outer"):=w_Both_outer;have jV:bV K Aa (ofString "inner"):=J;have Fd:bV K Aa (ofString "outer"):=I;have oV:bV K Ya (ofString "inner"):=Z;have Ue:bV K Ya (ofString "outer"):=Y;have mU:bV K Oa (ofString "inner"):=w_Less_inner;have pe:bV K Oa (ofString "outer"):=w_Less_outer;have bL:bV K Ra (ofString "letters"):=k;have Jb:bV K Ra (ofString "many"):=H;have ma:bV K Ra (ofString "ranks"):=y;have ka:bV K Ra (ofString "steps"):=x;have oW:bV K yb (ofString "inner"):=w_Nor_inner;have Ie:bV K yb (ofString "outer"):=w_Nor_outer;have Oc:bV K Ob (ofString "fronts"):=F;have cB:bV K Ob (ofString "lefts"):=W;have Sb:bV K Ob (ofString "pairs"):=V;have Wa:bV K Ob (ofString "rights"):=E;have Yb:bV K Ob (ofString "steps"):=U;have jW:bV K Ba (ofString "inner"):=D;have Gd:bV K Ba (ofString "outer"):=B;obtain⟨Sg,jf⟩:=Fh.at FE y3 y4;have i:=Fh.a;have oU:=Oh X G i;obtain⟨lx,GA⟩:=Cj.at FE y3 y4;have u:=Cj.a;have yx:=Oh X G u;obtain⟨Xi,Df⟩:=Dj.at FE y3 y4;have t:=Dj.a;have qJ:=Oh X G t;obtain⟨Xf,yc⟩:=ig.at FE y3 y4;have b:=ig.a;have fX:=Oh X G b;have ud:dj K Mb false "NoMachine":=yr X i j;have Yd:dj K Mb false "NoRoom":=yr X u r;have Zd:dj K Mb true "NoWord":=yr X t q;have Fc:dj K Mb false "OtherLetters":=yr X b g;have lc:dj K Ga false "NoMachine":=yr X i c;have Jc:dj K Ga false "NoRoom":=yr X u f;have Kc:dj K Ga false "NoWord":=yr X t d;have Wb:dj K Ga true "OtherLetters":=yr X b a;have WU:=sV (st:=fM) l14 c14 k14;have b14:=WU.Gg (ps:=["self","steps","ranks"]) λ_ _ _ _ _ _=>yN<|λ_ _ _=>rfl
 have yt:=sV (st:=dC) l15 c15 k15;have Mw:=yt.Gg (ps:=["self","one","other"]) λ_ _ _ _ _ _=>yN<|λ_ _ _=>rfl
 have XU:=bJa (st:=gH) l48 c48 k48;have b48:=XU.binds (ps:=["self","one","other","left","right"]) λ_ _ _ _ _ _=>RE<|λ_ _ _ _ _=>rfl
 have dy:=sV (st:=jZ) l49 c49 k49;have jz:Binds K _ ["one","other","wanted","left","right"] []:=dy.binds (m:=5) t49 rfl rfl λ_ _ _ _ _ _=>RE<|λ_ _ _ _ _=>⟨_,rfl,rfl⟩
 have mz:Binds K _ ["one","other","wanted","left","right"] [.int 0 Zo,.int 0 ap]:=dy.binds (m:=3) t49 rfl rfl λ_ _ _ _ _ _=>yN<|λ_ _ _=>⟨_,rfl,rfl⟩
 have YU:=sV (st:=dZ) l56 c56 k56;have b56:=YU.Gg (ps:=["self","room","text"]) λ_ _ _ _ _ _=>yN<|λ_ _ _=>rfl
 have ZU:=sV (st:=jE) l57 c57 k57;have nz:Binds K _ ["self","word","room"] []:=ZU.binds (m:=3) t57 rfl rfl λ_ _ _ _ _ _=>yN<|λ_ _ _=>⟨_,rfl,rfl⟩
 have gV:=sV (st:=jF) l58 c58 k58;have oz:Binds K _ ["self","word","room"] [.int 0 bp]:=gV.binds (m:=2) t58 rfl rfl λ_ _ _ _ _ _=>YM<|λ_ _=>⟨_,rfl,rfl⟩
 have hV:=sV (st:=rq) l62 c62 k62;have b62:=hV.Gg (ps:=["_law_script"]) λ_ _ _ _ _ _=>XM<|λ_=>rfl
 have Hh:=Qk X G z_all;have jg:=Qk X G z_bool;have kg:=Qk X G z_enumerate;have zN:=Qk X G z_int;have aH:=Qk X G z_isinstance;have cL:=Qk X G z_len;have dc:=Qk X G z_list;have pK:=Qk X G z_max;have Wi:=Qk X G z_min;have dH:=Qk X G z_range;have Ml:=Qk X G z_set;have Cf:=Qk X G z_sorted;have CO:=Qk X G z_str;have yg:=Qk X G z_tuple;have xO:=Qk X G z_zip;have Zc:=Oh X G v_LETTERS;have Pe:=Oh X G L;have Nf:=Oh X G v_MOST_ROOMS;refine⟨fnOf "law" "law" (fD rq) (dI rq) (bD rq) .none PB CA YB iz Bu AA,λs v=>.of_eq rfl,λbase _ _=>?_⟩
 have C:Ct l.prog w K mg base h:=⟨X,G⟩;have Eb:Nr K tQ "inner":=jY fc mR<|jY pb jV<|jY gc mU<|jY qb jW<|jY md oW Z1;have zb:Nr K nW "outer":=jY fc me<|jY pb Fd<|jY gc pe<|jY qb Gd<|jY md Ie Z1;have dM:=D1.ok C<|Č cL;have Ja:=D2.ok C ĳ;have zd:=D3.ok C<|Ï dH;have uW:=D4.ok C<|Ĵ dH dM Ja zd;have rf:=D5.ok C<|Ð cL dH Ja;have yX:=D6.ok C<|ĵ cL dM Ja uW rf;have bF:=D7.Nn C<|ϖ ia bL yc fX;have jG:=D8.ok C<|Ρ cL aH dc;have nG:=D9.ok C<|Ķ aH zN jg;have nJ:=v_.ok C<|ķ nG;have ni:=w_.ok C<|bDm cL nJ Hh;have vP:=x_.ok C<|č cL Hh jG ni Nf Pe;have lg:=y_.ok C<|Ď cL aH dc nG Hh;have Hg:=Δ (P:=l.prog) (w:=w) (mg:=mg) (base:=base) cL ia bL dc vP lg ka ma Jb jf oU WU;have Ma:=Lb.of ia ⟨x5_Machine,a14,e14,x6_Machine⟩ Hg b14<|Oh X G ia.ns;have vh:=Τ (P:=l.prog) (w:=w) (mg:=mg) (base:=base) ia ka ma bF Ma Ed oV Ue yt;have KI:=Lb.of Ed ⟨x5_Joint,a15,e15,x6_Joint⟩ vh Mw<|Oh X G Ed.ns;have Ph:=ϗ (P:=l.prog) (w:=w) (mg:=mg) (base:=base) ia ka ma bF Ma fc mR me yt;have kN:=Lb.of fc ⟨x5_Both,ai_Both,e15,x6_Both⟩ Ph Mw<|Oh X G fc.ns;have Vg:=Κ (P:=l.prog) (w:=w) (mg:=mg) (base:=base) ia ka ma bF Ma pb jV Fd yt;have yi:=Lb.of pb ⟨x5_Either,ai_Either,e15,x6_Either⟩ Vg Mw<|Oh X G pb.ns;have Qh:=Ϙ (P:=l.prog) (w:=w) (mg:=mg) (base:=base) ia ka ma bF Ma gc mU pe yt;have il:=Lb.of gc ⟨x5_Less,ai_Less,e15,x6_Less⟩ Qh Mw<|Oh X G gc.ns;have Wg:=Λ (P:=l.prog) (w:=w) (mg:=mg) (base:=base) ia ka ma bF Ma qb jW Gd yt;have zi:=Lb.of qb ⟨x5_Unlike,ai_Unlike,e15,x6_Unlike⟩ Wg Mw<|Oh X G qb.ns;have ki:=Ϭ (P:=l.prog) (w:=w) (mg:=mg) (base:=base) ia ka ma bF Ma md oW Ie yt;have Po:=Lb.of md ⟨x5_Nor,ai_Nor,e15,x6_Nor⟩ ki Mw<|Oh X G md.ns;have lK:=z_.Nn C<|ď kN yi il zi Po;have Fe:=A_.ok C ê;have Ee:=B_.ok C<|ë aH fc pb gc qb md qU gd De Of jd kk_Nor_Unlike m O o S kk_Nor_Less M kk_Less_Less Q kk_Both_Less kk_Nor_Either n P p T kk_Nor_Both N kk_Less_Both R kk_Both_Both kk_Nor_Nor kk_Unlike_Nor kk_Less_Nor kk_Either_Nor kk_Both_Nor Qc xf je Pc ie;have Ai:=P'.ok C fc ì;have Ah:=U'.ok C pb ϭ;have Bi:=V'.ok C gc í;have Bh:=X'.ok C qb Ϯ;have Si:=Y'.ok C md Đ;have dG:Jl l.prog w K mg base "truth" 1 3 fH:=dO Ai<|dO Ah<|dO Bi<|dO Bh<|dO Si cE;have Ln:=Z'.ok C Ed<|kE dG;have bg:=η.ok C fc<|kE dG;have Jf:=μ.ok C pb<|kE dG;have cg:=ο.ok C gc<|kE dG;have rg:=ς.ok C md<|kE dG;have Kf:=MJ.ok C qb<|kE dG;have jH:Jl l.prog w K mg base "leads" 2 1 tV:=dO bg<|dO Jf<|dO cg<|dO Kf<|dO rg cE;have de:=C_.ok C<|Ñ aH jg dG jH yg;have iM:=D_.ok C ĸ;have dU:=E_.ok C<|Ĺ dH iM;have PK:=F_.ok C bDn;have lJ:=G_.ok C đ;have oX:=H_.ok C<|ϯ lJ Sa cB Wa Cf Ml;have Td:=I_.ok C aYy;have sX:=J_.ok C<|î iM dU Td;have Pf:=K_.ok C<|ï cL dU;have uf:=L_.ok C<|Ò iM dU Td sX Pf;have tf:=M_.ok C<|Ó dc Sa cB Wa Td xO kg;have Ud:=N_.ok C<|Υ Sa cB Wa dU pK;have Se:=O_.ok C<|ϰ Sa oX uf tf Ud Yb;have sf:=P_.ok C<|Ô cL dc lJ Sa cB Wa xO pK Yb Zc;have Vd:=Q_.ok C<|Φ cL;have oY:=R_.ok C<|ϱ dH ia dc ka Jb xO;have ng:=S_.ok C<|Ē cL xO Zc;have ib:=γ.ok C ia<|χ ia nJ Jb;have xh:=Χ (P:=l.prog) (w:=w) (mg:=mg) (base:=base) ia dc ma bF Sa cB Wa Cf Yb oY ng ib Sb Oc XU;have pj:=nh.of Sa ⟨x5_Sides,a48,e48,x6_Sides⟩ xh b48<|Oh X G Sa.ns;have Eg:=Õ (P:=l.prog) (w:=w) (mg:=mg) (base:=base) Sa dU Oc PK Se sf Vd pj Wi dy;have eY:=Za.of Eg (Oh X G a49) dy.kp jz my;have Va:Dk l.prog w K mg base "wanted_word" 6 5 [.int 0,.int 0] gD:=⟨⟨_,_,_,_,[.int<|0,.int<|0],Eg,Oh X G a49,dy.kp,mz,(.cons ⟨_,rfl⟩<|.cons ⟨_,rfl⟩<|.nil),λ_=>.cons (bK.mpr rfl)<|.cons (bK.mpr rfl)<|.nil⟩,my⟩
 have gB:=T_.ok C<|ð cL pK;have xk:=ε.ok C Ed<|fU jH eY Va zb Eb;have cf:=ι.ok C fc<|fU jH eY Va zb Eb;have Ge:=ξ.ok C pb<|fU jH eY Va zb Eb;have df:=ρ.ok C gc<|fU jH eY Va zb Eb;have yf:=LJ.ok C md<|fU jH eY Va zb Eb;have He:=OJ.ok C qb<|fU jH eY Va zb Eb;have Kd:Jl l.prog w K mg base "some_word" 7 1 lO:=dO cf<|dO Ge<|dO df<|dO He<|dO yf cE;have mf:=U_.ok C<|ē zN eY Va gB Kd;have Vc:=V_.ok C<|ϲ yc fX lK Wb lc Jc Kc;have xP:=W_.ok C<|aYz aH Zc CO;have sY:=X_.ok C<|ñ cL aH yg xP;have ag:=zR (P:=l.prog) (w:=w) (mg:=mg) (base:=base) ia ka Zc YU;have Vb:ze l.prog w K mg base "Machine" "rooms_along" 1 3 [] cH:=ze.of (Ld:=[]) ia ⟨a56,e56,k56⟩ ag b56 (.nil) λ_=>.nil
 have ji:=ϳ (P:=l.prog) (w:=w) (mg:=mg) (base:=base) cL ia bL ib sY Vb Df qJ ZU;have lV:Bb l.prog w K mg base "Machine" "walk" 4 3 [] iY:=Bb.of (Ld:=[]) ia ⟨a57,e57,k57⟩ ji nz (.nil) λ_=>.nil
 have gi:=ϴ (P:=l.prog) (w:=w) (mg:=mg) (base:=base) ia ma pK lV gV;have dJ:Bb l.prog w K mg base "Machine" "lets" 5 3 [.int 0] gM:=Bb.of (Ld:=[.int<|0]) ia ⟨a58,e58,k58⟩ gi oz (.cons ⟨_,rfl⟩<|.nil) λ_=>.cons (bK.mpr rfl)<|.nil
 have uX:=ζ.Nn C Ed<|lW dG zb Eb dJ;have Qb:=θ.Nn C fc<|lW dG zb Eb dJ;have Gb:=ν.Nn C pb<|lW dG zb Eb dJ;have Rb:=π.Nn C gc<|lW dG zb Eb dJ;have Xb:=KJ.Nn C md<|lW dG zb Eb dJ;have Hb:=NJ.Nn C qb<|lW dG zb Eb dJ;have Vh:Jl l.prog w K mg base "lets" 6 2 vE:=dO (Bb.calm Qb)<|dO (Bb.calm Gb)<|dO (Bb.calm Rb)<|dO (Bb.calm Hb)<|dO (Bb.calm Xb) cE;have Ac:=Y_.ok C<|ϵ Df qJ uX Qb Gb Rb Hb Xb Zd ud Yd Fc;have we:=Z_.ok C<|Ĕ dH Ja zd;have JA:=bO6 (P:=l.prog) (w:=w) (mg:=mg) (base:=base) cL dH dM Ja ia bL aH dc zN jg ka ma Ma Ed fc pb gc qb md qU gd De Of jd Qc xf je Pc ie pK Wi zb Eb gB lK yX Fe Ee de mf Vc Ac we Vh ve kk_Nor_Joint z kk_Less_Joint A kk_Both_Joint si hV;exact JA
theorem bHf{q:Program} {K:Params->Frag} {k:bv} {t:Nat} {r:PySem.W.RowW} {d:DefRec} {l:List (Str×Expr)} {run:Value->ca->Sem Value} (e:∀P,k=(K P).map (·.1)) (h:WalkO q loose XP (InK K) r d l run):PySem.W.WalkX q loose XP (PySem.W.X.obsZ k) (PySem.W.X.valZ K n t) r d l run:=
 λw H F mg p G y a o m E i dV kV D C B A z x c b j L v u s g f=>h w H F mg p G (PySem.W.InK.keeps w _ _ (PySem.W.X.z_facts e y).2.1 L.keeps) a o m E i dV kV D C B A z x c b j v u s g f
theorem walk{l:OpenLaw}{q:Program} {i:KM} {d:DefRec} {K:Params->Frag} (j:l.most=some 63) (n:d.params.defaults=[])
  (k:∀(w:World)(h:Heap),i w h->(K w.params).In h)
  (b:∀c:li,c.length<=63->ow [.lst<|c.map D.int]=.ok (.bl true))
  (F:∀(w:World)(mg:dL)(g:Addr)(h:Heap),(K w.params).In h->h.Ns mainGlobals mg->mg d.name=some (.ref g)->
   ∃e:FuncData,(∀(s:Shared)(u:Value),BindsTo s e ⟨[u],[]⟩ [("_law_script",u)])/\∀base:Heap,(K w.params).In base->base.Ns mainGlobals mg->Ha l.prog w (K w.params) mg base wc 11 g e ["_law_script"] (Xc (K w.params) 1 ow)) :
  WalkO q loose XP i l.row.toRowW d [] (λf vs=>PySem.call f vs):=
 L2.Zq (n:=63) (k:=11) (x:="_law_script") (CX:=λ_=>wc) (sp:=λw=>Xc (K w.params) 1 ow) j (by decide) n ⟨rfl,by decide,by decide⟩ k F (λ_ _ a c hl _ m=>bKg m<|b c hl) λ_ _ _ _ _ z=>z
end Pu
set_option genInjectivity false
set_option genSizeOf false
structure PySem.W.Fast where (tw5113636907681814926 tw11408111647567167459 tw14116781799979590316 tw4905392412631194315 tw4426318969360370074 tw3944289913005361683 tw12113637313127063176 tw15494299699752843917 tw7516392438791408671 tw1900196188940966805 tw1279224018256958793 tw1291146195587390117 tw7995707146319206010 tw8903871153629988519 tw2456576502309229173 tw12498421804117018316 tw1921554453420146194 tw9707778074569115828 tw7132122716283036285 tw10792079656748006968 tw4372649428267550062 tw4695267567226030762 tw13115191392787420157 tw6576148677707890445 tw15532337302806166384 tw144284320159972123 tw2295328576502387783 tw18436772698307763858 tw5818928497344956863 tw11737608086561009880 tw2154156428125050759 tw10601773005583441445 tw11389807286691267944 tw7602732981583077847 tw354919646908611853 tw1550807893864295219 tw9155473114331828456 tw13683553604319719699 tw4375838105863237062 tw14916956284794772882 tw7967185208784374569 tw900640399401712214 tw12022116031454938231 tw14800905016636559728 tw17156171219929576812 tw10106853146170398155 tw420837267097588286 tw10904517236312019551 tw9915050500383897454 tw11582054059059880733 tw247249891295750414 tw18434706119605470460 tw10103211403218732098 tw5501449026591924889 tw3785449685769284168 tw6281902577993332890 tw2107233333853784386 tw1537293242960257530 tw9917438382635806387 tw1740303661211284107 tw6852439425236992870 tw5658491239295728053 tw13336018800840072207 tw11997910595147336069 tw13482326032704998321 tw984896416035139308 tw8661807128058563002 tw17555659343615236956 tw1524522240544336966 tw15822653462814993068 tw9297983870013095913 tw5392266243224012216 tw8405276987446594895 tw2198024676601986454 tw117053803971411409 tw2381613034762876287 tw510190349045411244 tw11077143975727566199 tw11618860396136506116 tw8890499806488336112 tw14980496306644990121 tw10114109352376819952 tw4777274187137604946 tw8836532946216633204 tw18424295885878778762 tw15415571697898606555 tw8287451458317616505 tw12961273488157714826 tw4414736633345193118 tw265704043101464858 tw5610039550473917474 tw14828955404080951722 tw18265934742331550741 tw4003856154479047270 tw8638042301049399355 tw13729012200663721904 tw5518483067981785165 tw11000257258001075080 tw1153510661961269211 tw717195153615375227 tw11818352643143664159 tw16289887071446656929 tw3832569681782024598 tw13584667818476532624 tw17618585693567110320 tw17722011853187099717 tw7628917506096842521 tw18441643079074115368 tw13828571819303952000 tw13748137098879257379 tw12449989042414113706 tw18128666632411251933 tw10678098791508281971 tw18392361663087862066 tw4225840417355785681 tw6646709433487915516 tw4146698139404616230 tw7677621831317598022 tw13565445836532908086 tw18317165542661355940 tw4455953442950631416 tw6681902320821295892 tw3410491085295314019 tw13004757729518623003 tw1230118524464519659 tw15360510725431026807 tw4372815468491788049 tw10489917865131666000 tw11220724139697301393 tw1859913992336243385 tw13477002538541680722 tw12072180584642536271 tw2317795334942436897 tw17114235752670718061 tw13718126148725303139 tw9064490934905680511 tw10528215821117316580 tw10428610097745001147 tw10228646098118239345 tw5755197996933837081 tw9418730581153594655 tw7400443367612724538 tw11506833390030931537 tw920092854275438444 tw7318700952480160234 tw15286278417506762529 tw6142966241116940353 tw8252228528429830866 tw16267133644134864205 tw7519561943194043051 tw17503306931402468822 tw12850156674314014769 tw10591482542517565388 tw7991565976374104716 tw13482940936845677664 tw16148080882898431188 tw5895624959970285813 tw3695397854631114262 tw15215208475890949664 tw14727804150024615059 tw6692654386339469564 tw10711840556319847269 tw1842921390037591324 tw9752347860442305970 tw13461045706281404133 tw10684839612301285891 tw5671652173253910513 tw2891529758415932989 tw6933106777330435206 tw10131263209212220308 tw784776450638242151 tw7666401211476242463 tw11851379924900995717 tw15313689098319839881 tw5269918111689465545 tw6650940858078424112 tw803592311525113978 tw10657096238462387867 tw730014311659530954 tw10017882581733666391 tw13712859382744029825 tw10175788143348701703 tw16624901314656038629 tw16487629363063775227 tw14179182101766849151 tw14046663710113821910 tw1147802987695690685 tw12971645569370643704:Nat)
open PySem PySem.W PyProof.Rows
set_option maxRecDepth 100000 in
set_option maxHeartbeats 0 in
theorem PySem.Challenge.cw_looprank_k56_joints_holds : PySem.Challenge.rw_looprank_k56_joints.Holds := by
 w_on;o_law;z_head;(case hw=>w_witness2)
 k_fill
 refine Pu.bHf (λP=>by kernel_rfl) (Pu.walk (l:=PySem.Challenge.rw_looprank_k56_joints) rfl rfl (λw h Y=>Y) Pu.law_true ?F)
 case F=>
  intro w mg fa h KX G hmg;refine' Pu.all_mk PySem.F.excBase_ValueError KX G hmg ⟨?x_Both,?x1_Both,?x2_Both,?x3_Both,?x4_Both⟩ ⟨?x8_Both,?x9_Both,?y3,?y4,?xo_Both⟩ ?x5_Both ?x6_Both ?ai_Both ⟨?x_Either,?x1_Either,?x2_Either,?x3_Either,?x4_Either⟩ ⟨?x8_Either,?x9_Either,?y3,?y4,?xo_Either⟩ ?x5_Either ?x6_Either ?ai_Either ⟨?x_Joint,?x1_Joint,?x2_Joint,?x3_Joint,?x4_Joint⟩ ⟨?x8_Joint,?x9_Joint,?y3,?y4,?xo_Joint⟩ ?x5_Joint ?x6_Joint ⟨?x_Less,?x1_Less,?x2_Less,?x3_Less,?x4_Less⟩ ⟨?x8_Less,?x9_Less,?y3,?y4,?xo_Less⟩ ?x5_Less ?x6_Less ?ai_Less ⟨?x_Machine,?x1_Machine,?x2_Machine,?x3_Machine,?x4_Machine⟩ ?x5_Machine ?x6_Machine ⟨?x_Nor,?x1_Nor,?x2_Nor,?x3_Nor,?x4_Nor⟩ ⟨?x8_Nor,?x9_Nor,?y3,?y4,?xo_Nor⟩ ?x5_Nor ?x6_Nor ?ai_Nor ⟨?x_Sides,?x1_Sides,?x2_Sides,?x3_Sides,?x4_Sides⟩ ?x5_Sides ?x6_Sides ⟨?x_Unlike,?x1_Unlike,?x2_Unlike,?x3_Unlike,?x4_Unlike⟩ ⟨?x8_Unlike,?x9_Unlike,?y3,?y4,?xo_Unlike⟩ ?x5_Unlike ?x6_Unlike ?ai_Unlike ?kk_Both_Both ?kk_Both_Either ?kk_Both_Joint ?kk_Both_Less ?kk_Both_Nor ?kk_Both_Unlike ?kk_Either_Both ?kk_Either_Either ?kk_Either_Joint ?kk_Either_Less ?kk_Either_Nor ?kk_Either_Unlike ?kk_Less_Both ?kk_Less_Either ?kk_Less_Joint ?kk_Less_Less ?kk_Less_Nor ?kk_Less_Unlike ?kk_Nor_Both ?kk_Nor_Either ?kk_Nor_Joint ?kk_Nor_Less ?kk_Nor_Nor ?kk_Nor_Unlike ?kk_Unlike_Both ?kk_Unlike_Either ?kk_Unlike_Joint ?kk_Unlike_Less ?kk_Unlike_Nor ?kk_Unlike_Unlike ?w_Both_inner ?w_Both_outer ?w_Either_inner ?w_Either_outer ?w_Joint_inner ?w_Joint_outer ?w_Less_inner ?w_Less_outer ?w_Machine_letters ?w_Machine_many ?w_Machine_ranks ?w_Machine_steps ?w_Nor_inner ?w_Nor_outer ?w_Sides_fronts ?w_Sides_lefts ?w_Sides_pairs ?w_Sides_rights ?w_Sides_steps ?w_Unlike_inner ?w_Unlike_outer ?y3 ?y4 (Pu.XA.mk ?y_NoMachine ?y0_NoMachine ?y1_NoMachine ?y6_NoMachine ?y7_NoMachine ?y2_NoMachine ?y5_NoMachine) (Pu.XA.mk ?y_NoRoom ?y0_NoRoom ?y1_NoRoom ?y6_NoRoom ?y7_NoRoom ?y2_NoRoom ?y5_NoRoom) (Pu.XA.mk ?y_NoWord ?y0_NoWord ?y1_NoWord ?y6_NoWord ?y7_NoWord ?y2_NoWord ?y5_NoWord) (Pu.XA.mk ?y_OtherLetters ?y0_OtherLetters ?y1_OtherLetters ?y6_OtherLetters ?y7_OtherLetters ?y2_OtherLetters ?y5_OtherLetters) ?ja_NoWord_NoMachine ?ja_NoWord_NoRoom ?ja_NoWord_NoWord ?ja_NoWord_OtherLetters ?ja_OtherLetters_NoMachine ?ja_OtherLetters_NoRoom ?ja_OtherLetters_NoWord ?ja_OtherLetters_OtherLetters (Pu.eX ?a1 ?l1 ?c1 ?k1) (Pu.eX ?a2 ?l2 ?c2 ?k2) (Pu.eX ?a3 ?l3 ?c3 ?k3) (Pu.eX ?a4 ?l4 ?c4 ?k4) (Pu.eX ?a5 ?l5 ?c5 ?k5) (Pu.eX ?a6 ?l6 ?c6 ?k6) (Pu.eX ?a7 ?l7 ?c7 ?k7) (Pu.eX ?a8 ?l8 ?c8 ?k8) (Pu.eX ?a9 ?l9 ?c9 ?k9) (Pu.eX ?a10 ?l10 ?c10 ?k10) (Pu.eX ?a11 ?l11 ?c11 ?k11) (Pu.eX ?a12 ?l12 ?c12 ?k12) (Pu.eX ?a13 ?l13 ?c13 ?k13) ?a14 ?e14 ?l14 ?c14 ?k14 ?a15 ?e15 ?l15 ?c15 ?k15 (Pu.eX ?a21 ?l21 ?c21 ?k21) (Pu.eX ?a22 ?l22 ?c22 ?k22) (Pu.eX ?a23 ?l23 ?c23 ?k23) (Pu.kO ?a24 ?e24 ?l24 ?c24 ?k24) (Pu.kO ?a25 ?e25 ?l25 ?c25 ?k25) (Pu.kO ?a26 ?e26 ?l26 ?c26 ?k26) (Pu.kO ?a27 ?e27 ?l27 ?c27 ?k27) (Pu.kO ?a28 ?e28 ?l28 ?c28 ?k28) (Pu.kO ?a29 ?e29 ?l29 ?c29 ?k29) (Pu.eX ?a30 ?l30 ?c30 ?k30) (Pu.eX ?a31 ?l31 ?c31 ?k31) (Pu.eX ?a32 ?l32 ?c32 ?k32) (Pu.eX ?a33 ?l33 ?c33 ?k33) (Pu.eX ?a34 ?l34 ?c34 ?k34) (Pu.eX ?a35 ?l35 ?c35 ?k35) (Pu.eX ?a36 ?l36 ?c36 ?k36) (Pu.eX ?a37 ?l37 ?c37 ?k37) (Pu.eX ?a38 ?l38 ?c38 ?k38) (Pu.eX ?a39 ?l39 ?c39 ?k39) (Pu.eX ?a40 ?l40 ?c40 ?k40) (Pu.eX ?a41 ?l41 ?c41 ?k41) (Pu.eX ?a42 ?l42 ?c42 ?k42) (Pu.eX ?a43 ?l43 ?c43 ?k43) (Pu.eX ?a44 ?l44 ?c44 ?k44) (Pu.eX ?a45 ?l45 ?c45 ?k45) (Pu.eX ?a46 ?l46 ?c46 ?k46) (Pu.kO ?a47 ?e47 ?l47 ?c47 ?k47) ?a48 ?e48 ?l48 ?c48 ?k48 ?a49 ?l49 ?t49 ?c49 ?k49 (Pu.eX ?a50 ?l50 ?c50 ?k50) (Pu.kO ?a51 ?e51 ?l51 ?c51 ?k51) (Pu.eX ?a52 ?l52 ?c52 ?k52) (Pu.eX ?a53 ?l53 ?c53 ?k53) (Pu.eX ?a54 ?l54 ?c54 ?k54) (Pu.eX ?a55 ?l55 ?c55 ?k55) ?a56 ?e56 ?l56 ?c56 ?k56 ?a57 ?e57 ?l57 ?t57 ?c57 ?k57 ?a58 ?e58 ?l58 ?t58 ?c58 ?k58 (Pu.kO ?a59 ?e59 ?l59 ?c59 ?k59) (Pu.eX ?a60 ?l60 ?c60 ?k60) (Pu.eX ?a61 ?l61 ?c61 ?k61) ?a62 ?l62 ?c62 ?k62 (Pu.kO ?aI0 ?eI0 ?lI0 ?cI0 ?kI0) (Pu.kO ?aI1 ?eI1 ?lI1 ?cI1 ?kI1) (Pu.kO ?aI2 ?eI2 ?lI2 ?cI2 ?kI2) (Pu.kO ?aI3 ?eI3 ?lI3 ?cI3 ?kI3) (Pu.kO ?aI4 ?eI4 ?lI4 ?cI4 ?kI4) (Pu.kO ?aI5 ?eI5 ?lI5 ?cI5 ?kI5) (Pu.kO ?aI6 ?eI6 ?lI6 ?cI6 ?kI6) (Pu.kO ?aI7 ?eI7 ?lI7 ?cI7 ?kI7) (Pu.kO ?aI8 ?eI8 ?lI8 ?cI8 ?kI8) (Pu.kO ?aI9 ?eI9 ?lI9 ?cI9 ?kI9) (Pu.kO ?aI10 ?eI10 ?lI10 ?cI10 ?kI10) (Pu.kO ?aI11 ?eI11 ?lI11 ?cI11 ?kI11) (Pu.kO ?aI12 ?eI12 ?lI12 ?cI12 ?kI12) (Pu.kO ?aI13 ?eI13 ?lI13 ?cI13 ?kI13) (Pu.kO ?aI14 ?eI14 ?lI14 ?cI14 ?kI14) ?v_LETTERS ?v_MOST_LETTERS ?v_MOST_ROOMS ?z_all ?z_bool ?z_enumerate ?z_int ?z_isinstance ?z_len ?z_list ?z_max ?z_min ?z_range ?z_set ?z_sorted ?z_str ?z_tuple ?z_zip
  (case x_Both|x1_Both|x2_Both|x3_Both|x4_Both=>k_is)
  (case x8_Both=>kit_is)
  (case x9_Both|y3|y4|xo_Both|x5_Both|x6_Both|ai_Both|x_Either|x1_Either|x2_Either|x3_Either|x4_Either=>k_is)
  (case x8_Either=>kit_is)
  (case x9_Either|xo_Either|x5_Either|x6_Either|ai_Either|x_Joint|x1_Joint|x2_Joint|x3_Joint|x4_Joint=>k_is)
  (case x8_Joint=>kit_is)
  (case x9_Joint|xo_Joint|x5_Joint|x6_Joint|x_Less|x1_Less|x2_Less|x3_Less|x4_Less=>k_is)
  (case x8_Less=>kit_is)
  (case x9_Less|xo_Less|x5_Less|x6_Less|ai_Less|x_Machine|x1_Machine|x2_Machine|x3_Machine|x4_Machine|x5_Machine|x6_Machine|x_Nor|x1_Nor|x2_Nor|x3_Nor|x4_Nor=>k_is)
  (case x8_Nor=>kit_is)
  (case x9_Nor|xo_Nor|x5_Nor|x6_Nor|ai_Nor|x_Sides|x1_Sides|x2_Sides|x3_Sides|x4_Sides|x5_Sides|x6_Sides|x_Unlike|x1_Unlike|x2_Unlike|x3_Unlike|x4_Unlike=>k_is)
  (case x8_Unlike=>kit_is)
  (case x9_Unlike|xo_Unlike|x5_Unlike|x6_Unlike|ai_Unlike=>k_is)
  (case kk_Both_Both|kk_Both_Either|kk_Both_Joint|kk_Both_Less|kk_Both_Nor|kk_Both_Unlike|kk_Either_Both|kk_Either_Either|kk_Either_Joint|kk_Either_Less|kk_Either_Nor|kk_Either_Unlike|kk_Less_Both|kk_Less_Either|kk_Less_Joint|kk_Less_Less|kk_Less_Nor|kk_Less_Unlike|kk_Nor_Both|kk_Nor_Either|kk_Nor_Joint|kk_Nor_Less|kk_Nor_Nor|kk_Nor_Unlike=>kit_is)
  (case kk_Unlike_Both|kk_Unlike_Either|kk_Unlike_Joint|kk_Unlike_Less|kk_Unlike_Nor|kk_Unlike_Unlike=>kit_is)
  (case w_Both_inner|w_Both_outer|w_Either_inner|w_Either_outer|w_Joint_inner|w_Joint_outer|w_Less_inner|w_Less_outer|w_Machine_letters|w_Machine_many|w_Machine_ranks|w_Machine_steps|w_Nor_inner|w_Nor_outer|w_Sides_fronts|w_Sides_lefts|w_Sides_pairs|w_Sides_rights|w_Sides_steps|w_Unlike_inner|w_Unlike_outer|y_NoMachine=>k_is)
  (case y0_NoMachine=>k_exc)
  (case y1_NoMachine|y6_NoMachine|y7_NoMachine|y2_NoMachine|y5_NoMachine|y_NoRoom=>k_is)
  (case y0_NoRoom=>k_exc)
  (case y1_NoRoom|y6_NoRoom|y7_NoRoom|y2_NoRoom|y5_NoRoom|y_NoWord=>k_is)
  (case y0_NoWord=>k_exc)
  (case y1_NoWord|y6_NoWord|y7_NoWord|y2_NoWord|y5_NoWord|y_OtherLetters=>k_is)
  (case y0_OtherLetters=>k_exc)
  (case y1_OtherLetters|y6_OtherLetters|y7_OtherLetters|y2_OtherLetters|y5_OtherLetters|ja_NoWord_NoMachine|ja_NoWord_NoRoom|ja_NoWord_NoWord|ja_NoWord_OtherLetters|ja_OtherLetters_NoMachine|ja_OtherLetters_NoRoom|ja_OtherLetters_NoWord|ja_OtherLetters_OtherLetters|a1|l1|c1|k1|a2|l2|c2|k2|a3|l3|c3=>k_is)
  (case k3|a4|l4|c4|k4|a5|l5|c5|k5|a6|l6|c6|k6|a7|l7|c7|k7|a8|l8|c8|k8|a9|l9|c9=>k_is)
  (case k9|a10|l10|c10|k10|a11|l11|c11|k11|a12|l12|c12|k12|a13|l13|c13|k13|a14|e14|l14|c14|k14|a15|e15=>k_is)
  (case l15|c15|k15|a21|l21|c21|k21|a22|l22|c22|k22|a23|l23|c23|k23|a24|e24|l24|c24|k24|a25|e25|l25|c25=>k_is)
  (case k25|a26|e26|l26|c26|k26|a27|e27|l27|c27|k27|a28|e28|l28|c28|k28|a29|e29|l29|c29|k29|a30|l30|c30=>k_is)
  (case k30|a31|l31|c31|k31|a32|l32|c32|k32|a33|l33|c33|k33|a34|l34|c34|k34|a35|l35|c35|k35|a36|l36|c36=>k_is)
  (case k36|a37|l37|c37|k37|a38|l38|c38|k38|a39|l39|c39|k39|a40|l40|c40|k40|a41|l41|c41|k41|a42|l42|c42=>k_is)
  (case k42|a43|l43|c43|k43|a44|l44|c44|k44|a45|l45|c45|k45|a46|l46|c46|k46|a47|e47|l47|c47|k47|a48|e48=>k_is)
  (case l48|c48|k48|a49|l49|t49|c49|k49|a50|l50|c50|k50|a51|e51|l51|c51|k51|a52|l52|c52|k52|a53|l53|c53=>k_is)
  (case k53|a54|l54|c54|k54|a55|l55|c55|k55|a56|e56|l56|c56|k56|a57|e57|l57|t57|c57|k57|a58|e58|l58|t58=>k_is)
  (case c58|k58|a59|e59|l59|c59|k59|a60|l60|c60|k60|a61|l61|c61|k61|a62|l62|c62|k62|aI0|eI0|lI0|cI0|kI0=>k_is)
  (case aI1|eI1|lI1|cI1|kI1|aI2|eI2|lI2|cI2|kI2|aI3|eI3|lI3|cI3|kI3|aI4|eI4|lI4|cI4|kI4|aI5|eI5|lI5|cI5=>k_is)
  (case kI5|aI6|eI6|lI6|cI6|kI6|aI7|eI7|lI7|cI7|kI7|aI8|eI8|lI8|cI8|kI8|aI9|eI9|lI9|cI9|kI9|aI10|eI10|lI10=>k_is)
  (case cI10|kI10|aI11|eI11|lI11|cI11|kI11|aI12|eI12|lI12|cI12|kI12|aI13|eI13|lI13|cI13|kI13|aI14|eI14|lI14|cI14|kI14|v_LETTERS|v_MOST_LETTERS=>k_is)
  (case v_MOST_ROOMS|z_all|z_bool|z_enumerate|z_int|z_isinstance|z_len|z_list|z_max|z_min|z_range|z_set|z_sorted|z_str|z_tuple|z_zip=>k_is)
