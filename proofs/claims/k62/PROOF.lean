import PyProof.Rows.All
import Wide.All
import OpenK.AllK
import Wide.FinOn
import Lean
import PyProof.EqAt
import PyProof.EqKinds
import PyProof.TupleCall
import PyProof.P3Eq
import PyProof.NeKinds
import PyProof.NsDelKeeps
import PyProof.RulesAs
import PyProof.ExcAttrAll.ValueError
import KE.KSortKey
import KE.KSortTup
import KE.KDictLaws
import KE.KDictLetter
import KE.KItemsList
import KE.KMinKey
import PyProof.DictUpdate
import KE.KPairComp
import PySem.Challenge.RW_looprank_k62_parted_rooms
set_option compiler.extract_closed false
set_option bootstrap.genMatcherCode false
noncomputable section
set_option Elab.async false
set_option linter.all false
set_option maxRecDepth 100000
def xa:=@PySem.wpAny_bind
def Xb:=@PySem.Heap.get?_push_of_some
def Kc:=@List.getElem?_eq_getElem
def Uc:=@Classical.byContradiction
def qb:=@List.mem_cons_self
def Mb:=@List.mem_cons_of_mem
def Ma:=@PySem.wpAny_pure
def Ee:=@List.getElem?_eq_some_iff
def Pb:=@Nat.le_refl
def Ke:=@List.mem_append_right
def qc:=@List.mem_cons
def Hd:=@List.mem_singleton
def de:=@PySem.Heap.get?_push_size
def bf:=@List.getD_eq_getElem?_getD
def uc:=@PySem.Heap.lt_size
def Rb:=@List.length_map
def Jd:=@decide_eq_true
def pe:=@decide_eq_false
def Sf:=@List.mem_append_left
def Ud:=@List.length_append
def gd:=@List.mem_map
def jg:=@List.mem_of_getElem?
def Pa:=@if_neg
def Jf:=@List.size_toArray
def Ed:=@List.length_cons
def tf:=@List.mem_append
def Vd:=@Nat.ne_of_lt
def Xd:=@Nat.le_trans
def rg:=@Nat.lt_of_lt_of_le
def qf:=@List.mem_range
def ug:=@List.getElem?_set
def jb:=@if_pos
def Vf:=@List.mem_filter
def Dj:=@Array.getElem?_eq_getElem
def ik:=@List.getElem?_append_left
def qh:=@decide_eq_true_eq
def rh:=@List.getElem?_map
def Ug:=@List.length_singleton
def Hg:=@List.map_append
def Vg:=@List.getElem_mem
def Bh:=@List.append_assoc
def Yf:=@PySem.wpAny_holding
def Dg:=@List.map_map
def Rl:=@PySem.Heap.get?_update_other
def Ki:=@PySem.wpAny_call_entry
def uh:=@Nat.lt_irrefl
def Mh:=@PySem.Heap.size_push
def Lm:=@List.length_eq_zero_iff
def Mm:=@PySem.wpAny_callSpecial?_slot
def Ul:=@List.mem_iff_getElem?
def Vl:=@PySem.Heap.get?_update_self
def Sk:=@PySem.mem_of_lookup
def Uk:=@List.replicate_succ
def gf:=@List.map_cons
def Tq:=@PyProof.Rows.callWith_type1
def Wl:=@Bool.false_ne_true
def Xl:=@List.nodup_append
def Yl:=@PySem.wpAny_newObj_type
def jk:=@PySem.codeAny_builtin
def lj:=@List.nodup_cons
def Ej:=@PySem.wpAny_seqItems
def qp:=@List.getElem?_eq_none
def rp:=@PySem.F.slot_zip_next
def Vk:=@Option.some.inj
def Ef:=@Nat.zero_le
def Nh:=@List.append_nil
def vo:=@of_decide_eq_true
def ow:=@List.getElem?_append_right
def pw:=@Array.getElem?_eq_some_iff
def Li:=@PySem.wpAny_field
def wo:=@List.length_replicate
def Us:=@List.append_eq_nil_iff
def xo:=@decide_eq_decide
def Uq:=@beq_eq_false_iff_ne
def nk:=@List.length_range
def az:=@PySem.F.slot_dict_keyiterator_next
def Vq:=@PySem.wpAny_Call_Name_kw
def bz:=@List.idxOf_lt_length_of_mem
def Fj:=@List.lookup_cons
def yo:=@PySem.wpAny_ite_split
def qw:=@PySem.F.plainAttrs_list
def Zl:=@PySem.plainId_quiet
def Vs:=@List.mem_iff_getElem
def Ws:=@List.drop_eq_getElem_cons
def vp:=@Array.getElem?_toList
def Xs:=@List.map_congr_left
def Ys:=@Nat.add_sub_cancel_left
def Zs:=@PySem.Heap.SameBut.update
def zo:=@List.flatten_cons
def vg:=@Ne.symm
def xp:=@PySem.wpAny_updateSeq
def Gj:=@PySem.wpAny_mono
def bt:=@PySem.wpAny_setField_rec
def Hj:=@PySem.W.mg_none_of
def Ao:=@Int.toNat_natCast
def Wk:=@Bool.and_eq_true
def KG:=@PySem.wpAny_typeNameOfWhole_keyiter
def Xk:=@List.length_nil
def cz:=@PySem.F.plainAttrs_dict
def Bo:=@PySem.wpAny_attempt
def dt:=@PySem.wpAny_truthy_bool
def ft:=@PySem.wpAny_pyIter_list
def fm:=@PySem.sizeLine_eq
def Yk:=@List.foldl_cons
def tw:=@Array.length_toList
def dz:=@PySem.F.plain_min_loop
def jt:=@List.getElem_map
def Co:=@Nat.le_of_lt
def SQ:=@List.findIdx?_eq_some_iff_getElem
def gz:=@PySem.Obj.isFreed_of_fields
def uw:=@PySem.Obj.data_mapFields
def LG:=@List.pairwise_iff_getElem
def Wq:=@PySem.wpAny_setField
def MG:=@PySem.F.plain_extend_loop
def iz:=@List.range_eq_range'
def jz:=@List.exists_mem_of_ne_nil
def ot:=@PySem.wpAny_passesOwn
def gm:=@List.length_set
def NG:=@PySem.wpAny_typeNameOf_keyiter
def vw:=@PySem.wpAny_setState_of
def yp:=@PySem.codeAny_mono
def OG:=@PySem.wpAny_getItem_str_slice
def QG:=@PySem.F.slot_list_index
def mz:=@PySem.wpAny_setEntries_of
def ww:=@List.any_eq_true
def xw:=@Nat.eq_of_testBit_eq
def yw:=@List.length_filter_le
def zw:=@List.getElem?_toArray
def Aw:=@PySem.wpAny_isInstance
def Bw:=@PySem.wpAny_askSetting
def Nm:=@beq_iff_eq
def qt:=@PySem.wpAny_tryCatch
def RG:=@PySem.wpAny_nextOf_list_item
def SG:=@PySem.F.entry_zip_next
def UG:=@PySem.F.entry_min_loop
def nz:=@PySem.tupleKind_room_in1
def oz:=@List.mem_replicate
def Xq:=@Nat.ne_of_gt
def Yq:=@Nat.lt_trans
def Cw:=@Bool.eq_iff_iff
def zp:=@Nat.not_lt_zero
def VG:=@PySem.wpAny_nextOf_list_end
def WG:=@Array.getD_eq_getD_getElem?
def vt:=@Nat.lt_succ_self
def xt:=@PySem.wpAny_standAt
def Eo:=@PySem.call_meets
def yt:=@List.zip_cons_cons
def TQ:=@Nat.lt_pow_two_of_testBit
def Dw:=@Nat.mul_le_mul
def Ew:=@PySem.wpAny_fieldsOf
def pz:=@List.mem_flatMap
def qz:=@List.all_eq_true
def XG:=@List.filterMap_cons
def YG:=@List.length_pos_iff
def ZG:=@List.filter_eq_self
def Zq:=@PySem.wpAny_letGo
def Fw:=@List.length_range'
def uz:=@PySem.wpAny_specialOf
def UQ:=@PySem.F.args_zip_next_1
def VQ:=@PySem.F.slot_dict_items
def WQ:=@PySem.Calls.callWith_builtin
def XQ:=@PySem.F.slot_list_append
def YQ:=@List.take_of_length_le
def ZQ:=@List.drop_of_length_le
def eR:=@List.pairwise_lt_range
def fR:=@Array.getElem?_eq_none
def AH:=@List.any_eq_false
def i_:=@List.takeWhile_append_dropWhile
def ar:=@PySem.wpAny_rule
def BH:=@List.ext_getElem?
def CH:=@PySem.wpAny_pyIter_slot
def DH:=@PySem.fits_of_scanBound
def vz:=@PySem.isSubtype_stop
def kR:=@PySem.F.slot_list_clear
def Iw:=@Nat.add_comm
def zt:=@List.nil_append
def sR:=@PySem.F.slot_dict_get
def Jw:=@List.any_map
def j_:=@List.Nodup.length_le_of_subset
def Kw:=@Nat.zero_add
def k_:=@PySem.F.args_dict_keyiterator_next_1
def EH:=@List.length_take
def l_:=@PySem.AutoSeq1.list_clear_list_0
def FH:=@Nat.le_add_right
def m_:=@PySem.F.entry_dict_keyiterator_next
def AR:=@List.getElem?_set_ne
def BR:=@PySem.wpAny_updateSeq_pair
def Bt:=@List.any_cons
def n_:=@PySem.F.slot_dict_setdefault
def GH:=@PySem.wpAny_execs_nil
def DR:=@PySem.W.plainGet_of
def ER:=@Int.toNat_of_nonneg
def HH:=@PySem.PassesOwn.never
def IH:=@PySem.post_val_or_str
def JH:=@List.getElem_toArray
def Dt:=@List.nodup_nil
def o_:=@PySem.Calls.Name_function_global
def p_:=@Int.fdiv_eq_ediv_of_nonneg
def q_:=@Array.perm_iff_toList_perm
def r_:=@List.dropWhile_cons_of_pos
def s_:=@List.takeWhile_cons_of_pos
def t_:=@List.length_eraseIdx_of_lt
def FR:=@Int.natCast_nonneg
def wz:=@Nat.le_of_eq
def GR:=@PySem.Calls.spliced_cons
def HR:=@PySem.W.callWith_K
def yz:=@PySem.call_meetsIn
def JR:=@List.map_singleton
def Az:=@Nat.zero_testBit
def KR:=@List.getElem_idxOf
def LR:=@Nat.lt_of_le_of_lt
def MR:=@List.getElem?_cons_succ
def Bz:=@PySem.F.called_set
def Io:=@Nat.le_succ
def u_:=@List.getLast?_eq_getElem?
def v_:=@PySem.F.args_list_index_2
def w_:=@PySem.F.entry_extend_loop
def KH:=@List.Perm.refl
def NR:=@PySem.Calls.spliced_nil
def x_:=@Option.isSome_iff_exists
def OR:=@Option.isSome_map
def Lw:=@Nat.testBit_or
def Mw:=@Bool.or_eq_true
def PR:=@Nat.lt_trichotomy
def QR:=@Nat.le_of_succ_le
def y_:=@PySem.F.entry_list_index
def z_:=@PySem.SeqAt.list_indexAt
def RR:=@PySem.wpAny_dictEntries
def A_:=@PyProof.Rows.boot_sorted
def B_:=@PySem.F.slot_dict_values
def C_:=@PySem.F.args_list_append_2
def D_:=@PySem.F.args_dict_get_2
def E_:=@decide_eq_false_iff_not
def LH:=@PySem.wpAny_onRaise
def F_:=@PySem.F.type_list_index
def G_:=@PySem.F.type_dict_items
def H_:=@PySem.F.plain_list_iadd
def SR:=@PySem.W.makes_of
def I_:=@List.getElem?_set_self
def J_:=@PySem.W.cellsFrom_some
def K_:=@PySem.F.entry_dict_get
def L_:=@Nat.testBit_lt_two_pow
def M_:=@List.find?_cons_of_pos
def N_:=@List.find?_cons_of_neg
def O_:=@List.range_succ_eq_map
def P_:=@Nat.lt_of_succ_lt_succ
def TR:=@List.of_mem_zip
def MH:=@Nat.succ_mul
def Q_:=@Classical.choose_spec
def UR:=@Int.ediv_nonneg
def OH:=@List.pairwise_map
def R_:=@List.eq_nil_or_concat
def S_:=@List.concat_eq_append
def VR:=@List.range_succ
def PH:=@List.findIdx_cons
def XR:=@PySem.wpAny_dictEpoch
def QH:=@PySem.wpAny_typeOf
def T_:=@PySem.F.slot_zip_iter
def U_:=@List.dropLast_eq_take
def Cz:=@PySem.wpAny_call
def Dz:=@PySem.Walks.list
def Ez:=@PySem.intKind_is
def V_:=@Array.mem_toList_iff
def W_:=@PySem.W.looks_findIn
def X_:=@Nat.pow_le_pow_right
def Y_:=@List.findIdx?_isSome
def Z_:=@Array.getElem_toList
def YR:=@Bool.and_false
def ZR:=@Int.pow_nonneg
def RH:=@Nat.testBit_and
def SH:=@List.drop_length
def TH:=@PySem.wpAny_of_eq
def aS:=@Bool.false_or
def Fz:=@Option.getD_some
def bS:=@Nat.mul_comm
def cS:=@Nat.le_total
def Nw:=@Iff.rfl
section
open PySem PySem.Spec PyProof.Rows
abbrev ac:=List Nat
abbrev am:=List (List Nat)
abbrev be:=Value->Shared->Prop
abbrev bv:=List Addr
abbrev cr:=List Value
abbrev db:=List (Addr×Obj)
abbrev im:=Str->Option Value
abbrev jp:=List (Nat×Nat)
abbrev li:=Array (Option Value)
abbrev ls:=List (Nat×List Nat)
abbrev lv:=List Int
abbrev lw:=Array (Int×Value)
abbrev pi:=Option Addr
abbrev re:=List (Int×Int)
abbrev sK:=Shared->Prop
abbrev tz:=Nat->Nat
abbrev ut:=Option Value->Shared->Prop
abbrev u8:=List Bool
abbrev v4:=Bool->Shared->Prop
abbrev v6:=List ((Nat×Nat)×List Nat)
abbrev wf:=Nat×Nat
abbrev wp:=List Str
abbrev wv:=List String
abbrev wE:=Array Value
abbrev wP:=Unit->Shared->Prop
abbrev wS:=Nat->Nat->Bool
abbrev xz:=Option (Value×Nat)->Shared->Prop
abbrev zn:=List (Str×Addr)
abbrev At:=Nat->Bool
abbrev AT:=Option Int
abbrev Ch:=List Env
abbrev Da:=Nat->Heap->Prop
abbrev Db:=List (Str×Value)
abbrev Fa:=Nat×List Nat
abbrev Fk:=List Value->Shared->Prop
abbrev FS:=Nat->Nat->Prop
abbrev Go:=Int×Int
abbrev GE:=Array Nat
abbrev Is:=Nat×Nat->List Nat
abbrev Ix:=Nat->List Nat->List Nat
abbrev IN:=Nat×Nat->Nat
abbrev KB:=World->Heap->Prop
abbrev KF:=Nat×Nat->List Nat->List (Nat×Nat)
end
open PySem.Str(ofString)
namespace L2
open PySem PySem.Spec PyProof.Rows
abbrev Key:=Sum Int Str
noncomputable def Bs:Key->Value->Bool
 |.inl k,v=>Value.isInt k v
 |.inr x,v=>Value.isStrOf x v
noncomputable def bUc(w:World):Key->Int
 |.inl k=>hashInt k
 |.inr x=>hashStr w x
abbrev _root_.Ev:=List (Key×Value)
abbrev _root_.Gc:=List Key
def gH:∀{k:Key}{v:Value},Bs k v=true->(∃i t,k=Sum.inl i/\v=Value.int i t)\/(∃x t,k=Sum.inr x/\v=Value.str x t)
 |.inl i,v,h=>by
  obtain⟨t,e⟩:=Value.isInt_shape h;exact .inl ⟨i,t,rfl,e⟩
 |.inr x,v,h=>by
  obtain⟨t,e⟩:=Value.isStrOf_shape h;exact .inr ⟨x,t,rfl,e⟩
def bAn(i:Int)(t:Tok):Bs (.inl i) (.int i t)=true:=by simp[Bs,Value.isInt]
def bAo(x:Str)(t:Tok):Bs (.inr x) (.str x t)=true:=by simp[Bs,Value.isStrOf]
def m7(a b:Int):decide ((Sum.inl a:Key)=Sum.inl b)=(a==b):=by
 by_cases e:a=b
 .subst e;simp
 rw[pe<|λq=>e<|Sum.inl.inj q]
 exact(Uq.mpr e).symm
def o7(a b:Str):decide ((Sum.inr a:Key)=Sum.inr b)=decide (a=b):=by
 by_cases e:a=b
 .simp
 rw[pe<|λq=>e<|Sum.inr.inj q,pe e]
def p7(a:Int)(b:Str):decide ((Sum.inl a:Key)=Sum.inr b)=false:=pe (λq=>nomatch q)
def t7(a:Str)(b:Int):decide ((Sum.inr a:Key)=Sum.inl b)=false:=pe (λq=>nomatch q)
def iB(prog:Program)(w:World):PySem.KeyKind prog w Key where
 is:=Bs
 hash:=bUc w
 inj:=λv a b g d=>by
  rcases gH g with ⟨i,t,rfl,rfl⟩|⟨x,t,rfl,rfl⟩
  .rcases gH d with ⟨j,u,rfl,e⟩|⟨y,u,rfl,e⟩
   .injection e with e1 _;rw[e1]
   .exact nomatch e
  .rcases gH d with ⟨j,u,rfl,e⟩|⟨y,u,rfl,e⟩
   .exact nomatch e
   .injection e with e1 _;rw[e1]
 byValue:=λk v h=>by
  rcases gH h with ⟨i,t,rfl,rfl⟩|⟨x,t,rfl,rfl⟩ <;> rfl
 pyHash:=λc h=>by
  rcases gH c with ⟨i,t,rfl,rfl⟩|⟨x,t,rfl,rfl⟩
  .exact wpAny_pyHash_int h
  .exact wpAny_pyHash_str h
 eqBool:=λf c h=>by
  rcases gH f with ⟨i,t,rfl,rfl⟩|⟨x,t,rfl,rfl⟩
  .rcases gH c with ⟨j,u,rfl,rfl⟩|⟨y,u,rfl,rfl⟩
   .rw[m7]at h;exact wpAny_eqBool_int h
   .rw[p7]at h;exact SeqAt.EqAt.int_str i t y u _ _ _ _ h
  .rcases gH c with ⟨j,u,rfl,rfl⟩|⟨y,u,rfl,rfl⟩
   .rw[t7]at h;exact SeqAt.EqAt.str_int x t j u _ _ _ _ h
   .rw[o7]at h;exact wpAny_eqBool_str h
 «strs» := λk x t v h=>by
  rcases gH h with ⟨i,u,rfl,e⟩|⟨y,u,rfl,e⟩
  .exact nomatch e
  .injection e with e1 _
   subst e1;cases v<;>rfl
def š(prog:Program)(w:World)(i:Int)(t:Tok):(iB prog w).is (.inl i) (.int i t)=true:=bAn i t
def Ţ(prog:Program)(w:World)(x:Str)(t:Tok):(iB prog w).is (.inr x) (.str x t)=true:=bAo x t
inductive V where
 |Sb|bl (b:Bool)|int (i:Int)|str (x:Str)|kH (b:Array UInt8)|Sw (b:UInt64)|ref (a:Addr)|ty (n:String)
 deriving DecidableEq
abbrev _root_.o0:=List V
abbrev _root_.s0:=List (Key×V)
abbrev _root_.wn:=List (List Key×V)
abbrev _root_.AC:=List (Str×V)
def RelV:V->Value->Prop
 |.Sb,u=>u=Value.none
 |.bl b,u=>u=Value.bool b
 |.int i,u=>∃t,u=Value.int i t
 |.str x,u=>∃t,u=Value.str x t
 |.kH b,u=>∃t,u=Value.bytes b t
 |.Sw b,u=>∃t,u=Value.float b t
 |.ref a,u=>u=Value.ref a
 |.ty n,u=>u=Value.type n
abbrev Ha:List V->List Value->Prop:=Paired RelV
theorem Ha.length(r:Ha xs us):xs.length=us.length:=Paired.length r
theorem Ha.get:∀{xs:o0}{a:cr}{i:Nat}{x:V},Ha xs a->xs[i]?=some x->∃u,a[i]?=some u/\RelV x u
 |_,_,_,_,.nil,e=>by simp at e
 |_,_,0,_,.cons r _,e=>by simp at e;subst e;exact⟨_,rfl,r⟩
 |_,_,i+1,x,.cons _ t,e=>by
  obtain⟨u,c,b⟩:=Ha.get t (by simpa using e)
  exact⟨u,by simpa using c,b⟩
theorem Ha.set(r:RelV x u):∀{xs:o0}{a:cr}(i:Nat),Ha xs a->Ha (xs.set i x) (a.set i u)
 |_,_,_,.nil=>.nil
 |_,_,0,.cons _ t=>.cons r t
 |_,_,i+1,.cons q t=>.cons q<|Ha.set r i t
theorem Ha.append:∀{xs ys:o0}{b a:cr},Ha xs b->Ha ys a->Ha (xs++ys) (b++a)
 |_,_,_,_,.nil,s=>s
 |_,_,_,_,.cons r t,s=>.cons r<|Ha.append t s
theorem Ha.take:∀{xs:o0}{a:cr}(n:Nat),Ha xs a->Ha (xs.take n) (a.take n)
 |_,_,0,_=>.nil
 |_,_,_+1,.nil=>.nil
 |_,_,n+1,.cons r t=>.cons r<|Ha.take n t
theorem Ha.drop:∀{xs:o0}{a:cr}(n:Nat),Ha xs a->Ha (xs.drop n) (a.drop n)
 |_,_,0,r=>r
 |_,_,_+1,.nil=>.nil
 |_,_,n+1,.cons _ t=>Ha.drop n t
def xi:Option V->Option Value->Prop
 |some v,some u=>RelV v u
 |none,none=>True
 |_,_=>False
def KV{a:Type}:List (a×V)->List (a×Value)->Prop:=Paired λ(p:a×V)(q:a×Value)=>p.1=q.1/\RelV p.2 q.2
noncomputable def kV:Key->V
 |.inl i=>.int i
 |.inr x=>.str x
inductive HO where
 |lst (xs:o0)
 |tup (xs:o0)
 |dK (ua:s0)|dT (ua:wn)
 |set (S:Int->Bool) (n:Nat)
 |ins (C dx:Addr) (fs:AC)
 |own (x:Addr)
 |xd (fs:AC)
 |met (f x:Addr)
 |Yp (lo hi:Int)
 |Fh (o:Obj) (u:HO)
 |Oo (ps:wE)
 |ext (φ:Heap->Prop)
abbrev Hp:=Addr->Option HO
abbrev _root_.xL:=Hp->Prop
abbrev _root_.FB:=Hp->List V->Prop
abbrev _root_.IR:=List V->Hp->Prop
abbrev _root_.KM:=Bool->Hp->Prop
def bb(H:Hp)(a:Addr)(o:HO):Hp:=λb=>if b=a then some o else H b
def bK:bb H a o a=some o:=by unfold bb;rw[jb rfl]
def aW{a b:Addr}(h:b≠a):bb H a o b=H b:=by unfold bb;rw[Pa h]
def P8{H:Hp}(h:H a=some o)(c:H b=some u)(d:o≠u):a≠b:=by
 intro e;subst e;rw[h]at c;exact d<|Vk c
def bD{H:Hp}(h:H a=some o)(c:H b=none):a≠b:=by
 intro e;subst e;rw[h]at c;cases c
section
variable(P:Program)(w:World)
def mQ(H:Hp)(h:Heap)(a:Addr):HO->Prop
 |.lst c=>c.length<=sizeLine/\∃(b:cr)(n:Nat),Ha c b/\h.get? a=some {cls:=.type "list",data:=.seq b.toArray n}
 |.tup c=>c.length<=sizeLine/\∃b:cr,Ha c b/\IsTup h a b.toArray
 |.dK e=>e.length<=sizeLine/\(a==sysModules)=false/\∃j,KV e j/\h.DictOf (iB P w) a j
 |.dT e=>e.length<=sizeLine/\(a==sysModules)=false/\∃c:List (List Key×Addr×Value),
   Paired (λ(p:List Key×V)(q:List Key×Addr×Value)=>p.1=q.1/\H q.2.1=some (.tup<|p.1.map kV)/\RelV p.2 q.2.2) e c/\
   ∃o m y,h.get? a=some o/\o.ExactDict/\o.data=.dict m y/\m.toList=c.map (entryOfKey<|tupleKind<|iB P w)/\(c.map (·.1)).Nodup
 |.set S n=>h.SetOf (intKind P w) a S n
 |.ins C g fs=>H g=some (.own a)/\fs.length<=1000/\g≠a/\h.get? a=some (PySem.W.instObj C g)/\
   ∃d,h.Ns1 g d/\(∀f,xi (fs.lookup f)<|d f)/\PySem.Within d (fs.map (·.1))
 |.own _=>∃o,h.get? a=some o
 |.xd fs=>∃d,h.Ns1 a d/\∀f,xi (fs.lookup f)<|d f
 |.Yp lo s=>∃t u v,h.get? a=some {cls:=.type "range",data:=.fields #[.int lo t,.int s u,.int 1 v]}
 |.Fh o u=>h.get? a=some o/\mQ H h a u
 |.Oo r=>h.get? a=some {cls:=.none,data:=.fields r}
 |.met f x=>h.get? a=some (PySem.W.methodObj (.ref f)<|.ref x)
 |.ext i=>i h/\(∃o,h.get? a=some o)/\∀l k:Heap,i l->(∀o,l.get? a=some o->k.get? a=some o)->i k
def Df(H:Hp)(h:Heap):Prop:=∀a o,H a=some o->mQ P w H h a o
end
section
variable{P:Program}{w:World}{H H':Hp}{h h':Heap}{a:Addr}{o:HO}
theorem mQ.lt(x:mQ P w H h a o):a<h.objs.size:=by
 cases o with
 |lst b=>obtain⟨_,_,_,_,e⟩:=x;exact uc e
 |tup b=>obtain⟨_,_,_,p⟩:=x;exact p.lt
 |dK c=>obtain⟨_,_,_,_,o,_,_,e,_⟩:=x;exact uc e
 |dT c=>obtain⟨_,_,_,_,o,_,_,e,_⟩:=x;exact uc e
 |set S n=>obtain⟨o,_,_,_,e,_⟩:=x;exact uc e
 |ins C j fs=>obtain⟨_,_,_,e,_⟩:=x;exact uc e
 |own y=>obtain⟨_,e⟩:=x;exact uc e
 |xd fs=>obtain⟨_,⟨_,_,_,e,_⟩,_⟩:=x;exact uc e
 |Yp lo i=>obtain⟨_,_,_,e⟩:=x;exact uc e
 |Fh ob u=>obtain⟨e,_⟩:=x;exact uc e
 |Oo g=>exact uc<|x
 |met f y=>exact uc<|x
 |ext d=>obtain⟨_,⟨_,e⟩,_⟩:=x;exact uc e
theorem Paired.Rp{d c:Type}{F G:d->c->Prop}:∀{g:List d}{e:List c},Paired F g e->(∀a b,F a b->G a b)->Paired G g e
 |_,_,.nil,_=>.nil
 |_,_,.cons r t,f=>.cons (f _ _ r)<|Paired.Rp t f
def Paired.imp'{d c:Type}{F G:d->c->Prop}(f:∀a b,F a b->G a b){g:List d}{e:List c}(r:Paired F g e):Paired G g e:=Paired.Rp r f
def mQ.Ye(x:mQ P w H h a o)(k:∀b u,(b=a\/H b=some (.own a))->h.get? b=some u->h'.get? b=some u)
  (F:∀b,H b=some (.own a)->H' b=some (.own a)) (E:∀b xs,H b=some (.tup xs)->H' b=some (.tup xs)):mQ P w H' h' a o:=by
 induction o with
 |lst xs=>obtain⟨z,j,n,r,e⟩:=x;exact⟨z,j,n,r,k _ _ (.inl rfl) e⟩
 |tup xs=>obtain⟨z,j,r,ob,e,c⟩:=x;exact⟨z,j,r,ob,k _ _ (.inl rfl) e,c⟩
 |dK A=>obtain⟨z,y,s,r,ob,g,i,e,c⟩:=x;exact⟨z,y,s,r,ob,g,i,k _ _ (.inl rfl) e,c⟩
 |dT A=>
  obtain⟨z,y,xs,r,ob,g,i,e,c⟩:=x;exact⟨z,y,xs,Paired.Rp r λp q z=>⟨z.1,E _ _ z.2.1,z.2.2⟩,ob,g,i,k _ _ (.inl rfl) e,c⟩
 |set S n=>obtain⟨ob,g,i,t,e,c⟩:=x;exact⟨ob,g,i,t,k _ _ (.inl rfl) e,c⟩
 |ins C K fs=>
  obtain⟨d,z,B,e,m,⟨l,g,i,e2,c⟩,r⟩:=x;exact⟨F _ d,z,B,k _ _ (.inl rfl) e,m,⟨l,g,i,k _ _ (.inr d) e2,c⟩,r⟩
 |own y=>obtain⟨ob,e⟩:=x;exact⟨ob,k _ _ (.inl rfl) e⟩
 |xd fs=>obtain⟨m,⟨l,g,i,e,c⟩,r⟩:=x;exact⟨m,⟨l,g,i,k _ _ (.inl rfl) e,c⟩,r⟩
 |Yp lo J=>obtain⟨t,u,v,e⟩:=x;exact⟨t,u,v,k _ _ (.inl rfl) e⟩
 |Fh ob u D=>obtain⟨e,q⟩:=x;exact⟨k _ _ (.inl rfl) e,D q⟩
 |Oo I=>
  exact k a _ (.inl rfl) x
 |met f y=>
  exact k a _ (.inl rfl) x
 |ext G=>obtain⟨p,⟨o,e⟩,st⟩:=x;exact⟨st _ _ p λo q=>k _ _ (.inl rfl) q,⟨o,k _ _ (.inl rfl) e⟩,st⟩
theorem Df.lt(x:Df P w H h)(e:H a=some o):a<h.objs.size:=(x a o e).lt
def Df.fresh(x:Df P w H h)(e:h.objs.size<=a):H a=none:=by
 cases q:H a with
 |none=>rfl
 |some u=>exact absurd (rg (x.lt q) e)<|uh _
def Df.kept(x:Df P w H h)(k:∀b u,h.get? b=some u->h'.get? b=some u):Df P w H h':=λa o e=>
 (x a o e).Ye (λb u _ q=>k b u q) (λ_ q=>q) λ_ _ q=>q
def Df.laid(x:Df P w H h)(k:∀b u,h.get? b=some u->h'.get? b=some u)(i:h.objs.size<=a)(d:mQ P w (bb H a o) h' a o):Df P w (bb H a o) h':=λb u e=>by
 have f:=x.fresh i
 by_cases g:b=a
 .subst g;rw[bK]at e;cases e;exact d
 rw[aW g]at e;exact(x b u e).Ye (λc v _ q=>k c v q) (λc q=>by rwa [aW<|bD q f]) λc j q=>by rwa [aW<|bD q f]
end
def Rd(H:Hp)(a:Addr)(u:HO):Prop:=H a=some u\/∃o,H a=some (.Fh o u)
def Rd.ok{w:World}(r:Rd H a u)(x:Df P w H h):mQ P w H h a u:=by
 rcases r with r|⟨o,r⟩
 .exact x a u r
 obtain⟨_,q⟩:=x a _ r;exact q
def yj:Option HO->Prop
 |some (.lst _)=>True
 |some (.dK _)=>True
 |some (.dT _)=>True
 |some (.set _ _)=>True
 |some (.ins _ _ _)=>True
 |some (.ext _)=>True
 |_=>False
section
variable{P:Program}{w:World}{H:Hp}{h h':Heap}{x e:Addr}{o':HO}
def Df.write(ok:Df P w H h)(l:yj (H x))(he:e=x\/H e=some (.own x))(k:∀b u,b≠e->h.get? b=some u->h'.get? b=some u)(m:∃u,h'.get? e=some u)
  (g:mQ P w (bb H x o') h' x o'):Df P w (bb H x o') h':=λb u q=>by
 have d:∀c y,H c=some (.own y)->c≠x:=λc y r z=>by subst z;rwa [r]at l
 by_cases f:b=x
 .subst f;rw[bK]at q;cases q;exact g
 rw[aW f]at q
 by_cases a:b=e
 .have j:H b=some (.own x):=by
   rcases he with z|z
   .exact absurd (a.trans z) f
   rwa [a]
  rw[q]at j;cases j;obtain⟨v,n⟩:=m;exact⟨v,by rwa [a]⟩
 refine(ok b u q).Ye (λc v hc r=>k c v ?_ r) (λc r=>by rwa [aW<|d c b r]) λc i r=>by rwa [aW<|(λc i r z=>by subst z;rwa [r]at l) c i r]
 rcases hc with rfl|hc
 .exact a
 rintro rfl;rcases he with z|z
 .exact d c b hc z
 rw[hc]at z;cases z;exact f rfl
end
structure Un(fs ex:bv)(H H':Hp)(h h':Heap):Prop where
 keep:∀b o,h.get? b=some o->H b=none->b∉fs->b∉ex->h'.get? b=some o
 slot:∀b o,h.get? b=some o->H b=none->b∈fs->b∉ex->∃sl,h'.get? b=some {o with slots:=sl}
 free:∀b o,h.get? b=some o->H b=none->b∉ex->H' b=none
 there:∀b o,h.get? b=some o->b∉ex->∃o',h'.get? b=some o'
 Lg:∀b xs,H b=some (.tup xs)->H' b=some (.tup xs)
 yg:∀b o u,H b=some (.Fh o u)->H' b=some (.Fh o u)
 Kg:∀b ps,H b=some (.Oo ps)->∃more,H' b=some (.Oo<|ps++more)
section
variable{fs fs' ex ex':bv}{H H1 H2:Hp}{h h1 h2 h':Heap}{a x e:Addr}{o:HO}
def Un.any(u:Un fs ex H H1 h h1){b:Addr}{ob:Obj}(q:h.get? b=some ob)(n:H b=none)(a:b∉ex):∃d,h1.get? b=some {ob with slots:=d}:=by
 by_cases c:b∈fs
 .exact u.slot b ob q n c a
 exact⟨ob.slots,u.keep b ob q n c a⟩
def Un.kept(k:∀b u,h.get? b=some u->h'.get? b=some u):Un fs ex H H h h':=
 ⟨λb ob q _ _ _=>k b ob q,λb ob q _ _ _=>⟨ob.slots,k b ob q⟩,λ_ _ _ n _=>n,λb ob q _=>⟨ob,k b ob q⟩,λ_ _ q=>q,λ_ _ _ q=>q,λ_ a q=>⟨#[],by rw[q];simp⟩⟩
def Un.refl:Un fs ex H H h h:=Un.kept λ_ _ q=>q
def Un.laid(k:∀b u,h.get? b=some u->h'.get? b=some u)(e:h.objs.size<=a)(c:H a=none):Un fs ex H (bb H a o) h h' where
 keep:=λb u q _ _ _=>k b u q
 slot:=λb u q _ _ _=>⟨u.slots,k b u q⟩
 free:=λb u q n _=>by rwa [aW<|Vd<|rg (uc q) e]
 there:=λb u q _=>⟨u,k b u q⟩
 Lg:=λb d q=>by rwa [aW<|bD q c]
 yg:=λb u d q=>by rwa [aW<|bD q c]
 Kg:=λb f q=>⟨#[],by rw[aW<|bD q c,q];simp⟩
def Un.write(c:yj (H x))(he:e=x\/H e=some (.own x))(k:∀b u,b≠e->h.get? b=some u->h'.get? b=some u)(l:∃u,h'.get? e=some u):Un fs ex H (bb H x o) h h':=by
 have f:∀b,H b=none->b≠x:=λb n z=>by subst z;rwa [n]at c
 have g:∀b,H b=none->b≠e:=λb n z=>by
  subst z;rcases he with r|r
  .exact f b n r
  rw[n]at r;cases r
 have d:∀b u,H b=some u->¬ yj (some u)->b≠x:=λb u q j z=>by subst z;rw[q]at c;exact j c
 refine⟨λb u q n _ _=>k b u (g b n) q,λb u q n _ _=>⟨u.slots,k b u (g b n) q⟩,λb u q n _=>by rwa [aW<|f b n],λb u q _=>?_,
  λb i q=>by rwa [aW<|d b _ q λz=>z],λb u i q=>by rwa [aW<|d b _ q λz=>z],λb m q=>⟨#[],by rw[aW<|d b _ q λz=>z,q];simp⟩⟩
 by_cases a:b=e
 .subst a;exact l
 exact⟨u,k b u a q⟩
end
noncomputable def trk(h:Heap)(H:Hp):bv:=(List.range h.objs.size).filter λa=>(H a).isSome
def Wv(h:Heap)(H:Hp):Heap:=PySem.W.hideAll h<|trk h H
def bAq(h:Heap)(H:Hp):(Wv h H).objs.size=h.objs.size:=PySem.W.hideAll_size _ _
def bDd{h:Heap}{H:Hp}(e:h.get? b=some o)(n:H b=none):(Wv h H).get? b=some o:=
 PySem.W.hideAll_get _ e λa=>by
  have q:=(Vf.mp a).2;rw[n]at q;simp at q
def bI7(e:(Wv h H).get? b=some o):h.get? b=some o/\H b=none:=by
 have a:=PySem.W.of_hideAll _ e;refine⟨a,?_⟩;cases q:H b with
 |none=>rfl
 |some x=>
  have z:(Wv h H).get? b=none:=PySem.W.hideAll_none _<|Vf.mpr ⟨qf.mpr<|uc a,by simp[q]⟩
  rw[z]at e;cases e
noncomputable def bI8(g h:Heap)(L:Addr):db:=(List.range h.objs.size).filterMap λa=>if a=L\/(g.get? a).isSome=true then none else (h.get? a).map λo=>(a,o)
noncomputable def rest(g h:Heap)(L d:Addr):db:=(bI8 g h L).filter λp=>decide (p.1≠d)
structure Mod(K:PySem.W.Frag)(mg:im)(base:Heap):Prop where
 oB:K.In base
 glob:base.Ns mainGlobals mg
 blt:∃mb,base.Ns builtinsNs mb/\∀x:Str,x≠"__name__"->mb x=bootBuiltins x
 nolimit:base.NoLimit
structure Cx where
 prog:Program
 w:World
 K:PySem.W.Frag
 mg:im
 base:Heap
 A:Around
 N:wp
 Ga:Shared
 La:Hp
 env:Env
 outer:Ch
 stack:Ch
 ex:bv
 fn:Str->Bool
 calm:Bool
 pn:db
 xe:be
noncomputable def Zk(l:Ch):bv:=l.filterMap (·.frame)
abbrev Cx.fs(X:Cx):bv:=Zk X.outer
def Ah(a:Scope)(x:Str):Prop:=a.names.lookup x=some .local\/a.names.lookup x=some .cell\/a.names.lookup x=some .free
def Loc(a:Scope)(x:Str):Prop:=a.names.lookup x=some .local\/a.names.lookup x=some .cell
def Look(env:Env)(h:Heap)(m:im)(x:Str)(u:Value):Prop:=
 (env.kindOf x=some .local/\m x=some u)\/((env.kindOf x=some .cell\/env.kindOf x=some .free)/\∃c,env.cells.lookup x=some c/\h.IsCell c (some u))
structure Cx.Ok(X:Cx):Prop where
 mod:Mod X.K X.mg X.base
 kind:X.env.scope.kind=.function
 glob:X.env.globals=mainGlobals
 blt:X.env.builtins=builtinsNs
 above:X.Ga.heap.objs.size<=X.env.locals
 inj:∀x y c,X.env.cells.lookup x=some c->X.env.cells.lookup y=some c->x=y
 has:∀x,(X.env.kindOf x=some .cell\/X.env.kindOf x=some .free)->∃c,X.env.cells.lookup x=some c
 Gz:∀x c,X.fn x=true->X.env.cells.lookup x=some c->X.Ga.heap.objs.size<=c
 hd:X.calm=true->X.A.handled=none
 frames:X.A.frames=some X.stack
 QI:X.stack=X.outer\/(X.stack=X.env::X.outer/\X.env.frame=some X.env.locals)
 XH:∀b∈X.ex,b≠X.env.locals/\∀x c,X.env.cells.lookup x=some c->c≠b
 bs:∀b o,X.base.get? b=some o->X.Ga.heap.get? b=some o/\X.La b=none
 Ho:X.base.objs.size<=X.Ga.heap.objs.size
 Kn:∀b o,X.base.get? b=some o->b∉X.ex
 Sm:∀b∈X.ex,b∉X.fs
 zg:X.Ga.heap.FunFrames X.base X.outer
 jr:∀b∈X.fs,X.La b=none
structure Ba(X:Cx)(aa:db)(σ:List (Option V))(H:Hp)(s:Shared):Prop where
 ok:X.Ok
 os:s.os=X.Ga.os
 bare:AllBare s.gens
 base:Un X.fs X.ex X.La H X.Ga.heap s.heap
 loc:∃m,s.heap.Ns X.env.locals m/\∀(i:Nat)(x:Str)(v:V),X.N[i]?=some x->σ[i]?=some (some v)->Ah X.env.scope x->∃u,RelV v u/\Look X.env s.heap m x u
 cell:∀x c,X.env.cells.lookup x=some c->∃v,s.heap.IsCell c v
 free:H X.env.locals=none
 df:∀x c,X.env.cells.lookup x=some c->H c=none
 pin:∀p∈X.pn++aa,s.heap.get? p.1=some p.2/\H p.1=none/\p.1≠X.env.locals/\p.1∉X.fs/\∀v,p.2.data≠.cell v
 Ta:Df X.prog X.w H s.heap
 len:σ.length=X.N.length
section
variable{X:Cx}{aa:db}{σ:List (Option V)}{H H':Hp}{s:Shared}{h':Heap}
def Cx.Ok.DU(ok:X.Ok){b:Addr}{o:Obj}(e:X.base.get? b=some o):b∉X.fs:=λa=>by
 have:=(ok.zg.mem a).1;rw[e]at this;cases this
theorem Ba.bs(I:Ba X aa σ H s):∀b o,X.base.get? b=some o->s.heap.get? b=some o/\H b=none:=λb o e=>
 ⟨I.base.keep b o (I.ok.bs b o e).1 (I.ok.bs b o e).2 (I.ok.DU e)<|I.ok.Kn b o e,I.base.free b o (I.ok.bs b o e).1 (I.ok.bs b o e).2<|I.ok.Kn b o e⟩
def Ba.bk(I:Ba X aa σ H s):∀b o,X.base.get? b=some o->s.heap.get? b=some o:=λb o e=>(I.bs b o e).1
theorem Ba.mod(I:Ba X aa σ H s):Mod X.K X.mg X.base:=I.ok.mod
def Ba.Og(I:Ba X aa σ H s):X.K.In s.heap:=I.ok.mod.oB.keeps I.bk
theorem Ba.lt(I:Ba X aa σ H s):X.env.locals<s.heap.objs.size:=let ⟨_,a,_⟩:=I.loc;a.lt
def Ba.sz(I:Ba X aa σ H s):X.Ga.heap.objs.size<=s.heap.objs.size:=Xd I.ok.above<|Co I.lt
def Ba.EU(I:Ba X aa σ H s){a:Addr}(h:s.heap.objs.size<=a):a∉X.fs:=λc=>by
 obtain⟨_,o,b,_⟩:=I.ok.zg.mem c;exact absurd (rg (uc b)<|Xd I.sz h)<|uh _
def Ba.Ht(I:Ba X aa σ H s):∀x c,X.env.cells.lookup x=some c->c≠X.env.locals:=λx c e z=>by
 obtain⟨v,o,a,b⟩:=I.cell x c e;obtain⟨m,⟨g,h,i,f,d,_⟩,_⟩:=I.loc;rw[z,f]at a;cases a;rw[d]at b;cases b
theorem Ba.zg(I:Ba X aa σ H s):s.heap.FunFrames X.base X.outer:=by
 have all:∀(l:Ch),(∀b∈Zk l,b∈X.fs)->X.Ga.heap.FunFrames X.base l->s.heap.FunFrames X.base l:=by
  intro l
  induction l with
  |nil=>intro _ _;trivial
  |cons p r g=>
   intro f k;obtain⟨m,⟨L,o,a,j,i,n⟩,h⟩:=k;have d:=f L (by unfold Zk;rw[XG,a];exact qb)
   obtain⟨q,e⟩:=I.base.slot L o i (I.ok.jr L d) d λz=>I.ok.Sm L z d
   exact⟨m,⟨L,_,a,j,e,n⟩,g (λb c=>f b<|by unfold Zk;rw[XG,a];exact Mb _ c) h⟩
 exact all X.outer (λ_ c=>c) I.ok.zg
theorem Ba.stack(I:Ba X aa σ H s):s.heap.FunFrames X.base X.stack:=by
 rcases I.ok.QI with e|⟨e,b⟩
 .rw[e];exact I.zg
 rw[e];obtain⟨m,a,_⟩:=I.loc;exact .cons (by rw[I.ok.kind];decide) b a (Heap.get?_none_of_le<|Xd I.ok.Ho I.ok.above) I.zg
def Ba.Wj(I:Ba X aa σ H s):∀b∈Zk X.stack,b∈X.env.locals::X.fs:=λb a=>by
 rcases I.ok.QI with e|⟨e,c⟩
 .rw[e]at a;exact Mb _ a
 rw[e]at a;unfold Zk at a
 rwa [XG,c]at a
def Ba.Ik(I:Ba X aa σ H s):∀b∈Zk X.stack,H b=none:=λb a=>by
 rcases qc.mp (I.Wj b a) with e|a
 .rw[e];exact I.free
 obtain⟨_,o,c,_⟩:=I.ok.zg.mem a;exact I.base.free b o c (I.ok.jr b a) λz=>I.ok.Sm b z a
def Ba.step{t':Nat}{d':Drawn}{ch:bv}(I:Ba X aa σ H s)
  (A:∀b∈ch,(b∈X.ex\/X.Ga.heap.objs.size<=b)/\b≠X.env.locals/\(∀x c,X.env.cells.lookup x=some c->c≠b)/\∀p∈X.pn++aa,p.1≠b)
  (keep:∀b o,b≠X.env.locals->b∉X.fs->b∉ch->s.heap.get? b=some o->H b=none->h'.get? b=some o)
  (g:∀b o,b≠X.env.locals->b∈X.fs->b∉ch->s.heap.get? b=some o->H b=none->∃D,h'.get? b=some {o with slots:=D}) (free:∀b o,b∉ch->s.heap.get? b=some o->H b=none->H' b=none)
  (h:∀b o,b∉ch->s.heap.get? b=some o->∃o',h'.get? b=some o')
  (T:∀b xs,H b=some (.tup xs)->H' b=some (.tup xs)) (L:∀b o u,H b=some (.Fh o u)->H' b=some (.Fh o u)) (U:∀b ps,H b=some (.Oo ps)->∃y,H' b=some (.Oo<|ps++y))
  (M:∀m,s.heap.Ns X.env.locals m->h'.Ns X.env.locals m) (S:Df X.prog X.w H' h') (R:AllBare g') :
  Ba X aa σ H' {s with heap:=h',gens:=g',drawn:=d',toks:=t'}:=by
 have F:∀b o,X.Ga.heap.get? b=some o->b≠X.env.locals:=λb o e=>Vd<|rg (uc e) I.ok.above
 have B:∀b o,X.Ga.heap.get? b=some o->b∉X.ex->b∉ch:=λb o e a j=>by
  rcases (A b j).1 with z|z
  .exact a z
  exact absurd (rg (uc e) z)<|uh _
 have f:∀x c,X.env.cells.lookup x=some c->∀v,s.heap.IsCell c v->h'.IsCell c v:=λx c e v ⟨o,t,E⟩=>by
  have w:=λz=>(A c z).2.2.1 x c e rfl
  by_cases K:c∈X.fs
  .obtain⟨D,q⟩:=g c o (I.Ht x c e) K w t<|I.df x c e;exact⟨_,q,E⟩
  exact⟨o,keep c o (I.Ht x c e) K w t<|I.df x c e,E⟩
 refine⟨I.ok,I.os,R,⟨λb o e n j a=>?_,λb o e n j a=>?_,λb o e n a=>?_,λb o e a=>?_,λb xs e=>T b xs<|I.base.Lg b xs e,λb o xs e=>L b o xs<|I.base.yg b o xs e,λb ps e=>?_⟩,?_,λx c e=>?_,?_,λx c e=>?_,λp hp=>?_,S,I.len⟩
 .exact keep b o (F b o e) j (B b o e a) (I.base.keep b o e n j a) (I.base.free b o e n a)
 .obtain⟨D,e1⟩:=I.base.slot b o e n j a;obtain⟨C,e2⟩:=g b _ (F b o e) j (B b o e a) e1<|I.base.free b o e n a;exact⟨C,e2⟩
 .obtain⟨o',e1⟩:=I.base.there b o e a;exact free b o' (B b o e a) e1<|I.base.free b o e n a
 .obtain⟨o',e1⟩:=I.base.there b o e a;exact h b o' (B b o e a) e1
 .obtain⟨O,e1⟩:=I.base.Kg b ps e;obtain⟨N,e2⟩:=U b _ e1;exact⟨O++N,by rw[e2,Array.append_assoc]⟩
 .obtain⟨m,P,Q⟩:=I.loc;refine⟨m,M m P,λi x v e1 e2 e3=>?_⟩
  obtain⟨u,r,l⟩:=Q i x v e1 e2 e3;refine⟨u,r,?_⟩;rcases l with l|⟨k,c,e,z⟩
  .exact .inl l
  exact .inr ⟨k,c,e,f x c e _ z⟩
 .obtain⟨v,z⟩:=I.cell x c e;exact⟨v,f x c e v z⟩
 .obtain⟨m,⟨o,_,_,t,_⟩,_⟩:=I.loc;exact free _ o (λz=>(A _ z).2.1 rfl) t I.free
 .obtain⟨v,o,t,E⟩:=I.cell x c e;exact free c o (λz=>(A c z).2.2.1 x c e rfl) t<|I.df x c e
 obtain⟨e,n,J,G,d⟩:=I.pin p hp;have w:=λz=>(A p.1 z).2.2.2 p hp rfl
 exact⟨keep p.1 p.2 J G w e n,free p.1 p.2 w e n,J,G,d⟩
def Ba.un{t':Nat}(I:Ba X aa σ H s)(u:Un X.fs [] H H' s.heap h')(j:Df X.prog X.w H' h'):Ba X aa σ H' {s with heap:=h',toks:=t'}:=by
 obtain⟨m,⟨o,t,v,d,r⟩,_⟩:=id I.loc;obtain⟨l,i⟩:=u.any d I.free (by simp)
 exact I.step (ch:=[]) (λ_ z=>nomatch z) (λb o _ a _ e n=>u.keep b o e n a<|by simp) (λb o _ a _ e n=>u.slot b o e n a<|by simp) (λb o _ e n=>u.free b o e n<|by simp) (λb o _ e=>u.there b o e<|by simp) u.Lg u.yg u.Kg (λq h=>by
  obtain⟨p,g,k,c,f⟩:=h;rw[d]at c;cases c;exact⟨_,g,k,i,f⟩) j I.bare
def Ba.call{t':Nat}{d':Drawn}(I:Ba X aa σ H s)(u:Un (Zk X.stack) ch H H' s.heap h')(t:Df X.prog X.w H' h')(l:AllBare g')
  (h:∀b∈ch,(b∈X.ex\/X.Ga.heap.objs.size<=b)/\b≠X.env.locals/\(∀x c,X.env.cells.lookup x=some c->c≠b)/\∀p∈X.pn++aa,p.1≠b) :
  Ba X aa σ H' {s with heap:=h',gens:=g',drawn:=d',toks:=t'}:=by
 obtain⟨m,⟨o,B,C,g,r⟩,_⟩:=id I.loc;obtain⟨w,d⟩:=u.any g I.free λz=>(h _ z).2.1 rfl
 exact I.step h (λb o d q a e n=>u.keep b o e n (λz=>(qc.mp<|I.Wj b z).elim d q) a) (λb o _ _ a e n=>u.any e n a) (λb o a e n=>u.free b o e n a) (λb o a e=>u.there b o e a) u.Lg u.yg u.Kg (λA k=>by
  obtain⟨y,j,v,f,i⟩:=k;rw[g]at f;cases f;exact⟨_,j,v,d,i⟩) t l
def Ba.turned{t':Nat}{it:Addr}(I:Ba X aa σ H s)(k:∀b o,b≠it->s.heap.get? b=some o->h'.get? b=some o)(g:H it=none)(a:it≠X.env.locals)
  (j:it∈X.ex\/X.Ga.heap.objs.size<=it) (i:∀x c,X.env.cells.lookup x=some c->c≠it) (h:∀p∈X.pn++aa,p.1≠it):Ba X aa σ H {s with heap:=h',toks:=t'}:=by
 have d:∀b u,H b=some u->b≠it:=λb u e z=>by rw[z,g]at e;cases e
 refine I.step (ch:=[it]) (λb hb=>?_) (λb o _ _ hc e _=>k b o (λz=>hc<|by simp[z]) e) (λb o _ _ hc e _=>⟨o.slots,k b o (λz=>hc<|by simp[z]) e⟩) (λ_ _ _ _ n=>n)
  (λb o hc e=>⟨o,k b o (λz=>hc<|by simp[z]) e⟩) (λ_ _ e=>e) (λ_ _ _ e=>e) (λb w e=>⟨#[],by rw[e];simp⟩) (λm hm=>?_) (λb u e=>?_) I.bare
 .have e:=by simpa using hb
  subst e;exact⟨j,a,i,h⟩
 .obtain⟨o,l,t,f,r⟩:=hm;exact⟨o,l,t,k _ o (vg a) f,r⟩
 refine(I.Ta b u e).Ye (λc v hc q=>k c v ?_ q) (λ_ q=>q) λ_ _ q=>q
 rcases hc with z|z
 .rw[z];exact d b u e
 exact d c _ z
def Ba.tok(I:Ba X aa σ H s)(t:Nat):Ba X aa σ H {s with toks:=t}:=I.un Un.refl I.Ta
theorem Ba.kept{t':Nat}(I:Ba X aa σ H s)(k:∀b u,s.heap.get? b=some u->h'.get? b=some u):Ba X aa σ H {s with heap:=h',toks:=t'}:=I.un (Un.kept k)<|I.Ta.kept k
theorem Ba.laid{a:Addr}{t':Nat}(I:Ba X aa σ H s)(k:∀b u,s.heap.get? b=some u->h'.get? b=some u)(d:s.heap.objs.size<=a)(c:mQ X.prog X.w (bb H a o) h' a o) :
  Ba X aa σ (bb H a o) {s with heap:=h',toks:=t'}:=I.un (Un.laid k d<|I.Ta.fresh d)<|I.Ta.laid k d c
theorem Ba.write{e:Addr}{t':Nat}(I:Ba X aa σ H s)(c:yj (H x))(he:e=x\/H e=some (.own x))(k:∀b u,b≠e->s.heap.get? b=some u->h'.get? b=some u)(d:∃u,h'.get? e=some u)
  (a:mQ X.prog X.w (bb H x o) h' x o):Ba X aa σ (bb H x o) {s with heap:=h',toks:=t'}:=I.un (Un.write c he k d)<|I.Ta.write c he k d a
def Ba.ki{a:db}(I:Ba X aa σ H s)(h:∀p∈a,s.heap.get? p.1=some p.2/\H p.1=none/\p.1≠X.env.locals/\p.1∉X.fs/\∀v,p.2.data≠.cell v):Ba X a σ H s:=
 ⟨I.ok,I.os,I.bare,I.base,I.loc,I.cell,I.free,I.df,λp b=>(tf.mp b).elim (λz=>I.pin p<|Sf _ z)<|h p,I.Ta,I.len⟩
def E1{N:wp}(c:N.Nodup){i j:Nat}{x:Str}(a:N[i]?=some x)(b:N[j]?=some x):i=j:=by
 obtain⟨e,e1⟩:=Ee.mp a;obtain⟨d,e2⟩:=Ee.mp b;exact(List.getElem_inj c).mp (e1.trans e2.symm)
def NZ{E:be}{i:Nat}{Q:wP}(I:Ba X aa σ H s)(Y:X.N.Nodup)(B:X.N[i]?=some x)(l:Loc X.env.scope x)(r:RelV v u)
  (h:∀L,Ba X aa (σ.set i<|some v) H L->(∃a,Heap.SameBut a s.heap L.heap/\(a=X.env.locals\/X.env.cells.lookup x=some a))->Q () L) (hf:X.fn x=true\/X.env.scope.names.lookup x=some .local:=by first|exact .inl rfl|exact .inr rfl|assumption):wpAny M A (storeName X.env x u) Q E s:=by
 obtain⟨m,S,W⟩:=id I.loc;have U:i<σ.length:=by rw[I.len];exact(Ee.mp B).1
 have Ht:=I.Ht;have g:∀{a:Addr}{h':Heap},(∃o,s.heap.get? a=some o/\H a=none)->Heap.SameBut a s.heap h'->Df X.prog X.w H h':=λ{a h'} ha f b ob e=>by
  obtain⟨_,_,Ti⟩:=ha;refine(I.Ta b ob e).Ye (λc D hc q=>(f.2 c ?_).trans q) (λ_ q=>q) λ_ _ q=>q
  rintro rfl;rcases hc with rfl|hc
  .rw[Ti]at e;cases e
  rw[Ti]at hc;cases hc
 rcases l with t|t
 .refine wpAny_storeName_local t S (λh' hn' f=>?_) (by rw[I.ok.kind];rfl)
  obtain⟨oL,_,_,R,_⟩:=id S;refine h _ ⟨I.ok,I.os,I.bare,⟨λb o e n hb l=>?_,λb o e n hb l=>?_,I.base.free,λb o e l=>?_,I.base.Lg,I.base.yg,I.base.Kg⟩,⟨_,hn',λj y v' e1 e2 e3=>?_⟩,λy c e=>?_,I.free,I.df,λp hp=>?_,g ⟨oL,R,I.free⟩ f,by simpa using I.len⟩ ⟨_,f,.inl rfl⟩
  .exact(f.2 b<|Vd<|rg (uc e) I.ok.above).trans (I.base.keep b o e n hb l)
  .obtain⟨K,e1⟩:=I.base.slot b o e n hb l;exact⟨K,(f.2 b<|Vd<|rg (uc e) I.ok.above).trans e1⟩
  .obtain⟨O,e1⟩:=I.base.there b o e l;exact⟨O,(f.2 b<|Vd<|rg (uc e) I.ok.above).trans e1⟩
  .by_cases w:j=i
   .subst w;rw[B]at e1;cases e1;rw[I_ U]at e2;cases e2;exact⟨u,r,.inl ⟨t,by simp⟩⟩
   rw[AR<|vg w]at e2;obtain⟨J,N,q⟩:=W j y v' e1 e2 e3;refine⟨J,N,?_⟩;rcases q with ⟨k,e⟩|⟨k,c,e,z⟩
   .refine .inl ⟨k,?_⟩;have:y≠x:=λe=>w (E1 Y e1<|e ▸ B)
    simp[this,e]
   exact .inr ⟨k,c,e,z.sameBut f<|Ht y c e⟩
  .obtain⟨D,z⟩:=I.cell y c e;exact⟨D,z.sameBut f<|Ht y c e⟩
  obtain⟨e,n,F,P,d⟩:=I.pin p hp;exact⟨(f.2 p.1 F).trans e,n,F,P,d⟩
 have T:X.fn x=true:=by
  rcases hf with z|z
  .exact z
  rw[z]at t;cases t
 obtain⟨c,hc⟩:=I.ok.has x<|.inl t;obtain⟨D,z⟩:=I.cell x c hc;refine wpAny_storeName_cell I.ok.kind t hc z<|λh' Qh f=>?_
 obtain⟨oc,Z,V⟩:=id z;refine h {s with heap:=h'} ⟨I.ok,I.os,I.bare,⟨λb o e n hb l=>?_,λb o e n hb l=>?_,I.base.free,λb o e l=>?_,I.base.Lg,I.base.yg,I.base.Kg⟩,⟨m,S.sameBut f<|vg<|Ht x c hc,λj y v' e1 e2 e3=>?_⟩,λy G e=>?_,I.free,I.df,λp hp=>?_,g ⟨oc,Z,I.df x c hc⟩ f,by simpa using I.len⟩ ⟨c,f,.inr hc⟩
 .exact(f.2 b<|Vd<|rg (uc e)<|I.ok.Gz x c T hc).trans (I.base.keep b o e n hb l)
 .obtain⟨K,e1⟩:=I.base.slot b o e n hb l;exact⟨K,(f.2 b<|Vd<|rg (uc e)<|I.ok.Gz x c T hc).trans e1⟩
 .obtain⟨O,e1⟩:=I.base.there b o e l;exact⟨O,(f.2 b<|Vd<|rg (uc e)<|I.ok.Gz x c T hc).trans e1⟩
 .by_cases w:j=i
  .subst w;rw[B]at e1;cases e1;rw[I_ U]at e2;cases e2;exact⟨u,r,.inr ⟨.inl t,c,hc,Qh⟩⟩
  rw[AR<|vg w]at e2;obtain⟨J,N,q⟩:=W j y v' e1 e2 e3;refine⟨J,N,?_⟩;rcases q with q|⟨k,G,e,z'⟩
  .exact .inl q
  refine .inr ⟨k,G,e,z'.sameBut f ?_⟩;rintro rfl;exact w<|E1 Y e1<|I.ok.inj _ _ _ e hc ▸ B
 .by_cases C:G=c
  .subst C;exact⟨_,Qh⟩
  obtain⟨w2,z2⟩:=I.cell y G e;exact⟨w2,z2.sameBut f C⟩
 obtain⟨e,n,F,P,d⟩:=I.pin p hp;refine⟨(f.2 p.1 ?_).trans e,n,F,P,d⟩;intro q;rw[q,Z]at e;exact d D (by rwa [<-(Vk e)])
def xf{E:be}{i:Nat}{Q:wP}(I:Ba X aa σ H s)(e:X.N.Nodup)(c:X.N[i]?=some x)(b:Loc X.env.scope x)(r:RelV v u)
  (h:∀a,Ba X aa (σ.set i<|some v) H a->Q () a) (d:X.fn x=true\/X.env.scope.names.lookup x=some .local:=by first|exact .inl rfl|exact .inr rfl|assumption):wpAny M A (storeName X.env x u) Q E s:=
 NZ I e c b r (λa f _=>h a f) d
end
abbrev XK:=Value->Option Addr->Hp->Prop
abbrev St:=List<|Option V
abbrev VK:=V->xL
abbrev _root_.pp:=V->Option Int->Option Int->Hp->VK->Prop
abbrev _root_.sw:=V->List V->Hp->VK->Prop
abbrev _root_.GM:=List V->Hp->VK->Prop
abbrev _root_.GT:=V->Hp->VK->Prop
abbrev TE:=St->Hp->VK->Prop
abbrev TT:=St->Hp->(Bool->Hp->Prop)->Prop
abbrev TA:=St->Hp->(List V->Hp->Prop)->Prop
structure Ends where
 nx:St->xL
 rt:VK
 bk:St->xL:=λ_ _=>False
 ct:St->xL:=λ_ _=>False
abbrev TS:=Ends->St->xL
def EP(X:Cx)(d:db)(b:St)(Q:VK)(u:Value)(c:Shared):Prop:=∃v a,Ba X d b a c/\RelV v u/\Q v a
def TP(X:Cx)(e:db)(c:St)(Q:KM)(b:Bool)(d:Shared):Prop:=∃a,Ba X e c a d/\Q b a
def AP(X:Cx)(f:db)(c:St)(Q:IR)(d:cr)(e:Shared):Prop:=∃a b,Ba X f c b e/\Ha a d/\Q a b
def SP(X:Cx)(d:db)(D:Ends)(f:Flow)(c:Shared):Prop:=
 match f with
 |.next=>∃b a,Ba X d b a c/\D.nx b a
 |.brk=>∃b a,Ba X d b a c/\D.bk b a
 |.cont=>∃b a,Ba X d b a c/\D.ct b a
 |.ret u=>∃v b a,Ba X d b a c/\RelV v u/\D.rt v a
def PE(X:Cx)(e:Expr)(t:TE):Prop:=
 ∀(b:db) (s:Shared) (a:St) (H:Hp) (Q:VK),Ba X b a H s->t a H Q->wpAny (model X.prog X.w) X.A (eval e X.env) (EP X b a Q) X.xe s
def PT(X:Cx)(e:Expr)(t:TT):Prop:=
 ∀(b:db) (s:Shared) (a:St) (H:Hp) (Q:KM),Ba X b a H s->t a H Q->wpAny (model X.prog X.w) X.A (isTrue e X.env<|eval e X.env) (TP X b a Q) X.xe s
def PW(X:Cx)(e:Expr)(t:TT):Prop:=
 ∀(whole:Sem Value) (b:db) (s:Shared) (a:St) (H:Hp) (Q:KM),Ba X b a H s->t a H Q->wpAny (model X.prog X.w) X.A (isTrue e X.env whole) (TP X b a Q) X.xe s
def PW.pt{X:Cx}{t:TT}(h:PW X e t):PT X e t:=h _
def PA(X:Cx)(d:List Expr)(t:TA):Prop:=
 ∀(b:Pos) (c:db) (s:Shared) (a:St) (H:Hp) (Q:IR),Ba X c a H s->t a H Q->wpAny (model X.prog X.w) X.A (spliced<|backTo b<|starEach d X.env) (AP X c a Q) X.xe s
def PS(X:Cx)(st:Stmt)(t:TS):Prop:=
 ∀(b:db) (s:Shared) (a:St) (H:Hp) (D:Ends),Ba X b a H s->t D a H->wpAny (model X.prog X.w) X.A (exec st X.env) (SP X b D) X.xe s
def Dd(X:Cx)(st:List Stmt)(t:TS):Prop:=
 ∀(b:db) (s:Shared) (a:St) (H:Hp) (D:Ends),Ba X b a H s->t D a H->wpAny (model X.prog X.w) X.A (execs st X.env) (SP X b D) X.xe s
def Vb{b:Type}{t:Sem b}{Q c:b->sK}{E:be}(h:wpAny M A t Q E s)(d:∀a s,Q a s->c a s):wpAny M A t c E s:=Gj h d λ_ _ x=>x
section
variable{X:Cx}
def N9(i:Nat):TE:=λa H Q=>∃v,a[i]?=some (some v)/\Q v H
def tC(v:V):TE:=λ_ H Q=>Q v H
def oF{i:Nat}(t:X.N[i]?=some x)(n:Ah X.env.scope x)(d:(x==("__debug__":Str))=false:=by decide)(k:(x==("__classdict__":Str))=false:=by decide):PE X (.Name x pos) (N9 i):=by
 intro w s j H Q I h;obtain⟨v,e,h⟩:=h;obtain⟨m,o,q⟩:=I.loc;obtain⟨u,r,l⟩:=q i x v t e n;have b:EP X w j Q u s:=⟨v,H,I,r,h⟩;rcases l with ⟨a,p⟩|⟨a,c,g,f⟩
 .exact wpAny_Name (wpAny_loadName_local I.ok.kind a o p b) d
 rcases a with a|a
 .exact wpAny_Name (wpAny_loadName_cell I.ok.kind a g f b) d
 exact wpAny_Name (wpAny_loadName_free I.ok.kind a g f b k) d
def u7{i j pos}:PE X (.Constant (.int i) j pos) (tC<|.int i):=λ_ _ _ H _ I h=>wpAny_Constant_int ⟨.int i,H,I.tok _,⟨_,rfl⟩,h⟩
def bR8{b j pos}:PE X (.Constant (.bool b) j pos) (tC<|.bl b):=λ_ _ _ H _ I h=>Constant_bool ⟨.bl b,H,I,rfl,h⟩
def v7{j pos}:PE X (.Constant .none j pos) (tC .Sb):=λ_ _ _ H _ I h=>Constant_none ⟨.Sb,H,I,rfl,h⟩
def bNh{x j pos}:PE X (.Constant (.str x) j pos) (tC<|.str x):=λ_ _ _ H _ I h=>Calls.Constant_str ⟨.str x,H,I.tok _,⟨_,rfl⟩,h⟩
def Gl(X:Cx)(x:Str):Prop:=X.env.kindOf x=some .globalImplicit
abbrev pf(x:Str):Prop:=(x==("__debug__":Str))=false
abbrev Yi(x:Str):Prop:=(x==("__classdict__":Str))=false
theorem tj{a:Scope}(h:(match a.names.lookup x with|some .local|some .cell|some .free=>true|_=>false)=true):Ah a x:=by
 unfold Ah;split at h<;>simp_all
theorem Dl{a:Scope}(h:(match a.names.lookup x with|some .local|some .cell=>true|_=>false)=true):Loc a x:=by
 unfold Loc;split at h<;>simp_all
abbrev sj(X:Cx)(x:Str):Prop:=X.fn x=true\/X.env.scope.names.lookup x=some .local
abbrev sf(e:Expr)(a:List Expr)(E:Env):Prop:=starEach (e::a) E=(false,eval e E)::starEach a E
abbrev Zi(p:Pos)(a:List Expr)(E:Env):Prop:=(backTo p<|starEach a E).any (·.1)=false
abbrev tm(p:Pos)(a:List Expr)(E:Env):Prop:=((backTo p<|starEach a E).all (λx=>!x.1)&&(backToKw p<|keywordEach [] E).all (λx=>x.1.isSome)
 && decide (a.length+([]:List Keyword).length+(if ([]:List Keyword).isEmpty then 0 else 1)<30))=true
abbrev Pg(o:Expr)(m:Str)(E:Env):Prop:=attributeBase o m E (eval o E)=eval o E
abbrev Jh(a c:Pos):Prop:=(a.endLine==c.line)=true
abbrev aj(e:Expr)(t:Option Expr)(l:Nat)(E:Env):Prop:=swapsWith e t l E=pure false
def FD{E:be}{Q:be}(I:Ba X aa σ H s)(b:Gl X x)(a:X.mg x=some u)(h:Q u s)
  (c:pf x:=by decide):wpAny (model X.prog X.w) X.A (eval (.Name x pos) X.env) Q E s:=
 o_ I.ok.kind b (Calls.loadGlobal_global (by rw[I.ok.glob];exact I.mod.glob.keeps I.bk) a h) c
def uV{E:be}{Q:be}(I:Ba X aa σ H s)(d:Gl X x)(c:X.mg x=none)(a:bootBuiltins x=some u)(h:Q u s)
  (b:x≠"__name__":=by decide) (e:pf x:=by decide):wpAny (model X.prog X.w) X.A (eval (.Name x pos) X.env) Q E s:=by
 obtain⟨i,g,f⟩:=I.mod.blt;exact o_ I.ok.kind d (Calls.loadGlobal_builtin (by rw[I.ok.glob];exact I.mod.glob.keeps I.bk) c (by rw[I.ok.blt];exact g.keeps I.bk) ((f x b).trans a) h) e
def GD(b:Gl X x)(a:X.mg x=some u)(r:RelV v u)(c:pf x:=by decide):PE X (.Name x pos) (tC v):=
 λ_ _ _ H _ I h=>FD I b a ⟨v,H,I,r,h⟩ c
def bI9(d:Gl X x)(c:X.mg x=none)(a:bootBuiltins x=some u)(r:RelV v u)(b:x≠"__name__":=by decide)(e:pf x:=by decide):PE X (.Name x pos) (tC v):=
 λ_ _ _ H _ I h=>uV I d c a ⟨v,H,I,r,h⟩ b e
variable{a b:Expr}{ta tb:TE}{pos:Pos}
def tB(t:TE):TT:=λa H Q=>t a H λx b=>∃c,x=.bl c/\Q c b
def bNi{t:TE}(h:PE X e t)(he:∀whole,isTrue e X.env whole=(do let v <- whole;standAt e.pos;holding [v] (truthy v)):=by intro _;rfl):PT X e (tB t):=by
 intro c s a H Q I b;refine isTrue_plain (Vb (h c s a H _ I b) λv f ⟨x,H1,I1,r1,q1⟩=>?_)<|he _
 obtain⟨d,rfl,q⟩:=q1;cases r1;exact dt ⟨H1,I1,q⟩
variable{tA RI:TT}{rest:List Expr}
def bUd(t u:TT):TT:=λa H Q=>t a H λc b=>if c=true then u a b Q else Q false b
def tOr(t u:TT):TT:=λa H Q=>t a H λc b=>if c=true then Q true b else u a b Q
def bUe(t:TT):TT:=λa H Q=>t a H λc b=>Q (!c) b
def bIa(d:PT X a tA):PW X (.BoolOp .And [a] pos) tA:=by
 intro g f s b H Q I h;refine isTrue_and<|Vb (d f s b H Q I h) λc i e=>?_
 cases c with
 |true=>exact isTrue_and_nil e
 |false=>exact e
def bNj(d:PT X a tA):PW X (.BoolOp .Or [a] pos) tA:=by
 intro g f s b H Q I h;refine isTrue_or<|Vb (d f s b H Q I h) λc i e=>?_
 cases c with
 |false=>exact isTrue_or_nil e
 |true=>exact e
def bNk(m:PT X a tA)(l:PW X (.BoolOp .And (b::rest) pos) RI):PW X (.BoolOp .And (a::b::rest) pos) (bUd tA RI):=by
 intro j f s d H Q I h;refine isTrue_and<|Vb (m f s d H _ I h) λc k ⟨i,g,e⟩=>?_
 cases c with
 |true=>exact l j f k d i Q g e
 |false=>exact⟨i,g,e⟩
def bR9(m:PT X a tA)(l:PW X (.BoolOp .Or (b::rest) pos) RI):PW X (.BoolOp .Or (a::b::rest) pos) (tOr tA RI):=by
 intro j f s d H Q I h;refine isTrue_or<|Vb (m f s d H _ I h) λc k ⟨i,g,e⟩=>?_
 cases c with
 |true=>exact⟨i,g,e⟩
 |false=>exact l j f k d i Q g e
def bNl(c:PT X a tA):PT X (.UnaryOp .Not a pos) (bUe tA):=by
 intro d s b H Q I h;exact isTrue_not<|c d s b H _ I h
def bRa(e d:TE):TE:=λa H Q=>e a H λx b=>∃c,x=.bl c/\if c=true then d a b Q else Q (.bl false) b
def bUf(e d:TE):TE:=λa H Q=>e a H λx b=>∃c,x=.bl c/\if c=true then Q (.bl true) b else d a b Q
def bRb(b:TE):TE:=λa H Q=>b a H λx d=>∃c,x=.bl c/\Q (.bl<|!c) d
def A7{op}{t:TE}(h:PE X a t):PE X (.BoolOp op [a] pos) t:=λd s b H Q I c=>BoolOp_one<|h d s b H Q I c
def bNm(m:PE X a ta)(l:PE X (.BoolOp .And (b::rest) pos) tb):PE X (.BoolOp .And (a::b::rest) pos) (bRa ta tb):=by
 intro f s e H Q I h;refine BoolOp_and<|Vb (m f s e H _ I h) λv j ⟨x,i,g,k,d⟩=>?_
 obtain⟨c,rfl,d⟩:=d;cases k;refine dt ?_
 cases c with
 |true=>exact l f j e i Q g d
 |false=>exact⟨.bl false,i,g,rfl,d⟩
def bRc(m:PE X a ta)(l:PE X (.BoolOp .Or (b::rest) pos) tb):PE X (.BoolOp .Or (a::b::rest) pos) (bUf ta tb):=by
 intro f s e H Q I h;refine BoolOp_or<|Vb (m f s e H _ I h) λv j ⟨x,i,g,k,d⟩=>?_
 obtain⟨c,rfl,d⟩:=d;cases k;refine dt ?_
 cases c with
 |false=>exact l f j e i Q g d
 |true=>exact⟨.bl true,i,g,rfl,d⟩
def bNn(f:PE X a ta):PE X (.UnaryOp .Not a pos) (bRb ta):=by
 intro g s d H Q I h;refine UnaryOp_<|Vb (f g s d H _ I h) λv k ⟨x,j,i,e,b⟩=>?_
 obtain⟨c,rfl,b⟩:=b;cases e;exact not_of<|dt ⟨.bl<|!c,j,i,rfl,b⟩
def tIf(t:TT)(e d:TE):TE:=λa H Q=>t a H λc b=>if c=true then e a b Q else d a b Q
def bDh(l:PT X c tA)(n:PE X a ta)(m:PE X b tb):PE X (.IfExp c a b pos) (tIf tA ta tb):=by
 intro f s e H Q I h;refine wpAny_IfExp<|Vb (l f s e H _ I h) λd g ⟨k,j,i⟩=>?_
 cases d with
 |true=>exact n f g e k Q j i
 |false=>exact m f g e k Q j i
end
def Qc(K:PySem.W.Frag)(H:Hp)(a:Addr)(xs:o0):Prop:=
 Rd H a (.lst xs)\/
  ∃(o:Obj)(b:wE)(n:Nat),K.lookup a=some o/\o.cls=.type "list"/\o.dict=none/\o.data=.seq b n/\b.size<=sizeLine/\Ha xs b.toList
def Xf(K:PySem.W.Frag)(H:Hp)(a:Addr)(xs:o0):Prop:=
 Rd H a (.tup xs)\/
  ∃(o:Obj)(b:wE)(n:Nat),K.lookup a=some o/\o.cls=.type "tuple"/\o.data=.seq b n/\b.size<=sizeLine/\Ha xs b.toList
noncomputable def bUg:Value->Option V
 |.none=>some .Sb
 |.bool b=>some<|.bl b
 |.int i _=>some<|.int i
 |.str x _=>some<|.str x
 |.bytes b _=>some<|.kH b
 |.float b _=>some<|.Sw b
 |.ref a=>some<|.ref a
 |.type n=>some<|.ty n
 |_=>none
def RelV.abs(r:RelV x u):bUg u=some x:=by
 cases x with
 |Sb=>cases r;rfl
 |bl _=>cases r;rfl
 |int _=>obtain⟨t,rfl⟩:=r;rfl
 |str _=>obtain⟨t,rfl⟩:=r;rfl
 |kH _=>obtain⟨t,rfl⟩:=r;rfl
 |Sw _=>obtain⟨t,rfl⟩:=r;rfl
 |ref _=>cases r;rfl
 |ty _=>cases r;rfl
def RelV.inj{x y:V}{u:Value}(r:RelV x u)(q:RelV y u):x=y:=Vk<|r.abs.symm.trans q.abs
theorem Ha.inj:∀{xs ys:o0}{a:cr},Ha xs a->Ha ys a->xs=ys
 |_,_,_,.nil,.nil=>rfl
 |_,_,_,.cons r t,.cons c b=>by rw[r.inj c,Ha.inj t b]
section
variable{X:Cx}{aa:db}{σ:St}{H:Hp}{s:Shared}{a:Addr}{xs ys:o0}
def Qc.of{K:PySem.W.Frag}(h:H a=some (.lst xs)):Qc K H a xs:=.inl<|.inl h
def Xf.of{K:PySem.W.Frag}(h:H a=some (.tup xs)):Xf K H a xs:=.inl<|.inl h
theorem Ba.list(I:Ba X aa σ H s)(h:Qc X.K H a xs):∃b:cr,Ha xs b/\PlainL s.heap a b.toArray/\xs.length<=sizeLine:=by
 rcases h with h|⟨o,b,n,d,g,f,c,i,r⟩
 .obtain⟨z,b,n,r,e⟩:=h.ok I.Ta;exact⟨b,r,⟨_,n,e,rfl,rfl,rfl⟩,z⟩
 refine⟨b.toList,r,⟨o,n,I.Og a o d,g,f,by simpa using c⟩,?_⟩
 have e:=r.length;simp at e;lia
def Ba.tuple(I:Ba X aa σ H s)(h:Xf X.K H a xs):∃b:cr,Ha xs b/\IsTup s.heap a b.toArray/\xs.length<=sizeLine:=by
 rcases h with h|⟨o,b,n,d,f,c,g,r⟩
 .obtain⟨z,b,r,p⟩:=h.ok I.Ta;exact⟨b,r,p,z⟩
 refine⟨b.toList,r,⟨o,I.Og a o d,f,n,by simpa using c⟩,?_⟩
 have e:=r.length;simp at e;omega
def Ba.fg(I:Ba X aa σ H s)(h:Qc X.K H a xs)(j:Qc X.K H a ys):xs=ys:=by
 obtain⟨i,r,⟨o,n,e,_,_,d⟩,_⟩:=I.list h;obtain⟨b,g,⟨l,m,c,_,_,f⟩,_⟩:=I.list j;rw[e]at c;cases c;rw[d]at f;injection f with k _
 have:=by simpa using congrArg Array.toList k
 subst this;exact r.inj g
def Ba.Th(I:Ba X aa σ H s)(h:Xf X.K H a xs)(j:Xf X.K H a ys):xs=ys:=by
 obtain⟨i,r,⟨o,e,_,n,d⟩,_⟩:=I.tuple h;obtain⟨b,g,⟨l,c,_,m,f⟩,_⟩:=I.tuple j;rw[e]at c;cases c;rw[d]at f;injection f with k _
 have:=by simpa using congrArg Array.toList k
 subst this;exact r.inj g
end
abbrev Cx.Lh(X:Cx)(E:be):Cx:={X with xe:=E}
abbrev Cx.Ln(X:Cx):Cx:=X.Lh λ_ _=>False
theorem Cx.Ok.Lh{X:Cx}(ok:X.Ok)(E:be):(X.Lh E).Ok:=
 ⟨ok.mod,ok.kind,ok.glob,ok.blt,ok.above,ok.inj,ok.has,ok.Gz,ok.hd,ok.frames,ok.QI,ok.XH,ok.bs,ok.Ho,ok.Kn,ok.Sm,ok.zg,ok.jr⟩
def Cx.Ok.Af{X:Cx}{E:be}(ok:(X.Lh E).Ok):X.Ok:=
 ⟨ok.mod,ok.kind,ok.glob,ok.blt,ok.above,ok.inj,ok.has,ok.Gz,ok.hd,ok.frames,ok.QI,ok.XH,ok.bs,ok.Ho,ok.Kn,ok.Sm,ok.zg,ok.jr⟩
section
variable{X:Cx}{aa:db}{σ:St}{H:Hp}{s:Shared}{E:be}
theorem Ba.Lh(I:Ba X aa σ H s)(E:be):Ba (X.Lh E) aa σ H s:=⟨I.ok.Lh E,I.os,I.bare,I.base,I.loc,I.cell,I.free,I.df,I.pin,I.Ta,I.len⟩
theorem Ba.Af(I:Ba (X.Lh E) aa σ H s):Ba X aa σ H s:=⟨I.ok.Af,I.os,I.bare,I.base,I.loc,I.cell,I.free,I.df,I.pin,I.Ta,I.len⟩
theorem SP.Af{D:Ends}(h:SP (X.Lh E) aa D f s'):SP X aa D f s':=by
 cases f with
 |next=>obtain⟨b,a,I,q⟩:=h;exact⟨b,a,I.Af,q⟩
 |brk=>obtain⟨b,a,I,q⟩:=h;exact⟨b,a,I.Af,q⟩
 |cont=>obtain⟨b,a,I,q⟩:=h;exact⟨b,a,I.Af,q⟩
 |ret u=>obtain⟨v,b,a,I,r,q⟩:=h;exact⟨v,b,a,I.Af,r,q⟩
theorem Dd.Ln{st:List Stmt}{t:TS}(h:Dd X.Ln st t):Dd X st t:=λaa s σ H D I a=>
 Gj (h aa s σ H D (I.Lh _) a) (λ_ _ q=>q.Af) λ_ _ z=>False.elim z
end
section
variable{X:Cx}{st:Stmt}{rest:List Stmt}{t u:TS}{e:Expr}{te:TE}{pos:Pos}
def bRd:TS:=λD a H=>D.nx a H
def bUh(t u:TS):TS:=λD a H=>t {D with nx:=u D} a H
def J4:Dd X [] bRd:=λ_ _ a H _ I h=>GH ⟨a,H,I,h⟩
def Bx(e:PS X st t)(d:Dd X rest u):Dd X (st::rest) (bUh t u):=by
 intro a s b H D I h;refine wpAny_execs_cons<|Vb (e a s b H {D with nx:=u D} I h) λf c q=>?_
 cases f with
 |next=>
  obtain⟨j,i,g,q⟩:=q;exact d a c j i D g q
 |ret v=>exact q
 |brk=>exact q
 |cont=>exact q
def Kx(b:PS X st t):Dd X [st] t:=by
 intro c s a H D I h;refine wpAny_execs_cons<|Vb (b c s a H D I h) λf d q=>?_
 cases f with
 |next=>exact GH q
 |ret v=>exact q
 |brk=>exact q
 |cont=>exact q
def Ba.quiet(I:Ba X aa σ H s):interactive X.env=false:=by simp[interactive,I.ok.kind]
def bRe(te:TE):TS:=λD a H=>te a H λ_ b=>D.nx a b
def Lx(he:PE X e te)(hs:aj e none pos.line X.env:=by rfl):PS X (.Expr e pos) (bRe te):=by
 intro c s a H D I h;exact wpAny_Expr_any (Vb (he c s a H _ I h) λv g ⟨x,f,d,i,b⟩=>⟨a,f,d,b⟩) I.quiet hs
def bUi(te:TE):TS:=λD a H=>te a H D.rt
def iy(he:PE X e te):PS X (.Return (some e) pos) (bUi te):=by
 intro d s a H D I h;exact wpAny_Return_some<|Vb (he d s a H _ I h) λv i ⟨x,g,f,b,c⟩=>⟨x,a,g,f,b,c⟩
def bUj(c:TT)(t u:TS):TS:=λD a H=>c a H λb d=>if b=true then t D a d else u D a d
def Q8(l:PT X c tc)(n:Dd X a t)(m:Dd X b u):PS X (.If c a b pos) (bUj tc t u):=by
 intro f s e H D I h;refine wpAny_If<|Vb (l f s e H _ I h) λd g ⟨k,j,i⟩=>?_
 cases d with
 |true=>exact n f g e k D j i
 |false=>exact m f g e k D j i
end
abbrev TG:=V->St->Hp->(St->xL)->Prop
abbrev Xn:=List V->St->Hp->(St->xL)->Prop
def PG(X:Cx)(a:Expr)(t:TG):Prop:=
 ∀(c:db) (s:Shared) (b:St) (H:Hp) (v:V) (u:Value) (Q:St->xL),Ba X c b H s->RelV v u->t v b H Q->
  wpAny (model X.prog X.w) X.A (assign a X.env u) (λ_ f=>∃e d,Ba X c e d f/\Q e d) X.xe s
def Bm(X:Cx)(g:List Expr)(t:Xn):Prop:=
 ∀(d:db) (s:Shared) (a:St) (H:Hp) (b:o0) (c:cr) (Q:St->xL),Ba X d a H s->Ha b c->t b a H Q->
  wpAny (model X.prog X.w) X.A (assignInOrder ((assignEach g X.env).map (·.2)) c) (λ_ h=>∃f e,Ba X d f e h/\Q f e) X.xe s
abbrev BQ:=V->V->V->Hp->(Hp->Prop)->Prop
def O9(X:Cx)(t:BQ):Prop:=
 ∀(d:db) (s:Shared) (a:St) (H:Hp) (o i v:V) (b c u:Value) (Q:xL),Ba X d a H s->RelV o b->RelV i c->RelV v u->t o i v H Q->
  wpAny (model X.prog X.w) X.A (setItem b c u) (λ_ f=>∃e,Ba X d a e f/\Q e) X.xe s
section
variable{X:Cx}{pos:Pos}
def R8(i:Nat):TG:=λv a H Q=>Q (a.set i<|some v) H
def K4{i:Nat}(d:X.N.Nodup)(b:X.N[i]?=some x)(a:Loc X.env.scope x)(c:sj X x:=by first|exact .inl rfl|exact .inr rfl|assumption):PG X (.Name x pos) (R8 i):=by
 intro j s f H v u Q I r h;exact wpAny_assign_Name<|xf I d b a r (λg e=>⟨_,H,e,h⟩) c
def bUk:Xn:=λb a H Q=>b=[]/\Q a H
def bRg(t:TG)(u:Xn):Xn:=λb a H Q=>∃v r,b=v::r/\t v a H λd c=>u r d c Q
def bIb:Bm X [] bUk:=by
 intro d s a H b c Q I r h;obtain⟨e,h⟩:=h;exact assignInOrder_nil ⟨a,H,I,h⟩
def bDi{e:Expr}{t:TG}(i:PG X e t)(g:Bm X es u)
  (hs:(assignEach (e::es) X.env).map (·.2)=assign e X.env::(assignEach es X.env).map (·.2):=by rfl):Bm X (e::es) (bRg t u):=by
 intro a s b H m o Q I r h;obtain⟨v,n,e1,h⟩:=h;subst e1;cases r with
 |cons r d=>
  rw[hs];exact assignInOrder_cons<|Vb (i a s b H _ _ _ I r h) λ_ c ⟨j,l,k,f⟩=>g a c j l _ _ Q k d f
def bUl(K:PySem.W.Frag)(n:Nat)(t:Xn):TG:=λv c H Q=>∃a b,v=.ref a/\Xf K H a b/\b.length=n/\t b c H Q
def bNp{k:Nat}{t:Xn}{n:Nat}(x:X.calm=true)(h:Bm X es t)
  (q:(assignEach es X.env).length=n:=by rfl) (i:(assignEach es X.env).findIdx? (·.1)=none:=by rfl):PG X (.Tuple es k pos) (bUl X.K n t):=by
 intro y s f H v u Q I r c;obtain⟨a,g,e1,p,w,c⟩:=c;subst e1;cases r;obtain⟨j,d,m,z⟩:=I.tuple p;exact assign_Tuple_tuple (I.ok.hd x) m (by simp[q,<-w,d.length]) i λA l=>h y _ f H g _ Q (I.kept λb o e=>l b o (Vd<|uc e) e) (by simpa using d) c
def bUm(b c:TE)(t:BQ):TG:=λv a H Q=>b a H λo f=>c a f λi e=>t o i v e λd=>Q a d
def bNq{t:BQ}(n:PE X o to)(p:PE X i ti)(hs:O9 X t)
  (q:∀v,assign (.Subscript o i pos) X.env v=(do
   let a <- holding [v] (eval o X.env)
   let b <- holding [v,a] (eval i X.env)
   standAt pos
   holding [v,a,b] (setItem a b v)
   release [v,a,b] []):=by intro _;rfl):PG X (.Subscript o i pos) (bUm to ti t):=by
 intro d s c H v u Q I r h;rw[q];refine xa<|Yf<|Vb (n d s c H _ I h) λa f ⟨x,D,A,j,m⟩=>?_
 refine xa<|Yf<|Vb (p d f c D _ A m) λb e ⟨y,C,z,g,l⟩=>?_
 exact xa<|xt<|xa<|Yf<|Vb (hs d e c C x y v a b u _ z j g r l) λ_ E ⟨B,w,k⟩=>wpAny_release ⟨c,B,w,k⟩
def P9(te:TE)(g:TG):TS:=λD a H=>te a H λx b=>g x a b D.nx
def bNr(he:PE X e te)(d:PG X tg g)(hs:swapsWithSole [tg] e pos.line X.env=pure false:=by rfl)(c:swappedStores [tg] e X.env=pure none:=by rfl)
  (f:(assignEach [tg] X.env).map (·.2)=[assign tg X.env]:=by rfl):PS X (.Assign [tg] e pos) (P9 te g):=by
 intro b s a H D I h;refine wpAny_Assign_stores (Vb (he b s a H _ I h) λv s1 ⟨x,H1,I1,r1,q1⟩=>?_) hs c
 rw[f];exact Vb (d b s1 a H1 x v _ I1 r1 q1) λ_ i q=>q
def nq{i:Nat}(j:X.N.Nodup)(f:X.N[i]?=some x)(d:Loc X.env.scope x)(he:PE X e te)(hs:aj e (some<|.Name x pos') pos.line X.env:=by rfl)(g:sj X x:=by first|exact .inl rfl|exact .inr rfl|assumption) :
  PS X (.Assign [.Name x pos'] e pos) (P9 te<|R8 i):=by
 intro k s a H D I h;exact wpAny_Assign_Name (Vb (he k s a H _ I h) λv p ⟨y,n,m,b,c⟩=>xf m j f d b (λo l=>⟨_,n,l,c⟩) g) hs
def bNs(c:TT)(h:TS):TS:=λD a H=>∃W:Nat->St->xL,(∃m,W m a H)/\∀m a H,W m a H->
 c a H λb e=>if b=true then ∃N:St->xL,(∀g f,N g f->∃d,d < m/\W d g f)/\h {D with nx:=N,ct:=N,bk:=D.nx} a e else D.nx a e
def bDj(q:PassesOwn (model X.prog X.w) X.A X.env X.xe)(J:PT X c tc)(K:Dd X body tb):PS X (.While c body [] pos) (bNs tc tb):=by
 intro o s z H D I h;obtain⟨W,⟨G,B⟩,turn⟩:=h;refine wpAny_While<|codeAny_whileLoop (λn F=>∃y x,Ba X o y x F/\W n y x) ?_ G ⟨z,H,I,B⟩
 rintro n E ⟨i,w,L,A⟩;refine ot q<|Vb (J o E i w _ L<|turn n i w A) λb C ⟨u,t,g⟩=>?_
 cases b with
 |true=>
  obtain⟨N,r,g⟩:=g;refine ot q<|Vb (K o C i u _ t g) λf M e=>?_
  cases f with
  |next=>
   obtain⟨a,d,p,k⟩:=e;obtain⟨l,m,j⟩:=r a d k;exact⟨l,m,a,d,p,j⟩
  |cont=>
   obtain⟨a,d,p,k⟩:=e;obtain⟨l,m,j⟩:=r a d k;exact⟨l,m,a,d,p,j⟩
  |brk=>exact e
  |ret v=>exact e
 |false=>
  exact GH ⟨i,u,t,g⟩
end
structure It where
 go:Nat->Hp->Prop
 Qu:Nat->Hp->V->Hp->Prop
 stop:Nat->Hp->Prop
def Aj(X:Cx)(a:db)(H:Hp)(b:Addr):Prop:=
 H b=none/\b≠X.env.locals/\b∉X.fs/\(b∈X.ex\/X.Ga.heap.objs.size<=b)/\(∀x c,X.env.cells.lookup x=some c->c≠b)/\∀p∈X.pn++a,p.1≠b
def Ba.Eh{X:Cx}{d:Hp}{b:Addr}(I:Ba X aa σ H s)(a:s.heap.objs.size<=b)(f:d b=none):Aj X aa d b:=by
 refine⟨f,Xq<|rg I.lt a,I.EU a,.inr<|Xd I.sz a,λx c e z=>?_,λp hp z=>?_⟩
 .obtain⟨v,q⟩:=I.cell x c e;exact absurd (rg q.lt<|by rwa [z])<|uh _
 exact absurd (rg (uc (I.pin p hp).1)<|by rwa [z])<|uh _
structure Turn(P:Program)(w:World)(K:PySem.W.Frag)(tg:Expr)(J:It)(fp:bv)(it:Addr)(tn:Da):Prop where
 mem:it∈fp
 obj:∀i h,tn i h->∀b∈fp,∃o,h.get? b=some o/\∀v,o.data≠.cell v
 keep:∀i h h',tn i h->(∀b∈fp,∀o,h.get? b=some o->h'.get? b=some o)->tn i h'
 item:∀(X:Cx),X.prog=P->X.w=w->X.K=K->X.calm=true->∀(i:Nat) (aa:db) (s:Shared) (σ:St) (H:Hp) (E:be),Ba X aa σ H s->(∀b∈fp,Aj X aa H b)->tn i s.heap->J.go i H->
  wpAny (model P w) X.A (pyNext<|.ref it) (λr s1=>∃u,r=some u/\
   wpAny (model P w) X.A (letOwnedTupleGo tg (.ref it) u) (λ_ s2=>∃x H',Ba X aa σ H' s2/\RelV x u/\J.Qu i H x H'/\tn (i+1) s2.heap/\∀b∈fp,H' b=none) E s1) E s
 done:∀(X:Cx),X.prog=P->X.w=w->X.K=K->X.calm=true->∀(i:Nat) (aa:db) (s:Shared) (σ:St) (H:Hp) (E:be),Ba X aa σ H s->(∀b∈fp,Aj X aa H b)->tn i s.heap->J.stop i H->
  wpAny (model P w) X.A (pyNext<|.ref it) (λr s1=>r=none/\Ba X aa σ H s1) E s
 self:∀(A:Around)(i:Nat)(s:Shared)(Q:be)(E:be),tn i s.heap->Q (.ref it) s->wpAny (model P w) A (pyIter<|.ref it) Q E s
abbrev TI:=St->Hp->(It->xL)->Prop
def QW(X:Cx)(g:db)(h:St)(tg:Expr)(R:It->xL)(i:Value)(d:Shared):Prop:=
 ∃(e:Addr)(f:bv)(c:Da)(J:It)(a:Hp),i=.ref e/\Ba X g h a d/\Turn X.prog X.w X.K tg J f e c/\c 0 d.heap/\(∀b∈f,Aj X g a b)/\R J a
def PI(X:Cx)(tg a:Expr)(d:TI):Prop:=
 ∀(c:db) (s:Shared) (b:St) (H:Hp) (R:It->xL),Ba X c b H s->d b H R->
  wpAny (model X.prog X.w) X.A (eval a X.env) (λv e=>wpAny (model X.prog X.w) X.A (pyIter v) (QW X c b tg R) X.xe e) X.xe s
def XE{E:be}{s:Shared}{Q:wP}(b:s.heap.get? it=some o)(e:o.cls=.type n)(d:o.data=.fields vs)
  (c:["enumerate","zip","dict_itemiterator","dict_reverseitemiterator","odict_iterator","itertools.zip_longest","itertools.pairwise"].contains n=false) (a:Q () s):wpAny M A (letOwnedTupleGo tg (.ref it) u) Q E s:=by
 cases tg<;>first
  |exact Ma a
  |(cases u<;>first
    |exact Ma a
    | (refine xa (wpAny_load b ?_)
       rw[e,d];show wpAny M A (if (["enumerate","zip","dict_itemiterator","dict_reverseitemiterator","odict_iterator","itertools.zip_longest","itertools.pairwise"].contains n&&vs[0]?==some _)=true then _ else _) Q E s
       rw[Pa (by intro h;rw[c]at h;cases h)]
       exact Ma a))
def LC(K:PySem.W.Frag)(a:Addr):It:=
 ⟨λi H=>∃b x,Qc K H a b/\b[i]?=some x,λi H x c=>c=H/\∀b,Qc K H a b->b[i]?=some x,λi H=>∃b,Qc K H a b/\b.length<=i⟩
def EJ(K:PySem.W.Frag)(a:Addr):It:=
 ⟨λi H=>∃b x,Xf K H a b/\b[i]?=some x,λi H x c=>c=H/\∀b,Xf K H a b->b[i]?=some x,λi H=>∃b,Xf K H a b/\b.length<=i⟩
def wx(lo:Int)(n:Nat):It:=⟨λi _=>i<n,λi H x a=>a=H/\x=.int (lo+i),λi _=>n<=i⟩
theorem OZ{w:World}{K:PySem.W.Frag}(a it:Addr):Turn P w K tg (LC K a) [it] it (λi h=>h.IsListIter it a i) where
 mem:=by simp
 obj:=λi h st b f=>by
  have e:=by simpa using f
  subst e;obtain⟨o,e,c,d⟩:=st;exact⟨o,e,λv z=>by rw[d]at z;cases z⟩
 keep:=λi h L st k=>st.at λo e=>k it (by simp) o e
 item:=by
  intro X t q y J i W s M H E I l st r;subst t q y;obtain⟨N,x,j,G⟩:=r;obtain⟨n,m,p,R⟩:=I.list j;obtain⟨u,T,Q⟩:=m.get G;obtain⟨F,D,U,C,B,A⟩:=l it (by simp)
  refine wpAny_pyNext_list_item st p.isList (by simpa using T) λL g O=>?_
  obtain⟨o,e,c,d⟩:=id g;exact⟨u,rfl,XE e c d rfl ⟨x,H,(I.turned (λb o f e=>(O.2 b f).trans e) F D C B A),Q,⟨rfl,λY S=>by rwa [I.fg S j]⟩,g,λb f=>(l b f).1⟩⟩
 done:=by
  intro X t q y J i W s M H E I l st r;subst t q y;obtain⟨N,j,G⟩:=r;obtain⟨n,m,p,R⟩:=I.list j;obtain⟨F,D,U,C,B,A⟩:=l it (by simp)
  have Z:=m.length;exact wpAny_pyNext_list_end (I.ok.hd J) st p.isList (by simp;lia) λL V=>⟨rfl,I.turned (λb o f e=>V b o f e) F D C B A⟩
 self:=λ_ _ _ _ _ st h=>wpAny_pyIter_listiter st h
def aV5{w:World}{K:PySem.W.Frag}(a it:Addr):Turn P w K tg (EJ K a) [it] it (λi h=>h.IsTupleIter it a i) where
 mem:=by simp
 obj:=λi h st b f=>by
  have e:=by simpa using f
  subst e;obtain⟨o,e,c,d⟩:=st;exact⟨o,e,λv z=>by rw[d]at z;cases z⟩
 keep:=λi h L st k=>st.at λo e=>k it (by simp) o e
 item:=by
  intro X t q y J i W s M H E I l st r;subst t q y;obtain⟨N,x,j,G⟩:=r;obtain⟨n,m,p,R⟩:=I.tuple j;obtain⟨u,T,Q⟩:=m.get G;obtain⟨F,D,U,C,B,A⟩:=l it (by simp)
  refine wpAny_pyNext_tuple_item st (p) (by simpa using T) λL g O=>?_
  obtain⟨o,e,c,d⟩:=id g;exact⟨u,rfl,XE e c d rfl ⟨x,H,(I.turned (λb o f e=>(O.2 b f).trans e) F D C B A),Q,⟨rfl,λY S=>by rwa [I.Th S j]⟩,g,λb f=>(l b f).1⟩⟩
 done:=by
  intro X t q y J i W s M H E I l st r;subst t q y;obtain⟨N,j,G⟩:=r;obtain⟨n,m,p,R⟩:=I.tuple j;obtain⟨F,D,U,C,B,A⟩:=l it (by simp)
  have Z:=m.length;exact wpAny_pyNext_tuple_end (I.ok.hd J) st (p) (by simp;omega) λL V=>⟨rfl,I.turned (λb o f e=>V b o f e) F D C B A⟩
 self:=λ_ _ _ _ _ st h=>wpAny_pyIter_tupleiter st h
theorem aV6{w:World}{K:PySem.W.Frag}(it:Addr)(lo:Int)(n:Nat):Turn P w K tg (wx lo n) [it] it (λi h=>IsRangeIter h it (lo+(i:Nat)*1) ((n:Int)-(i:Nat)) 1) where
 mem:=by simp
 obj:=λi h st b a=>by
  have e:=by simpa using a
  subst e;exact⟨_,st,λv z=>by
   cases z⟩
 keep:=λi h y st k=>k it (by simp) _ st
 item:=by
  intro X u r x g i G s A H E I d st f;subst u r x;obtain⟨q,p,D,m,l,j⟩:=d it (by simp)
  refine(Walks.range (prog:=X.prog) (w:=X.w) (I.ok.hd g) it lo 1 n).item i s _ _ f st λv y J C c B=>?_
  obtain⟨t,rfl⟩:=C;refine⟨_,rfl,XE c rfl rfl rfl ⟨.int _,H,(I.turned (λb o a e=>B b o (by simpa using a) e) q p m l j),⟨t,?_⟩,⟨rfl,rfl⟩,c,λb a=>(d b a).1⟩⟩
  rw[Int.mul_one]
 done:=by
  intro X u r x g i G s A H E I d st f;obtain⟨q,p,D,m,l,j⟩:=d it (by simp)
  exact wpAny_pyNext_range_end (I.ok.hd g) st (by have:n<=i:=f;lia) λy F=>⟨rfl,I.turned (λb o a e=>F b o a e) q p m l j⟩
 self:=λ_ _ _ _ _ st h=>wpAny_pyIter_rangeiter st h
section
variable{X:Cx}{tg:Expr}
def bRi(K:PySem.W.Frag)(e:TE):TI:=λc H R=>e c H λx b=>∃a,x=.ref a/\(∃d,Qc K b a d)/\R (LC K a) b
def bIc(m:PE X l tl):PI X tg l (bRi X.K tl):=by
 intro n s f H R I h;refine Vb (m n s f H _ I h) λv d ⟨x,r,c,g,i⟩=>?_
 obtain⟨a,e,⟨t,k⟩,q⟩:=i;subst e;cases g;obtain⟨j,u,p,w⟩:=c.list k;refine ft p.isList<|⟨d.heap.objs.size,[d.heap.objs.size],_,_,r,rfl,c.kept λb o e=>Xb _ e,OZ a _,⟨_,de _ rfl,rfl,rfl⟩,λb hb=>?_,q⟩
 have e:=by simpa using hb
 subst e;exact c.Eh (Pb _)<|c.Ta.fresh<|Pb _
theorem F1{R:It->xL}{E:be}{lo a:Int}{t:Tok}{d:Nat}(I:Ba X aa σ H s)(i : -(2^62)<=lo)(h:lo<2^62)(g : -(2^62)<=a)(f:a<2^62)
  (q:R (wx lo (a-lo).toNat) H):wpAny (model X.prog X.w) X.A (pyIter<|.ref s.heap.objs.size) (QW X aa σ tg R) E {s with heap:=s.heap.push {cls:=.type "range",data:=.fields #[.int lo t,.int a u,.int 1 v]},toks:=d}:=by
 refine wpAny_pyIter_range (IsRange.new ..) (small_one i h g f) ?_
 have c:Ba X aa σ H {s with heap:=s.heap.push {cls:=.type "range",data:=.fields #[.int lo t,.int a u,.int 1 v]},toks:=d}:=I.kept λb o e=>Xb _ e
 refine⟨(s.heap.push {cls:=.type "range",data:=.fields #[.int lo t,.int a u,.int 1 v]}).objs.size,[(s.heap.push {cls:=.type "range",data:=.fields #[.int lo t,.int a u,.int 1 v]}).objs.size],_,_,H,rfl,
  c.kept λb o e=>Xb _ e,aV6 _ lo (a-lo).toNat,?_,λb hb=>?_,q⟩
 .have e1:lo+((0:Nat))*1=lo:=by simp
  have e2:(((a-lo).toNat):Int)-((0:Nat))=Builtin.Range.rangeSize lo a 1:=by rw[rangeSize_one];split<;>lia
  rw[e1,e2];exact de _ rfl
 have e:b=(s.heap.push {cls:=.type "range",data:=.fields #[.int lo t,.int a u,.int 1 v]}).objs.size:=by simpa using hb
 subst e;exact c.Eh (Pb _)<|c.Ta.fresh<|Pb _
def bRj(c:TA):TI:=λa H R=>c a H λb d=>∃j:Int,b=[.int j]/\-(2^62)<=j/\j<2^62/\R (wx 0 j.toNat) d
def bRk(c:TA):TI:=λa H R=>c a H λb d=>∃i j:Int,b=[.int i,.int j]/\(-(2^62)<=i/\i<2^62/\-(2^62)<=j/\j<2^62)/\R (wx i (j-i).toNat) d
theorem bAr{a:Expr}(i:Gl X "range")(g:X.mg "range"=none)(k:PA X [a] ta)(hs:starEach [a] X.env=[(false,eval a X.env)]:=by rfl):PI X tg (.Call (.Name "range" p) [a] [] pos) (bRj ta):=by
 intro l s c H R I h;refine Call_<|uV I i g boot_range<|Tq (Vb (k pos l s c H _ I h) λn o ⟨m,u,I1,r1,b⟩=>?_) hs rfl
 obtain⟨j,e,b,f,q⟩:=b;subst e;cases r1 with
 |cons r d=>
  cases d;obtain⟨t,rfl⟩:=r;exact call_range_1<|F1 I1 (by lia) (by lia) b f<|by simpa using q
def bAs{a b:Expr}(u:Gl X "range")(o:X.mg "range"=none)(v:PA X [a,b] ta)(hs:starEach [a,b] X.env=[(false,eval a X.env),(false,eval b X.env)]:=by rfl)(f:starEach [b] X.env=[(false,eval b X.env)]:=by rfl) :
  PI X tg (.Call (.Name "range" p) [a,b] [] pos) (bRk ta):=by
 intro w s g H R I h;refine Call_<|uV I u o boot_range<|Tq (Vb (v pos w s g H _ I h) λy A ⟨x,B,I1,r1,d⟩=>?_) (by rw[hs,f])<|by rw[f];rfl
 obtain⟨i,j,e,⟨d,n,m,l⟩,q⟩:=d;subst e;cases r1 with
 |cons r c=>
  cases c with
  |cons k c=>
   cases c;obtain⟨t,rfl⟩:=r;obtain⟨z,rfl⟩:=k;exact call_range_2<|F1 I1 d n m l q
def bUn(e:TI)(g:TG)(f:TS):TS:=λD a H=>e a H λJ k=>∃W:Nat->Nat->St->xL,(∃m,W 0 m a k)/\∀i m a H,W i m a H->
 (J.stop i H/\D.nx a H)\/(J.go i H/\∃N:St->xL,(∀d b,N d b->∃c,c < m/\W (i+1) c d b)/\∀x b,J.Qu i H x b->g x a b λh j=>f {D with nx:=N,ct:=N,bk:=D.nx} h j)
def YN(a:bv)(h:Heap):db:=a.filterMap λb=>(h.get? b).map λo=>(b,o)
def zN{a:bv}{h:Heap}{b:Addr}(c:b∈a)(e:h.get? b=some o):(b,o)∈YN a h:=List.mem_filterMap.mpr ⟨b,c,by rw[e];rfl⟩
def bAt{p:Addr×Obj}(a:p∈YN fp h):p.1∈fp/\h.get? p.1=some p.2:=by
 obtain⟨b,c,e⟩:=List.mem_filterMap.mp a;cases q:h.get? b with
 |none=>rw[q]at e;cases e
 |some o=>
  rw[q]at e;have d:=Vk e;subst d;exact⟨c,q⟩
def Ba.pinned{a:bv}(I:Ba X aa σ H s)(i:∀b∈a,Aj X aa H b)(h:∀b∈a,∃o,s.heap.get? b=some o/\∀v,o.data≠.cell v):Ba X (aa++YN a s.heap) σ H s:=
 I.ki λp g=>(tf.mp g).elim (λz=>I.pin p<|Ke _ z) λz=>by
  obtain⟨c,e⟩:=bAt z;obtain⟨l,k,j,_⟩:=i p.1 c;obtain⟨o,f,d⟩:=h p.1 c;rw[e]at f;cases f;exact⟨e,l,k,j,d⟩
def Ba.Td{a pl:db}(I:Ba X (a++pl) σ H s):Ba X a σ H s:=I.ki λp b=>I.pin p<|Ke _<|Sf _ b
def ZN(z:PassesOwn (model X.prog X.w) X.A X.env X.xe)(R:X.calm=true)(hi:PI X tg iter wi)(hg:PG X tg g)(a:Dd X body tb)
  (hs:∀x,foldedSetIterable iter X.env x=pure x:=by intro _;rfl):PS X (.For tg iter body [] pos) (bUn wi g tb):=by
 intro t s M H D I h;refine wpAny_For (Vb (hi t s M H _ I h) λv s1 h1=>Vb h1 λVT s2 h2=>?_) hs
 obtain⟨it,C,O,J,H2,e,I2,T,ig,S,W,⟨m0,w0⟩,turn⟩:=h2;subst e;have L:∀{l:Hp},(∀b∈C,l b=none)->∀b∈C,Aj X t l b:=λhn b a=>⟨hn b a,(S b a).2⟩
 refine codeAny_forLoop_any (λn Q=>∃i B l,Ba X t B l Q/\O i Q.heap/\(∀b∈C,l b=none)/\W i n B l) ?_ m0 ⟨0,M,H2,I2,ig,λb a=>(S b a).1,w0⟩
 rintro n P ⟨i,A,E,Y,V,U,w3⟩;rcases turn i n A E w3 with ⟨w,qn⟩|⟨go,N,hN,step⟩
 .refine ot z (Vb (T.done X rfl rfl rfl R i t P A E X.xe Y (L U) V w) λr s4 ⟨hr,I4⟩=>?_)
  subst hr;exact GH ⟨A,E,I4,qn⟩
 refine ot z<|Vb (T.item X rfl rfl rfl R i t P A E X.xe Y (L U) V go) λr s4 ⟨u,hr,h4⟩=>?_
 subst hr;refine ot z<|Vb h4 λ_ s5 ⟨x,Z,I5,r5,y5,q,K⟩=>?_
 refine ot z<|Vb (hg _ s5 A Z x u _ (I5.pinned (L K)<|T.obj _ _ q) r5<|step x Z y5) λ_ s6 ⟨F,H6,I6,q6⟩=>ot z<|Vb (a _ s6 F H6 _ I6 q6) λf G p=>?_
 have again:∀{c:St}{k:Hp},Ba X _ c k G->N c k->∃m,m<n/\∃i B l,Ba X t B l G/\O i G.heap/\(∀b∈C,l b=none)/\W i m B l:=λ{c k} j y=>by
  obtain⟨m',hm,w7⟩:=hN c k y;refine⟨m',hm,i+1,c,k,j.Td,T.keep _ _ _ q λb a o e=>(j.pin (b,o)<|Ke _<|Ke _<|zN a e).1,λb a=>?_,w7⟩
  obtain⟨o,e,d⟩:=T.obj _ _ q b a;exact(j.pin (b,o)<|Ke _<|Ke _<|zN a e).2.1
 cases f with
 |next=>obtain⟨c,k,j,y⟩:=p;exact again j y
 |cont=>obtain⟨c,k,j,y⟩:=p;exact again j y
 |brk=>obtain⟨c,k,j,p⟩:=p;exact⟨c,k,j.Td,p⟩
 |ret v=>obtain⟨x7,c,k,j,r7,p⟩:=p;exact⟨x7,c,k,j.Td,r7,p⟩
end
abbrev R2:=V->GT
def Oe(X:Cx)(f:Value->Value->Sem Value)(r:R2):Prop:=
 ∀(b:db) (s:Shared) (a:St) (H:Hp) (x y:V) (v u:Value) (Q:VK),Ba X b a H s->RelV x v->RelV y u->r x y H Q->
  wpAny (model X.prog X.w) X.A (f v u) (EP X b a Q) X.xe s
def JJ(X:Cx)(f:Value->Sem Value)(r:GT):Prop:=
 ∀(b:db) (s:Shared) (a:St) (H:Hp) (x:V) (v:Value) (Q:VK),Ba X b a H s->RelV x v->r x H Q->
  wpAny (model X.prog X.w) X.A (f v) (EP X b a Q) X.xe s
def mF(X:Cx)(f:Value)(r:GM):Prop:=
 ∀(d:db) (s:Shared) (a:St) (H:Hp) (b:o0) (c:cr) (Q:VK),Ba X d a H s->Ha b c->r b H Q->
  wpAny (model X.prog X.w) X.A (call f c) (EP X d a Q) X.xe s
def MB(r:R2)(c b:TE):TE:=λa H Q=>c a H λx e=>b a e λy d=>r x y d Q
def tUn(r:GT)(b:TE):TE:=λa H Q=>b a H λx c=>r x c Q
def rI(C:Int->Int->Prop)(g:Int->Int->V):R2:=λx y H Q=>∃i j,x=.int i/\y=.int j/\C i j/\Q (g i j) H
def Tj(g:Int->Int->V):R2:=λx y H Q=>∃i j,x=.int i/\y=.int j/\Q (g i j) H
def rU(g:Int->V):GT:=λx H Q=>∃i,x=.int i/\Q (g i) H
section
variable{X:Cx}{a b c:Expr}{ta tb tc:TE}{pos:Pos}
def CQ(q:PE X a ta)(p:PE X b tb){g:db}{s:Shared}{c:St}{H:Hp}{R:V->V->Hp->Prop}(I:Ba X g c H s)
  (h:ta c H λx i=>tb c i λy d=>R x y d) {Q:be} {f:Value->Value->Sem Value}
  (o:∀v u e x y d,Ba X g c d e->RelV x v->RelV y u->R x y d->wpAny (model X.prog X.w) X.A (f v u) Q X.xe e) :
  wpAny (model X.prog X.w) X.A (eval a X.env) (λv r=>wpAny (model X.prog X.w) X.A (eval b X.env) (λu t=>wpAny (model X.prog X.w) X.A (f v u) Q X.xe t) X.xe r) X.xe s:=by
 exact Vb (q g s c H _ I h) λv j ⟨x,i,z,l,n⟩=>Vb (p g j c i _ z n) λu e ⟨y,d,w,k,m⟩=>o v u e x y d w l k m
def S8(g:Oe X (binaryOp op) r)(j:PE X a ta)(i:PE X b tb):PE X (.BinOp a op b pos) (MB r ta tb):=by
 intro k s c H Q I h;exact wpAny_BinOp<|CQ j i I h λv u d x y m l f e q=>g k d c m x y v u Q l f e q
def bRl{r:GT}(g:JJ X (unaryOp op) r)(i:PE X a ta):PE X (.UnaryOp op a pos) (tUn r ta):=by
 intro c s b H Q I h;exact UnaryOp_<|Vb (i c s b H _ I h) λv d ⟨x,k,j,e,f⟩=>g c d b k x v Q j e f
def cx{f:Value->Value->Sem Value}{C:Int->Int->Prop}{g:Int->Int->Int}
  (rule:∀(i j:Int)(t u:Tok)(s:Shared)(Q:be)(E:be),C i j->Q (.int (g i j) s.toks) {s with toks:=s.toks+1}->wpAny (model X.prog X.w) X.A (f (.int i t)<|.int j u) Q E s) :
  Oe X f (rI C λi j=>.int<|g i j):=by
 intro k s e H x y v u Q I c b h;obtain⟨i,j,rfl,rfl,d,q⟩:=h;obtain⟨t,rfl⟩:=c;obtain⟨a,rfl⟩:=b;exact rule i j t a s _ _ d ⟨.int<|g i j,H,I.tok _,⟨_,rfl⟩,q⟩
def SF{f:Value->Value->Sem Value}{g:Int->Int->Int}
  (rule:∀(i j:Int)(t u:Tok)(s:Shared)(Q:be)(E:be),Q (.int (g i j) s.toks) {s with toks:=s.toks+1}->wpAny (model X.prog X.w) X.A (f (.int i t)<|.int j u) Q E s) :
  Oe X f (Tj λi j=>.int<|g i j):=by
 intro e s d H x y v u Q I c b h;obtain⟨i,j,rfl,rfl,q⟩:=h;obtain⟨t,rfl⟩:=c;obtain⟨a,rfl⟩:=b;exact rule i j t a s _ _ ⟨.int<|g i j,H,I.tok _,⟨_,rfl⟩,q⟩
def TF{f:Value->Value->Sem Value}{g:Int->Int->Bool}
  (rule:∀(i j:Int)(t u:Tok)(s:Shared)(Q:be)(E:be),Q (.bool<|g i j) s->wpAny (model X.prog X.w) X.A (f (.int i t)<|.int j u) Q E s) :
  Oe X f (Tj λi j=>.bl<|g i j):=by
 intro e s d H x y v u Q I c b h;obtain⟨i,j,rfl,rfl,q⟩:=h;obtain⟨t,rfl⟩:=c;obtain⟨a,rfl⟩:=b;exact rule i j t a s _ _ ⟨.bl<|g i j,H,I,rfl,q⟩
def bUo(i j:Int):Prop:=0<j/\j<1073741824
def Q9(i j:Int):Prop:=0<=j/\j<=1000000/\i.natAbs<2^64
def Ks(i j:Int):Prop:=(-(2^64)<i/\i<2^64)\/(-(2^64)<j/\j<2^64)
def Ks.ok(h:Ks i j):IntMulOk i j:=by
 rcases h with ⟨b,a⟩|⟨b,a⟩
 .exact .of_left (intBits_le_64 b a)
 exact .of_right<|intBits_le_64 b a
def aVa(k:Nat):(0:Int)<=2^k:=by
 exact FR _
def bNu:Oe X (binaryOp .Add) (Tj λi j=>.int<|i+j):=SF λ_ _ _ _ _ _ _ q=>add_int q
def bNv:Oe X (binaryOp .Sub) (Tj λi j=>.int<|i-j):=SF λ_ _ _ _ _ _ _ q=>sub_int q
def B7:Oe X (binaryOp .Mult) (rI Ks λi j=>.int<|i*j):=cx λ_ _ _ _ _ _ _ a q=>mul_int q a.ok
theorem bIf:Oe X (binaryOp .FloorDiv) (rI bUo λi j=>.int<|i/j):=cx λi j _ _ _ _ _ a q=>by
 have c:=a.1;have b:=a.2;exact floordiv_int (by lia) (by rwa [p_ i (by lia)])<|.inl<|PyProof.noPylong_small<|by lia
theorem bNw:Oe X (binaryOp .Mod) (rI (λ_ j=>0<j) λi j=>.int<|i%j):=cx λi j _ _ _ _ _ a q=>by
 exact mod_int' (by lia) (by rwa [Int.fmod_eq_emod_of_nonneg i (by lia)])
def bNx:Oe X (binaryOp .Pow) (rI Q9 λi j=>.int<|i^j.toNat):=cx λ_ _ _ _ _ _ _ a q=>pow_int_small a.1 a.2.1 a.2.2 q
def bNy:Oe X (binaryOp .LShift) (rI Q9 λi j=>.int<|i*2^j.toNat):=cx λ_ _ _ _ _ _ _ a q=>lshift_int_small a.1 a.2.1 a.2.2 q
def bNz:Oe X (binaryOp .RShift) (rI (λ_ j=>0<=j) λi j=>.int<|i/2^j.toNat):=cx λi j _ _ _ _ _ a q=>
 rshift_int a (by rwa [p_ i<|aVa _])
def bO0:Oe X (binaryOp .BitAnd) (Tj λi j=>.int<|Builtin.bitAnd i j):=SF λ_ _ _ _ _ _ _ q=>and_int q
def bRn:Oe X (binaryOp .BitOr) (Tj λi j=>.int<|Builtin.bitOr i j):=SF λ_ _ _ _ _ _ _ q=>or_int q
def unI{f:Value->Sem Value}{g:Int->Int}
  (rule:∀(i:Int)(t:Tok)(s:Shared)(Q:be)(E:be),Q (.int (g i) s.toks) {s with toks:=s.toks+1}->wpAny (model X.prog X.w) X.A (f<|.int i t) Q E s) :
  JJ X f (rU λi=>.int<|g i):=by
 intro c s b H x v Q I a h;obtain⟨i,rfl,q⟩:=h;obtain⟨t,rfl⟩:=a;exact rule i t s _ _ ⟨.int<|g i,H,I.tok _,⟨_,rfl⟩,q⟩
def bO1:JJ X (unaryOp .USub) (rU λi=>.int<|-i):=unI λ_ _ _ _ _ q=>neg_int q
def iO{Q:VK}{k a:Bool}(I:Ba X aa σ H s)(q:Q (.bl k) H)(e:k=a):EP X aa σ Q (.bool a) s:=by
 subst e;exact⟨.bl k,H,I,rfl,q⟩
def By:Oe X (compareOp .Lt) (Tj λi j=>.bl<|decide (i<j)):=TF λ_ _ _ _ _ _ _ q=>lt_int q
def YE:Oe X (compareOp .LtE) (Tj λi j=>.bl<|decide (i<=j)):=TF λ_ _ _ _ _ _ _ q=>le_int q
def T8:Oe X (compareOp .Gt) (Tj λi j=>.bl<|decide (j<i)):=TF λ_ _ _ _ _ _ _ q=>gt_int q
def IP:Oe X (compareOp .GtE) (Tj λi j=>.bl<|decide (j<=i)):=TF λ_ _ _ _ _ _ _ q=>ge_int q
def bAu:Oe X (compareOp .In) (λx y H Q=>∃i j,x=.str i/\y=.str j/\Q (.bl<|!(Builtin.Str.occurrences j i 0 j.length 1).isEmpty) H):=by
 intro e s c H x y v u Q I b a h;obtain⟨i,j,rfl,rfl,q⟩:=h;obtain⟨t,rfl⟩:=b;obtain⟨d,rfl⟩:=a;exact in_str<|iO I q rfl
def bIg:Oe X (compareOp .IsNot) (λx y H Q=>y=.Sb/\Q (.bl<|!decide (x=.Sb)) H):=by
 intro d s c H x y v u Q I a b h;obtain⟨rfl,q⟩:=h;cases b;refine isnot_none_gen<|iO I q ?_;cases x<;>first
  |(cases a;rfl)
  |(obtain⟨t,rfl⟩:=a;rfl)
def Ļ:Oe X (compareOp .NotIn) (λx y H Q=>∃i j,x=.str i/\y=.str j/\Q (.bl<|!(!(Builtin.Str.occurrences j i 0 j.length 1).isEmpty)) H):=by
 intro e s c H x y v u Q I b a h;obtain⟨i,j,rfl,rfl,q⟩:=h;obtain⟨t,rfl⟩:=b;obtain⟨d,rfl⟩:=a;exact notIn_str<|iO I q rfl
def Oe.or{f:Value->Value->Sem Value}(h:Oe X f r)(e:Oe X f r'):Oe X f (λx y H Q=>r x y H Q\/r' x y H Q):=by
 intro d s a H x y v u Q I c b q;rcases q with q|q
 .exact h d s a H x y v u Q I c b q
 exact e d s a H x y v u Q I c b q
def C7(b:Expr){a:CmpOp}(h:a≠.In:=by decide)(c:a≠.NotIn:=by decide):behindInMarks a b=false:=by
 have e1:(a==CmpOp.In)=false:=by cases a<;>first|rfl|exact absurd rfl h
 have e2:(a==CmpOp.NotIn)=false:=by cases a<;>first|rfl|exact absurd rfl c
 cases b<;>simp[behindInMarks,e1,e2]
def bIh(g:Oe X (compareOp op) r)(k:PE X a ta)(j:PE X b tb)(i:behindInMarks op b=false):PE X (.Compare a [op] [b] pos) (MB r ta tb):=by
 intro l s c H Q I h;exact wpAny_Compare1 (CQ k j I h λv u d x y n m f e q=>g l d c n x y v u Q m f e q) i
def bRo(t:TE):TT:=λa H Q=>t a H λx b=>∃k,x=.bl k/\Q k b
def bIi(o:Oe X (compareOp op) r)(t:PE X a ta)(q:PE X b tb)(p:behindInMarks op b=false):PT X (.Compare a [op] [b] pos) (bRo<|MB r ta tb):=by
 intro f s d H Q I h;refine wpAny_isTrue_Compare1 (Vb (t f s d H _ I h) λv i ⟨x,C,A,l,n⟩=>Vb (q f i d C _ A n) λu g ⟨y,B,w,j,m⟩=>
  Vb (o f g d B x y v u _ w l j m) λc D ⟨z,H3,I3,r3,k,e,q3⟩=>?_) p
 subst e;cases r3;exact dt ⟨H3,I3,q3⟩
def jy:(sizeLine:Nat)<2^63:=by decide
def aVc:Oe X (binaryOp .Add) (λx y H Q=>∃i j,x=.str i/\y=.str j/\i.length+j.length<=sizeLine/\Q (.str<|i++j) H):=by
 intro g s e H x y v u Q I c b h;obtain⟨i,j,rfl,rfl,d,q⟩:=h;obtain⟨t,rfl⟩:=c;obtain⟨a,rfl⟩:=b;exact add_str (λa f=>⟨.str _,H,I.tok _,⟨_,rfl⟩,q⟩) d
def vals1{x:V}(r:Ha [x] us):∃u,us=[u]/\RelV x u:=by
 cases r with
 |cons b a=>cases a;exact⟨_,rfl,b⟩
def vals2{x y:V}(r:Ha [x,y] us):∃u a,us=[u,a]/\RelV x u/\RelV y a:=by
 cases r with
 |cons e d=>
  cases d with
  |cons c b=>cases b;exact⟨_,_,rfl,e,c⟩
def bAv(b:X.calm=true):mF X (.builtin "max") (λxs H Q=>∃i j,xs=[.int i,.int j]/\Q (.int<|if j>i then j else i) H):=by
 intro m s c H xs e Q I r h;obtain⟨i,j,rfl,q⟩:=h;obtain⟨u,d,rfl,⟨t,rfl⟩,⟨g,rfl⟩⟩:=vals2 r;refine max_two_ints (I.ok.hd b) λl f k=>⟨_,H,I.kept k,?_,q⟩
 by_cases a:j>i
 .rw[jb a,jb a];exact⟨_,rfl⟩
 rw[Pa a,Pa a];exact⟨_,rfl⟩
def bAw(b:X.calm=true):mF X (.builtin "min") (λxs H Q=>∃i j,xs=[.int i,.int j]/\Q (.int<|if j<i then j else i) H):=by
 intro m s c H xs e Q I r h;obtain⟨i,j,rfl,q⟩:=h;obtain⟨u,d,rfl,⟨t,rfl⟩,⟨g,rfl⟩⟩:=vals2 r;refine min_two_ints (I.ok.hd b) λl f k=>⟨_,H,I.kept k,?_,q⟩
 by_cases a:j<i
 .rw[jb a,jb a];exact⟨_,rfl⟩
 rw[Pa a,Pa a];exact⟨_,rfl⟩
end
structure zj(h:Heap)(x dx C:Addr)(mA:im):Prop where
 obj:h.get? x=some (PySem.W.instObj C dx)
 ns:h.Ns1 dx mA
 ne:dx≠x
def bAx{h:Heap}{d:im}(n:h.Ns1 dx d):∃c,h.get? dx=some c/\∀b,PySem.W.lookIn b c=some (d b):=by
 obtain⟨o,m,p,i,l,k,_,j⟩:=n;refine⟨o,i,λb=>?_⟩
 have e:=j b;unfold nsFind findBy at e;rw[<-Array.find?_toList]at e;unfold PySem.W.lookIn;rw[l];dsimp only;split
 .rename_i y q;rw[q]at e;exact congrArg some e
 rename_i q;rw[q]at e;have a:m.toList.any (·.refKey)=false:=by
  rw[AH];intro y g;obtain⟨z,t,f⟩:=k y<|V_.mp g;simp[DictEntry.refKey,f]
 rw[Pa (by rw[a];exact Wl)]
 exact congrArg some e
def zj.look{c:im}(I:zj h x dx C c):∃b,PySem.W.InstAt h x (PySem.W.instObj C dx) C (some b)/\∀a,PySem.W.lookIn a b=some (c a):=
 let ⟨b,d,e⟩:=bAx I.ns
 ⟨b,⟨I.obj,rfl,rfl,d⟩,e⟩
section
variable{prog:Program}{w:World}{A:Around}{E:be}{s:Shared}{K:PySem.W.Frag}{x dx C f:Addr}{mA:im}{name:Str}{v:Value}
def get_map{Q:be}(X:K.In s.heap)(I:zj s.heap x dx C mA)(e:PySem.W.plainGet K C name=true)(d:PySem.W.hasDictIn K C=true)
  (f:PySem.W.findIn K (.ref C) name=some none) (b:mA name=some v) (a:PySem.W.handedIn v=true) (h:Q v {s with toks:=s.toks+1}) :
  wpAny (model prog w) A (getAttr (.ref x) name expr) Q E s:=by
 obtain⟨g,J,c⟩:=I.look;exact PySem.W.get_value X J (DR e).1 (PySem.W.findObj_own d f rfl<|by rw[c,b]) a h
def bDn{Q:Value×List Value->Shared->Prop}(X:K.In s.heap)(I:zj s.heap x dx C mA)(a:PySem.W.plainGet K C name=true)
  (g:PySem.W.findIn K (.ref C) name=some (some<|.ref f)) (d:PySem.W.isFn K (.ref f)=true) (c:mA name=none) (h:Q (.ref f,[.ref x]) s) :
  wpAny (model prog w) A (getMethod (.ref x) name pl) Q E s:=by
 obtain⟨b,J,e⟩:=I.look;exact PySem.W.method_fn X J (DR a).1 (DR a).2 g (Nm.mp d) (by show (PySem.W.lookIn name b).map _=some false;rw[e,c];rfl) h
theorem bIj{Q:wP}(X:K.In s.heap)(I:zj s.heap x dx C mA)
  (hs:PySem.W.findIn K (.ref C) "__setattr__"=some (some<|.builtin "object.__setattr__")) (l:PySem.W.plainOver K C=true) (k:PySem.W.takerIn K C name=some none) (m:PySem.W.hasDictIn K C=true)
  (j:PySem.Within mA ns) (t:ns.length<=sizeLine)
  (h:∀a,zj a x dx C (λy=>if y=name then some v else mA y)->Heap.SameBut dx s.heap a->Q () {s with heap:=a,toks:=s.toks+2}) :
  wpAny (model prog w) A (setAttr (.ref x) name v) Q E s:=by
 obtain⟨q,J,u⟩:=I.look;refine PySem.W.set_plain X J hs<|PySem.W.osa_open X J l k λb=>?_
 obtain⟨z,n,i⟩:=PySem.W.any_some m;refine xa<|Ma<|xa<|xa<|wpAny_loadPart I.obj<|xa<|PySem.W.Looks.here (PySem.W.looks_clsIn X n) ?_;rw[i];refine Ma<|xa<|Ma<|xa<|wpAny_nsSet1 I.ns λa f g=>?_
 obtain⟨r,o,p,c,d,e⟩:=f.count<|PySem.Within.cons name v j;exact xa<|wpAny_lookBehind c (by rw[d];exact pastItsLine_dict<|Xd e<|by rw[Ed];lia)<|Ma<|h _ ⟨(g.2 _<|vg I.ne).trans I.obj,f,I.ne⟩ g
def bDo{R:Result->sK}{vs:cr}{b:Db}(X:K.In s.heap)(c:PySem.W.makesIn K C=true)
  (d:PySem.W.findIn K (.ref C) "__init__"=some (some<|.ref f)) (e:PySem.W.typeIn K (.ref f)=some (.type "function"))
  (h:codeAny (model prog w) (A.under<|.builtin "type.__call__" ⟨.ref C::vs,b⟩) (.call (.ref f) ⟨.ref (s.heap.objs.size+1)::vs,b⟩) (PySem.W.InitBack (s.heap.objs.size+1) R)
   {s with heap:=(s.heap.push PySem.W.emptyDict).push (PySem.W.instObj C s.heap.objs.size)}) :
  codeAny (model prog w) A (.call (.ref C) ⟨vs,b⟩) R s:=by
 exact PySem.W.make_core (SR X c) (W_ X d) (λa=>PySem.W.bind_fn X a e) (.inl rfl) h
def bAy{R:Result->sK}(X:K.In s.heap)(b:PySem.W.makesIn K C=true)
  (c:PySem.W.findIn K (.ref C) "__init__"=some (some<|.builtin "object.__init__"))
  (e:∀a,PySem.W.Looks (model prog w) s.heap (bindSpecial (.builtin "object.__init__") a) (.builtin "object.__init__",[a]))
  (h:codeAny (model prog w) (A.under<|.builtin "type.__call__" ⟨[.ref C],[]⟩) (.call (.builtin "object.__init__") ⟨[.ref<|s.heap.objs.size+1],[]⟩) (PySem.W.InitBack (s.heap.objs.size+1) R)
   {s with heap:=(s.heap.push PySem.W.emptyDict).push (PySem.W.instObj C s.heap.objs.size)}) :
  codeAny (model prog w) A (.call (.ref C) ⟨[],[]⟩) R s:=by
 obtain⟨f,g,d,t,os⟩:=s;exact PySem.W.make_core (SR X b) (W_ X c) e (.inr ⟨rfl,rfl⟩) h
end
noncomputable def Di(f:Str)(v:V):List (Str×V)->List (Str×V)
 |[]=>[(f,v)]
 |(g,x)::r=>if g=f then (g,v)::r else (g,x)::Di f v r
theorem DY(f g:Str)(v:V):∀fs:AC,(Di f v fs).lookup g=if g=f then some v else fs.lookup g
 |[]=>by
  show List.lookup g [(f,v)]=_
  by_cases h:g=f
  .simp[List.lookup,(beq_iff_eq.mpr h),if_pos h]
  simp only[List.lookup,(beq_eq_false_iff_ne.mpr h),if_neg h]
 |(k,x)::r=>by
  rw[show Di f v _=(if k=f then (k,v)::r else (k,x)::Di f v r) from rfl]
  by_cases a:k=f
  .rw[jb a]
   by_cases h:g=k
   .simp[List.lookup,(beq_iff_eq.mpr h),if_pos<|h.trans a]
   simp[List.lookup,(beq_eq_false_iff_ne.mpr h),if_neg (λe:g=f=>h<|e.trans a.symm)]
  rw[Pa a]
  by_cases h:g=k
  .simp only[List.lookup,(beq_iff_eq.mpr h),if_neg (λe:g=f=>a<|h.symm.trans e)]
  simp[List.lookup,(beq_eq_false_iff_ne.mpr h)];exact DY f g v r
theorem iL(f:Str)(v:V):∀fs:AC,f∈(Di f v fs).map (·.1)/\∀g,g∈fs.map (·.1)->g∈(Di f v fs).map (·.1)
 |[]=>⟨by simp[Di],λg h=>by simp at h⟩
 |(k,x)::r=>by
  obtain⟨c,b⟩:=iL f v r;rw[show Di f v _=(if k=f then (k,v)::r else (k,x)::Di f v r) from rfl]
  by_cases a:k=f
  .subst a;exact⟨by simp,λg h=>by simpa using h⟩
  rw[Pa a];refine⟨?_,λg h=>?_⟩
  .exact Mb _ c
  rcases qc.mp h with e|e
  .exact qc.mpr (.inl e)
  exact Mb _<|b g e
theorem EY(f:Str)(v:V):∀fs:AC,(Di f v fs).length<=fs.length+1
 |[]=>by simp[Di]
 |(k,x)::r=>by
  have b:=EY f v r;rw[show Di f v _=(if k=f then (k,v)::r else (k,x)::Di f v r) from rfl]
  by_cases a:k=f
  .rw[jb a,Ed,Ed];lia
  rw[Pa a,Ed,Ed];lia
def xi.some_of(r:xi (some v) o):∃u,o=some u/\RelV v u:=by
 cases o with
 |none=>exact(r).elim
 |some u=>exact⟨u,rfl,r⟩
def xi.none_of(r:xi none o):o=none:=by
 cases o with
 |none=>rfl
 |some u=>exact(r).elim
def bAz(r:RelV v u):PySem.W.handedIn u=true:=by
 cases v with
 |Sb=>cases (r);rfl
 |bl b=>cases (r);rfl
 |int i=>obtain⟨t,e⟩:=(r);cases e;rfl
 |str x=>obtain⟨t,e⟩:=(r);cases e;rfl
 |kH b=>obtain⟨t,e⟩:=(r);cases e;rfl
 |Sw b=>obtain⟨t,e⟩:=(r);cases e;rfl
 |ref a=>cases (r);rfl
 |ty n=>cases (r);rfl
section
variable{P:Program}{w:World}{H H':Hp}{h h':Heap}{a C dx:Addr}{fs fs':AC}
def UM(g:Df P w H h)(e:H a=some (.ins C dx fs)):∃b,zj h a dx C b/\(∀f,xi (fs.lookup f)<|b f)/\PySem.Within b (fs.map (·.1))/\fs.length<=1000/\H dx=some (.own a):=by
 obtain⟨d,z,c,ob,b,n,r,q⟩:=((g a _ e));exact⟨b,⟨ob,n,c⟩,r,q,z,d⟩
end
structure Vn(K:PySem.W.Frag)(C:Addr):Prop where
 pg:PySem.W.plainGet K C Str.empty=true
 hd:PySem.W.hasDictIn K C=true
 po:PySem.W.plainOver K C=true
 sa:PySem.W.findIn K (.ref C) "__setattr__"=some (some<|.builtin "object.__setattr__")
def Vn.get{K:PySem.W.Frag}(c:Vn K C)(f:Str):PySem.W.plainGet K C f=true:=c.pg
def fQ(K:PySem.W.Frag)(C:Addr)(f:Str):Prop:=PySem.W.findIn K (.ref C) f=some none
def fQ.PB{K:PySem.W.Frag}(n:fQ K C f):PySem.W.takerIn K C f=some none:=by
 unfold PySem.W.takerIn;rw[n];rfl
structure Meth(K:PySem.W.Frag)(C:Addr)(m:Str)(f:Addr):Prop where
 at_:PySem.W.findIn K (.ref C) m=some (some<|.ref f)
 fn:PySem.W.isFn K (.ref f)=true
 kp:PySem.W.keepIn K (.ref f)=true
section
variable{X:Cx}{aa:db}{σ:St}{H:Hp}{s:Shared}{a C dx:Addr}{fs:AC}{f:Str}{v:V}{A:Around}{E:be}
def aVd{Q:be}(I:Ba X aa σ H s)(e:H a=some (.ins C dx fs))(c:Vn X.K C)(n:fQ X.K C f)(l:fs.lookup f=some v)
  (h:∀u d,Ba X aa σ H d->RelV v u->Q u d):wpAny (model X.prog X.w) A (getAttr (.ref a) f b) Q E s:=by
 obtain⟨j,O,r,_,_,_⟩:=UM I.Ta e;obtain⟨u,i,g⟩:=xi.some_of (by rw[<-l];exact r f)
 exact get_map I.Og O (c.get f) c.hd n i (bAz g)<|h u _ (I.tok _) g
def aVe{Q:Value×List Value->Shared->Prop}(I:Ba X aa σ H s)(e:H a=some (.ins C dx fs))(c:Vn X.K C)(k:Meth X.K C m g)(l:fs.lookup m=none)
  (h:Q (.ref g,[.ref a]) s):wpAny (model X.prog X.w) A (getMethod (.ref a) m pl) Q E s:=by
 obtain⟨b,O,r,_,_,_⟩:=UM I.Ta e;exact bDn I.Og O (c.get m) k.at_ k.fn (xi.none_of<|by rw[<-l];exact r m) h
theorem aVf{Q:wP}(I:Ba X aa σ H s)(e:H a=some (.ins C dx fs))(c:Vn X.K C)(n:fQ X.K C f)(w:fs.length<1000)(v:RelV y u)
  (h:∀j,Ba X aa σ (bb H a<|.ins C dx<|Di f y fs) j->Q () j):wpAny (model X.prog X.w) A (setAttr (.ref a) f u) Q E s:=by
 obtain⟨l,O,r,i,_,m⟩:=UM I.Ta e;refine bIj I.Og O c.sa c.po n.PB c.hd i (by rw[Rb,fm];lia) λx d k=>h _<|I.write (by rw[e];exact True.intro) (.inr m) (λb q p z=>(k.2 b p).trans z) (let ⟨o,_,_,t,_⟩:=d.ns;⟨o,t⟩)<|⟨by rwa [aW O.ne],?_,O.ne,d.obj,_,d.ns,λg=>?_,λg hg=>?_⟩
 .have:=EY f y fs;lia
 .rw[DY]
  by_cases q:g=f
  .rwa [jb q,jb q]
  rw[Pa q,Pa q];exact r g
 by_cases q:g=f
 .rw[q];exact(iL f y fs).1
 refine(iL f y fs).2 g (i g λz=>hg ?_)
 show (if g=f then some u else l g)=none
 rwa [Pa q]
def Ba.made(I:Ba X aa σ H s):Ba X aa σ (bb (bb H s.heap.objs.size<|.own<|s.heap.objs.size+1) (s.heap.objs.size+1)<|.ins C s.heap.objs.size [])
  {s with heap:=(s.heap.push PySem.W.emptyDict).push (PySem.W.instObj C s.heap.objs.size)}:=by
 have e1:(s.heap.push PySem.W.emptyDict).get? s.heap.objs.size=some PySem.W.emptyDict:=de s.heap rfl;refine(I.laid (o:=.own _) (t':=s.toks) (λb u q=>Xb _ q) (Pb _) ⟨_,e1⟩).laid (λb u q=>Xb _ q) (wz<|Mh _ _) ?_
 have a:s.heap.objs.size≠s.heap.objs.size+1:=Vd<|vt _;refine⟨by rw[aW a,bK],Ef _,a,(by
  have:=de (s.heap.push PySem.W.emptyDict) (o:=PySem.W.instObj C s.heap.objs.size) rfl
  rwa [Mh]at this),λ_=>none,(Heap.Ns1.of_empty<|⟨PySem.W.emptyDict, #[],_,e1,rfl,(λe d=>absurd d<|by simp),λ_=>rfl⟩).at λo q=>Xb _ q,λ_=>True.intro,λy c=>absurd rfl c⟩
def bIk{w:World}{f:Str}{s:Shared}{Q:be}(a:Pg e f env)
  (h:wpAny (model prog w) A (eval e env) (λo b=>wpAny (model prog w) A (getAttr o f true) Q E b) E s):wpAny (model prog w) A (eval (.Attribute e f pos) env) Q E s:=
 Attribute_any_ h (by rw[arm_eval_Attribute,a])
end
def bUp(K:PySem.W.Frag)(d:TE)(f:Str):TE:=λc H Q=>d c H λx b=>∃a C e fs v,x=.ref a/\b a=some (.ins C e fs)/\Vn K C/\fQ K C f/\fs.lookup f=some v/\Q v b
def bUq(K:PySem.W.Frag)(g e:TE)(f:Str):TS:=λD b H=>e b H λy h=>g b h λx d=>∃a C c fs,x=.ref a/\d a=some (.ins C c fs)/\Vn K C/\fQ K C f/\fs.length<1000/\
 D.nx b (bb d a<|.ins C c<|Di f y fs)
section
variable{X:Cx}{o e value:Expr}{f:Str}{pos pos' tpos:Pos}{ta tv:TE}
def bO2(he:PE X e ta)(i:Pg e f X.env):PE X (.Attribute e f pos) (bUp X.K ta f):=by
 intro m s b H Q I h;refine bIk i<|Vb (he m s b H _ I h) λu y ⟨x,r,p,d,a,C,z,fs,v,j,k,c,n,l,q⟩=>?_
 subst j;obtain rfl:u=Value.ref a:=d;exact aVd p k c n l λt w o g=>⟨v,r,o,g,q⟩
def bO3(i:PE X o ta)(g:PE X value tv)(hs:aj value (some<|.Attribute o f pos') pos.line X.env):PS X (.Assign [.Attribute o f pos'] value pos) (bUq X.K ta tv f):=by
 intro d s b H D I h;refine plainObj_wpAny_Assign_Attribute (Vb (g d s b H _ I h) λu e ⟨y,m,k,ry,q⟩=>Vb (i d e b m _ k q) λov r ⟨x,v,I2,rx,a,C,t,fs,ex,ea,c,n,l,q2⟩=>?_) hs
 subst ex;obtain rfl:ov=Value.ref a:=rx;exact aVf I2 ea c n l ry λp j=>⟨b,_,j,q2⟩
end
section
variable{X:Cx}{aa:db}{σ:St}{H:Hp}{s:Shared}{A:Around}{E:be}{Q:be}{c:Value}{b:Bool}
inductive Rg (K:PySem.W.Frag) (H:Hp):V->Value->Prop where
 |Sb:Rg K H .Sb (.type "NoneType")
 |bl (x:Bool):Rg K H (.bl x) (.type "bool")
 |int (i:Int):Rg K H (.int i) (.type "int")
 |str (x:Str):Rg K H (.str x) (.type "str")
 |Sw (x:UInt64):Rg K H (.Sw x) (.type "float")
 |lst {a:Addr} {xs:o0} (e:H a=some (.lst xs)):Rg K H (.ref a) (.type "list")
 |Fh {a:Addr} {o:Obj} {xs:o0} (e:H a=some (.Fh o<|.lst xs)):Rg K H (.ref a) (.type "list")
 |tup {a:Addr} {xs:o0} (e:H a=some (.tup xs)):Rg K H (.ref a) (.type "tuple")
 |dK {a:Addr} {ua:s0} (e:H a=some (.dK ua)):Rg K H (.ref a) (.type "dict")
 |dT {a:Addr} {ua:wn} (e:H a=some (.dT ua)):Rg K H (.ref a) (.type "dict")
 |ins {a C dx:Addr} {fs:AC} (e:H a=some (.ins C dx fs)) (cl:Vn K C) (ha:PySem.W.findIn K (.ref C) "__class__"=some (some<|.builtin "object.__class__"))
   (hn:PySem.W.specialIn K (.builtin "object.__class__") "__get__"=some (some<|.builtin "getset_descriptor.__get__")) (htk:PySem.W.takesIn K (.builtin "object.__class__")=some true)
   (hm:PySem.W.mroIn K C (.type "object")=some true):Rg K H (.ref a) (.ref C)
end
structure Kb(k:Nat)(A:Around):Prop where
 hd:A.handled=none
 dp:A.depth+3*k+5<recursionLimit
 un:A.units+16*k+200<cLine
theorem Kb.mono{j k:Nat}(r:Kb k A)(h:j<=k):Kb j A:=⟨r.hd,by have:=r.dp;lia,by have:=r.un;lia⟩
theorem Kb.deeper{k:Nat}(r:Kb (k+1) A)(env:Env):Kb k (A.deeper env):=
 ⟨r.hd,by have:=r.dp;show A.depth+1+3*k+5<_;lia,by have:=r.un;show A.units+3+16*k+200<_;lia⟩
theorem Kb.in1{k:Nat}(r:Kb (k+1) A):Kb k A.in1:=
 ⟨r.hd,by have:=r.dp;lia,by have:=r.un;lia⟩
def aVg{A:Around}{C:Addr}{a:cr}{b:Db}:(A.under<|.builtin "type.__call__" ⟨.ref C::a,b⟩).depth=A.depth+1:=by
 first|rfl|simp
def aVh{A:Around}{C:Addr}{a:cr}{b:Db}:(A.under<|.builtin "type.__call__" ⟨.ref C::a,b⟩).units=A.units+1:=by
 first|rfl|simp
theorem Kb.make{k:Nat}{A:Around}(r:Kb (k+1) A)(C:Addr)(a:cr)(b:Db):Kb k (A.under<|.builtin "type.__call__" ⟨.ref C::a,b⟩):=
 ⟨r.hd,by have:=r.dp;rw[aVg];lia,by have:=r.un;rw[aVh];lia⟩
theorem Kb.depth{k:Nat}(r:Kb k A):A.depth<recursionLimit:=by have:=r.dp;lia
theorem Kb.units{k:Nat}(r:Kb k A):A.units+64<cLine:=by have:=r.un;lia
def bUr:TA:=λ_ H Q=>Q [] H
def bRp(d:TE)(c:TA):TA:=λa H Q=>d a H λx f=>c a f λb e=>Q (x::b) e
section
variable{X:Cx}{e:Expr}{es:List Expr}{te:TE}{t:TA}{pos:Pos}
def fD:PA X [] bUr:=λ_ _ _ _ H Q I h=>NR ⟨[],H,I,.nil,h⟩
def cN(l:PE X e te)(k:PA X es t)(hs:sf e es X.env:=by rfl):PA X (e::es) (bRp te t):=by
 intro pos b s a H Q I h;rw[hs];refine GR<|Vb (l b s a H _ I h) λu d ⟨x,p,n,g,j⟩=>?_
 exact Vb (k pos b d a p _ n j) λq r ⟨c,o,m,f,i⟩=>⟨x::c,o,m,.cons g f,i⟩
def bUs(t:TA):TE:=λc H Q=>t c H λa b=>a.length<=sizeLine/\∀p,b p=none->Q (.ref p) (bb b p<|.tup a)
def bUt(t:TA):TE:=λc H Q=>t c H λa b=>a.length<=sizeLine/\∀p,b p=none->Q (.ref p) (bb b p<|.lst a)
def bO4{x1}(h:PA X es t):PE X (.Tuple es x1 pos) (bUs t):=by
 intro j s d H Q I i;exact wpAny_Tuple_spliced<|Vb (h pos j s d H _ I i) λg a ⟨f,k,c,r,z,q⟩=>⟨by rwa [<-r.length],(⟨.ref a.heap.objs.size,bb k a.heap.objs.size<|.tup f,c.laid (λb u e=>Xb _ e) (Pb _)<|⟨z,g,r,⟨_,de _ rfl,rfl,_,rfl⟩⟩,rfl,q _<|c.Ta.fresh<|Pb _⟩)⟩
def AO(h:PA X es t):PE X (.List es pos) (bUt t):=by
 intro j s d H Q I i;exact wpAny_List_spliced<|Vb (h pos j s d H _ I i) λg a ⟨f,k,c,r,z,q⟩=>⟨by rwa [<-r.length],(⟨.ref a.heap.objs.size,bb k a.heap.objs.size<|.lst f,c.laid (λb u e=>Xb _ e) (Pb _)<|⟨z,g,0,r,de _ rfl⟩,rfl,q _<|c.Ta.fresh<|Pb _⟩)⟩
end
abbrev Sp:=List V->Hp->VK->XK->Prop
abbrev Nr:=List Env->Hp->Shared->XK->be
structure Wh(P:Program)(w:World)(K:PySem.W.Frag)(mg:im)(base:Heap)(A:Around)(outer:Ch)(s:Shared)(H:Hp):Prop where
 frames:A.frames=some outer
 mod:Mod K mg base
 bs:∀b o,base.get? b=some o->s.heap.get? b=some o/\H b=none
 Ho:base.objs.size<=s.heap.objs.size
 zg:s.heap.FunFrames base outer
 jr:∀b∈Zk outer,H b=none
 Ta:Df P w H s.heap
 bare:AllBare s.gens
def CE(a:Ch)(P:Program)(w:World)(H:Hp)(s:Shared)(Q:VK)(u:Value)(b:Shared):Prop:=
 ∃v c,b.os=s.os/\AllBare b.gens/\Un (Zk a) [] H c s.heap b.heap/\Df P w c b.heap/\RelV v u/\Q v c
def CR(CX:Nr)(a:Ch)(P:Program)(w:World)(H:Hp)(s:Shared)(Q:VK)(E:XK)(r:Result)(b:Shared):Prop:=
 match r with
 |.ok (.ret u)=>CE a P w H s Q u b
 |.ok _=>False
 |.error e=>CX a H s E e b
structure Ca(P:Program)(w:World)(K:PySem.W.Frag)(mg:im)(base:Heap)(CX:Nr)(k:Nat)(f:Addr)(fd:FuncData)(ps:wp)(sp:Sp):Prop where
 len:∀vs H Q E,sp vs H Q E->vs.length=ps.length
 run:∀(A:Around)(outer:Ch)(s:Shared)(H:Hp)(args:Args)(us:cr)(vs:o0)(Q:VK)(E:XK),Kb k A->Wh P w K mg base A outer s H->BindsTo s fd args (ps.zip us)->Ha vs us->sp vs H Q E->
  codeAny (model P w) A (.call (.ref f) args) (CR CX outer P w H s Q E) s
def Wh.make{w:World}{K:PySem.W.Frag}{mg:im}{A:Around}(e:Wh P w K mg base A outer s H)(C:Addr)(a:cr)(b:Db) :
  Wh P w K mg base (A.under<|.builtin "type.__call__" ⟨.ref C::a,b⟩) outer s H:=⟨by first|exact e.frames|(simpa [Around.under,Code.envs,Code.isFrame,pushEnvs] using e.frames),e.mod,e.bs,e.Ho,e.zg,e.jr,e.Ta,e.bare⟩
theorem Wh.in1{w:World}{K:PySem.W.Frag}{mg:im}(e:Wh P w K mg base A outer s H) :
  Wh P w K mg base A.in1 outer s H:=⟨e.frames,e.mod,e.bs,e.Ho,e.zg,e.jr,e.Ta,e.bare⟩
section
variable{X:Cx}{aa:db}{σ:St}{H:Hp}{s s':Shared}
def Ba.Mt(I:Ba X aa σ H s):Wh X.prog X.w X.K X.mg X.base X.A X.stack s H:=
 ⟨I.ok.frames,I.ok.mod,I.bs,Xd I.ok.Ho I.sz,I.stack,I.Ik,I.Ta,I.bare⟩
def Ba.after(I:Ba X aa σ H s)(h:CE X.stack X.prog X.w H s Q u s'):EP X aa σ Q u s':=by
 obtain⟨v,e,os,bare,un,c,r,q⟩:=h;obtain⟨f,g,d,t,a⟩:=s';obtain rfl:a=s.os:=os;exact⟨v,e,I.call un c bare<|λb z=>absurd z<|by simp,r,q⟩
end
def bRq(sp:Sp)(jf:o0)(E:XK)(t:TA):TE:=λa H Q=>t a H λb c=>sp (b++jf) c Q E
def bRr(C:Addr)(m:Str)(sp:Sp)(jf:o0)(E:XK)(e:TE)(t:TA):TE:=λb H Q=>e b H λx c=>∃a f fs,x=.ref a/\c a=some (.ins C f fs)/\fs.lookup m=none/\
 t b c λd g=>sp (x::(d++jf)) g Q E
def bRs(C:Addr)(sp:Sp)(jf:o0)(E:XK)(t:TA):TE:=λc H Q=>t c H λd b=>∀x a,b x=none->b a=none->a≠x->
 sp (.ref x::(d++jf)) (bb (bb b a<|.own x) x<|.ins C a []) (λv e=>v=.Sb/\Q (.ref x) e) E
def Binds(K:PySem.W.Frag)(b:FuncData)(ps:wp)(ds:cr):Prop:=
 ∀(s:Shared)(a:cr),K.In s.heap->(a++ds).length=ps.length->BindsTo s b ⟨a,[]⟩ (ps.zip<|a++ds)
def Binds.all{K:PySem.W.Frag}{ps:wp}(h:∀a:cr,a.length=ps.length->bindArgs fd ⟨a,[]⟩=pure (ps.zip a)):Binds K fd ps []:=λs a _ b=>by
 rw[Nh]at b ⊢;exact .of_eq<|h a b
def jv(CX:Nr)(X:Cx)(E:XK):Prop:=∀(c:db) (b:St) (H:Hp) (s:Shared) (e:Value) (a:Shared),Ba X c b H s->CX X.stack H s E e a->X.xe e a
section
variable{X:Cx}{CX:Nr}{k:Nat}{f C:Addr}{fd:FuncData}{ps:wp}{sp:Sp}{jf:o0}{ds:cr}{E:XK}{x m:Str}{p pos Ra:Pos}{e o:Expr}{es:List Expr}{ta:TE}{t:TA}
def E7(F:Ca X.prog X.w X.K X.mg X.base CX k f fd ps sp)(g:Kb k X.A)(j:Binds X.K fd ps ds)(i:Ha jf ds)(d:jv CX X E)
  (I:Ba X aa σ H s) (r:Ha vs us) (h:sp (vs++jf) H Q E):wpAny (model X.prog X.w) X.A (call (.ref f) us) (EP X aa σ Q) X.xe s:=by
 have b:=r.append i;refine Cz<|yp (F.run X.A X.stack s H _ _ _ Q E g I.Mt (j s us I.Og<|by rw[<-b.length];exact F.len _ _ _ _ h) b h) λr c a=>?_
 cases r with
 |error e=>exact d aa σ H s e c I a
 |ok l=>
  cases l with
  |ret u=>exact I.after a
  |next=>exact False.elim a
  |brk=>exact False.elim a
  |cont=>exact False.elim a
def VM(F:Ca X.prog X.w X.K X.mg X.base CX k f fd ps sp)(d:Kb k X.A)(j:Gl X x)(g:X.mg x=some (.ref f))(i:PySem.W.keepIn X.K (.ref f)=true)(m:Binds X.K fd ps ds)(l:Ha jf ds)(c:jv CX X E)
  (n:PA X (e::es) t) (u:pf x:=by decide) (he:sf e es X.env:=by rfl) (rf:Zi pos es X.env:=by rfl) :
  PE X (.Call (.Name x p) (e::es) [] pos) (bRq sp jf E t):=by
 intro o s b H Q I h;exact Vq<|FD I j g (HR I.ok.mod.oB i (Vb (n pos o s b H _ I h) λw y ⟨v,z,a,r,q⟩=>⟨a.Og,(E7 F d m l c a r q)⟩) he rf) u
def L4(he:PE X o ta)(c:Vn X.K C)(g:Meth X.K C m f)(F:Ca X.prog X.w X.K X.mg X.base CX k f fd ps sp)(z:Kb k X.A)(B:Binds X.K fd ps ds)(A:Ha jf ds)(w:jv CX X E)(D:PA X (e::es) t)
  (p:sf e es X.env:=by rfl) (rf:Zi pos es X.env:=by rfl)
  (y:eval (.Call (.Attribute o m Ra) (e::es) [] pos) X.env=(do
   let d <- eval o X.env
   standAt Ra.atName
   let (f,first) <- holding [d] (getMethod d m pl)
   callWith pos f first (backTo pos<|starEach (e::es) X.env) (backToKw pos<|keywordEach [] X.env)):=by rfl) :
  PE X (.Call (.Attribute o m Ra) (e::es) [] pos) (bRr C m sp jf E ta t):=by
 intro i s b H Q I h;refine PySem.W.methodCall_KW (Vb (he i s b H _ I h) λu s1 ⟨x,H1,I1,rx,a,K,fs,ex,ea,l,q⟩=>?_) y
 subst ex;obtain rfl:u=Value.ref a:=rx;exact aVe I1 ea c g l<|HR I.ok.mod.oB g.kp (Vb (D pos i s1 b H1 _ I1 q) λG J ⟨n,L,j,r,v⟩=>⟨j.Og,(E7 (vs:=.ref a::n) F z B A w j (.cons rfl r) v)⟩) p rf
structure Mk(K:PySem.W.Frag)(C f:Addr):Prop where
 makes:PySem.W.makesIn K C=true
 init:PySem.W.findIn K (.ref C) "__init__"=some (some<|.ref f)
 fn:PySem.W.isFn K (.ref f)=true
 kp:PySem.W.keepIn K (.ref C)=true
def bDq{Q:VK}(M:Mk X.K C f)(F:Ca X.prog X.w X.K X.mg X.base CX k f fd ps sp)(n:Kb (k+1) X.A)(p:Binds X.K fd ps ds)(o:Ha jf ds)
  (m:jv CX X E) (I:Ba X aa σ H s) (r:Ha vs us)
  (h:∀x b,H x=none->H b=none->b≠x->sp (.ref x::(vs++jf)) (bb (bb H b<|.own x) x<|.ins C b []) (λv y=>v=.Sb/\Q (.ref x) y) E) :
  wpAny (model X.prog X.w) X.A (call (.ref C) us) (EP X aa σ Q) X.xe s:=by
 have g:=h _ s.heap.objs.size (I.Ta.fresh<|Io _) (I.Ta.fresh<|Pb _)<|Vd<|vt _;have c:=Ba.made (C:=C) I;have d:Ha (V.ref (s.heap.objs.size+1)::(vs++jf)) _:=.cons rfl<|r.append o;refine Cz<|bDo I.Og M.makes M.init (Nm.mp M.fn)<|yp (F.run _ X.stack _ _ _ _ _ _ E (n.make C us [])
  (c.Mt.make C us []) (p _ _ c.Og (by
  have e:=d.length;rw[F.len _ _ _ _ g]at e;exact e.symm)) d g) λr i a=>?_
 cases r with
 |error e=>exact m aa σ _ _ e i c a
 |ok q=>
  cases q with
  |ret u=>
   obtain⟨v,z,w,j,t,l⟩:=c.after a;subst t;exact⟨j,⟨V.ref _,z,w,rfl,l⟩⟩
  |next=>exact False.elim a
  |brk=>exact False.elim a
  |cont=>exact False.elim a
def bIl(M:Mk X.K C f)(F:Ca X.prog X.w X.K X.mg X.base CX k f fd ps sp)(d:Kb (k+1) X.A)(i:Gl X x)(g:X.mg x=some (.ref C))(l:Binds X.K fd ps ds)(j:Ha jf ds)(c:jv CX X E)
  (m:PA X (e::es) t) (o:pf x:=by decide) (he:sf e es X.env:=by rfl) (rf:Zi pos es X.env:=by rfl) :
  PE X (.Call (.Name x p) (e::es) [] pos) (bRs C sp jf E t):=by
 intro n s b H Q I h;exact Vq<|FD I i g (HR I.ok.mod.oB M.kp (Vb (m pos n s b H _ I h) λv w ⟨u,y,a,r,q⟩=>⟨a.Og,(bDq M F d l j c a r q)⟩) he rf) o
end
structure Pc(N P:wp)(sc:Scope):Prop where
 kind:sc.kind=.function
 co:sc.isCoroutine=false
 gen:sc.isGenerator=false
 nd:N.Nodup
 pre:N.take P.length=P
 Β:∀x∈P,sc.names.lookup x=some .local\/sc.names.lookup x=some .cell
 xu:∀y∈sc.names,y.2≠.free
theorem PZ{kindOf:Str->Option NameKind}{x:Str}:∀{binds:Db} {m:im},(∀v,(x,v)∉binds)->bindL kindOf binds m x=m x
 |[],_,_=>rfl
 |(n,v)::r,m,h=>by
  unfold bindL;rw[PZ λw a=>h w<|Mb _ a]
  split
  .have:x≠n:=by rintro rfl;exact h v qb
   simp[this]
  rfl
theorem QZ{kindOf:Str->Option NameKind}{x:Str}:∀{binds:Db} {m:im},(∀v,(x,v)∉binds)->bindC kindOf binds m x=m x
 |[],_,_=>rfl
 |(n,v)::r,m,h=>by
  unfold bindC;rw[QZ λw a=>h w<|Mb _ a]
  split
  .rfl
  have:x≠n:=by rintro rfl;exact h v qb
  simp[this]
theorem RZ{kindOf:Str->Option NameKind}:∀{P:wp}{vs:cr}{i:Nat}{m:im},P.Nodup->P[i]?=some x->vs[i]?=some v->kindOf x=some .local->
  bindL kindOf (P.zip vs) m x=some v
 |[],_,_,_,_,h,_,_=>by simp at h
 |_::_,[],_,_,_,_,h,_=>by simp at h
 |p::P,w::vs,0,m,c,b,a,d=>by
  simp at b a;subst b;subst a;show bindL kindOf ((p,w)::P.zip vs) m p=_;unfold bindL;rw[PZ λv e=>(lj.mp c).1 (TR e).1,jb d]
  simp
 |p::P,w::vs,i+1,m,c,b,a,d=>by
  unfold bindL;exact RZ (lj.mp c).2 (by simpa using b) (by simpa using a) d
theorem TZ{kindOf:Str->Option NameKind}:∀{P:wp}{vs:cr}{i:Nat}{m:im},P.Nodup->P[i]?=some x->vs[i]?=some v->kindOf x≠some .local->
  bindC kindOf (P.zip vs) m x=some v
 |[],_,_,_,_,h,_,_=>by simp at h
 |_::_,[],_,_,_,_,h,_=>by simp at h
 |p::P,w::vs,0,m,c,b,a,d=>by
  simp at b a;subst b;subst a;show bindC kindOf ((p,w)::P.zip vs) m p=_;unfold bindC;rw[QZ λv e=>(lj.mp c).1 (TR e).1,Pa d]
  simp
 |p::P,w::vs,i+1,m,c,b,a,d=>by
  unfold bindC;exact TZ (lj.mp c).2 (by simpa using b) (by simpa using a) d
noncomputable def start(N:wp)(vs:o0):St:=vs.map some++List.replicate (N.length-vs.length) none
noncomputable def Hm(CX:Nr)(P:Program)(w:World)(K:PySem.W.Frag)(mg:im)(base:Heap)(N:wp)(b:Str)(a:Scope)(f:Addr)(c:Value)(A:Around)(outer:Ch)(s:Shared)(H:Hp)(E:XK):Cx where
 prog:=P
 w:=w
 K:=K
 mg:=mg
 base:=base
 A:=A.deeper<|envOfC b a s.heap.objs.size f c
 N:=N
 Ga:=s
 La:=H
 env:=envOfC b a s.heap.objs.size f c
 outer:=outer
 stack:=envOfC b a s.heap.objs.size f c::outer
 ex:=[]
 calm:=true
 fn:=λ_=>true
 pn:=[]
 xe:=λe g=>wpAny (model P w) (A.deeper<|envOfC b a s.heap.objs.size f c) (leaving (envOfC b a s.heap.objs.size f c) e) (λ_ d=>CX outer H s E e d) (λh d=>CX outer H s E h d) g
def G1{a:Scope}(h:a.names.lookup x=some .cell):∃c,(cellsFrom n a.names []).lookup x=some c:=by
 exact x_.mp<|J_ a.names n []<|.inl h
theorem bB0{w:World}{K:PySem.W.Frag}{mg:im}{A:Around}{vs:o0}
  (S:Pc N ps scope) (C:A.handled=none) (d:Wh P w K mg base A outer s H) (G:vs.length=ps.length) (r:Ha vs us)
  (x:InCallC s s.heap.objs.size (bindL (envOfC qual scope s.heap.objs.size f cd).kindOf (ps.zip us) λ_=>none) (cellsFrom (s.heap.objs.size+1) scope.names []) (bindC (envOfC qual scope s.heap.objs.size f cd).kindOf (ps.zip us) λ_=>none) s1) :
  Ba (Hm CX P w K mg base N qual scope f cd A outer s H E) [] (start N vs) H s1:=by
 have F:ps.length<=N.length:=by have:=congrArg List.length S.pre;rw[EH]at this;lia
 obtain⟨m,D,rfl,t⟩:=x.done;have g:∀b:Addr,b∉(Hm CX P w K mg base N qual scope f cd A outer s H E).ex:=λb z=>absurd (show b∈([]) from z) (by simp)
 refine⟨⟨d.mod,S.kind,rfl,rfl,Pb _,λy z c m h2=>?_,λy hy=>?_,λy c _ h=>?_,λ_=>C,Around.frames_deeper d.frames,.inr ⟨rfl,rfl⟩,λb z=>absurd z<|g b,d.bs,d.Ho,λb _ _=>g b,λb z=>absurd z<|g b,d.zg,d.jr⟩,
  rfl,d.bare,Un.kept t,⟨_,x.toInCall.ns,λi y v m h2 I=>?_⟩,λy c h=>⟨_,x.cell y c h⟩,d.Ta.fresh<|Pb _,λy c h=>?_,λp j=>absurd (show p∈([]) from j) (by simp),d.Ta.kept t,?_⟩
 .exact name_of_addr x.apart (Sk m) (Sk h2)
 .rcases hy with hy|hy
  .exact G1 hy
  exact absurd rfl<|S.xu _<|Sk hy
 .exact Co (x.above y c<|Sk h)
 .have l:i<vs.length:=by
   unfold start at h2
   by_cases l:i<vs.length
   .exact l
   rw[ow (by simpa using l),List.getElem?_replicate]at h2
   split at h2<;>cases h2
  obtain⟨u,o,B⟩:=r.get (by
   unfold start at h2;rw[ik (by simpa using l),List.getElem?_map]at h2
   cases e:vs[i]? with
   |none=>rw[e]at h2;cases h2
   |some a=>rw[e]at h2;cases h2;rfl)
  have j:ps[i]?=some y:=by
   rwa [<-S.pre,List.getElem?_take_of_lt (by lia)]
  have n:ps.Nodup:=by rw[<-S.pre];exact S.nd.sublist<|List.take_sublist _ _
  refine⟨u,B,?_⟩;rcases S.Β y (jg j) with k|k
  .exact .inl ⟨k,RZ n j o k⟩
  obtain⟨c,e⟩:=G1 k;refine .inr ⟨.inl k,c,e,?_⟩;have q:=x.cell y c e
  rwa [TZ n j o (by show scope.names.lookup y≠_;rw[k];decide)]at q
 .exact d.Ta.fresh (Co<|x.above y c<|Sk h)
 unfold start;show _=N.length;rw[Ud,Rb,wo];lia
def U8{w:World}{K:PySem.W.Frag}{mg:im}{k:Nat}{kV z:Value}{y:pi}
  {L:li} {sp:Sp} (lk:K.lookup f=some ⟨z,y,.func<|PySem.W.fnOf name qual params body scope dV kV doc pm an Zb ct,L⟩) (m:PySem.W.codeIn K Zb qual=true) (S:Pc N ps scope)
  (len:∀vs H Q E,sp vs H Q E->vs.length=ps.length)
  (I:∀(A:Around)(outer:Ch)(s:Shared)(H:Hp)(vs:o0)(Q:VK)(E:XK),Kb k (A.deeper<|envOfC qual scope s.heap.objs.size f Zb)->sp vs H Q E->
   ∃t,Dd (Hm CX P w K mg base N qual scope f Zb A outer s H E) body t/\t {nx:=λ_ a=>Q .Sb a,rt:=Q} (start N vs) H) :
  Ca P w K mg base CX (k+1) f (PySem.W.fnOf name qual params body scope dV kV doc pm an Zb ct) ps sp:=by
 refine⟨len,λA outer s H j M vs Q E hr e0 hb r hsp=>?_⟩
 have l:=e0.mod.oB.keeps λb o e=>(e0.bs b o e).1
 refine codeAny_call_function hr.depth (l _ _ lk) rfl S.co S.gen rfl (PySem.W.codeRec_of l m)<|hb _ _ _ _<|wpAny_newFunctionEnv_cells S.kind (λ⟨n,v⟩ B=>by
  rcases S.Β n (TR B).1 with q|q
  .exact .inl q
  exact .inr ⟨q,J_ _ _ _<|.inl q⟩) λG F p x=>?_
 subst F;refine⟨(e0.mod.nolimit.keeps λb o e=>(e0.bs b o e).1).keeps x.toInCall.keep,codeAny_func ?_⟩
 obtain⟨t,C,D⟩:=I A outer s H vs Q E (hr.deeper _) hsp;refine Gj (C [] p _ H _ (bB0 S hr.hd e0 (len _ _ _ _ hsp) r x) D) (λfl h c=>?_) λe h c=>c
 have d:∀{g:St}{a:Hp}{v:V}{u:Value},Ba (Hm CX P w K mg base N qual scope f Zb A outer s H E) [] g a h->RelV v u->Q v a->CE outer P w H s Q u h:=
  λ{g a v u} J i q=>⟨v,a,J.os,J.bare,J.base,J.Ta,i,q⟩
 cases fl with
 |ret u=>
  obtain⟨v,g,a,J,i,q⟩:=c;exact d J i q
 |next=>
  obtain⟨g,a,J,q⟩:=c;exact d (v:=V.Sb) J rfl q
 |brk=>
  obtain⟨_,_,_,q⟩:=c;exact False.elim q
 |cont=>
  obtain⟨_,_,_,q⟩:=c;exact False.elim q
section
variable{X:Cx}{x:Str}{p pos:Pos}{e:Expr}{es:List Expr}{t:TA}{id T:String}{r:GM}
def Δ(r:GM)(t:TA):TE:=λa H Q=>t a H λb c=>r b c Q
def rY(n:mF X (.builtin id) r)(m:Gl X x)(l:X.mg x=none)(j:bootBuiltins x=some (.builtin id))(o:PA X (e::es) t)(k:x≠"__name__":=by decide)(v:pf x:=by decide)
  (he:sf e es X.env:=by rfl) (rf:Zi pos es X.env:=by rfl):PE X (.Call (.Name x p) (e::es) [] pos) (Δ r t):=by
 intro b s a H Q I h;exact Vq<|uV I m l j (PyProof.Rows.callWith_builtin1 (Vb (o pos b s a H _ I h) λd f ⟨c,u,q,g,i⟩=>n b f a u c d Q q g i) he rf) k v
def oR(n:mF X (.type T) r)(m:Gl X x)(l:X.mg x=none)(j:bootBuiltins x=some (.type T))(o:PA X (e::es) t)(k:x≠"__name__":=by decide)(v:pf x:=by decide)
  (he:sf e es X.env:=by rfl) (rf:Zi pos es X.env:=by rfl):PE X (.Call (.Name x p) (e::es) [] pos) (Δ r t):=by
 intro b s a H Q I h;exact Vq<|uV I m l j (Tq (Vb (o pos b s a H _ I h) λd f ⟨c,u,q,g,i⟩=>n b f a u c d Q q g i) he rf) k v
end
end L2
namespace HT
open PySem PyProof.Rows
section
open PySem.SeqAt
open PySem.AutoSeq1 (wpAny_loadPart')
open PySem.MeetsSeq PySem.MeetsSeq2 PySem.MeetsSeq3
end
section
variable{prog:Program}{w:World}{A:Around}{E:be}{s:Shared}
noncomputable def Je(n d:Nat):Option Int->Nat
 |none=>d
 |some v=>if v<0 then (v+(n:Int)).toNat else min v.toNat n
def dj(n d:Nat):Je n d none=d:=rfl
def Dk(n d k:Nat):Je n d (some (k:Int))=min k n:=by
 show (if (k:Int)<0 then ((k:Int)+(n:Int)).toNat else min (k:Int).toNat n)=min k n
 rw[Pa (by omega),Ao]
end
end HT
namespace L2
open PySem PySem.Spec PyProof.Rows
abbrev TO:=St->Hp->(Option Int->Hp->Prop)->Prop
def PO(X:Cx)(e:Option Expr)(t:TO):Prop:=
 ∀(b:db) (s:Shared) (a:St) (H:Hp) (Q:Option Int->Hp->Prop),Ba X b a H s->t a H Q->
  wpAny (model X.prog X.w) X.A (evalPart e X.env) (λu d=>∃o c,Ba X b a c d/\IsPart u o/\Q o c) X.xe s
def bIm:TO:=λ_ H Q=>Q none H
def bRt(t:TE):TO:=λa H Q=>t a H λx b=>∃i,x=.int i/\Q (some i) b
section
variable{X:Cx}{e:Expr}{te:TE}{lo hi:Option Expr}{tl th:TO}{pos p2:Pos}
def M4:PO X none bIm:=by
 intro b s a H Q I h;exact Ma ⟨none,H,I,.none,h⟩
def N4(h:PE X e te):PO X (some e) (bRt te):=by
 intro f s a H Q I d;refine Vb (h f s a H _ I d) λu k ⟨x,j,g,b,c⟩=>?_
 obtain⟨i,rfl,q⟩:=c;obtain⟨t,rfl⟩:=b;exact⟨some i,j,g,.int i t,q⟩
def mq(X:Cx)(r:pp):Prop:=
 ∀(e:db) (s:Shared) (a:St) (H:Hp) (x:V) (v c b:Value) (lo hi:AT) (d:Addr) (Q:VK),Ba X e a H s->RelV x v->s.heap.IsSliceOf d c b .none->IsPart c lo->IsPart b hi->r x lo hi H Q->
  ∃T id,typeLookup (.type T) "__getitem__"=pure (some<|.builtin id)/\s.TypeIs v T/\wpAny (model X.prog X.w) X.A (getItem v<|.ref d) (EP X e a Q) X.xe s
def mq.or{r g:pp}(h:mq X r)(m:mq X g):mq X (λx lo a H Q=>r x lo a H Q\/g x lo a H Q):=by
 intro l s b H x v d c lo a e Q I f k j i q;rcases q with q|q
 .exact h l s b H x v d c lo a e Q I f k j i q
 exact m l s b H x v d c lo a e Q I f k j i q
def tSl(r:pp)(te:TE)(b c:TO):TE:=λa H Q=>te a H λx f=>b a f λl e=>c a e λu d=>r x l u d Q
def NL{r:pp}(z:mq X r)(he:PE X e te)(A:PO X lo tl)(w:PO X hi th):PE X (.Subscript e (.Slice lo hi none p2) pos) (tSl r te tl th):=by
 intro c s a H Q I h;refine Subscript_<|Vb (he c s a H _ I h) λv j ⟨x,K,F,k,o⟩=>?_
 refine wpAny_Slice<|Vb (A c j a K _ F o) λg i ⟨l,J,E,t,n⟩=>Vb (w c i a J _ E n) λf d ⟨u,G,D,p,m⟩=>Ma ?_
 obtain⟨T,id,C,y,B⟩:=z c {d with heap:=d.heap.push {cls:=.type "slice",data:=.fields #[g,f,.none]} } a G x v g f l u d.heap.objs.size Q (D.kept λb ob q=>Xb _ q) k (Heap.IsSliceOf.new ..) t p m
 exact tail_any y C B (by with_unfolding_all rfl)
def Xv(xs:o0)(lo a:AT):o0:=(xs.drop<|HT.Je xs.length 0 lo).take<|HT.Je xs.length xs.length a-HT.Je xs.length 0 lo
theorem ţ(xs:o0)(lo a:AT):(Xv xs lo a).length<=xs.length:=by
 unfold Xv;rw[EH,List.length_drop];lia
def CB(K:PySem.W.Frag):pp:=λx lo hi H Q=>∃a b,x=.ref a/\Xf K H a b/\
 ¬ (HT.Je b.length 0 lo=0/\HT.Je b.length b.length hi=b.length)/\∀p,H p=none->Q (.ref p) (bb H p<|.tup<|Xv b lo hi)
end
noncomputable def rj(n:Nat)(i:Int):Option Nat:=if 0<=i then (if i<n then some i.toNat else none) else if -(n:Int)<=i then some (i+n).toNat else none
def yd{a:Type}(xs:List a)(i:Int):Option a:=(rj xs.length i).bind λj=>xs[j]?
theorem bIn{n:Nat}(h:rj n i=some j):seqIndex? i n=some j/\j<n/\-(n:Int)<=i/\i<n:=by
 unfold rj at h
 by_cases b:0<=i
 .rw[jb b]at h
  by_cases a:i<n
  .rw[jb a]at h;exact⟨by rw[seqIndex_of b a,(Vk h)],by lia,by lia,a⟩
  rw[Pa a]at h;cases h
 rw[Pa b]at h
 by_cases a : -n<=i
 .rw[jb a]at h;exact⟨by rw[seqIndex_neg (by lia) a,(Vk h)],by lia,a,by lia⟩
 rw[Pa a]at h;cases h
def WM{a:Type}{xs:List a}{v:a}(h:yd xs i=some v):∃j,seqIndex? i xs.length=some j/\xs[j]?=some v/\j<xs.length/\-(xs.length:Int)<=i/\i<xs.length:=by
 unfold yd at h;cases e:rj xs.length i with
 |none=>rw[e]at h;cases h
 |some j=>
  rw[e]at h;obtain⟨f,d,c,b⟩:=bIn e;exact⟨j,f,h,d,c,b⟩
theorem Qb{a:Type}{xs:List a}{j:Nat}{v:a}(h:xs[j]?=some v):yd xs (j:Int)=some v:=by
 have b:=(Ee.mp h).1;have e:rj xs.length j=some j:=by
  unfold rj;rw[jb (by lia),jb (by lia)];simp
 unfold yd;rwa [e]
def Ii{a:Type}(xs:List a)(v:a):yd (xs++[v]) (-1)=some v:=by
 have b:(xs++[v]).length=xs.length+1:=by simp
 have e:rj (xs++[v]).length (-1)=some xs.length:=by
  unfold rj;rw[b,Pa (by decide),jb (by omega)]
  congr 1;omega
 unfold yd;rw[e];show (xs++[v])[xs.length]?=some v;simp
def XM(b:Expr):Prop:=∀o i,subscripted b false o i=operate [o,i] (getItem o i)
def Wn(X:Cx)(r:R2):Prop:=
 ∀(b a:Expr) (d:db) (s:Shared) (c:St) (H:Hp) (x y:V) (v u:Value) (Q:VK),Ba X d c H s->RelV x v->RelV y u->r x y H Q->
  subscripted a false v u=operate [v,u] (getItem v u)->wpAny (model X.prog X.w) X.A (subscriptTail b a v u) (EP X d c Q) X.xe s
def Ll(X:Cx)(id:String)(r:sw):Prop:=
 ∀(d:db) (s:Shared) (a:St) (H:Hp) (x:V) (b:o0) (v:Value) (c:cr) (Q:VK),Ba X d a H s->RelV x v->Ha b c->r x b H Q->
  wpAny (model X.prog X.w) X.A (call (.builtin id)<|v::c) (EP X d a Q) X.xe s
section
variable{X:Cx}{a b:Expr}{ta tb:TE}{pos:Pos}
def Wn.or(h:Wn X r)(i:Wn X r'):Wn X (λx y H Q=>r x y H Q\/r' x y H Q):=by
 intro a b g s c H x y v u Q I e d q f;rcases q with q|q
 .exact h a b g s c H x y v u Q I e d q f
 exact i a b g s c H x y v u Q I e d q f
def V8(g:Wn X r)(j:PE X a ta)(i:PE X b tb)(hs:XM b):PE X (.Subscript a b pos) (MB r ta tb):=by
 intro k s c H Q I h;exact Subscript_<|CQ j i I h λv u d x y m l f e q=>g a b k d c m x y v u Q l f e q<|hs _ _
def R9(K:PySem.W.Frag):R2:=λx y H Q=>∃p a i v,x=.ref p/\y=.int i/\Qc K H p a/\yd a i=some v/\Q v H
def S9(K:PySem.W.Frag):R2:=λx y H Q=>∃p a i v,x=.ref p/\y=.int i/\Xf K H p a/\yd a i=some v/\Q v H
def T9:R2:=λx y H Q=>∃z i c,x=.str z/\y=.int i/\z.length<=sizeLine/\yd z.cps.toList i=some c/\Q (.str ⟨#[c]⟩) H
theorem bIo:Wn X (R9 X.K):=by
 intro c d J s n H x y v u Q I A o h k;obtain⟨p,L,i,z,rfl,rfl,B,D,q⟩:=h;cases A;obtain⟨t,rfl⟩:=o;obtain⟨f,r,e,M⟩:=I.list B;obtain⟨j,b,G,O,F,E⟩:=WM D;obtain⟨w,m,K⟩:=r.get G;have C:=r.length;have N:=jy;have a:EP X J n Q w s:=⟨z,H,I,K,q⟩
 by_cases l:0<=i
 .have g:=by
   rw[seqIndex_of l E]at b;exact Vk b
  exact item_listR e.isList l (by lia) (by rw[g];simpa using m) a k
 have g:(i+f.toArray.size).toNat=j:=by
  rw[seqIndex_neg (by lia) F]at b
  rw[Jf,<-C];exact Vk b
 exact subscriptTail_builtinR e.isList.typeIs slot_list_getitem.lookup
  (wpAny_getItem_list_neg e.isList (by lia) (by rw[Jf] <;> lia) (by lia) (by rw[g];simpa using m) ⟨rfl,a⟩) k
theorem bO5:Wn X (S9 X.K):=by
 intro a b K s A H x y v u Q I e d h g;obtain⟨p,B,i,z,rfl,rfl,k,l,q⟩:=h;cases e;obtain⟨t,rfl⟩:=d;obtain⟨f,r,c,C⟩:=I.tuple k;obtain⟨j,J,m,G,F,E⟩:=WM l;obtain⟨w,n,o⟩:=r.get m;have D:=jy;exact subscriptTail_builtinR c.typeIs slot_tuple_getitem.lookup
  (getItem_tuple c (by lia) (by lia) (by rwa [Jf,<-(r.length)]) (by simpa using n) ⟨rfl,(⟨z,H,I,o,q⟩)⟩) g
theorem bO6:Wn X T9:=by
 intro a b C s p H x y v u Q I f e h g;obtain⟨z,i,c,rfl,rfl,w,l,q⟩:=h;obtain⟨t,rfl⟩:=f;obtain⟨r,rfl⟩:=e;obtain⟨j,d,o,B,n,m⟩:=WM l;have k:z.cps.toList.length=z.length:=by simp[Str.length]
 rw[k]at d n m;have A:=jy;exact tail_any (typeIs_str s z t) slot_str_getitem.lookup (getItem_str (by
  rw[(pe<|by lia),(pe<|by lia),Bool.or_false]) (by rw[d];simpa using o) ⟨.str _,H,I.tok _,⟨_,rfl⟩,q⟩) g
def MI(K:PySem.W.Frag):R2:=λx y H Q=>R9 K x y H Q\/S9 K x y H Q\/T9 x y H Q
def F7:Wn X (MI X.K):=bIo.or<|bO5.or bO6
theorem Ba.lst(I:Ba X aa σ H s)(h:H p=some (.lst xs)) :
  ∃(a:cr)(n:Nat),Ha xs a/\s.heap.get? p=some {cls:=.type "list",data:=.seq a.toArray n}/\xs.length<=sizeLine:=by
 obtain⟨z,a,n,r,e⟩:=I.Ta p _ h;exact⟨a,n,r,e,z⟩
theorem ļ(lo a:AT)(n:Nat):(sliceBounds lo a none n).1=((HT.Je n 0 lo:Nat):Int)/\(sliceBounds lo a none n).2.1=((HT.Je n n a:Nat):Int)/\(sliceBounds lo a none n).2.2=1:=by
 refine⟨?_,?_,rfl⟩
 .cases lo with
  |none=>simp[sliceBounds,HT.Je]
  |some i=>
   simp only[sliceBounds,HT.Je,Option.getD_none]
   by_cases h:i<0
   .simp only[h,if_true] <;> lia
   simp only[h,if_false] <;> lia
 cases a with
 |none=>simp[sliceBounds,HT.Je]
 |some i=>
  simp only[sliceBounds,HT.Je,Option.getD_none]
  by_cases h:i<0
  .simp only[h,if_true] <;> lia
  simp only[h,if_false] <;> lia
def ė(a:cr)(lo b:AT):slicePick a.toArray lo b none=((a.drop<|HT.Je a.length 0 lo).take<|HT.Je a.length a.length b-HT.Je a.length 0 lo).toArray:=by
 obtain⟨e,d,c⟩:=ļ lo b a.toArray.size;unfold slicePick;rw[e,d,c];simp only[sliceRange_one,pick_run] <;> rfl
def bUu(K:PySem.W.Frag):pp:=λx lo c H Q=>∃a b,x=.ref a/\Qc K H a b/\∀p,H p=none->Q (.ref p) (bb H p<|.lst<|Xv b lo c)
theorem O4:mq X (bUu X.K):=by
 intro w s o H x v t p lo m u Q I e l g f h;obtain⟨a,d,rfl,k,q⟩:=h;cases e;obtain⟨i,r,c,j⟩:=I.list k;have n:=r.length;refine⟨"list",_,slot_list_getitem.lookup,c.isList.typeIs,(wpAny_getItem_list_slice c.isList l g f .none (by simp) ?_<|by rw[Jf] <;> lia)⟩
 rw[ė,<-n];refine⟨.ref s.heap.objs.size,_,I.laid (λb ob q=>Xb _ q) (Pb _) ?_,rfl,q _<|I.Ta.fresh<|Pb _⟩
 exact⟨Xd (ţ d lo m) j,_,0,(r.drop _).take _,de _ rfl⟩
theorem Ľ:mF X (.builtin "len") (λxs H Q=>∃p ys,xs=[.ref p]/\(Qc X.K H p ys\/Xf X.K H p ys)/\Q (.int ys.length) H):=by
 intro l s i H xs j Q I r h;obtain⟨p,ys,rfl,a,q⟩:=h;obtain⟨u,rfl,f⟩:=vals1 r;cases f;have k:=jy;rcases a with a|a
 .obtain⟨d,b,c,g⟩:=I.list a;have e:=b.length;exact Calls.call_len_list c.isList (by simp only[List.size_toArray] <;> lia) ⟨.int ys.length,H,I.tok _,⟨s.toks+1,by rw[Jf,e]⟩,q⟩
 obtain⟨d,b,c,g⟩:=I.tuple a;have e:=b.length;exact len_tuple c (by simp only[List.size_toArray] <;> lia) ⟨.int ys.length,H,I.tok _,⟨s.toks+1,by rw[Jf,e]⟩,q⟩
theorem ľ:mF X (.builtin "len") (λxs H Q=>∃z,xs=[.str z]/\z.length<=sizeLine/\Q (.int z.length) H):=by
 intro e s a H xs b Q I r h;obtain⟨z,rfl,c,q⟩:=h;obtain⟨u,rfl,t,rfl⟩:=vals1 r;have d:=jy;exact len_str (by lia) ⟨.int z.length,H,I.tok _,⟨_,rfl⟩,q⟩
def mF.or{r d:GM}(h:mF X f r)(g:mF X f d):mF X f (λxs H Q=>r xs H Q\/d xs H Q):=by
 intro e s a H xs b Q I c q;rcases q with q|q
 .exact h e s a H xs b Q I c q
 exact g e s a H xs b Q I c q
def DW(K:PySem.W.Frag)(T:String)(x:V)(H:Hp):Prop:=match x with
 |.str _=>T="str"
 |.int _=>T="int"
 |.ref p=>(T="list"/\∃b,Qc K H p b)\/(T="tuple"/\∃o,K.lookup p=some o/\o.cls=.type "tuple"/\o.dict=none)\/
   (T="dict"/\((∃a,H p=some (.dK a))\/∃a,H p=some (.dT a)))\/(T="set"/\∃S n,H p=some (.set S n))
 |_=>False
def G7(I:Ba X aa σ H s)(r:RelV x v)(ty:DW X.K T x H) :
  s.TypeIs v T/\∀a,v=.ref a->∃ob,s.heap.get? a=some ob/\ob.dict=none:=by
 cases x with
 |str z=>
  obtain⟨t,rfl⟩:=r;cases (ty);exact⟨typeIs_str s z t,λ_ e=>nomatch e⟩
 |int i=>
  obtain⟨t,rfl⟩:=r;cases (ty);exact⟨typeIs_int s i t,λ_ e=>nomatch e⟩
 |ref p=>
  cases r;rcases ty with ⟨rfl,m,k⟩|⟨rfl,o,b,l,f⟩|⟨rfl,b⟩|⟨rfl,S,n,b⟩
  .obtain⟨j,_,g,_⟩:=I.list k;refine⟨g.isList.typeIs,λa e=>?_⟩
   cases e;obtain⟨o,n,e,c,f,_⟩:=g;exact⟨o,e,f⟩
  .refine⟨⟨o,I.Og p o b,l⟩,λa e=>?_⟩
   cases e;exact⟨o,I.Og _ o b,f⟩
  .have z:∃o,s.heap.get? p=some o/\o.ExactDict:=by
    rcases b with ⟨h,b⟩|⟨h,b⟩
    .obtain⟨_,_,_,_,o,_,_,e,d,_⟩:=I.Ta p _ b;exact⟨o,e,d⟩
    obtain⟨_,_,_,_,o,_,_,e,d,_⟩:=I.Ta p _ b;exact⟨o,e,d⟩
   obtain⟨o,e,d⟩:=z;refine⟨⟨o,e,d.1⟩,λa e2=>?_⟩
   cases e2;exact⟨o,e,d.2.1⟩
  obtain⟨o,_,_,_,e,d,_⟩:=I.Ta p _ b;refine⟨⟨o,e,d.1⟩,λa e2=>?_⟩
  cases e2;exact⟨o,e,d.2.1⟩
 |_=>exact False.elim ty
def bUv(K:PySem.W.Frag)(T:String)(r:sw)(c:TE):TE:=λb H Q=>c b H λx a=>DW K T x a/\r x [] a Q
def tBM(K:PySem.W.Frag)(T:String)(r:sw)(d:TE)(t:TA):TE:=λa H Q=>d a H λx b=>DW K T x b/\t a b λc e=>r x c e Q
variable{o e:Expr}{es:List Expr}{to:TE}{t:TA}{name:Str}{Ra Ia:Pos}{T id:String}{r:sw}
def qv(k:PlainAttrs T)(a:Slot T name id)(q:typeOf (.builtin id)=pure (.type "method_descriptor"))(m:Ll X id r)(l:PE X o to)
  (g:Pg o name X.env:=by rfl) (f:Jh Ra Ia:=by rfl):PE X (.Call (.Attribute o name Ra) [] [] Ia) (bUv X.K T r to):=by
 intro d s b H Q I h;refine wpAny_Call_method0_late g f<|Vb (l d s b H _ I h) λv i ⟨x,t,e,c,ty,j⟩=>?_
 obtain⟨p,n⟩:=G7 e c ty;exact⟨T,id,k,a,q,p,n,WQ rfl<|PySem.evalArgs_none<|m d i b t x [] v [] Q e c .nil j⟩
def Gv(w:PlainAttrs T)(a:Slot T name id)(F:typeOf (.builtin id)=pure (.type "method_descriptor"))(z:Ll X id r)(y:PE X o to)(A:PA X (e::es) t)
  (j:Pg o name X.env:=by rfl)
  (D:tm Ia (e::es) X.env:=by rfl)
  (i:Jh Ra Ia:=by rfl) (hs:sf e es X.env:=by rfl) (E:Zi Ia es X.env:=by rfl) :
  PE X (.Call (.Attribute o name Ra) (e::es) [] Ia) (tBM X.K T r to t):=by
 intro c s b H Q I h;refine wpAny_Call_method_late j D i rfl<|Vb (y c s b H _ I h) λv n ⟨x,K,g,d,ty,u⟩=>?_
 obtain⟨C,B⟩:=G7 g d ty;refine⟨T,id,w,a,F,C,B,?_⟩;have f:=A Ia c n b K _ g u;rw[hs]at f ⊢;exact WQ (by show (false||(backTo Ia _).any (·.1))=false;rw[E] <;> rfl)<|Calls.evalArgs_plain<|Vb f λl m ⟨k,J,G,p,q⟩=>z c m b J x k v l Q G d p q
end
def xx(X:Cx)(id:String)(r:sw):Prop:=
 ∀(d:db) (s:Shared) (a:St) (H:Hp) (x:V) (b:o0) (v:Value) (c:cr) (Q:VK),Ba X d a H s->RelV x v->Ha b c->r x b H Q->
  wpAny (model X.prog X.w) X.A (call (.builtin id)<|v::c) (EP X d a Q) X.xe s
def Ha.one:∀{x:V}{a:cr},Ha [x] a->∃u,a=[u]/\RelV x u
 |_,_,.cons r .nil=>⟨_,rfl,r⟩
def Ha.two:∀{x y:V}{a:cr},Ha [x,y] a->∃u v,a=[u,v]/\RelV x u/\RelV y v
 |_,_,_,.cons r (.cons q .nil)=>⟨_,_,rfl,r,q⟩
def Ha.zero:∀{a:cr},Ha [] a->a=[]
 |_,.nil=>rfl
theorem Ha.dropLast(h:Ha xs us):Ha xs.dropLast us.dropLast:=by
 induction h with
 |nil=>exact .nil
 |cons r t a=>
  cases t with
  |nil=>exact .nil
  |cons q b=>exact .cons r a
theorem Ha.reverse(h:Ha xs us):Ha xs.reverse us.reverse:=by
 induction h with
 |nil=>exact .nil
 |cons r t a=>rw[List.reverse_cons,List.reverse_cons];exact Ha.append a<|.cons r .nil
theorem Ha.rep(h:Ha xs us):∀k:Nat,Ha (List.replicate k xs).flatten (List.replicate k us).flatten
 |0=>.nil
 |k+1=>by
  rw[Uk,Uk,zo,zo];exact Ha.append h<|Ha.rep h k
theorem aVj{c:Type}(l:List c):l.eraseIdx (l.length-1)=l.dropLast:=by
 induction l with
 |nil=>rfl
 |cons a r d=>
  cases r with
  |nil=>rfl
  |cons b r=>
   have e:(a::b::r).length-1=((b::r).length-1)+1:=by
    have g:(a::b::r).length=r.length+2:=rfl;have f:(b::r).length=r.length+1:=rfl;lia
   rw[e,List.eraseIdx_cons_succ,d]
   all_goals rfl
theorem foldl_rep(a:cr):∀(k:Nat)(b:cr),
  List.foldl (λd c=>d++c) b.toArray (List.replicate k a.toArray)=(b++(List.replicate k a).flatten).toArray
 |0,b=>by simp
 |k+1,b=>by
  have e:b.toArray++a.toArray=(b++a).toArray:=by simp
  have e2:(b++a)++(List.replicate k a).flatten=b++(List.replicate (k+1) a).flatten:=by
   rw[Uk,zo,Bh]
  rw[<-e2,<-foldl_rep a k (b++a),<-e,Uk,Yk]
section
variable{X:Cx}{aa:db}{σ:St}{H:Hp}{s:Shared}{l b:Addr}{xs ys zs:o0}
def Ba.gi{a its':cr}{f:Array Value->Array Value}{t':Nat}(I:Ba X aa σ H s)(i:H l=some (.lst xs))
  (e:s.heap.get? l=some {cls:=.type "list",data:=.seq a.toArray n}) (g:f a.toArray=its'.toArray) (c:Ha ys its') (b:ys.length<=sizeLine) :
  Ba X aa σ (bb H l<|.lst ys) {s with heap:=s.heap.update l<|Obj.mapSeq f,toks:=t'}:=by
 have q:=PySem.IsL.update e f;rw[g]at q;exact I.write (by rw[i];exact trivial) (.inl rfl) (λj u h d=>(Rl s.heap _<|vg h).trans d) ⟨_,q⟩<|⟨b,its',_,c,q⟩
def Ba.Qp{t':Nat}(I:Ba X aa σ H s)(b:Ha ys its)(a:ys.length<=sizeLine) :
  Ba X aa σ (bb H s.heap.objs.size<|.lst ys) {s with heap:=s.heap.push {cls:=.type "list",data:=.seq its.toArray},toks:=t'}:=
 I.laid (λ_ _ q=>Xb _ q) (Pb _) ⟨a,its,0,b,de _ rfl⟩
theorem Ba.fresh(I:Ba X aa σ H s):H s.heap.objs.size=none:=I.Ta.fresh<|Pb _
def Ba.Ig(I:Ba X aa σ H s)(b:H l=some (.lst xs)):xs.length<=sizeLine/\∃(a:cr)(n:Nat),Ha xs a/\xs.length=a.length/\s.heap.get? l=some {cls:=.type "list",data:=.seq a.toArray n}:=by
 obtain⟨z,a,n,r,e⟩:=I.Ta l _ b;exact⟨z,a,n,r,r.length,e⟩
theorem J1{n:Nat}(h:n<=sizeLine):Builtin.List.listTooLong n=false:=by
 exact pe (by lia)
end
section
variable{X:Cx}
def bIp:sw:=λx b H Q=>∃l a y,x=.ref l/\b=[y]/\H l=some (.lst a)/\a.length<sizeLine/\Q .Sb (bb H l<|.lst<|a++[y])
theorem bB2:xx X "list.append" bIp:=by
 intro p s g H x j v k Q I c d h;obtain⟨l,i,y,rfl,rfl,b,m,q⟩:=h;cases c;obtain⟨u,rfl,f⟩:=d.one;obtain⟨z,a,n,r,o,e⟩:=I.Ig b;refine Eo XQ ⟨_,e,rfl⟩ F.entry_list_append (C_ _ _) (PySem.list_append l a.toArray n u<|by rw[Jf];lia) ⟨e,(⟨.Sb,_,I.gi b e (by simp) (r.append<|.cons f .nil) ?_,rfl,q⟩)⟩
 rw[Ud,Ug];lia
def bIq:sw:=λx d H Q=>∃l b c a,x=.ref l/\d=[.ref b]/\H l=some (.lst c)/\H b=some (.lst a)/\c.length+a.length<=sizeLine/\Q .Sb (bb H l<|.lst<|c++a)
theorem bB3:xx X "list.extend" bIq:=by
 intro G s p H x B v C Q I f g h;obtain⟨l,b,A,t,rfl,rfl,d,o,D,q⟩:=h;cases f;obtain⟨u,rfl,i⟩:=g.one;cases i;obtain⟨z,a,n,r,E,e⟩:=I.Ig d;obtain⟨y,c,k,j,w,e2⟩:=I.Ig o;have m:a.toArray.size+c.toArray.size<=sizeLine:=by rw[Jf,Jf];lia
 refine Eo F.slot_list_extend ⟨_,e,rfl⟩ F.entry_list_extend (F.args_list_extend_2 _ _)
  (AutoSeq1.list_extend_list_list_0 l a.toArray n b c.toArray k (by
  rw[J1 m,YR];exact Wl) (by lia)<|by lia) ⟨e,e2,(⟨.Sb,_,I.gi d e (by simp) (r.append j) ?_,rfl,q⟩)⟩
 rw[Ud];lia
def bUw:sw:=λx b H Q=>∃l a y,x=.ref l/\b=[]/\H l=some (.lst a)/\a[a.length-1]?=some y/\Q y (bb H l<|.lst a.dropLast)
theorem bO7:xx X "list.pop" bUw:=by
 intro w s k H x o v p Q I d f h;obtain⟨l,m,y,rfl,rfl,b,i,q⟩:=h;cases d;have c:=f.zero;subst c;obtain⟨z,a,n,r,j,e⟩:=I.Ig b;obtain⟨u,t,g⟩:=r.get i;refine Eo F.slot_list_pop ⟨_,e,rfl⟩ F.entry_list_pop (F.args_list_pop_1 _) (MeetsSeq.list_pop_last l a.toArray n u (by
  show a.toArray[a.length-1]?=some u
  rwa [<-vp,<-j])<|by rw[Jf];lia) ⟨e,(⟨y,_,I.gi b e ?_ r.dropLast ?_,g,q⟩)⟩
 .rw[Jf,List.eraseIdxIfInBounds_toArray,aVj]
 rw[List.length_dropLast];lia
def Sj:sw:=λx b H Q=>∃l a,x=.ref l/\b=[]/\H l=some (.lst a)/\Q .Sb (bb H l<|.lst [])
def Wi:xx X "list.clear" Sj:=by
 intro o s g H x j v k Q I d f h;obtain⟨l,i,rfl,rfl,b,q⟩:=h;cases d;have c:=f.zero;subst c;obtain⟨z,a,n,r,m,e⟩:=I.Ig b;refine Eo kR ⟨_,e,rfl⟩ F.entry_list_clear (F.args_list_clear_1 _) (l_ l a.toArray n<|by rw[Jf];omega) ⟨e,?_⟩
 exact⟨.Sb,_,I.gi (its':=[]) (ys:=[]) b e rfl .nil<|Ef _,rfl,q⟩
def bUx:R2:=λx y H Q=>∃l k a,x=.ref l/\y=.int k/\H l=some (.lst a)/\-(2^63)<=k/\k<2^63/\a.length*k.toNat<=sizeLine/\
 ∀p,H p=none->Q (.ref p) (bb H p<|.lst (List.replicate k.toNat a).flatten)
def len_rep{a:Type}(xs:List a)(k:Nat):(List.replicate k xs).flatten.length=k*xs.length:=by
 induction k with
 |zero=>simp
 |succ k b=>rw[Uk,zo,Ud,b,MH,Iw]
def bO8:Oe X (binaryOp .Mult) bUx:=by
 intro N s K H x y v u Q I j i h;obtain⟨l,k,L,rfl,rfl,p,A,w,f,q⟩:=h;cases j;obtain⟨t,rfl⟩:=i;obtain⟨z,b,n,r,o,e⟩:=I.Ig p;have G:b.toArray.size*k.toNat<=sizeLine:=by rw[Jf,<-o];exact f
 have E:¬ b.toArray.size*k.toNat>(2^63-1)/8:=by
  have:(sizeLine:Nat)<=(2^63-1)/8:=by decide
  omega
 have B:¬ (!Builtin.List.listFitsIndex k)=true:=by
  rw[fitsIndex_both A w];exact Wl
 have J:¬ Builtin.List.listTooLong (b.toArray.size*k.toNat)=true:=by
  rw[J1 G];exact Wl
 have D:List.foldl (λd c=>d++c) #[] (List.replicate (if b.toArray.isEmpty=true then 0 else k.toNat) b.toArray)=(List.replicate k.toNat b).flatten.toArray:=by
  have C:∀m:Nat,List.foldl (λd c=>d++c) #[] (List.replicate m b.toArray)=(List.replicate m b).flatten.toArray:=λm=>by
   have:=foldl_rep b m [];rw[zt]at this;exact this
  rw[C];cases b with
  |nil=>simp
  |cons a M=>rw[Pa (by simp)]
 refine wpAny_binaryOp_repeat_ref (T:="list") (U:="int") (by decide) ⟨_,e,rfl⟩ (λg=>typeIs_int g k t) noFill_list_mul F.fills_int_mul F.slot_int_rmul repeat_list F.slot_int_index.lookup
  (Eo F.slot_int_rmul (typeIs_int s k t) F.entry_int_rmul (F.args_int_rmul_2 _ _) (int___rmul___int_list k t l b.toArray n)
   ⟨e,rfl,⟨_,e,rfl⟩,Eo F.slot_list_mul ⟨_,e,rfl⟩ F.entry_list_mul (F.args_list_mul_2 _ _) (AutoListH.list___mul___list_int_3 l b.toArray n k t B E J) ⟨e,?_⟩⟩)
 rw[D];exact⟨.ref _,_,I.Qp (t':=s.toks) (r.rep k.toNat) (by rw[len_rep,bS];exact f),rfl,q _ I.fresh⟩
end
end L2
namespace Att
open PySem PySem.W PySem.Calls PyProof.Rows
def Þ:∀(c:lv)(vs:cr),WellAll P h vs (c.map WData.int)->IntsAre vs c:=by
 intro c
 induction c with
 |nil=>
  intro vs w;cases w;exact .nil
 |cons n c d=>
  intro vs w;cases w with
  |cons a b=>
   cases a;exact .cons _ _<|d _ b
theorem bB4{l:OpenLaw}(m:l.most=some n){P:Params}{h:Heap}{b:List WData}{c:cr}
  (g:l.row.toRowW.claim.pre b=true) (u:WellAll P h c b) :
  ∃a vs e,c=[Value.ref a]/\b=[WData.list<|e.map WData.int]/\h.get? a=some {cls:=.type "list",data:=.seq vs.toArray}/\IntsAre vs e/\e.length<=n:=by
 obtain⟨d,r,rfl,t,s⟩:=hasAllW_cons<|(pre_splitW g).1;obtain rfl:=hasAllW_nil s;obtain⟨w,rfl,p⟩:=hasW_list t;obtain⟨e,rfl⟩:=items_int p;cases u with
 |cons j i=>
  cases i;cases j with
  |list k v=>exact⟨_,_,e,rfl,rfl,k,Þ e _ v,(by
  have f:=condW_of (by
   have o:=(holds_andW<|(pre_splitW g).2).1
   rwa [m]at o) (w_not<|w_lt w_lit<|w_len_list<|w_arg rfl)
  rw[Rb]at f;refine Nat.le_of_not_lt λq=>?_
  first
   |(exact absurd f rfl)
   |(lia))⟩
def bB5(l:OpenLaw)(a:List WData):l.row.toRowW.claim.post a (.bool true) a=true:=
 postW_of
  ((by first|rfl|decide|simp))
  ((w_eq_bool (w_res rfl) w_lit)) rfl
def Ji{l:OpenLaw}{z:(im)->Heap->Prop}{y:KB}{d:DefRec}
  (F:l.most=some n) (B:d.params.defaults=[])
  (call:∀(w:World)(s b:Shared)(mg m:im)(g:Addr)(o:Obj)(k j e:Value)(a:Addr)(vs:cr)(i:lv),
   Ground q loose [] z w s mg m b.heap->y w b.heap->
   b.heap.get? g=some o->o.data=.func (docDef d.name d.params d.body d.scope k j e)->b.heap.CodeRec j d.name->mg d.name=some (.ref g)->
   b.heap.get? a=some {cls:=.type "list",data:=.seq vs.toArray}->IntsAre vs i->i.length<=n->b.gens = #[]->
   codeAny (model l.prog w) callerA (.call (.ref g) ⟨[.ref a],[]⟩) (λr h=>r=.ok (.ret<|.bool true)/\OldK b.heap h.heap/\h.os=b.os/\AllBare h.gens) b) :
  WalkO q loose z y l.row.toRowW d [] (λf vs=>PySem.call f vs):=by
 intro w s b mg m G Y g o k j e N kV E J A v p I x t S R u C O T;obtain rfl:N=.none:=Dflts.none v B;obtain rfl:kV=.none:=Dflts.noKw v;obtain⟨a,vs,i,rfl,rfl,P,c,Q⟩:=bB4 F R O;refine enter_call<|yp (call w s b mg m g o k j e a vs i G Y E (fd_plain J) A p P c Q I) λr h D=>?_
 obtain⟨rfl,M,L,K⟩:=D;exact⟨.inl ⟨.bool true,.bool true,[],rfl,λ_=>rfl,.bool true,bB5 l _,λ_=>⟨List.Pairwise.nil,λ_ H=>(nomatch H)⟩⟩,M,L,K⟩
end Att
namespace L2
open PySem PySem.Spec PyProof.Rows
theorem Yc:∀{vs:cr}{a:lv},IntsAre vs a->Ha (a.map V.int) vs
 |_,_,.nil=>.nil
 |_,_,.cons n t h=>.cons ⟨t,rfl⟩<|Yc h
def Qr(H:Hp):Prop:=∀b,H b=none\/∃o a,H b=some (.Fh o<|.lst a)
def bDt{w:World}{K:PySem.W.Frag}{mg A:im}{k:Nat}{x:Str}{c:Shared}{vs:cr}
  (R:K.In c.heap) (N:c.heap.Ns mainGlobals mg) (f:c.heap.Ns builtinsNs A) (D:∀x:Str,x≠"__name__"->A x=bootBuiltins x) (W:c.heap.NoLimit) (Y:c.gens = #[])
  (l:c.heap.get? a=some {cls:=.type "list",data:=.seq vs.toArray}) (J:IntsAre vs ns) (hl:ns.length<=sizeLine) (X:Kb k callerA)
  (F:∀base:Heap,K.In base->base.Ns mainGlobals mg->Ca P w K mg base CX k fa fd [x] sp) (dA:∀(s:Shared)(u:Value),BindsTo s fd ⟨[u],[]⟩ [(x,u)])
  (B:∀H:Hp,Qr H->Qc K H a (ns.map V.int)->sp [.ref a] H (λv _=>v=.bl true) λ_ _ _=>False)
  (MS:∀H e g,CX [] H c (λ_ _ _=>False) e g->False) :
  codeAny (model P w) callerA (.call (.ref fa) ⟨[.ref a],[]⟩) (λr g=>r=.ok (.ret<|.bool true)/\OldK c.heap g.heap/\g.os=c.os/\AllBare g.gens) c:=by
 have G:=Yc J;have j:∀H:Hp,Qr H->Qc K H a (ns.map V.int)->Df P w H c.heap->(∀b,H b≠none->b=a)->(H a≠none->K.lookup a=none)->
   codeAny (model P w) callerA (.call (.ref fa) ⟨[.ref a],[]⟩) (λr g=>r=.ok (.ret<|.bool true)/\OldK c.heap g.heap/\g.os=c.os/\AllBare g.gens) c:=by
  intro H L Z O M hK;have I:∀{b:Addr}{o:Obj},c.heap.get? b=some o->H b=none->(Wv c.heap H).get? b=some o:=λe n=>bDd e n
  have y:∀{b:Addr}{o:Obj}{p:Array DictEntry}{t:Nat},c.heap.get? b=some o->o.data=.dict p t->H b=none:=λ{b o p t} e d=>by
   cases q:H b with
   |none=>rfl
   |some u=>
    have E:=M b (by rw[q];simp)
    subst E;rw[l]at e;cases e;cases d
  have i:∀{b:Addr}{m:im},c.heap.Ns b m->(Wv c.heap H).Ns b m:=λ{b m} ⟨o,p,t,e,d,r⟩=>⟨o,p,t,I e<|y e d,d,r⟩
  have Q:=λb o e=>I (R b o e) (by
   cases q:H b with
   |none=>rfl
   |some u=>
    have E:=M b (by rw[q];simp)
    subst E;rw[hK (by rw[q];simp)]at e;cases e)
  refine yp ((F _ Q<|i N).run callerA [] c H _ [.ref a] [.ref a] _ _ X (⟨rfl,(⟨Q,i N,⟨A,i f,D⟩,let ⟨U,h1,h2⟩:=W;⟨U,i h1,h2⟩⟩),λb o e=>bI7 e,wz<|bAq _ _,trivial,λb f=>absurd (show b∈([]) from f) (by simp),O,.of_eq Y⟩) (dA c<|.ref a) (.cons rfl .nil)<|B H L Z) λr g h=>?_
  cases r with
  |error e=>exact(MS H e g h).elim
  |ok fl=>
   cases fl with
   |next=>exact False.elim h
   |brk=>exact False.elim h
   |cont=>exact False.elim h
   |ret u=>
    obtain⟨v,H',os,bare,un,S,T,q⟩:=h;subst q;obtain rfl:u=Value.bool true:=T;refine⟨rfl,OldK.of_keep λb o e=>?_,os,bare⟩
    cases q:H b with
    |none=>exact un.keep b o e q (by intro z;exact absurd (show b∈([]) from z)<|by simp) (by simp)
    |some u=>
     rcases L b with z|⟨ob,xs,z⟩
     .rw[q]at z;cases z
     obtain⟨e1,_⟩:=O b _ z;obtain⟨e2,_⟩:=S b _<|un.yg b ob _ z;rw[e]at e1;cases e1;exact e2
 cases C:K.lookup a with
 |some o=>
  have e:=R a o C;rw[l]at e;cases e;refine j _ (λ_=>.inl rfl) (.inr ⟨_,vs.toArray,_,C,rfl,rfl,rfl,by rwa [Jf,(J.length)],by simpa using G⟩) (λb u z=>by cases z) (λb z=>absurd rfl z) λz=>absurd rfl z
 |none=>
  refine j (λb=>if b=a then some _ else none) (λb=>?_) (.inl<|.inr ⟨{cls:=.type "list",data:=.seq vs.toArray},jb rfl⟩) (λb u z=>?_) (λb z=>?_) λ_=>C
  .by_cases f:b=a
   .exact .inr ⟨_,_,jb f⟩
   exact .inl<|Pa f
  .by_cases f:b=a
   .cases ((jb f).symm.trans z);subst f;exact⟨l,by rwa [Rb],vs,_,G,l⟩
   cases ((Pa f).symm.trans z)
  by_cases f:b=a
  .exact f
  exact absurd (Pa f) z
def aq{l:PySem.W.OpenLaw}{k:Nat}{P:(im)->Heap->Prop}{r:KB}{d:DefRec}{K:Params->PySem.W.Frag}{CX:World->Nr}{sp:World->Sp}{x:Str}
  (C:l.most=some n) (z:n<=sizeLine) (A:d.params.defaults=[]) (B:Kb k callerA)
  (I:∀(w:World)(h:Heap),r w h->(K w.params).In h)
  (F:∀(w:World)(mg:im)(g:Addr)(h:Heap),(K w.params).In h->h.Ns mainGlobals mg->mg d.name=some (.ref g)->
   ∃p:FuncData,(∀(s:Shared)(u:Value),BindsTo s p ⟨[u],[]⟩ [(x,u)])/\
    ∀base:Heap,(K w.params).In base->base.Ns mainGlobals mg->Ca l.prog w (K w.params) mg base (CX w) k g p [x] (sp w))
  (j:∀(w:World)(H:Hp)(a:Addr)(c:lv),c.length<=n->Qr H->Qc (K w.params) H a (c.map V.int)->sp w [.ref a] H (λv _=>v=.bl true) λ_ _ _=>False)
  (Q:∀(w:World)(H:Hp)(s:Shared)(e:Value)(i:Shared),CX w [] H s (λ_ _ _=>False) e i->False) :
  PySem.W.WalkO q loose P r l.row.toRowW d [] (λf vs=>PySem.call f vs):=by
 refine Att.Ji C A λw Ga R mg U g o T Z N a vs c G Y W X S m O b t D=>?_
 have y:=I w _ Y;obtain⟨p,E,M⟩:=F w mg g _ y G.T.g m;exact bDt y G.T.g G.T.b G.T.builtins G.T.nolimit D O b (Xd t z) B M E (λH L J=>j w H a c t L J) λH e i=>Q w H R e i
def eU(s:Stmt):Arguments:=match s with
 |.FunctionDef _ a _ _ _ _ _ _ _ _=>a
 |_=>{posonlyargs:=[],args:=[],vararg:=none,kwonlyargs:=[],kw_defaults:=[],kwarg:=none,defaults:=[]}
def dH(s:Stmt):List Stmt:=match s with
 |.FunctionDef _ _ b _ _ _ _ _ _ _=>b
 |_=>[]
def bM(s:Stmt):Scope:=match s with
 |.FunctionDef _ _ _ _ _ _ a _ _ _=>a
 |_=>{kind:=.function,names:=[],isGenerator:=false,isCoroutine:=false}
abbrev Ab:Nr:=λ_ _ _ _ _ _=>False
abbrev E0:XK:=λ_ _ _=>False
def Hv{X:Cx}:jv Ab X E0:=λ_ _ _ _ _ _ _ h=>h.elim
structure iq(K:PySem.W.Frag)(x qual:Str)(st:Stmt)(f:Addr)(fd:FuncData):Prop where
 ex:∃(oc:Value)(od:pi)(kV doc pm:Value)(an:pi)(Zb ct:Value) (Ai:li),
  fd=PySem.W.fnOf x qual (eU st) (dH st) (bM st) .none kV doc pm an Zb ct/\K.lookup f=some ⟨oc,od,.func fd,Ai⟩/\PySem.W.codeIn K Zb qual=true
 kp:PySem.W.keepIn K (.ref f)=true
section
variable{P:Program}{w:World}{K:PySem.W.Frag}{mg:im}{base:Heap}
def iq.ok{st:Stmt}{k:Nat}{sp:Sp}(F:iq K x qual st f fd)(S:Pc N ps (bM st))(len:∀vs H Q E,sp vs H Q E->vs.length=ps.length)
  (i:∀(b:Value)(A:Around)(a:Ch)(s:Shared)(H:Hp)(vs:o0)(Q:VK)(E:XK),Kb k (A.deeper<|envOfC qual (bM st) s.heap.objs.size f b)->sp vs H Q E->
   ∃t,Dd (Hm Ab P w K mg base N qual (bM st) f b A a s H E).Ln (dH st) t/\t {nx:=λ_ j=>Q .Sb j,rt:=Q} (start N vs) H):Ca P w K mg base Ab (k+1) f fd ps sp:=by
 obtain⟨n,m,kV,g,l,p,b,o,r,rfl,lk,d⟩:=F.ex;refine U8 lk d S len λA a s H vs Q E e c=>?_
 obtain⟨t,h,q⟩:=i b A a s H vs Q E e c;exact⟨t,h.Ln,q⟩
def iq.binds{st:Stmt}{ps:wp}(F:iq K x qual st f fd)
  (h:∀(kV a c:Value)(e:pi)(g d:Value)(b:cr),b.length=ps.length->bindArgs (PySem.W.fnOf x qual (eU st) (dH st) (bM st) .none kV a c e g d) ⟨b,[]⟩=pure (ps.zip b)):Binds K fd ps []:=by
 obtain⟨k,j,kV,a,c,e,g,d,l,rfl,lk,i⟩:=F.ex;exact .all<|h kV a c e g d
def J7{st:Stmt}{b:Value}{a:pi}{d:li}{kV:Value}(l:K.lookup f=some ⟨b,a,.func<|PySem.W.fnOf x qual (eU st) (dH st) (bM st) .none kV doc pm an Zb ct,d⟩)
  (c:PySem.W.codeIn K Zb qual=true) (k:PySem.W.keepIn K (.ref f)=true):iq K x qual st f (PySem.W.fnOf x qual (eU st) (dH st) (bM st) .none kV doc pm an Zb ct):=⟨⟨b,a,kV,doc,pm,an,Zb,ct,d,rfl,l,c⟩,k⟩
end
section
variable{X:Cx}
def pv(i:Nat){x:Str}{a:Pos}(e:X.N[i]?=some x:=by rfl)(c:Ah X.env.scope x:=by exact tj rfl)(d:pf x:=by decide)
  (b:Yi x:=by decide):PE X (.Name x a) (N9 i):=oF e c d b
end
def bG(H a:Hp):Prop:=∀b o,H b=some o->a b=some o
def bG.refl(H:Hp):bG H H:=λ_ _ h=>h
def bG.trans(a:bG H H1)(b:bG H1 H2):bG H H2:=λc o h=>b c o<|a c o h
def bG.free(e:bG H H'){l:Addr}(h:H' l=Option.none):H l=Option.none:=by
 cases q:H l with
 |none=>rfl
 |some o=>
  rw[e l o q]at h;cases h
def bG.seq{K:PySem.W.Frag}(e:bG H H')(h:Qc K H a xs):Qc K H' a xs:=by
 rcases h with (h|⟨o,h⟩)|h
 .exact .inl (.inl<|e _ _ h)
 .exact .inl (.inr ⟨o,e _ _ h⟩)
 exact .inr h
section
variable{κ:Type}[DecidableEq κ]
noncomputable def wV(a:List (κ×V))(k:κ):Option V:=(a.find? λb=>decide (b.1=k)).map (·.2)
noncomputable def Be(b:List (κ×V))(k:κ)(v:V):List (κ×V):=
 if (b.any λa=>decide (a.1=k))=true then b.map (λa=>if a.1=k then (a.1,v) else a) else b++[(k,v)]
def W8(a:List (κ×V))(k:κ):List (κ×V):=a.filter λb=>decide (b.1≠k)
def Dx{p:κ×V}{r:List (κ×V)}{k:κ}(e:p.1=k):wV (p::r) k=some p.2:=by simp[wV,e]
def Fx{p:κ×V}{r:List (κ×V)}{k:κ}(e:¬ p.1=k):wV (p::r) k=wV r k:=by simp[wV,e]
theorem OL(k:κ):∀a:List (κ×V),(a.any λb=>decide (b.1=k))=(wV a k).isSome
 |[]=>rfl
 |p::r=>by
  rw[Bt]
  by_cases e:p.1=k
  .simp[Dx e,decide_eq_true e]
  rw[Fx e,pe e];exact OL k r
theorem wG(a:List (κ×V))(k:κ)(v:V):(Be a k v).length<=a.length+1:=by
 unfold Be;split
 .rw[Rb];lia
 rw[Ud,Ed,Xk];lia
def xi.Ie(r:xi o u):o.isSome=u.isSome:=by
 cases o with
 |none=>cases u with
  |none=>rfl
  |some _=>exact(r).elim
 |some _=>cases u with
  |none=>exact(r).elim
  |some _=>rfl
theorem xi.getD(r:xi o u)(a:RelV d d'):RelV (o.getD d) (u.getD d'):=by
 cases o with
 |none=>cases u with
  |none=>exact a
  |some _=>exact(r).elim
 |some _=>cases u with
  |none=>exact(r).elim
  |some _=>exact r
def KV.val(r:KV ua vs)(k:κ):xi (wV ua k) (valueAt vs k):=by
 induction r with
 |nil=>exact True.intro
 |@cons p q f a h t g=>
  obtain⟨c,i⟩:=h
  by_cases e:p.1=k
  .have b:valueAt (q::a) k=some q.2:=by simp[valueAt,List.find?_cons,(c.symm.trans e)]
   rwa [Dx e,b]
  have d:¬ q.1=k:=λz=>e<|c.trans z
  have b:valueAt (q::a) k=valueAt a k:=by simp[valueAt,d]
  rwa [Fx e,b]
theorem KV.any(r:KV ua vs)(k:κ):(ua.any λa=>decide (a.1=k))=vs.any λa=>decide (a.1=k):=by
 induction r with
 |nil=>rfl
 |cons h t b=>rw[Bt,Bt,b,h.1]
def KV.Bu(r:KV ua vs)(k:κ){y:V}{u:Value}(c:RelV y u) :
  KV (ua.map λa=>if a.1=k then (a.1,y) else a) (vs.map λa=>if a.1=k then (a.1,u) else a):=by
 induction r with
 |nil=>exact .nil
 |@cons p q i g h t d=>
  rw[gf,gf];refine .cons ?_ d;obtain⟨b,f⟩:=h
  by_cases e:p.1=k
  .rw[jb e,jb<|b.symm.trans e];exact⟨b,c⟩
  rw[Pa e,Pa<|λz=>e<|b.trans z];exact⟨b,f⟩
def KV.put(r:KV ua vs)(k:κ){y:V}{u:Value}(a:RelV y u):KV (Be ua k y) (stored vs k u):=by
 unfold Be stored;rw[r.any k]
 by_cases e:(vs.any λb=>decide (b.1=k))=true
 .rw[jb e,jb e];exact r.Bu k a
 rw[Pa e,Pa e];exact Paired.snoc r ⟨rfl,a⟩
def KV.drop(r:KV ua vs)(k:κ):KV (W8 ua k) (without vs k):=by
 unfold KV at r ⊢;unfold W8 without
 induction r with
 |nil=>exact .nil
 |@cons p q j i h t d=>
  obtain⟨c,f⟩:=h;rw[List.filter_cons,List.filter_cons]
  by_cases e:p.1=k
  .have a:¬ decide (p.1≠k)=true:=by simp[e]
   have b:¬ decide (q.1≠k)=true:=by simp[c.symm.trans e]
   rw[Pa a,Pa b];exact d
  .have g:¬ q.1=k:=λz=>e (c.trans z)
   have a:decide (p.1≠k)=true:=by simp[e]
   have b:decide (q.1≠k)=true:=by simp[g]
   rw[jb a,jb b];exact .cons ⟨c,f⟩ d
theorem KV.length(r:KV ua vs):ua.length=vs.length:=Paired.length r
end
def wq{w:World}{k:Key}(r:RelV (kV k) u):(iB P w).is k u=true:=by
 cases k with
 |inl i=>obtain⟨t,e⟩:=(r);subst e;exact š P w i t
 |inr x=>obtain⟨t,e⟩:=(r);subst e;exact Ţ P w x t
theorem UZ{w:World}:∀{a:Gc}{b:cr},Ha (a.map kV) b->ItemsAre (iB P w) a b
 |[],_,r=>by cases r;exact .nil
 |k::a,_,r=>by
  cases r with
  |cons h t=>exact .cons (wq h)<|UZ t
abbrev KT(H:Hp):List (List Key×V)->List (List Key×Addr×Value)->Prop:=Paired λp q=>p.1=q.1/\H q.2.1=some (.tup<|p.1.map kV)/\RelV p.2 q.2.2
def KT.val(r:KT H ua xs)(k:Gc):xi (wV ua k) ((atKey xs k).map (·.2)):=by
 induction r with
 |nil=>exact True.intro
 |@cons p q f a h t g=>
  obtain⟨c,_,i⟩:=h
  by_cases e:p.1=k
  .have b:atKey (q::a) k=some q.2:=by simp[atKey,List.find?_cons,(c.symm.trans e)]
   rwa [Dx e,b]
  have d:¬ q.1=k:=λz=>e<|c.trans z
  have b:atKey (q::a) k=atKey a k:=by simp[atKey,d]
  rwa [Fx e,b]
def KT.Bu(r:KT H ua xs)(k:Gc){y:V}{u:Value}(d:RelV y u) :
  KT H (ua.map λb=>if b.1=k then (b.1,y) else b) (xs.map<|putAt k u):=by
 induction r with
 |nil=>exact .nil
 |@cons p q j i h t f=>
  rw[gf];refine .cons ?_ f;obtain⟨a,c,g⟩:=h;unfold putAt
  by_cases e:p.1=k
  .rw[jb e,jb<|a.symm.trans e];exact⟨a,c,d⟩
  rw[Pa e,Pa<|λz=>e<|a.trans z];exact⟨a,c,g⟩
def KT.put(r:KT H ua xs)(k:Gc){b:Addr}{y:V}{u:Value}(d:H b=some (.tup<|k.map kV))(a:RelV y u) :
  KT H (Be ua k y) (storedH xs k b u):=by
 have e:(ua.any λc=>decide (c.1=k))=(atKey xs k).isSome:=by
  rw[OL,(r.val k).Ie,OR]
 unfold Be storedH;rw[e]
 by_cases q:(atKey xs k).isSome=true
 .rw[jb q,jb q];exact r.Bu k a
 rw[Pa q,Pa q];exact Paired.snoc r ⟨rfl,d,a⟩
def KT.keeps{a:Hp}(r:KT H ua xs)(c:∀b ys,H b=some (.tup ys)->a b=some (.tup ys)):KT a ua xs:=
 Paired.Rp r λ_ _ z=>⟨z.1,c _ _ z.2.1,z.2.2⟩
section
variable{P:Program}{w:World}{H:Hp}{h:Heap}{a:Addr}
def X8(ok:Df P w H h)(e:Rd H a u):mQ P w H h a u:=e.ok ok
def xq(ok:Df P w H h)(e:Rd H a (.dK ua)):ua.length<=sizeLine/\(a==sysModules)=false/\∃vs,KV ua vs/\h.DictOf (iB P w) a vs:=
 (X8 ok e)
def yq(ok:Df P w H h)(e:H a=some (.dK ua)):ua.length<=sizeLine/\(a==sysModules)=false/\∃vs,KV ua vs/\h.DictOf (iB P w) a vs:=xq ok<|.inl e
def Ur{c:Gc}(ok:Df P w H h)(e:H a=some (.tup<|c.map kV)):(tupleKind<|iB P w).is h c a:=by
 obtain⟨_,b,r,o,g,f,n,d⟩:=((ok a _ e));exact⟨o,b.toArray,n,g,f,d,by simpa using UZ r⟩
def Cs(ok:Df P w H h)(e:Rd H a (.dT ua)):ua.length<=sizeLine/\(a==sysModules)=false/\
  ∃xs,KT H ua xs/\h.DictOfH (tupleKind<|iB P w) a xs:=by
 obtain⟨z,y,xs,r,o,n,s,k,j,i,g,f⟩:=((X8 ok e));refine⟨z,y,xs,r,o,n,s,k,j,i,g,λx b=>?_,f⟩
 have all:∀{l:List _}{m:List _},KT H l m->∀x∈m,(tupleKind<|iB P w).is h x.1 x.2.1:=by
  intro l m q
  induction q with
  |nil=>intro x b;exact nomatch b
  |@cons p q v u c t d=>
   intro x b;rcases qc.mp b with e|b
   .subst e;exact Ur ok (by rw[<-c.1];exact c.2.1)
   exact d x b
 exact all r x b
def Y8(ok:Df P w H h)(e:H a=some (.dT ua)):ua.length<=sizeLine/\(a==sysModules)=false/\
  ∃xs,KT H ua xs/\h.DictOfH (tupleKind<|iB P w) a xs:=Cs ok<|.inl e
end
def fj(H:Hp)(a:Addr)(y:V)(r:Option V):Prop:=
 (∃c k,Rd H a (.dK c)/\y=kV k/\r=wV c k)\/∃c k b,Rd H a (.dT c)/\y=.ref b/\H b=some (.tup<|k.map kV)/\r=wV c k
def Zo(H:Hp)(a:Addr)(y v:V)(d:Hp):Prop:=
 (∃c k,H a=some (.dK c)/\y=kV k/\c.length<sizeLine/\d=bb H a (.dK<|Be c k v))\/
 ∃c k b,H a=some (.dT c)/\y=.ref b/\H b=some (.tup<|k.map kV)/\c.length<sizeLine/\d=bb H a (.dT<|Be c k v)
theorem fj.k{H:Hp}{k:Key}(e:H a=some (.dK ua)):fj H a (kV k) (wV ua k):=.inl ⟨ua,k,.inl e,rfl,rfl⟩
def fj.t{H:Hp}{k:Gc}(e:H a=some (.dT ua))(c:H b=some (.tup<|k.map kV)):fj H a (.ref b) (wV ua k):=.inr ⟨ua,k,b,.inl e,rfl,c,rfl⟩
theorem Zo.k{H:Hp}{k:Key}(e:H a=some (.dK ua))(b:ua.length<sizeLine):Zo H a (kV k) v (bb H a<|.dK<|Be ua k v):=.inl ⟨ua,k,e,rfl,b,rfl⟩
def Zo.t{H:Hp}{k:Gc}(e:H a=some (.dT ua))(d:H b=some (.tup<|k.map kV))(c:ua.length<sizeLine) :
  Zo H a (.ref b) v (bb H a<|.dT<|Be ua k v):=.inr ⟨ua,k,b,e,rfl,d,c,rfl⟩
section
variable{X:Cx}{aa:db}{σ:St}{H:Hp}{s:Shared}{a:Addr}{y v:V}{u r:Value}{o:Option V}{A:Around}{E:be}
def Ba.big(I:Ba X aa σ H s):sysModules<s.heap.objs.size:=by
 exact Yq (by decide)<|(I.mod.glob.keeps I.bk).lt
def bB6{Q:be}(t:A.units+1<cLine)(I:Ba X aa σ H s)(g:fj H a y (some v))(q:RelV y u)(h:∀d o,Ba X aa σ H o->RelV v d->Q d o) :
  wpAny (model X.prog X.w) A (getItem (.ref a) u) Q E s:=by
 rcases g with ⟨r,k,e,j,l⟩|⟨r,k,b,e,j,B,l⟩
 .subst j;obtain⟨z,x,D,c,m⟩:=xq I.Ta e;obtain⟨d,f,n⟩:=xi.some_of (by rw[l];exact c.val k)
  exact wpAny_getItem_of (wq q) m.mapOf f<|h d _ (I.tok _) n
 subst j;cases (q);obtain⟨z,x,C,c,m⟩:=Cs I.Ta e;obtain⟨d,f,n⟩:=xi.some_of (by rw[l];exact c.val k)
 obtain⟨p,w,i⟩:=Option.map_eq_some_iff.mp f;refine wpAny_getItem_heap (nz t) (Ur I.Ta B) m w ?_
 rw[i];exact h d _ (I.tok _) n
def bUy{Q:be}(p:A.units+1<cLine)(I:Ba X aa σ H s)(g:fj H a y o)(m:RelV y u)(h:∀j,Ba X aa σ H j->Q (.bool o.isSome) j) :
  wpAny (model X.prog X.w) A (compareOp .In u<|.ref a) Q E s:=by
 rcases g with ⟨n,k,e,f,l⟩|⟨n,k,b,e,f,r,l⟩
 .subst f;obtain⟨z,d,v,c,i⟩:=xq I.Ta e;refine wpAny_in_of (wq m) d i.mapOf ?_
  rw[<-(c.val k).Ie,<-l];exact h _<|I.tok _
 subst f;cases (m);obtain⟨z,d,t,c,i⟩:=Cs I.Ta e;refine wpAny_in_heap (nz p) (Ur I.Ta r) d i ?_
 have q:=(c.val k).Ie;rw[OR]at q;rw[<-q,<-l];exact h _<|I.tok _
def bIr{Q:be}(p:A.units+1<cLine)(I:Ba X aa σ H s)(g:fj H a y o)(m:RelV y u)(h:∀j,Ba X aa σ H j->Q (.bool<|!o.isSome) j) :
  wpAny (model X.prog X.w) A (compareOp .NotIn u<|.ref a) Q E s:=by
 rcases g with ⟨n,k,e,f,l⟩|⟨n,k,b,e,f,r,l⟩
 .subst f;obtain⟨z,d,v,c,i⟩:=xq I.Ta e;refine wpAny_notIn_of (wq m) d i.mapOf ?_
  rw[<-(c.val k).Ie,<-l];exact h _<|I.tok _
 subst f;cases (m);obtain⟨z,d,t,c,i⟩:=Cs I.Ta e;refine wpAny_notIn_heap (nz p) (Ur I.Ta r) d i ?_
 have q:=(c.val k).Ie;rw[OR]at q;rw[<-q,<-l];exact h _<|I.tok _
def Mx{t':Nat}{ob:HO}(I:Ba X aa σ H s)(d:yj (H a))(hs:Heap.SameBut a s.heap h')(he:∃q,h'.get? a=some q)(c:mQ X.prog X.w (bb H a ob) h' a ob) :
  Ba X aa σ (bb H a ob) {s with heap:=h',toks:=t'}:=
 I.write d (.inl rfl) (λb q e z=>(hs.2 b e).trans z) he c
def BO{w:World}{d:Heap}{b:s0}(z:b.length<=sizeLine)(e:(a==sysModules)=false)(c:KV b vs)(f:d.DictOf (iB P w) a vs) :
  mQ P w H' d a (.dK b):=⟨z,e,vs,c,f⟩
theorem bB7{Q:wP}(J:A.units+1<cLine)(I:Ba X aa σ H s)(g:Zo H a y v H')(x:RelV y u)(B:RelV v r)(h:∀w,Ba X aa σ H' w->Q () w) :
  wpAny (model X.prog X.w) A (setItem (.ref a) u r) Q E s:=by
 rcases g with ⟨j,k,e,o,l,p⟩|⟨j,k,b,e,o,C,l,p⟩
 .subst o p;obtain⟨z,n,F,d,t⟩:=yq I.Ta e;have G:F.length<=sizeLine:=by rwa [<-d.length]
  exact wpAny_setItem_pairs (wq x) t λO f m=>h _<|Mx I (by rw[e];exact True.intro) m (let ⟨q,_,_,i,_⟩:=f;⟨q,i⟩)<|BO (by have:=wG j k v;lia) n (d.put k B) f
 subst o p;cases (x);obtain⟨z,n,D,d,t⟩:=Y8 I.Ta e;have G:D.length<=sizeLine:=by rwa [<-Paired.length d]
 refine wpAny_setItem_heap (nz J) (Ur I.Ta C) t λO f m=>h _ ?_
 obtain⟨q,P,R,i,N,M,L,_,K⟩:=f;refine Mx I (by rw[e];exact True.intro) m ⟨q,i⟩ ⟨(by have:=wG j k v;lia),n,_,(d.put k C B).keeps λc S ec=>?_,q,P,R,i,N,M,L,K⟩
 rwa [aW<|P8 ec e<|λz=>nomatch z]
end
section
variable{X:Cx}{aa:db}{σ:St}{H:Hp}{s:Shared}{a:Addr}{ua:s0}{k:Key}{u:Value}{A:Around}{E:be}
theorem bRx{Q:be}(I:Ba X aa σ H s)(e:Rd H a (.dK ua))(h:∀t c,Ba X aa σ H c->Q (.int ua.length t) c):wpAny (model X.prog X.w) A (call (.builtin "len") [.ref a]) Q E s:=by
 obtain⟨z,d,g,b,f⟩:=xq I.Ta e;refine call_len_dict d f (by rw[<-b.length];rw[fm]at z;lia) ?_
 rw[<-b.length];exact h _ _<|I.tok _
end
def Ť{X:Cx}(I:Ba X aa σ H s)(g:fj H a y o):s.TypeIs (.ref a) "dict":=by
 rcases g with ⟨d,k,e,_,_⟩|⟨d,k,b,e,_,_,_⟩
 .obtain⟨_,_,h,_,c⟩:=xq I.Ta e;exact c.typeIs
 obtain⟨_,_,f,_,c⟩:=Cs I.Ta e;exact c.typeIs
noncomputable def ud(e ty d:TE):TS:=λD b H=>d b H λv h=>e b h λx g=>ty b g λy f=>∃a c,x=.ref a/\Zo f a y v c/\D.nx b c
def K1{w:World}(h:Heap)(a:sysModules<h.objs.size):mQ P w H (h.push {cls:=.type "dict",data:=.dict #[]}) h.objs.size (.dK []):=
 ⟨Ef _,Uq.mpr<|vg<|Vd a,[],.nil,Heap.DictOf.new h⟩
def L1{w:World}(h:Heap)(a:sysModules<h.objs.size):mQ P w H (h.push {cls:=.type "dict",data:=.dict #[]}) h.objs.size (.dT []):=
 ⟨Ef _,Uq.mpr<|vg<|Vd a,[],.nil,_, #[],0,de _ rfl,⟨rfl,rfl,rfl⟩,rfl,rfl,Dt⟩
def bO9:TE:=λ_ H Q=>∀p,H p=none->Q (.ref p) (bb H p<|.dK [])
def bOa:TE:=λ_ H Q=>∀p,H p=none->Q (.ref p) (bb H p<|.dT [])
section
variable{X:Cx}{pos:Pos}
def bDv:PE X (.Dict [] [] pos) bO9:=λb s a H Q I h=>
 wpAny_Dict_empty ⟨.ref s.heap.objs.size,_,I.laid (λ_ _ q=>Xb _ q) (Pb _)<|K1 s.heap I.big,rfl,h _<|I.Ta.fresh<|Pb _⟩
def bDw:PE X (.Dict [] [] pos) bOa:=λb s a H Q I h=>
 wpAny_Dict_empty ⟨.ref s.heap.objs.size,_,I.laid (λ_ _ q=>Xb _ q) (Pb _)<|L1 s.heap I.big,rfl,h _<|I.Ta.fresh<|Pb _⟩
end
def CO:List (TE×TE)->St->Hp->(List (V×V)->Hp->Prop)->Prop
 |[],_,H,Q=>Q [] H
 |(c,b)::r,a,H,Q=>c a H λx g=>b a g λy f=>CO r a f λd e=>Q ((x,y)::d) e
abbrev VV:List (V×V)->List (Value×Value)->Prop:=Paired λp q=>RelV p.1 q.1/\RelV p.2 q.2
def NC(X:Cx)(d:Pos)(b:List (Option Expr))(a:List Expr)(j:List (TE×TE)):Prop:=
 ∀(f:db) (s:Shared) (c:St) (H:Hp) (Q:List (V×V)->Hp->Prop),Ba X f c H s->CO j c H Q->
  wpAny (model X.prog X.w) X.A (evalPairs<|pairTrees b a X.env d) (λh i=>∃e g,Ba X f c g i/\VV e h/\Q e g) X.xe s
def P4{X:Cx}:NC X pos [] [] []:=λb s a H Q I h=>pairTrees_nil_walk ⟨[],H,I,.nil,h⟩
def N1{X:Cx}{k v:Expr}(p:PE X k tk)(n:PE X v tv)(o:NC X pos ks vs Nu) :
  NC X pos (some k::ks) (v::vs) ((tk,tv)::Nu):=λc s a H Q I h=>
 pairTrees_cons_walk (Vb (p c s a H _ I h) λu e ⟨x,A,t,g,l⟩=>Vb (n c e a A _ t l) λC d ⟨y,z,r,f,j⟩=>
  Vb (o c d a z _ r j) λB D ⟨m,w,q,b,i⟩=>⟨(x,y)::m,w,q,.cons ⟨g,f⟩ b,i⟩)
noncomputable def ky(c a:s0):s0:=a.foldl (λd b=>Be d b.1 b.2) c
def KV.merge:∀{a:s0} {c:Ev} {b:s0} {vs:Ev},KV a c->KV b vs->KV (ky b a) (merged vs c):=by
 intro a c b vs r
 induction r generalizing b vs with
 |nil=>intro q;exact q
 |@cons p q i g h t f=>
  intro d;have e:KV (Be b p.1 p.2) (stored vs q.1 q.2):=by
   have:=d.put p.1 h.2
   rwa [<-h.1]
  exact f e
theorem QX:∀(b a:s0),(ky a b).length<=a.length+b.length
 |[],a=>by show a.length<=a.length+0;lia
 |p::r,a=>by
  have d:=QX r<|Be a p.1 p.2;have c:=wG a p.1 p.2;show (ky _ r).length<=_;rw[Ed];lia
theorem JY{w:World}:∀{e:s0} {f:List (Value×Value)},VV (e.map λg=>(kV g.1,g.2)) f->∃d,Carries (iB P w) f d/\KV e d
 |[],_,r=>by cases r;exact⟨[],True.intro,.nil⟩
 |p::e,_,r=>by
  cases r with
  |@cons a b k bs h t=>
   obtain⟨d,c,q⟩:=JY t;obtain⟨j,i⟩:=b;exact⟨(p.1,i)::d,⟨wq h.1,rfl,c⟩,.cons ⟨rfl,h.2⟩ q⟩
def bRy(f:List (TE×TE)):TE:=λd H Q=>∀p,H p=none->CO f d (bb H p<|.dK []) λe c=>c p=some (.dK [])/\∃a:s0,e=a.map (λb=>(kV b.1,b.2))/\a.length<=15/\Q (.ref p) (bb c p<|.dK<|ky [] a)
theorem bIs{X:Cx}(h:NC X pos keys values Nu)(A:keys.all (·.isSome)=true)(r:keys.length=values.length)(v:keys≠[])
  (b:keys.length<=15):PE X (.Dict keys values pos) (bRy Nu):=by
 intro y s g H Q I q;refine wpAny_Dict_walk (knd:=iB X.prog X.w) A r v b<|Vb (h y _ g _ _ (I.laid (t':=s.toks) (λ_ _ q=>Xb _ q) (Pb _)<|K1 s.heap I.big)<|q _<|I.Ta.fresh<|Pb s.heap.objs.size) λB C ⟨D,F,f,a,e,j,w,lk,n⟩=>?_
 subst w;obtain⟨k,c,l⟩:=JY a;obtain⟨z,t,i,m,x⟩:=yq f.Ta e;cases m;exact⟨k,c,x,λE d o=>⟨.ref s.heap.objs.size,_,(Mx f (by rw[e];exact True.intro) o (let ⟨q,_,_,p,_⟩:=d;⟨q,p⟩)<|BO (by
  have u:=QX j [];rw[Xk]at u;rw[fm];lia) t (l.merge .nil) d),rfl,n⟩⟩
structure M1(X:Cx)(o:Expr)(m:Str)(Ra:Pos)(e:Expr)(Ia:Pos):Prop where
 base:Pg o m X.env
 zi:tm Ia [e] X.env
 line:Jh Ra Ia
 xC:backTo Ia (starEach [e] X.env)=[(false,eval e X.env)]
def CJ(H:Hp)(a:Addr):Prop:=(∃b,Rd H a<|.dK b)\/∃b,Rd H a<|.dT b
def bOb{X:Cx}(I:Ba X aa σ H s)(d:CJ H a) :
  s.TypeIs (.ref a) "dict"/\(∀b,Value.ref a=.ref b->∃ob,s.heap.get? b=some ob/\ob.dict=none)/\(a==sysModules)=false:=by
 rcases d with ⟨i,e⟩|⟨i,e⟩
 .obtain⟨_,f,k,_,c⟩:=xq I.Ta e;refine⟨c.typeIs,λb q=>?_,f⟩
  cases q;obtain⟨ob,_,_,h,g,_⟩:=c;exact⟨ob,h,g.2.1⟩
 obtain⟨_,f,j,_,c⟩:=Cs I.Ta e;refine⟨c.typeIs,λb q=>?_,f⟩
 cases q;obtain⟨ob,_,_,h,g,_⟩:=c;exact⟨ob,h,g.2.1⟩
section
variable{X:Cx}{aa:db}{σ:St}{H:Hp}{s:Shared}{a:Addr}{y d:V}{u r:Value}{o:Option V}{A:Around}{E:be}
def bOc{Q:be}(r:A.units+1<cLine)(I:Ba X aa σ H s)(g:fj H a y o)(n:RelV y u)(h:∀j m,Ba X aa σ H m->RelV (o.getD .Sb) j->Q j m) :
  wpAny (model X.prog X.w) A (call (.builtin "dict.get") [.ref a,u]) Q E s:=by
 rcases g with ⟨q,k,e,i,l⟩|⟨q,k,b,e,i,t,l⟩
 .subst i;obtain⟨z,f,v,c,d⟩:=xq I.Ta e;refine yz sR d.typeIs K_ (D_ _ _) (meets_dict_get _ a (wq n) f) ⟨_,d.mapOf,h _ _ (I.tok _) ?_⟩;rw[l];exact(c.val k).getD rfl
 subst i;cases (n);obtain⟨z,f,p,c,d⟩:=Cs I.Ta e;refine yz sR d.typeIs K_ (D_ _ _) (meetsH_dict_get _ a b f) ⟨nz r,k,p,Ur I.Ta t,d,h _ _ (I.tok _) ?_⟩;rw[l];exact(c.val k).getD rfl
end
def bOd(e ty:TE):TE:=λb H Q=>e b H λx d=>∃a,x=.ref a/\CJ d a/\ty b d λy c=>∃o,fj c a y o/\Q (o.getD .Sb) c
section
variable{X:Cx}{o e f:Expr}{Ra Ia:Pos}{td ty tx:TE}
def bDx(r:X.A.units+1<cLine)(t:PE X o td)(he:PE X e ty)(m:M1 X o "get" Ra e Ia):PE X (.Call (.Attribute o "get" Ra) [e] [] Ia) (bOd td ty):=by
 intro c s b H Q I h;refine wpAny_Call_method m.base m.zi m.line cz sR PySem.F.type_dict_get<|Vb (t c s b H _ I h) λu k ⟨x,C,f,n,a,v,d,q⟩=>?_
 subst v;obtain rfl:u=Value.ref a:=n;obtain⟨j,i,_⟩:=bOb f d;refine⟨j,i,?_⟩;rw[m.xC];exact WQ rfl<|Calls.evalArgs_plain<|GR<|Vb (he c k b C _ f q) λJ F ⟨y,B,A,l,G,g,p⟩=>NR<|bOc r A g l λD E z w=>⟨_,B,z,w,p⟩
end
end L2
set_option maxHeartbeats 1000000
open PySem.W (Frag findIn mroIn nsIn notCls keepIn kia_one fnOf codeIn mg_of isFn KdlSrc kdl_call makesIn OpenLaw mg_none_of WalkO InK)
open List (foldl_cons mem_cons_self mem_cons_of_mem length_cons length_append length_singleton map_cons flatten_cons zip_cons_cons find?_cons nodup_cons getElem?_cons_succ getD_eq_getElem?_getD append_nil length_map length_filter_le length_range' Nodup pairwise_map drop_eq_getElem_cons length_range nodup_nil mem_cons exists_mem_of_ne_nil not_mem_nil findIdx_cons map_nil length_nil length_replicate nil_append any_cons all_cons length_set drop_zero drop_length forIn_cons lookup_cons getElem?_toArray forIn_nil getElem_toArray)
open Nat (zero_le add_sub_cancel_left zero_testBit eq_of_testBit_eq lt_succ_self testBit_or testBit_and succ_pos not_lt_zero mod_lt le_succ)
open Array (ext' getElem?_toList toList_push getD_eq_getD_getElem?)
open Int (toNat_natCast)
open Option (getD_some map_some)
open Bool (or_eq_true and_eq_true)
variable{α:Type}{c n np i m r q j ch d0 t' ep:Nat}{b:Bool}{l rk ks ib la lb gs hs HS z:ac}{a C fa I Na Dc Jc Cb:PySem.Addr}{tg e elt value:PySem.Expr}{x qual name:PySem.Str}{y u dV oc f1:PySem.Value}{E Q Qf:PySem.Value->PySem.Shared->Prop}{ys items:Array PySem.Value}{v:L2.V}{S T U Fm:am}{al:At}{s:PySem.Shared}{vs jf zs:List L2.V}{B A A' fp Z:List PySem.Addr}{ja:ls}{ns:lv}{sq:jp}{ws:u8}{P prog:PySem.Program}{h h' base:PySem.Heap}{cl:Int}{H H' H1:L2.Hp}{o:L2.HO}{Dn:L2.Ends}{X Y:L2.Cx}{es wg:List PySem.Expr}{pos p0 pos' p2 p1 Ra Ia dp px tp:PySem.Pos}{op:PySem.CmpOp}{gv:Int->Int->L2.V}{fd:PySem.FuncData}{ps N loose:List PySem.Str}{sm:PySem.Stmt}{M:PySem.Model}{env:PySem.Env}{body:List PySem.Stmt}{mg:PySem.Str->Option PySem.Value}{scope:PySem.Scope}{aa:List (PySem.Addr×PySem.Obj)}{te:L2.TE}{tt:L2.TT}{J:L2.It}{pl:PySem.Sem Bool}{Ai:Array (Option PySem.Value)}{newId nF:String}{src:L2.Hp->List L2.V->Prop}{ua:List (L2.Key×L2.V)}{oa:PySem.Obj}{Ze Qd Cg:PySem.Tok}{XP:(PySem.Str->Option PySem.Value)->PySem.Heap->Prop}
namespace Pu
inductive D where
 |Sb|bl (b:Bool)|int (i:Int)|str (s:ac)|tup (xs:List D)|lst (xs:List D)
 |Fe (t:Bool) (ks vs:List D)
 |ins (c:String) (ns:wv) (xs:List D)
 |km (c:String) (ns:wv) (xs:List D)
 |fn (f:String)
abbrev _root_.dL:=List D
abbrev _root_.Do:=D->Bool
inductive R (α:Type) where
 |ok (a:α)|exc (x:D)|bad
abbrev _root_.ca:=List D->R D
abbrev _root_.FM:=D->R D
@[inline] noncomputable def R.bind{c b:Type}(r:R c)(f:c->R b):R b:=match r with
 |.ok a=>f a
 |.exc x=>.exc x
 |.bad=>.bad
def R.qa{c:Type}{r:R α}{f:α->R c}{b:c}(h:r.bind f=.ok b):∃a,r=.ok a/\f a=.ok b:=by
 cases r with
 |ok a=>exact⟨a,rfl,h⟩
 |exc x=>exact nomatch h
 |bad=>exact nomatch h
noncomputable section
open Classical in
def aP{a:Type}(c:Prop)(r:R a):R a:=if c then r else .bad
def aF{c:Prop}{r:R α}(h:c):aP c r=r:=jb h
def aM{c:Prop}{r:R α}{a:α}(h:aP c r=.ok a):c/\r=.ok a:=by
 unfold aP at h;split at h
 .exact⟨by assumption,h⟩
 exact nomatch h
inductive OK where
 |l|d (t:Bool) (ks:dL)|i (n:Nat) (c:String) (ns:wv)
noncomputable def Ir:OK->List D->D
 |.l,a=>.lst a
 |.d t ks,a=>.Fe t ks a
 |.i _ c ns,a=>.ins c ns a
inductive Sl where
 |v (d:D)|o (k:OK) (xs:dL)
abbrev _root_.f8:=Option Sl
abbrev za:=List<|Option Sl
abbrev Ex:=za->R D
inductive Fl where
 |nx (st:za)|rt (d:D)|bk (st:za)|ct (st:za)
abbrev Bd:=za->R Fl
@[irreducible] def big:Nat:=10000000
def lB:big=10000000:=by unfold big;rfl
def cO(h:n<=10000000):n<=big:=by rwa [lB]
def Vr(h:n<10000000):n<big:=by rwa [lB]
def Tu{n:Int}(h:n<=10000000):n<=(big:Int):=by rwa [lB]
def Nx{n:Int}(h : -10000000<=n) : -(big:Int)<=n:=by rwa [lB]
noncomputable def Je(n d:Nat):Option Int->Nat
 |none=>d
 |some v=>if v<0 then (v+(n:Int)).toNat else min v.toNat n
noncomputable def rj(n:Nat)(i:Int):Option Nat:=if 0<=i then (if i<n then some i.toNat else none) else if -(n:Int)<=i then some (i+n).toNat else none
def yd{a:Type}(xs:List a)(i:Int):Option a:=(rj xs.length i).bind λj=>xs[j]?
noncomputable def cut{a:Type}(xs:List a)(lo b:AT):List a:=(xs.drop<|Je xs.length 0 lo).take<|Je xs.length xs.length b-Je xs.length 0 lo
def rep{a:Type}(n:Nat)(xs:List a):List a:=(List.replicate n xs).flatten
def Ih{b:Type}:Option b->R b
 |some a=>.ok a
 |none=>.bad
abbrev Rf:=D->FM
def iJ:Rf
 |.int i,.int j=>.ok<|.int<|i+j
 |.str x,.str y=>aP (x.length+y.length<=big)<|.ok<|.str<|x++y
 |.lst x,.lst y=>aP (x.length+y.length<=big)<|.ok<|.lst<|x++y
 |_,_=>.bad
noncomputable def Yv:Rf
 |.int i,.int j=>.ok<|.int<|i-j
 |_,_=>.bad
def Zv:Rf
 |.int i,.int j=>aP ((-18446744073709551616<i/\i<18446744073709551616)\/(-18446744073709551616<j/\j<18446744073709551616))<|.ok<|.int<|i*j
 |.str x,.int j=>aP (x.length*j.toNat<=big/\-4611686018427387904<=j/\j<4611686018427387904)<|.ok<|.str<|rep j.toNat x
 |_,_=>.bad
def xZ:Rf
 |.int i,.int j=>aP (0<j/\j<1073741824)<|.ok<|.int<|i/j
 |_,_=>.bad
def mJ:Rf
 |.int i,.int j=>aP (0<j)<|.ok<|.int<|i%j
 |_,_=>.bad
def VF:Rf
 |.int i,.int j=>aP (0<=j/\j<=1000000/\i.natAbs<18446744073709551616)<|.ok<|.int<|i^j.toNat
 |_,_=>.bad
noncomputable def ap:FM
 |.int i=>.ok<|.int<|-i
 |_=>.bad
noncomputable def XF:Do
 |.int _=>true
 |.str _=>true
 |_=>false
noncomputable def lc(t:Bool)(d:D):Bool:=match d with
 |.int _=>!t
 |.str _=>!t
 |.tup a=>t&&a.all XF
 |_=>false
mutual
noncomputable def Gf:D->D->Bool
 |.int i,.int j=>i==j
 |.str x,.str y=>x==y
 |.tup x,.tup y=>ao x y
 |_,_=>false
noncomputable def ao:List D->List D->Bool
 |[],[]=>true
 |a::x,b::y=>Gf a b&&ao x y
 |_,_=>false
end
noncomputable def uW(a vs:dL)(k:D):Option D:=((a.zip vs).find? λp=>Gf p.1 k).map (·.2)
def oG(a:dL)(k:D):Bool:=a.any λx=>Gf x k
def uX(a:dL)(k:D):dL:=if oG a k=true then a else a++[k]
noncomputable def uY(a vs:dL)(k v:D):dL:=if oG a k=true then (a.zip vs).map (λp=>if Gf p.1 k=true then v else p.2) else vs++[v]
def Wa:Rf
 |.Fe t ks vs,k=>aP (lc t k=true)<|Ih<|uW ks vs k
 |.lst x,.int i=>Ih<|yd x i
 |.tup x,.int i=>Ih<|yd x i
 |.str x,.int i=>aP (x.length<=big)<|Ih<|(yd x i).map λc=>.str [c]
 |_,_=>.bad
mutual
noncomputable def Oc:D->D->Bool
 |.Sb,.Sb=>true
 |.bl a,.bl b=>a==b
 |.bl a,.int j=>(if a then (1:Int) else 0)==j
 |.int i,.bl b=>i==(if b then (1:Int) else 0)
 |.int i,.int j=>i==j
 |.str x,.str y=>x==y
 |.tup x,.tup y=>oH x y
 |.lst x,.lst y=>oH x y
 |_,_=>false
noncomputable def oH:List D->List D->Bool
 |[],[]=>true
 |a::x,b::y=>Oc a b&&oH x y
 |_,_=>false
end
mutual
noncomputable def Ff:D->Nat
 |.tup x=>jV x+1
 |.lst x=>jV x+1
 |.Sb=>0
 |.bl _=>0
 |.int _=>0
 |.str _=>0
 |.Fe _ _ _=>0
 |.ins _ _ _=>0
 |.km _ _ _=>0
 |.fn _=>0
noncomputable def jV:List D->Nat
 |[]=>0
 |a::x=>max (Ff a)<|jV x
end
mutual
def plain:Do
 |.tup x=>dJ x
 |.lst x=>dJ x
 |.Sb=>true
 |.bl _=>true
 |.int _=>true
 |.str _=>true
 |.Fe _ _ _=>false
 |.ins _ _ _=>false
 |.km _ _ _=>false
 |.fn _=>false
def dJ:List D->Bool
 |[]=>true
 |a::x=>plain a&&dJ x
end
def Ad:Rf:=λa b=>aP (Ff a<=64/\plain a=true/\plain b=true)<|.ok<|.bl<|Oc a b
def Ph:Rf:=λa b=>aP (Ff a<=64/\plain a=true/\plain b=true)<|.ok<|.bl<|!Oc a b
def Nl:List D->List D->R Bool
 |[],[]=>.ok false
 |[],_::_=>.ok true
 |_::_,[]=>.ok false
 |a::x,b::y=>if Oc a b=true then Nl x y else match a,b with
  |.int i,.int j=>.ok<|decide (i<j)
  |.str s,.str t=>.ok<|decide (s<t)
  |_,_=>.bad
noncomputable def Jt:Rf
 |.int i,.int j=>.ok<|.bl<|decide (i<=j)
 |_,_=>.bad
noncomputable def VH:Rf
 |.int i,.int j=>.ok<|.bl<|decide (j<i)
 |_,_=>.bad
noncomputable def Ow:Rf
 |.int i,.int j=>.ok<|.bl<|decide (j<=i)
 |_,_=>.bad
def iD:FM
 |.Fe false a _=>.ok<|.int a.length
 |.lst x=>.ok<|.int x.length
 |.tup x=>.ok<|.int x.length
 |.str x=>aP (x.length<=big)<|.ok<|.int x.length
 |_=>.bad
def bo:Do
 |.ins _ _ _=>false
 |.km _ _ _=>false
 |.fn _=>false
 |_=>true
def Hr:Do
 |.Sb=>true
 |_=>false
def YF:Do
 |.str _=>true
 |_=>false
def Sy:Do
 |.bl _=>true
 |_=>false
noncomputable def isIn:Do
 |.bl _=>true
 |.int _=>true
 |_=>false
def Uy:Do
 |.tup _=>true
 |_=>false
def U9:Do
 |.Fe _ _ _=>true
 |_=>false
def Fq:Do
 |.lst _=>true
 |_=>false
noncomputable def mR(x y:ac)(lo:Nat):Option Nat:=(List.range' lo<|x.length+1-lo).find? λi=>decide (i+y.length<=x.length)&&((x.drop i).take y.length==y)
noncomputable def oq:Option Nat->Int
 |some i=>i
 |none=>-1
noncomputable def zO(x y:ac):ac:=(((x.dropWhile λc=>y.contains c).reverse).dropWhile λc=>y.contains c).reverse
abbrev lq:=D->ca
noncomputable def ZE:lq
 |.str x,[.str y]=>.ok<|.int<|oq<|mR x y 0
 |.str x,[.str y,.int i]=>aP (0<=i)<|.ok<|.int<|oq<|mR x y i.toNat
 |_,_=>.bad
noncomputable def ly:lq
 |.str x,[.str y]=>(Ih<|mR x y 0).bind λi=>.ok<|.int i
 |_,_=>.bad
def iE:lq
 |.str x,[.str y]=>aP (x.length<=big)<|.ok<|.str<|zO x y
 |_,_=>.bad
def zq:D->D->R D
 |.int i,.int j=>.ok<|.int<|if j>i then j else i
 |_,_=>.bad
def JP:D->D->R D
 |.int i,.int j=>.ok<|.int<|if j<i then j else i
 |_,_=>.bad
def inD(x:D)(ys:dL):Bool:=ys.any λy=>Oc y x
noncomputable def br:D->D->R D
 |k,.Fe t b _=>aP (lc t k=true)<|.ok<|.bl<|oG b k
 |x,.lst a=>aP (jV a<=60/\plain x=true/\dJ a=true)<|.ok<|.bl<|inD x a
 |x,.tup a=>aP (jV a<=60/\plain x=true/\dJ a=true)<|.ok<|.bl<|inD x a
 |.str x,.str y=>.ok<|.bl (mR y x 0).isSome
 |_,_=>.bad
def tE:D->D->R D
 |k,.Fe t b _=>aP (lc t k=true)<|.ok<|.bl<|!oG b k
 |x,.lst a=>aP (jV a<=60/\plain x=true/\dJ a=true)<|.ok<|.bl<|!inD x a
 |x,.tup a=>aP (jV a<=60/\plain x=true/\dJ a=true)<|.ok<|.bl<|!inD x a
 |.str x,.str y=>.ok<|.bl<|!(mR y x 0).isSome
 |_,_=>.bad
noncomputable def my:D->D->R D
 |x,.Sb=>.ok<|.bl<|!Hr x
 |.bl a,.bl b=>.ok<|.bl<|!(a==b)
 |_,_=>.bad
noncomputable def aA(i:Nat):Ex:=λst=>match st[i]? with
 |some (some<|.v d)=>.ok d
 |_=>.bad
noncomputable def dB(i:Nat):Ex:=λst=>match st[i]? with
 |some (some<|.v d)=>.ok d
 |some (some<|.o k a)=>.ok<|Ir k a
 |_=>.bad
def eC(d:D):Ex:=λ_=>.ok d
def e2(a:Rf)(f g:Ex):Ex:=λst=>(f st).bind λx=>(g st).bind λy=>a x y
def e1(a:FM)(f:Ex):Ex:=λst=>(f st).bind a
def eB(p:Do)(f:Ex):Ex:=λst=>(f st).bind λx=>aP (bo x=true)<|.ok<|.bl<|p x
def Xi{a:Type}(d:D)(f:Bool->R a):R a:=match d with
 |.bl b=>f b
 |_=>.bad
def uZ{f:Bool->R α}{a:α}(h:Xi d f=.ok a):∃b,d=.bl b/\f b=.ok a:=by
 cases d<;>first|exact⟨_,rfl,h⟩|exact nomatch h
def vA(f g:Ex):Ex:=λst=>(f st).bind λx=>Xi x λb=>if b=true then g st else .ok (.bl false)
def xk(f g:Ex):Ex:=λst=>(f st).bind λx=>Xi x λb=>if b=true then .ok (.bl true) else g st
def tH(f:Ex):Ex:=λst=>(f st).bind λx=>Xi x λb=>.ok<|.bl<|!b
def Qw(c f g:Ex):Ex:=λst=>(c st).bind λx=>Xi x λb=>if b=true then f st else g st
abbrev De:=za->R (List D)
def aQ:De:=λ_=>.ok []
noncomputable def aC(f:Ex)(r:De):De:=λst=>(f st).bind λx=>(r st).bind λa=>.ok<|x::a
def yi(r:De):Ex:=λst=>(r st).bind λa=>aP (a.length<=big)<|.ok<|.tup a
def mK(r:De):Ex:=λst=>(r st).bind λa=>aP (a.length<=big)<|.ok<|.lst a
def aO(p:ca)(r:De):Ex:=λst=>(r st).bind p
noncomputable def Ni(m:lq)(f:Ex)(r:De):Ex:=λst=>(f st).bind λx=>(r st).bind λa=>m x a
def An(d:D){a:Type}(f:Int->R a):R a:=match d with
 |.int i=>f i
 |_=>.bad
def ny{f:Int->R α}{a:α}(h:An d f=.ok a):∃i,d=.int i/\f i=.ok a:=by
 cases d<;>first|exact⟨_,rfl,h⟩|exact nomatch h
abbrev Pr:=za->R (Option Int)
def Iv:Pr:=λ_=>.ok none
noncomputable def Aq(f:Ex):Pr:=λst=>(f st).bind λx=>An x λi=>.ok<|some i
def qS(x:D)(lo b:AT):R D:=match x with
 |.lst a=>.ok<|.lst<|cut a lo b
 |.str a=>aP (a.length<=big)<|.ok<|.str<|cut a lo b
 |_=>.bad
def ir(f:Ex)(lo a:Pr):Ex:=λst=>(f st).bind λx=>(lo st).bind λl=>(a st).bind λh=>qS x l h
abbrev Am:=za->R (List D)
noncomputable def Ec(f:Ex):Am:=λst=>(f st).bind λx=>match x with
 |.lst a=>.ok a
 |.tup a=>.ok a
 |.str a=>aP (a.length<=big)<|.ok<|a.map λc=>.str [c]
 |_=>.bad
noncomputable def oJ(lo:Int)(n:Nat):dL:=(List.range n).map λ(k:Nat)=>.int<|lo+(k:Int)
def yC(f:Ex):Am:=λst=>(f st).bind λx=>An x λj=>aP (-(big:Int)<=j/\j<=(big:Int))<|.ok<|oJ 0 j.toNat
def Vy(f g:Ex):Am:=λst=>(f st).bind λx=>(g st).bind λy=>An x λi=>An y λj=>aP (-(big:Int)<=i/\i<=(big:Int)/\-(big:Int)<=j/\j<=(big:Int))<|.ok<|oJ i (j-i).toNat
abbrev Tg:=D->za->R za
def gb(i:Nat):Tg:=λd st=>.ok<|st.set i<|some<|.v d
noncomputable def sv:ac->dL->za->R za
 |[],[],st=>.ok st
 |i::is,d::a,st=>sv is a<|st.set i<|some<|.v d
 |_,_,_=>.bad
def nh(is:ac):Tg:=λd st=>match d with
 |.tup a=>sv is a st
 |.lst a=>sv is a st
 |_=>.bad
noncomputable def jL(tg:Tg)(c f:Ex)(st:za):List D->R (List D)
 |[]=>.ok []
 |d::e=>(tg d st).bind λa=>(c a).bind λx=>Xi x λb=>if b=true then (f a).bind λy=>(jL tg c f st e).bind λg=>.ok (y::g) else jL tg c f st e
def nj(is:ac)(st:za):za:=is.foldl (λs i=>s.set i none) st
def cJ(is:ac)(tg:Tg)(it:Am)(c f:Ex):Ex:=λst=>(it st).bind λa=>aP (a.length<=big)<|(jL tg c f (nj is st) a).bind λb=>.ok<|.lst b
def cV:Ex:=λ_=>.ok<|.bl true
def io(r:R Fl)(f:za->R Fl):R Fl:=r.bind λx=>match x with
 |.nx st=>f st
 |.rt d=>.ok<|.rt d
 |.bk st=>.ok<|.bk st
 |.ct st=>.ok<|.ct st
def dF:Bd:=λst=>.ok<|.nx st
def bA(a b:Bd):Bd:=λst=>io (a st) b
noncomputable def cG(i:Nat)(f:Ex):Bd:=λst=>(f st).bind λd=>.ok<|.nx<|st.set i<|some<|.v d
noncomputable def mG(i:Nat)(f:Ex):Bd:=λst=>(f st).bind λd=>match d with
 |.lst a=>.ok<|.nx<|st.set i<|some<|.o .l a
 |_=>.bad
noncomputable def gj(i:Nat)(f:Ex):Bd:=λst=>(f st).bind λd=>match st[i]? with
 |some (some<|.o .l a)=>aP (a.length<big)<|.ok<|.nx<|st.set i<|some<|.o .l<|a++[d]
 |_=>.bad
def bp(i:Nat)(f:Ex):Bd:=λst=>(f st).bind λd=>match d with
 |.lst a=>(match st[i]? with
  |some (some<|.o .l b)=>aP (b.length+a.length<=big)<|.ok<|.nx<|st.set i<|some<|.o .l<|b++a
  |_=>.bad)
 |_=>.bad
def Ds(i:Nat)(t:Bool):Bd:=λst=>.ok<|.nx<|st.set i<|some<|.o (.d t []) []
noncomputable def ud(i:Nat)(g f:Ex):Bd:=λst=>(f st).bind λd=>(g st).bind λk=>match st[i]? with
 |some (some<|.o (.d t b) a)=>aP (lc t k=true/\a.length<big)<|.ok<|.nx<|st.set i<|some<|.o (.d t<|uX b k)<|uY b a k d
 |_=>.bad
noncomputable def Ml(i:Nat)(c f:String)(e:Ex):Bd:=λst=>(e st).bind λd=>match st[i]? with
 |some (some<|.o (.i n b a) g)=>aP (b=c/\f∉a/\a.length<900)<|.ok<|.nx<|st.set i<|some<|.o (.i n b<|a++[f])<|g++[d]
 |_=>.bad
def cL(c f:String):FM
 |.ins d b a=>aP (d=c)<|Ih<|(b.zip a).lookup f
 |_=>.bad
def oU(c m:String)(p:ca)(d:dL)(f:Ex)(r:De):Ex:=λst=>(f st).bind λx=>(r st).bind λa=>match x with
 |.ins e b _=>aP (e=c/\m∉b)<|p<|x::(a++d)
 |_=>.bad
def oK:Bd:=λ_=>.bad
noncomputable def Bp(st:za)(i:Nat):za:=match st[i]? with
 |some (some<|.o k a)=>st.set i<|some<|.v<|Ir k a
 |_=>st
def cj(is:ac)(b:Bd):Bd:=λst=>b<|is.foldl Bp st
noncomputable def cT(f:Ex):Bd:=λst=>(f st).bind λd=>.ok<|.rt d
noncomputable def aw(f:Ex):Bd:=λst=>(f st).bind λ_=>.ok<|.nx st
noncomputable def Pd(c:Ex)(a b:Bd):Bd:=λst=>(c st).bind λx=>Xi x λq=>if q=true then a st else b st
noncomputable def pb(tg:Tg)(a:Bd):dL->za->R Fl
 |[],st=>.ok<|.nx st
 |d::c,st=>(tg d st).bind λe=>(a e).bind λx=>match x with
  |.nx b=>pb tg a c b
  |.ct b=>pb tg a c b
  |.bk b=>.ok<|.nx b
  |.rt v=>.ok<|.rt v
def lC(tg:Tg)(it:Am)(a:Bd):Bd:=λst=>(it st).bind λb=>pb tg a b st
noncomputable def jA(c:Ex)(a:Bd):Nat->za->R Fl
 |0,_=>.bad
 |n+1,st=>(c st).bind λx=>Xi x λq=>if q=true then (a st).bind λx=>(match x with
  |.nx b=>jA c a n b
  |.ct b=>jA c a n b
  |.bk b=>.ok<|.nx b
  |.rt v=>.ok<|.rt v) else .ok (.nx st)
def Wr(n:Nat)(c:Ex)(a:Bd):Bd:=λst=>jA c a n st
noncomputable def cM(a n:Nat)(b:Bd)(ds:dL):R D:=
 aP (ds.length=a) ((b<|ds.map (λd=>some<|.v d)++List.replicate (n-a) none).bind λx=>match x with
  |.nx _=>.ok .Sb
  |.rt d=>.ok d
  |_=>.bad)
def Es(c:String)(a n:Nat)(b:Bd)(x:Nat)(ds:dL):R D:=
 aP (ds.length=a) ((b<|some (.o (.i x c []) [])::(ds.map (λd=>some<|.v d)++List.replicate (n-a-1) none)).bind λ(g:Fl)=>match g with
  |.nx st=>(match (st[0]?:Option (Option Sl)) with
   |some (some<|.o (.i y h f) e)=>aP (y=x)<|.ok<|.ins h f e
   |_=>.bad)
  |_=>.bad)
open Classical in
def jo(c:String)(a n:Nat)(b:Bd)(ds:dL):R D:=if h:∃d,∀x,Es c a n b x ds=.ok d then .ok (choose h) else .bad
def Q4{c:String} {b:Bd} (h:∀x,Es c np n b x ds=.ok d):jo c np n b ds=.ok d:=by
 unfold jo;rw[dif_pos _];have:=Q_ (p:=λd=>∀x,Es c np n b x ds=.ok d) ⟨d,h⟩ 0
 rw[h 0]at this;exact this.symm
def R4{c:String} {b:Bd} (h:jo c np n b ds=.ok d) (x:Nat):Es c np n b x ds=.ok d:=by
 unfold jo at h;split at h
 .rename_i e
  rwa [(Q_ e x)]
 cases h
end
end Pu
variable{d:Pu.D}{ds xs dv:List Pu.D}{st' s1:Pu.za}{f g:Pu.Ex}{p:List Pu.D->Pu.R Pu.D}{it:Pu.Am}{L bd Fo:Pu.Bd}{x4 x0 x1:Option Pu.Sl}
namespace Pu
@[simp] theorem bg1:1<=big:=cO (by decide)
@[simp] theorem bg2:2<=big:=cO (by decide)
@[simp] theorem bg3:3<=big:=cO (by decide)
@[simp] theorem bT{b:Type}(a:α)(f:α->R b):(R.ok a).bind f=f a:=rfl
@[simp] theorem oy(b:Bool)(f:Bool->R α):Xi (.bl b) f=f b:=rfl
@[simp] theorem bTu(i:Int)(f:Int->R α):An (.int i) f=f i:=rfl
@[simp] theorem bTv(st:za)(f:za->R Fl):io (.ok<|.nx st) f=f st:=rfl
@[simp] theorem bTw(d:D)(f:za->R Fl):io (.ok<|.rt d) f=.ok (.rt d):=rfl
@[simp] theorem S4(i:Nat)(st:za):aA i st=(match st[i]? with|some (some<|.v d)=>R.ok d|_=>.bad):=rfl
@[simp] theorem Z8(d:D)(st:za):eC d st=.ok d:=rfl
@[simp] theorem Cy(a:Rf)(f g:Ex)(st:za):e2 a f g st=(f st).bind λx=>(g st).bind λy=>a x y:=rfl
@[simp] theorem Jv(a:FM)(f:Ex)(st:za):e1 a f st=(f st).bind a:=rfl
@[simp] theorem bVh(p:Do)(f:Ex)(st:za):eB p f st=(f st).bind λx=>aP (bo x=true) (.ok<|.bl<|p x):=rfl
@[simp] theorem T4(f g:Ex)(st:za):vA f g st=(f st).bind λx=>Xi x λb=>if b=true then g st else .ok (.bl false):=rfl
@[simp] theorem bOe(f g:Ex)(st:za):xk f g st=(f st).bind λx=>Xi x λb=>if b=true then .ok (.bl true) else g st:=rfl
@[simp] theorem bIw(f:Ex)(st:za):tH f st=(f st).bind λx=>Xi x λb=>.ok (.bl<|!b):=rfl
@[simp] theorem K7(c f g:Ex)(st:za):Qw c f g st=(c st).bind λx=>Xi x λb=>if b=true then f st else g st:=rfl
@[simp] theorem bTx(st:za):aQ st=.ok []:=rfl
@[simp] theorem bS0(f:Ex)(r:De)(st:za):aC f r st=(f st).bind λx=>(r st).bind λxs=>.ok (x::xs):=rfl
@[simp] theorem bIx(r:De)(st:za):yi r st=(r st).bind λxs=>aP (xs.length<=big) (.ok<|.tup xs):=rfl
@[simp] theorem bIy(r:De)(st:za):mK r st=(r st).bind λxs=>aP (xs.length<=big) (.ok<|.lst xs):=rfl
@[simp] theorem bS1(p:ca)(r:De)(st:za):aO p r st=(r st).bind p:=rfl
@[simp] theorem bUz(m:lq)(f:Ex)(r:De)(st:za):Ni m f r st=(f st).bind λx=>(r st).bind λxs=>m x xs:=rfl
@[simp] theorem bS2(st:za):Iv st=.ok none:=rfl
@[simp] theorem bS3(f:Ex)(st:za):Aq f st=(f st).bind λx=>An x λi=>.ok (some i):=rfl
@[simp] theorem bOf(f:Ex)(lo a:Pr)(st:za):ir f lo a st=(f st).bind λx=>(lo st).bind λl=>(a st).bind λh=>qS x l h:=rfl
@[simp] theorem bIz(f:Ex)(st:za):yC f st=(f st).bind λx=>An x λj=>aP (-(big:Int)<=j/\j<=(big:Int)) (.ok<|oJ 0 j.toNat):=rfl
@[simp] theorem bJ0(f g:Ex)(st:za):Vy f g st=(f st).bind λx=>(g st).bind λy=>An x λi=>An y λj=>aP (-(big:Int)<=i/\i<=(big:Int)/\-(big:Int)<=j/\j<=(big:Int)) (.ok<|oJ i (j-i).toNat):=rfl
@[simp] theorem bS4(tg:Tg)(b:Bd)(st:za):pb tg b [] st=.ok (.nx st):=rfl
def kL(tg:Tg)(b:Bd)(d:D)(ds:dL)(st:za):pb tg b (d::ds) st=(tg d st).bind λs1=>(b s1).bind λx=>match x with
  |.nx a=>pb tg b ds a
  |.ct a=>pb tg b ds a
  |.bk a=>.ok<|.nx a
  |.rt v=>.ok (.rt v):=rfl
def YJ(c:Ex)(b:Bd)(n:Nat)(st:za):jA c b (n+1) st=(c st).bind λx=>Xi x λq=>if q=true then (b st).bind λx=>(match x with
  |.nx a=>jA c b n a
  |.ct a=>jA c b n a
  |.bk a=>.ok<|.nx a
  |.rt v=>.ok<|.rt v) else .ok (.nx st):=rfl
@[simp] theorem L7(f:Ex)(st:za):Ec f st=(f st).bind λx=>match x with|.lst xs=>.ok xs|.tup xs=>.ok xs|.str xs=>aP (xs.length<=big) (.ok<|xs.map λc=>.str [c])|_=>.bad:=rfl
@[simp] theorem nL(n:Nat)(c:Ex)(b:Bd)(st:za):Wr n c b st=jA c b n st:=rfl
@[simp] theorem bJ1(i:Nat)(f:Ex)(st:za):gj i f st=(f st).bind λd=>match st[i]? with|some (some<|.o .l xs)=>aP (xs.length<big) (.ok<|.nx<|st.set i<|some<|.o .l<|xs++[d])|_=>.bad:=rfl
@[simp] theorem bE4(i:Nat)(f:Ex)(st:za):mG i f st=(f st).bind λd=>match d with|.lst xs=>.ok (.nx<|st.set i<|some<|.o .l xs)|_=>.bad:=rfl
@[simp] theorem bJ2(i:Nat)(f:Ex)(st:za):bp i f st=(f st).bind λd=>match d with|.lst a=>(match st[i]? with|some (some<|.o .l xs)=>aP (xs.length+a.length<=big) (.ok<|.nx<|st.set i<|some<|.o .l<|xs++a)|_=>.bad)|_=>.bad:=rfl
@[simp] theorem O1(i:Nat)(c f:String)(e:Ex)(st:za):Ml i c f e st=(e st).bind λd=>match st[i]? with|some (some<|.o (.i n b a) xs)=>aP (b=c/\f∉a/\a.length<900) (.ok<|.nx<|st.set i<|some<|.o (.i n b<|a++[f])<|xs++[d])|_=>.bad:=rfl
@[simp] theorem pF(c f b:String)(a:wv)(xs:dL):cL c f (.ins b a xs)=aP (b=c) (Ih<|(a.zip xs).lookup f):=rfl
@[simp] theorem VC(c m:String)(p:ca)(a:dL)(f:Ex)(r:De)(st:za):oU c m p a f r st=(f st).bind λx=>(r st).bind λxs=>match x with|.ins d b _=>aP (d=c/\m∉b) (p<|x::(xs++a))|_=>.bad:=rfl
@[simp] theorem bV0(is:ac)(b:Bd)(st:za):cj is b st=b (is.foldl Bp st):=rfl
@[simp] theorem bV1(st:za)(i:Nat):Bp st i=(match st[i]? with|some (some<|.o k xs)=>st.set i (some<|.v<|Ir k xs)|_=>st):=rfl
@[simp] theorem bTy(x y:ac):ZE (.str x) [.str y]=.ok (.int<|oq<|mR x y 0):=rfl
@[simp] theorem bS5(x y:ac):iE (.str x) [.str y]=aP (x.length<=big) (.ok<|.str<|zO x y):=rfl
@[simp] theorem bMk(i:Nat):oq (some i)=i:=rfl
@[simp] theorem bS6(x:dL):iD (.tup x)=.ok (.int x.length):=rfl
@[simp] theorem bTz(i j:Int):Ow (.int i) (.int j)=.ok (.bl<|decide (j<=i)):=rfl
@[simp] theorem bS7(b:Int):bo (.int b)=true:=rfl
@[simp] theorem bS8(b:ac):bo (.str b)=true:=rfl
@[simp] theorem bS9(b:dL):bo (.tup b)=true:=rfl
@[simp] theorem bSa(b:dL):bo (.lst b)=true:=rfl
@[simp] theorem bV2(i:Nat)(d:D)(st:za):gb i d st=.ok (st.set i<|some<|.v d):=rfl
@[simp] theorem bU0(st:za):nj [] st=st:=rfl
@[simp] theorem bSb(i:Nat)(is:ac)(st:za):nj (i::is) st=nj is (st.set i none):=rfl
def jO(tg:Tg)(c f:Ex)(st:za)(d:D)(ds:dL):jL tg c f st (d::ds)=(tg d st).bind λs1=>(c s1).bind λx=>Xi x λb=>if b=true then (f s1).bind λy=>(jL tg c f st ds).bind λys=>.ok (y::ys) else jL tg c f st ds:=rfl
@[simp] theorem bSc(st:za):cV st=.ok (.bl true):=rfl
@[simp] theorem PL(is:ac)(tg:Tg)(it:Am)(c f:Ex)(st:za):cJ is tg it c f st=(it st).bind λxs=>aP (xs.length<=big) ((jL tg c f (nj is st) xs).bind λys=>.ok<|.lst ys):=rfl
@[simp] theorem bSd(st:za):dF st=.ok (.nx st):=rfl
@[simp] theorem bU1(a b:Bd)(st:za):bA a b st=io (a st) b:=rfl
@[simp] theorem bJ3(i:Nat)(f:Ex)(st:za):cG i f st=(f st).bind λd=>.ok (.nx<|st.set i<|some<|.v d):=rfl
@[simp] theorem Ox(f:Ex)(st:za):cT f st=(f st).bind λd=>.ok (.rt d):=rfl
@[simp] theorem bOg(c:Ex)(a b:Bd)(st:za):Pd c a b st=(c st).bind λx=>Xi x λq=>if q=true then a st else b st:=rfl
@[simp] theorem bJ4(tg:Tg)(it:Am)(a:Bd)(st:za):lC tg it a st=(it st).bind λxs=>pb tg a xs st:=rfl
@[simp] theorem bSe(i j:Int):iJ (.int i) (.int j)=.ok (.int<|i+j):=rfl
@[simp] theorem bSf(i j:Int):mJ (.int i) (.int j)=aP (0<j) (.ok<|.int<|i%j):=rfl
@[simp] theorem bU2(i j:Int):Jt (.int i) (.int j)=.ok (.bl<|decide (i<=j)):=rfl
@[simp] theorem bOh(x y:D):Ad x y=aP (Ff x<=64/\plain x=true/\plain y=true) (.ok<|.bl<|Oc x y):=rfl
@[simp] theorem DO(x y:D):Ph x y=aP (Ff x<=64/\plain x=true/\plain y=true) (.ok<|.bl<|!Oc x y):=rfl
@[simp] theorem bU3(i:Int):Ff (.int i)=0:=rfl
@[simp] theorem bU4(s:ac):Ff (.str s)=0:=rfl
@[simp] theorem bU5(x:dL):Ff (.tup x)=jV x+1:=by conv=>lhs;unfold Ff
@[simp] theorem bU6(x:dL):Ff (.lst x)=jV x+1:=by conv=>lhs;unfold Ff
@[simp] theorem bQx:plain .Sb=true:=by unfold plain;rfl
@[simp] theorem bSg(b:Bool):plain (.bl b)=true:=rfl
@[simp] theorem bQy(i:Int):plain (.int i)=true:=rfl
@[simp] theorem bQz(s:ac):plain (.str s)=true:=rfl
@[simp] theorem bR0(x:dL):plain (.tup x)=dJ x:=by conv=>lhs;unfold plain
@[simp] theorem bR1(x:dL):plain (.lst x)=dJ x:=by conv=>lhs;unfold plain
@[simp] theorem bR2(t:Bool)(k v:dL):plain (.Fe t k v)=false:=rfl
@[simp] theorem bR3(c:String)(n:wv)(v:dL):plain (.ins c n v)=false:=rfl
@[simp] theorem bR4(c:String)(n:wv)(v:dL):plain (.km c n v)=false:=rfl
@[simp] theorem bSh(f:String):plain (.fn f)=false:=rfl
@[simp] theorem bOi:dJ []=true:=by unfold dJ;rfl
@[simp] theorem ť(a:D)(x:dL):dJ (a::x)=(plain a&&dJ x):=by conv=>lhs;unfold dJ
@[simp] theorem bSi:jV []=0:=by unfold jV;rfl
@[simp] theorem rL(a:D)(x:dL):jV (a::x)=max (Ff a) (jV x):=by conv=>lhs;unfold jV
@[simp] theorem bU7(i j:Int):Oc (.int i) (.int j)=(i==j):=by unfold Oc;rfl
@[simp] theorem bU8(i j:ac):Oc (.str i) (.str j)=(i==j):=rfl
@[simp] theorem bR5(a:Bool)(b:Bool):Oc (.bl a) (.bl b)=(a==b):=by unfold Oc;rfl
@[simp] theorem bMl(x:dL)(y:dL):Oc (.tup x) (.tup y)=oH x y:=by conv=>lhs;unfold Oc
@[simp] theorem bMm(x:dL)(y:dL):Oc (.lst x) (.lst y)=oH x y:=by conv=>lhs;unfold Oc
@[simp] theorem bJ5:oH [] []=true:=by unfold oH;rfl
@[simp] theorem bI5(b:D)(y:dL):oH [] (b::y)=false:=rfl
@[simp] theorem bI6(b:D)(y:dL):oH (b::y) []=false:=rfl
@[simp] theorem bE5(a b:D)(x y:dL):oH (a::x) (b::y)=(Oc a b&&oH x y):=by conv=>lhs;unfold oH
@[simp] theorem bSj(x:dL):iD (.lst x)=.ok (.int x.length):=rfl
@[simp] theorem bU9(x:dL)(i:Int):Wa (.tup x) (.int i)=Ih (yd x i):=rfl
@[simp] theorem bUa(x:dL)(i:Int):Wa (.lst x) (.int i)=Ih (yd x i):=rfl
@[simp] theorem bUb(x:ac)(l h:AT):qS (.str x) l h=aP (x.length<=big) (.ok<|.str<|cut x l h):=rfl
@[simp] theorem bVi(t:Bool)(a xs:dL):Ir (.d t a) xs=.Fe t a xs:=rfl
@[simp] theorem bSk(a:α):Ih (some a)=.ok a:=rfl
@[simp] theorem gR{c:Prop}{r:R α}(h:c):aP c r=r:=aF h
@[simp] theorem bJ6{b:Bd} (h:ds.length=np):cM np n b ds=(b<|ds.map (λd=>some<|.v d)++List.replicate (n-np) none).bind λx=>match x with
  |.nx _=>.ok .Sb
  |.rt d=>.ok d
  |_=>.bad:=aF h
def bOj{xs:List α}{i:Int}(a:0<=i)(h:i<xs.length):yd xs i=some (xs[i.toNat]'(by omega)):=by
 unfold yd rj;rw[jb a,jb h];exact Kc _
theorem Qb{xs:List α}{i:Nat}(h:i<xs.length):yd xs (i:Int)=some xs[i]:=by
 rw[bOj (by lia) (by lia)]
 simp
def fF:FM
 |.lst x=>.ok<|.lst x
 |.tup x=>.ok<|.lst x
 |_=>.bad
noncomputable def Gw:List D->R (List Bool)
 |[]=>.ok []
 |.bl b::r=>(Gw r).bind λx=>.ok<|b::x
 |_::_=>.bad
noncomputable def yD:List D->R (List Int)
 |[]=>.ok []
 |.int i::r=>(yD r).bind λx=>.ok<|i::x
 |_::_=>.bad
noncomputable def Gq:FM
 |.lst x=>(Gw x).bind λl=>.ok<|.bl<|l.all id
 |_=>.bad
noncomputable def gp:List Int->Int
 |[]=>0
 |i::r=>r.foldl (λa b=>if b>a then b else a) i
noncomputable def Bq:FM
 |.lst x=>(yD x).bind λl=>aP (0<l.length)<|.ok<|.int<|gp l
 |_=>.bad
theorem M7:∀{x:dL}{l:u8},Gw x=.ok l->x=l.map D.bl
 |[],l,h=>by cases h;rfl
 |d::x,l,h=>by
  cases d<;>first|(cases h)|skip
  obtain⟨c,b,a⟩:=R.qa h;cases a;rw[M7 b];rfl
theorem WC:∀{x:dL}{l:lv},yD x=.ok l->x=l.map D.int
 |[],l,h=>by cases h;rfl
 |d::x,l,h=>by
  cases d<;>first|(cases h)|skip
  obtain⟨c,b,a⟩:=R.qa h;cases a;rw[WC b];rfl
theorem U4:∀(l:u8),Gw (l.map D.bl)=.ok l
 |[]=>rfl
 |b::l=>by show (Gw _).bind _=_;rw[U4 l];rfl
theorem qM:∀(l:lv),yD (l.map D.int)=.ok l
 |[]=>rfl
 |b::l=>by show (yD _).bind _=_;rw[qM l];rfl
theorem AL:∀(r:lv)(a:Int),a<=r.foldl (λa b=>if b>a then b else a) a/\(∀x∈r,x<=r.foldl (λa b=>if b>a then b else a) a)/\(r.foldl (λa b=>if b>a then b else a) a=a\/r.foldl (λa b=>if b>a then b else a) a∈r)
 |[],a=>⟨Int.le_refl _,λ_ h=>(by cases h),.inl rfl⟩
 |b::r,a=>by
  obtain⟨d,e,c⟩:=AL r _;rw[Yk];refine⟨Int.le_trans (by split<;>lia) d,λx hx=>?_,?_⟩
  .rcases qc.mp hx with rfl|hx
   .exact Int.le_trans (by split<;>lia) d
   exact e x hx
  rcases c with c|c
  .rw[c];split
   .exact .inr qb
   exact .inl rfl
  exact .inr<|Mb _ c
theorem V4{l:lv}{m:Int}(c:m∈l)(b:∀x∈l,x<=m):gp l=m:=by
 cases l with
 |nil=>cases c
 |cons i r=>
  obtain⟨h,d,a⟩:=AL r i;have g:gp (i::r)<=m:=by
   rcases a with a|a
   .exact b _ (by show r.foldl _ i∈_;rw[a];exact qb)
   exact b _<|Mb _ a
  have f:m<=gp (i::r):=by
   rcases qc.mp c with e|e
   .rwa [e]
   exact d _ e
  lia
inductive Ϻ where
 |nx (Μ:List (List D)) (st:za)|rt (d:D)
abbrev NB:=List dL->za->R Ϻ
noncomputable def KP(i:Nat):Bd:=λst=>match st[i]? with
 |some (some<|.o .l xs)=>.ok<|.rt<|.lst xs
 |_=>.bad
noncomputable def Uo(a:Bd)(i:Nat):Bd:=λst=>match a st with
 |.ok (.nx s)=>KP i s
 |_=>.bad
noncomputable def rZ(l:lv):lv:=l.foldl (λa x=>if a.any (· == x) then a else a++[x]) []
def vB:Nat->List D->List D
 |_,[]=>[]
 |n,d::ds=>.tup [.int (n:Int),d] :: vB (n+1) ds
def DQ(f:Ex):Am:=λst=>(f st).bind λx=>match x with
 |.lst xs=>.ok<|vB 0 xs
 |_=>.bad
noncomputable def atom:Do
 |.Sb=>true
 |.bl _=>true
 |.int _=>true
 |.str _=>true
 |_=>false
def bSl:Do
 |.lst xs=>xs.all atom
 |_=>false
noncomputable section
def bOl:FM
 |.lst xs=>aP (xs.length<=big/\xs.all bSl=true)<|.ok<|.lst xs
 |_=>.bad
def unL:D->List D
 |.lst xs=>xs
 |_=>[]
open Classical in
def bVj(c:String)(a n:Nat)(b:Bd)(ds:dL):R D:=if h:∃r,∀x,Es c a n b x ds=r then choose h else .bad
end
noncomputable def oo:List Nat->List D->List D
 |c::z,d::ds=>.tup [.str [c],d] :: oo z ds
 |_,_=>[]
noncomputable def iF(f g:Ex):Am:=λst=>(f st).bind λx=>(g st).bind λy=>match x,y with
 |.str z,.lst ds=>.ok<|oo z ds
 |_,_=>.bad
noncomputable section
def Px:FM
 |.int n=>aP (-(big:Int)<=n/\n<=(big:Int))<|.ok<|.lst<|oJ 0 n.toNat
 |_=>.bad
def EO(i:Nat)(g f:Ex):Bd:=λst=>(g st).bind λk=>(f st).bind λd=>aP (XF k=true/\atom d=true)<|.ok<|.nx<|st.set i<|some<|.o (.d false [k]) [d]
def Ol:Rf
 |.int i,.int j=>aP (0<=j/\j<=1000000/\i.natAbs<18446744073709551616)<|.ok<|.int<|i*2^j.toNat
 |_,_=>.bad
def Nk:Rf
 |.int i,.int j=>aP (0<=j)<|.ok<|.int<|i/2^j.toNat
 |_,_=>.bad
def Ei:Rf
 |.int i,.int j=>aP (0<=i/\0<=j)<|.ok<|.int ((i.toNat&&&j.toNat:Nat):Int)
 |_,_=>.bad
def Qm:Rf
 |.int i,.int j=>aP (0<=i/\0<=j)<|.ok<|.int ((i.toNat|||j.toNat:Nat):Int)
 |_,_=>.bad
noncomputable def kF:lq
 |.lst xs,[.int k]=>(yD xs).bind λl=>(Ih<|l.findIdx? λi=>i==k).bind λn=>aP (xs.length<=big)<|.ok<|.int (n:Int)
 |_,_=>.bad
end
def Cm(i:Int):Nat:=if i=0 then 0 else i.natAbs.log2+1
def HD:FM
 |.int i=>.ok<|.int (Cm i:Nat)
 |_=>.bad
noncomputable def mE:FM
 |.Fe false a ds=>aP (a.length<=big)<|.ok<|.lst<|List.zipWith (λk d=>.tup [k,d]) a ds
 |_=>.bad
noncomputable def sE(a:Bd)(f:Ex):Bd:=λst=>match a st with
 |.ok (.nx s)=>(f s).bind λd=>match d with
  |.lst xs=>.ok<|.rt<|.lst xs
  |_=>.bad
 |_=>.bad
noncomputable def qo:Rf
 |.int i,.int j=>.ok<|.bl<|decide (i<j)
 |_,_=>.bad
noncomputable def uC:Rf
 |.int i,.int j=>aP ((-18446744073709551616<i/\i<18446744073709551616)\/(-18446744073709551616<j/\j<18446744073709551616))<|.ok<|.int<|i*j
 |_,_=>.bad
@[simp] theorem bSm(i j:Int):qo (.int i) (.int j)=.ok (.bl<|decide (i<j)):=rfl
end Pu
variable{nb:Pu.NB}
namespace Pu
noncomputable section
def Bj(l:lv):lv:=l.mergeSort λa b=>decide (a<=b)
def sH(l:lv):(Bj l).Perm l:=List.mergeSort_perm _ _
def bE8(l:lv):(Bj l).Pairwise (· <= ·):=by
 have h:=List.pairwise_mergeSort (le:=λa b:Int=>decide (a<=b)) (λa b c e d=>by
  have:=vo e;have:=vo d;exact Jd<|by omega) (λa b=>by
  rcases Int.le_total a b with h|h
  .simp[h]
  .simp[h]) l
 exact h.imp λh=>vo h
def Qx:FM
 |.lst x=>(yD x).bind λl=>aP (l.length<=4000/\(rZ l).length<64)<|.ok<|.lst<|(Bj<|rZ l).map D.int
 |_=>.bad
def Dy(r:De)(g:Ex):Ex:=λst=>(r st).bind λxs=>(g st).bind λy=>An y λj=>aP (xs.length<=big/\xs.length*j.toNat<=big/\-4611686018427387904<=j/\j<4611686018427387904)<|.ok<|.lst<|rep j.toNat xs
end
def so:List D->List D->List D
 |c::z,d::y=>.tup [c,d] :: so z y
 |_,_=>[]
noncomputable section
def Au:dL->R (List<|Int×Int)
 |[]=>.ok []
 |.tup [.int i,.int j] :: x=>(Au x).bind λl=>.ok<|(i,j)::l
 |_=>.bad
def pD(p:Go):D:=.tup [.int p.1,.int p.2]
theorem N7:∀{x:dL} {l:re},Au x=.ok l->x=l.map pD
 |[],_,h=>by cases h;rfl
 |d::x,l,h=>by
  unfold Au at h;split at h
  .simp_all
  .rename_i i j c e;cases e;obtain⟨m,a,b⟩:=R.qa h;cases b;rw[N7 a];rfl
  cases h
end
noncomputable section
open PySem.W PyProof.Rows
def Wy{b:Type}(c:wS):KasT b->b
 |.ret a=>a
 |.ask i j k=>Wy c<|k<|c i j
def xh{b:Type}(c:wS)(n:Nat):KasT b->(b->Prop)->Prop
 |.ret a,Q=>Q a
 |.ask i j k,Q=>i<n/\j<n/\xh c n (k<|c i j) Q
def xh.run{c:wS} {Q:α->Prop} {t:KasT α} (h:xh c n t Q):Q (Wy c t):=by
 induction t with
 |ret _=>exact h
 |ask i j k a=>exact a _ h.2.2
theorem xh.bind{b d:Type}{c:wS}{n:Nat}{P:b->Prop}{Q:d->Prop}{f:b->KasT d}(g:∀a,P a->xh c n (f a) Q){t:KasT b}(h:xh c n t P):xh c n (t.bind f) Q:=by
 induction t with
 |ret a=>exact g a h
 |ask i j k e=>exact⟨h.1,h.2.1,e _ h.2.2⟩
def si(n:Nat)(p:GE):Prop:=0<n/\p.toList.Perm (List.range n)
section
variable{c:wS} {p:GE}
def si.lt(h:si n p)(i:Nat):p.getD i 0<n:=by
 by_cases a:i<p.size
 .rw[show p.getD i 0=p[i] by simp[a]]
  exact qf.mp<|h.2.mem_iff.mp<|V_.mpr<|Array.getElem_mem a
 rw[show p.getD i 0=0 by simp[a]]
 exact h.1
def si.rev(h:si n p)(i j:Nat):si n (kas_rev p i j):=⟨h.1,(q_.mp<|mirror_perm _ _ _ _).trans h.2⟩
theorem FO(h:si n p):∀(f m:Nat),xh c n (kas_asc p f m) λ_=>True
 |0,_=>trivial
 |f+1,m=>⟨h.lt _,h.lt _,by dsimp only;split;exact trivial;exact FO h f _⟩
theorem ID:∀(f:Nat){p:GE}(m q:Nat),si n p->xh c n (kas_desc f p m q) λr=>si n r.1
 |0,_,_,_,h=>h
 |f+1,p,m,q,h=>⟨h.lt _,h.lt _,by
  dsimp only
  by_cases e:c (p.getD m 0) (p.getD (m-1) 0)=true
  .rw[jb e];split
   .exact ID f _ _ (h.rev _ _)
   exact ID f _ _ h
  rw[Pa e];exact⟨h.lt _,h.lt _,by dsimp only;split;exact h;exact ID f _ _ h⟩⟩
def W4(h:si n p)(m z:Nat):xh c n (kas_tail3 m z p) λr=>si n r.2:=by
 refine xh.bind (λ_ _=>?_)<|FO (h.rev _ _) _ _
 exact h.rev _ _
def P1(h:si n p)(m z:Nat):xh c n (kas_descPart m z p) λr=>si n r.2:=xh.bind (λr a=>by
 split
 .exact W4 (a.rev _ _) _ _
 exact W4 a _ _) (ID _ _ _ h)
def bEb(h:si n p)(z:Nat):xh c n (kas_count z p) λr=>si n r.2:=xh.bind (λm _=>by
 split
 .exact h
 split
 .exact⟨h.lt _,h.lt _,by dsimp only;split;exact h;exact P1 (h.rev _ _) _ _⟩
 exact P1 h _ _) (FO h _ _)
theorem Q1(h:si n p)(k:Nat):∀(f l r:Nat),xh c n (kas_place p k f l r) λ_=>True
 |0,_,_=>trivial
 |f+1,l,r=>by
  unfold kas_place;split
  .exact trivial
  exact⟨h.lt _,h.lt _,by dsimp only;split<;>exact Q1 h k f _ _⟩
theorem O7:∀(f:Nat){p:GE}(k:Nat),si n p->xh c n (kas_bin f p k) (si n)
 |0,_,_,h=>h
 |f+1,p,k,h=>xh.bind (λl _=>O7 f (k+1) ⟨h.1,(q_.mp<|bubble_perm _ _ _).trans h.2⟩)<|Q1 h k _ _ _
def X4(h:0<n):xh c n (kas_sort n) (si n):=xh.bind (λr a=>by
 split
 .exact O7 _ _ a
 exact a) (bEb ⟨h,.refl _⟩ _)
end
def ltQ(x y:Go):Bool:=if x.1==y.1 then decide (x.2<y.2) else decide (x.1<y.1)
def B'(l:re)(i j:Nat):Bool:=ltQ (l.getD i (0,0))<|l.getD j (0,0)
def Rj(l:re):ac:=if l.length<2 then List.range l.length else (Wy (B' l)<|kas_sort l.length).toList
def ZF(l:re):re:=(Rj l).map λi=>l.getD i (0,0)
def map_range{d:α}(l:List α):((List.range l.length).map λi=>l.getD i d)=l:=List.ext_getElem (by simp) λi b a=>by simp[a]
def XC(l:re):(Rj l).Perm (List.range l.length):=by
 unfold Rj;split
 .exact .refl _
 exact(xh.run<|X4<|by omega).2
def bBb(l:re):(ZF l).Perm l:=by
 have:=(XC l).map λi=>l.getD i (0,0)
 rwa [map_range]at this
def uv:FM
 |.Fe true a _=>aP (a.length<=big)<|.ok<|.lst a
 |_=>.bad
def Ey:FM
 |.Fe true a _=>(Au a).bind λl=>aP (l.length<64)<|.ok<|.lst<|(ZF l).map pD
 |_=>.bad
end
noncomputable section
def sF:Rf
 |.lst z,.lst w=>.ok<|.lst<|so z w
 |_,_=>.bad
def LP:lq
 |.lst xs,[y]=>(Ih<|xs.findIdx? λd=>Oc d y).bind λn=>aP (xs.length<=big/\jV xs<=60/\plain y=true/\dJ xs=true)<|.ok<|.int (n:Int)
 |_,_=>.bad
def nE(i:Nat)(g f:Ex):Bd:=λst=>(g st).bind λk=>(f st).bind λd=>aP (lc true k=true/\atom d=true)<|.ok<|.nx<|st.set i<|some<|.o (.d true [k]) [d]
def Vo(g:ca):D->D->List D->R D
 |b,_,[]=>.ok b
 |b,a,d::ds=>(g [d]).bind λk=>match k,a with
  |.tup x,.tup y=>aP (jV x<=60/\dJ x=true/\dJ y=true)<|(Nl x y).bind λt=>if t=true then Vo g d k ds else Vo g b a ds
  |_,_=>.bad
def Hq(g:ca):FM
 |.lst []=>.ok .Sb
 |.lst (d::ds)=>(g [d]).bind λk=>Vo g d k ds
 |_=>.bad
def kG(f:String)(bs:u8):Rf
 |.fn g,i=>aP (g=f)<|Wa (.tup<|bs.map D.bl) i
 |x,i=>Wa x i
def Fy:D->D->D->R D
 |.Fe t a b,k,x=>aP (lc t k=true)<|if oG a k=true then Ih (uW a b k) else .ok x
 |_,_,_=>.bad
def EQ(f g h:Ex):Ex:=λst=>(f st).bind λd=>(g st).bind λk=>(h st).bind λx=>Fy d k x
def b9(c:String):Ex:=λ_=>.ok<|.ins c [] []
def vF(i j:Nat)(p:ca)(f:Ex):Bd:=λst=>(f st).bind λx=>match st[j]? with
 |some (some<|.o .l a)=>(match a.getLast? with
  |some d=>aP (a.length<=big)<|(p [x,d]).bind λy=>.ok<|.nx<|(st.set j<|some<|.o .l a.dropLast).set i<|some<|.v y
  |none=>.bad)
 |_=>.bad
def d9(i:Nat)(g f:Ex):Bd:=λst=>(g st).bind λk=>(f st).bind λd=>match st[i]? with
 |some (some<|.o (.d false a) b)=>aP (lc false k=true/\b.length<big)<|.ok<|.nx<|if oG a k=true then st else st.set i (some<|.o (.d false<|uX a k)<|uY a b k d)
 |_=>.bad
end
def atS:Option Sl->Bool
 |none=>true
 |some (.v d)=>atom d
 |some (.o _ xs)=>xs.all atom
def MP(i:Nat)(t:Tg)(b:Bd):Bd:=λst=>match st[i]? with
 |some (some<|.v<|.Fe false a ds)=>if (ds.all atom&&(st.set i none).all atS)=true then (pb t b (List.zipWith (λk d=>D.tup [k,d]) a ds)<|st.set i none).bind λx=>match x with
  |.nx s=>.ok<|.nx s
  |_=>.bad
  else .bad
 |_=>.bad
noncomputable def qy:FM
 |.Fe false _ ds=>aP (ds.length<=big)<|.ok<|.lst ds
 |_=>.bad
@[irreducible] def huge:Nat:=2^9000
noncomputable section
def V9(f:Ex)(k:Nat):Ex:=λst=>(f st).bind λx=>match x with
 |.tup xs=>aP (k<xs.length)<|.ok<|.tup<|xs.take k
 |_=>.bad
end
abbrev VB:=List D->Bd
def NP(i:Nat)(xs:dL)(st:za):za:=st.set i<|some<|.v<|.lst xs
def Kv:VB:=λ_=>dF
def Iq(a b:VB):VB:=λxs st=>io (a xs st)<|b xs
noncomputable section
def Lv(i:Nat)(f:Ex):VB:=λxs st=>(f<|NP i xs st).bind λd=>aP (atom d=true)<|.ok<|.rt d
end
def f9(j:Nat):VB:=λxs st=>.ok<|.nx<|st.set j<|some<|.v<|.lst xs
def Mr(i:Nat)(c:Ex)(a b:VB):VB:=λxs st=>(c<|NP i xs st).bind λx=>Xi x λq=>if q=true then a xs st else b xs st
def Mv(j:Nat)(a:VB)(xs:dL):dL->za->R Fl
 |[],st=>.ok<|.nx st
 |d::ds,st=>(a xs<|st.set j<|some<|.v d).bind λr=>match r with
  |.nx b=>Mv j a xs ds b
  |.rt v=>.ok<|.rt v
  |_=>.bad
def AG(j:Nat)(a:VB):VB:=λxs st=>Mv j a xs xs st
def AF(b:Bd):VB:=λ_ st=>(b st).bind λa=>match a with
 |.rt d=>.ok<|.rt d
 |_=>.bad
noncomputable def G'(is:ac)(f:Ex):Ex:=λst=>(f<|is.foldl Bp st).bind λd=>aP (atom d=true)<|.ok d
def Ls(a b:Bd):Bd:=λst=>match a st with
 |.ok r=>.ok r
 |_=>b st
def CG(i:Nat):Ex:=λst=>match st[i]? with
 |some (some<|.o .l xs)=>.ok<|.lst xs
 |_=>.bad
def YM(i:Nat)(a:VB):Bd:=λst=>match st[i]? with
 |some (some<|.o .l xs)=>(a xs<|st.set i none).bind λb=>match b with
  |.rt d=>.ok<|.rt d
  |_=>.bad
 |_=>.bad
noncomputable section
abbrev eI(n:Int):Ex:=eC<|.int n
def Ŧ:Bd:=bA (Pd (e2 qo (aA 1)<|e1 iD<|aA 0) (cT<|e2 mJ (e2 Wa (aA 0)<|aA 1)<|e2 VF (eI 10)<|eI 30) dF)<|bA (cG 2<|eI 0)<|bA (Pd (e2 VH (e1 iD<|aA 0)<|eI 0) (cG 2<|e2 mJ (e2 Wa (aA 0)<|e2 mJ (aA 1)<|e1 iD<|aA 0)<|eI 999983) dF)<|cT<|e2 mJ (e2 uC (e2 iJ (e2 iJ (e2 uC (aA 2)<|eI 48271)<|e2 uC (eI 7919)<|aA 1)<|eI 11)<|e2 iJ (aA 1)<|eI 2)<|eI 2147483647
def oV:ca:=cM 2 3 Ŧ
def ŧ:Bd:=bA (cG 3<|e2 mJ (e2 iJ (aA 0)<|e2 uC (eI 15485863)<|aA 1)<|eI 2147483629)<|bA (cG 3<|e2 mJ (e2 uC (e2 mJ (e2 uC (aA 3)<|aA 3)<|eI 2147483647)<|eI 69621)<|eI 2147483629)<|cT<|e2 mJ (e2 xZ (e2 mJ (e2 uC (aA 3)<|aA 3)<|eI 2147483587)<|eI 32)<|aA 2
def jM:ca:=cM 3 4 ŧ
def YW(st:za):R Fl:=(bA (gj 2<|e2 mJ (aA 0)<|aA 3)<|cG 0<|e2 xZ (aA 0)<|aA 3) st
def Ę:Bd:=bA (mG 2<|mK aQ)<|bA (lC (gb 3) (Ec<|aA 1) YW)<|cj [2]<|cT<|aA 2
def iU:ca:=cM 2 4 Ę
def Ũ:Bd:=bA (Pd (e2 Ad (aA 2)<|eI 1) (cT<|e2 zq (aA 0)<|aA 1) dF)<|bA (Pd (vA (e2 Ad (aA 2)<|eI 2)<|e2 qo (e2 xZ (aA 1)<|eI 2)<|e2 xZ (aA 0)<|eI 2) (cT<|e2 JP (e2 Yv (aA 3)<|eI 1)<|e2 iJ (e2 Yv (aA 0)<|e2 mJ (aA 0)<|eI 2)<|e2 mJ (aA 1)<|eI 2) dF)<|cT<|aA 1
def wH:ca:=cM 4 4 Ũ
def vC(st:za):R D:=(aO jM<|aC (aA 3)<|aC (e2 iJ (eI 1)<|aA 9)<|aC (e2 Wa (aA 4)<|aA 9) aQ) st
def vD(st:za):R D:=(aO jM<|aC (aA 10)<|aC (e2 iJ (eI 11)<|aA 12)<|aC (aA 6) aQ) st
def DX(st:za):R D:=(aO wH<|aC (aA 9)<|aC (aA 13)<|aC (aA 7)<|aC (aA 6) aQ) st
def vG(st:za):R Fl:=(bA (cG 10<|aO oV<|aC (aA 0)<|aC (e2 iJ (e2 iJ (aA 1)<|eI 1)<|aA 9) aQ)<|bA (cG 11<|aO iU<|aC (aA 10)<|aC (Dy (aC (aA 6) aQ)<|e2 iJ (eI 1)<|e2 Wa (aA 5)<|eI 1) aQ)<|bA (Pd (e2 Ad (e2 mJ (aA 3)<|eI 2)<|eI 0) (cG 11<|cJ [12] (gb 12) (yC<|e2 iJ (eI 1)<|e2 Wa (aA 5)<|eI 1) cV vD) dF)<|gj 8<|cJ [13] (gb 13) (Ec<|aA 11) cV DX) st
def Ŀ:Bd:=bA (cG 3<|aO oV<|aC (aA 0)<|aC (aA 1) aQ)<|bA (cG 4<|mK<|aC (aA 2)<|aC (eI 3)<|aC (eI 5) aQ)<|bA (cG 5<|cJ [9] (gb 9) (yC<|eI 3) cV vC)<|bA (Pd (e2 Ad (e2 mJ (aA 3)<|eI 2)<|eI 1) (cG 5<|aO iU<|aC (e2 xZ (aA 3)<|eI 2)<|aC (aA 4) aQ) dF)<|bA (cG 6<|e2 iJ (eI 1)<|e2 Wa (aA 5)<|eI 0)<|bA (cG 7<|e2 Wa (mK<|aC (eI 1)<|aC (eI 2)<|aC (eI 1)<|aC (eI 2)<|aC (eI 0) aQ)<|e2 Wa (aA 5)<|eI 2)<|bA (mG 8<|mK aQ)<|bA (lC (gb 9) (yC<|aA 6) vG)<|cj [8]<|cT<|aA 8
def uF:ca:=cM 3 14 Ŀ
def EX(st:za):R Fl:=(cG 3<|e2 Qm (aA 3)<|e2 Ol (eI 1)<|aA 4) st
def FX(st:za):R Fl:=(bA (cG 3<|eI 0)<|bA (lC (gb 4) (Ec<|aA 2) EX)<|gj 1<|aA 3) st
def ŀ:Bd:=bA (mG 1<|mK aQ)<|bA (lC (gb 2) (Ec<|aA 0) FX)<|cj [1]<|cT<|aA 1
def uG:ca:=cM 1 5 ŀ
def GX(st:za):R Fl:=(Pd (e2 Ad (e2 Ei (e2 Nk (aA 3)<|aA 6)<|eI 1)<|eI 1) (cG 5<|e2 Qm (aA 5)<|e2 Ei (e2 Wa (aA 0)<|aA 6)<|aA 1) dF) st
def vH(st:za):R Fl:=(bA (cG 5<|aA 3)<|bA (lC (gb 6) (yC<|e1 iD<|aA 0) GX)<|bA (cG 4<|e2 Ph (aA 5)<|aA 3)<|cG 3<|aA 5) st
def HX(st:za):R D:=(aA 4) st
def Ł:Bd:=bA (cG 3<|e2 Ei (aA 2)<|aA 1)<|bA (cG 4<|eC<|.bl true)<|bA (Wr 100000 HX vH)<|cT<|aA 3
def lQ:ca:=cM 3 7 Ł
def vI(st:za):R D:=(aO jM<|aC (aA 1)<|aC (e2 iJ (eI 21)<|aA 5)<|aC (eI 8) aQ) st
def IX(st:za):R D:=(aA 8) st
def JX(st:za):R D:=(vA (e2 Ad (e2 Ei (e2 Nk (aA 6)<|aA 8)<|eI 1)<|eI 1)<|e2 Ad (e2 Ei (e2 Nk (aO lQ<|aC (aA 2)<|aC (eI 255)<|aC (e2 Ol (eI 1)<|aA 8) aQ)<|aA 5)<|eI 1)<|eI 1) st
def vJ(st:za):R Fl:=(bA (cG 6<|aO lQ<|aC (aA 2)<|aC (eI 255)<|aC (e2 Ol (eI 1)<|aA 5) aQ)<|bA (cG 7<|cJ [8] (gb 8) (yC<|e1 iD<|aA 0) JX IX)<|gj 4<|e2 iJ (e2 iJ (e2 Wa (mK<|aC (eI 0)<|aC (eI 0)<|aC (e2 VF (eI 10)<|eI 29) aQ)<|e2 Wa (aA 3)<|eI 0)<|e2 uC (e2 xZ (e2 Wa (aA 3)<|e2 iJ (eI 1)<|aA 5)<|eI 2)<|eI 2)<|e2 mJ (e2 Wa (aA 3)<|e2 iJ (eI 1)<|e2 Wa (aA 7)<|eI 0)<|eI 2) st
def ł:Bd:=bA (cG 2<|aO uG<|aC (aA 0) aQ)<|bA (cG 3<|aO iU<|aC (e2 xZ (aA 1)<|eI 2)<|aC (e2 iJ (mK<|aC (eI 3) aQ)<|Dy (aC (eI 8) aQ)<|e1 iD<|aA 0) aQ)<|bA (Pd (e2 Ad (e2 mJ (aA 1)<|eI 2)<|eI 0) (cG 3<|e2 iJ (mK<|aC (aO jM<|aC (aA 1)<|aC (eI 3)<|aC (eI 3) aQ) aQ)<|cJ [5] (gb 5) (yC<|e1 iD<|aA 0) cV vI) dF)<|bA (mG 4<|mK aQ)<|bA (lC (gb 5) (yC<|e1 iD<|aA 0) vJ)<|cj [4]<|cT<|aA 4
def uH:ca:=cM 2 9 ł
def aVq:Bd:=cT<|e2 Ad (e2 Ei (e2 Nk (aA 0)<|aA 1)<|eI 1)<|eI 1
def gU:ca:=cM 2 2 aVq
def YX(st:za):R D:=(aA 1) st
def ZX(st:za):R D:=(aO gU<|aC (aA 0)<|aC (aA 1) aQ) st
def aVr:Bd:=cT<|cJ [1] (gb 1) (yC<|e1 HD<|aA 0) ZX YX
def cQ:ca:=cM 1 2 aVr
def wJ(st:za):R D:=(e2 Wa (e1 (cL "Machine" "ranks")<|aA 0)<|aA 5) st
def Ê(st:za):R D:=(aA 4) st
def Ë(st:za):R D:=(e2 Ad (e2 Ad (e2 mJ (aA 4)<|eI 2)<|eI 0)<|aA 2) st
def ß:Bd:=bA (cG 3<|e1 Qx<|cJ [5] (gb 5) (Ec<|aO cQ<|aC (aA 1) aQ) cV wJ)<|cT<|cJ [4] (gb 4) (Ec<|aA 3) Ë Ê
def nJ:ca:=cM 3 6 ß
def sI(st:za):R Fl:=(cG 1<|e2 Qm (aA 1)<|e2 Ol (eI 1)<|aA 2) st
def bBc:Bd:=bA (cG 1<|eI 0)<|bA (lC (gb 2) (Ec<|aA 0) sI)<|cT<|aA 1
def kI:ca:=cM 1 3 bBc
def LX(st:za):R Fl:=(ud 3 (aA 4)<|e2 Ei (e2 Qm (aO kI<|aC (e2 Wa (aA 0)<|aA 4) aQ)<|e2 Ol (eI 1)<|aA 4)<|aA 1) st
def vK(st:za):R Fl:=(Pd (aO gU<|aC (e2 Wa (dB 3)<|aA 4)<|aC (aA 5) aQ) (ud 3 (aA 4)<|e2 Qm (e2 Wa (dB 3)<|aA 4)<|e2 Wa (dB 3)<|aA 5) dF) st
def MX(st:za):R Fl:=(lC (gb 4) (Ec<|aA 2) vK) st
def Ń:Bd:=bA (cG 2<|aO cQ<|aC (aA 1) aQ)<|bA (Ds 3 false)<|bA (lC (gb 4) (Ec<|aA 2) LX)<|bA (lC (gb 5) (Ec<|aA 2) MX)<|cj [3]<|cT<|aA 3
def lR:ca:=cM 2 6 Ń
def ń:Bd:=bA (cG 2<|aO cQ<|aC (aA 1) aQ)<|cT<|xk (e2 VH (e1 iD<|aA 2)<|eI 1)<|e2 br (e2 Wa (aA 2)<|eI 0)<|e2 Wa (aA 0)<|e2 Wa (aA 2)<|eI 0
def uI:ca:=cM 2 3 ń
def à(st:za):R D:=(aA 6) st
def á(st:za):R D:=(aO gU<|aC (e2 Wa (aA 2)<|aA 6)<|aC (aA 4) aQ) st
def tK(st:za):R Fl:=(bA (cG 5<|aO kI<|aC (cJ [6] (gb 6) (Ec<|aO cQ<|aC (e2 Wa (aA 2)<|aA 4) aQ) á à) aQ)<|Pd (vA (e2 tE (aA 5)<|dB 3)<|aO uI<|aC (aA 0)<|aC (aA 5) aQ) (gj 3<|aA 5) dF) st
def ę:Bd:=bA (cG 2<|aO lR<|aC (aA 0)<|aC (aA 1) aQ)<|bA (mG 3<|mK aQ)<|bA (lC (gb 4) (Ec<|aO cQ<|aC (aA 1) aQ) tK)<|cj [3]<|cT<|aA 3
def mU:ca:=cM 2 7 ę
def Ņ:Bd:=cT<|aO mU<|aC (e1 (cL "Machine" "steps")<|aA 0)<|aC (aA 1) aQ
def iK:ca:=cM 2 2 Ņ
def uJ(st:za):R D:=(e2 Wa (e1 (cL "Machine" "ranks")<|aA 0)<|aA 2) st
def KY:Bd:=bA (Pd (e2 Ad (aA 1)<|eI 0) oK dF)<|cT<|e1 Bq<|cJ [2] (gb 2) (Ec<|aO cQ<|aC (aA 1) aQ) cV uJ
def qN:ca:=cM 2 3 KY
def Ñ(st:za):R D:=(aA 5) st
def Ò(st:za):R D:=(e2 Jt (e2 Wa (e1 (cL "Machine" "ranks")<|aA 0)<|aA 5)<|aA 2) st
def yE(st:za):R D:=(aA 4) st
def qO(st:za):R D:=(e2 Ad (aO qN<|aC (aA 0)<|aC (aA 4) aQ)<|aA 2) st
def nM:Bd:=bA (cG 3<|aO kI<|aC (cJ [5] (gb 5) (Ec<|aO cQ<|aC (aA 1) aQ) Ò Ñ) aQ) dF
def õ:Bd:=sE nM<|cJ [4] (gb 4) (Ec<|aO iK<|aC (aA 0)<|aC (aA 3) aQ) qO yE
def pG:ca:=cM 3 6 õ
def wK(st:za):R Fl:=(bp 3<|aO pG<|aC (aA 0)<|aC (aA 1)<|aC (aA 4) aQ) st
def â:Bd:=bA (mG 3<|mK aQ)<|bA (lC (gb 4) (Ec<|aO nJ<|aC (aA 0)<|aC (aA 1)<|aC (aA 2) aQ) wK)<|cj [3]<|cT<|aA 3
def jW:ca:=cM 3 5 â
def ũ:Bd:=cT<|aO kI<|aC (e1 Px<|e1 (cL "Machine" "many")<|aA 0) aQ
def oW:ca:=cM 1 1 ũ
def Ū:Bd:=cT<|e2 Wa (aO lR<|aC (e1 (cL "Machine" "steps")<|aA 0)<|aC (aO oW<|aC (aA 0) aQ) aQ)<|aA 1
def oX:ca:=cM 2 2 Ū
def ã(st:za):R D:=(aA 3) st
def ä(st:za):R D:=(e2 Ph (e2 Wa (e1 (cL "Machine" "ranks")<|aA 0)<|aA 3)<|aA 2) st
def Ě:Bd:=bA (cG 2<|aO qN<|aC (aA 0)<|aC (aA 1) aQ)<|cT<|aO kI<|aC (cJ [3] (gb 3) (Ec<|aO cQ<|aC (aA 1) aQ) ä ã) aQ
def rD:ca:=cM 2 4 Ě
def VZ:Bd:=cT<|e2 Ad (e2 mJ (aO qN<|aC (aA 0)<|aC (aA 1) aQ)<|eI 2)<|eI 0
def uT:ca:=cM 2 2 VZ
def bX(st:za):R Fl:=(Pd (e2 Ad (aO uT<|aC (aA 0)<|aC (aA 5) aQ)<|aO uT<|aC (aA 0)<|aC (aA 1) aQ) (gj 3<|aA 5)<|gj 2<|aA 5) st
def gX(st:za):R Fl:=(bA (vF 4 3 rD<|aA 0)<|lC (gb 5) (Ec<|aO iK<|aC (aA 0)<|aC (aA 4) aQ) bX) st
def iX(st:za):R D:=(e2 Ph (dB 3)<|mK aQ) st
def ě:Bd:=bA (mG 2<|mK aQ)<|bA (mG 3<|mK<|aC (aA 1) aQ)<|bA (Wr 100000 iX gX)<|cj [2]<|cT<|aA 2
def wW:ca:=cM 2 6 ě
def NX(st:za):R Fl:=(bA (cG 3<|aO wW<|aC (aA 0)<|aC (aA 2) aQ)<|Pd (e2 Ph (aA 3)<|mK aQ) oK dF) st
def ņ:Bd:=bA (lC (gb 2) (Ec<|aO jW<|aC (aA 0)<|aC (aO oX<|aC (aA 0)<|aC (eI 0) aQ)<|aC (aA 1) aQ) NX)<|cT<|eC .Sb
def pH:ca:=cM 2 5 ņ
def Ĝ:Bd:=bA (cG 2<|aO pH<|aC (aA 1)<|aC (eC<|.bl false) aQ)<|cT<|Qw (e2 my (aA 2)<|eC .Sb) (aA 2)<|aO pH<|aC (aA 1)<|aC (eC<|.bl true) aQ
def mV:ca:=cM 2 3 Ĝ
def LY(st:za):R Fl:=(cG 1<|e2 Qm (aA 1)<|aA 2) st
def bEg:Bd:=bA (cG 1<|eI 0)<|bA (lC (gb 2) (Ec<|aA 0) LY)<|cT<|aA 1
def yF:ca:=cM 1 3 bEg
def yY(st:za):R D:=(Qw (aO gU<|aC (aA 1)<|aC (aA 4) aQ) (aA 2)<|aA 3) st
def aVs:Bd:=cT<|cJ [4] (gb 4) (yC<|e1 (cL "Machine" "many")<|aA 0) cV yY
def vL:ca:=cM 4 5 aVs
def Ä:Bd:=bA (cG 2<|aO yF<|aC (aO jW<|aC (aA 1)<|aC (aO oX<|aC (aA 1)<|aC (eI 0) aQ)<|aC (eC<|.bl true) aQ) aQ)<|cT<|aO vL<|aC (aA 1)<|aC (aA 2)<|aC (eI 0)<|aC (eI 1) aQ
def iZ:ca:=cM 2 3 Ä
def yG:Bd:=cT<|vA (eB Fq<|aA 0)<|vA (e2 Ow (e1 iD<|aA 0)<|eI 1)<|e2 Jt (e1 iD<|aA 0)<|aA 1
def fL:ca:=cM 2 2 yG
def JK:Bd:=cT<|vA (eB isIn<|aA 0)<|tH<|eB Sy<|aA 0
def lD:ca:=cM 1 1 JK
def LK:Bd:=cT<|vA (aO lD<|aC (aA 0) aQ)<|vA (e2 Ow (aA 0)<|eI 0)<|e2 qo (aA 0)<|aA 1
def lE:ca:=cM 2 2 LK
def MY(st:za):R D:=(aO lE<|aC (aA 3)<|aC (aA 2) aQ) st
def bEh:Bd:=cT<|vA (e2 Ad (e1 iD<|aA 0)<|aA 1)<|e1 Gq<|cJ [3] (gb 3) (Ec<|aA 0) cV MY
def YC:ca:=cM 3 4 bEh
def RX(st:za):R D:=(aO fL<|aC (aA 1)<|aC (eI 3) aQ) st
def SX(st:za):R D:=(aO YC<|aC (aA 1)<|aC (e1 iD<|e2 Wa (aA 0)<|eI 0)<|aC (e1 iD<|aA 0) aQ) st
def ū:Bd:=bA (Pd (tH<|aO fL<|aC (aA 0)<|aC (eI 8) aQ) (cT<|eC<|.bl false) dF)<|bA (Pd (tH<|e1 Gq<|cJ [1] (gb 1) (Ec<|aA 0) cV RX) (cT<|eC<|.bl false) dF)<|cT<|e1 Gq<|cJ [1] (gb 1) (Ec<|aA 0) cV SX
def wL:ca:=cM 1 2 ū
def wX(st:za):R D:=(vA (aO lD<|aC (aA 2) aQ)<|e2 Ow (aA 2)<|eI 0) st
def Ŭ:Bd:=bA (Pd (xk (tH<|eB Fq<|aA 0)<|e2 Ph (e1 iD<|aA 0)<|aA 1) (cT<|eC<|.bl false) dF)<|cT<|e1 Gq<|cJ [2] (gb 2) (Ec<|aA 0) cV wX
def wM:ca:=cM 2 3 Ŭ
def sJ(st:za):R D:=(e1 fF<|aA 3) st
def jP:Bd:=bA (Pd (tH<|aO wL<|aC (aA 1) aQ) oK dF)<|bA (Pd (tH<|aO wM<|aC (aA 2)<|aC (e1 iD<|aA 1) aQ) oK dF)<|bA (Ml 0 "Machine" "steps"<|cJ [3] (gb 3) (Ec<|aA 1) cV sJ)<|bA (Ml 0 "Machine" "ranks"<|e1 fF<|aA 2)<|bA (Ml 0 "Machine" "many"<|e1 iD<|aA 1)<|Ml 0 "Machine" "letters"<|e1 iD<|e2 Wa (aA 1)<|eI 0
def eQ:ca:=jo "Machine" 2 4 jP
def ĝ:Bd:=bA (Pd (e2 my (oU "Settled" "bar" mV [] (aA 0)<|aC (aA 1) aQ)<|eC .Sb) oK dF)<|cT<|aO eQ<|aC (e1 (cL "Machine" "steps")<|aA 1)<|aC (oU "Settled" "ranks_for" iZ [] (aA 0)<|aC (aA 1) aQ) aQ
def rE:ca:=cM 2 2 ĝ
def ö:Bd:=bA (cG 1<|b9 "Settled")<|bA (cG 2<|oU "Settled" "bar" mV [] (aA 1)<|aC (aA 0) aQ)<|bA (Pd (e2 my (aA 2)<|eC .Sb) oK dF)<|cT<|oU "Settled" "marked" rE [] (aA 1)<|aC (aA 0) aQ
def pI:ca:=cM 1 3 ö
def kJ(st:za):R Fl:=(Pd (vA (e2 br (aA 8)<|aA 2)<|e2 tE (aA 8)<|dB 3) (bA (ud 3 (aA 8)<|e2 iJ (e2 Wa (dB 3)<|aA 6)<|aA 7)<|gj 4<|aA 8) dF) st
def wY(st:za):R Fl:=(bA (cG 6<|e2 Wa (dB 4)<|aA 5)<|bA (lC (nh [7,8]) (iF (eC<|.str [97,98,99])<|e2 Wa (aA 0)<|aA 6) kJ)<|cG 5<|e2 iJ (aA 5)<|eI 1) st
def mW(st:za):R D:=(e2 qo (aA 5)<|e1 iD<|dB 4) st
def ŭ:Bd:=bA (Ls (nE 3 (aA 1)<|eC<|.str [])<|EO 3 (aA 1)<|eC<|.str [])<|bA (mG 4<|mK<|aC (aA 1) aQ)<|bA (cG 5<|eI 0)<|bA (Wr 100000 mW wY)<|cj [3]<|cT<|aA 3
def lF:ca:=cM 3 9 ŭ
def lU:Bd:=bA (cG 1<|aO lF<|aC (e1 (cL "Machine" "steps")<|aA 0)<|aC (eI 0)<|aC (e1 Px<|e1 (cL "Machine" "many")<|aA 0) aQ) dF
def å:Bd:=sE lU<|e1 mE<|aA 1
def nO:ca:=cM 1 2 å
def Ů:Bd:=cT<|e2 (kG "JUST_ONE" [false,true,true,false]) (aA 0)<|e2 iJ (e2 uC (e2 mJ (aA 1)<|eI 2)<|eI 2)<|e2 mJ (aA 2)<|eI 2
def oY:ca:=cM 3 3 Ů
def qP(st:za):R D:=(yi<|aC (aA 3)<|aC (aA 4) aQ) st
def yH(st:za):R D:=(aO oY<|aC (aA 1)<|aC (aA 3)<|aC (aA 4) aQ) st
def yI(st:za):R Fl:=(bp 2<|cJ [4] (gb 4) (Ec<|e1 Qx<|e1 (cL "Sides" "rights")<|aA 0) yH qP) st
def ø:Bd:=bA (mG 2<|mK aQ)<|bA (lC (gb 3) (Ec<|e1 Qx<|e1 (cL "Sides" "lefts")<|aA 0) yI)<|cj [2]<|cT<|aA 2
def pJ:ca:=cM 2 5 ø
def kX(st:za):R D:=(aA 4) st
def tL(st:za):R D:=(vA (e2 Jt (e2 Wa (aA 5)<|eI 0)<|aA 1)<|e2 Jt (e2 Wa (aA 5)<|eI 1)<|aA 2) st
def Ğ:Bd:=bA (cG 3<|e2 sF (e1 (cL "Sides" "lefts")<|aA 0)<|e1 (cL "Sides" "rights")<|aA 0)<|cT<|aO kI<|aC (cJ [4,5] (nh [4,5]) (DQ<|aA 3) tL kX) aQ
def rF:ca:=cM 3 6 Ğ
def Æ(st:za):R D:=(e2 Wa (e1 (cL "Sides" "rights")<|aA 0)<|aA 3) st
def Ç(st:za):R D:=(e2 Wa (e1 (cL "Sides" "lefts")<|aA 0)<|aA 3) st
def Ó:Bd:=bA (cG 2<|aO cQ<|aC (aA 1) aQ)<|cT<|yi<|aC (e1 Bq<|cJ [3] (gb 3) (Ec<|aA 2) cV Ç)<|aC (e1 Bq<|cJ [3] (gb 3) (Ec<|aA 2) cV Æ) aQ
def lV:ca:=cM 2 4 Ó
def yJ(st:za):R D:=(aA 6) st
def yK(st:za):R D:=(e2 Ad (aO lV<|aC (aA 0)<|aC (aA 6) aQ)<|yi<|aC (aA 3)<|aC (aA 4) aQ) st
def yL(st:za):R Fl:=(bA (cG 5<|aO mU<|aC (e1 (cL "Sides" "steps")<|aA 0)<|aC (aO rF<|aC (aA 0)<|aC (aA 3)<|aC (aA 4) aQ) aQ)<|bp 2<|cJ [6] (gb 6) (Ec<|aA 5) yK yJ) st
def ù:Bd:=bA (mG 2<|mK aQ)<|bA (lC (nh [3,4]) (Ec<|aO pJ<|aC (aA 0)<|aC (aA 1) aQ) yL)<|cj [2]<|cT<|aA 2
def lG:ca:=cM 2 7 ù
def nX:Bd:=Pd (e2 Ph (e1 (cL "Machine" "letters")<|aA 0)<|e1 (cL "Machine" "letters")<|aA 1) oK dF
def jX:ca:=cM 2 2 nX
def qQ(st:za):R Fl:=(ud 2 (yi<|aC (aA 3)<|aC (aA 4) aQ)<|e2 sF (e2 Wa (e1 (cL "Machine" "steps")<|aA 0)<|aA 3)<|e2 Wa (e1 (cL "Machine" "steps")<|aA 1)<|aA 4) st
def yM(st:za):R Fl:=(lC (gb 4) (yC<|e1 (cL "Machine" "many")<|aA 1) qQ) st
def ú:Bd:=bA (Ds 2 true)<|bA (lC (gb 3) (yC<|e1 (cL "Machine" "many")<|aA 0) yM)<|cj [2]<|cT<|aA 2
def pK:ca:=cM 2 5 ú
def sO:Bd:=Pd (tH<|aO lE<|aC (aA 1)<|aC (e1 (cL "Machine" "many")<|aA 0) aQ) oK dF
def cC:ca:=cM 2 2 sO
def È(st:za):R D:=(e2 Wa (aA 6)<|aA 7) st
def vM(st:za):R D:=(Ni LP (e1 (cL "Sides" "pairs")<|dB 0)<|aC (aA 8) aQ) st
def vN(st:za):R D:=(cJ [8] (gb 8) (Ec<|e2 Wa (aA 5)<|aA 7) cV vM) st
def vO(st:za):R D:=(e2 Wa (e1 (cL "Machine" "ranks")<|aA 1)<|e2 Wa (aA 7)<|eI 0) st
def vP(st:za):R D:=(e2 Wa (e1 (cL "Machine" "ranks")<|aA 2)<|e2 Wa (aA 7)<|eI 1) st
def lX:Bd:=bA (aw<|aO jX<|aC (aA 1)<|aC (aA 2) aQ)<|bA (aw<|oU "Machine" "check_room" cC [] (aA 1)<|aC (aA 3) aQ)<|bA (aw<|oU "Machine" "check_room" cC [] (aA 2)<|aC (aA 4) aQ)<|bA (cG 5<|aO pK<|aC (aA 1)<|aC (aA 2) aQ)<|bA (cG 6<|aO lF<|aC (aA 5)<|aC (yi<|aC (aA 3)<|aC (aA 4) aQ)<|aC (e1 uv<|aA 5) aQ)<|bA (Ml 0 "Sides" "pairs"<|e1 Ey<|aA 6)<|bA (Ml 0 "Sides" "fronts"<|cJ [7] (gb 7) (Ec<|e1 (cL "Sides" "pairs")<|dB 0) cV È)<|bA (Ml 0 "Sides" "steps"<|cJ [7] (gb 7) (Ec<|e1 (cL "Sides" "pairs")<|dB 0) cV vN)<|bA (Ml 0 "Sides" "lefts"<|cJ [7] (gb 7) (Ec<|e1 (cL "Sides" "pairs")<|dB 0) cV vO)<|Ml 0 "Sides" "rights"<|cJ [7] (gb 7) (Ec<|e1 (cL "Sides" "pairs")<|dB 0) cV vP
def jB:ca:=jo "Sides" 4 9 lX
def aVt:Bd:=cT<|e2 Ad (aO lG<|aC (aO jB<|aC (aA 0)<|aC (aA 1)<|aC (aA 2)<|aC (aA 3) aQ)<|aC (eC<|.fn "JUST_ONE") aQ)<|mK aQ
def iV:ca:=cM 4 4 aVt
def tM(st:za):R Fl:=(Pd (aO iV<|aC (aA 0)<|aC (aA 0)<|aC (aA 4)<|aC (aA 2) aQ) (cT<|aA 3) dF) st
def ğ:Bd:=bA (lC (nh [3,4]) (DQ<|aA 1) tM)<|cT<|e1 iD<|aA 1
def mX:ca:=cM 3 5 ğ
def tQ(st:za):R Fl:=(bA (ud 2 (aA 3)<|G' [1]<|aO mX<|aC (aA 0)<|aC (aA 1)<|aC (aA 3) aQ)<|Pd (e2 Ad (e2 Wa (dB 2)<|aA 3)<|e1 iD<|dB 1) (gj 1<|aA 3) dF) st
def Ġ:Bd:=bA (mG 1<|mK aQ)<|bA (Ds 2 false)<|bA (lC (nh [3,4]) (Ec<|aO nO<|aC (aA 0) aQ) tQ)<|cj [2]<|cT<|aA 2
def wZ:ca:=cM 1 5 Ġ
def pL(st:za):R Fl:=(d9 1 (aA 3)<|aA 2) st
def aVu:Bd:=bA (Ds 1 false)<|bA (MP 0 (nh [2,3]) pL)<|cj [1]<|cT<|e1 qy<|aA 1
def zP:ca:=cM 1 4 aVu
def WZ:Bd:=cT<|e2 Ad (aO iK<|aC (aA 0)<|aC (aA 1) aQ)<|mK<|aC (aA 1) aQ
def yN:ca:=cM 2 2 WZ
def bEi:Bd:=bA (Pd (tH<|aO gU<|aC (aA 1)<|aC (aA 2) aQ) (cT<|eC .Sb) dF)<|cT<|EQ (aO lF<|aC (e1 (cL "Machine" "steps")<|aA 0)<|aC (aA 2)<|aC (aO cQ<|aC (aA 1) aQ) aQ) (aA 3)<|eC .Sb
def Gx:ca:=cM 4 4 bEi
def jC(st:za):R Fl:=(bA (cG 1<|e2 Wa (e2 Wa (e1 (cL "Machine" "steps")<|aA 0)<|aA 1)<|Ni ZE (eC<|.str [97,98,99])<|aC (aA 4) aQ)<|gj 3<|aA 1) st
def gD:Bd:=bA (mG 3<|mK<|aC (aA 1) aQ)<|bA (lC (gb 4) (Ec<|aA 2) jC) dF
def ϻ:Bd:=Uo gD 3
def cH:ca:=cM 3 5 ϻ
def AY(st:za):R Fl:=(Pd (e2 tE (aA 5)<|oU "Machine" "rooms_along" cH [] (aA 0)<|aC (aA 2)<|aC (aA 3) aQ) (bA (cG 3<|e2 iJ (aA 3)<|aO Gx<|aC (aA 0)<|aC (aA 1)<|aC (aA 4)<|aC (aA 5) aQ)<|cG 4<|aA 5) dF) st
def aVv:Bd:=bA (Pd (tH<|aO yN<|aC (aA 0)<|aC (aA 1) aQ) oK dF)<|bA (Pd (tH<|aO gU<|aC (aA 1)<|aC (aA 2) aQ) oK dF)<|bA (Pd (e2 Ad (aO cQ<|aC (aA 1) aQ)<|mK<|aC (aA 2) aQ) (cT<|e2 Wa (eC<|.str [97,98,99])<|Ni kF (e2 Wa (e1 (cL "Machine" "steps")<|aA 0)<|aA 2)<|aC (aA 2) aQ) dF)<|bA (cG 3<|eC<|.str [])<|bA (cG 4<|aA 2)<|bA (lC (gb 5) (Ec<|aO cQ<|aC (aA 1) aQ) AY)<|cT<|e2 iJ (aA 3)<|aO Gx<|aC (aA 0)<|aC (aA 1)<|aC (aA 4)<|aC (aA 2) aQ
def jQ:ca:=cM 3 6 aVv
def XZ:Bd:=cT<|vA (eB YF<|aA 0)<|e2 Ad (Ni iE (aA 0)<|aC (ir (eC<|.str [97,98,99]) Iv<|Aq<|aA 1) aQ)<|eC<|.str []
def oZ:ca:=cM 2 2 XZ
def BY:Bd:=bA (Pd (xk (tH<|eB Uy<|aA 0)<|e2 Ph (e1 iD<|aA 0)<|eI 2) (cT<|eC<|.bl false) dF)<|cT<|vA (aO oZ<|aC (e2 Wa (aA 0)<|eI 0)<|aC (aA 1) aQ)<|vA (aO oZ<|aC (e2 Wa (aA 0)<|eI 1)<|aC (aA 1) aQ)<|e2 Ph (e2 Wa (aA 0)<|eI 1)<|eC<|.str []
def lY:ca:=cM 2 2 BY
def qR(st:za):R Fl:=(bA (ud 4 (e2 Wa (dB 3)<|e1 ap<|eI 1)<|e2 Yv (e1 iD<|dB 3)<|eI 1)<|bp 3<|ir (oU "Machine" "rooms_along" cH [] (aA 0)<|aC (e2 Wa (dB 3)<|e1 ap<|eI 1)<|aC (e2 Wa (aA 1)<|eI 1) aQ) (Aq<|eI 1) Iv) st
def qT(st:za):R D:=(e2 tE (e2 Wa (dB 3)<|e1 ap<|eI 1)<|dB 4) st
def û:Bd:=bA (aw<|oU "Machine" "check_room" cC [] (aA 0)<|aC (aA 2) aQ)<|bA (Pd (tH<|aO lY<|aC (aA 1)<|aC (e1 (cL "Machine" "letters")<|aA 0) aQ) oK dF)<|bA (mG 3<|oU "Machine" "rooms_along" cH [] (aA 0)<|aC (aA 2)<|aC (e2 Wa (aA 1)<|eI 0) aQ)<|bA (Ds 4 false)<|bA (Wr 100000 qT qR)<|bA (cG 5<|e2 Wa (dB 4)<|e2 Wa (dB 3)<|e1 ap<|eI 1)<|cT<|yi<|aC (ir (dB 3) Iv<|Aq<|aA 5)<|aC (ir (dB 3) (Aq<|aA 5)<|Aq<|e1 ap<|eI 1) aQ
def lH:ca:=cM 3 6 û
def qU(st:za):R D:=(e2 Wa (e1 (cL "Machine" "ranks")<|aA 0)<|aA 4) st
def ü:Bd:=bA (cG 3<|e2 Wa (oU "Machine" "walk" lH [] (aA 0)<|aC (aA 1)<|aC (aA 2) aQ)<|eI 1)<|cT<|e2 Ad (e2 mJ (e1 Bq<|cJ [4] (gb 4) (Ec<|aA 3) cV qU)<|eI 2)<|eI 0
def dN:ca:=cM 3 5 ü
def OX(st:za):R Fl:=(bA (cG 5<|e2 Wa (aO cQ<|aC (aA 4) aQ)<|eI 0)<|Pd (oU "Machine" "lets" dN [] (aA 0)<|aC (yi<|aC (eC<|.str [])<|aC (aO jQ<|aC (aA 2)<|aC (aA 4)<|aC (aA 5) aQ) aQ)<|aC (e2 Wa (aA 1)<|aA 5) aQ) (gj 3<|aA 4) dF) st
def Ň:Bd:=bA (mG 3<|mK aQ)<|bA (lC (gb 4) (Ec<|aO iK<|aC (aA 2)<|aC (aO oW<|aC (aA 2) aQ) aQ) OX)<|cj [3]<|cT<|aA 3
def uK:ca:=cM 3 6 Ň
def wN(st:za):R D:=(e2 Wa (aA 2)<|aA 7) st
def Ì(st:za):R D:=(cJ [7] (gb 7) (Ec<|e2 Wa (e1 (cL "Machine" "steps")<|aA 1)<|aA 6) cV wN) st
def æ:Bd:=bA (cG 1<|aO pI<|aC (aA 0) aQ)<|bA (cG 2<|aO wZ<|aC (aA 1) aQ)<|bA (cG 3<|aO zP<|aC (aA 2) aQ)<|bA (cG 4<|cJ [6] (gb 6) (Ec<|aA 3) cV Ì)<|bA (cG 5<|aO eQ<|aC (aA 4)<|aC (Dy (aC (eI 1) aQ)<|e1 iD<|aA 3) aQ)<|cT<|aO eQ<|aC (aA 4)<|aC (aO vL<|aC (aA 5)<|aC (aO yF<|aC (aO uK<|aC (aA 1)<|aC (aA 3)<|aC (aA 5) aQ) aQ)<|aC (eI 0)<|aC (eI 1) aQ) aQ
def iI:ca:=cM 1 8 æ
def fY(st:za):R Fl:=(bA (cG 9<|yi<|aC (aA 8)<|aC (e2 zq (e2 Wa (aA 6)<|eI 1)<|e2 Wa (e1 (cL "Sides" "lefts")<|aA 0)<|aA 8)<|aC (e2 zq (e2 Wa (aA 6)<|eI 2)<|e2 Wa (e1 (cL "Sides" "rights")<|aA 0)<|aA 8) aQ)<|bA (Pd (vA (e2 Ad (aA 8)<|aA 2)<|aO oY<|aC (aA 1)<|aC (e2 Wa (aA 9)<|eI 1)<|aC (e2 Wa (aA 9)<|eI 2) aQ) (cT<|e2 iJ (e2 Wa (dB 3)<|aA 6)<|aA 7) dF)<|Pd (e2 tE (aA 9)<|dB 3) (bA (ud 3 (aA 9)<|e2 iJ (e2 Wa (dB 3)<|aA 6)<|aA 7)<|gj 4<|aA 9) dF) st
def nP(st:za):R Fl:=(bA (cG 6<|e2 Wa (dB 4)<|aA 5)<|bA (lC (nh [7,8]) (iF (eC<|.str [97,98,99])<|e2 Wa (e1 (cL "Sides" "steps")<|aA 0)<|e2 Wa (aA 6)<|eI 0) fY)<|cG 5<|e2 iJ (aA 5)<|eI 1) st
def nQ(st:za):R D:=(e2 qo (aA 5)<|e1 iD<|dB 4) st
def ġ:Bd:=bA (nE 3 (yi<|aC (aA 2)<|aC (e1 ap<|eI 1)<|aC (e1 ap<|eI 1) aQ)<|eC<|.str [])<|bA (mG 4<|e1 uv<|dB 3)<|bA (cG 5<|eI 0)<|bA (Wr 100000 nQ nP)<|cT<|eC .Sb
def rG:ca:=cM 3 10 ġ
def Ô:Bd:=cT<|yi<|aC (e2 iJ (e1 iD<|e2 Wa (aA 0)<|eI 0)<|e1 iD<|e2 Wa (aA 0)<|eI 1)<|aC (e1 iD<|e2 Wa (aA 0)<|eI 0)<|aC (e2 Wa (aA 0)<|eI 0)<|aC (e2 Wa (aA 0)<|eI 1) aQ
def cY:ca:=cM 1 1 Ô
def rX(st:za):R D:=(yi<|aC (e2 Wa (e1 (cL "Sides" "fronts")<|aA 5)<|aA 8)<|aC (aO rG<|aC (aA 5)<|aC (aA 2)<|aC (aA 8) aQ) aQ) st
def Ģ:Bd:=bA (cG 5<|aO jB<|aC (aA 0)<|aC (aA 1)<|aC (aA 3)<|aC (aA 4) aQ)<|bA (cG 6<|aO cQ<|aC (aO yF<|aC (aO lG<|aC (aA 5)<|aC (aA 2) aQ) aQ) aQ)<|bA (cG 7<|cJ [8] (gb 8) (Ec<|aA 6) cV rX)<|cT<|e1 (Hq cY)<|aA 7
def mY:ca:=cM 5 9 Ģ
def ý:Bd:=cT<|aO mY<|aC (aA 0)<|aC (aA 1)<|aC (eC<|.fn "JUST_ONE")<|aC (aA 2)<|aC (aA 3) aQ
def dG:ca:=cM 4 4 ý
def yO(st:za):R Fl:=(gj 2<|yi<|aC (aA 3)<|aC (aA 4)<|aC (aO dG<|aC (aA 1)<|aC (aA 1)<|aC (aA 3)<|aC (aA 4) aQ) aQ) st
def yP(st:za):R Fl:=(lC (gb 4) (Vy (e2 iJ (aA 3)<|eI 1)<|e1 (cL "Machine" "many")<|aA 1) yO) st
def nR:Bd:=bA (cG 1<|aO iI<|aC (aA 0) aQ)<|bA (mG 2<|mK aQ)<|bA (lC (gb 3) (yC<|e1 (cL "Machine" "many")<|aA 1) yP) dF
def þ:Bd:=sE nR<|CG 2
def jD:ca:=cM 1 5 þ
def yQ(st:za):R D:=(aA 3) st
def yR(st:za):R D:=(e2 br (aA 3)<|ir (eC<|.str [97,98,99]) Iv<|Aq<|aA 1) st
def yS(st:za):R Fl:=(Pd (xk (tH<|eB YF<|aA 2)<|e2 Ph (e1 iD<|cJ [3] (gb 3) (Ec<|aA 2) yR yQ)<|e1 iD<|aA 2) (cT<|eC<|.bl false) dF) st
def ÿ:Bd:=bA (Pd (xk (tH<|eB Uy<|aA 0)<|e2 Ph (e1 iD<|aA 0)<|eI 2) (cT<|eC<|.bl false) dF)<|bA (lC (gb 2) (Ec<|aA 0) yS)<|cT<|e2 Ph (e2 Wa (aA 0)<|eI 1)<|eC<|.str []
def pM:ca:=cM 2 4 ÿ
def PX(st:za):R Fl:=(cG 1<|e2 Wa (e2 Wa (aA 0)<|aA 1)<|Ni ly (eC<|.str [97,98,99])<|aC (aA 3) aQ) st
def ň:Bd:=bA (lC (gb 3) (Ec<|aA 2) PX)<|cT<|aA 1
def iM:ca:=cM 3 4 ň
def TX(st:za):R Fl:=(bA (cG 2<|e2 Wa (e2 Wa (e1 (cL "Machine" "steps")<|aA 0)<|aA 2)<|Ni ly (eC<|.str [97,98,99])<|aC (aA 4) aQ)<|cG 3<|e2 zq (aA 3)<|e2 Wa (e1 (cL "Machine" "ranks")<|aA 0)<|aA 2) st
def ů:Bd:=bA (cG 2<|aO iM<|aC (e1 (cL "Machine" "steps")<|aA 0)<|aC (aA 2)<|aC (e2 iJ (e2 Wa (aA 1)<|eI 0)<|e2 Zv (e2 Wa (aA 1)<|eI 1)<|e1 (cL "Machine" "many")<|aA 0) aQ)<|bA (cG 3<|eI 0)<|bA (lC (gb 4) (Ec<|e2 Zv (e2 Wa (aA 1)<|eI 1)<|e1 (cL "Machine" "many")<|aA 0) TX)<|cT<|e2 Ad (e2 mJ (aA 3)<|eI 2)<|eI 0
def sU:ca:=cM 3 5 ů
def ŉ:Bd:=bA (Pd (xk (tH<|aO pM<|aC (aA 3)<|aC (e1 (cL "Machine" "letters")<|aA 0) aQ)<|e2 Ad (aO sU<|aC (aA 0)<|aC (aA 3)<|aC (aA 1) aQ)<|aO sU<|aC (aA 0)<|aC (aA 3)<|aC (aA 2) aQ) (cT<|eC<|.bl false) dF)<|bA (cG 4<|aO iM<|aC (e1 (cL "Machine" "steps")<|aA 0)<|aC (aA 1)<|aC (e2 Wa (aA 3)<|eI 0) aQ)<|bA (cG 5<|aO iM<|aC (e1 (cL "Machine" "steps")<|aA 0)<|aC (aA 2)<|aC (e2 Wa (aA 3)<|eI 0) aQ)<|cT<|vA (e2 Ad (aO iM<|aC (e1 (cL "Machine" "steps")<|aA 0)<|aC (aA 4)<|aC (e2 Wa (aA 3)<|eI 1) aQ)<|aA 4)<|e2 Ad (aO iM<|aC (e1 (cL "Machine" "steps")<|aA 0)<|aC (aA 5)<|aC (e2 Wa (aA 3)<|eI 1) aQ)<|aA 5
def uL:ca:=cM 4 6 ŉ
def bJb(st:za):R D:=(yi<|aC (aA 6)<|aC (aA 9) aQ) st
def Y4(st:za):R Fl:=(bp 5<|cJ [9] (gb 9) (Vy (e2 iJ (aA 6)<|eI 1)<|e1 (cL "Machine" "many")<|aA 3) cV bJb) st
def ZM(st:za):R D:=(V9 (aA 7) 2) st
def Uu:VB:=Iq (Mr 4 (xk (tH<|eB Uy<|aA 7)<|xk (e2 Ph (e1 iD<|aA 7)<|eI 3)<|tH<|aO uL<|aC (aA 3)<|aC (e2 Wa (aA 7)<|eI 0)<|aC (e2 Wa (aA 7)<|eI 1)<|aC (e2 Wa (aA 7)<|eI 2) aQ) (Lv 4<|eC<|.bl false) Kv)<|Mr 4 (e2 Ph (e2 Wa (aA 7)<|eI 2)<|aO dG<|aC (aA 3)<|aC (aA 3)<|aC (e2 Wa (aA 7)<|eI 0)<|aC (e2 Wa (aA 7)<|eI 1) aQ) (Lv 4<|eC<|.bl false) Kv
def bSo:Bd:=bA (cG 1<|aO uF<|aC (aA 0)<|aC (eI 0)<|aC (eI 5) aQ)<|bA (cG 2<|aO eQ<|aC (aA 1)<|aC (aO uH<|aC (aA 1)<|aC (aO oV<|aC (aA 0)<|aC (eI 6) aQ) aQ) aQ)<|bA (cG 3<|aO iI<|aC (aA 2) aQ)<|bA (mG 4<|aO jD<|aC (aA 2) aQ)<|bA (mG 5<|mK aQ)<|bA (lC (gb 6) (yC<|e1 (cL "Machine" "many")<|aA 3) Y4)<|YM 4<|Iq (Mr 4 (xk (tH<|eB Fq<|aA 4)<|e2 Ph (cJ [7] (gb 7) (Ec<|aA 4) cV ZM)<|dB 5) (Lv 4<|eC<|.bl false) Kv)<|Iq (AG 7 Uu)<|Iq (f9 8)<|AF<|cT<|e2 Ad (aO jD<|aC (aA 2) aQ)<|aA 8
def Nv:ca:=cM 1 10 bSo
end
instance:Coe D Sl:=⟨.v⟩
instance:Coe Int D:=⟨.int⟩
instance:Coe Nat D:=⟨λn=>.int n⟩
@[simp] theorem bEj(x:dL):Gq (.lst x)=(Gw x).bind λl=>.ok (.bl<|l.all id):=rfl
@[simp] theorem bR6(x:dL):fF (.lst x)=.ok (.lst x):=rfl
theorem bEk{x:dL}{l:u8}(h:x=l.map D.bl)(a:∀b∈l,b=true):Gq (.lst x)=.ok (.bl true):=by
 subst h;rw[bEj,U4];simp_all
def Mc(m:Int)(x:ac):Prop:=∀c∈x,97<=c/\(c:Int)<97+m
theorem aH{a b:Bd}{st:za}{r:R Fl}(h:a st=.ok (.nx st'))(c:b st'=r):bA a b st=r:=by
 simp_all
def fH{a b:Bd}{st:za}{r:R Fl}(h:a st=.ok (.nx st))(c:b st=r):bA a b st=r:=aH h c
theorem pq{a b:Bd}{st:za} (h:a st=.ok (.rt d)):bA a b st=.ok (.rt d):=by
 simp_all
def bL{b:Bd} {d:D} (h:ds.length=np) (a:b (ds.map (λd=>some<|.v d)++List.replicate (n-np) none)=.ok (.rt d)):cM np n b ds=.ok d:=by
 rw[bJ6 h,a];rfl
def ZJ(n:Nat):oJ 0 n=(List.range n).map λ(k:Nat)=>D.int (k:Int):=by
 refine Xs λk _=>?_
 rw[Int.zero_add]
theorem yU{tg:Tg}{c f:Ex}{st:za}(g:D->D):∀(ds:dL),(∀d∈ds,∃s1,tg d st=.ok s1/\c s1=.ok (.bl true)/\f s1=.ok (g d))->jL tg c f st ds=.ok (ds.map g)
 |[],_=>rfl
 |d::ds,h=>by
  obtain⟨s1,e1,e2,b⟩:=h d qb;rw[jO,e1];simp[e2,b,yU g ds λd a=>h d<|mem_cons_of_mem _ a]
theorem bB{st:za} (h:f st=.ok d):cG i f st=.ok (.nx<|st.set i d):=by simp_all
def iC{st:za} (h:f st=.ok (.lst xs)):mG i f st=.ok (.nx<|st.set i<|some<|.o .l xs):=by rw[bE4,h,bT]
theorem aK{r:De}{st:za} {x:R D} (h:r st=.ok ds) (a:p ds=x):aO p r st=x:=by simp_all
theorem aG{a:Rf} {st:za} {x y:D} {z:R D} (c:f st=.ok x) (b:g st=.ok y) (h:a x y=z):e2 a f g st=z:=by simp_all
theorem yV{c:Ex}{a b:Bd}{st:za}{r:R Fl}(h:c st=.ok (.bl true))(d:a st=r):Pd c a b st=r:=by simp_all
theorem mZ{c:Ex}{a b:Bd}{st:za}{r:R Fl}(h:c st=.ok (.bl false))(d:b st=r):Pd c a b st=r:=by simp_all
def rq{st:za}{p q:Bool}(b:f st=.ok (.bl p))(a:p=true->g st=.ok (.bl q)):vA f g st=.ok (.bl<|p&&q):=by
 rw[T4,b];cases p with
 |true=>rw[a rfl];rfl
 |false=>rfl
def Fs{st:za}{p q:Bool}(b:f st=.ok (.bl p))(a:p=false->g st=.ok (.bl q)):xk f g st=.ok (.bl<|p||q):=by
 rw[bOe,b];cases p with
 |true=>rfl
 |false=>rw[a rfl];rfl
theorem xF{st:za}{p:Bool}(a:f st=.ok (.bl p)):tH f st=.ok (.bl<|!p):=by simp_all
theorem cD{st:za} (h:f st=.ok d):cT f st=.ok (.rt d):=by simp_all
theorem dU{tg:Tg} {st:za} {r:R Fl} (h:it st=.ok xs) (a:pb tg L xs st=r):lC tg it L st=r:=by simp_all
theorem aN{r:De}{st:za}{d:D} (h:f st=.ok d) (a:r st=.ok ds):aC f r st=.ok (d::ds):=by simp_all
def fU{r:De}{st:za} (h:r st=.ok ds) (a:ds.length<=1000:=by exact vo rfl):mK r st=.ok (.lst ds):=by rw[bIy,h,bT,aF<|cO<|Xd a<|by decide]
def pN{i j:Int}(h:0<j):mJ (.int i) (.int j)=.ok (.int<|i%j):=aF h
def zQ{i j:Int}(h:0<j/\j<1073741824):xZ (.int i) (.int j)=.ok (.int<|i/j):=aF h
def oM(i j:Int):Ad (.int i) (.int j)=.ok (.bl<|decide (i=j)):=by
 exact aF ⟨Ef 64,rfl,rfl⟩
def vv(i j:Int):Ph (.int i) (.int j)=.ok (.bl<|!decide (i=j)):=by
 exact aF ⟨Ef 64,rfl,rfl⟩
def tR{st:za} (h:f st=.ok d) (hs:st[i]?=some (some<|.o .l xs)) (a:xs.length<1000000):gj i f st=.ok (.nx<|st.set i<|some<|.o .l<|xs++[d]):=by
 rw[bJ1,h,hs];exact aF<|Vr<|Yq a<|by decide
theorem yW{st:za} (h:f st=.ok (.int n)) (a:n<=1000000):yC f st=.ok ((List.range n).map λ(k:Nat)=>D.int (k:Int)):=by
 rw[bIz,h,<-ZJ];exact aF ⟨Nx (by lia),Tu<|by lia⟩
def gF{E C:Ex}{is:ac}{tg:Tg} {st:za} {ys:dL} (h:it st=.ok xs) (a:xs.length<=1000000) (b:jL tg C E (nj is st) xs=.ok ys):cJ is tg it C E st=.ok (.lst ys):=by
 rw[PL,h,bT,aF<|cO<|Xd a<|by decide,b,bT]
def pO{c:Ex}{b:Bd}{st:za} {r:R Fl} (a:c st=.ok (.bl true)) (d:b st=.ok (.nx st')) (e:jA c b n st'=r):jA c b (n+1) st=r:=by
 rwa [YJ,a,d]
def pA{c:Ex}{b:Bd}{st:za} (a:c st=.ok (.bl false)):jA c b (n+1) st=.ok (.nx st):=by rw[YJ,a,bT,oy,Pa Wl]
def dO{tg:Tg} {d:D}{st:za} {r:R Fl} (a:tg d st=.ok s1) (b:L s1=.ok (.nx s2)) (c:pb tg L ds s2=r):pb tg L (d::ds) st=r:=by
 rwa [kL,a,bT,b]
theorem dR{i:Int} (h:yd xs i=some d):Wa (.lst xs) (.int i)=.ok d:=by
 simp_all
theorem bw{p q:Nat}(h:p<q):decide ((p:Int)<(q:Int))=true:=Jd (by lia)
theorem DG{p q:Nat}(h:¬ p<q):decide ((p:Int)<(q:Int))=false:=pe (by lia)
def qK{r:R D}{p q:Bool}(h:r=.ok (.bl p))(e:p=q):r=.ok (.bl q):=by rw[h,e]
def kY{st:za} (h:f st=.ok (.lst xs)):Ec f st=.ok xs:=by rw[L7,h,bT]
def sy{st:za}{ys:dL}(h:f st=.ok (.lst ys))(hs:st[i]?=some (some<|.o .l xs))(a:xs.length+ys.length<=big):bp i f st=.ok (.nx<|st.set i<|some<|.o .l<|xs++ys):=by
 rw[bJ2,h,hs];exact aF a
noncomputable def good(m:Int)(x:ac):Bool:=x.all λc=>decide (97<=c/\(c:Int)<97+m)
def QL{m:Int}{x:ac}:good m x=true↔Mc m x:=by
 unfold good Mc;simp
theorem Z4{m:Int}(d:1<=m)(b:m<=3){c:Nat}:c∈cut [97,98,99] none (some m)↔97<=c/\(c:Int)<97+m:=by
 have a:m=1\/m=2\/m=3:=by lia
 rcases a with rfl|rfl|rfl
 .show c∈[97]↔_;simp;lia
 .show c∈[97,98]↔_;simp;lia
 show c∈[97,98,99]↔_;simp;lia
theorem UX{b:Type}(p:b->Bool):∀x:List b,x.dropWhile p=[]↔∀c∈x,p c=true
 |[]=>by simp
 |a::x=>by
  cases h:p a with
  |true=>rw[r_ h,UX p x];simp[h]
  |false=>simp[h]
theorem takeWhile_all{b:Type}(p:b->Bool):∀(x:List b)(c:b),c∈x.takeWhile p->p c=true
 |[],c,h=>by simp at h
 |a::x,c,h=>by
  cases d:p a with
  |true=>
   rw[s_ d]at h;rcases qc.mp h with rfl|h
   .exact d
   exact takeWhile_all p x c h
  |false=>simp_all
theorem strip_nil(x y:ac):zO x y=[]↔∀c∈x,c∈y:=by
 unfold zO;rw[List.reverse_eq_nil_iff,UX];constructor
 .intro h;have d:∀c∈x.dropWhile (λc=>y.contains c),c∈y:=λc a=>by simp_all
  have b:=λc a=>by
   simpa using takeWhile_all (λc=>y.contains c) x c a
  intro c a;rw[<-i_ (l:=x)]at a;exact(tf.mp a).elim (b c) (d c)
 intro h c a;rw[List.mem_reverse]at a;simpa using h c (List.IsSuffix.subset (List.dropWhile_suffix _) a)
theorem NY(x:ac)(m:Int)(d:1<=m)(b:m<=3)(h:x.length<=1000000):oZ [.str x,.int m]=.ok (.bl<|good m x):=by
 unfold oZ XZ;have e:(zO x (cut [97,98,99] none<|some m)==[])=good m x:=by
  rw[Cw,Nm,strip_nil,QL];exact⟨λz c a=>(Z4 d b).mp<|z c a,λz c a=>(Z4 d b).mpr<|z c a⟩
 simp[YF,show x.length<=big from cO (by lia),e]
def ģ(x y:D)(m:Int)(p q:Bool)(c:oZ [x,.int m]=.ok (.bl p))(b:oZ [y,.int m]=.ok (.bl q))(a:plain y=true)(d:Ff y<=64):lY [.tup [x,y],.int m]=.ok (.bl<|p&&(q && !Oc y (.str []))):=by
 unfold lY BY;have f:yd [x,y] 0=some x:=rfl;have e:yd [x,y] 1=some y:=rfl;cases p<;>cases q<;>simp[Uy,f,e,c,b,a,d]
noncomputable def ia(l:ac):dL:=l.map λ(x:Nat)=>D.int (x:Int)
structure Va(S:am)(rk:ac)(c:Nat):Prop where
 one:1<=S.length
 most:S.length<=8
 c1:1<=c
 c3:c<=3
 row:∀r∈S,r.length=c/\∀x∈r,x<S.length
 El:rk.length=S.length
noncomputable def Wb(S:am):dL:=S.map λr=>D.lst<|ia r
theorem ZC{E:Ex}{st:za}{v:Nat}{xs:dL}(a:st[v]?=some (some<|.v<|.lst xs))(e:xs.length<=100000)(h:∀d∈xs,E ((st.set j none).set j d)=.ok (.bl true)):e1 Gq (cJ [j] (gb j) (Ec<|aA v) cV E) st=.ok (.bl true):=by
 have e2:xs.map (λ_=>D.bl true)=(xs.map λ_=>true).map D.bl:=by simp
 simp[a,show xs.length<=big from cO (by lia),(yU (tg:=gb j) (c:=cV) _ xs λd c=>⟨_,rfl,rfl,h d c⟩)]
 rw[e2];exact bEk rfl λb f=>by simp_all
theorem bBe{E:Ex}{st:za}{v:Nat}{xs:dL}(a:st[v]?=some (some<|.v<|.lst xs))(c:xs.length<=100000)(h:∀d∈xs,E ((st.set j none).set j d)=.ok d):cJ [j] (gb j) (Ec<|aA v) cV E st=.ok (.lst xs):=by
 simp[a,show xs.length<=big from cO (by lia),(yU (tg:=gb j) (c:=cV) id xs λd b=>⟨_,rfl,rfl,h d b⟩)]
def BF(n:Int):Do
 |.int i=>decide (0<=i)&&decide (i<n)
 |_=>false
def YZ(i:Int):lD [.int i]=.ok (.bl true):=by
 unfold lD JK;simp[isIn,Sy]
def bEl(d:D)(b:bo d=true):lD [d]=.ok (.bl<|isIn d && !Sy d):=by
 unfold lD JK;cases a:isIn d<;>simp[b,a]
def bEm(d:D)(n:Int)(b:bo d=true):lE [d,.int n]=.ok (.bl<|BF n d):=by
 have a:=bEl d b;unfold lE LK;cases d<;>first|(simp[a,isIn,Sy,BF])|skip
 rename_i i
 by_cases c:0<=i<;>simp[c]
def bBf{x:Nat}(h:x<n):lE [.int x,.int n]=.ok (.bl true):=by
 unfold lE LK;simp[(YZ x),h]
theorem ZZ(xs:dL)(m:Int):fL [.lst xs,.int m]=.ok (.bl<|decide (1<=(xs.length:Int))&&decide ((xs.length:Int)<=m)):=by
 unfold fL yG
 by_cases h:1<=xs.length
 .have a:(1:Int)<=xs.length:=by lia
  simp[Fq,a]
 have a:¬ (1:Int)<=xs.length:=by lia
 simp[Fq,a]
def bI(r:ac):(ia r).length=r.length:=by unfold ia;simp
def nU(S:am):(Wb S).length=S.length:=by unfold Wb;simp
def RL{r:ac} (h:d∈ia r):∃x∈r,d=.int (x:Nat):=by
 obtain⟨x,b,a⟩:=gd.mp h;exact⟨x,b,a.symm⟩
def fN{S:am} (h:d∈Wb S):∃r∈S,d=.lst (ia r):=by
 obtain⟨x,b,a⟩:=gd.mp h;exact⟨x,b,a.symm⟩
theorem bOn(r:ac)(n:Nat)(h:∀x∈r,x<n)(e:r.length<=1000):YC [.lst<|ia r,.int r.length,.int n]=.ok (.bl true):=by
 refine bL rfl ?_
 have c:e2 Ad (e1 iD<|aA 0) (aA 1) [D.lst<|ia r,r.length,n,none]=.ok (.bl true):=by simp[bI]
 show cT _ [some _,some _,some _,none]=_;rw[Ox,T4,c,(ZC rfl (by rw[bI];lia) (λd b=>by
  obtain⟨x,a,rfl⟩:=RL b;simp[MY,bBf<|h x a]))]
 rfl
noncomputable def mD(S:am)(rk:ac)(c:Nat):D:=.ins "Machine" ["steps","ranks","many","letters"] [.lst<|Wb S,.lst<|ia rk,.int S.length,.int c]
section
def Va.FV(M:Va S rk c):∃r T,S=r::T/\r.length=c:=by
 cases S with
 |nil=>exact absurd M.one (by simp)
 |cons r T=>exact⟨r,T,rfl,(M.row r qb).1⟩
def Va.K6(M:Va S rk c):∃r,r∈S/\yd (Wb S) 0=some (.lst<|ia r)/\r.length=c:=by
 obtain⟨r,T,rfl,h⟩:=M.FV;refine⟨r,qb,?_,h⟩;simpa [Wb] using (Qb (xs:=Wb<|r::T) (i:=0)<|by simp[Wb])
theorem bEn(M:Va S rk c):wL [.lst<|Wb S]=.ok (.bl true):=by
 obtain⟨g,p,k,h⟩:=M.K6;have n:=M.one;have m:=M.most;have e:=ZZ (Wb S) 8;rw[nU]at e;have l:fL [.lst<|Wb S,.int 8]=.ok (.bl true):=by rw[e];simp;lia
 refine bL rfl<|fH (by simp[l])<|fH ?_ ?_
 .rw[bOg,bIw,(ZC rfl (by rw[nU];lia) (λd b=>by
  obtain⟨r,a,rfl⟩:=fN b;have f:=ZZ (ia r) 3;rw[bI,(M.row r a).1]at f;have i:=M.c3;have o:=M.c1;simp[RX,f];lia))];rfl
 rw[Ox,(ZC rfl (by rw[nU];lia) (λd b=>by
  obtain⟨r,a,rfl⟩:=fN b;have i:=M.c3;have j:(ia g).length=r.length:=by rw[bI,h,(M.row r a).1]
  simp[SX,k,j,nU,(bOn r S.length (M.row r a).2<|by rw[(M.row r a).1];lia)]))];rfl
theorem bEo(M:Va S rk c):wM [.lst<|ia rk,.int S.length]=.ok (.bl true):=by
 have e:=M.most;have f:=ZC (E:=wX) (st:=[some _,S.length,none]) (j:=2) (v:=0) rfl (by rw[bI,M.El];lia) (λd a=>by
  obtain⟨x,b,rfl⟩:=RL a;simp[wX,YZ])
 refine bL rfl<|fH (by simp[Fq,bI,M.El]) ?_
 simp_all
def lJ:cL "Machine" "many" (mD S rk c)=.ok (.int S.length):=by unfold mD;rw[pF,aF rfl];rfl
def cK:cL "Machine" "letters" (mD S rk c)=.ok (.int c):=by unfold mD;rw[pF,aF rfl];rfl
def gO:cL "Machine" "steps" (mD S rk c)=.ok (.lst<|Wb S):=by unfold mD;rw[pF,aF rfl];rfl
theorem JD(M:Va S rk c):eQ [.lst<|Wb S,.lst<|ia rk]=.ok (mD S rk c):=by
 obtain⟨g,j,f,b⟩:=M.K6;have i:=M.most;refine Q4 λx=>?_
 unfold Es;rw[aF<|show ([D.lst<|Wb S,D.lst _]).length=2 from rfl]
 have a:jP [some<|.o (.i x "Machine" []) [],D.lst<|Wb S,D.lst<|ia rk,none]=.ok (.nx [some<|.o (.i x "Machine" ["steps","ranks","many","letters"]) [.lst<|Wb S,.lst<|ia rk,.int S.length,.int c],D.lst<|Wb S,D.lst<|ia rk,none]):=by
  refine fH (by simp[(bEn M)])<|fH (by simp[nU,(bEo M)])<|aH (st':=[some<|.o (.i x "Machine" ["steps"]) [.lst<|Wb S],D.lst<|Wb S,D.lst<|ia rk,none]) ?_ ?_
  .rw[O1,(bBe rfl (by rw[nU];lia) (λd e=>by
  obtain⟨r,h,rfl⟩:=fN e;simp[sJ]))]
   simp
  refine aH (st':=[some<|.o (.i x "Machine" ["steps","ranks"]) [.lst<|Wb S,.lst<|ia rk],D.lst<|Wb S,D.lst<|ia rk,none]) (by simp)<|aH (st':=[some<|.o (.i x "Machine" ["steps","ranks","many"]) [.lst<|Wb S,.lst<|ia rk,.int S.length],D.lst<|Wb S,D.lst<|ia rk,none]) (by simp[nU]) ?_
  simp[f,bI,b]
 show (jP [some _,some _,some _,none]).bind _=_;rw[a];simp[mD]
end
def PC(x:Nat)(l:ac):ia (x::l)=.int (x:Nat)::ia l:=rfl
theorem iW:∀l:ac,dJ (ia l)=true/\jV (ia l)=0/\oH (ia l) (ia l)=true
 |[]=>⟨rfl,by unfold ia;simp,by unfold ia;simp[oH]⟩
 |x::l=>by
  obtain⟨c,b,a⟩:=iW l;rw[PC];simp_all
structure Cd(S:am)(rk:ac)(c:Nat):Prop where
 most:S.length<=64
 c1:1<=c
 c3:c<=3
 row:∀r∈S,r.length=c/\∀x∈r,x<S.length
def Va.w(M:Va S rk c):Cd S rk c:=⟨Xd M.most (by decide),M.c1,M.c3,M.row⟩
section
variable{S:am}{rk:ac}{c:Nat}
def xc(S:am)(q a:Nat):Nat:=(S.getD q []).getD a 0
theorem xG(M:Cd S rk c){q a:Nat}(b:q<S.length)(g:a<c):∃r,yd (Wb S) (q:Int)=some (.lst<|ia r)/\yd (ia r) (a:Int)=some (.int<|xc S q a)/\xc S q a<S.length:=by
 have f:=M.row S[q] (Vg b);have d:a<S[q].length:=by rwa [f.1]
 have e:xc S q a=S[q][a]:=by
  simp[xc,List.getElem?_eq_getElem b,List.getElem?_eq_getElem d]
 refine⟨S[q],?_,?_,?_⟩
 .rw[Qb (by rwa [nU])];simp[Wb]
 .rw[Qb (by rwa [bI]),e];simp[ia]
 simp_all
theorem R1(h:m<=3){ch:Nat}(b:97<=ch)(a:(ch:Int)<97+m):mR [97,98,99] [ch] 0=some (ch-97):=by
 have:ch=97\/ch=98\/ch=99:=by lia
 rcases this with rfl|rfl|rfl<;>rfl
theorem KD(M:Cd S rk c){q ch:Nat}(a:q<S.length)(d:97<=ch)(b:(ch:Int)<97+c):∃r,yd (Wb S) (q:Int)=some (.lst<|ia r)/\yd (ia r) (((ch-97:Nat)):Int)=some (.int<|xc S q<|ch-97)/\xc S q (ch-97)<S.length:=xG M a (by lia)
noncomputable def runs(S:am):Ix
 |_,[]=>[]
 |q,a::x=>xc S q (a-97)::runs S (xc S q<|a-97) x
def Dm(S:am):Nat->List Nat->Nat
 |q,[]=>q
 |q,a::x=>Dm S (xc S q<|a-97) x
theorem S1(M:Cd S rk c):∀(x:ac)(q:Nat),q<S.length->Mc c x->Dm S q x<S.length
 |[],q,h,_=>h
 |g::x,q,h,a=>by
  obtain⟨f,e⟩:=a g qb;obtain⟨_,_,_,d⟩:=KD M h f e;exact S1 M x _ d λz b=>a z<|Mb _ b
end
theorem fJ:∀(n:Nat)(l:ac),l.Nodup->(∀x∈l,x<n)->l.length<=n
 |0,l,_,h=>by
  cases l with
  |nil=>simp
  |cons x l=>exact absurd (h x qb) (by lia)
 |n+1,l,a,h=>by
  have b:=fJ n _ (a.erase n) λx c=>by
   grind
  grind
theorem LD(g:Nat)(l:ac):inD (.int g) (ia l)=decide (g∈l):=by
 unfold inD ia;rw[Jw]
 by_cases h:g∈l
 .rw[Jd h,ww];exact⟨g,h,by simp⟩
 rw[pe h,AH];intro x a;have:¬ (x:Int)=g:=λz=>h (by grind)
 simp[Oc,this]
def tq{q:Nat}(a:q<S.length):yd (Wb S) (q:Int)=some (.lst<|ia S[q]):=by
 rw[Qb (by rwa [nU])]
 unfold Wb;rw[jt]
section
def eD{m:String} {r:De} {st:za} (d:f st=.ok (mD S rk c)) (a:r st=.ok xs) (b:m∉["steps","ranks","many","letters"]):oU "Machine" m p dv f r st=p (mD S rk c::(xs++dv)):=by
 rw[VC,d,a];exact aF ⟨rfl,b⟩
theorem OY(M:Va S rk c)(a t:f8)(g:a=some (.v<|mD S rk c)):∀(x:ac)(q:Nat)(b:ac)(l:f8),q<S.length->Mc c x->b.length+x.length<=1000000->∃d,pb (gb 4) jC (x.map λch=>D.str [ch]) [a,q,t,some<|.o .l<|ia b,l] =
  .ok (.nx [a,Dm S q x,t,some<|.o .l<|ia<|b++runs S q x,d])
 |[],q,b,l,_,_,_=>⟨l,by simp[Dm,runs]⟩
 |ch::x,q,b,l,h,f,m=>by
  rw[Ed]at m;obtain⟨j,i⟩:=f ch qb;obtain⟨r,e1,e2,n⟩:=KD M.w h j i;obtain⟨d,e⟩:=OY M a t g x _ (b++[xc S q _]) (D.str [ch]) n (λz k=>f z<|Mb _ k) (by rw[Ud,Ug];lia)
  refine⟨d,?_⟩;have o:ia (b++[xc S q<|ch-97])=ia b++[D.int<|xc S q<|ch-97]:=by unfold ia;simp
  rw[o]at e;rw[gf,kL,show runs S q _=xc S q _::runs S _ x from rfl,show b++xc S q _::runs S _ x=b++[xc S q<|ch-97]++runs S (xc S q<|ch-97) x by simp,show Dm S q (ch::x)=Dm S _ x from rfl,<-e]
  subst g;simp[jC,gO,e1,(R1 M.c3 j i),e2,bI,show b.length<big from Vr (by lia)]
theorem TL(M:Va S rk c){q:Nat}(d:q<S.length)(x:ac)(b:Mc c x)(g:x.length<=500000):cH [mD S rk c,.int q,.str x]=.ok (.lst<|ia<|q::runs S q x):=by
 obtain⟨a,e⟩:=OY M _ _ rfl x q [q] none d b (by simp;lia)
 refine bL rfl ?_
 have f:gD [mD S rk c,q,D.str x,none,none]=.ok (.nx [mD S rk c,Dm S q x,D.str x,some<|.o .l<|ia<|[q]++runs S q x,a]):=by
  refine aH (st':=[mD S rk c,q,D.str x,some<|.o .l<|ia [q],none]) (by simp[ia])<|aH (by
   simp[show x.length<=big from cO (by lia)]
   exact e) rfl
 show Uo gD 3 [some _,some _,some _,none,none]=_;unfold Uo;rw[f];rfl
theorem Ii{xs:List α}{a:α}(h:xs.getLast?=some a):yd xs (-1)=some a:=by
 have b:xs≠[]:=λz=>by grind
 have c:=YG.mpr b;rw[u_]at h;unfold yd rj
 rwa [Pa (by decide),jb (by lia),show ((-1:Int)+xs.length).toNat=xs.length-1 by lia]
def bBg{r:ac}{a:Nat}(h:r.getLast?=some a):(ia r).getLast?=some (.int a):=by
 unfold ia;rw[List.getLast?_map,h];rfl
end
def dj(n d:Nat):Je n d none=d:=rfl
theorem Dk(n d k:Nat):Je n d (some (k:Int))=min k n:=by
 show (if k<0 then ((k:Int)+n).toNat else min (k:Int).toNat n)=_
 rw[Pa (by lia),Ao]
def bOo(x:List α)(n:Nat)(h:n<=x.length):cut x (some (n:Int)) none=x.drop n:=by
 unfold cut;rw[dj,Dk,Nat.min_eq_left h,YQ (by simp)]
def zR(z:List α)(n:Nat):(rep n z).length=n*z.length:=by
 unfold rep
 induction n with
 |zero=>simp
 |succ n a=>simp
def nA(n:Nat)(z:List α):rep (n+1) z=z++rep n z:=by unfold rep;rw[Uk,zo]
theorem d5{b:Type}{z:List b}{a:b}:∀{n:Nat},a∈rep n z->a∈z
 |0,h=>by simp[rep]at h
 |n+1,h=>by
  rcases tf.mp h with h|h
  .exact h
  exact d5 h
def UL(a b:ac):ia a++ia b=ia (a++b):=by unfold ia;rw[Hg]
def bEp(a:α)(x:List α):cut (a::x) (some 1) none=x:=by
 simpa using (bOo (a::x) 1<|by simp)
theorem bJd(x y:List α)(a:α)(n:Nat)(h:x.length=n):cut (x++y++[a]) (some (n:Int)) (some<|-1)=y:=by
 subst h;have l:(x++y++[a]).length=x.length+y.length+1:=by simp;lia
 unfold cut;have e1:Je (x++y++[a]).length 0 (some x.length)=x.length:=by
  rw[l];show (if (x.length<0) then ((x.length:Int)+((x.length+y.length+1))).toNat else min (x.length:Int).toNat _)=_;lia
 have e2:Je (x++y++[a]).length (x++y++[a]).length (some<|-1)=x.length+y.length:=by
  rw[l];unfold Je;simp;lia
 rw[e1,e2,Bh,List.drop_left,show x.length+y.length-x.length=y.length by lia,List.take_left]
section
theorem aVw(M:Va S rk c){b t:ac}(a:Mc c b)(d:Mc c t)(f:1<=t.length)(e:t.length<=10000)(bl:b.length<=10000):lY [.tup [.str b,.str t],.int c]=.ok (.bl true):=by
 have h:=M.c1;have g:=M.c3;rw[ģ _ _ c true true (by rw[NY b c (by lia) (by lia) (by lia),QL.mpr a]) (by rw[NY t c (by lia) (by lia) (by lia),QL.mpr d]) rfl (by simp)]
 have:t≠[]:=λz=>by simp_all
 simp[this]
end
def bOp{a b:Bd}{st:za}{r:Fl}(h:a st=.ok r):Ls a b st=.ok r:=by unfold Ls;rw[h]
def bOq{a b:Bd}{st:za}{r:R Fl}(h:a st=.bad)(c:b st=r):Ls a b st=r:=by unfold Ls;rwa [h]
def bEq{p:Prop}{r:R α}(h:¬ p):aP p r=.bad:=Pa h
section
variable{α:Type}[DecidableEq α]{δ:α->Nat->α}{s:α}{c p j:Nat}{P:α->Prop}{ja:List (α×List Nat)}
def Mf(b:α->Nat->α):α->ac->α
 |a,[]=>a
 |a,c::w=>Mf b (b a<|c-97) w
theorem eV:∀(x y:ac)(a:α),Mf δ a (x++y)=Mf δ (Mf δ a x) y
 |[],_,_=>rfl
 |_::x,y,a=>eV x y _
def Rx(x:ac)(a:α)(k:Nat):Mf δ a (x++[97+k])=δ (Mf δ a x) k:=by
 rw[eV];show δ _ _=_;rw[Ys]
def Ap(a:List (α×List Nat))(g:α)(w:ac):List (α×List Nat):=if g∈a.map (·.1) then a else a++[(g,w)]
structure BG(δ:α->Nat->α)(s:α)(c:Nat)(P:α->Prop)(p j:Nat)(ja:List (α×List Nat)):Prop where
 nd:(ja.map (·.1)).Nodup
 hd:ja[0]?=some (s,[])
 lt:∀x∈ja,P x.1/\Mf δ s x.2=x.1/\Mc c x.2
 wl:∀(k:Nat)(x:α×List Nat),ja[k]?=some x->x.2.length<=k
 cls:∀(i:Nat)(x:α×List Nat)(l:Nat),ja[i]?=some x->l<c->(i<p\/(i=p/\l<j))->δ x.1 l∈ja.map (·.1)
theorem BG.start(hs:P s):BG δ s c P 0 0 [(s,[])] where
 nd:=by simp
 hd:=rfl
 lt:=λx a=>by rw[Hd.mp a];exact⟨hs,rfl,λ_ h=>nomatch h⟩
 wl:=λk x e=>by rw[Hd.mp<|jg e];exact Ef _
 cls:=λi x l _ _ h=>by lia
theorem BG.next(b:BG δ s c P p c ja):BG δ s c P (p+1) 0 ja:=⟨b.nd,b.hd,b.lt,b.wl,λi x l e a h=>b.cls i x l e a<|by lia⟩
def GO{g:α}{w:ac}{k:Nat}{x:α×List Nat}(h:ja[k]?=some x):(Ap ja g w)[k]?=some x:=by
 unfold Ap;split
 .exact h
 rwa [ik (Ee.mp h).1]
theorem BG.turn(u:∀a k,P a->k<c->P (δ a k))(b:BG δ s c P p j ja){x:α×List Nat}(f:ja[p]?=some x)(t:j<c):BG δ s c P p (j+1) (Ap ja (δ x.1 j)<|x.2++[97+j]):=by
 obtain⟨x1,q,o⟩:=b.lt x<|jg f;have A:=(Ee.mp f).1;have w:=b.wl p x f;unfold Ap
 by_cases n:δ x.1 j∈ja.map (·.1)
 .rw[jb n];refine⟨b.nd,b.hd,b.lt,b.wl,λi y l e hl h=>?_⟩
  by_cases m:i=p/\l=j
  .grind
  exact b.cls i y l e hl (by lia)
 rw[Pa n];have d:∀{k:Nat}{y:α×List Nat},(ja++[(δ x.1 j,x.2++[97+j])])[k]?=some y->ja[k]?=some y\/(k=ja.length/\y=(δ x.1 j,x.2++[97+j])):=λ{k y} e=>by
  by_cases r:k<ja.length
  .rw[ik r]at e;exact .inl e
  have g:=(Ee.mp e).1;rw[Ud,Ug]at g;have:k=ja.length:=by lia
  subst this;simp at e;exact .inr ⟨rfl,e.symm⟩
 refine⟨?_,by rw[ik (by lia)];exact b.hd,λy hy=>?_,λk y e=>?_,λi y l e hl h=>?_⟩
 .rw[Hg,Xl];refine⟨b.nd,by simp,λa B C hb=>?_⟩
  rw[JR,Hd]at hb;rw[hb];exact λz=>n (by rwa [<-show a=δ x.1 j from z])
 .rcases tf.mp hy with hy|hy
  .exact b.lt y hy
  rw[Hd.mp hy];refine⟨u _ _ x1 t,by rw[Rx,q],λch Jo=>?_⟩
  rcases tf.mp Jo with h|h
  .exact o ch h
  rw[Hd.mp h];constructor<;>lia
 .rcases d e with e|⟨rfl,rfl⟩
  .exact b.wl k y e
  rw[Ud,Ug];lia
 rw[Hg];rcases d e with v|⟨rfl,rfl⟩
 .by_cases m:i=p/\l=j
  .simp_all
  exact Sf _<|b.cls i y l v hl<|by lia
 lia
theorem i5{v:ac}(h:v≠[])(b:Mc c v):∃u k,v=u++[97+k]/\k<c/\Mc c u:=by
 obtain⟨u,a,rfl⟩:∃u a,v=u++[a]:=⟨v.dropLast,v.getLast h,(List.dropLast_concat_getLast h).symm⟩;have e:=b a (by simp)
 refine⟨u,a-97,by grind,by omega,λx d=>b x<|Sf _ d⟩
theorem BG.whole(b:BG δ s c P ja.length 0 ja):∀(n:Nat)(v:ac),v.length=n->Mc c v->Mf δ s v∈ja.map (·.1)
 |0,v,a,_=>by
  rw[Lm.mp a];exact gd.mpr ⟨_,jg b.hd,rfl⟩
 |n+1,v,a,g=>by
  obtain⟨u,k,rfl,j,h⟩:=i5 (λz=>by simp_all) g
  obtain⟨y,f,e⟩:=gd.mp<|BG.whole b n u (by simpa using a) h
  obtain⟨i,d⟩:=Ul.mp f;rw[Rx,<-e];exact b.cls i y k d j<|.inl (Ee.mp d).1
def BG.yB(b:BG δ s c P ja.length 0 ja){a:α->Prop}(e:∀(i:Nat) y k,ja[i]?=some y->k<c->¬ a (δ y.1 k)){u:ac}(h:u≠[])(j:Mc c u):¬ a (Mf δ s u):=λd=>by
 obtain⟨v,k,rfl,l,g⟩:=i5 h j;obtain⟨y,f,e1⟩:=gd.mp<|b.whole _ v rfl g;obtain⟨i,m⟩:=Ul.mp f;rw[Rx,<-e1]at d;exact e i y k m l d
end
section
variable{α:Type}[DecidableEq α](e:α->D)(he:∀a b,Gf (e a) (e b)=decide (a=b))
include he
theorem W9(g:α):∀(l:List α),oG (l.map e) (e g)=decide (g∈l):=λl=>by
 unfold oG;rw[Jw];grind
def bOr{g:α}{l:List α}(h:g∈l):oG (l.map e) (e g)=true:=(W9 e he g l).trans<|Jd h
def bOs{g:α}{l:List α}(h:g∉l):oG (l.map e) (e g)=false:=(W9 e he g l).trans<|pe h
theorem EG{x:α×List Nat}:∀{a:List (α×List Nat)},(a.map (·.1)).Nodup->x∈a->uW (a.map λy=>e y.1) (a.map λy=>D.str y.2) (e x.1)=some (.str x.2)
 |[],_,h=>nomatch h
 |y::a,b,h=>by
  unfold uW;rw[gf,gf,yt,find?_cons,he];rw[gf,lj]at b;rcases qc.mp h with rfl|h
  .simp
  rw[pe λz:y.1=x.1=>b.1 (by rw[z];exact gd.mpr ⟨x,h,rfl⟩)]
  exact EG b.2 h
end
def gx(l:ac):tz:=λb=>l.foldl (λb r=>b|||2^r) b
theorem j5(r:Nat):∀(l:ac)(b:Nat),(gx l b).testBit r=(b.testBit r||decide (r∈l))
 |[],b=>by simp[gx]
 |x::l,b=>by
  show (gx l _).testBit r=_;rw[j5 r l];grind
def jY(l:ac):Nat:=gx l 0
def jZ(l:ac)(r:Nat):(jY l).testBit r=decide (r∈l):=by
 unfold jY;rw[j5,Az,aS]
def bJf{a:ac}(h:∀r,r∈l↔r∈a):jY l=jY a:=xw λr=>by
 rw[jZ,jZ,xo.mpr<|h r]
noncomputable def aR(n:Nat):ac:=(List.range<|Cm n).filter λr=>n.testBit r
def bEr(h:Cm n<=r):n.testBit r=false:=by
 unfold Cm at h
 by_cases a:(n:Int)=0
 .simp_all
 rw[Pa a]at h;exact L_<|rg ((Nat.log2_lt<|λz=>a<|by rw[z];rfl).mp<|vt _)<|X_ (by decide)<|by simpa using h
def aY:r∈aR n↔n.testBit r=true:=by
 unfold aR;rw[Vf,qf];refine⟨λh=>h.2,λh=>⟨?_,h⟩⟩
 rcases Nat.lt_or_ge r _ with a|a
 .exact a
 rw[bEr a]at h;cases h
def pB(n:Nat):jY (aR n)=n:=xw λr=>by
 rw[jZ];cases h:n.testBit r with
 |true=>exact Jd<|aY.mpr h
 |false=>exact pe λz=>by rw[aY.mp z]at h;cases h
def dI:r∈aR (jY l)↔r∈l:=by
 rw[aY,jZ,qh]
def bC{k:Nat}(h:n<2^k)(a:r∈aR n):r<k:=by
 rw[aY]at a;rcases Nat.lt_or_ge r k with b|b
 .exact b
 rw[L_<|rg h<|X_ (by decide) b]at a
 cases a
theorem bEs{k:Nat}(h:n<2^k):Cm n<=k:=by
 unfold Cm
 by_cases a:(n:Int)=0
 .simp_all
 rw[Pa a];have:=(Nat.log2_lt<|λz=>a<|by rw[z];rfl).mpr h
 rw[Int.natAbs_natCast];lia
@[simp] theorem bEt(i j:Int):Ol (.int i) (.int j)=aP (0<=j/\j<=1000000/\i.natAbs<18446744073709551616) (.ok<|.int<|i*2^j.toNat):=rfl
@[simp] theorem bSq(i j:Int):Nk (.int i) (.int j)=aP (0<=j) (.ok<|.int<|i/2^j.toNat):=rfl
@[simp] theorem T1(i j:Int):Ei (.int i) (.int j)=aP (0<=i/\0<=j) (.ok<|.int ((i.toNat&&&j.toNat:Nat):Int)):=rfl
@[simp] theorem bJg(i j:Int):Qm (.int i) (.int j)=aP (0<=i/\0<=j) (.ok<|.int ((i.toNat|||j.toNat:Nat):Int)):=rfl
@[simp] theorem bMq(i:Int):HD (.int i)=.ok (.int (Cm i:Nat)):=rfl
theorem VL(n r:Nat):(((n:Int)/2^r).toNat&&&(1:Int).toNat)=if n.testBit r=true then 1 else 0:=by
 grind
theorem xv(n r:Nat):gU [.int n,.int r]=.ok (.bl<|n.testBit r):=by
 have b:=VL n r;have c:0<=(n:Int)/2^r:=UR (by lia)<|ZR<|by decide
 refine bL rfl ?_
 show cT _ [some _,some _]=_;have a:e2 Ei (e2 Nk (aA 0)<|aA 1) (eI 1) [n,r]=.ok (.int<|(if n.testBit r=true then 1 else 0:Nat)):=by
  simp_all
 rw[Ox,Cy,a];cases n.testBit r<;>simp
theorem pP{tg:Tg}{C E:Ex}{st:za}{q:At}{G:Nat->D}:∀(a:ac),(∀k∈a,∃s1,tg (.int k) st=.ok s1/\C s1=.ok (.bl<|q k)/\E s1=.ok (G k))->jL tg C E st (ia a)=.ok ((a.filter q).map G)
 |[],_=>rfl
 |k::a,h=>by
  obtain⟨s1,e1,e2,e⟩:=h k qb;have c:=pP a λk b=>h k<|Mb _ b
  show jL tg C E st (.int k::ia a)=_;rw[jO];cases d:q k with
  |true=>
   simp_all
  |false=>
   simp_all
def FY(n:Nat):oJ 0 n=ia (List.range n):=by
 rw[ZJ];rfl
theorem jE{k:Nat}(h:n<2^k)(b:k<=2000):cQ [.int n]=.ok (.lst<|ia<|aR n):=by
 have c:=bEs h;refine bL rfl ?_
 show cT _ [some _,none]=_;have a:yC (e1 HD<|aA 0) [some<|.v<|.int n,none]=.ok (ia<|List.range<|Cm n):=by
  simp[show ((Cm n))<=(big:Int) from Tu (by lia)]
  exact FY _
 rw[Ox,PL,a];simp[bI];rw[aF<|cO<|by lia,(pP (q:=λr=>n.testBit r) (G:=λr=>.int r) _<|λr _=>⟨_,rfl,by
  simp[ZX,xv n r],by simp[YX]⟩)]
 rfl
theorem i0(a:f8):∀(l:ac)(b:Nat)(c:f8),(∀r∈l,r<=1000000)->∃d,pb (gb 2) sI (ia l) [a,b,c]=.ok (.nx [a,gx l b,d])
 |[],b,c,_=>⟨c,rfl⟩
 |r::l,b,c,h=>by
  obtain⟨d,e⟩:=i0 a l _ _ λr f=>h r<|Mb _ f
  refine⟨d,?_⟩;have f:=h r qb;have i:((1:Int)*2^(r:Int).toNat)=((2^r:Nat)):=by simp
  have t:sI [a,b,r]=.ok (.nx [a,((b|||2^r:Nat)),r]):=by
   have g:e2 Ol (eC<|.int 1) (aA 2) [a,b,r]=.ok (.int<|(2^r:Nat)):=by
    simp only[Cy,Z8,S4,bT,getElem?_cons_succ,List.getElem?_cons_zero];rw[bEt,aF ⟨by lia,(by lia),by decide⟩,i]
   unfold sI;rw[bJ3,Cy,g];simp only[S4,bT,getElem?_cons_succ,List.getElem?_cons_zero];rw[bJg,aF ⟨FR _,FR _⟩];rfl
  show (sI [a,some _,some _]).bind _=_
  rwa [t]
def Vu{l:ac}(h:∀r∈l,r<=1000000)(b:l.length<=1000000):kI [.lst<|ia l]=.ok (.int<|jY l):=by
 obtain⟨a,e⟩:=i0 _ l 0 none h;refine bL rfl<|aH rfl<|aH (st':=[some<|.v<|.lst<|ia l,some<|.v _,a]) ?_ rfl
 rwa [bJ4]
inductive Hc (S:am) (c:Nat) (al:At) (s:Nat):Nat->Prop where
 |here:Hc S c al s s
 |on {r l:Nat}:Hc S c al s r->l<c->al (xc S r l)=true->Hc S c al s (xc S r l)
def cU(n:Nat):(aR n).Nodup:=List.nodup_range.filter _
theorem zT{l:ac}{k:Nat}(h:∀r∈l,r<k):jY l<2^k:=TQ _ λr a=>by
 rw[jZ];exact pe λz=>by have:=h r z;lia
open Classical in
noncomputable def qL(S:am)(c n r:Nat):Nat:=jY<|(List.range S.length).filter λg=>decide (Hc S c (λg=>n.testBit g) r g)
section
def xH(M:Cd S rk c) {s g:Nat} (hs:s<S.length) (h:Hc S c al s g):g<S.length:=by
 induction h with
 |here=>exact hs
 |on _ b _ a=>obtain⟨_,_,_,h⟩:=xG M a b;exact h
def uy{s g:Nat}(hs:al s=true)(h:Hc S c al s g):al g=true:=by
 cases h with
 |here=>exact hs
 |on _ _ a=>exact a
open Classical in
def qW(M:Cd S rk c){r:Nat}(a:r<S.length)(g:Nat):(qL S c n r).testBit g=true↔Hc S c (λg=>n.testBit g) r g:=by
 unfold qL;rw[jZ,qh,Vf,qf,qh];exact⟨λh=>h.2,λh=>⟨xH M a h,h⟩⟩
def Hx:qL S c n r<2^S.length:=zT λg a=>qf.mp (Vf.mp a).1
theorem pQ(M:Cd S rk c){a b:Nat}(g:a<S.length):b∈S.getD a []↔∃l,l<c/\xc S a l=b:=by
 have i:=(M.row S[a] (Vg g)).1;have f:S.getD a []=S[a]:=by simp_all
 have e:∀l,xc S a l=S[a].getD l 0:=λl=>by unfold xc;rw[f]
 rw[f];constructor
 .intro h;obtain⟨l,d,rfl⟩:=Vs.mp h;exact⟨l,by lia,by rw[e,bf,Kc d];rfl⟩
 rintro⟨l,d,rfl⟩;simp_all
def Hc.trans{a b d:Nat}(i:Hc S c al a b)(h:Hc S c al b d):Hc S c al a d:=by
 induction h with
 |here=>exact i
 |on _ f g e=>exact .on e f g
end
theorem bOt(g:Nat)(l:ac):br (.int g) (.lst<|ia l)=.ok (.bl<|decide (g∈l)):=by
 obtain⟨a,b,_⟩:=iW l;rw[<-LD];exact aF ⟨by simp_all,rfl,a⟩
theorem JO(h:n<=1000000):Ol (.int 1) (.int n)=.ok (.int ((2^n:Nat):Int)):=by
 have e:((2^n))=1*2^(n:Int).toNat:=by simp
 rw[e];exact aF ⟨by lia,by lia,by decide⟩
def iN(a b:Nat):Ei (.int a) (.int b)=.ok (.int ((a&&&b:Nat):Int)):=by
 simp
theorem sD(g:Nat)(l:ac):oG (ia l) (.int g)=decide (g∈l):=by
 unfold oG ia;rw[Jw]
 by_cases h:g∈l
 .rw[Jd h,ww];exact⟨g,h,by simp[Gf]⟩
 rw[pe h,AH];intro x a;have:¬ (x:Int)=g:=λz=>h (by grind)
 simp[Gf,this]
theorem sV(V:Nat->D){g:Nat}:∀{l:ac},g∈l->uW (ia l) (l.map V) (.int g)=some (V g)
 |[],h=>nomatch h
 |x::l,h=>by
  show uW (.int x::ia l) (V x::l.map V) _=_;unfold uW;rw[yt,find?_cons]
  by_cases e:x=g
  .simp[Gf,e]
  have:¬ (x:Int)=g:=by lia
  simp only[Gf,beq_eq_false_iff_ne.mpr this];exact sV V<|(qc.mp h).resolve_left λz=>e z.symm
def lK(l:ac)(x:Nat):ia (l++[x])=ia l++[.int x]:=by unfold ia;simp
def zU{a vs:dL}{g:Nat} (h:uW a vs (.int g)=some d):Wa (.Fe false a vs) (.int g)=.ok d:=by
 show aP _ _=_;rw[aF (c:=lc false _=true) rfl,h];rfl
inductive Pw (B:FS) (K:Nat->Prop):Nat->Nat->Prop where
 |one {a b:Nat}:B a b->Pw B K a b
 |mid {a m b:Nat}:K m->Pw B K a m->Pw B K m b->Pw B K a b
theorem Pw.cut{B:FS}{K g:Nat->Prop}{k a b:Nat}(l:∀m,g m->K m\/m=k)(h:Pw B g a b):Pw B K a b\/(Pw B K a k/\Pw B K k b):=by
 induction h with
 |one h=>exact .inl<|.one h
 |mid c _ _ j f=>
  rename_i a m b _ _;rcases l m c with c|rfl
  .rcases j with x|⟨x1,i⟩
   .rcases f with y|⟨e,d⟩
    .exact .inl (.mid c x y)
    exact .inr ⟨.mid c x e,d⟩
   rcases f with y|⟨e,d⟩
   .exact .inr ⟨x1,.mid c i y⟩
   simp_all
  grind
def Pw.mono{B:FS}{K c:Nat->Prop}{a b:Nat}(g:∀m,K m->c m)(h:Pw B K a b):Pw B c a b:=by
 induction h with
 |one h=>exact .one h
 |mid f _ _ e d=>exact .mid (g _ f) e d
def pR(V:tz)(m:Nat):tz:=λr=>if (V r).testBit m=true then V r|||V m else V r
theorem n5{B:FS}{R:Nat->Prop}(o:∀a b,R a->B a b->R b):∀(c ds:ac)(V:tz),(∀k∈c,R k)->(∀r,R r->∀g,(V r).testBit g=true↔Pw B (· ∈ ds) r g)->∀r,R r->∀g,((c.foldl pR V) r).testBit g=true↔Pw B (· ∈ ds++c) r g
 |[],ds,V,_,h,r,d,g=>by simp_all
 |k::c,ds,V,l,h,r,d,g=>by
  have e:ds++k::c=(ds++[k])++c:=by simp
  rw[e];refine n5 o c _ _ (λx n=>l x<|Mb _ n) (λr d g=>?_) r d g
  have i:∀{a b:Nat},Pw B _ a b->Pw B (· ∈ ds++[k]) a b:=λz=>z.mono λm f=>Sf _ f
  unfold pR
  by_cases j:(V r).testBit k=true
  .rw[jb j,Lw,Mw,h r d g,h k (l k qb) g];constructor
   .rintro(z|z)
    .exact i z
    exact .mid (by simp) (i<|(h r d k).mp j)<|i z
   intro z;rcases z.cut (λm f=>by simpa using f) with y|⟨_,y⟩
   .exact .inl y
   exact .inr y
  rw[Pa j,h r d g];constructor
  .exact i
  intro z;rcases z.cut (λm f=>by simpa using f) with y|⟨y,_⟩
  .exact y
  exact absurd ((h r d k).mpr y) j
section
variable{S:am}{rk:ac}{c n:Nat}
def Wo(S:am)(n:Nat):tz:=λr=>(jY (S.getD r [])|||2^r)&&&n
def bEu{g:Nat}:(Wo S n r).testBit g=true↔(r=g\/g∈S.getD r [])/\n.testBit g=true:=by
 unfold Wo;rw[RH,Lw,jZ,Nat.testBit_two_pow,Wk,Mw,qh,qh];exact⟨λh=>⟨h.1.symm,h.2⟩,λh=>⟨h.1.symm,h.2⟩⟩
def bBh(M:Cd S rk c)(o:n<2^S.length) (e:r∈aR n) (g:Nat):(((aR n).foldl pR<|Wo S n) r).testBit g=true↔Hc S c (λg=>n.testBit g) r g:=by
 have m:=n5 (B:=λa b=>(a=b\/b∈S.getD a [])/\n.testBit b=true) (λa b _ h=>aY.mpr h.2) _ [] _ (λk u=>u) (λr _ g=>by
  rw[bEu];constructor
  .exact λh=>.one h
  intro h;cases h with
  |one h=>exact h
  |mid h _ _=>cases h) r e g
 rw[m];clear m;constructor
 .intro h;have v:∀{a b:Nat},Pw (λa b=>(a=b\/b∈S.getD a [])/\n.testBit b=true) (· ∈ aR n) a b->a∈aR n->Hc S c (λg=>n.testBit g) a b:=by
   intro a b h
   induction h with
   |one h=>
    intro d;obtain⟨rfl|i,w⟩:=h
    .exact .here
    obtain⟨l,f,rfl⟩:=(pQ M<|bC o d).mp i;exact .on .here f w
   |mid t _ _ s q=>exact λd=>Hc.trans (s d)<|q t
  exact v h e
 intro h
 induction h with
 |here=>exact .one ⟨.inl rfl,aY.mp e⟩
 |on i f d p=>
  have j:=aY.mpr<|uy (aY.mp e) i;exact .mid j p<|.one ⟨.inr<|(pQ M<|bC o j).mpr ⟨_,f,rfl⟩,d⟩
theorem bEv(M:Cd S rk c)(b:n<2^S.length) (a:r∈aR n):((aR n).foldl pR<|Wo S n) r=qL S c n r:=xw λg=>by
 have e:=(bBh M b a g).trans (qW M (bC b a) g).symm;cases d:(((aR n).foldl pR _) r).testBit g with
 |true=>simp_all
 |false=>
  simp_all
def Sx(a b:Nat):Qm (.int a) (.int b)=.ok (.int ((a|||b:Nat):Int)):=by
 simp
noncomputable def ck(S:am)(n:Nat)(a:ac)(V:tz)(c b:f8):za:=[some<|.v<|.lst<|Wb S,some<|.v<|.int n,some<|.v<|.lst<|ia<|aR n,some<|.o (.d false<|ia a)<|a.map λr=>D.int (V r:Nat),c,b]
def kN{V:tz}{r:Nat}{x:D}(a:r∉ks):uX (ia ks) (.int r)=ia (ks++[r])/\uY (ia ks) (ks.map λr=>D.int (V r:Nat)) (.int r) x=(ks.map λr=>D.int (V r:Nat))++[x]:=by
 have b:oG (ia ks) (.int r)=false:=by rw[sD,pe a]
 unfold uX uY;rw[b,lK];exact⟨rfl,rfl⟩
theorem bJh{V:tz}{r x:Nat}(a:r∈ks):uX (ia ks) (.int r)=ia ks/\uY (ia ks) (ks.map λr=>D.int (V r:Nat)) (.int r) (.int x)=ks.map λk=>D.int ((if k=r then x else V k:Nat):Int):=by
 have b:oG (ia ks) (.int r)=true:=by rw[sD,Jd a]
 unfold uX uY;rw[b];refine⟨rfl,?_⟩;unfold ia;rw[List.zip_map',Dg];refine Xs λk _=>?_
 show (if Gf _ _=true then D.int x else D.int _)=_
 by_cases e:k=r
 .rw[jb e,jb (by rw[e];simp[Gf])]
 have:¬ (k:Int)=r:=by lia
 rw[Pa e,Pa (by simp[Gf,this])]
theorem MD{st:za}{k:D}{a vs:dL}(e:f st=.ok d)(c:g st=.ok k)(hs:st[i]?=some (some<|.o (.d false a) vs))(b:lc false k=true)(h:vs.length<1000):ud i g f st=.ok (.nx<|st.set i<|some<|.o (.d false<|uX a k)<|uY a vs k d):=by
 unfold ud;rw[e,c,hs];exact aF ⟨b,Vr<|by lia⟩
theorem y0(M:Cd S rk c):∀(b a:ac)(d:f8),(a++b).Nodup->(∀r∈a++b,r<S.length)->∃h,pb (gb 4) LX (ia b) (ck S n a (Wo S n) d none)=.ok (.nx<|ck S n (a++b) (Wo S n) h none)
 |[],a,d,_,_=>⟨d,by rw[Nh];rfl⟩
 |r::b,a,d,f,g=>by
  have s:=M.most;have k:a++r::b=(a++[r])++b:=by simp
  rw[k]at f g;obtain⟨h,e⟩:=y0 M b _ _ f g;refine⟨h,?_⟩;rw[k];have j:=g r (by simp)
  have u:=fJ S.length a (Xl.mp (Xl.mp f).1).1 λx i=>g x (by simp[i])
  have q:S.getD r []=S[r]:=by rw[bf,Kc j];rfl
  have l:=M.row S[r] (Vg j);have t:=M.c3;obtain⟨o,m⟩:=kN<|λz=>(Xl.mp (Xl.mp f).1).2.2 r z r (Hd.mpr rfl) rfl
  refine dO rfl ?_ e;have p:e2 Ei (e2 Qm (aO kI<|aC (e2 Wa (aA 0)<|aA 4) aQ)<|e2 Ol (eI 1)<|aA 4) (aA 1) (ck S n a (Wo S n) r none)=.ok (.int<|Wo S n r):=by
   unfold Wo;rw[q];exact aG (aG (aK (aN (aG rfl rfl<|dR<|tq j) rfl)<|Vu (λx i=>by have:=l.2 x i;lia)<|by rw[l.1];lia) (aG rfl rfl<|JO<|by lia)<|Sx _ _) rfl<|iN _ _
  refine(MD p rfl rfl rfl<|by rw[Rb];lia).trans ?_
  rw[o,m];unfold ck;rw[Hg];rfl
def bBi{V:tz} (h:ks.length<1000) (b:r∈ks) (g:m∈ks):vK (ck S n ks V (some<|.v<|.int r)<|some<|.v<|.int m)=.ok (.nx<|ck S n ks (λk=>if k=r then pR V m r else V k) (some<|.v<|.int r)<|some<|.v<|.int m):=by
 have c:e2 Wa (dB 3) (aA 4) (ck S n ks V (some<|.v _)<|some<|.v<|.int m)=.ok _:=aG rfl rfl<|zU<|sV _ b;have t:=aK (aN c<|show aC (aA 5) aQ _=.ok [.int m] from rfl)<|xv (V r) m
 by_cases a:(V r).testBit m=true
 .rw[a]at t;obtain⟨f,d⟩:=bJh b;refine yV t ((MD (aG c (aG rfl rfl<|zU<|sV _ g)<|Sx _ _) rfl rfl rfl<|by rw[Rb];omega).trans ?_)
  rw[f,d];unfold pR;rw[jb a];rfl
 rw[Bool.eq_false_iff.mpr a]at t;refine mZ t ?_
 have:(λk=>if k=r then pR V m r else V k)=V:=funext λk=>by
  by_cases e:k=r
  .rw[jb e,e];unfold pR;rw[Pa a]
  rw[Pa e]
 rw[this];rfl
theorem z0{b:ac}{V:tz}{m:Nat}(p:b.length<1000)(o:m∈b):∀(a:ac)(W:tz)(c:f8),(∀r∈a,r∈b)->W m=V m->(∀r∈a,W r=V r\/W r=pR V m r)->∃d f,pb (gb 4) vK (ia a) (ck S n b W c m)=.ok (.nx<|ck S n b d f m)/\∀r,d r=if r∈a then pR V m r else W r
 |[],W,c,_,_,_=>⟨W,c,rfl,λr=>by rw[Pa (by simp)]⟩
 |r::a,W,c,l,j,q=>by
  have s:pR W m r=pR V m r:=by
   rcases q r qb with h|h
   .unfold pR;rw[h,j]
   unfold pR at h ⊢;grind
  have g:pR V m m=V m:=by
   unfold pR;simp_all
  obtain⟨d,f,e,h⟩:=z0 p o a (λk=>if k=r then pR W m r else W k) _ (λx i=>l x<|Mb _ i) (by
   by_cases e:m=r
   .rw[jb e,s,<-e,g]
   rw[Pa e,j]) (λx i=>by
   grind)
  refine⟨d,f,dO rfl (bBi p (l r qb) o) e,λx=>?_⟩
  grind
def PY{a:ac}{V W:tz}(h:∀k∈a,V k=W k):ck S n a V x4 x5=ck S n a W x4 x5:=by
 unfold ck;rw[Xs λk b=>congrArg (λx:Nat=>D.int x)<|h k b]
theorem A0(f:(aR n).length<1000):∀(b:ac)(V:tz)(a c:f8),(∀m∈b,m∈aR n)->∃l s,pb (gb 5) MX (ia b) (ck S n (aR n) V a c)=.ok (.nx<|ck S n (aR n) (b.foldl pR V) l s)
 |[],V,a,c,_=>⟨a,c,rfl⟩
 |m::b,V,a,c,d=>by
  obtain⟨W,j,e,h⟩:=z0 f (d m qb) _ V a (λr p=>p) rfl λr _=>.inl rfl
  obtain⟨i,g,t⟩:=A0 f b _ j _ λx o=>d x<|Mb _ o
  refine⟨i,g,dO rfl (dU rfl e) ?_⟩
  rwa [PY λk q=>by rw[h k,jb q]]
theorem U1(M:Cd S rk c)(a:n<2^S.length):lR [.lst<|Wb S,.int n]=.ok (.Fe false (ia<|aR n)<|(aR n).map λr=>D.int (qL S c n r:Nat)):=by
 have i:=M.most;have j:=fJ S.length _ (cU _) λx b=>bC a b
 obtain⟨x4,e1⟩:=y0 M (aR n) [] none (cU n) λr d=>bC a d
 obtain⟨h,g,e2⟩:=A0 (by lia) (aR n) _ x4 none λm e=>e
 refine bL rfl<|aH (bB<|aK rfl<|jE a<|by lia)<|aH rfl<|aH (dU rfl e1)<|aH (dU rfl e2) ?_
 rw[PY λk f=>bEv M a f]
 rfl
end
noncomputable def gC(S:am)(c n r:Nat):Nat:=jY<|(aR<|qL S c n r).filter λg=>(qL S c n g).testBit r
def Yb(S:am)(m:Nat):Bool:=decide (1<(aR m).length)||decide ((aR m).headD 0∈S.getD ((aR m).headD 0) [])
noncomputable def dM(S:am)(c n:Nat):ac:=(aR n).foldl (λa r=>if gC S c n r∉a/\Yb S (gC S c n r)=true then a++[gC S c n r] else a) []
section
variable{S:am}{rk:ac}{c n:Nat}
def Wu{n:Nat}:gC S c n r<2^S.length:=zT λg a=>bC Hx (Vf.mp a).1
theorem bEw(M:Cd S rk c) (d:m<2^S.length) (j:m≠0):uI [.lst<|Wb S,.int m]=.ok (.bl<|Yb S m):=by
 have k:=M.most;have e:=jE d (by lia)
 obtain⟨r,T,a⟩:∃r T,aR m=r::T:=by
  cases h:aR m with
  |nil=>
   refine absurd ?_ j;have:=pB m;rw[h]at this;exact this.symm
  |cons r T=>exact⟨r,T,rfl⟩
 rw[a]at e;have g:=bC d (by rw[a];exact qb)
 refine bL rfl<|aH (bB<|aK rfl e)<|cD ?_;have f:e1 iD (aA 2) [D.lst<|Wb S,m,D.lst<|ia<|r::T]=.ok (.int<|(T.length+1)):=by
  show R.ok _=_;rw[bI];rfl
 have b:e2 Wa (aA 2) (eI 0) [D.lst<|Wb S,m,D.lst<|ia<|r::T]=.ok (.int r):=aG rfl rfl<|dR<|Qb<|succ_pos _;have i:S.getD r []=S[r]:=by simp_all
 refine qK (Fs (aG f rfl rfl) λ_=>aG b (aG rfl b<|dR<|tq g)<|bOt r S[r]) ?_
 unfold Yb;rw[a];show (decide _||decide _)=(decide (1<T.length+1)||decide (r∈S.getD r []))
 rw[i];congr 1;exact xo.mpr (by lia)
noncomputable def BB(S:am)(c n:Nat)(ps:ac)(b a:f8):za:=[some<|.v<|.lst<|Wb S,some<|.v<|.int n,some<|.v<|.Fe false (ia<|aR n)<|(aR n).map λr=>D.int (qL S c n r:Nat),some<|.o .l<|ia ps,b,a,none]
theorem aVz(M:Cd S rk c)(o:n<2^S.length) (b:r∈aR n) (ps:ac) (m:ps.length<=1000) (i:f8):∃q,tK (BB S c n ps r i)=.ok (.nx<|BB S c n (if gC S c n r∉ps/\Yb S (gC S c n r)=true then ps++[gC S c n r] else ps) r q):=by
 have s:=M.most;have f:=bC o b;have e:∀{g:Nat},g∈aR n->uW _ _ _=some _:=λ{g} h=>sV (λr=>D.int<|qL S c n r) h
 have u:(aR<|qL S c n r).length<=S.length:=fJ S.length _ (cU _) λx l=>bC Hx l
 obtain⟨k,j,_⟩:=iW ps;refine⟨some<|.v<|.int<|gC S c n r,aH (bB<|aK (aN (gF (kY<|aK (aN (aG rfl rfl<|zU<|e b) rfl)<|jE Hx<|by lia) (by rw[bI];lia)<|pP _<|λg a=>⟨_,rfl,aK (aN (aG rfl rfl<|zU<|e<|(λg a=>aY.mpr<|uy (aY.mp b)<|(qW M f g).mp<|aY.mp a) g a) rfl)<|xv _ r,rfl⟩) rfl)<|Vu (λg a=>by have:=bC Hx (Vf.mp a).1;lia) (by have:=yw (λg=>(qL S c n g).testBit r)<|aR<|qL S c n r;lia)) ?_⟩
 have t:=rq (st:=BB S c n ps r<|gC S c n r) (aG (f:=aA 5) (g:=dB 3) rfl rfl<|show tE (.int<|gC S c n r) (.lst<|ia ps)=.ok (.bl<|!decide (gC S c n r∈ps)) by rw[<-LD];exact aF ⟨by rw[j];exact Ef 60,rfl,k⟩) λ_=>aK (r:=aC (aA 0)<|aC (aA 5) aQ) rfl<|bEw M Wu (λz=>by
  have:(gC S c n r).testBit r=true:=by
   unfold gC;rw[jZ,qh,Vf];have d:(qL S c n r).testBit r=true:=(qW M f r).mpr .here;exact⟨aY.mpr d,d⟩
  rw[z,Az]at this;cases this)
 by_cases h:gC S c n r∉ps/\Yb S (gC S c n r)=true
 .rw[jb h];refine yV (qK t<|by rw[pe h.1,h.2];rfl) ?_
  rw[tR rfl rfl (by rw[bI];lia),<-lK]
  rfl
 rw[Pa h];refine mZ (qK t ?_) rfl;cases p:Yb S _ with
 |false=>rw[YR]
 |true=>rw[Jd<|Uc λz=>h ⟨z,p⟩];rfl
theorem QY(M:Cd S rk c)(f:n<2^S.length):∀(a:ac)(ps:ac)(d b:f8),(∀r∈a,r∈aR n)->ps.length+a.length<=1000->∃j e,pb (gb 4) tK (ia a) (BB S c n ps d b)=.ok (.nx<|BB S c n (a.foldl (λps r=>if gC S c n r∉ps/\Yb S (gC S c n r)=true then ps++[gC S c n r] else ps) ps) j e)
 |[],ps,d,b,_,_=>⟨d,b,rfl⟩
 |r::a,ps,d,b,h,l=>by
  obtain⟨e,e1⟩:=aVz M f (h r qb) ps (by lia) b
  obtain⟨i,g,e2⟩:=QY M f a (if gC S c n r∉ps/\Yb S _=true then ps++[gC S c n r] else ps) _ e (λr k=>h r<|Mb _ k) (by
   grind)
  exact⟨i,g,dO rfl e1 e2⟩
theorem GY(M:Cd S rk c)(a:n<2^S.length):mU [.lst<|Wb S,.int n]=.ok (.lst<|ia<|dM S c n):=by
 have g:=M.most;have i:=fJ S.length _ (cU _) λx b=>bC a b
 obtain⟨f,d,e⟩:=QY M a _ [] none none (λ_ h=>h) (by simp;lia)
 exact bL rfl<|aH (bB<|aK rfl<|U1 M a)<|aH (iC<|fU rfl)<|aH (dU (kY<|aK rfl<|jE a<|by lia) e) rfl
def Hc.mono{d:At}(m:∀g,al g=true->d g=true){a b:Nat}(h:Hc S c al a b):Hc S c d a b:=by
 induction h with
 |here=>exact .here
 |on _ f i e=>exact .on e f<|m _ i
def ng(n:Nat):At:=λg=>n.testBit g
def yj(S:am)(c n a b:Nat):Prop:=Hc S c (ng n) a b/\Hc S c (ng n) b a
def iQ(M:Cd S rk c){g:Nat}(b:r<S.length):(gC S c n r).testBit g=true↔yj S c n r g:=by
 unfold gC;rw[jZ,qh,Vf,aY,qW M b];constructor
 .rintro⟨a,d⟩;exact⟨a,(qW M (xH M b a) r).mp d⟩
 rintro⟨a,d⟩;exact⟨a,(qW M (xH M b a) r).mpr d⟩
def V1(M:Cd S rk c){g:Nat}(f:r<S.length)(h:Hc S c (ng n) r g)(b:Hc S c (ng n) g r):Hc S c (ng<|gC S c n r) r g:=by
 induction h with
 |here=>exact .here
 |on i a d e=>
  exact .on (e<|Hc.trans (.on .here a d) b) a<|(iQ M f).mpr ⟨.on i a d,b⟩
def yj.symm{a b:Nat}(h:yj S c n a b):yj S c n b a:=⟨h.2,h.1⟩
theorem yj.trans{a b d:Nat}(f:yj S c n a b)(e:yj S c n b d):yj S c n a d:=⟨Hc.trans f.1 e.1,Hc.trans e.2 f.2⟩
theorem WL(M:Cd S rk c){g:Nat}(a:r<S.length)(h:yj S c n r g):gC S c n g=gC S c n r:=xw λx=>by
 have e:(gC S c n g).testBit x=true↔(gC S c n r).testBit x=true:=by
  rw[iQ M<|xH M a h.1,iQ M a];exact⟨λz=>h.trans z,λz=>h.symm.trans z⟩
 cases b:(gC S c n g).testBit x with
 |true=>simp_all
 |false=>
  simp_all
def ph(S:am)(c n:Nat):Prop:=n≠0/\(∀a∈aR n,∀b∈aR n,Hc S c (ng n) a b)/\Yb S n=true
theorem B0(f:tz)(q:At):∀(a ps:ac)(m:Nat),m∈a.foldl (λps r=>if f r∉ps/\q (f r)=true then ps++[f r] else ps) ps↔m∈ps\/∃r∈a,f r=m/\q m=true
 |[],ps,m=>by simp
 |r::a,ps,m=>by
  rw[Yk,B0 f q a];grind
def fW:m∈dM S c n↔∃r∈aR n,gC S c n r=m/\Yb S m=true:=by
 unfold dM;rw[B0 _ _];simp
theorem X1(f:tz)(q:At)(m:Nat):∀(a:ac),(∀r∈a,f r=m)->a.foldl (λps r=>if f r∉ps/\q (f r)=true then ps++[f r] else ps) [m]=[m]
 |[],_=>rfl
 |r::a,h=>by
  rw[Yk,Pa λz=>z.1 (by rw[h r qb];simp)]
  exact X1 f q m a λr b=>h r<|Mb _ b
def ND(M:Cd S rk c) (b:n<2^S.length) (a:r∈aR n) {g:Nat} (d:g∈aR (gC S c n r)):g∈aR n:=by
 exact aY.mpr<|uy (aY.mp a) ((iQ M<|bC b a).mp<|aY.mp d).1
def Y1(M:Cd S rk c) (b:n<2^S.length) (a:r∈aR n):r∈aR (gC S c n r):=aY.mpr<|(iQ M<|bC b a).mpr ⟨.here,.here⟩
theorem bBj(M:Cd S rk c)(j:n<2^S.length):dM S c n=[n]↔ph S c n:=by
 constructor
 .intro h;have m:n∈dM S c n:=by rw[h];simp
  obtain⟨r,d,e,i⟩:=fW.mp m;have l:=bC j d;exact⟨(λz=>by rw[z,aY,Az]at d;cases d),λa p b o=>Hc.trans ((iQ M l).mp<|by rw[e];exact aY.mp p).2 ((iQ M l).mp<|by rw[e];exact aY.mp o).1,i⟩
 rintro⟨s,f,i⟩;have all:∀r∈aR n,gC S c n r=n:=λr d=>xw λg=>by
  have e:(gC S c n r).testBit g=true↔n.testBit g=true:=by
   rw[iQ M<|bC j d];constructor
   .exact λz=>uy (aY.mp d) z.1
   exact λz=>⟨f r d g<|aY.mpr z,f g (aY.mpr z) r d⟩
  cases q:(gC S c n r).testBit g with
  |true=>exact(e.mp q).symm
  |false=>
   grind
 unfold dM;cases h:aR n with
 |nil=>
  refine absurd ?_ s;have:=pB n;rw[h]at this;exact this.symm
 |cons r T=>
  rw[h]at all;have k:=all r qb;rw[Yk,jb ⟨by simp,by rwa [k]⟩,k]
  exact X1 _ _ n T λr d=>all r<|Mb _ d
def yX(M:Cd S rk c) (g:n<2^S.length) (f:r∈aR n) (j:Yb S (gC S c n r)=true):ph S c (gC S c n r):=by
 have d:=bC g f;refine⟨(λz=>by have:=Y1 M g f;rw[z,aY,Az]at this;cases this),λa ha b hb=>?_,j⟩
 have e:=(iQ M d).mp<|aY.mp ha;have i:=(iQ M d).mp<|aY.mp hb;have h:=V1 M (xH M d e.1) e.2 e.1;rw[WL M d e]at h;exact Hc.trans h<|V1 M d i.1 i.2
def nN(M:Cd S rk c){m:Nat}(j:n<2^S.length)(i:ph S c m)(hs:∀g∈aR m,g∈aR n)(e:r∈aR m):∀g∈aR m,g∈aR (gC S c n r):=λg d=>by
 have f:∀{a b:Nat},Hc S c (ng m) a b->Hc S c (ng n) a b:=λh=>Hc.mono (λg d=>aY.mp<|hs g<|aY.mpr d) h
 exact aY.mpr<|(iQ M<|bC j<|hs r e).mpr ⟨f<|i.2.1 r e g d,f<|i.2.1 g d r e⟩
end
def qD(p:wf):D:=.tup [.int (p.1:Nat),.int (p.2:Nat)]
def rm(S T:am)(p:wf):jp:=(S.getD p.1 []).zip<|T.getD p.2 []
def Kl(n m:Nat)(p:wf):Prop:=p.1<n/\p.2<m
theorem g9(p q:wf):Oc (qD p) (qD q)=decide (p=q):=by
 simp[qD,Oc,oH];grind
theorem CF(p q:wf):Gf (qD p) (qD q)=decide (p=q):=by
 simp[qD,Gf,ao];grind
theorem i9(f:Do)(g:wf)(h:∀p,f (qD p)=decide (p=g))(a:jp):(a.map qD).any f=decide (g∈a):=by
 rw[Jw];grind
def bV3(g:wf)(a:jp):inD (qD g) (a.map qD)=decide (g∈a):=i9 _ g (λp=>g9 p g) a
def j9(g:wf)(a:jp):oG (a.map qD) (qD g)=decide (g∈a):=i9 _ g (λp=>CF p g) a
theorem o5(a:jp):dJ (a.map qD)=true/\jV (a.map qD)<=1:=by
 induction a with
 |nil=>simp
 |cons p a b=>
  obtain⟨c,d⟩:=b;rw[gf];refine⟨by rw[ť,c];simp[qD],?_⟩
  conv=>lhs;unfold jV
  have:Ff (qD p)=1:=by simp[qD,Ff,jV]
  lia
theorem OP:∀(r t:ac),so (ia r) (ia t)=(r.zip t).map qD
 |[],t=>by simp[ia,so]
 |a::r,[]=>by simp[ia,so]
 |a::r,b::t=>by
  have:=OP r t;unfold ia at this ⊢;rw[gf,gf,so,this];rfl
def cP(p:wf):Go:=(p.1,p.2)
theorem m9:∀a:jp,Au (a.map qD)=.ok (a.map cP)
 |[]=>rfl
 |p::a=>by
  rw[gf,qD,Au,m9 a];rfl
section
def bJi{p:wf}(a:Kl S.length T.length p):(rm S T p).map qD=so (ia<|S[p.1]'a.1) (ia<|T[p.2]'a.2):=by
 rw[OP];unfold rm;rw[bf,Kc a.1,Fz,bf,Kc a.2,Fz]
end
theorem bV4{a:jp}{i:Nat}{p:wf}(h:a[i]?=some p):yd (a.map qD) (i:Int)=some (qD p):=by
 obtain⟨c,b⟩:=Ee.mp h;rw[Qb (by simp_all),jt,b]
def Z1{st:za}{a:jp}{vs:dL}{p:wf} (j:f st=.ok d) (h:g st=.ok (qD p)) (hs:st[i]?=some (some<|.o (.d true<|a.map qD) vs)) (c:p∉a) (e:vs.length<1000000):ud i g f st=.ok (.nx<|st.set i<|some<|.o (.d true<|(a++[p]).map qD)<|vs++[d]):=by
 have b:oG (a.map qD) (qD p)=false:=by rw[j9,pe c]
 unfold ud;rw[j,bT,h,bT,hs];have e1:uX (a.map qD) (qD p)=(a++[p]).map qD:=by
  unfold uX;rw[b,Hg];rfl
 have e2:uY (a.map qD) vs (qD p) d=vs++[d]:=by
  unfold uY;rw[b];rfl
 dsimp only;rw[aF ⟨rfl,Vr<|Yq e<|by decide⟩,e1,e2]
theorem get_map(h:Nat×Nat->D){p:wf}:∀{a:jp},p∈a->uW (a.map qD) (a.map h) (qD p)=some (h p)
 |q::a,b=>by
  unfold uW;rw[gf,gf,yt,find?_cons,CF]
  by_cases e:q=p
  .simp_all
  rw[pe e];exact get_map h<|(qc.mp b).resolve_left<|vg e
section
variable{S T:am}{rk ib:ac}{c c' l r i:Nat}{ja:jp}
def ku(S T:am)(p:wf):D:=.lst<|(rm S T p).map qD
def Cp(S T:am)(e d:D)(a:jp)(c b:f8):za:=[some<|.v e,some<|.v d,some<|.o (.d true<|a.map qD)<|a.map<|ku S T,c,b]
theorem bEy(b:l<S.length)(a:r<T.length)(d:(l,r)∉ja)(e:ja.length<1000):qQ (Cp S T (mD S rk c) (mD T ib c') ja l r)=.ok (.nx<|Cp S T (mD S rk c) (mD T ib c') (ja++[(l,r)]) l r):=by
 show ud 2 _ _ _=_;rw[(Z1 (d:=ku S T (l,r))
  (aG (aG gO rfl<|dR<|tq b) (aG gO rfl<|dR<|tq a)<|by unfold ku;rw[bJi ⟨b,a⟩];rfl) (by simp[qD,Cp]) rfl d (by rw[Rb];lia))]
 unfold Cp;rw[Hg (f:=ku S T)];rfl
theorem P7(f:l<S.length):∀(k r:Nat) (a:jp) (b:f8),r+k=T.length->(∀p∈a,p.1<l\/(p.1=l/\p.2<r))->a.length+k<=1000->
  ∃d,pb (gb 4) qQ ((List.range' r k).map λ(k:Nat)=>D.int (k:Int)) (Cp S T (mD S rk c) (mD T ib c') a l b)=.ok (.nx<|Cp S T (mD S rk c) (mD T ib c') (a++(List.range' r k).map (Prod.mk l)) l d)
 |0,r,a,b,_,_,_=>⟨b,by simp[pb]⟩
 |k+1,r,a,b,m,g,j=>by
  obtain⟨d,e⟩:=P7 f k (r+1) (a++[(l,r)]) _ (by lia) (λp i=>by
   grind) (by rw[Ud,Ug];lia)
  refine⟨d,?_⟩;rw[Bh]at e;exact dO rfl (bEy f (by lia) (λz=>by rcases g _ z with h|h<;>simp at h)<|by lia) e
def ij(n m l k:Nat):jp:=(List.range' l k).flatMap λl=>(List.range' 0 m).map<|Prod.mk l
theorem p5(m:T.length<=8):∀(k l:Nat) (a:jp) (d b:f8),l+k=S.length->(∀p∈a,p.1<l)->a.length+8*k<=1000->
  ∃o i,pb (gb 3) yM ((List.range' l k).map λ(k:Nat)=>D.int (k:Int)) (Cp S T (mD S rk c) (mD T ib c') a d b)=.ok (.nx<|Cp S T (mD S rk c) (mD T ib c') (a++ij S.length T.length l k) o i)
 |0,l,a,d,b,_,_,_=>⟨d,b,by simp[ij]⟩
 |k+1,l,a,d,b,r,j,q=>by
  obtain⟨h,e1⟩:=P7 (S:=S) (T:=T) (by lia) T.length 0 a b (by lia) (λp e=>.inl<|j p e) (by lia)
  obtain⟨g,f,e2⟩:=p5 m k (l+1) (a++(List.range' 0 T.length).map (Prod.mk l)) _ h (by lia) (λp e=>by
   grind) (by grind)
  refine⟨g,f,?_⟩;have n:a++ij S.length T.length l (k+1)=(a++(List.range' 0 T.length).map (Prod.mk l))++ij S.length T.length (l+1) k:=by
   unfold ij;rw[List.range'_succ,List.flatMap_cons,Bh]
  rw[n];refine dO rfl (dU (yW (n:=T.length) ?_<|by lia) ?_) e2
  .exact lJ
  rwa [iz]
theorem YL{p:wf}:p∈ij n m 0 n↔Kl n m p:=by
 unfold ij Kl;grind
theorem C2(n m:Nat):∀(k l:Nat),(ij n m l k).length=k*m
 |0,l=>by simp[ij]
 |k+1,l=>by
  have:=C2 n m k<|l+1;unfold ij at this ⊢;rw[List.range'_succ,List.flatMap_cons,Ud,this,Rb,Fw,MH,Iw]
def cw(S T:am):D:=.Fe true ((ij S.length T.length 0 S.length).map qD)<|(ij S.length T.length 0 S.length).map<|ku S T
theorem bBl(M:Va S rk c)(a:Va T ib c'):pK [mD S rk c,mD T ib c']=.ok (cw S T):=by
 have d:=M.most;obtain⟨b,x4,e⟩:=p5 (S:=S) a.most S.length 0 [] none none (by lia) (λ_ h=>nomatch h) (by simp;lia)
 refine bL rfl<|aH rfl<|aH (dU (yW lJ<|by lia)<|by rwa [iz]) ?_
 simp[Cp,Ir,cw]
end
def cf(S T:am)(p:wf)(k:Nat):wf:=(xc S p.1 k,xc T p.2 k)
theorem pairs_len{l:jp}(d:l.Nodup)(h:∀p∈l,Kl n m p){k:Nat}(o:n<=k)(q:m<=8):l.length<=8*k:=by
 simpa using (fJ (8*k) (l.map λp=>8*p.1+p.2) (by
  unfold Nodup;rw[OH];exact d.imp_of_mem λ{a b} g mf c z=>c (by
   have j:=h a g;have i:=h b mf;unfold Kl at j i;exact Prod.ext (by lia)<|by lia)) λx e=>by
  obtain⟨p,f,rfl⟩:=gd.mp e;have:=h p f;unfold Kl at this;lia)
section
variable{S T:am}{rk ib:ac}{c l r i:Nat}{ja:v6}
abbrev B2(S T:am)(c l r i j:Nat)(a:v6):Prop:=BG (cf S T) (l,r) c (Kl S.length T.length) i j a
def n9(M:Va S rk c)(f:Va T ib c)(p:wf)(k:Nat)(a:Kl S.length T.length p)(b:k<c):Kl S.length T.length (cf S T p k):=by
 obtain⟨_,_,_,e⟩:=xG M.w a.1 b;obtain⟨_,_,_,d⟩:=xG f.w a.2 b;exact⟨e,d⟩
def pE(M:Va S rk c) (a:q<S.length):(S.getD q []).length=c:=by
 rw[bf,Kc a,Fz,(M.row _<|Vg a).1]
def OD(M:Va S rk c)(b:Va T ib c){p:wf}(a:Kl S.length T.length p):(rm S T p).length=c:=by
 unfold rm;rw[List.length_zip,pE M a.1,pE b a.2,Nat.min_self]
theorem Q7(M:Va S rk c)(b:Va T ib c){p:wf}(a:Kl S.length T.length p){k:Nat}(f:k<(rm S T p).length):(rm S T p)[k]=cf S T p k:=by
 have d:=OD M b a;have e:(rm S T p)[k]=((S.getD p.1 [])[k]'(by rw[pE M a.1];lia),(T.getD p.2 [])[k]'(by rw[pE b a.2];lia)):=List.getElem_zip
 rw[e];unfold cf xc;rw[ bf (l:=S.getD p.1 []),bf (l:=T.getD p.2 []),Kc _,Kc _];rfl
def kQ(a:v6):dL:=a.map λx=>qD x.1
def wQ(a:v6):dL:=a.map λx=>D.str x.2
def DF(a:v6):kQ a=(a.map (·.1)).map qD:=by rw[Dg];rfl
def vm(S T:am)(l r:Nat)(a:v6)(i:Nat)(d c b:f8):za:=
 [some<|.v<|cw S T,some<|.v<|qD (l,r),some<|.v<|.lst<|(ij S.length T.length 0 S.length).map qD,some<|.o (.d true<|kQ a)<|wQ a,some<|.o .l<|kQ a,some<|.v<|.int i,d,c,b]
def B2.len(b:B2 S T c l r i j ja)(e:S.length<=8)(f:T.length<=8):ja.length<=64:=by
 have:=pairs_len b.nd (λp d=>by obtain⟨x,a,rfl⟩:=gd.mp d;exact(b.lt x a).1) e f
 rwa [Rb]at this
theorem bF1(M:Va S rk c)(f:Va T ib c){x:(wf)×List Nat} (b:B2 S T c l r i j ja) (a:ja[i]?=some x) (o:j<c) :
  kJ (vm S T l r ja i (qD x.1) (D.str [97+j])<|qD<|cf S T x.1 j)=.ok (.nx<|vm S T l r (Ap ja (cf S T x.1 j)<|x.2++[97+j]) i (qD x.1) (D.str [97+j])<|qD<|cf S T x.1 j):=by
 obtain⟨n,s⟩:=o5 _;have e:=jg a;have u:=b.len M.most f.most;have w:=(Ee.mp a).1;have v:=b.wl i x a;have d:=n9 M f x.1 j (b.lt x e).1 o;generalize p:cf S T x.1 j=g at d;have m:e2 br (aA 8) (aA 2) (vm S T l r ja i (qD x.1) (D.str [97+j])<|qD g)=.ok (.bl true):=aG rfl rfl (by
  have:=bV3 g<|ij S.length T.length 0 S.length;rw[Jd<|YL.mpr d]at this;rw[<-this];exact aF ⟨by lia,by simp[qD],n⟩)
 have k:e2 tE (aA 8) (dB 3) (vm S T l r ja i (qD x.1) (D.str [97+j])<|qD g)=.ok (.bl<|!decide _):=aG rfl rfl (by rw[<-j9,<-DF];exact aF rfl)
 have t:=rq m λ_=>k
 unfold Ap
 by_cases h:g∈ja.map (·.1)
 .rw[jb h];exact mZ (qK t<|by rw[Jd h];rfl) rfl
 rw[Pa h];refine yV (qK t<|by rw[pe h];rfl)<|aH (Z1 (by
  refine aG (x:=.str x.2) (aG rfl rfl ?_) rfl<|aF<|cO<|by show x.2.length+1<=_;lia
  show aP _ _=_;rw[aF (c:=lc true _=true) rfl,show uW (kQ ja) (wQ ja) _=_ from EG qD CF b.nd e]
  rfl) rfl (by rw[<-DF];rfl) h<|by unfold wQ;rw[Rb];lia) ?_
 have q:=tR (i:=4) (f:=aA 8) (st:=(vm S T l r ja i (qD x.1) (D.str [97+j])<|qD g).set 3 (some (.o (.d true ((ja.map (·.1)++[g]).map qD))<|wQ ja++[.str<|x.2++[97+j]]))) rfl rfl (by unfold kQ;rw[Rb];lia)
 rw[q];unfold vm kQ wQ;simp only[List.map_append,List.map_map];rfl
theorem E2(h:j<3):[97,98,99].drop j=(97+j)::[97,98,99].drop (j+1):=by
 have:j=0\/j=1\/j=2:=by lia
 rcases this with rfl|rfl|rfl<;>rfl
theorem R7(M:Va S rk c)(f:Va T ib c){x:(wf)×List Nat}:∀(k j:Nat) (d:v6) (m h:f8),j+k=c->B2 S T c l r i j d->d[i]?=some x->
  ∃g u t,pb (nh [7,8]) kJ (oo ([97,98,99].drop j)<|((rm S T x.1).drop j).map qD) (vm S T l r d i (qD x.1) m h)=.ok (.nx<|vm S T l r g i (qD x.1) u t)/\B2 S T c l r i c g/\g[i]?=some x
 |0,j,d,m,h,v,b,a=>by
  obtain rfl:j=c:=by lia
  refine⟨d,m,h,?_,b,a⟩;rw[ZQ (l:=rm S T x.1) (by rw[OD M f (b.lt x<|jg a).1];exact Pb _)]
  cases [97,98,99].drop j<;>rfl
 |k+1,j,d,m,h,v,b,a=>by
  have z:=M.c3;have p:j<c:=by lia
  have o:=(b.lt x<|jg a).1;have n:j<(rm S T x.1).length:=by rwa [OD M f o]
  obtain⟨g,s,q,e,w,y⟩:=R7 M f k (j+1) _ _ _ (by lia) (b.turn (n9 M f) a p)<|GO a
  refine⟨g,s,q,?_,w,y⟩;rw[E2 (by lia),Ws n,Q7 M f o]
  exact dO rfl (bF1 M f b a p) e
theorem t5(M:Va S rk c)(q:Va T ib c):∀(k i:Nat) (a:v6) (n m j:f8) (f:Nat),65<=k+i->k<=f->B2 S T c l r i 0 a->i<=a.length->
  ∃p J z y,jA mW wY f (vm S T l r a i n m j)=.ok (.nx<|vm S T l r p p.length J z y)/\B2 S T c l r p.length 0 p
 |0,i,a,n,m,j,f,B,D,b,C=>by have:=b.len M.most q.most;lia
 |k+1,i,a,n,m,j,f,B,D,b,C=>by
  obtain⟨f,rfl⟩:∃g,f=g+1:=⟨f-1,by lia⟩
  have d:mW (vm S T l r a i n m j)=.ok _:=aG rfl rfl rfl;rw[show (kQ a).length=a.length by unfold kQ;simp]at d
  by_cases h:i<a.length
  .have o:=Kc h;generalize a[i]=x at o;obtain⟨I,w,v,e,G,A⟩:=R7 M q c 0 a m j (by lia) b o
   have K:=(Ee.mp A).1;obtain⟨H,u,t,s,E,F⟩:=t5 M q k (i+1) I _ w v f (by lia) (by lia) G.next (by lia)
   refine⟨H,u,t,s,pO (qK d<|bw h) (aH (bB<|aG rfl rfl<|dR<|by rw[DF];exact bV4<|by rw[rh,o];rfl)<|aH (dU ?_ e)<|bB rfl) E,F⟩
   show ((e2 Wa _ _) _).bind _=_;rw[aG (z:=.ok _) rfl rfl (by
    show aP _ _=_;rw[aF (c:=lc true _=true) rfl,get_map _<|YL.mpr<|(b.lt x<|jg o).1];rfl)]
   rfl
  have:i=a.length:=by lia
  subst this;exact⟨a,n,m,j,pA<|qK d<|DG h,b⟩
theorem bF3(M:Va S rk c)(g:Va T ib c)(f:l<S.length)(d:r<T.length):∃a,lF [cw S T,qD (l,r),.lst<|(ij S.length T.length 0 S.length).map qD]=.ok (.Fe true (kQ a)<|wQ a)/\B2 S T c l r a.length 0 a:=by
 obtain⟨a,j,i,h,e,b⟩:=t5 M g 65 0 [((l,r),[])] none none none 100000 (by lia) (by lia) (BG.start ⟨f,d⟩)<|Ef _
 refine⟨a,bL rfl<|aH (st':=[cw S T,qD (l,r),D.lst<|(ij S.length T.length 0 S.length).map qD,some<|.o (.d true [qD (l,r)]) [.str []],none,none,none,none,none]) ?_ ?_,b⟩
 .exact bOp (aF ⟨rfl,rfl⟩)
 refine aH (iC<|fU rfl)<|aH (bB rfl)<|aH (by rwa [nL]) ?_
 simp[vm]
end
theorem EF{b:Type}{C E:Ex}{st:za}{j:Nat}(F G:b->D){q:b->Bool}:∀l:List b,(∀a∈l,C (st.set j<|F a)=.ok (.bl<|q a)/\(q a=true->E (st.set j<|F a)=.ok (G a)))->jL (gb j) C E st (l.map F)=.ok ((l.filter q).map G)
 |[],_=>rfl
 |a::l,h=>by
  obtain⟨d,f⟩:=h a qb;rw[gf,jO,show gb j (F a) st=.ok _ from rfl,bT,d,bT,oy,EF F G l λa c=>h a<|Mb _ c]
  cases e:q a with
  |true=>
   simp_all
  |false=>
   grind
theorem xJ{E:Ex}{st:za} (F G:α->D) {l:List α} (h:it st=.ok (l.map F)) (d:l.length<=1000000) (c:∀a∈l,E ((st.set j none).set j<|F a)=.ok (G a)):cJ [j] (gb j) it cV E st=.ok (.lst<|l.map G):=by
 have:=EF (C:=cV) F G l λa b=>⟨rfl,λ_=>c a b⟩
 rw[ZG.mpr λ_ _=>rfl]at this
 exact gF h (by simp_all) this
def bOu(L:jp):∃a:jp,(ZF<|L.map cP).map pD=a.map qD/\a.Perm L:=by
 have b:=bBb<|L.map cP;refine⟨(ZF<|L.map cP).map λp=>(p.1.toNat,p.2.toNat),?_,?_⟩
 .rw[Dg];refine Xs λp c=>?_
  obtain⟨q,_,rfl⟩:=gd.mp<|b.mem_iff.mp c;rfl
 have:=b.map λp:Int×Int=>(p.1.toNat,p.2.toNat)
 rw[Dg]at this;have e:L.map ((λp:Int×Int=>(p.1.toNat,p.2.toNat)) ∘ cP)=L:=by
  conv=>rhs;rw[<-List.map_id L]
  exact Xs λp _=>rfl
 rwa [e]at this
section
variable{S T:am}{rk ib:ac}{c l r:Nat}
structure Sd(S T:am)(c l r:Nat)(sq:jp)(fr:Is):Prop where
 nd:sq.Nodup
 inr:∀p∈sq,Kl S.length T.length p
 len:sq.length<=64
 cl:∀p∈sq,∀k,k<c->cf S T p k∈sq
 lead:∀p∈sq,Mf (cf S T) (l,r) (fr p)=p/\Mc c (fr p)/\(fr p).length<=64
 all:∀v,Mc c v->Mf (cf S T) (l,r) v∈sq
def uS(S T:am)(c:Nat)(a:jp):am:=a.map λp=>(List.range c).map λk=>a.idxOf<|cf S T p k
def Cn(rk:ac)(a:jp):ac:=a.map λp=>rk.getD p.1 0
def En(b:ac)(a:jp):ac:=a.map λp=>b.getD p.2 0
def LV(S T:am)(rk b:ac)(c:Nat)(a:jp)(d:Is):D:=.ins "Sides" ["pairs","fronts","steps","lefts","rights"] [.lst<|a.map qD,.lst<|a.map λp=>D.str<|d p,.lst<|Wb<|uS S T c a,.lst<|ia<|Cn rk a,.lst<|ia<|En b a]
def u5:cL "Machine" "ranks" (mD S rk c)=.ok (.lst<|ia rk):=by unfold mD;rw[pF,aF rfl];rfl
def aW0:jX [mD S rk c,mD T ib c]=.ok .Sb:=by
 unfold jX nX;simp[cK]
def KO{x:Nat}(h:x<S.length):cC [mD S rk c,.int x]=.ok .Sb:=by
 unfold cC sO;have:BF S.length (.int x)=true:=by simp[BF,h]
 simp[lJ,(bEm (.int x) S.length rfl),this]
def Qn(x:Nat)(e:wv)(xs:dL)(g f a b:D)(d c:f8):za:=[some<|.o (.i x "Sides" e) xs,some<|.v g,some<|.v f,some<|.v a,some<|.v b,d,c,none,none]
def C0{x:Nat}{h:wv} {d j i a b:D} {g f e c:f8}:e1 (cL "Sides" "pairs") (dB 0) [some<|.o (.i x "Sides"<|"pairs" :: h)<|d::xs,j,i,a,b,g,f,e,c]=.ok d:=by
 show aP _ _=_;rw[aF rfl];rfl
def Tx{x:Nat}{c:wv}{a b:D} {f:String} {e:Ex} (h:e (Qn x c xs m1 m2 a b x5 x6)=.ok d) (g:f∉c/\c.length<900):Ml 0 "Sides" f e (Qn x c xs m1 m2 a b x5 x6)=.ok (.nx<|Qn x (c++[f]) (xs++[d]) m1 m2 a b x5 x6):=by
 rw[O1,h];exact aF ⟨rfl,g⟩
def S7{a vs:dL}{p:wf} (h:uW a vs (qD p)=some d):Wa (.Fe true a vs) (qD p)=.ok d:=by
 show aP _ _=_;rw[aF (c:=lc true (qD p)=true) rfl,h];rfl
theorem bSr{g:wf}(h:g∈sq):(sq.map qD).findIdx? (λd=>Oc d<|qD g)=some (sq.idxOf g):=by
 induction sq with
 |nil=>nomatch h
 |cons p sq a=>
  rw[gf,List.findIdx?_cons,g9];grind
def xK{l:ac}{i:Nat}(h:i<l.length):yd (ia l) (i:Int)=some (.int (l.getD i 0:Nat)):=by
 rw[Qb (by rwa [bI])]
 simp[ia,h]
theorem F2(M:Va S rk c)(n:Va T ib c)(K:S.length<=7)(G:l<S.length)(F:r<T.length):∃a m,jB [mD S rk c,mD T ib c,.int l,.int r]=.ok (LV S T rk ib c a m)/\Sd S T c l r a m:=by
 obtain⟨j,E,b⟩:=bF3 M n G F;obtain⟨a,C,e⟩:=bOu (j.map (·.1));have U:j.length<64:=by
  have:=pairs_len b.nd (λp h=>by obtain⟨x,g,rfl⟩:=gd.mp h;exact(b.lt x g).1) K n.most
  rw[Rb]at this;lia
 have J:a.length<=64:=by rw[e.length_eq,Rb];lia
 have A:∃m:Is,∀x∈j,m x.1=x.2:=by
  refine⟨λp=>((j.find? λx=>decide (x.1=p)).map (·.2)).getD [],λx g=>?_⟩
  have u:=b.nd;clear E b C e U J
  induction j with
  |nil=>nomatch g
  |cons y j N=>
   rw[gf,lj]at u;dsimp only;rw[find?_cons];rcases qc.mp g with rfl|g
   .rw[Jd rfl];rfl
   rw[pe λz:y.1=x.1=>u.1 (by rw[z];exact gd.mpr ⟨x,g,rfl⟩)]
   exact N g u.2
 obtain⟨m,s⟩:=A;have t:∀p∈a,∃x∈j,x.1=p:=λp h=>gd.mp<|e.mem_iff.mp h
 have o:Sd S T c l r a m:=by
  refine⟨e.nodup_iff.mpr b.nd,λp h=>?_,J,λp h k hk=>?_,λp h=>?_,λv hv=>?_⟩
  .obtain⟨x,g,rfl⟩:=t p h;exact(b.lt x g).1
  .obtain⟨x,g,rfl⟩:=t p h;obtain⟨i,q⟩:=Ul.mp g;exact e.mem_iff.mpr<|b.cls i x k q hk<|.inl (Ee.mp q).1
  .obtain⟨x,g,rfl⟩:=t p h;obtain⟨i,q⟩:=Ul.mp g;have H:=b.wl i x q;have O:=(Ee.mp q).1;rw[s x g];exact⟨(b.lt x g).2.1,(b.lt x g).2.2,by lia⟩
  exact e.mem_iff.mpr<|b.whole _ v rfl hv
 refine⟨a,m,(Q4 λx=>?_),o⟩
 unfold Es;rw[aF<|show ([mD S rk c,mD T ib c,D.int l,D.int r]).length=4 from rfl]
 let st (f:wv) (xs:dL):=Qn x f xs (mD S rk c) (mD T ib c) (.int l) (.int r) (cw S T)<|D.Fe true (kQ j)<|wQ j
 have it:∀f xs,Ec (e1 (cL "Sides" "pairs")<|dB 0) (st ("pairs" :: f)<|.lst (a.map qD)::xs)=.ok (a.map qD):=λf xs=>kY C0
 have R:∀f xs,cJ [7] (gb 7) (Ec<|e1 (cL "Sides" "pairs")<|dB 0) cV vN (st ("pairs" :: f)<|.lst (a.map qD)::xs)=.ok (.lst<|Wb<|uS S T c a):=λf xs=>by
  unfold Wb uS;rw[Dg];refine xJ qD _ (it f xs) (by lia) λp h=>?_
  have B:=o.inr p h;have I:=M.c3;have P:rm S T p=(List.range c).map (cf S T p):=by
   refine List.ext_getElem (by rw[(OD M n B)];simp) λi H O=>?_
   rw[Q7 M n B H];simp
  obtain⟨L,V⟩:=o5 a;refine(xJ (E:=vM) (it:=Ec<|e2 Wa (aA 5)<|aA 7) (λk=>qD<|cf S T p k) (λk=>D.int<|a.idxOf<|cf S T p k) (kY<|aG rfl rfl<|S7 (by
    rw[get_map (ku S T)<|YL.mpr B];unfold ku;rw[P,Dg];rfl)) (by rw[nk];lia) λk hk=>by
   show ((e1 (cL "Sides" "pairs")<|dB 0) _).bind _=_;rw[show (e1 (cL "Sides" "pairs")<|dB 0) ((((st ("pairs" :: f)<|.lst (a.map qD)::xs).set 7 none).set 7<|qD p).set 8 none |>.set 8 (qD<|cf S T p k))=.ok (.lst<|a.map qD) from C0]
   show (Ih<|(a.map qD).findIdx? λd=>Oc d<|qD<|cf S T p k).bind _=_
   rw[bSr<|o.cl p h k<|qf.mp hk];exact aF ⟨cO (by rw[Rb];lia),by lia,by simp[qD],L⟩).trans ?_
  unfold ia;rw[Function.comp_apply,Dg];rfl
 have I:∀f xs,cJ [7] (gb 7) (Ec<|e1 (cL "Sides" "pairs")<|dB 0) cV vO (st ("pairs" :: f)<|.lst (a.map qD)::xs)=.ok (.lst<|ia<|Cn rk a):=λf xs=>by
  unfold ia Cn;rw[Dg];exact xJ qD _ (it f xs) (by lia) λp h=>aG u5 rfl<|dR<|xK<|by rw[M.El];exact(o.inr p h).1
 have Q:∀f xs,cJ [7] (gb 7) (Ec<|e1 (cL "Sides" "pairs")<|dB 0) cV vP (st ("pairs" :: f)<|.lst (a.map qD)::xs)=.ok (.lst<|ia<|En ib a):=λf xs=>by
  unfold ia En;rw[Dg];exact xJ qD _ (it f xs) (by lia) λp h=>aG u5 rfl<|dR<|xK<|by rw[n.El];exact(o.inr p h).2
 have w:lX (Qn x [] [] (mD S rk c) (mD T ib c) (.int l) (.int r) none none)=.ok (.nx<|st ["pairs","fronts","steps","lefts","rights"] [.lst<|a.map qD,.lst<|a.map λp=>D.str<|m p,.lst<|Wb<|uS S T c a,.lst<|ia<|Cn rk a,.lst<|ia<|En ib a]):=by
  refine aH (st':=Qn x [] [] (mD S rk c) (mD T ib c) (.int l) (.int r) none none) ?_ ?_
  .show (aO _ _ _).bind _=_;rw[aK rfl aW0];rfl
  refine aH (st':=Qn x [] [] (mD S rk c) (mD T ib c) (.int l) (.int r) none none) ?_<|aH (st':=Qn x [] [] (mD S rk c) (mD T ib c) (.int l) (.int r) none none) ?_ ?_
  .show (aP _<|cC [mD S rk c,.int l]).bind _=_;rw[KO G,aF (by decide)]
   rfl
  .show (aP _<|cC [mD T ib c,.int r]).bind _=_;rw[KO F,aF (by decide)]
   rfl
  exact aH (bB<|aK rfl<|bBl M n)<|aH (bB<|aK (aN rfl<|aN (by simp[Qn,qD])<|aN (aF<|cO (by rw[Rb,C2];have:=Dw M.most n.most;lia)) rfl) E)<|aH (Tx (by
   show (Au<|kQ j).bind _=_;rw[DF,m9,<-C];exact aF<|by rw[Rb,Rb];lia)<|by decide)<|aH (Tx ((λf xs=>xJ qD _ (it f xs) (by lia) λp h=>by
  obtain⟨x,g,rfl⟩:=t p h;rw[s x g];exact aG rfl rfl<|S7<|EG qD CF b.nd g) _ _)<|by decide)<|aH (Tx (R _ _)<|by decide)<|aH (Tx (I _ _)<|by decide)<|Tx (Q _ _)<|by decide
 show (lX<|Qn x [] [] (mD S rk c) (mD T ib c) (.int l) (.int r) none none).bind _=_;rw[w];simp[st,Qn,LV]
end
def Wd(w:D)(a:u8):Prop:=a.length=4/\(w=.tup (a.map D.bl)\/(w=.fn "JUST_ONE"/\a=[false,true,true,false]))
def wI(a:u8)(p q:Int):Bool:=a.getD (p%2*2+q%2).toNat false
theorem D0{w:D} (a:Wd w ws) (p q:Int):oY [w,.int p,.int q]=.ok (.bl<|wI ws p q):=by
 have b:Wa (.tup<|ws.map D.bl) (.int<|p%2*2+q%2)=.ok (.bl<|wI ws p q):=by
  obtain⟨n,c⟩:∃n:Nat,p%2*2+q%2=n:=⟨(p%2*2+q%2).toNat,by lia⟩
  have d:n<ws.length:=by rw[a.1];lia
  show Ih _=_;unfold wI;rw[c,Qb (by simp_all)]
  simp[d,Ih]
 refine bL rfl<|cD<|aG rfl (aG (aG (aG rfl rfl<|pN<|by decide) rfl<|aF<|by lia) (aG rfl rfl<|pN<|by decide) rfl) ?_
 rcases a.2 with rfl|⟨rfl,rfl⟩
 .exact b
 exact(aF rfl).trans b
def gq(b:ac):Prop:=∃a:ac,a.length<=8/\∀x∈b,x∈a
def Qg(a d:D)(U:am)(c b:ac):D:=.ins "Sides" ["pairs","fronts","steps","lefts","rights"] [a,d,.lst<|Wb U,.lst<|ia c,.lst<|ia b]
section
variable{pr fr w:D}{U:am}{la lb:ac}{ws:u8}{c:Nat}
def qE:cL "Sides" "lefts" (Qg pr fr U la lb)=.ok (.lst<|ia la):=by unfold Qg;rw[pF,aF rfl];rfl
def vE:cL "Sides" "rights" (Qg pr fr U la lb)=.ok (.lst<|ia lb):=by unfold Qg;rw[pF,aF rfl];rfl
def bOv:cL "Sides" "fronts" (Qg pr fr U la lb)=.ok fr:=by unfold Qg;rw[pF,aF rfl];rfl
def o9:cL "Sides" "steps" (Qg pr fr U la lb)=.ok (.lst<|Wb U):=by unfold Qg;rw[pF,aF rfl];rfl
theorem Ux{x:Int}:∀(l a:lv),x∈l.foldl (λa x=>if a.any (· == x) then a else a++[x]) a↔x∈a\/x∈l
 |[],a=>by simp
 |y::l,a=>by
  rw[Yk,Ux l];grind
theorem T7:∀(l c:lv),c.Nodup->(l.foldl (λc x=>if c.any (· == x) then c else c++[x]) c).Nodup
 |[],c,h=>h
 |y::l,c,h=>by
  rw[Yk];refine T7 l _ ?_
  split
  .exact h
  rename_i d;refine Xl.mpr ⟨h,by simp,λa f b mf e=>d ?_⟩
  simp_all
def xE{x:Int}{l:lv}:x∈Bj (rZ l)↔x∈l:=by
 rw[(sH _).mem_iff];unfold rZ;rw[Ux];simp
theorem U7:∀{l:ac}{r:ac},l.Nodup->(∀x∈l,x∈r)->l.length<=r.length
 |[],_,_,_=>Ef _
 |a::l,r,b,h=>by
  rw[lj]at b;have:=U7 (r:=r.erase a) b.2 λx c=>(List.mem_erase_of_ne λz=>b.1<|by rwa [<-z]).mpr<|h x<|Mb _ c
  grind
def zz(a:ac):lv:=a.map λ(x:Nat)=>(x:Int)
def AE{p:Int}:p∈zz la↔∃x∈la,(x:Int)=p:=gd
theorem sN(h:gq la):(rZ<|zz la).length<=8:=by
 obtain⟨k,l,g⟩:=h;have j:=U7 (l:=(rZ<|zz la).map Int.toNat) (by
  unfold Nodup;rw[OH];refine(T7 (zz la) [] Dt).imp_of_mem λ{a b} i mf c z=>c ?_
  obtain⟨x,_,rfl⟩:=AE.mp<|(Ux _ _).mp i |>.resolve_left (λz=>nomatch z)
  obtain⟨y,_,rfl⟩:=AE.mp<|(Ux _ _).mp mf |>.resolve_left (λz=>nomatch z)
  simp_all) λx f=>by
  obtain⟨z,d,rfl⟩:=gd.mp f;obtain⟨y,e,rfl⟩:=AE.mp<|(Ux _ _).mp d |>.resolve_left (λz=>nomatch z)
  exact g y e
 rw[Rb]at j;lia
theorem V7(h:gq la)(a:la.length<=64):Qx (.lst<|ia la)=.ok (.lst<|(Bj<|rZ<|zz la).map D.int):=by
 show (yD _).bind _=_;have:ia la=(zz la).map D.int:=by unfold ia zz;rw[Dg];rfl
 have b:=sN h;rw[this,qM];exact aF ⟨by unfold zz;rw[Rb];lia,by lia⟩
def bSs{C E:Ex}{st:za} {q:Int->Bool} {G:Int->D} (l:lv) (h:∀a∈l,C (st.set j a)=.ok (.bl<|q a)/\(q a=true->E (st.set j a)=.ok (G a))):jL (gb j) C E st (l.map D.int)=.ok ((l.filter q).map G):=EF D.int G l h
theorem RY(i:gq lb)(k:lb.length<=64)(j:Wd w ws):∀(ps:lv) (f:re) (g:f8),f.length+8*ps.length<=1000->
  ∃(c:re) (t:f8),pb (gb 3) yI (ps.map D.int) [Qg pr fr U la lb,w,some<|.o .l<|f.map pD,g,none]=.ok (.nx [Qg pr fr U la lb,w,some<|.o .l<|c.map pD,t,none])/\c.length<=f.length+8*ps.length/\∀z,z∈c↔z∈f\/(z.1∈ps/\z.2∈zz lb/\wI ws z.1 z.2=true)
 |[],f,g,_=>⟨f,g,rfl,by simp,by simp⟩
 |p::ps,f,g,r=>by
  rw[Ed]at r
  let a:=((Bj<|rZ<|zz lb).filter λq=>wI ws p q).map λq=>(p,q)
  have v:=sN i;have u:a.length<=8:=by
   rw[Rb];refine Xd (yw _ _) ?_
   rwa [(sH _).length_eq]
  obtain⟨c,l,e,n,m⟩:=RY i k j ps (f++a) _ (by rw[Ud];lia)
  refine⟨c,l,?_,?_,λz=>?_⟩
  .refine dO (s1:=[some _,w,some _,p,none]) rfl ?_ e;show bp 2 _ _=_;rw[(sy (ys:=a.map pD) (by
    refine gF (xs:=(Bj<|rZ<|zz lb).map D.int) (kY ?_) ?_ ?_
    .rw[Jv,show e1 (cL "Sides" "rights") (aA 0) [Qg pr fr U la lb,w,some _,some _,none]=.ok _ from vE]
     exact V7 i k
    .rw[Rb,(sH _).length_eq];lia
    have:=bSs (C:=yH) (E:=qP) (st:=[Qg pr fr U la lb,w,some<|.o .l<|f.map pD,p,none]) (j:=4) (G:=λq=>pD (p,q)) (Bj<|rZ<|zz lb) λq _=>⟨aK rfl<|D0 j p q,λ_=>by simp[qP,pD]⟩
    rwa [Dg]) rfl<|cO<|by rw[Rb,Rb];lia),Hg]
   rfl
  .rw[Ud]at n;rw[Ed];lia
  rw[m,tf,qc];have s:z∈a↔z.1=p/\z.2∈zz lb/\wI ws z.1 z.2=true:=by
   rw[gd];constructor
   .rintro⟨q,o,rfl⟩;obtain⟨b,d⟩:=Vf.mp o;exact⟨rfl,xE.mp b,d⟩
   rintro⟨b,d,x⟩;exact⟨z.2,Vf.mpr ⟨xE.mpr d,by rwa [<-b]⟩,by rw[<-b]⟩
  rw[s];constructor
  .rintro((h|⟨b,d⟩)|⟨b,d⟩)
   .exact .inl h
   .exact .inr ⟨.inl b,d⟩
   exact .inr ⟨.inr b,d⟩
  rintro(h|⟨b|b,d⟩)
  .exact .inl (.inl h)
  .exact .inl (.inr ⟨b,d⟩)
  exact .inr ⟨b,d⟩
theorem bBm(b:gq la)(h:gq lb)(g:la.length<=64)(mf:lb.length<=64)(f:Wd w ws):∃a:re,pJ [Qg pr fr U la lb,w]=.ok (.lst<|a.map pD)/\a.length<=64/\∀z,z∈a↔z.1∈zz la/\z.2∈zz lb/\wI ws z.1 z.2=true:=by
 have k:=sN b;have j:(Bj<|rZ<|zz la).length<=8:=by rwa [(sH _).length_eq]
 obtain⟨a,i,e,d,c⟩:=RY h mf f (Bj<|rZ<|zz la) [] none (by simp;lia)
 refine⟨a,bL rfl<|aH (iC<|fU rfl)<|aH (dU (kY ?_) e) ?_,by simp at d;lia,λz=>by rw[c,xE];simp⟩
 .show (cL "Sides" "lefts"<|Qg pr fr U la lb).bind _=_;rw[qE];exact V7 b g
 rfl
end
def Yn(p q:Int):Nat->List (Nat×Nat)->List Nat
 |_,[]=>[]
 |k,x::l=>if (x.1:Int)<=p/\(x.2:Int)<=q then k::Yn p q (k+1) l else Yn p q (k+1) l
def MK(p q:Int)(k:Nat)(x:wf)(l:jp):Yn p q k (x::l)=if (x.1:Int)<=p/\(x.2:Int)<=q then k::Yn p q (k+1) l else Yn p q (k+1) l:=rfl
theorem BL{p q:Int}{i:Nat}:∀{l:jp} {k:Nat},i∈Yn p q k l↔k<=i/\∃x,l[i-k]?=some x/\(x.1:Int)<=p/\(x.2:Int)<=q
 |[],k=>by simp[Yn]
 |x::l,k=>by
  have a:(k<=i/\∃y,(x::l)[i-k]?=some y/\(y.1)<=p/\(y.2)<=q)↔(i=k/\(x.1)<=p/\(x.2)<=q)\/(k+1<=i/\∃y,l[i-(k+1)]?=some y/\(y.1)<=p/\(y.2)<=q):=by
   constructor
   .rintro⟨d,y,c,b⟩
    by_cases e:i=k
    .simp_all
    rw[show i-k=(i-(k+1))+1 by lia]at c
    exact .inr ⟨by lia,y,c,b⟩
   rintro(⟨rfl,h⟩|⟨d,y,c,b⟩)
   .simp_all
   exact⟨by lia,y,by rwa [show i-k=(i-(k+1))+1 by lia],b⟩
  rw[a,<-(BL),MK];split
  .simp_all
  rename_i h;exact⟨.inr,λz=>z.resolve_left λe=>h e.2⟩
theorem G2{p q:Int}:∀(l:jp) (k:Nat),(Yn p q k l).length<=l.length
 |[],_=>Pb _
 |x::l,k=>by
  have:=G2 (p:=p) (q:=q) l<|k+1;rw[MK];split<;>simp<;>lia
theorem F0{p q:Int}{a:f8}{d3:f8}:∀(l:jp) (k:Nat),jL (nh [4,5]) tL kX [a,p,q,d3,none,none] (vB k<|l.map qD)=.ok (ia<|Yn p q k l)
 |[],_=>rfl
 |x::l,k=>by
  show jL _ _ _ _ (.tup [.int k,qD x] :: vB (k+1) _)=_;rw[jO,show nh [4,5] _ [a,some _,some _,d3,none,none]=.ok [a,some _,some _,d3,some _,some _] from rfl,bT]
  have b:tL [a,p,q,d3,k,qD x]=.ok _:=rq rfl λ_=>rfl
  rw[b,bT,oy,F0 l<|k+1,MK]
  by_cases h:(x.1)<=p/\(x.2)<=q
  .rw[jb h,Jd h.1,Jd h.2];rfl
  rw[Pa h,Pa (by simpa using h)]
def Lo(b a:ac)(p q:Int):Nat:=jY<|Yn p q 0<|b.zip a
theorem tN{l:lv}(h:l≠[]):gp l∈l/\∀x∈l,x<=gp l:=by
 cases l with
 |nil=>simp_all
 |cons i r=>
  obtain⟨c,b,a⟩:=AL r i;refine⟨?_,λx hx=>?_⟩
  .rcases a with a|a
   .show r.foldl _ i∈_;rw[a];exact qb
   exact Mb _ a
  rcases qc.mp hx with rfl|hx
  .exact c
  exact b x hx
def uM(rk:ac)(n:Nat):Int:=gp<|(aR n).map λr=>(rk.getD r 0:Int)
def Xu(a:n≠0):aR n≠[]:=λz=>a (by
 have:=pB n;rw[z]at this;exact this.symm)
def vQ{n:Nat}(d:n≠0):(∃r∈aR n,(rk.getD r 0:Int)=uM rk n)/\∀r∈aR n,(rk.getD r 0:Int)<=uM rk n:=by
 obtain⟨c,b⟩:=tN (l:=(aR n).map λr=>(rk.getD r 0)) (by simpa using Xu d)
 obtain⟨r,a,e⟩:=gd.mp c;exact⟨⟨r,a,e⟩,λr a=>b _<|gd.mpr ⟨r,a,rfl⟩⟩
def BE{n r:Nat}{p:Int}(a:r∈aR n)(e:(rk.getD r 0:Int)=p)(b:∀r∈aR n,(rk.getD r 0:Int)<=p):uM rk n=p:=
 V4 (gd.mpr ⟨r,a,e⟩) λx c=>by
  obtain⟨r,a,rfl⟩:=gd.mp c;exact b r a
def xM{r:De}{st:za} (h:r st=.ok ds) (a:ds.length<=1000:=by exact vo rfl):yi r st=.ok (.tup ds):=by rw[bIx,h,bT,aF<|cO<|Xd a<|by decide]
structure Pl(U:am)(la lb:ac)(c:Nat):Prop where
 m:Cd U la c
 fa:gq la
 fb:gq lb
 la:la.length=U.length
 lb:lb.length=U.length
section
variable{pr fr w:D}{U:am}{la lb:ac}{ws:u8}{c n:Nat}{p q:Int}
theorem LO(P:Pl U la lb c):i∈aR (Lo la lb p q)↔i<U.length/\(la.getD i 0:Int)<=p/\(lb.getD i 0:Int)<=q:=by
 unfold Lo;rw[dI,BL,Nat.sub_zero];have d:(la.zip lb).length=U.length:=by rw[List.length_zip,P.la,P.lb,Nat.min_self]
 constructor
 .rintro⟨_,x,f,b⟩;have a:=(Ee.mp f).1;rw[d]at a;have e:x=(la[i]'(by rwa [P.la]),lb[i]'(by rwa [P.lb])):=by
   simp_all
  subst e;simpa [P.la,P.lb,a] using b
 rintro⟨a,b⟩;simpa [P.la,P.lb,a] using b
def Gy(P:Pl U la lb c):Lo la lb p q<2^U.length:=by
 exact zT λi a=>((LO P).mp<|dI.mpr a).1
theorem bJj(P:Pl U la lb c):rF [Qg pr fr U la lb,.int p,.int q]=.ok (.int<|Lo la lb p q):=by
 have b:=P.m.most;have f:=P.la;have d:(la.zip lb).length<=64:=by grind
 have e:=G2 (p:=p) (q:=q) (la.zip lb) 0;refine bL rfl<|aH (st':=[some _,some _,some _,D.lst<|(la.zip lb).map qD,none,none]) (bB<|aG qE vE ?_)<|cD<|aK (aN (gF ?_ ?_<|F0 _ _) rfl)<|Vu (λi hi=>?_)<|by lia
 .rw[<-OP];rfl
 .rfl
 .have:∀(k:Nat)(l:dL),(vB k l).length=l.length:=λk l=>by
   induction l generalizing k with
   |nil=>rfl
   |cons x l a=>show (vB (k+1) l).length+1=_;rw[a];rfl
  rw[this,Rb];lia
 obtain⟨_,x,g,_⟩:=BL.mp hi;grind
theorem bF8(P:Pl U la lb c)(e:n<2^U.length)(i:n≠0):lV [Qg pr fr U la lb,.int n]=.ok (.tup [.int<|uM la n,.int<|uM lb n]):=by
 have k:=P.m.most;have l:=fJ U.length _ (cU _) λx f=>bC e f
 have b:∀{E:Ex}{a:ac},a.length=U.length->(∀r:Nat,r<a.length->E [Qg pr fr U la lb,some _,D.lst<|ia<|aR n,some _]=.ok _)->e1 Bq (cJ [3] (gb 3) (Ec<|aA 2) cV E) [some _,n,some _,none]=.ok _:=λ{E a} h g=>by
  have j:(aR n).map (λr=>D.int<|a.getD r 0)=((aR n).map λr=>(a.getD r 0:Int)).map D.int:=by rw[Dg];rfl
  rw[Jv,(xJ _ _ rfl (by lia) λr d=>g r<|by rw[h];exact bC e d),j]
  show (yD _).bind _=_;rw[qM];exact aF (by rw[Rb];exact YG.mpr<|Xu i)
 exact bL rfl<|aH (bB<|aK rfl<|jE e<|by lia)<|cD<|xM<|aN (b P.la λr d=>aG qE rfl<|dR<|xK d)<|aN (b P.lb λr d=>aG vE rfl<|dR<|xK d) rfl
def PD(P:Pl U la lb c){k:Nat}(b:k<2^U.length)(h:m∈dM U c k):m<2^U.length/\m≠0:=by
 obtain⟨r,a,rfl,_⟩:=fW.mp h;refine⟨Wu,λz=>?_⟩
 have:=Y1 P.m b a;rw[z]at this;exact absurd (aY.mp this) (by simp)
theorem QC{k:Nat}:(dM U c k).length<=(aR k).length:=by
 have e:∀(b a:ac),(b.foldl (λa r=>if gC U c k r∉a/\Yb U (gC U c k r)=true then a++[gC U c k r] else a) a).length<=a.length+b.length:=λb=>by
  induction b with
  |nil=>simp
  |cons r b d=>
   intro a;rw[Yk,Ed];refine Xd (d _) ?_
   split
   .rw[Ud,Ug];lia
   lia
 simpa [dM] using (e _ [])
def Hy(U:am)(c:Nat)(b a:ac)(z:Go)(m:Nat):Prop:=m∈dM U c (Lo b a z.1 z.2)/\uM b m=z.1/\uM a m=z.2
theorem HY(P:Pl U la lb c):∀(i:re) (g:ac) (n l k:f8),g.length+64*i.length<=10000->
  ∃(f:ac)(L A K:f8),pb (nh [3,4]) yL (i.map pD) [Qg pr fr U la lb,w,some<|.o .l<|ia g,n,l,k,none]=.ok (.nx [Qg pr fr U la lb,w,some<|.o .l<|ia f,L,A,K,none])/\f.length<=g.length+64*i.length/\∀m,m∈f↔m∈g\/∃z∈i,Hy U c la lb z m
 |[],g,n,l,k,_=>⟨g,n,l,k,rfl,by simp,by simp⟩
 |z::i,g,n,l,k,E=>by
  rw[Ed]at E;have M:=P.m.most;have o:=Gy (p:=z.1) (q:=z.2) P
  let d:=(dM U c<|Lo la lb z.1 z.2).filter λm=>decide (uM la m=z.1)&&decide (uM lb m=z.2)
  have C:(dM U c<|Lo la lb z.1 z.2).length<=64:=by
   have q:=fJ U.length _ (cU _) λx p=>bC o p
   have:=QC (U:=U) (c:=c) (k:=Lo la lb z.1 z.2);lia
  have B:d.length<=64:=Xd (yw _ _) C;obtain⟨f,t,s,r,e,v,u⟩:=HY P i (g++d) _ _ _ (by rw[Ud];lia)
  refine⟨f,t,s,r,?_,by rw[Ud]at v;rw[Ed];lia,λm=>?_⟩
  .refine dO rfl (aH (bB<|aK (aN o9<|aN (aK rfl<|bJj P) rfl)<|GY P.m o) ?_) e;have p:=sy (i:=2) (f:=cJ [6] (gb 6) (Ec<|aA 5) yK yJ) (st:=[Qg pr fr U la lb,w,some<|.o .l<|ia g,z.1,z.2,D.lst<|ia _,none]) (ys:=ia d) (by
    refine gF rfl (by rw[bI];lia)<|EF (λ(x:Nat)=>D.int x) _ _ λm F=>⟨?_,λ_=>rfl⟩
    obtain⟨q,G⟩:=PD P o F;refine aG (aK rfl<|bF8 P q G) (xM rfl)<|(aF ⟨by simp,rfl,rfl⟩).trans ?_
    have I:∀a b:Int,(a==b)=decide (a=b):=λa b=>by by_cases h:a=b<;>simp[h]
    simp[Oc,oH,I]) rfl (cO<|by rw[bI,bI];lia)
   have H:ia (g++d)=ia g++ia d:=by unfold ia;rw[Hg]
   rwa [H]
  rw[u,tf];have J:m∈d↔Hy U c la lb z m:=by
   rw[Vf,Wk,qh,qh];exact Nw
  rw[J];constructor
  .rintro((h|h)|⟨y,j,h⟩)
   .exact .inl h
   .exact .inr ⟨z,qb,h⟩
   exact .inr ⟨y,Mb _ j,h⟩
  rintro(h|⟨y,j,h⟩)
  .exact .inl (.inl h)
  rcases qc.mp j with rfl|j
  .exact .inl (.inr h)
  exact .inr ⟨y,j,h⟩
theorem G0(P:Pl U la lb c)(n:Wd w ws):∃f:ac,lG [Qg pr fr U la lb,w]=.ok (.lst<|ia f)/\f.length<=10000/\∀m,m∈f↔∃z:Go,z.1∈zz la/\z.2∈zz lb/\wI ws z.1 z.2=true/\Hy U c la lb z m:=by
 have s:=P.m.most;have t:=P.la;have mf:=P.lb;obtain⟨i,o,p,g⟩:=bBm P.fa P.fb (by lia) (by lia) n
 obtain⟨f,r,x4,q,e,k,j⟩:=HY P i [] none none none (by simp;lia)
 refine⟨f,bL rfl<|aH (iC<|fU rfl)<|aH (dU (kY<|aK rfl o) e) rfl,by simp at k;lia,λm=>?_⟩
 rw[j];constructor
 .rintro(h|⟨z,l,h⟩)
  .nomatch h
  obtain⟨a,b,d⟩:=(g z).mp l;exact⟨z,a,b,d,h⟩
 rintro⟨z,a,b,d,h⟩;exact .inr ⟨z,(g z).mpr ⟨a,b,d⟩,h⟩
theorem H0:∀(l:ac)(b:Nat)(a c:f8),∃(d:Nat)(g:f8),pb (gb 2) LY (ia l) [a,b,c]=.ok (.nx [a,d,g])/\∀i,d.testBit i=true↔b.testBit i=true\/∃m∈l,m.testBit i=true
 |[],b,a,c=>⟨b,c,rfl,by simp⟩
 |m::l,b,a,c=>by
  obtain⟨d,f,e,h⟩:=H0 l _ a _;refine⟨d,f,dO rfl (bB<|aG rfl rfl<|Sx b m) e,λi=>?_⟩
  rw[h,Lw,Mw,or_assoc];simp
theorem CL{l:ac}{k:Nat}(b:∀m∈l,m<2^k)(g:k<=64):∃d:Nat,yF [.lst<|ia l]=.ok (.int d)/\d<2^k/\∀i,i∈aR d↔∃m∈l,i∈aR m:=by
 obtain⟨d,f,e,h⟩:=H0 l 0 _ none;refine⟨d,bL rfl<|aH (bB rfl)<|aH (dU (kY rfl) e) rfl,TQ _ λi j=>?_,λi=>?_⟩
 .cases c:d.testBit i with
  |false=>rfl
  |true=>
   obtain z|⟨m,a,z⟩:=(h i).mp c
   .simp at z
   have:=bC (b m a)<|aY.mpr z;lia
 rw[aY,h];simp[aY]
end
section
variable{U:am}{la lb:ac}{ws:u8}{c n:Nat}
def bc(U:am):Ix
 |_,[]=>[]
 |i,a::w=>xc U i (a-97)::bc U (xc U i<|a-97) w
abbrev Sa(U:am):Nat->List Nat->Nat:=Mf<|xc U
theorem kZ:∀(x y:ac)(i:Nat),bc U i (x++y)=bc U i x++bc U (Sa U i x) y
 |[],_,_=>rfl
 |a::x,y,i=>by
  show _::bc U _ (x++y)=_;rw[kZ x y];rfl
theorem pU:∀(x:ac)(i:Nat),Sa U i x=i/\x=[]\/Sa U i x∈bc U i x
 |[],_=>.inl ⟨rfl,rfl⟩
 |a::x,i=>.inr (by
  show Sa U _ x∈xc U i _::bc U _ x;rcases pU x _ with ⟨h,_⟩|h
  .rw[h];exact qb
  simp_all)
def og(b:ac)(a:Nat)(c:ac):Nat:=c.foldl (λa g=>max a<|b.getD g 0+1) a
theorem nW(b:ac):∀(c:ac)(a:Nat),a<=og b a c/\(∀g∈c,b.getD g 0+1<=og b a c)/\(og b a c=a\/∃g∈c,og b a c=b.getD g 0+1)
 |[],a=>⟨Pb _,λ_ h=>(nomatch h),.inl rfl⟩
 |g::c,a=>by
  obtain⟨f,e,d⟩:=nW b c<|max a<|b.getD g 0+1;refine⟨?_,λx hx=>?_,?_⟩
  .show a<=og b _ c;lia
  .show b.getD x 0+1<=og b _ c;rcases qc.mp hx with rfl|hx
   .lia
   exact e x hx
  show og b _ c=a\/_;rcases d with d|⟨x,hx,d⟩
  .rcases cS (b.getD g 0+1) a with z|z
   .simp_all
   exact .inr ⟨g,qb,by show og b _ c=_;lia⟩
  exact .inr ⟨x,Mb _ hx,d⟩
structure WR(U:am)(la lb:ac)(ws:u8)(c i:Nat)(t:ac):Prop where
 ne:t≠[]
 lt:Mc c t
 cl:Sa U i t=i
 wt:wI ws ((og la 0 (bc U i t):Nat)-1:Int) ((og lb 0 (bc U i t):Nat)-1:Int)=true
theorem Yu(al:At):∀(w:ac)(i:Nat),Mc c w->(∀g∈bc U i w,al g=true)->Hc U c al i (Sa U i w)/\∀g∈bc U i w,Hc U c al i g/\Hc U c al g (Sa U i w)
 |[],i,_,_=>⟨.here,λ_ h=>nomatch h⟩
 |l::w,i,f,j=>by
  have m:=f l qb;obtain⟨e,d⟩:=Yu al w _ (λx k=>f x<|Mb _ k) λg a=>j g<|Mb _ a
  have b:Hc U c al i _:=.on .here (by omega)<|j _ qb
  refine⟨b.trans e,λg a=>?_⟩
  rcases qc.mp a with rfl|a
  .exact⟨b,e⟩
  exact⟨b.trans (d g a).1,(d g a).2⟩
theorem AN{a b:Nat}(h:Hc U c al a b):∃w,Mc c w/\Sa U a w=b/\∀g∈bc U a w,al g=true:=by
 induction h with
 |here=>exact⟨[],λ_ h=>(nomatch h),rfl,λ_ h=>nomatch h⟩
 |@on r k _ j l e=>
  obtain⟨w,i,d,f⟩:=e;refine⟨w++[97+k],λx hx=>?_,by rw[Sa,Rx];show xc U (Sa U a w) k=_;rw[d],λg hg=>?_⟩
  .rcases tf.mp hx with hx|hx
   .exact i x hx
   simp_all
  rw[kZ]at hg;rcases tf.mp hg with hg|hg
  .exact f g hg
  have:bc U (Sa U a w) [97+k]=[xc U r k]:=by
   rw[d];show [xc U r _]=_;rw[Ys]
  simp_all
def iR{x y:ac}(d:Mc c x)(b:Mc c y):Mc c (x++y):=λz a=>(tf.mp a).elim (d z)<|b z
theorem SY(P:Pl U la lb c){z:Go} (hw:wI ws z.1 z.2=true) (h:Hy U c la lb z m) (n:i∈aR m):∃t,WR U la lb ws c i t:=by
 obtain⟨W,h2,h3⟩:=h;have V:=Gy (p:=z.1) (q:=z.2) P;obtain⟨m1,R⟩:=PD P V W;obtain⟨r,I,e,hq⟩:=fW.mp W;have S:ph U c m:=by rw[<-e];exact yX P.m V I (by rwa [e])
 have q:∀{a b:Nat},a∈aR m->b∈aR m->∃w,Mc c w/\Sa U a w=b/\∀g∈bc U a w,ng m g=true:=λha mf=>AN<|S.2.1 _ ha _ mf
 obtain⟨j,l0,J,a0,Q⟩:∃w,Mc c w/\Sa U i w=i/\(∀g∈bc U i w,ng m g=true)/\w≠[]:=by
  by_cases mf:∃b∈aR m,b≠i
  .obtain⟨b,mf,ne⟩:=mf;obtain⟨w,x1,u,x3⟩:=q n mf;obtain⟨v,y1,y2,Z⟩:=q mf n;refine⟨w++v,iR x1 y1,by rw[Sa,eV];show Sa U (Sa U i w) v=i;rw[u,y2],λg hg=>?_,λz=>?_⟩
   .rw[kZ,u]at hg;exact(tf.mp hg).elim (x3 g) (Z g)
   rw[(Us.mp z).1]at u;exact ne u.symm
  have all:=λb bh=>Uc λz=>mf ⟨b,bh,z⟩
  have hd:(aR m).headD 0=i:=by
   cases T:aR m with
   |nil=>rw[T]at n;nomatch n
   |cons x l=>exact all x (by rw[T];exact qb)
  have p:=S.2.2;unfold Yb at p;rw[pe (λz=>by
   have O:=cU m;generalize aR m=L at O all z
   match L,z with
   |x::y::l,_=>
    simp[(all x<|by simp),(all y<|by simp)]at O),aS,qh,hd]at p
  obtain⟨k,hk1,X⟩:=(pQ P.m<|bC m1 n).mp p;have gl:bc U i [97+k]=[i]:=by
   show [xc U i<|97+k-97]=_;rw[Ys,X]
  refine⟨[97+k],λx H=>by rw[Hd.mp H];constructor<;>lia,?_,λg hg=>?_,by simp⟩
  .show xc U i _=i;rw[Ys,X]
  rw[gl]at hg;rw[Hd.mp hg];exact aY.mp n
 obtain⟨⟨G,Y,M⟩,t1⟩:=vQ R;obtain⟨⟨r2,p,K⟩,t2⟩:=vQ R;obtain⟨f,l1,D,a1⟩:=q n Y;obtain⟨d,l2,C,a2⟩:=q Y p;obtain⟨o,l3,g3,a3⟩:=q p n;have E:bc U i (j++(f++(d++o)))=bc U i j++(bc U i f++(bc U G d++bc U r2 o)):=by rw[kZ,kZ,kZ,J,D,C]
 have all:∀g∈bc U i _,g∈aR m:=λg hg=>by
  rw[E]at hg;simp at hg;refine aY.mpr ?_
  rcases hg with h|h|h|h
  .exact a0 g h
  .exact a1 g h
  .exact a2 g h
  exact a3 g h
 have ii:i∈bc U i (j++(f++(d++o))):=by
  rw[E];rcases pU j i with ⟨_,z⟩|z
  .exact absurd z Q
  rw[J]at z;exact Sf _ z
 have i1:G∈bc U i (j++(f++(d++o))):=by
  rcases pU f i with ⟨z,_⟩|z
  .rw[D]at z;rwa [z]
  rw[D]at z;rw[E];exact Ke _<|Sf _ z
 have N:∀{s:ac}{B:Nat}{A:Int},B∈bc U i _->(s.getD B 0)=A->(∀x∈aR m,(s.getD x 0)<=A)->((og s 0<|bc U i<|j++(f++(d++o)))-1)=A:=λ{s B A} I e H=>by
  obtain⟨_,s2,F⟩:=nW s _ 0;have:=s2 B I;rcases F with F|⟨g,hg,F⟩
  .lia
  have:=H g<|all g hg;lia
 refine⟨j++(f++(d++o)),λz=>Q (Us.mp z).1,iR l0<|iR l1<|iR l2 l3,?_,?_⟩
 .rw[Sa,eV,eV,eV];show Sa U (Sa U (Sa U (Sa U i j) f) d) o=i;rw[J,D,C,g3]
 rwa [N i1 M t1,N (by
  rcases pU d G with ⟨z,_⟩|z
  .rw[C]at z;rwa [z]
  rw[C]at z;rw[E];exact Ke _<|Ke _<|Sf _ z) K t2,h2,h3]
theorem MO(P:Pl U la lb c):∀(w:ac)(i:Nat),i<U.length->Mc c w->∀g∈bc U i w,g<U.length
 |[],_,_,_,_,h=>nomatch h
 |e::w,i,j,b,g,a=>by
  have k:=b e qb;obtain⟨_,_,_,d⟩:=xG P.m j (show e-97<c by omega)
  rcases qc.mp a with rfl|a
  .exact d
  exact MO P w _ d (λx f=>b x<|Mb _ f) g a
theorem TY(P:Pl U la lb c) {t:ac} (v:i<U.length) (h:WR U la lb ws c i t):∃z:Go,∃m,z.1∈zz la/\z.2∈zz lb/\wI ws z.1 z.2=true/\Hy U c la lb z m/\i∈aR m:=by
 have lt:=MO P t i v h.lt;have j:i∈bc U i t:=by
  rcases pU t i with ⟨_,z⟩|z
  .exact absurd z h.ne
  rwa [h.cl]at z
 have C:∀(d:ac),d.length=U.length->∃g∈bc U i t,((og d 0<|bc U i t)-1:Int)=(d.getD g 0)/\((d.getD g 0):Int)∈zz d/\∀x∈bc U i t,(d.getD x 0:Int)<=(d.getD g 0):=λd e=>by
  obtain⟨_,A,s⟩:=nW d _ 0;have:=A i j;rcases s with s|⟨g,a,s⟩
  .omega
  refine⟨g,a,by lia,AE.mpr ⟨d.getD g 0,?_,rfl⟩,λx H=>by have:=A x H;lia⟩
  rw[bf,Kc (by rw[e];exact lt g a)]
  exact Vg _
 obtain⟨q,w,e1,G,K⟩:=C la P.la;obtain⟨p,E,e2,F,J⟩:=C lb P.lb;have f:=λg a=>(LO P).mpr ⟨lt g a,K g a,J g a⟩
 have D:=h.wt;rw[e1,e2]at D;obtain⟨_,B⟩:=Yu _ t i h.lt λg a=>aY.mp<|f g a
 rw[h.cl]at B;have b:=λg a=>aY.mpr<|(iQ P.m v).mpr<|B g a
 have sub:∀g∈aR _,_:=λg a=>(LO P).mp<|ND P.m (Gy P) (f i j) a
 refine⟨(((la.getD q 0)),((lb.getD p 0))),_,G,F,D,⟨fW.mpr ⟨i,f i j,rfl,?_⟩,BE (b q w) rfl λr u=>(sub r u).2.1,BE (b p E) rfl λr u=>(sub r u).2.2⟩,b i j⟩
 unfold Yb
 by_cases e:1<(aR<|gC U c (Lo la lb (la.getD q 0)<|lb.getD p 0) i).length
 .rw[Jd e];rfl
 rw[pe e,aS,qh];have all:∀g∈aR _,g=i:=λg a=>by
  have n:=b i j;generalize aR _=L at e a n
  match L,e with
  |[],_=>nomatch a
  |[x],_=>rw[Hd.mp a,Hd.mp n]
  |x::y::L,e=>simp at e
 have I:(aR<|gC U c (Lo la lb (la.getD q 0)<|lb.getD p 0) i).headD 0=i:=by
  have n:=b i j;generalize aR _=L at all n;cases L with
  |nil=>nomatch n
  |cons x l=>exact all x qb
 rw[I];obtain⟨k,o,rfl⟩:∃k o,t=k::o:=by
  cases t with
  |nil=>exact absurd rfl h.ne
  |cons k o=>exact⟨k,o,rfl⟩
 have M:=h.lt k qb;exact(pQ P.m v).mpr ⟨k-97,by omega,(all _<|b _ qb)⟩
end
def W7{tg:Tg} {d v:D} {st:za} (a:tg d st=.ok s1) (b:L s1=.ok (.rt v)):pb tg L (d::ds) st=.ok (.rt v):=by
 rw[kL,a,bT,b];rfl
def bFa{c:Ex}{b:Bd}{st:za} {v:D} (a:c st=.ok (.bl true)) (mf:b st=.ok (.rt v)):jA c b (n+1) st=.ok (.rt v):=by
 rw[YJ,a,mf];rfl
abbrev Tr:=Nat×Nat×Nat
def yf(x:Tr):D:=.tup [.int x.1,.int ((x.2.1:Nat)-1:Int),.int ((x.2.2:Nat)-1:Int)]
theorem QP(x y:Tr):Gf (yf x) (yf y)=decide (x=y):=by
 obtain⟨a,b,d⟩:=x;obtain⟨f,e,c⟩:=y
 by_cases h:(a,b,d)=(f,e,c)
 .cases h;simp[yf,Gf,ao]
 rw[pe h];simp[yf,Gf,ao];grind
def d3(U:am)(b a:ac)(x:Tr)(k:Nat):Tr:=(xc U x.1 k,max x.2.1<|b.getD (xc U x.1 k) 0+1,max x.2.2<|a.getD (xc U x.1 k) 0+1)
section
variable{pr fr w:D}{U:am}{la lb:ac}{ws:u8}{c i s:Nat}{ja:List (Tr×List Nat)}
theorem N':∀(t:ac)(i a b:Nat),Mf (d3 U la lb) (i,a,b) t=(Sa U i t,og la a<|bc U i t,og lb b<|bc U i t)
 |[],_,_,_=>rfl
 |c::t,i,a,b=>N' t _ _ _
def Jq(b:ac)(a:Nat):Prop:=a=0\/∃x∈b,a=x+1
def P3(U:am)(b a:ac)(x:Tr):Prop:=x.1<U.length/\Jq b x.2.1/\Jq a x.2.2
theorem v5{b:ac}{a g:Nat}(h:Jq b a)(c:g<b.length):Jq b (max a<|b.getD g 0+1):=by
 rcases cS a _ with z|z
 .rw[Nat.max_eq_right z];refine .inr ⟨b.getD g 0,?_,rfl⟩;grind
 rwa [Nat.max_eq_left z]
def bSt(P:Pl U la lb c)(x:Tr)(k:Nat)(h:P3 U la lb x)(a:k<c):P3 U la lb (d3 U la lb x k):=by
 obtain⟨_,_,_,b⟩:=xG P.m h.1 a;exact⟨b,v5 h.2.1 (by rwa [P.la]),v5 h.2.2<|by rwa [P.lb]⟩
theorem A5(h:gq la):∃f:tz,(∀a,Jq la a->f a<9)/\∀a b,Jq la a->Jq la b->f a=f b->a=b:=by
 obtain⟨g,k,j⟩:=h;have c:∀a,Jq la a->a∈0::g.map (· + 1):=λa d=>by
  rcases d with rfl|⟨x,i,rfl⟩
  .exact qb
  simp_all
 refine⟨λa=>(0::g.map (· + 1)).idxOf a,λa d=>?_,λa b d mf e=>?_⟩
 .have:=bz<|c a d;grind
 have l:=KR<|bz<|c a d;simp_all
theorem bJk(P:Pl U la lb c){l:List Tr}(m:l.Nodup)(h:∀x∈l,P3 U la lb x):l.length<=5184:=by
 obtain⟨f,j,s⟩:=A5 P.fa;obtain⟨g,i,r⟩:=A5 P.fb;have v:=P.m.most;simpa using (fJ 5184 (l.map λx=>81*x.1+9*f x.2.1+g x.2.2) (by
  unfold Nodup;rw[OH];exact m.imp_of_mem λ{a b} q mf k z=>k (by
   have d:=h a q;have e:=h b mf;have u:=j _ d.2.1;have y:=j _ e.2.1;have t:=i _ d.2.2;have w:=i _ e.2.2;exact Prod.ext (by lia)<|Prod.ext (s _ _ d.2.1 e.2.1<|by lia)<|r _ _ d.2.2 e.2.2<|by lia)) λx n=>by
  obtain⟨p,o,rfl⟩:=gd.mp n;have d:=h p o;have u:=j _ d.2.1;have t:=i _ d.2.2;have:=d.1;lia)
abbrev B3(U:am)(b a:ac)(c s i j:Nat)(d:List (Tr×List Nat)):Prop:=BG (d3 U b a) (s,0,0) c (P3 U b a) i j d
def B3.len(P:Pl U la lb c) (b:B3 U la lb c s i j ja):ja.length<=5184:=by
 have:=bJk P b.nd λp d=>by obtain⟨x,a,rfl⟩:=gd.mp d;exact(b.lt x a).1
 rwa [Rb]at this
def jq(a:u8)(s:Nat)(x:Tr):Prop:=x.1=s/\wI a ((x.2.1:Nat)-1:Int) ((x.2.2:Nat)-1:Int)=true
def kT(a:List (Tr×List Nat)):dL:=a.map λx=>yf x.1
def wT(a:List (Tr×List Nat)):dL:=a.map λx=>D.str x.2
def p9(a:List (Tr×List Nat)):kT a=(a.map (·.1)).map yf:=by rw[Dg];rfl
def Kh(f j w:D)(U:am)(h g:ac)(s:Nat)(a:List (Tr×List Nat))(i:Nat)(e d c b:f8):za:=
 [some<|.v<|Qg f j U h g,some<|.v w,some<|.v<|.int s,some<|.o (.d true<|kT a)<|wT a,some<|.o .l<|kT a,some<|.v<|.int i,e,d,c,b]
theorem bFc(P:Pl U la lb c)(t:Wd w ws){x:Tr×List Nat} (b:B3 U la lb c s i j ja) (m:ja[i]?=some x) (u:j<c) (l:f8) :
  (jq ws s (d3 U la lb x.1 j)->fY (Kh pr fr w U la lb s ja i (yf x.1) (D.str [97+j]) (xc U x.1.1 j) l)=.ok (.rt<|.str<|x.2++[97+j]))/\
  (¬ jq ws s (d3 U la lb x.1 j)->fY (Kh pr fr w U la lb s ja i (yf x.1) (D.str [97+j]) (xc U x.1.1 j) l)=.ok (.nx<|Kh pr fr w U la lb s (Ap ja (d3 U la lb x.1 j)<|x.2++[97+j]) i (yf x.1) (D.str [97+j]) (xc U x.1.1 j)<|yf<|d3 U la lb x.1 j)):=by
 have q:=jg m;have y:=b.len P;have B:=(Ee.mp m).1;have A:=b.wl i x m;obtain⟨_,_,_,z⟩:=xG P.m ((b.lt x q).1).1 u;have e:∀(a g:Nat),(D.int<|if (g:Int)>(a-1) then g else (a-1))=D.int (((max a<|g+1))-1):=λa g=>by
  congr 1;split<;>lia
 have p:yi (aC (aA 8)<|aC (e2 zq (e2 Wa (aA 6)<|eI 1)<|e2 Wa (e1 (cL "Sides" "lefts")<|aA 0)<|aA 8)<|aC (e2 zq (e2 Wa (aA 6)<|eI 2)<|e2 Wa (e1 (cL "Sides" "rights")<|aA 0)<|aA 8) aQ) (Kh pr fr w U la lb s ja i (yf x.1) (D.str [97+j]) (xc U x.1.1 j) l)=.ok (yf<|d3 U la lb x.1 j):=by
  refine xM<|aN rfl<|aN ?_<|aN ?_ rfl
  .exact aG rfl (aG qE rfl<|dR<|xK<|by rwa [P.la]) (congrArg R.ok<|e _ _)
  exact aG rfl (aG vE rfl<|dR<|xK<|by rwa [P.lb])<|congrArg R.ok<|e _ _
 have o:e2 iJ (e2 Wa (dB 3)<|aA 6) (aA 7) (Kh pr fr w U la lb s ja i (yf x.1) (D.str [97+j]) (xc U x.1.1 j)<|yf<|d3 U la lb x.1 j)=.ok (.str<|x.2++[97+j]):=by
  refine aG (x:=.str x.2) (aG rfl rfl ?_) rfl<|aF<|cO<|by show x.2.length+1<=_;lia
  show aP _ _=_;rw[aF (c:=lc true (yf x.1)=true) rfl,show uW (kT ja) (wT ja) (yf x.1)=_ from EG yf QP b.nd q]
  rfl
 have d:vA (e2 Ad (aA 8)<|aA 2) (aO oY<|aC (aA 1)<|aC (e2 Wa (aA 9)<|eI 1)<|aC (e2 Wa (aA 9)<|eI 2) aQ) (Kh pr fr w U la lb s ja i (yf x.1) (D.str [97+j]) (xc U x.1.1 j)<|yf<|d3 U la lb x.1 j)=.ok _:=
  rq (aG rfl rfl<|oM _ _) λ_=>aK rfl<|D0 t _ _
 refine⟨λh=>aH (bB p)<|pq<|yV (qK d ?_)<|cD o,λh=>aH (st':=Kh pr fr w U la lb s ja i (yf x.1) _ _ _) (bB p)<|aH (mZ (qK d ?_) rfl) ?_⟩
 .rw[Jd<|(by rw[show xc U x.1.1 j=s from h.1]),h.2]
  rfl
 .by_cases v:xc U x.1.1 j=s
  .cases r:wI ws _ _ with
   |true=>exact absurd ⟨v,r⟩ h
   |false=>rw[YR]
  rw[pe<|(by lia),Bool.false_and]
 have n:e2 tE (aA 9) (dB 3) (Kh pr fr w U la lb s ja i (yf x.1) (D.str [97+j]) (xc U x.1.1 j)<|yf<|d3 U la lb x.1 j)=.ok _:=aG rfl rfl<|aF rfl;unfold Ap
 by_cases f:d3 U la lb x.1 j∈ja.map (·.1)
 .rw[jb f];have k:oG (kT ja) (yf<|d3 U la lb x.1 j)=true:=by rw[p9];exact bOr yf QP f
  exact mZ (qK n<|by rw[k];rfl) rfl
 rw[Pa f];have k:oG (kT ja) (yf<|d3 U la lb x.1 j)=false:=by rw[p9];exact bOs yf QP f
 refine yV (qK n<|by rw[k];rfl)<|aH (st':=(Kh pr fr w U la lb s ja i (yf x.1) (D.str [97+j]) (xc U x.1.1 j)<|yf<|d3 U la lb x.1 j).set 3<|some<|.o (.d true<|kT ja++[yf<|d3 U la lb x.1 j])<|wT ja++[.str<|x.2++[97+j]]) ?_ ?_
 .unfold ud;rw[o,bT];show aP _ _=_;rw[aF ⟨rfl,Vr<|by unfold wT;rw[Rb];lia⟩]
  unfold uX uY;rw[k];rfl
 rw[tR rfl rfl (by unfold kT;rw[Rb];lia)]
 unfold Kh kT wT;simp only[List.map_append];rfl
def NH(U:am)(d b:ac)(a:u8)(c s p j:Nat)(e:List (Tr×List Nat)):Prop:=∀(i:Nat) y k,e[i]?=some y->k<c->(i<p\/(i=p/\k<j))->¬ jq a s (d3 U d b y.1 k)
theorem NH.turn{x:Tr×List Nat} (n:NH U la lb ws c s i j ja) (d:ja[i]?=some x) (h:¬ jq ws s (d3 U la lb x.1 j)) {g:Tr} {v:ac}:NH U la lb ws c s i (j+1) (Ap ja g v):=λk y m b f o=>by
 have p:=(Ee.mp d).1;have a:k<ja.length:=by lia
 have e:=GO (g:=g) (w:=v)<|Kc a;rw[b]at e;cases e
 by_cases l:k=i/\m=j
 .simp_all
 exact n k _ m (Kc a) f (by lia)
def q9(P:Pl U la lb c){g:Nat}(a:g<U.length):(U.getD g []).length=c:=by
 rw[bf,Kc a,Fz,(P.m.row _<|Vg a).1]
theorem X7(P:Pl U la lb c)(y:Wd w ws){x:Tr×List Nat}:∀(k j:Nat) (d:List (Tr×List Nat)) (o l g:f8),j+k=c->B3 U la lb c s i j d->NH U la lb ws c s i j d->d[i]?=some x->
  (∃m a,m<c/\B3 U la lb c s i m a/\NH U la lb ws c s i m a/\a[i]?=some x/\jq ws s (d3 U la lb x.1 m)/\pb (nh [7,8]) fY (oo ([97,98,99].drop j)<|ia<|(U.getD x.1.1 []).drop j) (Kh pr fr w U la lb s d i (yf x.1) o l g)=.ok (.rt<|.str<|x.2++[97+m]))\/
  ∃a D C K,pb (nh [7,8]) fY (oo ([97,98,99].drop j)<|ia<|(U.getD x.1.1 []).drop j) (Kh pr fr w U la lb s d i (yf x.1) o l g)=.ok (.nx<|Kh pr fr w U la lb s a i (yf x.1) D C K)/\B3 U la lb c s i c a/\NH U la lb ws c s i c a/\a[i]?=some x
 |0,j,d,o,l,g,G,b,n,f=>by
  obtain rfl:j=c:=by lia
  refine .inr ⟨d,o,l,g,?_,b,n,f⟩;rw[ZQ (l:=U.getD x.1.1 []) (by rw[q9 P (b.lt x<|jg f).1.1];exact Pb _)]
  cases [97,98,99].drop j<;>rfl
 |k+1,j,d,o,l,g,G,b,n,f=>by
  have L:=P.m.c3;have q:j<c:=by lia
  have p:j<(U.getD x.1.1 []).length:=by rwa [q9 P ((b.lt x<|jg f).1).1]
  have J:(U.getD x.1.1 []).drop j=xc U x.1.1 j::(U.getD x.1.1 []).drop (j+1):=by
   rw[Ws p];unfold xc;rw[bf (l:=U.getD x.1.1 []),Kc p,Fz]
  obtain⟨F,E⟩:=bFc P y b f q g;rw[E2 (by lia),J]
  by_cases h:jq ws s (d3 U la lb x.1 j)
  .exact .inl ⟨j,d,q,b,n,f,h,W7 rfl<|F h⟩
  have go:∀{r:R Fl},pb (nh [7,8]) fY _ _=r->pb _ fY (oo ((97+j)::[97,98,99].drop (j+1))<|.int _::ia ((U.getD x.1.1 []).drop<|j+1)) (Kh pr fr w U la lb s d i _ o l g)=r:=λe=>dO rfl (E h) e
  rcases X7 P y k (j+1) _ _ _ _ (by lia) (b.turn (bSt P) f q) (n.turn f h) (GO f) with ⟨m,a,v,u,t,I,H,e⟩|⟨a,B,A,z,e,v,u,t⟩
  .exact .inl ⟨m,a,v,u,t,I,H,go e⟩
  exact .inr ⟨a,B,A,z,go e,v,u,t⟩
theorem B5(P:Pl U la lb c)(E:Wd w ws):∀(k i:Nat) (a:List (Tr×List Nat)) (r q o l:f8) (f:Nat),5185<=k+i->k<=f->B3 U la lb c s i 0 a->NH U la lb ws c s i 0 a->i<=a.length->
  (∃p m x h,m<c/\B3 U la lb c s p m h/\NH U la lb ws c s p m h/\h[p]?=some x/\jq ws s (d3 U la lb x.1 m)/\jA nQ nP f (Kh pr fr w U la lb s a i r q o l)=.ok (.rt<|.str<|x.2++[97+m]))\/
  ∃h HC S R GW,jA nQ nP f (Kh pr fr w U la lb s a i r q o l)=.ok (.nx<|Kh pr fr w U la lb s h h.length HC S R GW)/\B3 U la lb c s h.length 0 h/\NH U la lb ws c s h.length 0 h
 |0,i,a,r,q,o,l,f,G,Z,b,n,Y=>by have:=b.len P;lia
 |k+1,i,a,r,q,o,l,f,G,Z,b,n,Y=>by
  obtain⟨f,rfl⟩:∃g,f=g+1:=⟨f-1,by lia⟩
  have d:nQ (Kh pr fr w U la lb s a i r q o l)=.ok _:=aG rfl rfl rfl;rw[show (kT a).length=a.length by unfold kT;simp]at d
  by_cases j:i<a.length
  .have v:=Kc j;generalize a[i]=x at v;have F:=(b.lt x<|jg v).1;have H:cG 6 (e2 Wa (dB 4)<|aA 5) (Kh pr fr w U la lb s a i r q o l)=.ok _:=bB (aG rfl rfl<|dR (by
    obtain⟨u,t⟩:=Ee.mp v;unfold kT;rw[Qb (by rwa [Rb]),jt,t]))
   have D:iF (eC<|.str [97,98,99]) (e2 Wa (e1 (cL "Sides" "steps")<|aA 0)<|e2 Wa (aA 6)<|eI 0) (Kh pr fr w U la lb s a i (yf x.1) q o l)=.ok (oo [97,98,99]<|ia<|U.getD x.1.1 []):=by
    have:e2 Wa (e1 (cL "Sides" "steps")<|aA 0) (e2 Wa (aA 6)<|eI 0) (Kh pr fr w U la lb s a i (yf x.1) q o l)=.ok (.lst<|ia<|U.getD x.1.1 []):=aG o9 rfl<|dR (by
     rw[tq F.1,bf,Kc F.1];rfl)
    show (e2 Wa _ _ _).bind _=_;rw[this];rfl
   rcases X7 P E c 0 a q o l (by lia) b n v with ⟨m,h,u,t,B,A,z,e⟩|⟨Ss,O,N,M,e,b1,V,T⟩
   .exact .inl ⟨i,m,x,h,u,t,B,A,z,bFa (qK d<|bw j)<|aH H<|pq<|dU D e⟩
   have zk:=(Ee.mp T).1;have go:nP _=.ok _:=aH H<|aH (dU D e)<|bB rfl;rcases B5 P E k (i+1) Ss _ O N M f (by lia) (by lia) b1.next (λk y m W X G=>V k y m W X<|by lia) (by lia) with ⟨p,m,Q,h,u,t,B,A,z,C⟩|⟨h,L,K,J,I,C,u,t⟩
   .exact .inl ⟨p,m,Q,h,u,t,B,A,z,pO (qK d<|bw j) go C⟩
   exact .inr ⟨h,L,K,J,I,pO (qK d<|bw j) go C,u,t⟩
  have:i=a.length:=by lia
  subst this;exact .inr ⟨a,r,q,o,l,pA<|qK d<|DG j,b,n⟩
def Y7{t:ac}(a:t≠[])(b:Mc c t):jq ws s (Mf (d3 U la lb) (s,0,0) t)↔WR U la lb ws c s t:=by
 rw[N'];exact⟨λh=>⟨a,b,h.1,h.2⟩,λh=>⟨h.cl,h.wt⟩⟩
theorem bFf(P:Pl U la lb c)(n:Wd w ws)(hs:s<U.length):(∃t,rG [Qg pr fr U la lb,w,.int s]=.ok (.str t)/\WR U la lb ws c s t/\t.length<=6000)\/∀u,¬ WR U la lb ws c s u:=by
 rcases B5 P n 5185 0 [((s,0,0),[])] none none none none 100000 (by lia) (by lia) (BG.start ⟨hs,.inl rfl,.inl rfl⟩) (λ_ _ _ _ _ h=>by lia) (Ef _) with ⟨p,m,x,ja,j,b,D,d,C,e⟩|⟨ja,B,A,v,r,e,j,b⟩
 .have g:=b.lt x<|jg d;have F:=(Ee.mp d).1;have E:=b.wl p x d;have q:=b.len P;refine .inl ⟨x.2++[97+m],bL rfl<|aH (st':=[Qg pr fr U la lb,w,s,some<|.o (.d true [yf (s,0,0)]) [.str []],none,none,none,none,none,none]) ?_ ?_,((Y7 (by simp)<|iR g.2.2 λz l=>by rw[Hd.mp l];constructor<;>lia).mp<|by rwa [Rx,g.2.1]),by rw[Ud,Ug];lia⟩
  .unfold nE;rw[xM rfl];exact aF ⟨rfl,rfl⟩
  refine aH (iC<|aF<|cO<|by show 1<=_;lia)<|aH (bB rfl)<|pq<|by rwa [nL]
 refine .inr λu a=>j.yB (λi y k f o=>b i y k f o<|.inl (Ee.mp f).1) a.ne a.lt<|(Y7 a.ne a.lt).mpr a
end
abbrev Tl:=List Nat×List Nat
def me(x:Tl):D:=.tup [.str x.1,.str x.2]
def Im(x:Tl):dL:=[.int ((x.1.length+x.2.length:Nat):Int),.int (x.1.length:Nat),.str x.1,.str x.2]
theorem Z7{x:Tl}(c:x.1.length<=100000)(b:x.2.length<=100000):cY [me x]=.ok (.tup<|Im x):=by
 have a:e1 iD (e2 Wa (aA 0)<|eI 0) [me x]=.ok _:=aF<|cO<|by lia
 refine bL rfl<|cD<|xM<|aN (aG a (aF<|cO<|by lia) ?_)<|aN a<|aN (aG rfl rfl rfl)<|aN (aG rfl rfl rfl) rfl
 simp_all
theorem J2{i j:Int}{a b:dL}:Nl (.int i::a) (.int j::b)=if i=j then Nl a b else .ok (decide (i<j)):=by
 rw[Nl];simp_all
theorem K2{s t:ac}{a b:dL}:Nl (.str s::a) (.str t::b)=if s=t then Nl a b else .ok (decide (s<t)):=by
 rw[Nl];simp_all
def bJl(x y:Tl):∃t:Bool,Nl (Im x) (Im y)=.ok t:=by
 unfold Im;rw[J2,J2,K2,K2];split
 .split
  .split
   .split
    .exact⟨_,rfl⟩
    exact⟨_,rfl⟩
   exact⟨_,rfl⟩
  exact⟨_,rfl⟩
 exact⟨_,rfl⟩
theorem BN:∀(a:List Tl)(b:Tl),(∀x∈b::a,x.1.length<=100000/\x.2.length<=100000)->∃r∈b::a,Vo cY (me b) (.tup<|Im b) (a.map me)=.ok (me r)
 |[],b,_=>⟨b,qb,rfl⟩
 |d::a,b,h=>by
  obtain⟨j,i⟩:=h d (by simp)
  obtain⟨t,g⟩:=bJl d b;have step:Vo cY (me b) (.tup<|Im b) (me d::a.map me)=if t=true then Vo cY (me d) (.tup<|Im d) (a.map me) else Vo cY (me b) (.tup<|Im b) (a.map me):=by
   rw[Vo,Z7 j i,bT];dsimp only;rw[aF ⟨by simp[Im,jV],by simp[Im],by simp[Im]⟩,g,bT]
  rw[gf,step];cases t with
  |true=>
   obtain⟨r,c,e⟩:=BN a d λx f=>h x (by simp_all)
   exact⟨r,Mb _ c,e⟩
  |false=>
   obtain⟨r,c,e⟩:=BN a b λx f=>h x (by grind)
   exact⟨r,by grind,e⟩
def bOw{a:List Tl}(h:∀x∈a,x.1.length<=100000/\x.2.length<=100000):(a=[]/\Hq cY (.lst<|a.map me)=.ok .Sb)\/∃r∈a,Hq cY (.lst<|a.map me)=.ok (me r):=by
 cases a with
 |nil=>exact .inl ⟨rfl,rfl⟩
 |cons b a=>
  obtain⟨f,d⟩:=h b qb;obtain⟨r,c,e⟩:=BN a b h;refine .inr ⟨r,c,?_⟩
  rwa [gf,Hq,Z7 f d]
section
variable{S T:am}{rk ib:ac}{ws:u8}{c l r:Nat}{sq:jp}{fr:Is}
def mj(S T:am):KF
 |_,[]=>[]
 |p,a::w=>p::mj S T (cf S T p<|a-97) w
def Ql(S T:am):KF
 |_,[]=>[]
 |p,a::w=>cf S T p (a-97)::Ql S T (cf S T p<|a-97) w
theorem QD(y:wf):∀(w:ac)(p:wf),(y∈mj S T p w\/y=Mf (cf S T) p w)↔(y=p\/y∈Ql S T p w)
 |[],p=>by simp[mj,Ql,Mf]
 |a::w,p=>by
  show (y∈p::mj S T _ w\/y=Mf _ _ w)↔(y=p\/y∈cf S T p _::Ql S T _ w);rw[qc,qc,or_assoc,(QD y w _)]
def mf(f:IN)(l:jp)(a:Nat):Nat:=l.foldl (λa x=>max a<|f x) a
theorem ZL(f:IN):∀(l:jp) (a:Nat),a<=mf f l a/\(∀x∈l,f x<=mf f l a)/\(mf f l a=a\/∃x∈l,mf f l a=f x)
 |[],a=>⟨Pb _,λ_ h=>(nomatch h),.inl rfl⟩
 |x::l,a=>by
  obtain⟨d,c,b⟩:=ZL f l<|max a<|f x;refine⟨?_,λy hy=>?_,?_⟩
  .show a<=mf f l _;lia
  .show f y<=mf f l _;rcases qc.mp hy with rfl|hy
   .lia
   exact c y hy
  show mf f l _=a\/_;rcases b with b|⟨y,hy,b⟩
  .rcases cS (f x) a with z|z
   .simp_all
   exact .inr ⟨x,qb,by show mf f l _=_;lia⟩
  exact .inr ⟨y,Mb _ hy,b⟩
structure WP(S T:am)(rk ib:ac)(ws:u8)(c:Nat)(p:wf)(t:ac):Prop where
 ne:t≠[]
 lt:Mc c t
 cl:Mf (cf S T) p t=p
 wt:wI ws (mf (λx=>rk.getD x.1 0) (mj S T p t) 0:Nat) (mf (λx=>ib.getD x.2 0) (mj S T p t) 0:Nat)=true
def RP(M:Va S rk c)(e:Va T ib c)(d:Sd S T c l r sq fr):Pl (uS S T c sq) (Cn rk sq) (En ib sq) c:=by
 have b:(uS S T c sq).length=sq.length:=by unfold uS;rw[Rb]
 refine⟨⟨by rw[b];exact d.len,M.c1,M.c3,λf hr=>?_⟩,⟨rk,by rw[M.El];exact M.most,λx hx=>?_⟩,⟨ib,by rw[e.El];exact e.most,λx hx=>?_⟩,by unfold Cn;rw[Rb,b],by unfold En;rw[Rb,b]⟩
 .obtain⟨p,a,rfl⟩:=gd.mp hr;refine⟨by simp,λx hx=>?_⟩
  obtain⟨k,g,rfl⟩:=gd.mp hx;rw[b];exact bz<|d.cl p a k<|qf.mp g
 .obtain⟨p,a,rfl⟩:=gd.mp hx;rw[bf,Kc (by rw[M.El];exact(d.inr p a).1)]
  exact Vg _
 obtain⟨p,a,rfl⟩:=gd.mp hx;rw[bf,Kc (by rw[e.El];exact(d.inr p a).2)]
 exact Vg _
def qA(a:jp)(i:Nat):wf:=a.getD i (0,0)
theorem yZ(a:i<sq.length):qA sq i=sq[i]:=by unfold qA;simp_all
def bV5(g:Sd S T c l r sq fr){k:Nat}(a:i<sq.length)(f:k<c):xc (uS S T c sq) i k<sq.length/\qA sq (xc (uS S T c sq) i k)=cf S T (qA sq i) k:=by
 have e:xc (uS S T c sq) i k=sq.idxOf (cf S T (qA sq i) k):=by
  unfold xc uS;rw[bf (l:=List.map _ _),rh,Kc a,yZ a];simp[f]
 have d:=g.cl _ (Vg a) k f;rw[<-yZ a]at d;have b:=bz d;rw[e];exact⟨b,by rw[yZ b];exact KR b⟩
theorem vy(f:Sd S T c l r sq fr):∀(t:ac)(i:Nat),i<sq.length->Mc c t->Sa (uS S T c sq) i t<sq.length/\qA sq (Sa (uS S T c sq) i t)=Mf (cf S T) (qA sq i) t/\(bc (uS S T c sq) i t).map (qA sq)=Ql S T (qA sq i) t
 |[],i,e,_=>⟨e,rfl,rfl⟩
 |j::t,i,e,h=>by
  have m:=h j qb;obtain⟨s1,g⟩:=bV5 f e (show j-97<c by omega)
  obtain⟨a,b,d⟩:=vy f t _ s1 λx k=>h x<|Mb _ k
  rw[g]at b d;refine⟨a,b,?_⟩;show qA sq _::(bc _ _ t).map (qA sq)=_;rw[d,g];rfl
theorem FF{e:ac}{f:IN}{i:Nat}{t:ac}(n:Sd S T c l r sq fr)(u:∀j,j<sq.length->e.getD j 0=f (qA sq j))(s:i<sq.length)(p:Mc c t)(o:t≠[])(w:Mf (cf S T) (qA sq i) t=qA sq i)(lt:∀g∈bc (uS S T c sq) i t,g<sq.length):((og e 0 (bc (uS S T c sq) i t):Nat)-1:Int)=(mf f (mj S T (qA sq i) t) 0:Nat):=by
 obtain⟨_,_,m⟩:=vy n t i s p;obtain⟨k,b,E⟩:∃k b,t=k::b:=by
  cases t with
  |nil=>exact absurd rfl o
  |cons k b=>exact⟨k,b,rfl⟩
 have D:qA sq i∈mj S T (qA sq i) t:=by rw[E];exact qb
 have x:∀y,y∈mj S T _ t↔y∈Ql S T _ t:=λy=>by
  have h:=QD (S:=S) (T:=T) y t<|qA sq i;rw[w]at h;have G:qA sq i∈Ql S T (qA sq i) t:=by
   rcases pU t i with ⟨_,z⟩|z
   .exact absurd z o
   rw[<-m];obtain⟨_,v,_⟩:=vy n t i s p;rw[w]at v;rw[<-v];exact gd.mpr ⟨_,z,rfl⟩
  constructor
  .intro z;rcases h.mp (.inl z) with q|q
   .rwa [q]
   exact q
  grind
 obtain⟨_,B,d⟩:=nW e _ 0;obtain⟨_,F,I⟩:=ZL f (mj S T (qA sq i) t) 0;have A:∀y∈mj S T _ t,f y+1<=og e 0 _:=λy C=>by
  have:=(x y).mp C;rw[<-m]at this;obtain⟨g,a,rfl⟩:=gd.mp this;have:=B g a
  rwa [u g<|lt g a]at this
 have H:=A _ D;rcases d with d|⟨g,a,d⟩
 .lia
 have:=F _<|(x _).mpr<|by rw[<-m];exact gd.mpr ⟨g,a,rfl⟩
 rw[u g<|lt g a]at d;grind
def GF(M:Va S rk c)(A:Va T ib c)(d:Sd S T c l r sq fr) {t:ac} (f:i<sq.length):WR (uS S T c sq) (Cn rk sq) (En ib sq) ws c i t↔WP S T rk ib ws c (qA sq i) t:=by
 have p:(uS S T c sq).length=sq.length:=by unfold uS;rw[Rb]
 have u:∀j,j<sq.length->(Cn rk sq).getD j 0=rk.getD (qA sq j).1 0:=λj k=>by
  unfold Cn;rw[bf,rh,Kc k,yZ k];rfl
 have s:∀j,j<sq.length->(En ib sq).getD j 0=ib.getD (qA sq j).2 0:=λj k=>by
  unfold En;rw[bf,rh,Kc k,yZ k];rfl
 have lt:=λv g w=>by
  have:=MO (RP M A d) t i (by rwa [p]) v g w
  rwa [p]at this
 constructor
 .intro h;obtain⟨a,b,_⟩:=vy d t i f h.lt;have o:Mf (cf S T) (qA sq i) t=qA sq i:=by rw[<-b,h.cl]
  refine⟨h.ne,h.lt,o,?_⟩;rw[<-FF d u f h.lt h.ne o (lt h.lt),<-FF d s f h.lt h.ne o (lt h.lt)];exact h.wt
 intro h;obtain⟨a,b,_⟩:=vy d t i f h.lt;rw[h.cl,yZ a,yZ f]at b;have inj:∀{x y:Nat}(n:x<sq.length)(m:y<sq.length),sq[x]=sq[y]->x=y:=λ{x y} n m e=>by
  have q:=LG.mp d.nd;rcases PR x y with z|z|z
  .exact absurd e (q x y n m z)
  .exact z
  exact absurd e.symm<|q y x m n z
 refine⟨h.ne,h.lt,inj a f b,?_⟩;rw[FF (f:=λx=>rk.getD x.1 0) d u f h.lt h.ne h.cl<|lt h.lt,FF (f:=λx=>ib.getD x.2 0) d s f h.lt h.ne h.cl<|lt h.lt]
 exact h.wt
theorem N2{E:Ex}{st:za}{j:Nat}{R':Nat->Tl->Prop}:∀(is:ac),(∀i∈is,∃x,E (st.set j (i:Nat))=.ok (me x)/\R' i x)->∃xs:List Tl,jL (gb j) cV E st (ia is)=.ok (xs.map me)/\(∀x∈xs,∃i∈is,R' i x)/\∀i∈is,∃x∈xs,R' i x
 |[],_=>⟨[],rfl,λ_ h=>(nomatch h),λ_ h=>nomatch h⟩
 |i::is,h=>by
  obtain⟨x,e,d⟩:=h i qb;obtain⟨xs,b,l,g⟩:=N2 is λi a=>h i<|Mb _ a
  refine⟨x::xs,?_,λy c=>?_,λk f=>?_⟩
  .rw[PC,jO,show gb j _ st=.ok _ from rfl,bT,e,b]
   rfl
  .grind
  grind
def Told(S T:am)(rk b:ac)(a:u8)(c l r:Nat)(d:D):Prop:=
 (d=.Sb/\∀f t,Mc c f->¬ WP S T rk b a c (Mf (cf S T) (l,r) f) t)\/
 ∃x:Tl,d=me x/\Mc c x.1/\WP S T rk b a c (Mf (cf S T) (l,r) x.1) x.2/\x.1.length<=100/\x.2.length<=6000
theorem bJm{w:D}(M:Va S rk c)(q:Va T ib c)(Q:S.length<=7)(hl:l<S.length)(Y:r<T.length)(H:Wd w ws):∃d,mY [mD S rk c,mD T ib c,w,.int l,.int r]=.ok d/\Told S T rk ib ws c l r d:=by
 obtain⟨sq,fr,es,n⟩:=F2 M q Q hl Y;have P:=RP M q n;have o:(uS S T c sq).length=sq.length:=by unfold uS;rw[Rb]
 have kr:=n.len;obtain⟨U,ep,ol,s⟩:=G0 P H;obtain⟨d,ej,dl,K⟩:=CL (λm y=>by
  obtain⟨z,_,_,_,h⟩:=(s m).mp y;exact(PD P (Gy P) h.1).1) (by rwa [o])
 have E:∀i∈aR d,i<sq.length/\∃t,WR (uS S T c sq) (Cn rk sq) (En ib sq) ws c i t:=λi g=>by
  have j:=bC dl g;rw[o]at j;obtain⟨m,y,B⟩:=(K i).mp g;obtain⟨z,G,F,u,h⟩:=(s m).mp y;exact⟨j,SY P u h B⟩
 have Ob:(aR d).length<=64:=by
  have:=fJ (uS S T c sq).length _ (cU d) λx k=>bC dl k
  rw[o]at this;lia
 let st:za:=[mD S rk c,mD T ib c,w,l,r,LV S T rk ib c sq fr,D.lst<|ia<|aR d,none,none]
 obtain⟨xs,ex,x1,N⟩:=N2 (E:=rX) (st:=st) (j:=8) (R':=λi x=>x.1=fr (qA sq i)/\WR (uS S T c sq) (Cn rk sq) (En ib sq) ws c i x.2/\x.2.length<=6000) (aR d) λi g=>by
  obtain⟨j,O,CI⟩:=E i g;rcases bFf P H (by rwa [o]) with ⟨t,e,a,b⟩|V
  .refine⟨(fr<|qA sq i,t),xM<|aN (aG bOv rfl<|dR ?_)<|aN (aK rfl e) rfl,rfl,a,b⟩;rw[Qb (by rwa [Rb]),jt,yZ j]
  exact absurd CI<|V O
 have run:∀{v:D},Hq cY (.lst<|xs.map me)=.ok v->mY [mD S rk c,mD T ib c,w,.int l,.int r]=.ok v:=λ{v} X=>by
  refine bL rfl<|aH (bB<|aK rfl es)<|aH (bB<|aK (aN (aK (aN (aK rfl ep) rfl) ej) rfl)<|jE dl<|by rw[o];lia)<|aH (bB<|gF (kY rfl) (by rw[bI];lia) ex)<|cD ?_
  rw[Jv];show R.bind (R.ok<|D.lst<|xs.map me) _=_;rw[bT,X]
 have p:∀f t,Mc c f->WP S T rk ib ws c (Mf (cf S T) (l,r) f) t->xs≠[]:=λf t A I z=>by
  obtain⟨i,g,e⟩:=Vs.mp<|n.all f A;have Z:qA sq i=Mf (cf S T) (l,r) f:=by rw[yZ g,e]
  obtain⟨w,m,G,F,u,hp,B⟩:=TY P (by rwa [o])<|(GF M q n g).mpr<|by rwa [Z]
  obtain⟨x,k,_⟩:=N i<|(K i).mpr ⟨m,(s m).mpr ⟨w,G,F,u,hp⟩,B⟩;rw[z]at k
  nomatch k
 rcases bOw (λx k=>by
  obtain⟨i,g,j,_,J⟩:=x1 x k;have:=(n.lead (qA sq i)<|by rw[yZ (E i g).1];exact Vg _).2.2
  rw[j];lia) with ⟨e0,C⟩|⟨x,k,C⟩
 .exact⟨.Sb,run C,.inl ⟨rfl,λf t A I=>p f t A I e0⟩⟩
 obtain⟨i,g,j,h2,J⟩:=x1 x k;have L:=(E i g).1;obtain⟨W,l2,l3⟩:=n.lead (qA sq i) (by rw[yZ L];exact Vg _)
 refine⟨me x,run C,.inr ⟨x,rfl,by rwa [j],?_,by rw[j];lia,J⟩⟩
 rw[j,W];exact(GF M q n L).mp h2
end
end Pu
variable{wd:Nat->Nat->Pu.Tl}
namespace Pu
section
def qX:cL "Machine" "ranks" (mD S rk c)=.ok (.lst<|ia rk):=by unfold mD;rw[pF,aF rfl];rfl
theorem Vx:∀(l m:ac),oH (ia l) (ia m)=decide (l=m)
 |[],[]=>by simp[ia]
 |[],y::m=>by simp[ia]
 |x::l,[]=>by simp[ia]
 |x::l,y::m=>by
  rw[PC,PC];unfold oH;rw[Vx l m]
  by_cases h:x=y
  .simp_all
  have:¬ (x:Int)=y:=by lia
  simp[Oc,h,this]
def xD(M:Va S rk c)(a:n<2^S.length):iK [mD S rk c,.int n]=.ok (.lst<|ia<|dM S c n):=
 bL rfl (cD<|aK (aN (gO) rfl)<|GY M.w a)
theorem NO(M:Va S rk c)(a:n<2^S.length)(e:n≠0):qN [mD S rk c,.int n]=.ok (.int<|uM rk n):=by
 have t:=M.most;have u:=fJ S.length _ (cU _) λx g=>bC a g
 have v:0<(aR n).length:=by
  cases h:aR n with
  |nil=>
   refine absurd ?_ e;have:=pB n;rw[h]at this;exact this.symm
  |cons r T=>simp
 have f:=yU (tg:=gb 2) (c:=cV) (f:=uJ) (st:=[some<|.v<|mD S rk c,some<|.v<|.int n,none]) (λd=>match d with|.int i=>.int (rk.getD i.toNat 0)|d=>d) (ia<|aR n) λd m=>by
  obtain⟨r,j,rfl⟩:=RL m;have s:r<rk.length:=by rw[M.El];exact bC a j
  have q:yd (ia rk) r=some (.int<|rk.getD r 0):=by
   rw[Qb (by rwa [bI])]
   simp[ia,getD_eq_getElem?_getD,List.getElem?_eq_getElem s]
  simp[uJ,qX,q]
 have p:(ia<|aR n).map (λd=>match d with|.int i=>D.int (rk.getD i.toNat 0)|d=>d)=((aR n).map λr=>(rk.getD r 0:Int)).map D.int:=by
  unfold ia;simp
 rw[p]at f;have o:cJ [2] (gb 2) (Ec<|aO cQ<|aC (aA 1) aQ) cV uJ [some<|.v<|mD S rk c,some<|.v<|.int n,none]=.ok (.lst<|((aR n).map λr=>(rk.getD r 0:Int)).map D.int):=by
  have l:Ec (aO cQ<|aC (aA 1) aQ) [some<|.v<|mD S rk c,some<|.v<|.int n,none]=.ok (ia<|aR n):=by simp[(jE a<|by lia)]
  rw[PL,l];simp only[bT,bI];rw[aF<|cO<|by lia,show nj [2] [some<|Sl.v<|mD S rk c,some<|.v<|.int n,none]=[some<|.v<|mD S rk c,some<|.v<|.int n,none] from rfl,f]
  rfl
 refine bL rfl ?_
 unfold KY;have b:¬ n=0:=by lia
 refine fH (by simp[b,e]) ?_
 show cT _ [some<|.v<|mD S rk c,some<|.v<|.int n,none]=_;rw[Ox,Jv,o];have k:Bq (.lst<|((aR n).map λr=>(rk.getD r 0:Int)).map D.int)=.ok (.int<|uM rk n):=by
  show (yD _).bind _=_;rw[qM,bT,aF (by rwa [Rb])]
  rfl
 rw[bT,k];rfl
def aW5(M:Va S rk c)(d:n<2^S.length):yN [mD S rk c,.int n]=.ok (.bl<|decide (dM S c n=[n])):=by
 obtain⟨b,a,_⟩:=iW<|dM S c n;refine bL rfl ?_
 unfold WZ;have e1:[D.int n]=ia [n]:=rfl;simp[(xD M d),b,a];rw[e1,(Vx _ [n])]
def bJn(M:Va S rk c)(a:n<2^S.length)(b:n≠0):uT [mD S rk c,.int n]=.ok (.bl<|decide (uM rk n%2=0)):=by
 have e:=NO M a b;refine bL rfl ?_
 unfold VZ
 by_cases h:uM rk n%2=0
 .simp[e,h]
 simp[e,h]
end
theorem X9{a b n r:Nat}{st:za}(f:st[a]?=some (some<|.v<|.int (n:Int)))(e:st[b]?=some (some<|.v<|.int (r:Int))):(e2 Ad (e2 Ei (e2 Nk (aA a)<|aA b)<|eC<|.int 1)<|eC<|.int 1) st=.ok (.bl<|n.testBit r):=by
 have d:e2 Nk (aA a) (aA b) st=.ok (.int<|n/2^r):=by simp[f,e]
 have c:e2 Ei (e2 Nk (aA a)<|aA b) (eC<|.int 1) st=.ok (.int<|(if n.testBit r=true then 1 else 0:Nat)):=by
  rw[Cy,d,bT,Z8,bT,T1,aF ⟨(UR (by lia)<|ZR<|by decide),by decide⟩,(VL n r)]
 rw[Cy,c];cases n.testBit r<;>simp
section
theorem sub_len{l m:ac}(d:l.Nodup)(hs:∀x∈l,x∈m)(he:l.length=m.length){x:Nat}(b:x∈m):x∈l:=by
 refine Uc λc=>?_
 have:=j_ (lj.mpr ⟨c,d⟩) λy a=>by
  rcases qc.mp a with rfl|a
  .exact b
  exact hs y a
 rw[Ed]at this;lia
def b8{m o:Nat}(b:∀g∈aR m,g∈aR o)(a:∀g∈aR o,g∈aR m):m=o:=by
 rw[<-pB m,<-pB o];exact bJf λr=>⟨b r,a r⟩
theorem eM{m o:Nat}(a:ph S c m)(hs:∀g∈aR m,g∈aR o):Yb S o=true:=by
 have d:=a.2.2;have i:∃r,r∈aR m:=by
  cases h:aR m with
  |nil=>
   refine absurd ?_ a.1;have:=pB m;rw[h]at this;exact this.symm
  |cons r T=>simp
 obtain⟨r,j⟩:=i;have k:=j_ (cU m) λx b=>hs x b
 unfold Yb at d ⊢
 by_cases f:1<(aR o).length
 .rw[Jd f];rfl
 rwa [<-(b8 hs λg e=>sub_len (cU m) hs (by
  grind) e)]
def CN{a m:Nat}{st:za}(b:st[a]?=some (some<|.v<|.int (m:Int))):aA a st=.ok (.int (m:Int)):=by simp[b]
def yv:jY (List.range n)<2^n:=zT λr a=>qf.mp a
theorem C5(M:Va S rk c):oW [mD S rk c]=.ok (.int<|jY<|List.range S.length):=by
 have b:=M.most;refine bL rfl<|cD<|aK (aN ?_ rfl)<|Vu (λr a=>by have:=qf.mp a;lia)<|by rw[nk];lia
 show R.bind (cL "Machine" "many"<|mD S rk c) Px=_;rw[lJ,<-FY];exact aF ⟨Nx (by lia),Tu<|by lia⟩
theorem bJo(M:Va S rk c){st:za}(h:st[0]?=some (some<|.v<|mD S rk c)):aO lR (aC (e1 (cL "Machine" "steps")<|aA 0)<|aC (aO oW<|aC (aA 0) aQ) aQ) st=.ok (.Fe false (ia<|aR<|jY<|List.range S.length)<|(aR<|jY<|List.range S.length).map λr=>D.int (qL S c (jY<|List.range S.length) r:Nat)):=by
 have e:aA 0 st=.ok (mD S rk c):=by simp_all
 exact aK (aN (show R.bind _ _=_ by rw[e,bT,gO])<|aN (aK (aN e rfl)<|C5 M) rfl)<|U1 M.w yv
def bJp{r:Nat}(a:r<S.length):Wa (.Fe false (ia<|aR<|jY<|List.range S.length)<|(aR<|jY<|List.range S.length).map λr=>D.int (qL S c (jY<|List.range S.length) r:Nat)) (.int r)=.ok (.int (qL S c (jY<|List.range S.length) r:Nat)):=zU<|sV _<|dI.mpr<|qf.mpr a
def bFj(M:Va S rk c) (a:r<S.length):oX [mD S rk c,.int r]=.ok (.int<|qL S c (jY<|List.range S.length) r):=
 bL rfl (cD<|aG (bJo M rfl) rfl<|bJp a)
end
theorem I0(S:am):∀(x:ac)(q ch:Nat),Dm S q (x++[ch])=xc S (Dm S q x) (ch-97)
 |[],_,_=>rfl
 |y::x,q,ch=>I0 S x _ ch
def Hw(al:At)(a:ls)(g:Nat)(w:ac):ls:=if al g=true/\g∉a.map (·.1) then a++[(g,w)] else a
structure BM(S:am)(s c:Nat)(al:At)(p j:Nat)(ja:ls):Prop where
 nd:(ja.map (·.1)).Nodup
 hd:s∈ja.map (·.1)
 lt:∀x∈ja,x.1<S.length/\Mc c x.2
 pt:∀x∈ja,Dm S s x.2=x.1/\Hc S c al s x.1
 Xj:∀(k:Nat)(x:Fa),ja[k]?=some x->x.2.length<=k
 cls:∀(i:Nat)(x:Fa)(l:Nat),ja[i]?=some x->l<c->(i<p\/(i=p/\l<j))->al (xc S x.1 l)=true->xc S x.1 l∈ja.map (·.1)
section
variable{S:am}{rk:ac}{s c p j:Nat}{al:At}{ja:ls}
theorem BM.start(hs:s<S.length):BM S s c al 0 0 [(s,[])] where
 nd:=by simp
 hd:=by simp
 lt:=λx a=>by rw[Hd.mp a];exact⟨hs,λ_ h=>nomatch h⟩
 pt:=λx a=>by rw[Hd.mp a];exact⟨rfl,.here⟩
 Xj:=λk x a=>by
  rw[Hd.mp<|jg a];exact Ef _
 cls:=λi x l _ _ h=>by lia
theorem BM.next(b:BM S s c al p c ja):BM S s c al (p+1) 0 ja:=⟨b.nd,b.hd,b.lt,b.pt,b.Xj,λi x l d a e=>b.cls i x l d a<|by lia⟩
theorem BM.turn(M:Va S rk c)(b:BM S s c al p j ja){x:Fa}(a:ja[p]?=some x)(g:j<c):BM S s c al p (j+1) (Hw al ja (xc S x.1 j)<|x.2++[97+j]):=by
 have w:=(Ee.mp a).1;obtain⟨x1,m⟩:=b.lt x<|jg a;unfold Hw
 by_cases h:al (xc S x.1 j)=true/\xc S x.1 j∉ja.map (·.1)
 .rw[jb h];obtain⟨_,_,_,n⟩:=xG M.w x1 g;refine⟨?_,by rw[Hg];exact Sf _ b.hd,λy hy=>?_,λy hy=>?_,λk y hy=>?_,λi y l hy hl q ha=>?_⟩
  .rw[Hg];exact Xl.mpr ⟨b.nd,by simp,λu t v d e=>h.2 (by
    rw[JR,Hd]at d;have d:v=xc S x.1 j:=d
    rwa [<-d,<-e])⟩
  .rcases tf.mp hy with hy|hy
   .exact b.lt y hy
   rw[Hd.mp hy];refine⟨n,λz hz=>?_⟩
   rcases tf.mp hz with hz|hz
   .exact m z hz
   rw[Hd.mp hz];exact⟨by lia,by lia⟩
  .rcases tf.mp hy with hy|hy
   .exact b.pt y hy
   rw[Hd.mp hy,I0,(b.pt x<|jg a).1,Ys];exact⟨rfl,.on (b.pt x<|jg a).2 g h.1⟩
  .by_cases o:k<ja.length
   .rw[ik o]at hy;exact b.Xj k y hy
   have r:=b.Xj p x a;rw[ow (by lia)]at hy
   rw[Hd.mp<|jg hy,Ud,Ug];lia
  rw[Hg];rw[ik (by lia)]at hy
  by_cases f:i=p/\l=j
  .obtain⟨rfl,rfl⟩:=f;rw[a]at hy;cases hy;exact Ke _ (by simp)
  exact Sf _<|b.cls i y l hy hl (by lia) ha
 rw[Pa h];refine⟨b.nd,b.hd,b.lt,b.pt,b.Xj,λi y l hy hl q ha=>?_⟩
 by_cases f:i=p/\l=j
 .obtain⟨rfl,rfl⟩:=f;rw[a]at hy;cases hy;exact Uc λz=>h ⟨ha,z⟩
 exact b.cls i y l hy hl (by lia) ha
def BM.whole(b:BM S s c al ja.length 0 ja){g:Nat}(h:Hc S c al s g):g∈ja.map (·.1):=by
 induction h with
 |here=>exact b.hd
 |on _ f j d=>
  obtain⟨x,e,rfl⟩:=gd.mp d;obtain⟨i,a⟩:=Ul.mp e;exact b.cls i x _ a f (.inl (Ee.mp a).1) j
def BM.len(b:BM S s c al p j ja):ja.length<=S.length:=by
 have a:∀x∈ja.map (·.1),x∈List.range S.length:=λx d=>by
  obtain⟨y,e,rfl⟩:=gd.mp d;exact qf.mpr (b.lt y e).1
 have:=fJ S.length _ b.nd λx d=>qf.mp<|a x d
 rwa [Rb]at this
noncomputable def kD(a:ls):dL:=a.map λx=>D.int (x.1:Nat)
def DE(a:ls):(kD a).length=a.length:=by unfold kD;simp
def d8(a:ls)(g:Nat)(w:ac):kD (a++[(g,w)])=kD a++[.int g]:=by unfold kD;simp
def bSv{k:Nat}{x:Fa}(h:ja[k]?=some x):yd (kD ja) (k:Int)=some (.int x.1):=by
 have a:=(Ee.mp h).1;rw[Qb (by rwa [DE])]
 unfold kD;rw[jt,(Ee.mp h).2]
def bOx{g:Nat}{w:ac}{k:Nat}{x:Fa}(h:ja[k]?=some x):(Hw al ja g w)[k]?=some x:=by
 unfold Hw;split
 .rwa [ik (Ee.mp h).1]
 exact h
theorem OO(g:Nat)(a:ls):oG (kD a) (.int g)=decide (g∈a.map (·.1)):=by
 unfold oG kD;rw[Jw]
 by_cases h:g∈a.map (·.1)
 .rw[Jd h,ww];obtain⟨x,b,e⟩:=gd.mp h;exact⟨x,b,by simp[Gf,e]⟩
 rw[pe h,AH];intro x b;have:¬ (x.1:Int)=g:=λz=>h<|gd.mpr ⟨x,b,by lia⟩
 simp[Gf,this]
end
noncomputable def wD(a:ls):dL:=a.map λx=>D.str x.2
theorem e8(c:(ja.map (·.1)).Nodup){x:Fa}(b:x∈ja):uW (kD ja) (wD ja) (.int x.1)=some (.str x.2):=by
 unfold uW kD wD;rw[List.zip_map',List.find?_map];have:ja.find? ((λp:D×D=>Gf p.1<|.int x.1) ∘ λa=>(D.int a.1,D.str a.2))=some x:=by
  induction ja with
  |nil=>cases b
  |cons y ja d=>
   rw[gf,lj]at c;rcases qc.mp b with rfl|b
   .simp[Gf]
   have:¬ (y.1:Int)=(x.1):=λz=>c.1<|gd.mpr ⟨x,b,by lia⟩
   simp[Gf,beq_eq_false_iff_ne.mpr this];exact d c.2 b
 rw[this];rfl
section
variable{S:am}{rk:ac}{s c p j:Nat}{al:At}{ja:ls}
noncomputable def Yj(S:am)(s:Nat)(e:ac)(a:ls)(p:Nat)(d c b:f8):za:=
 [some<|.v<|.lst<|Wb S,some<|.v<|.int s,some<|.v<|.lst<|ia e,some<|.o (.d false<|kD a)<|wD a,some<|.o .l<|kD a,some<|.v<|.int p,d,c,b]
def bOy(a:ls):(wD a).length=a.length:=by unfold wD;simp
def bOz(a:ls)(g:Nat)(w:ac):wD (a++[(g,w)])=wD a++[.str w]:=by unfold wD;simp
theorem bBn(M:Va S rk c)(a:ac)(b:BM S s c (λg=>decide (g∈a)) p j ja){x:Fa}(d:ja[p]?=some x)(ch g:Nat) :
  kJ (Yj S s a ja p x.1 (D.str [ch]) g)=.ok (.nx<|Yj S s a (Hw (λg=>decide (g∈a)) ja g<|x.2++[ch]) p x.1 (D.str [ch]) g):=by
 have r:=M.most;have w:=b.len;have u:=b.Xj p x d;have v:=(Ee.mp d).1;obtain⟨m,l,_⟩:=iW a;have k:e2 br (aA 8) (aA 2) (Yj S s a ja p x.1 (D.str [ch]) g)=.ok (.bl<|decide _):=aG rfl rfl (by rw[<-LD];exact aF ⟨by rw[l];decide,rfl,m⟩)
 have i:e2 tE (aA 8) (dB 3) (Yj S s a ja p x.1 (D.str [ch]) g)=.ok (.bl<|!decide _):=aG rfl rfl (by rw[<-OO];exact aF rfl)
 have t:=rq k λ_=>i
 unfold Hw
 by_cases h:decide (g∈a)=true/\g∉ja.map (·.1)
 .rw[jb h];rw[h.1,pe h.2]at t;have f:oG (kD ja) (.int g)=false:=by rw[OO,pe h.2]
  have q:uX (kD ja) (.int g)=kD (ja++[(g,x.2++[ch])]):=by
   unfold uX;rw[f,d8];rfl
  have o:uY (kD ja) (wD ja) (.int g) (.str<|x.2++[ch])=wD (ja++[(g,x.2++[ch])]):=by
   unfold uY;rw[f,bOz];rfl
  refine yV t<|aH (st':=[D.lst<|Wb S,s,D.lst<|ia a,some<|.o (.d false<|kD<|ja++[(g,x.2++[ch])])<|wD<|ja++[(g,x.2++[ch])],some<|.o .l<|kD ja,p,x.1,D.str [ch],g]) ?_ ?_
  .have e:e2 iJ (e2 Wa (dB 3)<|aA 6) (aA 7) (Yj S s a ja p x.1 (D.str [ch]) g)=.ok (.str<|x.2++[ch]):=by
    refine aG (x:=.str x.2) (aG rfl rfl ?_) rfl<|aF<|cO<|by show x.2.length+1<=_;lia
    show aP _ _=_;rw[aF (c:=lc false _=true) rfl,e8 b.nd<|jg d];rfl
   unfold ud;rw[e,<-q,<-o];exact aF ⟨rfl,Vr<|by rw[bOy];lia⟩
  rw[tR rfl rfl (by rw[DE];lia),<-d8 ja g _]
  rfl
 rw[Pa h];refine mZ (qK t ?_) rfl;cases n:decide (g∈a) with
 |false=>rfl
 |true=>rw[Jd<|Uc λz=>h ⟨n,z⟩];rfl
theorem UY(M:Va S rk c)(d:ac):∀(m j:Nat) (a:ls) (k i:f8) (x:Fa),j+m=c->BM S s c (λg=>decide (g∈d)) p j a->a[p]?=some x->
  ∃h o n,pb (nh [7,8]) kJ ((List.range' j m).map λl=>D.tup [.str [97+l],.int<|xc S x.1 l]) (Yj S s d a p x.1 k i)=.ok (.nx<|Yj S s d h p x.1 o n)/\BM S s c (λg=>decide (g∈d)) p c h/\h[p]?=some x
 |0,j,a,k,i,x,q,b,f=>⟨a,k,i,rfl,by grind,f⟩
 |m+1,j,a,k,i,x,q,b,f=>by
  obtain⟨h,o,n,e,r,t⟩:=UY M d m (j+1) _ _ _ x (by lia) (b.turn M f<|by lia)<|bOx f
  refine⟨h,o,n,?_,r,t⟩;show (kJ<|Yj S s d a p _ _ _).bind _=_
  rwa [bBn M d b f]
theorem bJq(M:Va S rk c){h:Nat}(g:h<S.length):oo [97,98,99] (ia S[h])=(List.range' 0 c).map λl=>D.tup [.str [97+l],.int<|xc S h l]:=by
 have f:=(M.row S[h] (Vg g)).1;have e:∀l,xc S h l=S[h].getD l 0:=λl=>by simp[xc,List.getElem?_eq_getElem g]
 have j:=M.c1;have i:=M.c3;simp only[e];generalize S[h]=r at f
 match r,f with
 |[],f=>simp at f;lia
 |[a],f=>subst f;rfl
 |[a,b],f=>subst f;rfl
 |[a,b,d],f=>subst f;rfl
 |_::_::_::_::r,f=>simp at f;lia
theorem VY(M:Va S rk c)(i:ac):∀(m p:Nat) (d:ls) (n l k:f8) (f:Nat),S.length+1<=m+p->m<=f->BM S s c (λg=>decide (g∈i)) p 0 d->p<=d.length->
  ∃j F q o,jA mW wY f (Yj S s i d p n l k)=.ok (.nx<|Yj S s i j j.length F q o)/\BM S s c (λg=>decide (g∈i)) j.length 0 j
 |0,p,d,n,l,k,f,z,A,b,y=>by have:=b.len;lia
 |m+1,p,d,n,l,k,f,z,A,b,y=>by
  obtain⟨f,rfl⟩:∃g,f=g+1:=⟨f-1,by lia⟩
  have a:mW (Yj S s i d p n l k)=.ok _:=aG rfl rfl rfl;rw[DE]at a
  by_cases h:p<d.length
  .have r:=Kc h;generalize d[p]=x at r;obtain⟨t,_⟩:=b.lt x<|jg r;obtain⟨j,q,o,e,D,G⟩:=UY M i c 0 d l k x (by lia) b r
   have H:=(Ee.mp G).1;obtain⟨E,w,v,u,B,C⟩:=VY M i m (p+1) j _ q o f (by lia) (by lia) D.next (by lia)
   refine⟨E,w,v,u,pO (qK a<|bw h) (aH (bB<|aG rfl rfl<|dR<|bSv r)<|aH (st':=Yj S s i j p _ q o) (dU (xs:=oo [97,98,99]<|ia S[x.1]) ?_ ?_)<|bB rfl) B,C⟩
   .show ((e2 Wa _ _) _).bind _=_;rw[aG rfl rfl<|dR<|tq t];rfl
   rwa [bJq M t]
  have:p=d.length:=by lia
  subst this;exact⟨d,n,l,k,pA<|qK a<|DG h,b⟩
theorem E5(M:Va S rk c){s:Nat}(hs:s<S.length)(d:ac):∃a,lF [.lst<|Wb S,.int s,.lst<|ia d]=.ok (.Fe false (kD a)<|wD a)/\BM S s c (λg=>decide (g∈d)) a.length 0 a:=by
 have j:=M.most;obtain⟨a,i,h,f,e,b⟩:=VY M d (S.length+1) 0 [(s,[])] none none none 100000 (by lia) (by lia) (BM.start hs) (by simp)
 refine⟨a,bL rfl<|aH (st':=[D.lst<|Wb S,s,D.lst<|ia d,some<|.o (.d false<|kD [(s,[])])<|wD [(s,[])],none,none,none,none,none]) (bOq (bEq λz=>nomatch z.1)<|by simp[EO,XF,atom,kD,wD])<|aH (st':=[D.lst<|Wb S,s,D.lst<|ia d,some<|.o (.d false<|kD [(s,[])])<|wD [(s,[])],some<|.o .l<|kD [(s,[])],none,none,none,none]) (by simp[kD])<|aH (st':=Yj S s d [(s,[])] 0 none none none) (by simp[Yj])<|aH (by rwa [nL]) ?_,b⟩
 simp[Yj]
end
noncomputable def DV(a:ls):dL:=a.map λx=>D.tup [.int (x.1:Nat),.str x.2]
theorem g8:∀a:ls,List.zipWith (λk d=>D.tup [k,d]) (kD a) (wD a)=DV a
 |[]=>rfl
 |x::l=>congrArg _<|g8 l
section
variable{S:am}{rk:ac}{c:Nat}{ja:ls}
abbrev bV6(S:am)(c:Nat)(a:ls):Prop:=BM S 0 c (λg=>decide (g∈List.range S.length)) a.length 0 a
theorem aW7(M:Va S rk c):∃a,nO [mD S rk c]=.ok (.lst<|DV a)/\bV6 S c a:=by
 have f:=M.most;obtain⟨a,e,b⟩:=E5 M ((M.one)) _;have g:=b.len;refine⟨a,bL rfl ?_,b⟩;have d:lU [mD S rk c,none]=.ok (.nx [mD S rk c,D.Fe false (kD a)<|wD a]):=by
  refine aH (bB<|aK (aN (gO)<|aN rfl<|aN ?_ rfl) e) rfl;show R.bind (cL "Machine" "many"<|mD S rk c) Px=_;rw[lJ,<-(show oJ 0 S.length=ia _ by rw[ZJ];rfl)]
  exact aF ⟨Nx (by lia),Tu<|by lia⟩
 show sE lU _ [some _,none]=_;unfold sE;rw[d];show R.bind (aP _ _) _=_;rw[aF<|cO<|by rw[DE];lia,g8]
 rfl
end
theorem bJr{l:Nat}(h:l<3):Wa (.str [97,98,99]) (.int l)=.ok (.str [97+l]):=by
 show aP _ _=_;rw[aF<|cO<|by simp]
 have:l=0\/l=1\/l=2:=by lia
 rcases this with rfl|rfl|rfl<;>rfl
def bP0(l m:ac):Ad (.lst<|ia l) (.lst<|ia m)=.ok (.bl<|decide (l=m)):=by
 obtain⟨c,b,_⟩:=iW l;obtain⟨a,_,_⟩:=iW m;simp[c,b,a,(Vx l m)]
section
variable{S:am}{rk:ac}{c n s g r:Nat}{al:At}
noncomputable def FQ(S:am)(rk:ac)(c n r:Nat)(x:ac)(h:Nat)(a:f8):za:=[some<|.v<|mD S rk c,some<|.v<|.int n,some<|.v<|.int r,some<|.v<|.str x,some<|.v<|.int h,a]
def aW8{e:De}{st:za}(b:f st=.ok (mD S rk c))(a:e st=.ok xs):oU "Machine" "rooms_along" p [] f e st=p (mD S rk c::xs):=by
 rw[VC,b,a];show aP _ _=_;rw[Nh];exact aF ⟨rfl,by decide⟩
theorem kM:∀(w:ac)(q:Nat),Dm S q w=Sa S q w
 |[],_=>rfl
 |_::w,_=>kM w _
theorem mM:∀(w:ac)(q:Nat),runs S q w=bc S q w
 |[],_=>rfl
 |_::w,q=>by show _::runs S _ w=_::bc S _ w;rw[mM w]
theorem O2(M:Va S rk c)(h:n<2^S.length)(p:ph S c n){a b:Nat}(f:a∈aR n)(o:b∈aR n):∃u,Gx [mD S rk c,.int n,.int a,.int b]=.ok (.str u)/\Mc c u/\u.length<=8/\Sa S a u=b:=by
 have q:=M.most;obtain⟨r,e,m⟩:=E5 M (bC h f) _;have i:=m.whole<|(p.2.1 a f b o).mono λg l=>Jd<|aY.mpr l
 obtain⟨x,d,rfl⟩:=gd.mp i;obtain⟨k,j⟩:=Ul.mp d;have v:=m.Xj k x j;have t:=(Ee.mp j).1;have s:=m.len;refine⟨x.2,bL rfl<|fH (mZ (xF (p:=true)<|aK rfl<|by rw[xv,(aY.mp f)]) rfl)<|cD ?_,(m.lt x d).2,by lia,by rw[<-kM];exact(m.pt x d).1⟩
 unfold EQ;rw[aK (aN (gO)<|aN rfl<|aN (aK rfl<|jE h<|by lia) rfl) e]
 show aP _ _=_;rw[aF (c:=lc false _=true) rfl,jb (by rw[OO];exact Jd i),e8 m.nd d]
 rfl
theorem NK(M:Va S rk c)(p:n<2^S.length)(H:ph S c n)(F:r∈aR n):∀(i:ac)(x:ac)(h j:Nat)(o:f8),(∀g∈i,g∈aR n)->Mc c x->h∈aR n->x.length<=j*8->j+i.length<=8->Sa S r x=h->
  ∃b f m,pb (gb 5) AY (ia i) (FQ S rk c n r x h o)=.ok (.nx<|FQ S rk c n r b f m)/\f∈aR n/\b.length<=64/\Mc c b/\Sa S r b=f/\(∃z,b=x++z)/\∀g∈i,g∈r::bc S r b
 |[],x,h,j,o,_,l,w,K,J,v=>⟨x,h,o,rfl,w,by lia,l,v,⟨[],(Nh _).symm⟩,λ_ z=>nomatch z⟩
 |g::i,x,h,j,o,s,l,w,K,J,v=>by
  rw[Ed]at J;obtain⟨Q,P,_⟩:=iW<|r::runs S r x;have t:e2 tE (aA 5) (oU "Machine" "rooms_along" cH [] (aA 0)<|aC (aA 2)<|aC (aA 3) aQ) (FQ S rk c n r x h g)=.ok (.bl<|!decide (g∈r::runs S r x)):=aG rfl ((aW8 rfl rfl).trans<|TL M (bC p F) x l<|by lia) (by
   rw[<-LD];exact aF ⟨by rw[P];exact Ef 60,rfl,Q⟩)
  rw[mM]at t;have keep:∀{y z:ac},g∈r::bc S r y->g∈r::bc S r (y++z):=λ{y z} d=>by
   rw[kZ];rcases qc.mp d with q|q
   .rw[q];exact qb
   exact Mb _<|Sf _ q
  cases G:(!decide (g∈r::bc S r x)) with
  |false=>
   rw[G]at t;obtain⟨b,f,m,e,E,D,C,B,⟨z,k⟩,A⟩:=NK M p H F i x h j g (λy d=>s y<|Mb _ d) l w K (by lia) v
   refine⟨b,f,m,dO rfl (mZ t rfl) e,E,D,C,B,⟨z,k⟩,λy d=>?_⟩
   rcases qc.mp d with q|q
   .rw[q,k];exact keep<|vo<|by rw[<-Bool.not_not (decide _),G];rfl
   exact A y q
  |true=>
   rw[G]at t;obtain⟨u,O,N,T,L⟩:=O2 M p H w<|s g qb;have I:Sa S r (x++u)=g:=by rw[Sa,eV];show Sa S (Sa S r x) u=g;rw[v,L]
   obtain⟨b,f,m,e,E,D,C,B,⟨z,k⟩,A⟩:=NK M p H F i (x++u) g (j+1) g (λy d=>s y<|Mb _ d) (λz R=>(tf.mp R).elim (l z)<|N z) (s g qb) (by rw[Ud];lia) (by lia) I
   refine⟨b,f,m,dO rfl (yV t<|aH (bB<|aG rfl (aK rfl O)<|aF<|cO<|by lia)<|bB rfl) e,E,D,C,B,⟨u++z,by rw[k,Bh]⟩,λy d=>?_⟩
   rcases qc.mp d with q|q
   .rw[q,k];refine keep ?_
    rcases pU (x++u) r with ⟨a,_⟩|a
    .rw[I]at a;rw[a];exact qb
    rw[I]at a;exact Mb _ a
   exact A y q
theorem aW9(M:Va S rk c)(f:n<2^S.length)(o:ph S c n)(d:r∈aR n):∃u,jQ [mD S rk c,.int n,.int r]=.ok (.str u)/\u≠[]/\Mc c u/\Sa S r u=r/\u.length<=80:=by
 have Q:=M.most;have c3:=M.c3;have w:=bC f d;have J:=jE f (by lia)
 have hk:=Xd (fJ S.length _ (cU _) λy V=>bC f V) Q
 have G:Pd (tH<|aO yN<|aC (aA 0)<|aC (aA 1) aQ) oK dF [mD S rk c,n,r,none,none,none]=.ok (.nx [mD S rk c,n,r,none,none,none]):=mZ ((xF (p:=true)<|aK rfl<|by rw[aW5 M f,Jd<|(bBj M.w f).mpr o])) rfl
 have F:Pd (tH<|aO gU<|aC (aA 1)<|aC (aA 2) aQ) oK dF [mD S rk c,n,r,none,none,none]=.ok (.nx [mD S rk c,n,r,none,none,none]):=mZ ((xF (p:=true)<|aK rfl<|by rw[xv,aY.mp d])) rfl
 have j:=aG (f:=aO cQ<|aC (aA 1) aQ) (g:=mK<|aC (aA 2) aQ) (st:=[mD S rk c,n,r,none,none,none]) (aK rfl J) (fU rfl)<|bP0 (aR n) [r]
 by_cases p:aR n=[r]
 .rw[Jd p]at j;have t:=o.2.2;unfold Yb at t;rw[p]at t;have H:=by
   exact vo<|show decide (r∈S.getD r [])=true from t
  have m:S.getD r []=S[r]:=by rw[bf,Kc w];rfl
  rw[m]at H;have Lp:=(M.row S[r] (Vg w)).1;have W:((S[r].map λ(x:Nat)=>(x:Int)).findIdx? λi=>i==(r:Int)).isSome=true:=by
   rw[Y_,ww];exact⟨r,gd.mpr ⟨r,H,rfl⟩,by simp⟩
  obtain⟨k,I⟩:=x_.mp W;obtain⟨B,l,_⟩:=SQ.mp I;rw[Rb]at B;have X:S[r][k]=r:=by
   rw[jt,Nm]at l;exact Int.ofNat_inj.mp l
  have P:xc S r k=r:=by
   unfold xc
   rwa [m,bf,Kc B]
  have v:Ni kF (e2 Wa (e1 (cL "Machine" "steps")<|aA 0)<|aA 2) (aC (aA 2) aQ) [mD S rk c,n,r,none,none,none]=.ok (.int k):=by
   unfold Ni;rw[aG (show e1 (cL "Machine" "steps") (aA 0) [mD S rk c,n,r,none,none,none]=_ from gO) rfl<|dR<|tq w]
   show (yD<|ia S[r]).bind _=_;rw[show ia S[r]=(S[r].map λ(x:Nat)=>(x:Int)).map D.int by rw[Dg];rfl,qM,bT,I]
   show R.bind (.ok k) _=_;rw[bT];exact aF<|cO<|by rw[Rb,Rb];lia
  exact⟨[97+k],bL rfl<|fH G<|fH F<|pq<|(yV j<|cD<|aG rfl v<|bJr<|by lia),List.cons_ne_nil _ _,λz s=>by rw[Hd.mp s];constructor<;>lia,by show xc S r (97+k-97)=r;rw[Ys,P],by simp⟩
 rw[pe p]at j;obtain⟨x,h,Y,e,l,k3,U,T,_,A⟩:=NK M f o d (aR n) [] r 0 none (λ_ z=>z) (λ_ z=>nomatch z) d (Ef _) (by lia) rfl
 obtain⟨y,O,N,Z,K⟩:=O2 M f o l d;refine⟨x++y,bL rfl<|fH G<|fH F<|fH ((mZ j rfl))<|aH ((bB rfl))<|aH ((bB rfl))<|aH ((dU (kY<|aK rfl J) e))<|(cD<|aG rfl (aK rfl O)<|aF<|cO<|by lia),λz=>p ?_,λz s=>(tf.mp s).elim (U z)<|N z,by rw[Sa,eV];show Sa S (Sa S r x) y=r;rw[T,K],by rw[Ud];lia⟩
 rw[Us]at z;rw[z.1]at A;have all:=λg m=>Hd.mp<|A g m
 have q:=cU n;cases C:aR n with
 |nil=>rw[C]at d;cases d
 |cons a L=>
  rw[C]at all q;have E:=all a qb;cases L with
  |nil=>rw[E]
  |cons b L=>
   rw[E,(all b<|Mb _ qb)]at q;exact absurd qb (lj.mp q).1
end
theorem QO(l:lv):∀a:lv,(l.foldl (λa x=>if a.any (· == x) then a else a++[x]) a).length<=a.length+l.length:=by
 induction l with
 |nil=>intro a;exact Pb _
 |cons y l b=>
  intro a;rw[Yk,Ed];refine Xd (b _) ?_
  split
  .lia
  rw[Ud,Ug];lia
section
variable{S:am}{rk:ac}{c n al:Nat}{p:Int}{w:Bool}
def Pk(rk:ac)(al:Nat)(p:Int):Nat:=jY<|(aR al).filter λr=>decide ((rk.getD r 0:Int)<=p)
def DN:r∈aR (Pk rk al p)↔r∈aR al/\(rk.getD r 0:Int)<=p:=by
 unfold Pk;rw[dI,Vf,qh]
def zv(b:al<2^S.length):Pk rk al p<2^S.length:=zT λr a=>bC b (Vf.mp a).1
noncomputable def Zu(S:am)(c:Nat)(rk:ac)(al:Nat)(p:Int):ac:=(dM S c<|Pk rk al p).filter λm=>decide (uM rk m=p)
noncomputable def dw(rk:ac)(al:Nat)(w:Bool):lv:=(Bj<|rZ<|(aR al).map λr=>(rk.getD r 0:Int)).filter λp=>decide (p%2=0)==w
noncomputable def RO(S:am)(c:Nat)(rk:ac)(al:Nat)(w:Bool):ac:=(dw rk al w).flatMap<|Zu S c rk al
noncomputable def Ov(S:am)(c:Nat)(rk:ac)(al:Nat)(p:Int)(r:Nat):Bool:=Yb S (gC S c (Pk rk al p) r)&&decide (uM rk (gC S c (Pk rk al p) r)=p)
def bBp(M:Va S rk c)(d:al<2^S.length){r:Nat}(b:r∈aR (Pk rk al p))(a:Ov S c rk al p r=true):ph S c (gC S c (Pk rk al p) r)/\(∀g∈aR (gC S c (Pk rk al p) r),g∈aR al)/\uM rk (gC S c (Pk rk al p) r)=p:=by
 unfold Ov at a;rw[Wk,qh]at a;exact⟨yX M.w (zv d) b a.1,λg a=>(DN.mp<|ND M.w (zv d) b a).1,a.2⟩
def bBq(M:Va S rk c)(i:al<2^S.length){m:Nat}(f:ph S c m)(hs:∀g∈aR m,g∈aR al)(l:uM rk m=p) (e:r∈aR m):r∈aR (Pk rk al p)/\Ov S c rk al p r=true/\∀g∈aR m,g∈aR (gC S c (Pk rk al p) r):=by
 obtain⟨⟨g,d,j⟩,h⟩:=vQ f.1;rw[l]at j h;have a:=λg d=>DN.mpr ⟨hs g d,h g d⟩
 have b:=nN M.w (zv i) f a e;refine⟨a r e,?_,b⟩;unfold Ov;rw[eM f b,Jd<|BE (b g d) j λy k=>(DN.mp<|ND M.w (zv i) (a r e) k).2]
 rfl
def bBr(M:Va S rk c)(d:al<2^S.length){m:Nat}(h:m∈Zu S c rk al p):m<2^S.length/\ph S c m/\(∀g∈aR m,g∈aR al)/\uM rk m=p:=by
 obtain⟨f,e⟩:=Vf.mp h;obtain⟨r,a,rfl,b⟩:=fW.mp f;exact⟨Wu,bBp M d a<|by unfold Ov;rw[b,e];rfl⟩
def F5:p∈dw rk al w↔(∃r∈aR al,(rk.getD r 0:Int)=p)/\(decide (p%2=0)==w)=true:=by
 unfold dw;rw[Vf,xE,gd]
end
theorem P2{tg:Tg}{C E:Ex}{st:za}{q:Int->Bool}:∀(a:lv),(∀k∈a,∃s1,tg (.int k) st=.ok s1/\C s1=.ok (.bl<|q k)/\E s1=.ok (.int k))->jL tg C E st (a.map D.int)=.ok ((a.filter q).map D.int)
 |[],_=>rfl
 |k::a,h=>by
  obtain⟨s1,d,c,g⟩:=h k qb;have e:=P2 a λk b=>h k<|Mb _ b
  rw[gf,jO,d,bT,c,bT,oy];cases f:q k with
  |true=>simp_all
  |false=>grind
def i8(p q:Bool):Ad (.bl p) (.bl q)=.ok (.bl<|p==q):=aF ⟨Ef 64,rfl,rfl⟩
def bP2(l:ac):Ad (.lst<|ia l) (.lst [])=.ok (.bl<|decide (l=[])):=by
 obtain⟨b,a,_⟩:=iW l;have:=Vx l [];rw[show ia []=[] from rfl]at this
 simp[b,a,this]
section
variable {al:Nat} {p:Int} {w:Bool}
def r9(M:Va S rk c){r:Nat}(b:r<S.length):yd (ia rk) (r:Int)=some (.int (rk.getD r 0:Nat)):=by
 have a:r<rk.length:=by rwa [M.El]
 rw[Qb (by rwa [bI])]
 simp[ia,List.getElem?_eq_getElem a]
def Wx(b:n<2^S.length):(aR n).length<=S.length:=fJ S.length _ (cU _) λx a=>bC b a
theorem bJs(M:Va S rk c)(a:al<2^S.length):nJ [mD S rk c,.int al,.bl w]=.ok (.lst<|(dw rk al w).map D.int):=by
 have g:=M.most;have e:=Wx a;have b:=pP (tg:=gb 5) (C:=cV) (E:=wJ) (st:=[mD S rk c,al,D.bl w,none,none,none]) _<|λr d=>⟨_,rfl,rfl,aG (qX) rfl<|dR<|r9 M<|bC a d⟩
 rw[ZG.mpr λ_ _=>rfl]at b
 have f:(aR al).map (λr=>D.int<|rk.getD r 0)=((aR al).map λr=>(rk.getD r 0:Int)).map D.int:=by rw[Dg];rfl
 rw[f]at b;have h:(Bj<|rZ<|(aR al).map λr=>(rk.getD r 0)).length<=S.length:=by
  rw[(sH _).length_eq];refine Xd (QO _ []) ?_
  simpa using e
 refine bL rfl<|aH (bB (by
  rw[Jv,gF (kY<|aK rfl<|jE a<|by lia) (by rw[bI];lia) b,bT]
  show (yD _).bind _=_;rw[qM];exact aF ⟨by rw[Rb];lia,LR (QO _ [])<|by grind⟩))<|cD<|gF (kY rfl) (by rw[Rb];lia)<|P2 _ λk _=>⟨_,rfl,aG (aG (aG rfl rfl<|pN<|by decide) rfl<|oM _ _) rfl<|i8 _ _,rfl⟩
def G5(M:Va S rk c)(d:n<2^S.length) (h:m∈dM S c n):m<2^S.length/\m≠0:=by
 obtain⟨r,a,rfl,b⟩:=fW.mp h;exact⟨Wu,(yX M.w d a b).1⟩
theorem bBs(M:Va S rk c)(a:al<2^S.length):pG [mD S rk c,.int al,.int p]=.ok (.lst<|ia<|Zu S c rk al p):=by
 have h:=M.most;have i:=Wx a;have b:=zv (rk:=rk) (p:=p) a;have f:nM [mD S rk c,al,p,none,none,none]=.ok (.nx [mD S rk c,al,p,Pk rk al p,none,none]):=by
  refine aH (bB<|aK (aN (gF (kY<|aK rfl<|jE a<|by lia) (by rw[bI];lia)<|pP _ λr d=>⟨_,rfl,aG (aG (qX) rfl<|dR<|r9 M<|bC a d) rfl rfl,rfl⟩) rfl)<|Vu (λr d=>by have:=bC a (Vf.mp d).1;lia) (by have:=yw (λr=>decide ((rk.getD r 0)<=p))<|aR al;lia)) rfl
 have g:=Xd (QC (U:=S) (c:=c))<|Wx b;refine bL rfl ?_
 show sE nM _ [some _,some _,some _,none,none,none]=_;unfold sE;rw[f];show R.bind _ _=_;rw[(gF (kY<|aK rfl<|xD M b) (by rw[bI];lia)<|pP (C:=qO) _ λm e=>⟨_,rfl,aG (aK rfl<|NO M (G5 M b e).1 (G5 M b e).2) rfl<|oM _ _,rfl⟩)]
 rfl
theorem J0(M:Va S rk c)(d:al<2^S.length):∀(ps:lv)(F:ac)(a:f8),F.length+8*ps.length<=1000->∃b,pb (gb 4) wK (ps.map D.int) [mD S rk c,al,D.bl w,some<|.o .l<|ia F,a]=.ok (.nx [mD S rk c,al,D.bl w,some<|.o .l<|ia<|F++ps.flatMap (Zu S c rk al),b])
 |[],F,a,_=>⟨a,by simp⟩
 |p::ps,F,a,g=>by
  have f:(Zu S c rk al p).length<=8:=Xd (yw _ _)<|Xd QC<|Xd (Wx<|zv d) M.most;obtain⟨b,e⟩:=J0 M d ps (F++Zu S c rk al p) _ (by grind)
  rw[Bh]at e;refine⟨b,dO rfl (sy (aK rfl<|bBs M d) rfl<|cO<|by rw[bI,bI];lia) ?_⟩
  rwa [<-(show ia _=ia F++ia _ from Hg)]
theorem J5(M:Va S rk c)(a:al<2^S.length):jW [mD S rk c,.int al,.bl w]=.ok (.lst<|ia<|RO S c rk al w):=by
 have b:=M.most;have d:(dw rk al w).length<=8:=by
  refine Xd (yw _ _) ?_
  rw[(sH _).length_eq];refine Xd (QO _ []) ?_
  have:=Wx a;simp;lia
 obtain⟨x4,e⟩:=J0 M a (dw rk al w) [] none (by simp;lia)
 exact bL rfl<|aH (iC<|fU rfl)<|aH (dU (kY<|aK rfl<|bJs M a) e) rfl
end
section
variable{S:am}{rk:ac}{c n:Nat}
abbrev Fi(m n:Nat):Prop:=∀g∈aR m,g∈aR n
def sM(a:n≠0):aR n≠[]:=λz=>a (by
 have:=pB n;rw[z]at this;exact this.symm)
def bBt(d:n≠0):(∃r∈aR n,(rk.getD r 0:Int)=uM rk n)/\∀r∈aR n,(rk.getD r 0:Int)<=uM rk n:=by
 obtain⟨c,b⟩:=tN (l:=(aR n).map λr=>(rk.getD r 0)) (by simpa using sM d)
 obtain⟨r,a,e⟩:=gd.mp c;exact⟨⟨r,a,e⟩,λr a=>b _<|gd.mpr ⟨r,a,rfl⟩⟩
def Ge(rk:ac)(m:Nat):Bool:=decide (uM rk m%2=0)
def Hl(m:Nat):Nat:=(aR m).length
noncomputable def Sn(rk:ac)(m:Nat):Nat:=jY<|(aR m).filter λr=>!decide ((rk.getD r 0:Int)=uM rk m)
def SO:r∈aR (Sn rk m)↔r∈aR m/\(rk.getD r 0:Int)≠uM rk m:=by
 unfold Sn;rw[dI];simp
def HF{k:Nat}(h:m<2^k):Sn rk m<2^k:=zT λr a=>bC h (Vf.mp a).1
def PK(M:Va S rk c) (b:m<2^S.length) (h:q∈dM S c m):ph S c q/\Fi q m/\q<2^S.length:=by
 obtain⟨r,a,rfl,d⟩:=fW.mp h;exact⟨yX M.w b a d,λg e=>ND M.w b a e,Wu⟩
def bJt(M:Va S rk c){m z:Nat}(e:m<2^S.length)(b:ph S c z)(hs:Fi z m):∃q∈dM S c m,Fi z q:=by
 obtain⟨r,d⟩:=jz _<|sM b.1;have a:=nN M.w e b hs d;exact⟨_,fW.mpr ⟨r,hs r d,rfl,eM b a⟩,a⟩
def bJu(M:Va S rk c){p g:Nat}(e:m<2^S.length)(h:p∈dM S c m)(f:q∈dM S c m)(l:g∈aR p)(k:g∈aR q):p=q:=by
 obtain⟨a,j,rfl,_⟩:=fW.mp h;obtain⟨b,i,rfl,_⟩:=fW.mp f;have d:=bC e i;exact WL M.w d<|((iQ M.w d).mp<|aY.mp k).trans ((iQ M.w<|bC e j).mp<|aY.mp l).symm
def bSw{p:Nat}(h:Fi m p)(c:r∈aR p)(b:r∉aR m):Hl m<Hl p:=by
 have:=(lj.mpr ⟨b,cU m⟩).length_le_of_subset λx a=>by
  rcases qc.mp a with z|z
  .rwa [z]
  exact h x z
 rwa [Ed]at this
inductive BJ (S:am) (c:Nat) (rk:ac) (w:Bool):FS
 |out {P Y:Nat}:Y∈dM S c (Sn rk P)->Ge rk Y≠w->BJ S c rk w P Y
 |go {P Q Y:Nat}:Q∈dM S c (Sn rk P)->Ge rk Q=w->BJ S c rk w Q Y->BJ S c rk w P Y
def j8(base:Nat)(good:Bool):Nat:=if (decide (base%2=0))==good then base else base+1
def bSx(f:tz)(a:Nat)(l:ac):Nat:=l.foldl (λa y=>max a<|f y+1) a
noncomputable def NI(rk:ac)(L:Nat->List Nat)(base:Nat):Nat->Nat->Nat
 |0,_=>0
 |k+1,X=>bSx (NI rk L base k) (j8 base<|Ge rk X)<|L X
section
variable{L:Nat->List Nat}{base:Nat}
def bP3{X:Nat}(h:X≠0):1<=Hl X:=YG.mpr<|sM h
inductive Row (S:am) (c:Nat) (rk:ac) (base:Nat):FS
 |one {Z:Nat}:ph S c Z->Row S c rk base Z (j8 base<|Ge rk Z)
 |up {Y Z v:Nat}:Row S c rk base Y v->ph S c Z->Fi Y Z->Ge rk Y≠Ge rk Z->Row S c rk base Z (v+1)
end
theorem GQ(M:Va S rk c)(b:n<2^S.length):(aR n).length<=8:=by
 have:=fJ S.length _ (cU n) λx a=>bC b a
 have:=M.most;lia
theorem bFp(M:Va S rk c)(b:n<2^S.length){a:Nat}{st:za}(h:st[a]?=some (some<|.v<|.int (n:Int))):aO cQ (aC (aA a) aQ) st=.ok (.lst<|ia<|aR n):=
 aK (aN (CN h) rfl) (jE b (by have:=M.most;lia))
theorem aWd(M:Va S rk c)(a:n<2^S.length)(d:n≠0):rD [mD S rk c,.int n]=.ok (.int<|Sn rk n):=by
 have f:=GQ M a;exact bL rfl<|aH (bB<|aK rfl<|NO M a d)<|cD<|aK (aN (gF (kY<|bFp M a rfl) (by rw[bI];lia) (pP _ λr b=>by
  have e:r<rk.length:=by rw[M.El];exact bC a b
  exact⟨_,rfl,(aG (aG (qX) rfl<|dR (by
   rw[Qb (by rwa [bI])]
   simp[ia,List.getElem?_eq_getElem e])) rfl<|vv _ _),rfl⟩)) rfl)<|Vu (λr b=>by have:=bC a (Vf.mp b).1;have:=M.most;lia)<|by grind
theorem WY(f:tz)(q:At):∀(c ps:ac),ps.Nodup->(c.foldl (λps r=>if f r∉ps/\q (f r)=true then ps++[f r] else ps) ps).Nodup
 |[],_,h=>h
 |r::c,ps,h=>by
  rw[Yk];refine WY f q c _ ?_
  split
  .refine Xl.mpr ⟨h,lj.mpr ⟨not_mem_nil,Dt⟩,λa g b d e=>?_⟩
   simp_all
  exact h
def Ű:(dM S c m).Nodup:=WY _ _ _ _ Dt
noncomputable def oi(l:ac):Nat:=(l.map Hl).sum
def K5(l m:ac):oi (l++m)=oi l+oi m:=by unfold oi;simp
def bP5{l:ac}(f:l.Nodup)(hs:∀q∈l,Fi q m)(d:∀p∈l,∀q∈l,∀g,g∈aR p->g∈aR q->p=q):oi l<=Hl m:=by
 have h:∀l:ac,l.Nodup->(∀p∈l,∀q∈l,∀g,g∈aR p->g∈aR q->p=q)->(l.flatMap aR).Nodup/\(l.flatMap aR).length=oi l:=λl=>by
  induction l with
  |nil=>exact λ_ _=>⟨Dt,rfl⟩
  |cons p l s=>
   intro f d;obtain⟨k,n⟩:=lj.mp f;obtain⟨t,v⟩:=s n λp u q c=>d p (Mb _ u) q<|Mb _ c
   refine⟨Xl.mpr ⟨cU p,t,λa ha b j e=>?_⟩,?_⟩
   .obtain⟨q,c,j⟩:=pz.mp j;subst e;rw[d p qb q (Mb _ c) a ha j]at k;exact k c
   unfold oi Hl;simp
 obtain⟨r,o⟩:=h l f d;rw[<-o];exact r.length_le_of_subset λg i=>by
  obtain⟨q,c,i⟩:=pz.mp i;exact hs q c g i
theorem bBu(M:Va S rk c){p:Nat}(n:p≠0)(d:p<2^S.length):oi (dM S c<|Sn rk p)<Hl p:=by
 obtain⟨⟨r,i,e⟩,_⟩:=bBt n;have h:=bP5 (m:=Sn rk p) Ű (λq j=>(PK M (HF d) j).2.1) λa m b l g h f=>bJu M (HF d) m l h f
 have f:Hl (Sn rk p)<Hl p:=bSw (λg k=>(SO.mp k).1) i λz=>(SO.mp z).2 e
 lia
abbrev FI(S:am)(rk:ac)(c n:Nat)(F T:ac)(b a:f8):za:=[some<|.v<|mD S rk c,some<|.v<|.int n,some<|.o .l<|ia F,some<|.o .l<|ia T,b,a]
def L5(M:Va S rk c)(b:n<2^S.length)(e:n≠0){a:Nat}{st:za}(h:st[a]?=some (some<|.v<|.int (n:Int)))(d:st[0]?=some (some<|.v<|mD S rk c)):aO uT (aC (aA 0)<|aC (aA a) aQ) st=.ok (.bl<|Ge rk n):=
 aK (aN (by simp[d])<|aN (CN h) rfl) (bJn M b e)
def bJv(p q:Bool):Ad (.bl p) (.bl q)=.ok (.bl<|p==q):=aF ⟨Ef 64,rfl,rfl⟩
theorem EE(T:ac):Ph (.lst<|ia T) (.lst [])=.ok (.bl<|!decide (T=[])):=by
 obtain⟨b,d,_⟩:=iW T;have c:Ff (.lst<|ia T)=1:=by simp_all
 have a:Oc (.lst _) (.lst [])=decide _:=Vx T [];rw[DO,aF ⟨by lia,b,rfl⟩,a]
theorem bJw{st:za}{x y:D}{ys:dL}(b:f st=.ok x)(hs:st[j]?=some (some<|.o .l<|ys++[d]))(c:ys.length<1000)(a:p [x,d]=.ok y):vF i j p f st=.ok (.nx<|(st.set j<|some<|.o .l ys).set i y):=by
 unfold vF;rw[b,bT,hs];dsimp only;rw[List.getLast?_append,List.getLast?_singleton,Option.some_or];dsimp only;rw[aF<|cO<|by rw[Ud,Ug];lia,a,bT,List.dropLast_concat]
end
theorem K0{b:Type}{tg:Tg}{C E:Ex}{st:za}{F:b->D}{q:b->Bool}:∀(a:List b),(∀k∈a,∃s1,tg (F k) st=.ok s1/\C s1=.ok (.bl<|q k)/\E s1=.ok (F k))->jL tg C E st (a.map F)=.ok ((a.filter q).map F)
 |[],_=>rfl
 |k::a,h=>by
  obtain⟨s1,e,d,i⟩:=h k qb;have f:=K0 a λk c=>h k<|Mb _ c
  rw[gf,jO,e,bT,d,bT,oy];cases g:q k with
  |true=>simp_all
  |false=>grind
theorem EN(d:D)(xs:dL):yd (d::xs) 0=some d:=by
 unfold yd rj;simp_all
section
variable{S:am}{rk:ac}{c n:Nat}
def bBv{a:At}{s:Nat}(h:∀g,al g=a g){g:Nat}:Hc S c al s g↔Hc S c a s g:=by
 rw[(funext h)]
noncomputable def Ce(S:am)(c:Nat):Nat:=qL S c (jY<|List.range S.length) 0
def iG:Ce S c<2^S.length:=Hx
def bJx{g:Nat}:(jY<|List.range S.length).testBit g=decide (g∈List.range S.length):=by rw[jZ]
theorem RD(M:Va S rk c)(g:Nat):(Ce S c).testBit g=true↔Hc S c (λg=>decide (g∈List.range S.length)) 0 g:=by
 rw[Ce,qW M.w (by have:=M.one;lia)]
 exact bBv λg=>bJx
def M5(h:Fi m n'){a b:Nat}(d:Hc S c (ng m) a b):Hc S c (ng n') a b:=Hc.mono (λg e=>aY.mp<|h g<|aY.mpr e) d
def HQ(S:am)(c L G:Nat):Prop:=∃a∈aR L,∃b∈aR G,Hc S c (ng<|Ce S c) a b
def N5(M:Va S rk c){L G a b:Nat}(k:ph S c L)(f:Fi L (Ce S c))(l:ph S c G)(g:Fi G (Ce S c))(e:a∈aR L)(d:b∈aR G):HQ S c L G↔Hc S c (ng<|Ce S c) a b:=by
 constructor
 .rintro⟨x,j,y,i,h⟩;exact Hc.trans (M5 f<|k.2.1 a e x j)<|Hc.trans h<|M5 g<|l.2.1 y i b d
 exact λh=>⟨a,e,b,d,h⟩
def xj(S:am)(c m:Nat):Prop:=ph S c m/\m<2^S.length/\Fi m (Ce S c)
def DL(M:Va S rk c){w:Bool} (h:m∈RO S c rk (Ce S c) w):xj S c m/\Ge rk m=w:=by
 obtain⟨p,a,b⟩:=pz.mp h;obtain⟨g,f,e,d⟩:=bBr M iG b;refine⟨⟨f,g,e⟩,?_⟩;unfold Ge;rw[d];exact eq_of_beq<|(F5.mp a).2
def bBw(M:Va S rk c){m:Nat}(h:xj S c m):∃F∈RO S c rk (Ce S c) (Ge rk m),Fi m F:=by
 obtain⟨f,l,i⟩:=h;obtain⟨r,j⟩:=jz _<|Xu f.1;obtain⟨a,b,d⟩:=bBq M iG f i rfl j;refine⟨gC S c _ r,pz.mpr ⟨uM rk m,F5.mpr ⟨?_,?_⟩,?_⟩,d⟩
 .obtain⟨⟨g,k,e⟩,_⟩:=vQ f.1;exact⟨g,i g k,e⟩
 .exact beq_self_eq_true _
 unfold Ov at b;rw[Wk,qh]at b;exact Vf.mpr ⟨fW.mpr ⟨r,a,rfl,b.1⟩,Jd b.2⟩
theorem Y9(M:Va S rk c):oX [mD S rk c,.int 0]=.ok (.int<|Ce S c):=bFj M (r:=0) (by have:=M.one;lia)
def Rr(S:am)(c:Nat)(rk:ac)(g:Bool):Prop:=∃L Y,xj S c L/\ph S c Y/\Fi Y L/\Ge rk L=g/\Ge rk Y=!g
theorem Q2(M:Va S rk c)(f:n<2^S.length)(g:n≠0){d:f8}:∀(l T:ac)(a:f8),(∀q∈l,q≠0/\q<2^S.length/\Ge rk q=Ge rk n)->T.length+l.length<=1000->
  ∃b,pb (gb 5) bX (ia l) (FI S rk c n [] T d a)=.ok (.nx<|FI S rk c n [] (T++l) d b)
 |[],T,a,_,_=>⟨a,by rw[Nh];rfl⟩
 |q::l,T,a,h,m=>by
  rw[Ed]at m;obtain⟨j,i,o⟩:=h q qb;obtain⟨b,e⟩:=Q2 M f g l (T++[q]) _ (λq k=>h q<|Mb _ k) (by simp;lia)
  refine⟨b,dO rfl (yV (aG (L5 M i j rfl rfl) (L5 M f g rfl rfl)<|(bJv _ _).trans<|by simp_all)<|tR rfl rfl<|by rw[bI];lia) ?_⟩
  rw[Bh]at e
  rwa [<-lK]
theorem SD:∀l:ac,(∀q∈l,q≠0)->l.length<=oi l
 |[],_=>Pb _
 |q::l,h=>by
  have e:oi (q::l)=Hl q+oi l:=by unfold oi;simp
  have:=bP3<|h q qb;have:=SD l λq a=>h q<|Mb _ a
  rw[Ed];lia
theorem bBx(M:Va S rk c)(z:n<2^S.length)(G:n≠0)(hs:∀Z,ph S c Z->Fi Z n->Ge rk Z=Ge rk n):∀(k f:Nat)(T:ac)(e d:f8),oi T<=k->k<f->oi T<=100->(∀q∈T,q≠0/\q<2^S.length/\Fi q n)->
  ∃v m,jA iX gX f (FI S rk c n [] T e d)=.ok (.nx<|FI S rk c n [] [] v m):=by
 intro k
 induction k with
 |zero=>
  intro f T e d D F C i;obtain⟨f,rfl⟩:∃g,f=g+1:=⟨f-1,by lia⟩
  have:=SD T λq b=>(i q b).1
  have:T=[]:=Lm.mp (by lia)
  subst this;exact⟨e,d,pA<|aG rfl (fU rfl)<|EE []⟩
 |succ k x=>
  intro f T e d D F C i;obtain⟨f,rfl⟩:∃g,f=g+1:=⟨f-1,by lia⟩
  rcases R_ T with rfl|⟨j,p,rfl⟩
  .exact⟨e,d,pA<|aG rfl (fU rfl)<|EE []⟩
  rw[S_]at *;obtain⟨o,l,w⟩:=i p<|Ke _ qb;have K:oi (j++[p])=oi j+Hl p:=by unfold oi;simp
  have y:=bBu M o l;have a:∀q∈dM S c (Sn rk p),q≠0/\q<2^S.length/\Ge rk q=Ge rk n/\Fi q n:=λq b=>by
   obtain⟨s,J,I⟩:=PK M (HF l) b;have r:=λg E=>w g (SO.mp<|J g E).1
   exact⟨s.1,I,hs q s r,r⟩
  have A:=SD _ λq b=>(a q b).1
  have B:=SD j λq b=>(i q<|Sf _ b).1
  obtain⟨m,e1⟩:=Q2 M z G _ j d (λq b=>⟨(a q b).1,(a q b).2.1,(a q b).2.2.1⟩) (by lia)
  obtain⟨u,t,H⟩:=x f (j++dM S c (Sn rk p)) (some<|.v _) m (by rw[K5];lia) (by lia) (by rw[K5];lia) (λq b=>by
   rcases tf.mp b with h|h
   .exact i q (Sf _ h)
   exact⟨(a q h).1,(a q h).2.1,(a q h).2.2.2⟩)
  refine⟨u,t,pO (aG rfl (fU rfl) ?_) (aH ?_<|dU (kY<|aK rfl<|xD M<|HF l) e1) H⟩
  .rw[show Ir .l _=.lst _ from rfl,EE]
   simp
  exact bJw rfl (by rw[<-lK];rfl) (by rw[bI];lia)<|aWd M l o
theorem IY(M:Va S rk c)(u:∀b,¬ Rr S c rk b)(g:Bool):pH [mD S rk c,.bl g]=.ok .Sb:=by
 have a:∀(l:ac)(i f:f8),(∀L∈l,xj S c L)->∃n m,pb (gb 2) NX (ia l) [mD S rk c,D.bl g,i,f,none]=.ok (.nx [some _,some _,n,m,none]):=λl=>by
  induction l with
  |nil=>exact λi f _=>⟨i,f,rfl⟩
  |cons L l t=>
   intro i f h;obtain⟨j,d,s⟩:=h L qb;obtain⟨A,y,e⟩:=bBx M d j.1 (λZ w r=>Uc λz=>u _ ⟨L,Z,⟨j,d,s⟩,w,r,rfl,by revert z;cases Ge rk L<;>cases Ge rk Z<;>decide⟩) 8 100000 [L] none none (by unfold oi Hl;simpa using GQ M d) (by lia) (by unfold oi Hl;have:=GQ M d;simp;lia) (λq v=>by rw[Hd.mp v];exact⟨j.1,d,λ_ z=>z⟩)
   obtain⟨p,o,x⟩:=t _ _ λL k=>h L<|Mb _ k
   exact⟨p,o,dO rfl (aH (bB<|aK rfl<|bL rfl<|aH (iC<|fU rfl)<|aH (iC<|fU rfl)<|aH e<|cD rfl)<|mZ (aG rfl (fU rfl)<|EE []) rfl) x⟩
 obtain⟨n,m,e⟩:=a _ none none λL k=>(DL M k).1
 exact bL rfl<|aH (dU (kY<|aK (aN rfl<|aN (aK rfl<|Y9 M)<|aN rfl rfl)<|J5 M iG) e)<|cD rfl
end
section
def O5(M:Va S rk c){d:At}(f:∀g,g<S.length->d g=true){s g:Nat}(hs:s<S.length)(h:Hc S c al s g):Hc S c d s g:=by
 induction h with
 |here=>exact .here
 |on h b _ e=>
  obtain⟨_,_,_,a⟩:=xG M.w (xH M.w hs h) b;exact .on e b<|f _ a
def aWe(M:Va S rk c) {a b:Nat} (i:a∈aR (Ce S c)) (h:Hc S c al a b):Hc S c (ng<|Ce S c) a b:=by
 have d:∀b,Hc S c al a b->Hc S c _ a b/\(Ce S c).testBit b=true:=λb h=>by
  induction h with
  |here=>exact⟨.here,aY.mp i⟩
  |on h e k f=>
   rename_i r l;obtain⟨_,_,_,j⟩:=xG M.w (xH M.w (bC iG i) h) e;have g:=(RD M _).mpr<|.on ((RD M r).mp f.2) e<|Jd<|qf.mpr j;exact⟨.on f.1 e g,g⟩
 exact(d b h).1
def bJy(M:Va S rk c){G B:Nat}(a:xj S c G)(d:xj S c B)(l:HQ S c G B)(k:HQ S c B G):∃X,xj S c X/\Fi G X/\Fi B X:=by
 obtain⟨X,i,h⟩:=bJt M iG a.1 a.2.2;obtain⟨o,n,m⟩:=PK M iG i;obtain⟨q,p,j,_⟩:=fW.mp i;obtain⟨g,e⟩:=jz _<|Xu a.1.1;have f:=bC iG p;refine⟨X,⟨o,m,n⟩,h,λb hb=>?_⟩
 have:=(iQ M.w f).mpr<|((iQ M.w f).mp<|by rw[j];exact aY.mp<|h g e).trans<|⟨(N5 M a.1 a.2.2 d.1 d.2.2 e hb).mp l,(N5 M d.1 d.2.2 a.1 a.2.2 hb e).mp k⟩
 rw[j]at this;exact aY.mpr this
end
theorem FE{c m:String} {r:De} {st:za} (h:f st=.ok (.ins c [] [])) (a:r st=.ok xs) (b:p (.ins c [] [] :: xs)=.ok d):oU c m p [] f r st=.ok d:=by
 rw[VC,h,a];show aP _ _=_;simp_all
section
variable{S T U:am}{rk ib Xp:ac}{c x y:Nat}{t:ac}
theorem rH{c:Type}(z:List c):∀(a b:Nat),rep (a+b) z=rep a z++rep b z
 |0,b=>by rw[Kw];rfl
 |a+1,b=>by rw[Nat.add_right_comm,nA,rH z a b,nA,Bh]
theorem Xx{c:Type}(z:List c):∀(a b:Nat),rep (a*b) z=rep a (rep b z)
 |0,b=>by rw[Nat.zero_mul];rfl
 |a+1,b=>by rw[MH,Iw,rH,Xx z a b,nA]
def fG(h:Mc c t)(n:Nat):Mc c (rep n t):=λx a=>h x<|d5 a
def Cq(M:Va S rk c){w:ac}(a:x<S.length)(h:Mc c w):Sa S x w<S.length:=by
 rw[<-kM];exact S1 M.w w x a h
structure af(S:am)(c x:Nat)(t:ac):Prop where
 ne:t≠[]
 lt:Mc c t
 cl:Sa S x t=x
def Me(S:am)(rk:ac)(x:Nat)(t:ac):Bool:=decide (og rk 0 (bc S x t)%2=1)
def s9{a:ac}(h:∀g∈a,g∈hs):og rk 0 a<=og rk 0 hs:=by
 obtain⟨_,c,_⟩:=nW rk hs 0;rcases (nW rk a 0).2.2 with e|⟨g,b,e⟩
 .lia
 rw[e];exact c g<|h g b
def UO(h:∀g,g∈gs↔g∈hs):og rk 0 gs=og rk 0 hs:=Nat.le_antisymm (s9 λg=>(h g).mp)<|s9 λg=>(h g).mpr
theorem pW(h:Sa S x t=x):∀k,Sa S x (rep k t)=x
 |0=>rfl
 |k+1=>by rw[nA,Sa,eV];show Sa S (Sa S x t) _=x;rw[h,pW h k]
theorem AM(h:Sa S x t=x)(g:Nat):∀k,g∈bc S x (rep (k+1) t)↔g∈bc S x t
 |0=>by show g∈bc S x (t++[])↔_;rw[Nh]
 |k+1=>by
  rw[nA,kZ,h,tf,AM h g k];exact or_self_iff
theorem af.mh(h:af S c x t){k:Nat}(a:1<=k):af S c x (rep k t)/\Me S rk x (rep k t)=Me S rk x t:=by
 obtain⟨k,rfl⟩:∃j,k=j+1:=⟨k-1,by lia⟩
 refine⟨⟨λz=>?_,fG h.lt _,pW h.cl _⟩,?_⟩
 .rw[nA,Us]at z;exact h.ne z.1
 unfold Me;rw[UO λg=>AM h.cl g k]
theorem UH(M:Va S rk c)(j:x<S.length)(l:Mc c t):∃k,1<=k/\∀N,S.length<=N->Sa S (Sa S x<|rep N t) (rep k t)=Sa S x (rep N t):=by
 obtain⟨i,J,m,p,e⟩:∃i J,i<J/\J<=S.length/\Sa S x _=Sa S x _:=by
  refine Uc λh=>?_
  have:=fJ S.length ((List.range<|S.length+1).map λi=>Sa S x<|rep i t) (by
   rw[List.nodup_iff_pairwise_ne,OH];exact eR.imp_of_mem λ{a b} _ n f z=>h ⟨a,b,f,by grind,z⟩) λy g=>by
   obtain⟨i,_,rfl⟩:=gd.mp g;exact Cq M j<|fG l i
  simp at this;lia
 have d:∀a b,Sa S x (rep (a+b) t)=Sa S (Sa S x<|rep a t) _:=λa b=>by rw[rH,Sa,eV]
 refine⟨J-i,by lia,λN o=>?_⟩
 rw[<-d,show N+(J-i)=J+(N-i) by lia,d,<-e,<-d,show i+(N-i)=N by lia]
def Pf(S:am)(rk:ac)(T:am)(a:ac)(c x y:Nat):Prop:=∀f t,Mc c f->af S c (Sa S x f) t->af T c (Sa T y f) t->Me S rk (Sa S x f) t=Me T a (Sa T y f) t
theorem Pf.symm(h:Pf S rk T ib c x y):Pf T ib S rk c y x:=λf t a d b=>(h f t a b d).symm
def Pf.refl:Pf S rk S rk c x x:=λ_ _ _ _ _=>rfl
def Pf.go(h:Pf S rk T ib c x y){u:ac}(a:Mc c u):Pf S rk T ib c (Sa S x u) (Sa T y u):=λf t b e d=>by
 have:=h _ t<|iR a b;rw[Sa,Sa,eV,eV]at this;exact this e d
def Pf.trans(M:Va T ib c){z:Nat}(o:y<T.length)(r:Pf S rk T ib c x y)(q:Pf T ib U Xp c y z):Pf S rk U Xp c x z:=λf t g a i=>by
 obtain⟨k,e,p⟩:=UH M (Cq M o g) a.lt;have h:=p _<|Pb _;generalize T.length=N at h;have d:=iR g<|fG a.lt N;have e1:Sa S x (f++rep N t)=Sa S x f:=by rw[Sa,eV];exact pW a.cl N
 have e2:Sa T y (f++rep N t)=Sa T (Sa T y f) (rep N t):=by rw[Sa,eV]
 have s:Sa U z (f++rep N t)=Sa U z f:=by rw[Sa,eV];exact pW i.cl N
 have l:=r _ (rep k t) d;have j:=q _ (rep k t) d;rw[e1,e2]at l;rw[e2,s]at j;obtain⟨b,n⟩:=a.mh e;obtain⟨u,m⟩:=i.mh e;have d3:af T c _ _:=⟨b.ne,b.lt,h⟩;rw[<-n,<-m,l b d3,j d3 u]
theorem go2:∀(w:ac)(p:wf),Mf (cf S T) p w=(Sa S p.1 w,Sa T p.2 w)
 |[],_=>rfl
 |_::w,p=>go2 w _
theorem FN:∀(w:ac)(p:wf),(Ql S T p w).map (·.1)=bc S p.1 w/\(Ql S T p w).map (·.2)=bc T p.2 w
 |[],_=>⟨rfl,rfl⟩
 |c::w,p=>by
  obtain⟨b,a⟩:=FN w _;exact⟨congrArg _ b,congrArg _ a⟩
theorem t9{f:IN}{e:IN}{p:wf}(m:t≠[])(k:Mf (cf S T) p t=p)(j:∀q,f q=rk.getD (e q) 0):og rk 0 ((Ql S T p t).map e)=mf f (mj S T p t) 0+1:=by
 obtain⟨a,w,rfl⟩:∃a w,t=a::w:=by
  cases t with
  |nil=>exact absurd rfl m
  |cons a w=>exact⟨a,w,rfl⟩
 have l:=λy=>by
  have h:=QD (S:=S) (T:=T) y (a::w) p
  rwa [k]at h
 have r:p∈mj S T p (a::w):=qb;have v:p∈Ql S T p (a::w):=by
  rcases pU (U:=S) (a::w) p.1 with ⟨_,z⟩|_
  .cases z
  exact qc.mpr<|(QD p w _).mp<|.inr k.symm
 obtain⟨_,n,b⟩:=nW rk _ 0;obtain⟨_,u,d⟩:=ZL f (mj S T p<|a::w) 0;have i:∀y∈mj S T p _,f y+1<=og rk 0 ((Ql S T p<|a::w).map e):=λy c=>by
  rw[j];refine n _<|gd.mpr ⟨y,?_,rfl⟩;rcases (l y).mp (.inl c) with z|z
  .rwa [z]
  exact z
 have x:=i p r;rcases b with b|⟨g,s,b⟩
 .lia
 obtain⟨y,c,rfl⟩:=gd.mp s;have:=u y (by
  rcases (l y).mpr (.inr c) with z|z
  .exact z
  rwa [z])
 rw[j]at this;rcases d with d|⟨z,o,d⟩
 .lia
 have:=i z o;lia
theorem VO:WP S T rk ib [false,true,true,false] c (x,y) t↔af S c x t/\af T c y t/\Me S rk x t≠Me T ib y t:=by
 have g:t≠[]->Mf (cf S T) (x,y) t=(x,y)->(wI [false,true,true,false] (mf _ _ 0) (mf (λx=>ib.getD x.2 0) _ 0)=true↔Me S rk x t≠Me T ib y t):=λl m=>by
  have d:=t9 (f:=λx=>rk.getD x.1 0) l m λ_=>rfl
  have i:=t9 (f:=λx=>ib.getD x.2 0) l m λ_=>rfl
  rw[(FN t (x,y)).1]at d;rw[(FN t (x,y)).2]at i;unfold Me;rw[d,i];generalize mf (λx=>rk.getD x.1 0) (mj S T (x,y) t) 0=a
  generalize mf _ _ 0=b;have e:((a:Int)%2*2+b%2).toNat=a%2*2+b%2:=by lia
  have k:a%2=0\/a%2=1:=by lia
  have j:b%2=0\/b%2=1:=by lia
  unfold wI;rw[e,show (a+1)%2=1-a%2 by lia,show (b+1)%2=1-b%2 by lia]
  rcases k with k|k<;>rcases j with j|j<;>rw[k,j] <;> decide
 constructor
 .intro h;have f:=h.cl;rw[go2]at f;exact⟨⟨h.ne,h.lt,congrArg (·.1) f⟩,⟨h.ne,h.lt,congrArg (·.2) f⟩,(g h.ne h.cl).mp h.wt⟩
 rintro⟨d,i,n⟩;have f:Mf (cf S T) (x,y) t=(x,y):=by rw[go2];exact Prod.ext d.cl i.cl
 exact⟨d.ne,d.lt,f,(g d.ne f).mpr n⟩
def P5:Pf S rk T ib c x y↔∀f t,Mc c f->¬ WP S T rk ib [false,true,true,false] c (Mf (cf S T) (x,y) f) t:=by
 constructor
 .intro h f t a w;rw[go2]at w;obtain⟨d,b,e⟩:=VO.mp w;exact e<|h f t a d b
 intro h f t a d b;refine Uc λz=>h f t a ?_
 rw[go2];exact VO.mpr ⟨d,b,z⟩
end
def bSz{c:Ex}{st:za}{r:R D}(h:c st=.ok (.bl true))(a:f st=r):Qw c f g st=r:=by rwa [K7,h]
def u9{c:Ex}{st:za}{r:R D}(h:c st=.ok (.bl false))(a:g st=r):Qw c f g st=r:=by rwa [K7,h]
section
variable{S:am}{rk:ac}{c x y:Nat}{t:ac}
theorem bP7{m v:Nat}(b:m≠0)(h:∀r∈aR m,l.getD r 0=v):Ge l m=decide (v%2=0):=by
 obtain⟨⟨r,a,e⟩,_⟩:=vQ b;unfold Ge;rw[<-e,h r a];exact xo.mpr (by lia)
def Jn(S:am)(f:tz):ac:=(List.range S.length).map f
theorem m8{f:tz} (a:r<S.length):(Jn S f).getD r 0=f r:=by
 unfold Jn;simp_all
def UD{f:tz}:(Jn S f).length=S.length:=by unfold Jn;rw[Rb,nk]
def bJz(M:Va S rk c)(f:tz):Va S (Jn S f) c:=⟨M.one,M.most,M.c1,M.c3,M.row,UD⟩
def o8{f:tz}{m v:Nat}(b:xj S c m)(h:∀r∈aR m,f r=v):Ge (Jn S f) m=decide (v%2=0):=bP7 b.1.1 λr a=>by rw[m8<|bC b.2.1 a,h r a]
theorem v9(M:Va S rk c)(n a b:Nat):vL [mD S rk c,.int n,.int a,.int b]=.ok (.lst<|ia<|Jn S λr=>if n.testBit r=true then a else b):=by
 have f:=M.most;have d:=pP (tg:=gb 4) (C:=cV) (E:=yY) (st:=[some _,some _,some _,some _,none]) (G:=λr=>.int<|(if n.testBit r=true then a else b:Nat)) (List.range S.length) λr g=>⟨_,rfl,rfl,by
  have t:aO gU (aC (aA 1)<|aC (aA 4) aQ) [mD S rk c,n,a,b,r]=.ok _:=aK (aN rfl<|aN rfl rfl)<|xv _ _;cases e:n.testBit r<;>rw[e]at t
  .exact u9 t rfl
  exact bSz t rfl⟩
 rw[ZG.mpr<|λ_ _=>rfl,show (List.range S.length).map _=ia (Jn S λr=>if n.testBit r=true then a else b) by unfold ia Jn;rw[Dg];rfl]at d
 exact bL rfl<|cD<|gF (yW (lJ)<|by lia) (by simp;lia) d
def wO(h:af S c x t):x∈bc S x t:=by
 rcases pU t x with ⟨_,z⟩|z
 .exact absurd z h.ne
 rwa [h.cl]at z
theorem Q5(M:Va S rk c)(j:x<S.length)(h:af S c x t):ph S c (jY<|bc S x t):=by
 have f:=wO h;obtain⟨_,e⟩:=Yu _ t x h.lt λg i=>aY.mp<|dI.mpr i
 rw[h.cl]at e;refine⟨λz=>?_,λa m b l=>(e a<|dI.mp m).2.trans (e b<|dI.mp l).1,?_⟩
 .have:=dI.mpr f;rw[z,aY,Az]at this;cases this
 unfold Yb
 by_cases n:1<(aR<|jY<|bc S x t).length
 .rw[Jd n];rfl
 have one:∀g∈bc S x t,(aR _).headD 0=g:=λg i=>by
  have:=dI.mpr i;cases k:aR _ with
  |nil=>rw[k]at this;cases this
  |cons z W=>
   grind
 rw[Mw];right;rw[one x f];refine Jd<|(pQ M.w j).mpr ?_;obtain⟨d,w,rfl⟩:∃d w,t=d::w:=by
  cases t with
  |nil=>exact absurd rfl h.ne
  |cons d w=>exact⟨d,w,rfl⟩
 have o:=h.lt d qb;exact⟨d-97,by omega,by rw[<-one _ (qb),one x f]⟩
theorem IF(h:af S c x t):Ge rk (jY<|bc S x t)=Me S rk x t:=by
 obtain⟨_,b,a⟩:=nW rk _ 0;have:=b x<|wO h;rcases a with a|⟨g,e,a⟩
 .lia
 unfold Ge Me;rw[(BE (dI.mpr e) rfl λr d=>by
  have:=b r<|dI.mp d;lia)]
 exact xo.mpr (by lia)
def xN(M:Va S rk c)(b:x∈aR (Ce S c)){w:ac}(f:Mc c w):Sa S x w∈aR (Ce S c)/\∀g∈bc S x w,g∈aR (Ce S c):=by
 have a:∀{g},Hc S c (λ_=>true) x g->g∈aR _:=λh=>aY.mpr<|uy (aY.mp b)<|aWe M b h
 obtain⟨e,d⟩:=Yu _ w x f λ_ _=>rfl
 exact⟨a e,λg i=>a (d g i).1⟩
def WO(M:Va S rk c)(b:x∈aR (Ce S c))(h:af S c x t):xj S c (jY<|bc S x t):=by
 have a:=(xN M b h.lt).2;exact⟨Q5 M (bC iG b) h,zT λr d=>bC iG<|a r d,λg e=>a g<|dI.mp e⟩
def yx(S:am)(rk:ac)(c:Nat):Prop:=∀x t y u f g,x∈aR (Ce S c)->af S c x t->af S c y u->Mc c f->Sa S x f=y->Mc c g->Sa S y g=x->Me S rk x t=Me S rk y u
theorem bP8(M:Va S rk c)(n:∀b,¬ Rr S c rk b):yx S rk c:=λx t y u f g h d e j e1 p e2=>by
 have l:af S c x _:=⟨λz=>d.ne (Us.mp z).1,iR d.lt<|iR j<|iR e.lt p,by
  rw[Sa,eV,eV,eV];show Sa S (Sa S (Sa S (Sa S x t) f) u) g=x;rw[d.cl,e1,e.cl,e2]⟩
 have s:bc S x (t++(f++(u++g)))=bc S x t++(bc S x f++(bc S y u++bc S y g)):=by rw[kZ,kZ,kZ,d.cl,e1,e.cl]
 have a:∀{z w},z∈aR _->af S c z w->(∀r∈bc S z w,r∈bc S x _)->Me S rk z w=Me S rk x _:=λ{z w} m k o=>by
  refine Uc λq=>n _ ⟨_,_,WO M h l,(WO M m k).1,λr i=>dI.mpr<|o r<|dI.mp i,rfl,?_⟩
  rw[(IF k),(IF l)];revert q;cases Me S rk z w<;>cases Me S rk x _<;>decide
 rw[a h d λr i=>by simp_all,a (e1 ▸ (xN M h j).1) e λr i=>by grind]
def R5(M:Va S rk c)(h:∀m,xj S c m->Ge ib m=Ge rk m)(b:x∈aR (Ce S c))(a:af S c x t):Me S ib x t=Me S rk x t:=by
 rw[<-IF a,<-IF a];exact h _<|WO M b a
def bFs(M:Va S rk c)(h:∀m,xj S c m->Ge ib m=Ge rk m)(hs:yx S rk c):yx S ib c:=λx t y u f g a e d b e1 i e2=>by
 rw[R5 M h a e,R5 M h (e1 ▸ (xN M a b).1) d];exact hs x t y u f g a e d b e1 i e2
def Z9:D:=.ins "Settled" [] []
def bFt(M:Va S rk c)(a:∀b,¬ Rr S c rk b):mV [Z9,mD S rk c]=.ok .Sb:=bL rfl<|aH (bB<|aK rfl<|IY M a false)<|cD<|u9 (aG rfl rfl rfl)<|aK rfl<|IY M a true
theorem bBy(M:Va S rk c)(j:∀b,¬ Rr S c rk b):∃f,iZ [Z9,mD S rk c]=.ok (.lst<|ia f)/\Va S f c/\∀m,xj S c m->Ge f m=Ge rk m:=by
 obtain⟨d,w,_,u⟩:=CL (λm a=>(DL M a).1.2.1) (by have:=M.most;lia)
 refine⟨Jn S λr=>if d.testBit r=true then 0 else 1,bL rfl<|aH (bB<|aK (aN (aK (aN rfl<|aN (aK rfl<|Y9 M) rfl)<|J5 M iG) rfl) w)<|cD<|aK rfl<|v9 M d 0 1,bJz M _,λm a=>?_⟩
 have un:∀{r},d.testBit r=true↔∃m,xj S c m/\Ge rk m=true/\r∈aR m:=λ{r}=>by
  rw[<-aY,u];constructor
  .rintro⟨m,a,e⟩;obtain⟨h,g⟩:=DL M a;exact⟨m,h,g,e⟩
  rintro⟨m,h,g,e⟩;obtain⟨x,o,t⟩:=bBw M h;rw[g]at o;exact⟨x,o,t r e⟩
 cases k:Ge rk m
 .rw[o8 a λr e=>Pa λz=>?_]
  .rfl
  obtain⟨G,n,v,p⟩:=un.mp z;obtain⟨X,l,q,s⟩:=bJy M n a ⟨r,p,r,e,.here⟩ ⟨r,e,r,p,.here⟩;cases i:Ge rk X
  .exact j _ ⟨X,G,l,n.1,q,i,v⟩
  exact j _ ⟨X,m,l,a.1,s,i,k⟩
 rw[o8 a λr e=>jb<|un.mpr ⟨m,a,k,e⟩]
 rfl
def bK0(M:Va S rk c)(d:∀b,¬ Rr S c rk b):∃a,pI [mD S rk c]=.ok (mD S a c)/\Va S a c/\∀m,xj S c m->Ge a m=Ge rk m:=by
 obtain⟨a,e,g,h⟩:=bBy M d;have f:=bFt M d;exact⟨a,bL rfl<|aH rfl<|aH (bB<|FE rfl rfl f)<|fH (mZ (aG rfl rfl rfl) rfl)<|cD<|FE rfl rfl<|bL rfl<|fH (mZ (aG (FE rfl rfl f) rfl rfl) rfl)<|cD<|aK (aN (gO)<|aN (FE rfl rfl e) rfl)<|JD g,g,h⟩
end
section
variable{S:am}{rk:ac}{c x:Nat}{u:ac}
def Bi(S:am):Ix
 |_,[]=>[]
 |x,a::w=>x::Bi S (xc S x<|a-97) w
theorem Yx:∀(w:ac)(x:Nat),(Bi S x w).length=w.length
 |[],_=>rfl
 |_::w,_=>congrArg (· + 1)<|Yx w _
theorem av:∀(w:ac)(x:Nat),x::bc S x w=Bi S x w++[Sa S x w]
 |[],_=>rfl
 |_::w,x=>congrArg _<|av w _
theorem S5:∀(a b:ac)(x:Nat),Bi S x (a++b)=Bi S x a++Bi S (Sa S x a) b
 |[],_,_=>rfl
 |_::a,b,x=>congrArg _<|S5 a b _
theorem GN(h:af S c x u)(g:Nat):g∈Bi S x u↔g∈bc S x u:=by
 have e:=av (S:=S) u x;have b:=wO h;rw[h.cl]at e;have a:x∈Bi S x u:=by
  cases u with
  |nil=>exact absurd rfl h.ne
  |cons _ _=>exact qb
 grind
abbrev Hf(S:am)(x:Nat)(u:ac)(j:Nat):Nat:=Sa S x<|rep j u
abbrev bj(S:am)(x:Nat)(u:ac)(j:Nat):ac:=(List.range j).map<|Hf S x u
def zu(S:am)(x:Nat)(u:ac)(r:Nat):Nat:=(bj S x u<|S.length+1).idxOf r*u.length
def Ms(S:am)(rk:ac)(c x:Nat)(u:ac)(j:Nat):za:=[some<|.v<|mD S rk c,some<|.v<|.tup [.str [],.str u],some<|.v<|.int x,some<|.o .l<|ia<|x::bc S x (rep j u),some<|.o (.d false<|ia<|bj S x u j)<|(bj S x u j).map λr=>D.int (zu S x u r:Nat),none]
def CM(j:Nat):bj S x u (j+1)=bj S x u j++[Hf S x u j]:=by rw[bj,VR,Hg];rfl
theorem T5(a:j<=S.length+1):∃l,bj S x u (S.length+1)=bj S x u j++l:=by
 obtain⟨d,e⟩:∃d,S.length+1=j+d:=⟨S.length+1-j,by lia⟩
 exact⟨_,by rw[bj,e,List.range_add,Hg]⟩
def VD(j:Nat):yd (ia<|x::bc S x (rep j u)) (-1)=some (.int (Hf S x u j:Nat)):=Ii<|bBg<|by rw[av,List.getLast?_concat]
theorem bK1(M:Va S rk c)(h:x<S.length)(b:Mc c u)(k:u.length<=10000) (p:j<=S.length) (d:Hf S x u j∉bj S x u j):qR (Ms S rk c x u j)=.ok (.nx<|Ms S rk c x u<|j+1):=by
 have o:=M.most;have m:j*u.length<=8*10000:=Dw (by lia) k
 obtain⟨g,f⟩:=kN d;have i:zu S x u (Hf S x u j)=j*u.length:=by
  obtain⟨l,e⟩:=T5 (S:=S) (j:=j+1) (by lia)
  unfold zu;rw[e,CM,Bh,List.idxOf_append,Pa d];simp
 have a:=by
  have:=congrArg List.length<|av (S:=S) (rep j u) x;rw[Ud,Yx,zR]at this;simpa using this
 have n:ud 4 (e2 Wa (dB 3)<|e1 ap<|eI 1) (e2 Yv (e1 iD<|dB 3)<|eI 1) (Ms S rk c x u j)=.ok (.nx [mD S rk c,D.tup [.str [],.str u],x,some<|.o .l<|ia<|x::bc S x (rep j u),some<|.o (.d false<|ia<|bj S x u<|j+1)<|(bj S x u<|j+1).map λr=>D.int<|zu S x u r,none]):=by
  rw[MD (d:=.int ((j*u.length):Int)) (aG rfl rfl (show R.ok (D.int<|((ia<|x::bc S x (rep j u)).length)-1)=_ by
   rw[bI,Ed,a];lia)) (aG rfl rfl<|dR<|VD j) rfl rfl (by simp;lia),g,f,CM,Hg,JR,i]
  rfl
 refine aH n<|(sy (by
  rw[bOf,eD rfl (aN (aG rfl rfl<|dR<|VD j)<|aN (aG rfl rfl rfl) rfl) (by decide)]
  show (cH [mD S rk c,.int<|Hf S x u j,.str u]).bind _=_;rw[TL M (Cq M h<|fG b j) u b (by lia),bT,mM]
  show R.ok (D.lst<|cut (.int _::ia (bc S (Hf S x u j) u)) (some 1) none)=_;rw[bEp]) rfl<|cO ?_).trans ?_
 .rw[bI,bI,Ed,a];have:=congrArg List.length<|av (S:=S) u<|Hf S x u j;rw[Ud,Yx]at this;simp at this;lia
 unfold Ms;rw[UL,rH u j 1,show rep 1 u=u by exact Nh u,kZ]
 rfl
theorem bK2(M:Va S rk c)(p:x<S.length)(q:Mc c u)(A:u.length<=10000):∀(k j f:Nat),S.length<j+k->k<=f->(bj S x u j).Nodup->∃i J,i<J/\J<=S.length/\Hf S x u i=Hf S x u J/\zu S x u (Hf S x u J)=i*u.length/\jA qT qR (f+1) (Ms S rk c x u j)=.ok (.nx<|Ms S rk c x u J):=by
 have o:∀j,(bj S x u j).Nodup->j<=S.length:=λj d=>by
  have:=fJ S.length _ d λy w=>by
   obtain⟨i,_,rfl⟩:=gd.mp w;exact Cq M p<|fG q i
  rwa [Rb,nk]at this
 intro k
 induction k with
 |zero=>exact λj f h _ d=>absurd (o j d) (by lia)
 |succ k v=>
  intro j f h K d;have r:=o j d;have t:qT (Ms S rk c x u j)=.ok (.bl<|!decide (Hf S x u j∈bj S x u j)):=aG (aG rfl rfl<|dR<|VD j) rfl (by
   show aP (lc false (.int<|Hf S x u j)=true) (R.ok<|D.bl<|!oG (ia<|bj S x u j) (.int<|Hf S x u j))=_;rw[aF (c:=lc false (.int<|Hf S x u j)=true) rfl,sD])
  by_cases m:Hf S x u j∈bj S x u j
  .obtain⟨l,e⟩:=T5 (S:=S) (j:=j) (by lia)
   have n:=bz m;have s:=KR n;rw[Rb,nk]at n;rw[jt,List.getElem_range]at s;refine⟨_,j,n,r,s,?_,pA<|by rw[t,Jd m];rfl⟩
   unfold zu;rw[e,List.idxOf_append,jb m]
  obtain⟨f,rfl⟩:∃g,f=g+1:=⟨f-1,by lia⟩
  obtain⟨i,J,I,H,G,F,E⟩:=v (j+1) f (by lia) (by lia) (by
   rw[CM,Xl];exact⟨d,by simp,λa C b B z=>m<|by rw[List.mem_singleton.mp B]at z;exact z ▸ C⟩)
  exact⟨i,J,I,H,G,F,pO (by rw[t,pe m];rfl) (bK1 M p q A r m) E⟩
theorem bK3(M:Va S rk c)(h:x<S.length)(s:u≠[])(j:Mc c u)(p:u.length<=10000):∃v i k,dN [mD S rk c,.tup [.str [],.str u],.int x]=.ok (.bl v)/\af S c (Hf S x u i) (rep k u)/\1<=k/\v=Me S rk (Hf S x u i) (rep k u):=by
 have Q:=M.most;obtain⟨i,J,H,T,q,G,F⟩:=bK2 M h j p (S.length+1) 0 99999 (by lia) (by lia) Dt
 obtain⟨k,rfl⟩:∃k,J=i+k:=⟨J-i,by lia⟩
 have E:(i+k)*u.length<=8*10000:=Dw (by lia) p
 have a:af S c (Hf S x u i) (rep k u):=⟨λz=>by
  obtain⟨n,rfl⟩:∃n,k=n+1:=⟨k-1,by lia⟩
  rw[nA,Us]at z;exact s z.1,fG j k,Eq.trans (by show Sa S (Sa S x<|rep i u) (rep k u)=Sa S x (rep (i+k) u);rw[rH,Sa,eV]) q.symm⟩
 have P:x::bc S x (rep (i+k) u)=Bi S x (rep i u)++Bi S (Hf S x u i) (rep k u)++[Hf S x u<|i+k]:=by
  rw[av];show Bi S x _++[Hf S x u<|i+k]=_;rw[rH,S5]
 have t:(Bi S x<|rep i u).length=i*u.length:=by rw[Yx,zR]
 have O:(Bi S (Hf S x u i)<|rep k u).length<=80000:=by
  rw[Yx,zR];rw[Nat.add_mul]at E;lia
 have l:∃d,lH [mD S rk c,.tup [.str [],.str u],.int x]=.ok (.tup [d,.lst<|ia<|Bi S (Hf S x u i)<|rep k u]):=by
  refine⟨_,bL rfl<|fH (by
   unfold aw;rw[eD rfl rfl (by decide)]
   show (cC [mD S rk c,.int x]).bind _=_;rw[KO h];rfl)<|fH (mZ (xF<|aK (aN rfl<|aN (show cL "Machine" "letters" (mD S rk c)=_ from cK) rfl)<|aVw M (b:=[]) (λ_ z=>nomatch z) j (YG.mpr s) p<|Ef _) rfl)<|aH (iC (by
   rw[eD rfl (aN rfl<|aN (aG rfl rfl rfl) rfl) (by decide)]
   exact TL M h [] (λ_ z=>nomatch z)<|Ef _))<|aH rfl<|aH F<|aH (bB<|aG rfl (aG rfl rfl<|dR<|VD<|i+k) (by
   show aP (lc false (.int<|Hf S x u<|i+k)=true) (Ih<|uW _ _ _)=_;rw[aF (c:=lc false (.int<|Hf S x u<|i+k)=true) rfl,sV (λr=>D.int<|zu S x u r)<|gd.mpr ⟨i,qf.mpr H,q⟩,G]
   rfl))<|cD<|xM<|aN rfl<|aN ?_ rfl⟩
  show R.ok (D.lst<|cut (ia<|x::bc S x (rep (i+k) u)) (some ((i*u.length):Int))<|some<|-1)=_;rw[P,<-UL,<-UL];exact congrArg (λz=>R.ok<|D.lst z)<|bJd _ _ _ _<|by rw[bI,t]
 obtain⟨d,l⟩:=l;have f:∀r∈Bi S (Hf S x u i) (rep k u),r<rk.length:=λr o=>by
  obtain⟨_,w⟩:=Yu (λ_=>true) (rep k u) (Hf S x u i) a.lt λ_ _=>rfl
  rw[M.El];exact xH M.w (Cq M h<|fG j i) (w r<|(GN a r).mp o).1
 have b:=(GN a _).mpr<|wO a;have K:Me S rk (Hf S x u i) (rep k u)=decide (gp ((Bi S (Hf S x u i)<|rep k u).map λr=>((rk.getD r 0):Int))%2=0):=by
  unfold Me;rw[<-UO (GN a)];generalize Bi S (Hf S x u i) (rep k u)=gs at b;obtain⟨B,A⟩:=tN (l:=gs.map λr=>((rk.getD r 0):Int)) (λz=>by rw[List.map_eq_nil_iff.mp z]at b;cases b)
  obtain⟨g,C,e⟩:=gd.mp B;obtain⟨_,y,m⟩:=nW rk gs 0;have:=y g C;refine xo.mpr ?_
  rcases m with m|⟨I,N,m⟩
  .lia
  have:=A _<|gd.mpr ⟨I,N,rfl⟩;lia
 refine⟨_,i,k,?_,a,(by lia),K.symm⟩
 generalize Bi S (Hf S x u i) (rep k u)=gs at l f b O;refine bL rfl<|aH (bB<|aG ((eD rfl rfl<|by decide).trans l) rfl rfl)<|cD<|aG (aG ?_ rfl<|pN<|by decide) rfl<|oM _ _
 have L:cJ [4] (gb 4) (Ec<|aA 3) cV qU [mD S rk c,D.tup [.str [],.str u],x,D.lst<|ia gs,none]=.ok (.lst<|gs.map λr=>D.int<|rk.getD r 0):=xJ (λ(r:Nat)=>D.int r) (λr=>D.int<|rk.getD r 0) (kY rfl) (by lia) λr o=>aG (show cL "Machine" "ranks" (mD S rk c)=_ from qX) rfl<|dR<|xK<|f r o
 show (cJ [4] (gb 4) (Ec<|aA 3) cV qU [mD S rk c,D.tup [.str [],.str u],x,D.lst<|ia gs,none]).bind Bq=_;rw[L,bT,show gs.map (λr=>D.int<|rk.getD r 0)=(gs.map λr=>((rk.getD r 0):Int)).map D.int by rw[Dg];rfl]
 show (yD _).bind _=_;rw[qM,bT,aF (by rw[Rb];exact List.length_pos_of_mem b)]
theorem bT1{y k:Nat}(h:af S c y (rep k u))(n:1<=k):af S c (Sa S y<|rep m u) (rep k u)/\Me S rk (Sa S y<|rep m u) (rep k u)=Me S rk y (rep k u):=by
 have f:∀a b,Sa S y (rep (a+b) u)=Sa S (Sa S y<|rep a u) _:=λa b=>by rw[rH,Sa,eV]
 have d:∀a,Sa S y (rep (a*k) u)=y:=λa=>by rw[Xx];exact pW h.cl a
 have i:af S c (Sa S y<|rep m u) _:=⟨h.ne,h.lt,by rw[<-f,Iw,f,h.cl]⟩
 have sub:∀{z:Nat}{a:Nat},af S c z _->∀g∈bc S _ (rep k u),g∈bc S z _:=λ{z a} l g e=>by
  rw[<-AM l.cl g _,<-Xx,show (a+k-1+1)*k=a+(k+(a*(k-1)+k*(k-1))) by
   obtain⟨j,rfl⟩:∃j,k=j+1:=⟨k-1,by lia⟩
   grind,rH,kZ,rH,kZ]
  exact Ke _<|Sf _ e
 refine⟨i,?_⟩;unfold Me;rw[UO λg=>⟨sub h g,λe=>?_⟩]
 have:=sub (a:=m*(k-1)) i g;rw[<-f,show m+m*(k-1)=m*k by
  obtain⟨j,rfl⟩:∃j,k=j+1:=⟨k-1,by lia⟩
  grind,d]at this
 exact this e
end
section
variable {l:Nat}
open Classical in
def bFu(M:Va S rk c)(k:Va T ib c)(y:S.length<=7)(H:l<S.length)(E:r<T.length):iV [mD S rk c,mD T ib c,.int l,.int r]=.ok (.bl<|decide (Pf S rk T ib c l r)):=by
 obtain⟨a,O,K,b⟩:=F2 M k y H E;have P:=RP M k b;have v:(uS S T c a).length=a.length:=by unfold uS;rw[Rb]
 obtain⟨d,L,N,w⟩:=G0 P<|⟨rfl,.inr ⟨rfl,rfl⟩⟩;have n:d=[]↔Pf S rk T ib c l r:=by
  rw[P5];constructor
  .intro J f t I x;obtain⟨i,g,e⟩:=Vs.mp<|b.all f I;have F:qA a i=Mf (cf S T) (l,r) f:=by rw[yZ g,e]
   obtain⟨z,m,u,s,o,j,_⟩:=TY P (by rwa [v])<|(GF M k b g).mpr<|by rwa [F]
   have:=(w m).mpr ⟨z,u,s,o,j⟩;rw[J]at this;cases this
  intro h;refine List.eq_nil_iff_forall_not_mem.mpr λm G=>?_
  obtain⟨z,u,s,o,j⟩:=(w m).mp G;obtain⟨A,B⟩:=PD P (Gy P) j.1;obtain⟨i,g⟩:=jz _<|Xu B;have q:=bC A g;rw[v]at q;obtain⟨t,x⟩:=SY P o j g;have p:qA a i∈a:=by rw[yZ q];exact Vg _
  obtain⟨D,C,_⟩:=b.lead _ p;exact h _ t C (by rw[D];exact(GF M k b q).mp x)
 refine bL rfl<|cD<|aG (aK (aN (aK rfl K) rfl) L) (fU rfl)<|(bP2 d).trans ?_;rw[xo.mpr n]
end
section
variable{al:wS}{hs ks:ac}{r:Nat}{m:D}
def zd(al:wS)(hs:ac)(r:Nat):Nat:=hs.findIdx λh=>al h r
def nC(al:wS)(hs:ac)(r:Nat):ac:=if zd al hs r=hs.length then hs++[r] else hs
theorem DM:∀(a hs:ac),∃ext,a.foldl (nC al) hs=hs++ext
 |[],hs=>⟨[],(Nh _).symm⟩
 |r::a,hs=>by
  obtain⟨ext,e⟩:=DM a _;rw[Yk,e];unfold nC;split
  .simp
  exact⟨ext,rfl⟩
def p8:zd al hs r<=hs.length:=List.findIdx_le_length
def U5(ext:ac)(h:zd al hs r<hs.length):zd al (hs++ext) r=zd al hs r:=by
 unfold zd at h ⊢;rw[List.findIdx_append,jb h]
theorem HN(a:al r r=true):zd al (nC al hs r) r=zd al hs r/\zd al hs r<(nC al hs r).length:=by
 have b:=p8 (al:=al) (hs:=hs) (r:=r);unfold nC
 by_cases h:zd al hs r=hs.length
 .rw[jb h];unfold zd at h ⊢;rw[List.findIdx_append,PH,a,h];simp
 rw[Pa h];exact⟨rfl,by lia⟩
def JN(c:al r r=true)(a:ac):zd al (a.foldl (nC al)<|nC al hs r) r=zd al hs r:=by
 obtain⟨b,d⟩:=HN c;obtain⟨ext,e⟩:=DM a _;rw[e,U5 _ (by rwa [b]),b]
theorem S2(d:f8):∀(l:ac)(k:Nat)(c b:f8),(∀h∈l,iV [m,m,.int (h:Nat),.int r]=.ok (.bl<|al h r))->
  (zd al l r<l.length/\pb (nh [3,4]) tM (vB k<|ia l) [some<|.v m,d,some<|.v<|.int r,c,b]=.ok (.rt<|.int ((k+zd al l r:Nat):Int)))\/
  (zd al l r=l.length/\∃i g,pb (nh [3,4]) tM (vB k<|ia l) [some<|.v m,d,some<|.v<|.int r,c,b]=.ok (.nx [some<|.v m,d,some<|.v<|.int r,i,g]))
 |[],_,c,b,_=>.inr ⟨rfl,c,b,rfl⟩
 |h::l,k,c,b,n=>by
  have f:aO iV (aC (aA 0)<|aC (aA 0)<|aC (aA 4)<|aC (aA 2) aQ) [some<|.v m,d,some<|.v _,some<|.v<|.int k,some<|.v _]=.ok _:=aK rfl<|n h qb;have a:zd al (h::l) r=bif al h r then 0 else zd al l r+1:=PH
  cases j:al h r with
  |true=>
   rw[j]at f a;refine .inl ⟨by rw[a];exact succ_pos _,W7 rfl ?_⟩
   rw[a];exact yV f<|cD rfl
  |false=>
   rw[j]at f a;have a:zd al _ r=zd al l r+1:=a;rcases S2 d l (k+1) _ _ (λh p=>n h<|Mb _ p) with ⟨o,e⟩|⟨o,i,g,e⟩
   .refine .inl ⟨by rw[a,Ed];lia,dO rfl (mZ f rfl) ?_⟩
    rwa [a,show k+(zd al l r+1)=k+1+zd al l r by lia]
   exact .inr ⟨by rw[a,Ed,o],i,g,dO rfl (mZ f rfl) e⟩
def bBz(a:∀h∈hs,iV [m,m,.int (h:Nat),.int r]=.ok (.bl<|al h r)):mX [m,.lst<|ia hs,.int r]=.ok (.int (zd al hs r:Nat)):=by
 rcases S2 _ hs 0 none none a with ⟨_,e⟩|⟨b,d,c,e⟩
 .rw[Kw]at e;exact bL rfl<|pq<|dU rfl e
 refine bL rfl<|aH (dU rfl e)<|cD ?_;show R.ok _=_;rw[bI,b]
def Kq(m:D)(V:tz)(hs a:ac)(c b:f8):za:=[some<|.v m,some<|.o .l<|ia hs,some<|.o (.d false<|ia a)<|a.map λr=>D.int (V r:Nat),c,b]
theorem bFw{V:tz}(g:∀h∈hs,iV [m,m,.int (h:Nat),.int r]=.ok (.bl<|al h r))(c:V r=zd al hs r)(f:r∉ks)(j:hs.length<=100)(i:ks.length<=100)(a:f8):tQ (Kq m V hs ks r a)=.ok (.nx<|Kq m V (nC al hs r) (ks++[r]) r a):=by
 obtain⟨e,d⟩:=kN f;refine aH (st':=Kq m V hs (ks++[r]) r a) ?_ ?_
 .rw[MD (by
  show (aO mX _ [m,D.lst<|ia hs,some _,r,a]).bind _=_;rw[aK rfl<|bBz g];exact aF rfl) rfl rfl rfl (by rw[Rb];lia),e,d,<-c]
  unfold Kq;rw[Hg];rfl
 have b:e2 Ad (e2 Wa (dB 2)<|aA 3) (e1 iD<|dB 1) (Kq m V hs (ks++[r]) r a)=.ok _:=aG (aG rfl rfl<|zU<|sV (λr=>D.int<|V r)<|Ke _ qb) ((by
  show R.ok (D.int<|(ia hs).length)=_;rw[bI])) (oM _ _)
 unfold nC
 by_cases h:zd al hs r=hs.length
 .rw[Jd (by rw[c,h])]at b
  rw[jb h];refine yV b<|(tR rfl rfl<|by rw[bI];lia).trans ?_
  unfold Kq;rw[lK hs r];rfl
 rw[pe (by lia)]at b
 rw[Pa h];exact mZ b rfl
theorem T2{V:tz}{a k:ac}(p:∀h∈a,∀r∈a,iV [m,m,.int (h:Nat),.int r]=.ok (.bl<|al h r))(c:∀r∈a,al r r=true)(q:∀r,V r=zd al k r):∀(xs:ls) (hs b:ac) (f d:f8),(∀x∈xs,x.1∈a)->(∀h∈hs,h∈a)->(b++xs.map (·.1)).Nodup->(xs.map (·.1)).foldl (nC al) hs=k->hs.length+xs.length<=50->b.length+xs.length<=50->
  ∃i g,pb (nh [3,4]) tQ (DV xs) (Kq m V hs b f d)=.ok (.nx (Kq m V k (b++xs.map (·.1)) i g))
 |[],hs,b,f,d,_,_,_,e,_,_=>⟨f,d,by rw[<-e,map_nil,Nh];rfl⟩
 |x::xs,hs,b,f,d,n,j,l,e,t,s=>by
  rw[Ed]at t s;rw[gf]at l e;have o:=n x qb;have v:(nC al hs x.1).length<=hs.length+1:=by
   unfold nC;split
   .rw[Ud];exact Pb _
   lia
  obtain⟨i,g,e2⟩:=T2 p c q xs (nC al hs x.1) (b++[x.1]) _ (some _) (λy u=>n y<|Mb _ u) (λh z=>by
   unfold nC at z;split at z
   .rcases tf.mp z with z|z
    .exact j h z
    rwa [Hd.mp z]
   exact j h z) (by rwa [Bh]) (by rw[<-e];rfl) (by lia) (by rw[Ud,Ug];lia)
  refine⟨i,g,?_⟩;rw[gf,show b++x.1::xs.map (·.1)=b++[x.1]++xs.map (·.1) by rw[Bh];rfl]
  exact dO rfl (bFw (λh z=>p h (j h z) x.1 o) (by rw[q,<-e];exact JN (c _ o) _) (λz=>(Xl.mp l).2.2 _ z _ qb rfl) (by lia) (by lia) _) e2
def fw(n:Nat)(hs:ac)(b a:f8):za:=[none,some<|.o (.d false<|ia<|List.range n)<|ia hs,b,a]
theorem bFx(c:zd al hs r<=hs.length)(b:hs.length<=100):pL (fw hs.length hs r (zd al hs r:Nat))=.ok (.nx<|fw (nC al hs r).length (nC al hs r) r (zd al hs r:Nat)):=by
 have a:=sD (zd al hs r)<|List.range hs.length;show aP _ _=_;rw[aF ⟨rfl,Vr<|by rw[bI];lia⟩]
 unfold nC
 by_cases h:zd al hs r=hs.length
 .rw[h,pe (by simp)]at a
  rw[jb h];unfold uX uY;rw[h,a];unfold fw;rw[Ud,Ug,VR,lK,lK];rfl
 rw[Jd<|qf.mpr<|by lia]at a
 rw[Pa h,jb a]
theorem U2{f:ac}{V:tz}(b:∀r,al r r=true)(i:∀r,V r=zd al f r):∀(a hs:ac)(d c:f8),a.foldl (nC al) hs=f->hs.length+a.length<=50->
  ∃h g,pb (nh [2,3]) pL (a.map λr=>D.tup [.int (r:Nat),.int (V r:Nat)]) (fw hs.length hs d c)=.ok (.nx<|fw f.length f h g)
 |[],hs,d,c,e,_=>⟨d,c,by rw[<-e];rfl⟩
 |r::a,hs,d,c,e,l=>by
  rw[Ed]at l;have j:V r=zd al hs r:=by rw[i,<-e];exact JN (b _) _
  have k:(nC al hs r).length<=hs.length+1:=by
   unfold nC;split
   .simp
   lia
  obtain⟨h,g,e2⟩:=U2 b i a _ _ _ (by rw[<-e];rfl) (by lia)
  refine⟨h,g,dO rfl ?_ e2⟩;rw[j];exact bFx p8 (by lia)
theorem bFy{a:ac}{V:tz}(b:∀r,al r r=true)(j:∀r,V r=zd al HS r)(e:a.foldl (nC al) []=HS)(l:a.length<=50):zP [.Fe false (ia a)<|a.map λr=>D.int (V r:Nat)]=.ok (.lst<|ia HS):=by
 obtain⟨f,c,e2⟩:=U2 b j a [] none none e (by rw[Xk];lia)
 have h:List.zipWith (λk d=>D.tup [k,d]) (ia a) (a.map λr=>D.int<|V r)=a.map λr=>D.tup [.int (r:Nat),.int<|V r]:=by
  unfold ia;rw[List.zipWith_map,List.zipWith_self]
 refine bL rfl<|aH rfl<|aH (st':=fw HS.length HS f c) ?_ ?_
 .show (if ((a.map λr=>D.int<|V r).all atom&&[none,some<|.o (.d false []) [],none,none].all atS)=true then (pb (nh [2,3]) pL _ [none,some<|.o (.d false []) [],none,none]).bind _ else .bad)=_
  rw[jb (by
  rw[Wk];exact⟨qz.mpr λd i=>by obtain⟨r,_,rfl⟩:=gd.mp i;rfl,rfl⟩),h]
  have e2:pb (nh [2,3]) pL _ [none,some<|.o (.d false []) [],none,none]=.ok _:=e2;rw[e2];rfl
 have m:HS.length<=50:=by
  have:∀(a hs:ac),(a.foldl (nC al) hs).length<=hs.length+a.length:=λa=>by
   induction a with
   |nil=>exact λhs=>Pb _
   |cons r a g=>
    intro hs;rw[Ed];refine Xd (g _) ?_
    unfold nC;split
    .rw[Ud,Ug];lia
    lia
  have:=this a [];rw[Xk]at this;lia
 exact cD<|aF<|cO<|by rw[bI];lia
end
section
variable{al:wS}{hs rs:ac}{r:Nat}
theorem V5:∀(a hs:ac),∀h∈a.foldl (nC al) hs,h∈hs\/h∈a
 |[],_,_,h=>.inl h
 |r::a,hs,h,b=>by
  rcases V5 a _ h b with z|z
  .unfold nC at z;grind
  exact .inr<|Mb _ z
theorem fold_lt(a:∀r,al r r=true):∀(b hs:ac),∀r∈b,zd al (b.foldl (nC al) hs) r<(b.foldl (nC al) hs).length
 |s::b,hs,r,h=>by
  rcases qc.mp h with rfl|h
  .rw[Yk,JN<|a _];obtain⟨ext,e⟩:=DM b _;rw[e,Ud];have:=(HN (hs:=hs)<|a r).2;lia
  exact fold_lt a b _ r h
def IQ(al:wS)(hs:ac):Prop:=∀i,(h:i<hs.length)->zd al hs hs[i]=i
theorem V2(a:∀r,al r r=true):∀(b hs:ac),IQ al hs->IQ al (b.foldl (nC al) hs)
 |[],_,h=>h
 |r::b,hs,h=>V2 a b _ (by
  have d:=(HN (hs:=hs)<|a r).1;revert d;unfold nC;split
  .rename_i e;intro d i f
   by_cases c:i<hs.length
   .rw[List.getElem_append_left c,U5 _ (by rwa [h i c]),h i c]
   rw[Ud,Ug]at f;obtain rfl:i=hs.length:=by lia
   simp;rw[d,e]
  exact λ_=>h)
theorem W2:∀(a hs:ac),(a.foldl (nC al) hs).length<=hs.length+a.length
 |[],_=>Pb _
 |r::a,hs=>by
  rw[Ed];refine Xd (W2 a _) ?_
  unfold nC;split
  .rw[Ud,Ug];lia
  lia
def q8(h:zd al hs r<hs.length):al (hs.getD (zd al hs r) 0) r=true:=by
 have:al hs[zd al hs r] r=true:=List.findIdx_getElem (p:=λh=>al h r)
 rwa [bf,Kc h]
def bG0(h:∀x∈hs,al x r=al x r'):zd al hs r=zd al hs r':=by
 unfold zd
 induction hs with
 |nil=>rfl
 |cons x l a=>rw[PH,PH,h x qb,a λy b=>h y<|Mb _ b]
end
section
variable{S Fm:am}{rk NI:ac}{c:Nat}{cls hd:tz}
structure Wf(S:am)(rk:ac)(c:Nat)(Fm:am)(cls hd:tz):Prop where
 one:1<=Fm.length
 len:Fm.length<=S.length
 row:∀i,i<Fm.length->Fm.getD i []=(S.getD (hd i) []).map cls
 lt:∀x∈aR (Ce S c),cls x<Fm.length
 Uw:∀i,i<Fm.length->hd i∈aR (Ce S c)/\cls (hd i)=i
 eq:∀x∈aR (Ce S c),∀y∈aR (Ce S c),Pf S rk S rk c x y↔cls x=cls y
def bG1(M:Va S rk c):0∈aR (Ce S c):=aY.mpr<|(RD M 0).mpr .here
def Wf.J6(k:Wf S rk c Fm cls hd){x:Nat}(a:x∈aR (Ce S c)):Pf S rk S rk c (hd<|cls x) x:=by
 obtain⟨d,b⟩:=k.Uw _<|k.lt x a;exact(k.eq _ d _ a).mpr b
theorem Wf.step(k:Wf S rk c Fm cls hd)(M:Va S rk c){x a:Nat}(d:x∈aR (Ce S c))(l:a<c):xc Fm (cls x) a=cls (xc S x a)/\xc S x a∈aR (Ce S c):=by
 have g:=k.lt x d;obtain⟨h,m⟩:=k.Uw _ g;have b:Mc c [97+a]:=λz i=>by rw[Hd.mp i];constructor<;>lia
 have one:∀y,Sa S y [97+a]=xc S y a:=λy=>by show xc S y _=_;rw[Ys]
 have s1:=(xN M d b).1;have e:=(k.eq _ ((xN M h b).1) _ s1).mp<|(k.J6 d).go b;rw[one]at s1;rw[one,one]at e;refine⟨?_,s1⟩;rw[<-e];unfold xc;rw[k.row _ g];have f:=bC iG h;have j:a<(S.getD (hd<|cls x) []).length:=by
  rw[bf,Kc f];show a<S[hd<|cls x].length
  rwa [(M.row _<|Vg f).1]
 simp_all
theorem Wf.go(k:Wf S rk c Fm cls hd)(M:Va S rk c):∀{w:ac}{x:Nat},x∈aR (Ce S c)->Mc c w->Sa Fm (cls x) w=cls (Sa S x w)
 |[],_,_,_=>rfl
 |b::w,x,f,a=>by
  have h:=a b qb;obtain⟨e,g⟩:=k.step M f (a:=b-97) (by lia)
  show Sa Fm _ w=cls _;rw[e];exact k.go M g λz d=>a z<|Mb _ d
def Wf.JI(k:Wf S rk c Fm cls hd)(M:Va S rk c)(b:NI.length=Fm.length):Va Fm NI c:=⟨k.one,Xd k.len M.most,M.c1,M.c3,λr g=>by
 obtain⟨i,d,rfl⟩:=Vs.mp g;have e:=k.row i d;obtain⟨f,m⟩:=k.Uw i d;have b:=bC iG f;rw[bf,Kc d,bf,Kc b]at e;have e:Fm[i]=S[hd i].map cls:=e;refine⟨by rw[e,Rb,(M.row _<|Vg b).1],λz hz=>?_⟩
 rw[e]at hz;obtain⟨y,l,rfl⟩:=gd.mp hz;refine k.lt y ?_
 obtain⟨a,h,j⟩:=(pQ M.w b).mp (by rwa [bf,Kc b])
 rw[<-j];exact(k.step M f h).2,b⟩
theorem Wf.main(k:Wf S rk c Fm cls hd)(M:Va S rk c)(st:yx S rk c){x:Nat}{t u p q:ac}(i:x∈aR (Ce S c))(d:af S c x t)(hr:r<Fm.length)(f:af Fm c r u)(B:Mc c p)(Y:Sa Fm (cls x) p=r)(U:Mc c q)(eq:Sa Fm r q=cls x){N b:Nat}(J:S.length<=N)(V:1<=b)(Z:Sa S (Sa S (hd r)<|rep N u) (rep b u)=Sa S (hd r) (rep N u)):Me S rk (Sa S (hd r)<|rep N u) (rep b u)=Me S rk x t:=by
 have gN:∀{z w},z∈aR (Ce S c)->af Fm c (cls z) w->cls (Sa S z<|rep N w)=cls z:=λ{z w} hz T=>by
  rw[<-k.go M hz (fG T.lt N)];exact pW T.cl N
 have I:af Fm c (cls x) t:=⟨d.ne,d.lt,by rw[k.go M i d.lt,d.cl]⟩
 let W:=rep N t++(p++(rep N u++q))
 have A:Mc c W:=iR (fG d.lt N)<|iR B<|iR (fG f.lt N) U;have e:∀(G:am) (z:Nat) (v w:ac),Sa G z (v++w)=Sa G (Sa G z v) w:=λG z v w=>by rw[Sa,eV]
 obtain⟨H,hj0,l⟩:=UH M (bC iG i) A;have l:=l N J;have h:=(xN M i<|fG A N).1;have C:cls (Sa S x<|rep N W)=cls x:=by
  rw[<-k.go M i (fG A N)];exact pW (by
  rw[e,e,e,pW I.cl,Y,pW f.cl,eq]) N
 generalize Sa S x (rep N W)=y at l h C;obtain⟨j,hj,c1⟩:=UH M (bC iG h) d.lt;have s1:=(xN M h<|fG d.lt N).1;have s:=(k.eq _ i _ h).mpr C.symm (rep N t) (rep j t)<|fG d.lt N;rw[pW d.cl]at s;obtain⟨L,w1⟩:=d.mh (rk:=rk) hj;have e1:af S c (Sa S y<|rep N t) (rep j t):=⟨L.ne,L.lt,(c1 N J)⟩;have s:=s L e1;have g:=(xN M s1 B).1;have F:cls (Sa S (Sa S y<|rep N t) p)=r:=by rw[<-k.go M s1 B,((gN h<|by rwa [C]).trans C),Y]
 have E:Sa S y W=Sa S (Sa S (Sa S (Sa S y<|rep N t) p)<|rep N u) q:=by rw[e,e,e]
 generalize K:Sa S y (rep N t)=y1 at s e1 s1 g F E;have P:Sa S y1 (p++rep N u)=Sa S (Sa S y1 p) (rep N u):=e _ _ _ _;generalize Sa S y1 p=y2 at g F E P;obtain⟨a,X,D⟩:=UH M (bC iG g) f.lt;have D:=D N J;have O:=(F ▸ k.J6 g) (rep N u) (rep (a*b) u)<|fG f.lt N;have s3:=(xN M g<|fG f.lt N).1;generalize Sa S y2 (rep N u)=y3 at O D s3 E P;generalize Sa S (hd r) (rep N u)=h3 at O Z ⊢;have R:∀{n},1<=n->rep n u≠[]:=λ{n} hn z=>by
  obtain⟨n,rfl⟩:∃m,n=m+1:=⟨n-1,by lia⟩
  rw[nA,Us]at z;exact f.ne z.1
 have e3:af S c y3 (rep a u):=⟨R X,fG f.lt a,D⟩;have eh:af S c h3 (rep b u):=⟨R V,fG f.lt b,Z⟩;obtain⟨d3,w3⟩:=e3.mh (rk:=rk) V;obtain⟨dh,Q⟩:=eh.mh (rk:=rk) X;rw[<-Xx]at dh Q;rw[<-Xx,bS]at d3 w3;have o:Sa S y3 (q++(rep (H-1) W++rep N t))=y1:=by
  obtain⟨j1,rfl⟩:∃m,H=m+1:=⟨H-1,by lia⟩
  rw[nA,e,E]at l;rw[e,e,Nat.add_sub_cancel,l,K]
 rw[<-w1,s,(st y1 (rep j t) y3 (rep (a*b) u) _ _ s1 e1 d3 (iR B<|fG f.lt N) P (iR U<|iR (fG A _)<|fG d.lt N) o),<-(O dh d3),Q]
end
section
variable{S Fm:am}{rk um:ac}{c x:Nat}{cls hd:tz}
abbrev Jm(a:am):Nat:=jY<|List.range a.length
def WD(M:Va Fm um c){P:Nat}(h:P∈dM Fm c (Jm Fm)):ph Fm c P/\P<2^Fm.length/\∀i∈aR P,gC Fm c (Jm Fm) i=P:=by
 obtain⟨r,a,e,d⟩:=fW.mp h;have b:=bC yv a;refine⟨by rw[<-e];exact yX M.w yv a (by rwa [e]),by rw[<-e];exact Wu,λi hi=>?_⟩
 rw[<-e]at hi ⊢;exact WL M.w b<|(iQ M.w b).mp<|aY.mp hi
def bK4{P:Nat}(h:P≠0):∃r T,aR P=r::T:=by
 cases a:aR P with
 |nil=>exact(Xu h a).elim
 |cons r T=>exact⟨r,T,rfl⟩
theorem KN(M:Va Fm um c){m p:D}{H:ac}(E:p=.lst (ia H)){val:At}:∀(l a:ac)(j i:f8),(∀P∈l,P<2^Fm.length/\∃r T u h,aR P=r::T/\yd (ia H) (r:Int)=some (.int (h:Nat))/\jQ [mD Fm um c,.int P,.int r]=.ok (.str u)/\(∀q b xs,m=.ins q b xs->q="Machine"/\"lets"∉b)/\(∃q b xs,m=.ins q b xs)/\dN [m,.tup [.str [],.str u],.int h]=.ok (.bl<|val P))->a.length+l.length<=1000->
  ∃f d,pb (gb 4) OX (ia l) [m,p,mD Fm um c,some<|.o .l<|ia a,j,i]=.ok (.nx [m,p,mD Fm um c,some<|.o .l<|ia<|a++l.filter val,f,d])
 |[],a,j,i,_,_=>⟨j,i,by rw[List.filter_nil,Nh];rfl⟩
 |P::l,a,j,i,h,B=>by
  obtain⟨C,r,T,u,g,y,x,w,v,⟨q,b,xs,s⟩,t⟩:=h P qb;rw[Ed]at B;have F:=M.most;subst E;have n:oU "Machine" "lets" dN [] (aA 0) (aC (yi<|aC (eC<|.str [])<|aC (aO jQ<|aC (aA 2)<|aC (aA 4)<|aC (aA 5) aQ) aQ)<|aC (e2 Wa (aA 1)<|aA 5) aQ) [m,D.lst<|ia H,mD Fm um c,some<|.o .l<|ia a,P,r]=.ok (.bl<|val P):=by
   rw[VC,show aA 0 _=.ok m from rfl,aN (xM<|aN rfl<|aN (aK rfl w) rfl)<|aN (aG rfl rfl<|dR x) rfl]
   obtain⟨A,z⟩:=v q b xs s;rw[s]at t ⊢;show aP _ (dN _)=_
   rwa [aF ⟨A,z⟩]
  have st:cG 5 (e2 Wa (aO cQ<|aC (aA 4) aQ)<|eI 0) [m,D.lst<|ia H,mD Fm um c,some<|.o .l<|ia a,P,i]=.ok _:=bB<|aG (aK rfl<|jE C<|by lia) rfl<|dR<|by rw[y];exact EN _ _
  cases k:val P with
  |true=>
   rw[k]at n;obtain⟨f,d,e⟩:=KN M rfl l (a++[P]) P r (λQ o=>h Q<|Mb _ o) (by rw[Ud,Ug];lia)
   refine⟨f,d,dO rfl (aH st<|yV n<|tR rfl rfl<|by rw[bI];lia) ?_⟩
   rw[List.filter_cons_of_pos k,show a++P::l.filter val=a++[P]++l.filter val by rw[Bh];rfl]
   rwa [lK a P]at e
  |false=>
   rw[k]at n;obtain⟨f,d,e⟩:=KN M rfl l a P r (λQ o=>h Q<|Mb _ o) (by lia)
   refine⟨f,d,dO rfl (aH st<|mZ n rfl) ?_⟩
   rwa [List.filter_cons_of_neg (by rw[k];decide)]
open Classical in
theorem bG2(k:Wf S rk c Fm cls hd)(M:Va S rk c)(M1:Va Fm um c)(st:yx S rk c){H:ac}(U:∀i,i<Fm.length->yd (ia H) (i:Int)=some (.int (hd i:Nat))):∃d,uK [mD S rk c,.lst<|ia H,mD Fm um c]=.ok (.lst<|ia d)/\(∀P∈d,P∈dM Fm c (Jm Fm))/\∀P∈dM Fm c (Jm Fm),∀x∈aR (Ce S c),∀t,cls x∈aR P->af S c x t->(P∈d↔Me S rk x t=true):=by
 have one:∀P∈dM Fm c (Jm Fm),∃r T u v,aR P=r::T/\jQ [mD Fm um c,.int P,.int r]=.ok (.str u)/\dN [mD S rk c,.tup [.str [],.str u],.int<|hd r]=.ok (.bl v)/\∀x∈aR (Ce S c),∀t,cls x∈aR P->af S c x t->v=Me S rk x t:=λP a=>by
  obtain⟨g,f,p3⟩:=WD M1 a;obtain⟨r,T,D⟩:=bK4 g.1;have j:r∈aR P:=by rw[D];exact qb
  have I:=bC f j;obtain⟨u,e1,s,o,J,u4⟩:=aW9 M1 f g j;obtain⟨V,_⟩:=k.Uw r I;obtain⟨v,i,b,e2,Y,w,R⟩:=bK3 M (bC iG V) s o (by lia)
  refine⟨r,T,u,v,D,e1,e2,λx hx t hc ht=>?_⟩
  obtain⟨p,O,N,_⟩:=AN<|g.2.1 _ hc r j;obtain⟨q,L,K,_⟩:=AN<|g.2.1 r j _ hc;obtain⟨F,E⟩:=bT1 Y w;have W:Sa S (Hf S (hd r) u i) (rep S.length u)=Sa S (hd r) (rep (i+S.length) u):=by rw[rH,Sa,eV]
  rw[W]at F E;rw[R,<-E];exact k.main M st hx ht I ⟨s,o,J⟩ O N L K (Nat.le_add_left _ _) w F.cl
 let val:=λP=>decide (∃r T u,aR P=r::T/\jQ [mD Fm um c,.int P,.int r]=.ok (.str u)/\dN [mD S rk c,.tup [.str [],.str u],.int<|hd r]=.ok (.bl true))
 have G:∀P∈dM Fm c (Jm Fm),∃r T u,aR P=r::T/\jQ [mD Fm um c,.int P,.int r]=.ok (.str u)/\dN [mD S rk c,.tup [.str [],.str u],.int<|hd r]=.ok (.bl<|val P)/\∀x∈aR (Ce S c),∀t,cls x∈aR P->af S c x t->val P=Me S rk x t:=λP a=>by
  obtain⟨r,T,u,v,m,l,n,h⟩:=one P a;have:val P=v:=by
   cases v with
   |true=>exact Jd ⟨r,T,u,m,l,n⟩
   |false=>
    refine pe λ⟨r',T',u',C,B,A⟩=>?_
    rw[m]at C;cases C;rw[l]at B;cases B;rw[n]at A;cases A
  exact⟨r,T,u,m,l,by rwa [this],λx hx t hc ht=>by rw[this];exact h x hx t hc ht⟩
 have rf:(dM Fm c<|Jm Fm).length<=8:=by
  exact Xd QC<|Xd (fJ _ _ (cU _) λy Q=>bC yv Q) M1.most
 obtain⟨y4,Z,e⟩:=KN (m:=mD S rk c) M1 rfl (dM Fm c<|Jm Fm) [] none none (λP a=>by
  obtain⟨r,T,u,e1,e2,X,_⟩:=G P a;have f:=(WD M1 a).2.1;exact⟨f,r,T,u,hd r,e1,U r<|bC f<|by rw[e1];exact qb,e2,λq ns xs z=>by unfold mD at z;cases z;exact⟨rfl,by decide⟩,⟨_,_,_,rfl⟩,X⟩) (by rw[Xk];lia)
 refine⟨(dM Fm c<|Jm Fm).filter val,bL rfl<|aH (iC<|fU rfl)<|aH (dU (kY<|aK (aN rfl<|aN (aK rfl<|C5 M1) rfl)<|xD M1 yv) e) rfl,λP a=>(Vf.mp a).1,λP a x hx t hc ht=>?_⟩
 rw[Vf];obtain⟨_,_,_,_,_,_,h⟩:=G P a;rw[<-h x hx t hc ht];exact⟨λz=>z.2,λz=>⟨a,z⟩⟩
end
section
variable{S Fm:am}{rk:ac}{c:Nat}{cls hd:tz}
def tU(a:am)(d:Nat):ac:=Jn a λr=>if d.testBit r=true then 0 else 1
theorem bG3(k:Wf S rk c Fm cls hd)(M:Va S rk c){b:ac}{d:Nat}(I:∀P∈b,P∈dM Fm c (Jm Fm))(H:∀P∈dM Fm c (Jm Fm),∀x∈aR (Ce S c),∀t,cls x∈aR P->af S c x t->(P∈b↔Me S rk x t=true))(w:∀i,i∈aR d↔∃m∈b,i∈aR m){x:Nat}(B:x∈aR (Ce S c)):Pf Fm (tU Fm d) S rk c (cls x) x:=λf t D h E=>by
 have M1:Va Fm (tU Fm d) c:=k.JI M UD;rw[k.go M B D]at h ⊢;have p:=(xN M B D).1;generalize Sa S x f=y at h E p;have C:=k.lt y p;have v:=Q5 M1 C h;have sub:=λg a=>dI.mpr<|qf.mpr (by
  obtain⟨_,F⟩:=Yu _ t (cls y) h.lt λ_ _=>rfl
  exact xH M1.w C (F g<|dI.mp a).1)
 have o:=dI.mpr<|wO h;have s:=nN M1.w yv v sub o;have n:=H _ (fW.mpr ⟨cls y,sub _ o,rfl,eM v s⟩) y p t (s _ o) E;obtain⟨_,G,e⟩:=nW _ _ 0;have J:=G _<|wO h;have j:∀g∈bc Fm (cls y) t,(tU Fm d).getD g 0=if d.testBit g=true then 0 else 1:=λg a=>m8<|qf.mp<|dI.mp<|sub g<|dI.mpr a
 unfold Me;cases l:Me S rk y t with
 |true=>
  have z:∀g∈bc Fm (cls y) t,(tU Fm d).getD g 0=0:=λg a=>by
   rw[j g a,jb<|aY.mp<|(w g).mpr ⟨_,(n.mpr l),s g<|dI.mpr a⟩]
  rcases e with e|⟨g,a,e⟩
  .lia
  rw[e,z g a];unfold Me at l;exact l.symm ▸ rfl
 |false=>
  have q:¬ d.testBit (cls y)=true:=λz=>by
   obtain⟨P,u,r⟩:=(w _).mp<|aY.mpr z;rw[<-((WD M1<|I P u).2.2 _ r),n,l]at u;cases u
  have A:=j _<|wO h;rw[Pa q]at A;rw[A]at J;rcases e with e|⟨g,a,e⟩
  .lia
  have K:(tU Fm d).getD g 0<=1:=by rw[j g a];split<;>lia
  have:og (tU Fm d) 0 (bc Fm (cls y) t)=2:=by lia
  rw[this];unfold Me at l;exact l.symm ▸ rfl
open Classical in
theorem bG4(M:Va S rk c)(W:S.length<=7)(I:∀b,¬ Rr S c rk b):∃q d g B Z,iI [mD S rk c]=.ok (mD q (tU q d) c)/\Va S g c/\(∀m,xj S c m->Ge g m=Ge rk m)/\Wf S g c q B Z/\∀x∈aR (Ce S c),Pf q (tU q d) S g c (B x) x:=by
 obtain⟨g,et,l,N⟩:=bK0 M I;have st:=bFs M N<|bP8 M I;obtain⟨s,er,b⟩:=aW7 l;have n8:=M.most;have p:∀r,(λh r=>decide (Pf S g S g c h r)) r r=true:=λr=>Jd Pf.refl
 have A:∀r,r∈s.map (·.1)↔r∈aR (Ce S c):=λr=>by
  rw[aY,RD l];constructor
  .intro h;obtain⟨x,j,rfl⟩:=gd.mp h;exact(b.pt x j).2
  exact b.whole
 have bl:=b.len;have V:∀h∈s.map (·.1),∀r∈s.map (·.1),iV [mD S g c,mD S g c,.int (h:Nat),.int (r:Nat)]=.ok (.bl<|(λh r=>decide (Pf S g S g c h r)) h r):=λh u r L=>bFu l l W (bC iG<|(A h).mp u)<|bC iG<|(A r).mp L
 have H:∀h r,(λh r=>decide (Pf S g S g c h r)) h r=true->Pf S g S g c h r:=λh r z=>vo z
 have U:∀h x y,h∈aR (Ce S c)->x∈aR (Ce S c)->y∈aR (Ce S c)->Pf S g S g c x y->(λh r=>decide (Pf S g S g c h r)) h x=(λh r=>decide (Pf S g S g c h r)) h y:=λh x y u j C a=>xo.mpr ⟨λz=>z.trans l (bC iG j) a,λz=>z.trans l (bC iG C) a.symm⟩
 generalize (λh r=>decide (Pf S g S g c h r))=al at p V H U
 obtain⟨f,w⟩:∃f,(s.map (·.1)).foldl (nC al) []=f:=⟨_,rfl⟩;have rl:(s.map (·.1)).length<=S.length:=by rwa [Rb]
 have hHl:f.length<=S.length:=by
  have:=W2 (al:=al) (s.map (·.1)) [];rw[w,Xk]at this;lia
 have t:∀h∈f,h∈aR (Ce S c):=λh u=>by
  rw[<-w]at u;rcases V5 _ _ h u with z|z
  .cases z
  exact(A h).mp z
 have o:=λx j=>by
  have:=fold_lt p (s.map (·.1)) [] x<|(A x).mpr j
  rwa [w]at this
 have DT:IQ al f:=by
  rw[<-w];exact V2 p _ _ λi k=>absurd k<|zp _
 have F:∀i,i<f.length->f.getD i 0∈f/\zd al f (f.getD i 0)=i:=λi k=>by
  rw[bf,Kc k];exact⟨Vg k,DT i k⟩
 let q:=f.map λh=>(S.getD h []).map<|zd al f
 have v:q.length=f.length:=Rb _;have K:Wf S g c q (zd al f) (λi=>f.getD i 0):=by
  refine⟨?_,by rwa [v],λi k=>?_,λx j=>by rw[v];exact o x j,λi k=>?_,λx j y C=>⟨λa=>?_,λe=>?_⟩⟩
  .have:=o 0<|bG1 M;rw[v];lia
  .rw[v]at k;show q.getD i []=(S.getD (f.getD i 0) []).map _;rw[bf,rh,bf (l:=f),Kc k];rfl
  .rw[v]at k;exact⟨t _ (F i k).1,(F i k).2⟩
  .exact bG0 λh u=>U h x y (t h u) j C a
  have a1:=H _ _<|q8<|o x j;have T:=H _ _<|q8<|o y C;rw[<-e]at T;exact a1.symm.trans l (bC iG<|t _ (F _<|o x j).1) T
 have M1:Va q (List.replicate f.length 1) c:=K.JI l (by rw[wo,v])
 obtain⟨X,eg,go,gv⟩:=bG2 K l M1 st λi k=>by
  rw[v]at k;rw[xK k]
 obtain⟨d,ed,_,Rt⟩:=CL (λP hP=>(WD M1<|go P hP).2.1) (by lia)
 refine⟨q,d,g,_,_,?_,l,N,K,λx j=>bG3 K l go gv Rt j⟩
 obtain⟨y3,y4,Q⟩:=T2 V (λr _=>p r) (λ_=>rfl) s [] [] none none (λx j=>gd.mpr ⟨x,j,rfl⟩) (λ_ z=>nomatch z) (by rw[zt];exact b.nd) w (by rw[Xk];lia) (by rw[Xk];lia)
 rw[zt]at Q;have Rm:=bFy p (λ_=>rfl) w (by lia)
 refine bL rfl (aH (bB<|aK rfl et) (aH (bB<|aK rfl<|bL rfl<|aH (iC<|fU rfl)<|aH rfl<|aH (dU (kY<|aK rfl er) Q) rfl) (aH (bB<|aK rfl Rm) (aH (bB (by
  rw[xJ (λ(h:Nat)=>D.int h) (λh=>D.lst<|ia<|(S.getD h []).map<|zd al f) rfl (by lia) λh u=>?_]
  .show R.ok (D.lst<|f.map λh=>D.lst<|ia<|(S.getD h []).map<|zd al f)=.ok (.lst<|(f.map λh=>(S.getD h []).map<|zd al f).map λr=>D.lst<|ia r)
   rw[Dg];rfl
  have J:=t h u;have E:=bC iG J;have O:S.getD h []=S[h]:=by rw[bf,Kc E];rfl
  have Lp:=(M.row _<|Vg E).1;have c3:=M.c3;show cJ [7] (gb 7) (Ec<|e2 Wa (e1 (cL "Machine" "steps")<|aA 1)<|aA 6) cV wN [mD S rk c,mD S g c,D.Fe false (ia (s.map (·.1))) ((s.map (·.1)).map λr=>D.int<|zd al f r),D.lst<|ia f,none,none,h,none]=_
  rw[xJ (λ(r:Nat)=>D.int r) (λr=>D.int<|zd al f r) (kY<|aG (show cL "Machine" "steps" (mD S g c)=_ from gO) rfl<|dR<|tq E) (by lia) λr L=>?_,O]
  .unfold ia;rw[Dg];rfl
  obtain⟨a,ha,ea⟩:=(pQ M.w E).mp (by rwa [O])
  have G:r∈aR (Ce S c):=by rw[<-ea];exact(K.step l J ha).2
  exact aG rfl rfl<|zU<|sV (λr=>D.int<|zd al f r)<|(A r).mpr G))<|aH (bB<|aK (aN rfl<|aN (by
  show aP (1<=big/\1*((ia f).length:Int).toNat<=big/\_) (R.ok<|D.lst<|rep ((ia f).length:Int).toNat [.int 1])=_;rw[aF ⟨cO (by decide),cO (by rw[bI];lia),by rw[bI];lia,by rw[bI];lia⟩,bI,Ao]
  congr 2;have:∀n,rep n [D.int 1]=ia (List.replicate n 1):=λn=>by
   induction n with
   |zero=>rfl
   |succ n Y=>rw[nA,Y,Uk];rfl
  exact this _) rfl)<|JD M1)<|cD<|aK (aN rfl<|aN (aK (aN rfl<|aN (aK (aN (aK rfl eg) rfl) ed) rfl)<|v9 M1 d 0 1) rfl)<|JD<|K.JI l UD))))
end
def r8{st:za}{ch:Nat}(d:c<=3)(h:f st=.ok (.str [ch]))(b:97<=ch)(a:(ch:Int)<97+c):Ni ly (eC<|.str [97,98,99]) (aC f aQ) st=.ok (.int ((ch-97:Nat):Int)):=by
 unfold Ni;rw[aN h rfl];show (Ih _).bind _=_;rw[R1 d b a];rfl
section
variable{Fm:am}{rk:ac}{c:Nat}
theorem W5(M:Va Fm rk c)(d:f8):∀(x:ac)(q:Nat)(a:f8),q<Fm.length->Mc c x->∃b,pb (gb 3) PX (x.map λch=>D.str [ch]) [D.lst<|Wb Fm,q,d,a]=.ok (.nx [D.lst<|Wb Fm,(Sa Fm q x:Nat),d,b])
 |[],_,a,_,_=>⟨a,rfl⟩
 |ch::x,q,a,j,f=>by
  obtain⟨h,g⟩:=f ch qb;obtain⟨r,m,l,k⟩:=KD M.w j h g;obtain⟨b,e⟩:=W5 M d x _ _ k λz i=>f z<|Mb _ i
  exact⟨b,dO rfl (bB<|aG (aG rfl rfl<|dR m) (r8 M.c3 rfl h g)<|dR l) e⟩
theorem XO{st:za}{x:ac}(h:f st=.ok (.str x))(a:x.length<=1000000):Ec f st=.ok (x.map λch=>D.str [ch]):=by
 rw[L7,h];exact aF<|cO<|by lia
def Iy(M:Va Fm rk c){q:Nat}(b:q<Fm.length){x:ac}(a:Mc c x)(d:x.length<=1000000):iM [.lst<|Wb Fm,.int q,.str x]=.ok (.int (Sa Fm q x:Nat)):=by
 obtain⟨f,e⟩:=W5 M _ x q none b a;exact bL rfl<|aH (dU (XO rfl d) e)<|cD rfl
def JQ(rk:ac)(b:ac)(a:Nat):Nat:=b.foldl (λa g=>max a<|rk.getD g 0) a
theorem s8:∀(b:ac)(a:Nat),JQ rk b a+1=og rk (a+1) b
 |[],_=>rfl
 |g::b,a=>by
  show JQ rk b _+1=og rk _ b;rw[s8 b,show max a _+1=max (a+1) (rk.getD g 0+1) by lia]
theorem X5(M:Va Fm rk c)(f:f8):∀(x:ac)(q b:Nat)(a:f8),q<Fm.length->Mc c x->∃d,pb (gb 4) TX (x.map λch=>D.str [ch]) [mD Fm rk c,f,q,b,a]=.ok (.nx [mD Fm rk c,f,(Sa Fm q x:Nat),(JQ rk (bc Fm q x) b:Nat),d])
 |[],_,_,a,_,_=>⟨a,rfl⟩
 |ch::x,q,b,a,k,g=>by
  obtain⟨i,h⟩:=g ch qb;obtain⟨r,n,m,l⟩:=KD M.w k i h;obtain⟨d,e⟩:=X5 M f x _ _ _ l λz j=>g z<|Mb _ j
  refine⟨d,dO rfl (aH (bB<|aG (aG (gO) rfl<|dR n) (r8 M.c3 rfl i h)<|dR m)<|bB<|aG rfl (aG (qX) rfl<|dR<|xK<|by rwa [M.El]) ?_) e⟩
  show R.ok _=_;congr 2;split<;>lia
theorem bPb(h:gs≠[]):og rk 1 gs=og rk 0 gs:=by
 obtain⟨g,a⟩:=jz _ h;obtain⟨i,f,e⟩:=nW rk gs 1;obtain⟨d,c,b⟩:=nW rk gs 0;grind
theorem bK5{x:ac} (b:n<=100) (a:x.length<=10000):Zv (.str x) (.int n)=.ok (.str<|rep n x):=by
 have:=Dw a b;exact aF ⟨by rw[Ao];exact cO (by lia),by lia,by lia⟩
theorem bK6{x y:ac}(h:x.length+y.length<=1000000):iJ (.str x) (.str y)=.ok (.str<|x++y):=aF<|cO<|by lia
theorem w9(M:Va Fm rk c){p:Nat}(g:p<Fm.length){f t:ac}(h:Mc c f)(a:af Fm c (Sa Fm p f) t)(r:f.length<=1000)(d:t.length<=10000):sU [mD Fm rk c,me (f,t),.int p]=.ok (.bl<|Me Fm rk (Sa Fm p f) t):=by
 have l:=M.most;have s:(rep Fm.length t).length<=80000:=by
  rw[zR];exact Dw l d
 have b:=fG a.lt Fm.length;have o:Sa Fm p (f++rep Fm.length t)=Sa Fm p f:=by rw[Sa,eV];exact pW a.cl _
 have i:∀{k j x4:f8},e2 Zv (e2 Wa (aA 1)<|eI 1) (e1 (cL "Machine" "many")<|aA 0) [mD Fm rk c,me (f,t),k,j,x4]=.ok _:=aG (aG rfl rfl rfl) (lJ)<|bK5 (by lia) d
 obtain⟨q,e⟩:=X5 M _ _ _ 0 none (Cq M g h) b;obtain⟨n,m⟩:=a.mh M.one;refine bL rfl<|aH (bB<|aK (aN (gO)<|aN rfl<|aN (aG (aG rfl rfl rfl) i<|bK6<|by lia) rfl)<|Iy M g (iR h b)<|by rw[Ud];lia)<|aH (bB rfl)<|aH (dU (XO i<|by lia)<|by rwa [o])<|cD<|aG (aG rfl rfl<|pN<|by decide) rfl<|(oM _ _).trans ?_
 rw[<-m];unfold Me;rw[<-bPb (λz=>by
  have:=wO n;rw[z]at this;cases this),<-s8]
 congr 2;exact xo.mpr (by lia)
theorem bK7{ch:Nat}(f:c<=3)(e:97<=ch)(d:(ch:Int)<97+c):(mR (cut [97,98,99] none<|some (c:Int)) [ch] 0).isSome=true:=by
 have b:c=1\/c=2\/c=3:=by lia
 have a:ch=97\/ch=98\/ch=99:=by lia
 rcases b with rfl|rfl|rfl<;>rcases a with rfl|rfl|rfl<;>first|rfl|lia
theorem X2(M:Va Fm rk c)(a:f8){x:ac}(e:Mc c x)(i:x.length<=10000):yS [a,(c:Nat),D.str x,none]=.ok (.nx [a,(c:Nat),D.str x,none]):=by
 have d:=K0 (tg:=gb 3) (C:=yR) (E:=yQ) (st:=[a,c,D.str x,none]) (F:=λb=>D.str [b]) x λb f=>⟨_,rfl,aG rfl ((aF<|cO<|by decide)) (show R.ok _=_ by
  obtain⟨h,g⟩:=e b f;rw[bK7 M.c3 h g]),rfl⟩
 rw[ZG.mpr λ_ _=>rfl]at d
 refine mZ (Fs (xF (p:=true)<|aF rfl) λ_=>aG (by
  rw[Jv,gF (XO rfl<|by lia) (by rw[Rb];lia) d]
  show R.ok _=_;rw[Rb]) (aF<|cO<|by lia)<|(vv _ _).trans ?_) rfl
 rw[Jd rfl];rfl
theorem bPc(M:Va Fm rk c){f t:ac}(e:Mc c f)(d:Mc c t)(g:t≠[])(b:f.length<=10000)(a:t.length<=10000):pM [me (f,t),.int (c:Nat)]=.ok (.bl true):=by
 refine bL rfl<|fH (mZ (Fs (xF (p:=true)<|aF rfl) λ_=>aG rfl rfl<|(vv _ _).trans rfl) rfl)<|aH (dU rfl<|dO rfl (X2 M _ e b)<|dO rfl (X2 M _ d a) rfl)<|cD<|aG (aG rfl rfl rfl) rfl ?_
 simp_all
structure Lk(Fm:am)(rk:ac)(c p q:Nat)(x:Tl):Prop where
 lf:Mc c x.1
 l1:x.1.length<=100
 l2:x.2.length<=6000
 c1:af Fm c (Sa Fm p x.1) x.2
 c2:af Fm c (Sa Fm q x.1) x.2
 un:Me Fm rk (Sa Fm p x.1) x.2≠Me Fm rk (Sa Fm q x.1) x.2
def bPd(M:Va Fm rk c){p:Nat}(d:p<Fm.length)(b:q<Fm.length){x:Tl}(h:Lk Fm rk c p q x):uL [mD Fm rk c,.int p,.int q,me x]=.ok (.bl true):=by
 have a:=h.l1;have lt':=h.l2;have st:=show cL "Machine" "steps" (mD Fm rk c)=_ from gO
 refine bL rfl<|fH (mZ (Fs (xF<|aK (aN rfl<|aN (cK) rfl)<|bPc M h.lf h.c1.lt h.c1.ne (Xd a<|by decide)<|Xd lt'<|by decide) λ_=>(aG (aK rfl<|w9 M d h.lf h.c1 (Xd a<|by decide)<|Xd lt'<|by decide) (aK rfl<|w9 M b h.lf h.c2 (Xd a<|by decide)<|Xd lt'<|by decide)<|(i8 _ _).trans<|by rw[Uq.mpr h.un])) rfl)<|aH (bB<|aK (aN st<|aN rfl<|aN (aG rfl rfl rfl) rfl)<|Iy M d h.lf<|Xd a<|by decide)<|aH (bB<|aK (aN st<|aN rfl<|aN (aG rfl rfl rfl) rfl)<|Iy M b h.lf<|Xd a<|by decide)<|cD<|rq (p:=true) (aG (aK (aN st<|aN rfl<|aN (aG rfl rfl rfl) rfl)<|Iy M (Cq M d h.lf) h.c1.lt<|Xd lt'<|by decide) rfl<|(oM _ _).trans ?_) λ_=>aG (aK (aN st<|aN rfl<|aN (aG rfl rfl rfl) rfl)<|Iy M (Cq M b h.lf) h.c2.lt<|Xd lt'<|by decide) rfl<|(oM _ _).trans ?_
 .rw[h.c1.cl,Jd rfl]
 rw[h.c2.cl,Jd rfl]
end
section
variable{Fm:am}{rk:ac}{c n:Nat}{wd:Nat->Nat->Tl}
def bK8(M:Va Fm rk c)(b:Fm.length<=7){p:Nat}(l:p<Fm.length)(k:q<Fm.length)(h:¬ Pf Fm rk Fm rk c p q):∃x,dG [mD Fm rk c,mD Fm rk c,.int p,.int q]=.ok (me x)/\Lk Fm rk c p q x:=by
 obtain⟨d,e,j⟩:=bJm M M b l k ⟨rfl,.inr ⟨rfl,rfl⟩⟩;rcases j with ⟨_,m⟩|⟨x,rfl,r,a,o,n⟩
 .exact(h<|P5.mpr m).elim
 rw[go2]at a;obtain⟨i,g,f⟩:=VO.mp a;exact⟨x,(bL rfl<|cD<|aK rfl e),r,o,n,i,g,f⟩
def qg(a:Nat->Nat->Tl)(p q:Nat):D:=.tup [.int (p:Nat),.int (q:Nat),me<|a p q]
def yh(p q:Nat):D:=.tup [.int (p:Nat),.int (q:Nat)]
def mL(n:Nat)(G:Nat->Nat->D)(ps:ac):dL:=ps.flatMap λp=>(List.range' (p+1)<|n-(p+1)).map<|G p
theorem A9{st:za}{a b:Nat}(d:f st=.ok (.int (a:Nat)))(c:g st=.ok (.int (b:Nat)))(h:a<=1000)(e:b<=1000):Vy f g st=.ok (ia<|List.range' a<|b-a):=by
 rw[bJ0,d,c];show aP _ _=_;rw[aF ⟨Nx (by lia),Tu (by lia),Nx (by lia),Tu<|by lia⟩]
 unfold oJ ia;rw[List.range'_eq_map_range];simp_all
theorem Y5(G:Nat->Nat->D):∀ps:ac,(mL n G ps).length<=n*ps.length
 |[]=>Ef _
 |p::ps=>by
  have:=Y5 G ps;show ((List.range' (p+1) _).map (G p)++mL n G ps).length<=_;rw[Ud,Rb,Fw,Ed];lia
theorem B9{m:D}{p:Nat}(g:∀q,q<Fm.length->p<q->dG [mD Fm rk c,mD Fm rk c,.int p,.int (q:Nat)]=.ok (me<|wd p q)):∀(a:ac)(b:dL)(d:f8),(∀q∈a,q<Fm.length/\p<q)->b.length+a.length<=1000->
  ∃f,pb (gb 4) yO (ia a) [m,mD Fm rk c,some<|.o .l b,(p:Nat),d]=.ok (.nx [m,mD Fm rk c,some<|.o .l<|b++a.map (qg wd p),(p:Nat),f])
 |[],b,d,_,_=>⟨d,by rw[map_nil,Nh];rfl⟩
 |q::a,b,d,h,j=>by
  rw[Ed]at j;obtain⟨l,k⟩:=h q qb;obtain⟨f,e⟩:=B9 g a (b++[qg wd p q]) _ (λq i=>h q<|Mb _ i) (by rw[Ud,Ug];lia)
  refine⟨f,dO rfl (tR (xM<|aN rfl<|aN rfl<|aN (aK rfl<|g q l k) rfl) rfl<|by lia) ?_⟩
  rwa [gf,show b++qg wd p q::a.map _=b++[qg wd p q]++a.map _ by rw[Bh];rfl]
theorem t8(M:Va Fm rk c){m:D}(g:∀p q,q<Fm.length->p<q->dG [mD Fm rk c,mD Fm rk c,.int (p:Nat),.int (q:Nat)]=.ok (me<|wd p q)):∀(ps:ac)(a:dL)(d b:f8),(∀p∈ps,p<Fm.length)->a.length+10*ps.length<=1000->
  ∃l f,pb (gb 3) yP (ia ps) [m,mD Fm rk c,some<|.o .l a,d,b]=.ok (.nx [m,mD Fm rk c,some<|.o .l<|a++mL Fm.length (qg wd) ps,l,f])
 |[],a,d,b,_,_=>⟨d,b,by rw[show mL Fm.length _ []=[] from rfl,Nh];rfl⟩
 |p::ps,a,d,b,h,n=>by
  rw[Ed]at n;have s:=M.most;have t:=h p qb;obtain⟨f,e⟩:=B9 (λq r o=>g p q r o) (List.range' (p+1)<|Fm.length-(p+1)) a b (λq i=>by
   grind) (by rw[Fw];lia)
  obtain⟨k,j,u⟩:=t8 M g ps (a++(List.range' (p+1)<|Fm.length-(p+1)).map (qg wd p)) _ f (λq i=>h q<|Mb _ i) (by grind)
  refine⟨k,j,dO rfl (dU (A9 (aG rfl rfl rfl) (lJ) (by lia)<|by lia) e) ?_⟩
  rwa [show a++mL Fm.length _ _=a++(List.range' (p+1) _).map _++mL Fm.length _ ps by rw[Bh];rfl]
theorem bC1(M:Va Fm rk c){m:D}(d:iI [m]=.ok (mD Fm rk c))(a:∀p q,q<Fm.length->p<q->dG [mD Fm rk c,mD Fm rk c,.int (p:Nat),.int (q:Nat)]=.ok (me<|wd p q)):jD [m]=.ok (.lst<|mL Fm.length (qg wd)<|List.range Fm.length):=by
 have i:=M.most;obtain⟨h,g,e⟩:=t8 M a _ [] none none (λp b=>qf.mp b) (by grind)
 refine bL rfl ?_
 show sE nR _ [m,none,none,none,none]=_;have f:nR [m,none,none,none,none]=.ok _:=aH (bB<|aK rfl d)<|aH (iC<|fU rfl)<|aH (dU (yW (lJ)<|by lia) e) rfl
 unfold sE;rw[f];rfl
theorem Y2(M:Va Fm rk c){l k j i g f:f8}:∀(ps:ac)(a:dL)(b:f8),(∀p∈ps,p<Fm.length)->a.length+10*ps.length<=1000->
  ∃d,pb (gb 6) Y4 (ia ps) [l,k,j,mD Fm rk c,i,some<|.o .l a,b,g,f,none]=.ok (.nx [l,k,j,mD Fm rk c,i,some<|.o .l<|a++mL Fm.length yh ps,d,g,f,none])
 |[],a,b,_,_=>⟨b,by rw[show mL Fm.length yh []=[] from rfl,Nh];rfl⟩
 |p::ps,a,b,h,n=>by
  rw[Ed]at n;have o:=M.most;have r:=h p qb;obtain⟨d,e⟩:=Y2 M ps (a++(List.range' (p+1)<|Fm.length-(p+1)).map (yh p)) _ (λq m=>h q<|Mb _ m) (by rw[Ud,Rb,Fw];lia)
  refine⟨d,dO rfl (sy (xJ _ (yh p) (A9 (aG rfl rfl rfl) (lJ) (by lia)<|by lia) (by rw[Fw];lia) λq _=>xM<|aN rfl<|aN rfl rfl) rfl<|cO<|by rw[Rb,Fw];lia) ?_⟩
  rwa [show a++mL Fm.length yh _=a++(List.range' (p+1) _).map (yh p)++mL Fm.length yh ps by rw[Bh];rfl]
theorem Z5{G:Nat->Nat->D}{ps:ac} (h:d∈mL n G ps):∃p∈ps,∃q,p<q/\q<n/\d=G p q:=by
 obtain⟨p,a,h⟩:=pz.mp h;grind
theorem d6(f:D->D)(G:Nat->Nat->D):∀ps:ac,(mL n G ps).map f=mL n (λp q=>f<|G p q) ps
 |[]=>rfl
 |p::ps=>by
  show ((List.range' (p+1) _).map (G p)++mL n G ps).map f=(List.range' (p+1) _).map _++mL n _ ps;rw[Hg,d6 f G ps,Dg];rfl
theorem L0:∀{xs:dL},(∀d∈xs,plain d=true/\Ff d<=2/\Oc d d=true)->dJ xs=true/\jV xs<=2/\oH xs xs=true
 |[],_=>⟨rfl,by decide,rfl⟩
 |d::xs,h=>by
  obtain⟨i,g,c⟩:=h d qb;obtain⟨f,e,b⟩:=L0 λd a=>h d<|Mb _ a
  refine⟨by simp_all,by rw[rL];lia,?_⟩
  unfold oH;rw[c,b];rfl
theorem i6{xs:dL}(h:∀d∈xs,plain d=true/\Ff d<=2/\Oc d d=true):Ph (.lst xs) (.lst xs)=.ok (.bl false)/\Ad (.lst xs) (.lst xs)=.ok (.bl true):=by
 obtain⟨e,g,c⟩:=L0 h;have f:Ff (.lst xs)<=3:=by unfold Ff;lia
 have b:Oc (.lst xs) (.lst xs)=true:=c;have a:=e;rw[DO,bOh,aF ⟨by lia,a,a⟩,aF ⟨by lia,a,a⟩,b]
 exact⟨rfl,rfl⟩
def bK9(x:Tl):plain (me x)=true/\Ff (me x)<=1/\Oc (me x) (me x)=true:=by
 refine⟨by simp[me,plain,dJ],by simp[me,jV],by simp[me]⟩
def bKa(p q:Nat):plain (qg wd p q)=true/\Ff (qg wd p q)<=2/\Oc (qg wd p q) (qg wd p q)=true:=by
 refine⟨by simp[qg,me,dJ],by simp[qg,me,jV],by simp[qg,me,Oc,oH]⟩
def bKb(p q:Nat):plain (yh p q)=true/\Ff (yh p q)<=2/\Oc (yh p q) (yh p q)=true:=by
 refine⟨by simp[yh,dJ],by simp[yh,jV],by simp[yh,Oc]⟩
end
def bC2{a b c:Bd}{st:za}:bA (bA a b) c st=bA a (bA b c) st:=by
 show io (io (a st) b) c=io (a st) λs=>io (b s) c
 cases h:a st with
 |ok x=>cases x<;>rfl
 |exc e=>rfl
 |bad=>rfl
inductive Fits:List Nat->List Nat->Prop
 |nil:Fits [] []
 |cons {x m:Nat} {xs ms:ac}:x<m->Fits xs ms->Fits (x::xs) (m::ms)
theorem Fits.len:∀{xs a:ac},Fits xs a->xs.length=a.length
 |_,_,.nil=>rfl
 |_,_,.cons _ h=>congrArg (· + 1) h.len
theorem j6{k:Nat}(h:k<ns.length):yd (ns.map D.int) (k:Int)=some (.int<|ns.getD k 0):=by
 rw[Qb (by simp_all)]
 simp[List.getElem?_eq_getElem h]
def bKc(S:am)(r:ac):Wb (S++[r])=Wb S++[.lst<|ia r]:=by unfold Wb;simp
theorem m6{E:Ex}{st:za}{tg:Tg}{n:Nat}:∀r:ac,(∀g∈r,∃s1 v,tg (.int (g:Nat)) st=.ok s1/\E s1=.ok (.int (v:Nat))/\v<n)->∃a,jL tg cV E st (ia r)=.ok (ia a)/\a.length=r.length/\∀z∈a,z<n
 |[],_=>⟨[],rfl,rfl,λ_ z=>(nomatch z)⟩
 |g::r,h=>by
  obtain⟨s1,v,f,d,i⟩:=h g qb;obtain⟨a,e,l,b⟩:=m6 r λg c=>h g<|Mb _ c
  refine⟨v::a,?_,by simp_all,λz hz=>?_⟩
  .show jL tg cV E st (.int g::ia r)=.ok (.int v::ia a);rw[jO,f];simp[d,e]
  rcases qc.mp hz with q|q
  .rwa [q]
  exact b z q
def HE{i j:Int}(h : -18446744073709551616<i/\i<18446744073709551616):uC (.int i) (.int j)=.ok (.int<|i*j):=aF<|.inl h
def IE{i j:Int}(h : -18446744073709551616<j/\j<18446744073709551616):uC (.int i) (.int j)=.ok (.int<|i*j):=aF<|.inr h
theorem Lq{i j:Int}(h:0<j):∃v,mJ (.int i) (.int j)=.ok (.int v)/\0<=v/\v<j:=⟨i%j,pN h,Int.emod_nonneg _ (by lia),Int.emod_lt_of_pos _ h⟩
theorem EM(a:lv)(k:Nat)(m:k<=100000):∃v:Int,0<=v/\oV [.lst<|a.map D.int,.int k]=.ok (.int v):=by
 have c:∀x,e1 iD (aA 0) [D.lst<|a.map D.int,k,x]=.ok (.int a.length):=λx=>by
  show R.ok (D.int (((a.map D.int).length):Int))=_;rw[Rb]
 by_cases h:k<a.length
 .obtain⟨v,e,b,_⟩:=Lq (j:=1000000000000000000000000000000) (by decide)
  refine⟨v,b,bL rfl<|pq<|yV (aG rfl (c none)<|by show R.ok (D.bl<|decide ((k:Int)<a.length))=_;rw[bw h])<|cD<|aG (aG rfl rfl<|dR<|j6 h) (aG rfl rfl<|aF<|by decide) e⟩
 have d:∀r:Int,∃v:Int,0<=v/\e2 mJ (e2 uC (e2 iJ (e2 iJ (e2 uC (aA 2)<|eI 48271)<|e2 uC (eI 7919)<|aA 1)<|eI 11)<|e2 iJ (aA 1)<|eI 2) (eI 2147483647) [D.lst<|a.map D.int,k,r]=.ok (.int v):=λr=>by
  obtain⟨v,e,b,_⟩:=Lq (j:=2147483647) (by decide)
  exact⟨v,b,aG (aG (aG (aG (aG rfl rfl<|IE<|by decide) (aG rfl rfl<|HE<|by decide) rfl) rfl rfl) (aG rfl rfl rfl)<|IE<|by lia) rfl e⟩
 have f:e2 qo (aA 1) (e1 iD<|aA 0) [D.lst<|a.map D.int,k,none]=.ok (.bl false):=aG rfl (c none) (by show R.ok (D.bl<|decide ((k:Int)<a.length))=_;rw[DG h])
 by_cases g:a.length=0
 .obtain⟨v,b,e⟩:=d 0;refine⟨v,b,bL rfl<|aH (mZ f rfl)<|aH (bB rfl)<|aH (mZ (aG (c _) rfl ?_) rfl)<|cD e⟩;rw[g];rfl
 have i:k%a.length<a.length:=mod_lt _<|Nat.pos_of_ne_zero g;obtain⟨r,l,_,_⟩:=Lq (j:=999983) (by decide)
 obtain⟨v,b,j⟩:=d r;refine⟨v,b,bL rfl<|aH (mZ f rfl)<|aH (bB rfl)<|aH (yV (aG (c _) rfl ?_)<|bB<|aG (aG rfl (aG rfl (c _)<|pN<|by lia)<|dR<|j6 i) rfl l)<|cD j⟩
 show R.ok (D.bl<|decide ((0:Int)<a.length))=_;rw[Jd (by lia)]
theorem zD(c k:Int){m:Int}(h:0<m):∃v,jM [.int c,.int k,.int m]=.ok (.int v)/\0<=v/\v<m:=by
 obtain⟨a,n,w,u⟩:=Lq (j:=2147483629) (by decide)
 obtain⟨x,l,t,s⟩:=Lq (j:=2147483647) (by decide)
 obtain⟨b,g,r,q⟩:=Lq (j:=2147483629) (by decide)
 obtain⟨d,f,p,o⟩:=Lq (j:=2147483587) (by decide)
 obtain⟨v,e,j,i⟩:=Lq h;refine⟨v,bL rfl<|aH (bB<|aG (aG rfl (aG rfl rfl<|HE<|by decide) rfl) rfl n)<|aH (bB<|aG (aG (aG (aG rfl rfl<|HE<|by lia) rfl l) rfl<|IE<|by decide) rfl g)<|cD<|aG (aG (aG (aG rfl rfl<|HE<|by lia) rfl f) rfl<|zQ<|by decide) rfl e,j,i⟩
theorem M0{j:f8}:∀(b:ac)(c:Int)(a:ac)(d:f8),(∀m∈b,1<=m/\m<=1000)->a.length+b.length<=1000->∃i g f,pb (gb 3) YW (ia b) [c,j,some<|.o .l<|ia a,d]=.ok (.nx [i,j,some<|.o .l<|ia<|a++g,f])/\Fits g b
 |[],c,a,d,_,_=>⟨c,[],d,by rw[Nh];rfl,.nil⟩
 |m::b,c,a,d,h,l=>by
  obtain⟨r,q⟩:=h m qb;rw[Ed]at l;have o:c%m=((c%m).toNat):=by have:=Int.emod_nonneg c (show (m:Int)≠0 by lia);lia
  have p:(c%m).toNat<m:=by have:=Int.emod_lt_of_pos c (show (0:Int)<m by lia);lia
  obtain⟨i,g,f,e,n⟩:=M0 b (c/m) (a++[(c%m).toNat]) _ (λm k=>h m<|Mb _ k) (by rw[Ud,Ug];lia)
  rw[Bh]at e;refine⟨i,_,f,dO rfl (aH (tR (aG rfl rfl<|pN<|by lia) rfl<|by rw[bI];lia)<|bB<|aG rfl rfl<|zQ<|by lia) ?_,.cons p n⟩
  rwa [lK,<-o]at e
theorem LN(c:Int)(b:ac)(h:∀m∈b,1<=m/\m<=1000)(g:b.length<=1000):∃a,iU [.int c,.lst<|ia b]=.ok (.lst<|ia a)/\Fits a b:=by
 obtain⟨i,a,f,e,d⟩:=M0 b c [] none h (by grind)
 exact⟨a,bL rfl<|aH (iC<|fU rfl)<|aH (dU rfl e)<|cD rfl,d⟩
theorem AD{tg:Tg}{E:Ex}{st:za}:∀(f:ac)(j:Nat),(∀i m:Nat,f[i]?=some m->∃s1 v,tg (.int ((j+i:Nat):Int)) st=.ok s1/\E s1=.ok (.int v)/\0<=v/\v<(m:Int))->∃d,jL tg cV E st (ia<|List.range' j f.length)=.ok (ia d)/\Fits d f
 |[],_,_=>⟨[],rfl,.nil⟩
 |m::f,j,h=>by
  obtain⟨s1,v,p,o,g,q⟩:=h 0 m rfl;obtain⟨d,e,l⟩:=AD f (j+1) λi m k=>by
   obtain⟨s1,v,a,b,c⟩:=h (i+1) m (by simpa using k)
   exact⟨s1,v,by rwa [show j+1+i=j+(i+1) by lia],b,c⟩
  refine⟨v.toNat::d,?_,.cons (by lia) l⟩
  show jL tg cV E st (.int j::ia _)=_;rw[jO,show tg (.int j) st=.ok s1 from p]
  have n:ia (v.toNat::d)=.int v::ia d:=by
   show D.int v.toNat::ia d=_;rw[ER g]
  rw[n];simp[o,e]
def XD{i x:Nat}(h:l[i]?=some x):yd (ia l) (i:Int)=some (.int (x:Nat)):=by
 have a:=(Ee.mp h).1;rw[Qb (by rwa [bI]),<-Kc]
 unfold ia;rw[rh,h];rfl
def n6(k:Nat)(d:D):rep k [d]=List.replicate k d:=by
 unfold rep
 induction k with
 |zero=>rfl
 |succ k a=>simp
section
variable{S:am}{rk:ac}{c n:Nat}
theorem Z2{g f d:f8}:∀(l:ac)(b:Nat)(a:f8),(∀r∈l,r<=1000000)->∃c,pb (gb 4) EX (ia l) [g,f,d,b,a]=.ok (.nx [g,f,d,gx l b,c])
 |[],b,a,_=>⟨a,rfl⟩
 |r::l,b,a,h=>by
  obtain⟨c,e⟩:=Z2 l _ _ λr i=>h r<|Mb _ i
  exact⟨c,dO rfl (bB<|aG rfl (aG rfl rfl<|JO<|h r qb)<|Sx _ _) e⟩
theorem XY(M:Va S rk c){j:f8}:∀(T:am) (F:ac) (d b a:f8),(∀r∈T,r∈S)->F.length+T.length<=100->∃i g f,pb (gb 2) FX (Wb T) [j,some<|.o .l<|ia F,d,b,a]=.ok (.nx [j,some<|.o .l<|ia<|F++T.map jY,i,g,f])
 |[],F,d,b,a,_,_=>⟨d,b,a,by rw[map_nil,Nh];rfl⟩
 |r::T,F,d,b,a,h,n=>by
  rw[Ed]at n;have p:=M.most;obtain⟨k,o⟩:=Z2 r 0 a λx l=>by have:=(M.row r<|h r qb).2 x l;lia
  obtain⟨i,g,f,e⟩:=XY M T (F++[jY r]) _ _ k (λr m=>h r<|Mb _ m) (by grind)
  rw[Bh,lK]at e;exact⟨i,g,f,dO rfl (aH (bB rfl)<|aH (dU rfl o)<|tR rfl rfl<|by rw[bI];lia) e⟩
def Lj(S:am):ac:=S.map jY
theorem bC3(M:Va S rk c):uG [.lst<|Wb S]=.ok (.lst<|ia<|Lj S):=by
 have f:=M.most;obtain⟨d,b,a,e⟩:=XY M S [] none none none (λ_ h=>h) (by grind)
 exact bL rfl<|aH (iC<|fU rfl)<|aH (dU rfl e)<|cD rfl
theorem bT2{k:Nat}(a:k<S.length):(Lj S)[k]?=some (jY<|S.getD k []):=by
 unfold Lj;simp_all
def v8:(Lj S).length=S.length:=Rb _
def Bl(S:am)(ins:Nat)(F:Nat)(a:ac)(w:Nat):Nat:=a.foldl (λw k=>if F.testBit k=true then w|||(jY (S.getD k [])&&&ins) else w) w
theorem YO{ins:Nat}(g:Nat):∀(b:ac)(w:Nat),(Bl S ins F b w).testBit g=true↔w.testBit g=true\/∃k∈b,F.testBit k=true/\g∈S.getD k []/\ins.testBit g=true
 |[],w=>⟨.inl,λz=>z.elim id λ⟨_,h,_⟩=>nomatch h⟩
 |k::b,w=>by
  show (Bl S ins F b _).testBit g=true↔_;rw[(YO g b<|if F.testBit k=true then w|||(jY _&&&ins) else w)]
  constructor
  .rintro(h|⟨j,c,h⟩)
   .by_cases a:F.testBit k=true
    .rw[jb a,Lw,Mw,RH,Wk,jZ,qh]at h;rcases h with h|h
     .exact .inl h
     exact .inr ⟨k,qb,a,h.1,h.2⟩
    rw[Pa a]at h;exact .inl h
   exact .inr ⟨j,Mb _ c,h⟩
  rintro(h|⟨j,c,i,f,d⟩)
  .refine .inl ?_
   by_cases a:F.testBit k=true
   .rw[jb a,Lw,h];rfl
   rwa [Pa a]
  rcases qc.mp c with e|c
  .subst e;refine .inl ?_
   rw[jb i,Lw,RH,jZ,Jd f,d,Mw];exact .inr rfl
  exact .inr ⟨j,c,i,f,d⟩
abbrev cst(S:am)(ins b F:Nat)(m:Bool)(c a:f8):za:=[some<|.v<|.lst<|ia<|Lj S,some<|.v<|.int ins,some<|.v<|.int b,some<|.v<|.int F,some<|.v<|.bl m,c,a]
theorem HM{ins b:Nat}{m:Bool}:∀(a:ac)(w:Nat)(c:f8),(∀k∈a,k<S.length)->∃f,pb (gb 6) GX (ia a) (cst S ins b F m w c)=.ok (.nx<|cst S ins b F m (Bl S ins F a w) f)
 |[],w,c,_=>⟨c,rfl⟩
 |k::a,w,c,h=>by
  obtain⟨f,e⟩:=HM a (if F.testBit k=true then w|||(jY _&&&ins) else w) _ λk d=>h k<|Mb _ d
  have t:(e2 Ad (e2 Ei (e2 Nk (aA 3)<|aA 6) _)<|eC _) (cst S ins b F m w _)=.ok (.bl<|F.testBit k):=X9 rfl rfl;refine⟨f,dO rfl ?_ e⟩;cases d:F.testBit k
  .exact mZ (t.trans<|by rw[d]) rfl
  exact yV (t.trans<|by rw[d])<|bB<|aG rfl (aG (aG rfl rfl<|dR<|XD<|bT2<|h k qb) rfl<|iN _ _)<|Sx _ _
def ZI(S:am)(c ins b g:Nat):Prop:=∃s,b.testBit s=true/\ins.testBit s=true/\Hc S c (ng ins) s g
def bKd(M:Va S rk c){ins a g:Nat}{s:Nat}(h:a<S.length)(b:Hc S c (ng ins) s a)(f:g∈S.getD a [])(e:ins.testBit g=true):Hc S c (ng ins) s g:=by
 obtain⟨l,d,rfl⟩:=(pQ M.w h).mp f;exact .on b d e
theorem aWl(M:Va S rk c){ins b:Nat}(hb:b<2^S.length):∀(k f F:Nat)(B o:f8),S.length<=(aR F).length+k->k+2<=f->F<2^S.length->(∀g,F.testBit g=true->ZI S c ins b g)->(∀g,b.testBit g=true->ins.testBit g=true->F.testBit g=true)->
  ∃A P j,jA HX vH f (cst S ins b F true B o)=.ok (.nx<|cst S ins b A false P j)/\A < 2^S.length/\∀g,A.testBit g=true↔ZI S c ins b g:=by
 have n8:=M.most;intro k
 induction k with
 |zero=>
  intro f F B o w Y t y C;obtain⟨f,rfl⟩:∃g,f=g+2:=⟨f-2,by lia⟩
  obtain⟨j,e⟩:=HM (List.range S.length) F o λk w=>qf.mp w
  have all:∀g,g<S.length->F.testBit g=true:=λg d=>aY.mp (by
   refine Uc λJ=>?_
   have:=(lj.mpr ⟨J,cU F⟩).length_le_of_subset λx V=>by
    rcases qc.mp V with q|q
    .rw[q];exact qf.mpr d
    exact qf.mpr<|bC t q
   rw[Ed,nk]at this;lia)
  have same:Bl S ins F (List.range S.length) F=F:=xw λg=>by
   have:=YO (S:=S) (ins:=ins) (F:=F) g (List.range S.length) F;cases d:F.testBit g with
   |true=>exact this.mpr<|.inl d
   |false=>
    cases H:(Bl S ins F (List.range S.length) F).testBit g with
    |false=>rfl
    |true=>
     rcases this.mp H with q|⟨a,h,_,n,_⟩
     .rw[d]at q;cases q
     have:=all g (by
      have h:=qf.mp h;rw[bf,Kc h]at n;exact(M.row _<|Vg h).2 g n)
     rw[d]at this;cases this
  rw[same]at e;refine⟨F,F,j,pO rfl (aH (bB rfl)<|aH (dU (yW (by show R.ok (D.int<|(ia<|Lj S).length)=_;rw[bI,v8])<|by lia) e)<|aH (bB<|aG rfl rfl<|(vv _ _).trans<|by rw[Jd rfl];rfl)<|bB rfl)<|pA rfl,t,λg=>⟨y g,λd=>?_⟩⟩
  obtain⟨s,s1,u,p⟩:=d;exact all g<|xH M.w ((λg d=>bC t<|aY.mpr d) s<|C s s1 u) p
 |succ k T=>
  intro f F B o w Y t y C;obtain⟨f,rfl⟩:∃g,f=g+1:=⟨f-1,by lia⟩
  have lt:∀g,F.testBit g=true->g<S.length:=λg d=>bC t<|aY.mpr d
  obtain⟨j,e⟩:=HM (List.range S.length) F o λk w=>qf.mp w
  have E:=λg=>YO (S:=S) (ins:=ins) (F:=F) g (List.range S.length) F
  have i:∀m,(!decide (((Bl S ins F (List.range S.length) F):Int)=F))=m->vH (cst S ins b F true B o)=.ok (.nx<|cst S ins b (Bl S ins F (List.range S.length) F) m (Bl S ins F (List.range S.length) F) j):=λm W=>by
   refine aH (bB rfl)<|aH (dU (yW (by show R.ok (D.int<|(ia<|Lj S).length)=_;rw[bI,v8])<|by lia) e)<|aH (bB<|aG rfl rfl<|(vv _ _).trans<|by rw[W])<|bB rfl
  by_cases same:Bl S ins F (List.range S.length) F=F
  .have K:=i false (by rw[same,Jd rfl];rfl)
   rw[same]at K;obtain⟨f,rfl⟩:∃g,f=g+1:=⟨f-1,by lia⟩
   refine⟨F,_,j,pO rfl K<|pA rfl,t,λg=>⟨y g,λd=>?_⟩⟩
   obtain⟨s,s1,u,p⟩:=d
   induction p with
   |here=>exact C s s1 u
   |on p X h G=>
    rename_i r l;have L:=G;have v:=lt r L;rw[<-same];exact(E _).mpr (.inr ⟨r,qf.mpr v,L,(pQ M.w v).mpr ⟨l,X,rfl⟩,h⟩)
  have sub:=λg d=>(E g).mpr<|.inl d
  have I:(aR F).length<(aR<|Bl S ins F (List.range S.length) F).length:=by
   exact Uc λJ=>same<|b8 (λg d=>sub_len (cU F) (λg d=>aY.mpr<|sub g<|aY.mp d) (Nat.le_antisymm ((cU F).length_le_of_subset λg d=>aY.mpr<|sub g<|aY.mp d)<|by lia) d) λg d=>aY.mpr<|sub g<|aY.mp d
  obtain⟨A,O,N,e3,Q,U⟩:=T f (Bl S ins F (List.range S.length) F) (Bl S ins F (List.range S.length) F) j (by lia) (by lia) (TQ _ λg d=>by
   cases H:(Bl S ins F (List.range S.length) F).testBit g with
   |false=>rfl
   |true=>
    rcases (E g).mp H with q|⟨a,h,_,n,_⟩
    .have:=lt g q;lia
    have h:=qf.mp h;rw[bf,Kc h]at n;have:=(M.row _<|Vg h).2 g n;lia) (λg d=>by
   rcases (E g).mp d with q|⟨a,h,h3,n,Z⟩
   .exact y g q
   obtain⟨s,s1,u,p⟩:=y a h3;exact⟨s,s1,u,bKd M (qf.mp h) p n Z⟩) (λg g1 g2=>sub g<|C g g1 g2)
  exact⟨A,O,N,pO rfl (i true<|by rw[pe λz=>same (by lia)];rfl) e3,Q,U⟩
theorem bG9(M:Va S rk c){ins b:Nat}(d:b<2^S.length):∃F:Nat,lQ [.lst<|ia<|Lj S,.int ins,.int b]=.ok (.int F)/\F<2^S.length/\∀g,F.testBit g=true↔ZI S c ins b g:=by
 have j:=M.most;obtain⟨F,h,f,e,l,i⟩:=aWl M d S.length 100000 _ none none (by lia) (by lia) (LR Nat.and_le_left d) (λg a=>by
  rw[RH,Wk]at a;exact⟨g,a.1,a.2,.here⟩) (λg m k=>by grind)
 exact⟨F,bL rfl<|aH (bB<|aG rfl rfl<|iN _ _)<|aH (bB rfl)<|aH e<|cD rfl,l,i⟩
end
theorem bGa{k g w:Nat}(e:k<n)(d:g<n):∃v:Nat,wH [.int k,.int g,.int w,.int n]=.ok (.int v)/\v<n:=by
 by_cases f:w=1
 .refine⟨max k g,bL rfl<|pq<|yV (aG rfl rfl<|(oM _ _).trans ?_)<|cD<|aG rfl rfl (by
  show R.ok _=_;congr 2;split<;>lia),by lia⟩
  rw[Jd (by lia)]
 have b:e2 Ad (aA 2) (eI 1) [k,g,w,n]=.ok _:=aG rfl rfl<|(oM _ _).trans<|by rw[pe (by lia)]
 have a:vA (e2 Ad (aA 2)<|eI 2) (e2 qo (e2 xZ (aA 1)<|eI 2)<|e2 xZ (aA 0)<|eI 2) [k,g,w,n]=.ok _:=rq (aG rfl rfl<|oM _ _) λ_=>aG (aG rfl rfl<|zQ<|by decide) (aG rfl rfl<|zQ<|by decide) rfl
 cases c:decide ((w:Int)=2)&&decide ((g:Int)/2<k/2)
 .exact⟨g,bL rfl<|aH (mZ b rfl)<|aH (mZ (a.trans<|by rw[c]) rfl)<|cD rfl,d⟩
 refine⟨min (n-1)<|k-k%2+g%2,bL rfl<|aH (mZ b rfl)<|pq<|yV (a.trans<|by rw[c])<|cD<|aG (aG rfl rfl rfl) (aG (aG rfl (aG rfl rfl<|pN<|by decide) rfl) (aG rfl rfl<|pN<|by decide) rfl) ?_,by lia⟩
 show R.ok _=_;congr 2;split<;>lia
abbrev dst(b:lv)(mo:Nat)(f:Int)(ds:ac)(n w:Nat)(S:dL)(a d c:f8):za:=[some<|.v<|.lst<|b.map D.int,some<|.v<|.int 0,some<|.v<|.int mo,some<|.v<|.int f,some<|.v<|.lst<|ia [mo,3,5],some<|.v<|.lst<|ia ds,some<|.v<|.int n,some<|.v<|.int w,some<|.o .l S,a,d,c,none,none]
section
variable{f:Int}{mo w d1 d2:Nat}
def YD{st:za}{h:Ex}{d:Nat}(he:h st=.ok (.int (d:Nat))):e2 iJ (eI 1) h st=.ok (.int ((1+d:Nat):Int)):=aG rfl he rfl
theorem aWm(U:1<=n/\n<=6)(V:d1<3)(S:am)(W:S.length<=100)(k:Nat)(I:k<n)(P O:f8) :
  ∃r F E,vG (dst ns mo f [d0,d1,d2] n w (Wb S) k P O)=.ok (.nx<|dst ns mo f [d0,d1,d2] n w (Wb<|S++[r]) k F E)/\r.length=1+d1/\∀z∈r,z<n:=by
 obtain⟨d,X,N⟩:=EM ns (0+1+k) (by lia)
 obtain⟨b,M,K⟩:=LN d (List.replicate (1+d1) n) (λm c=>by rw[(oz.mp c).2];lia) (by rw[wo];lia)
 have L:∃a,(Pd (e2 Ad (e2 mJ (aA 3)<|eI 2)<|eI 0) (cG 11<|cJ [12] (gb 12) (yC<|e2 iJ (eI 1)<|e2 Wa (aA 5)<|eI 1) cV vD) dF) (dst ns mo f [d0,d1,d2] n w (Wb S) k d<|D.lst<|ia b)=.ok (.nx<|dst ns mo f [d0,d1,d2] n w (Wb S) k d<|D.lst<|ia a)/\Fits a (List.replicate (1+d1) n):=by
  have t:(e2 Ad (e2 mJ (aA 3)<|eI 2)<|eI 0) (dst ns mo f [d0,d1,d2] n w (Wb S) k d<|D.lst<|ia b)=.ok (.bl<|decide (f%2=0)):=aG (aG rfl rfl<|pN<|by decide) rfl<|oM _ _
  cases A:decide (f%2=0)
  .exact⟨b,mZ (t.trans<|by rw[A]) rfl,K⟩
  obtain⟨a,e,l⟩:=AD (tg:=gb 12) (E:=vD) (st:=dst ns mo f [d0,d1,d2] n w (Wb S) k d<|D.lst<|ia b) (List.replicate (1+d1) n) 0 λi m c=>by
   obtain⟨v,e,C,B⟩:=zD d (11+((0+i):Int)) (m:=n) (by lia)
   have:=(oz.mp<|jg c).2;subst this;exact⟨_,v,rfl,aK (aN rfl<|aN (aG rfl rfl rfl)<|aN rfl rfl) e,C,B⟩
  refine⟨a,yV (t.trans<|by rw[A])<|bB<|gF (yW (YD<|aG rfl rfl<|dR rfl)<|by lia) (by simp;lia) ?_,l⟩
  rwa [wo,<-iz]at e
 obtain⟨a,x,l⟩:=L;have q:a.length=1+d1/\∀z∈a,z<n:=by
  refine⟨by rw[l.len,wo],?_⟩
  have s:∀{xs y:ac},Fits xs y->(∀m∈y,m=n)->∀z∈xs,z<n:=λh=>by
   induction h with
   |nil=>exact λ_ _ h=>nomatch h
   |cons T _ G=>
    intro c z p;rcases qc.mp p with rfl|p
    .rwa [<-c _ qb]
    exact G (λm h=>c m<|Mb _ h) z p
  exact s l λm c=>(oz.mp c).2
 obtain⟨j,u,o,Q⟩:∃j,jL (gb 13) cV DX (dst ns mo f [d0,d1,d2] n w (Wb S) k d<|D.lst<|ia a) (ia a)=.ok (ia j)/\j.length=a.length/\∀z∈j,z<n:=m6 a λg J=>by
  obtain⟨v,e,H⟩:=bGa I<|q.2 g J;exact⟨_,v,rfl,aK rfl e,H⟩
 refine⟨j,d,D.lst<|ia a,aH (bB<|aK (aN rfl<|aN (aG (aG rfl rfl rfl) rfl rfl) rfl) N)<|aH (bB<|aK (aN rfl<|aN (by
  show (R.ok [D.int n]).bind _=_;show aP _ (R.ok<|D.lst<|rep ((1+d1:Nat):Int).toNat [.int n])=_;rw[aF ⟨cO (by simp),cO (by simp;lia),by lia,by lia⟩,Ao,n6]
  unfold ia;rw[List.map_replicate]) rfl) M)<|aH x ?_,by rw[o,q.1],Q⟩
 rw[bKc];exact tR (gF (kY rfl) (by rw[bI,q.1];lia) u) rfl (by rw[nU];lia)
theorem YY(o:1<=n/\n<=6)(q:d1<3):∀(a:ac) (S:am) (g c b:f8),(∀x∈a,x<n)->S.length+a.length<=100->(∀r∈S,r.length=1+d1/\∀z∈r,z<n)->
  ∃d u l k,pb (gb 9) vG (ia a) (dst ns mo f [d0,d1,d2] n w (Wb S) g c b)=.ok (.nx<|dst ns mo f [d0,d1,d2] n w (Wb d) u l k)/\d.length=S.length+a.length/\∀r∈d,r.length=1+d1/\∀z∈r,z<n
 |[],S,g,c,b,_,_,m=>⟨S,g,c,b,rfl,rfl,m⟩
 |x::a,S,g,c,b,p,A,m=>by
  rw[Ed]at A;obtain⟨r,l,k,t,F,E⟩:=aWm o q S (by lia) x (p x qb) c b
  obtain⟨d,s,j,i,e,C,B⟩:=YY o q a (S++[r]) _ l k (λx y=>p x<|Mb _ y) (by rw[Ud,Ug];lia) (λv D=>by
   rcases tf.mp D with h|h
   .exact m v h
   simp_all)
  exact⟨d,s,j,i,dO rfl t e,by rw[C,Ud,Ug,Ed];lia,B⟩
theorem aWn(b:lv){mo:Nat}(A:1<=mo/\mo<=6):∃S c,uF [.lst<|b.map D.int,.int 0,.int (mo:Nat)]=.ok (.lst<|Wb S)/\S.length<=mo/\∀rk:ac,rk.length=S.length->Va S rk c:=by
 obtain⟨f,O,G⟩:=EM b 0 (by lia)
 obtain⟨ds,H,a⟩:∃ds,(bA _<|Pd _ (cG 5<|aO iU<|aC (e2 xZ (aA 3)<|eI 2)<|aC (aA 4) aQ) dF) [D.lst<|b.map D.int,some<|.v<|.int 0,mo,f,D.lst<|ia [mo,3,5],none,none,none,none,none,none,none,none,none]=.ok _/\Fits ds [mo,3,5]:=by
  obtain⟨d,e,C⟩:=AD (tg:=gb 9) (E:=vC) (st:=[D.lst<|b.map D.int,some<|.v<|.int 0,mo,f,D.lst<|ia [mo,3,5],none,none,none,none,none,none,none,none,none]) [mo,3,5] 0 λi m j=>by
   have P:0<m:=by
    have:=jg j;simp at this;lia
   obtain⟨v,e,s,q⟩:=zD f (1+((0+i))) (m:=m) (by lia)
   exact⟨_,v,rfl,aK (aN rfl<|aN (aG rfl rfl rfl)<|aN (aG rfl rfl<|dR<|XD<|by rwa [Kw]) rfl) e,s,q⟩
  obtain⟨u,I,k⟩:=LN (f/2) [mo,3,5] (λm j=>by simp at j;lia) (by simp)
  have t:(e2 Ad (e2 mJ (aA 3)<|eI 2)<|eI 1) [D.lst<|b.map D.int,some<|.v<|.int 0,mo,f,D.lst<|ia [mo,3,5],D.lst<|ia d,none,none,none,none,none,none,none,none]=.ok (.bl<|decide (f%2=1)):=aG (aG rfl rfl<|pN<|by decide) rfl<|oM _ _
  have l:(cG 5<|cJ [9] (gb 9) (yC<|eI 3) cV vC) [D.lst<|b.map D.int,some<|.v<|.int 0,mo,f,D.lst<|ia [mo,3,5],none,none,none,none,none,none,none,none,none]=.ok _:=bB<|gF (yW rfl<|by lia) (by simp) e
  cases o:decide (f%2=1)
  .exact⟨d,aH l<|mZ (t.trans<|by rw[o]) rfl,C⟩
  exact⟨u,aH l<|yV (t.trans<|by rw[o])<|bB<|aK (aN (aG rfl rfl<|zQ<|by decide) rfl) I,k⟩
 cases a with|cons N a=>cases a with|cons F a=>cases a with|cons E a=>
 cases a;rename_i J d1 d2;obtain⟨w,z⟩:∃w,[1,2,1,2,0][d2]?=some w:=⟨_,Kc<|by simpa using E⟩
 obtain⟨S,K,M,L,e,y,n⟩:=YY (by lia) F (List.range<|1+J) [] none none none (λx g=>qf.mp g) (by simp;lia)<|λ_ h=>(nomatch h)
 rw[nk,Xk,Kw]at y;refine⟨S,1+d1,bL rfl<|aH (bB<|aK rfl G)<|aH (bB<|fU rfl)<|(bC2).symm.trans<|aH H<|aH (bB<|YD<|aG rfl rfl<|dR rfl)<|aH (bB<|aG (fU rfl) (aG rfl rfl<|dR rfl)<|dR<|XD z)<|aH (iC<|fU rfl)<|aH (dU (yW rfl<|by lia) e)<|cD rfl,by lia,λrk B=>⟨by lia,by lia,by lia,by lia,λr p=>⟨(n r p).1,λx g=>by have:=(n r p).2 x g;lia⟩,B⟩⟩
end
section
variable{S:am}{rk:ac}{c:Nat}
theorem UP(M:Va S rk c):∀g,g<S.length->ng 255 g=true:=λg b=>by
 have a:=M.most;have:g=0\/g=1\/g=2\/g=3\/g=4\/g=5\/g=6\/g=7:=by lia
 rcases this with rfl|rfl|rfl|rfl|rfl|rfl|rfl|rfl<;>rfl
open Classical in
noncomputable def Ym(S:am)(c k:Nat):ac:=(List.range S.length).filter λj=>decide (Hc S c (ng 255) k j/\Hc S c (ng 255) j k)
theorem N0(M:Va S rk c){k:Nat}(b:k<S.length):∃a:Nat,lQ [.lst<|ia<|Lj S,.int 255,.int ((2^k:Nat):Int)]=.ok (.int a)/\∀g,a.testBit g=true↔Hc S c (ng 255) k g:=by
 obtain⟨a,e,_,h⟩:=bG9 M<|Nat.pow_lt_pow_right (by decide) b
 refine⟨a,e,λg=>(h g).trans ⟨?_,λz=>⟨k,Nat.testBit_two_pow_self,UP M k b,z⟩⟩⟩
 rintro⟨s,f,_,d⟩;grind
open Classical in
def bKe{k:Nat}(a:k<S.length):k∈Ym S c k:=by
 exact Vf.mpr ⟨qf.mpr a,Jd ⟨.here,.here⟩⟩
def bKf{a b:Nat}(e:Hc S c (ng 255) a b)(d:Hc S c (ng 255) b a):Ym S c a=Ym S c b:=by
 refine List.filter_congr λj _=>xo.mpr ⟨λ⟨x,y⟩=>⟨d.trans x,y.trans e⟩,λ⟨x,y⟩=>⟨e.trans x,y.trans d⟩⟩
abbrev Xy(S:am)(d:Int)(ds:ac)(rk:dL)(c b a:f8):za:=[some<|.v<|.lst<|Wb S,some<|.v<|.int d,some<|.v<|.lst<|ia<|Lj S,some<|.v<|.lst<|ia ds,some<|.o .l rk,c,b,a,none]
theorem a_{a k:Nat}{st:za}(h:st[a]?=some (some<|.v<|.int (k:Int)))(b:k<=100):e2 Ol (eI 1) (aA a) st=.ok (.int ((2^k:Nat):Int)):=aG rfl (CN h)<|JO<|by lia
theorem bV7{st:za}{n r:Nat}(b:f st=.ok (.int (n:Nat)))(a:g st=.ok (.int (r:Nat))):(e2 Ad (e2 Ei (e2 Nk f g)<|eI 1)<|eI 1) st=.ok (.bl<|n.testBit r):=by
 refine aG (x:=.int<|(if n.testBit r=true then 1 else 0:Nat)) (aG (aG b a<|aF<|by lia) rfl ?_) rfl<|(oM _ _).trans ?_
 .rw[Ao,T1,aF ⟨(UR (by lia)<|ZR<|by decide),by decide⟩,VL]
 cases n.testBit r<;>rfl
theorem aWo(M:Va S rk c) {a:Nat} {ds:ac} (E:a<3) (z:ds.length=S.length) {k:Nat} (e:k<S.length) (Q:ac) (C:Q.length<=100) (o l:f8):∃v n m,vJ (Xy S cl (a::ds) (ia Q) k o l)=.ok (.nx<|Xy S cl (a::ds) (ia<|Q++[v]) k n m)/\v%2=ds.getD ((Ym S c k).headD 0) 0%2:=by
 have x:=M.most;obtain⟨A,u,t⟩:=N0 M e;have w:jL (gb 8) JX IX (Xy S cl (a::ds) (ia Q) k A l) (ia<|List.range S.length)=.ok (ia<|Ym S c k):=by
  classical
  refine pP _ λj q=>?_
  have f:=qf.mp q;obtain⟨B,eB,s⟩:=N0 M f;refine⟨_,rfl,((rq (X9 rfl rfl) λ_=>(bV7 (aK (aN rfl<|aN rfl<|aN (a_ rfl<|by lia) rfl) eB) rfl)).trans ?_),rfl⟩
  congr 2;rw[Cw,Wk,qh,t j,s k]
 obtain⟨h,T,g⟩:∃h T,Ym S c k=h::T:=by
  cases p:Ym S c k with
  |nil=>have:=bKe (c:=c) e;rw[p]at this;cases this
  |cons h T=>exact⟨h,T,rfl⟩
 obtain⟨b,r,F⟩:∃b,[0,0,10^29][a]?=some b/\b%2=0:=by
  have:a=0\/a=1\/a=2:=by lia
  rcases this with rfl|rfl|rfl<;>exact⟨_,rfl,by decide⟩
 have d:∀{i:Nat},i<S.length->yd (ia<|a::ds) ((1+i:Nat))=some (.int<|ds.getD i 0):=λ{i} y=>by
  rw[xK (by rw[Ed];lia),Iw 1 i]
  rfl
 refine⟨b+ds.getD k 0/2*2+ds.getD h 0%2,A,D.lst<|ia<|Ym S c k,?_,?_⟩
 .refine aH (bB<|aK (aN rfl<|aN rfl<|aN (a_ rfl<|by lia) rfl) u) (aH (bB<|gF (yW (show R.ok (D.int<|(Wb S).length)=_ by rw[nU])<|by lia) (by simp;lia) w) ?_)
  have:ia (Q++[b+ds.getD k 0/2*2+ds.getD h 0%2])=ia Q++[.int<|b+((ds.getD k 0))/2*2+((ds.getD h 0))%2]:=by rw[lK];push_cast;rfl
  rw[this];exact tR (aG (aG (aG (fU<|aN rfl<|aN rfl<|aN (aG rfl rfl<|aF<|by decide) rfl) (aG rfl rfl<|dR<|EN (.int a)<|ia ds)<|dR<|XD r) (aG (aG (aG rfl (YD rfl)<|dR<|d e) rfl<|zQ<|by decide) rfl<|IE<|by decide) rfl) (aG (aG rfl (YD<|aG rfl rfl<|dR<|by rw[g];exact EN _ _)<|dR<|d (by
  have:h∈Ym S c k:=by rw[g];exact qb
  exact qf.mp (Vf.mp this).1)) rfl<|pN<|by decide) rfl) rfl (by rw[bI];lia)
 rw[g];show _=ds.getD h 0%2;lia
theorem ZY(M:Va S rk c){p:Int}{j:Nat}{ds:ac}(o:j<3)(l:ds.length=S.length):∀(m:Nat)(Q:ac)(d b a:f8),Q.length+m=S.length->(∀i,i<Q.length->Q.getD i 0%2=ds.getD ((Ym S c i).headD 0) 0%2)->
  ∃R' u g f,pb (gb 5) vJ (ia<|List.range' Q.length m) (Xy S p (j::ds) (ia Q) d b a)=.ok (.nx<|Xy S p (j::ds) (ia R') u g f)/\R'.length=S.length/\∀i,i<R'.length->R'.getD i 0%2=ds.getD ((Ym S c i).headD 0) 0%2
 |0,Q,d,b,a,k,h=>⟨Q,d,b,a,rfl,k,h⟩
 |m+1,Q,d,b,a,k,h=>by
  have z:=M.most;obtain⟨v,g,f,t,A⟩:=aWo M o l (k:=Q.length) (by lia) Q (by lia) b a
  have y:(Q++[v]).length=Q.length+1:=by simp
  obtain⟨R',s,r,q,e,x,w⟩:=ZY M o l m (Q++[v]) _ g f (by lia) λi B=>by
   by_cases n:i<Q.length
   .rw[bf,ik n];exact h i n
   obtain rfl:i=Q.length:=by lia
   rwa [bf,ow<|Pb _,Nat.sub_self]
  rw[y]at e;exact⟨R',s,r,q,dO rfl t e,x,w⟩
theorem aWp(M:Va S rk c)(f:Int):∃R:ac,uH [.lst<|Wb S,.int f]=.ok (.lst<|ia R)/\R.length=S.length/\∀a b,a<S.length->b<S.length->Hc S c (ng 255) a b->Hc S c (ng 255) b a->R.getD a 0%2=R.getD b 0%2:=by
 have T:=M.most;obtain⟨g,K,F⟩:=LN (f/2) (3::List.replicate S.length 8) (λm n=>by
  rcases qc.mp n with rfl|h
  .decide
  rw[(oz.mp h).2];decide) (by rw[Ed,wo];lia)
 have d:∀{A y x4 x w u s:f8}{z:D},e1 iD (aA 0) [D.lst<|Wb S,z,A,y,x4,x,w,u,s]=.ok (.int S.length):=by
  intros
  show R.ok (D.int<|(Wb S).length)=_;rw[nU]
 have J:e2 iJ (mK<|aC (eI 3) aQ) (Dy (aC (eI 8) aQ)<|e1 iD<|aA 0) [D.lst<|Wb S,f,D.lst<|ia<|Lj S,none,none,none,none,none,none]=.ok (.lst<|ia<|3::List.replicate S.length 8):=by
  refine aG (fU rfl) (y:=.lst<|List.replicate S.length<|.int 8) ?_ ?_
  .show (R.ok [D.int 8]).bind _=_;rw[bT,d,bT];show aP _ (R.ok<|D.lst<|rep (S.length:Int).toNat [.int 8])=_;rw[aF ⟨cO (by simp),cO (by simp;lia),by lia,by lia⟩,Ao,n6]
  show aP _ _=_;rw[aF<|cO<|by simp;lia]
  unfold ia;rw[gf,List.map_replicate];rfl
 have H:∃j,(Pd (e2 Ad (e2 mJ (aA 1)<|eI 2)<|eI 0) (cG 3<|e2 iJ (mK<|aC (aO jM<|aC (aA 1)<|aC (eI 3)<|aC (eI 3) aQ) aQ)<|cJ [5] (gb 5) (yC<|e1 iD<|aA 0) cV vI) dF) [D.lst<|Wb S,f,D.lst<|ia<|Lj S,D.lst<|ia g,none,none,none,none,none]=.ok (.nx [D.lst<|Wb S,f,D.lst<|ia<|Lj S,D.lst<|ia j,none,none,none,none,none])/\Fits j (3::List.replicate S.length 8):=by
  have t:(e2 Ad (e2 mJ (aA 1)<|eI 2)<|eI 0) [D.lst<|Wb S,f,D.lst<|ia<|Lj S,D.lst<|ia g,none,none,none,none,none]=.ok (.bl<|decide (f%2=0)):=aG (aG rfl rfl<|pN<|by decide) rfl<|oM _ _
  cases p:decide (f%2=0)
  .exact⟨g,mZ (t.trans<|by rw[p]) rfl,F⟩
  obtain⟨v,I,l,o⟩:=zD f 3 (m:=3) (by decide)
  obtain⟨j,e,k⟩:=AD (tg:=gb 5) (E:=vI) (st:=[D.lst<|Wb S,f,D.lst<|ia<|Lj S,D.lst<|ia g,none,none,none,none,none]) (List.replicate S.length 8) 0 λi m n=>by
   obtain⟨v,e,l,o⟩:=zD f (21+((0+i))) (m:=8) (by decide)
   have:=(oz.mp<|jg n).2;subst this;exact⟨_,v,rfl,aK (aN rfl<|aN (aG rfl rfl rfl) rfl) e,l,o⟩
  rw[wo,<-iz]at e;have C:=k.len;rw[wo]at C;refine⟨v.toNat::j,yV (t.trans<|by rw[p])<|bB<|aG (fU<|aN (aK rfl I) rfl) (gF (yW d<|by lia) (by simp;lia) e) ?_,.cons (by lia) k⟩
  show aP _ (R.ok<|D.lst<|.int v::ia j)=_;rw[aF<|cO<|by rw[bI];simp;lia]
  show _=R.ok (D.lst<|.int v.toNat::ia j);rw[ER l]
 obtain⟨j,L,k⟩:=H;cases k with|cons B k=>
 have r:=k.len;rw[wo]at r;obtain⟨N,Q,P,O,e,G,q⟩:=ZY M B r S.length [] none none none (by rw[Xk];lia) λi E=>absurd E<|zp _
 rw[Xk,<-iz]at e;refine⟨N,bL rfl<|aH (bB<|aK rfl<|bC3 M)<|aH (bB<|aK (aN (aG rfl rfl<|zQ<|by decide)<|aN J rfl) K)<|aH L<|aH (iC<|fU rfl)<|aH (dU (yW d<|by lia) e)<|cD rfl,G,λa b V U r1 r2=>?_⟩
 rw[q a (by lia),q b (by lia),bKf r1 r2]
theorem bGd(M:Va S rk c)(l:∀a b,a<S.length->b<S.length->Hc S c (ng 255) a b->Hc S c (ng 255) b a->rk.getD a 0%2=rk.getD b 0%2)(g:Bool):¬ Rr S c rk g:=by
 rintro⟨L,Y,d,m,f,e1,e2⟩;obtain⟨⟨a,i,o⟩,_⟩:=vQ d.1.1;obtain⟨⟨b,h,n⟩,_⟩:=vQ m.1;have k:=bC d.2.1 i;have j:=bC d.2.1<|f b h;have:=l a b k j (O5 M (UP M) k<|d.1.2.1 a i b<|f b h)<|O5 M (UP M) j<|d.1.2.1 b (f b h) a i;have e:Ge rk L=Ge rk Y:=by
  unfold Ge;rw[<-o,<-n];exact xo.mpr (by lia)
 rw[e,e2]at e1;cases g<;>cases e1
end
section
variable{Fm:am}{rk:ac}{c:Nat}{wd:Nat->Nat->Tl}
abbrev Fn(g f:f8)(m:D)(i:am)(rk:ac)(c:Nat)(e:f8)(h:dL)(d b a:f8):za:=[g,f,some<|.v m,some<|.v<|mD i rk c,e,some<|.o .l h,d,b,a,none]
theorem bGe(M:Va Fm rk c){d i:f8}{m:D}{g a:dL}{p q:Nat}(n:p<Fm.length)(l:q<Fm.length)(h:Lk Fm rk c p q (wd p q))(k:dG [mD Fm rk c,mD Fm rk c,.int (p:Nat),.int (q:Nat)]=.ok (me<|wd p q)):Uu a ((Fn x0 x1 m Fm rk c none g d i none).set 7<|qg wd p q)=.ok (.nx<|Fn x0 x1 m Fm rk c none g d (qg wd p q) none):=by
 obtain⟨e,o,j⟩:=bK9 _;have f:∀{b:Ex}{st:za},b _=.ok (.bl false)->Mr 4 b (Lv 4<|eC<|.bl false) Kv a st=.ok _:=λ{b st} h=>by
  unfold Mr;rw[h];rfl
 unfold Uu Iq;rw[f<|Fs (xF (p:=true)<|aF rfl) λ_=>Fs (p:=false) (aG rfl rfl<|(vv _ _).trans rfl) λ_=>xF<|aK (aN rfl<|aN (aG rfl rfl rfl)<|aN (aG rfl rfl rfl)<|aN (aG rfl rfl rfl) rfl)<|bPd M n l h]
 exact f<|aG (aG rfl rfl rfl) (aK (aN rfl<|aN rfl<|aN (aG rfl rfl rfl)<|aN (aG rfl rfl rfl) rfl) k)<|by rw[DO,aF ⟨by lia,e,e⟩,j];rfl
theorem O0(M:Va Fm rk c){n k j:f8}{m:D}{s f:dL}(h:∀p q,p<Fm.length->q<Fm.length->p≠q->dG [mD Fm rk c,mD Fm rk c,.int (p:Nat),.int (q:Nat)]=.ok (me<|wd p q)/\Lk Fm rk c p q (wd p q)):∀(l:dL)(g:f8),(∀d∈l,∃p q,p<q/\q<Fm.length/\d=qg wd p q)->∃i,Mv 7 Uu f l (Fn n k m Fm rk c none s j g none)=.ok (.nx<|Fn n k m Fm rk c none s j i none)
 |[],g,_=>⟨g,rfl⟩
 |d::l,g,o=>by
  obtain⟨p,q,u,r,rfl⟩:=o d qb;obtain⟨a,b⟩:=h p q (by lia) r (by lia)
  obtain⟨i,e⟩:=O0 M h l _ λd t=>o d<|Mb _ t
  refine⟨i,?_⟩;unfold Mv
  rwa [bGe M (by lia) r b a]
end
theorem law_true(g:lv)(hn:g.length<=63):Nv [.lst<|g.map D.int]=.ok (.bl true):=by
 obtain⟨S,c,eS,h5,E⟩:=aWn g (mo:=5) (by decide)
 obtain⟨cl,_,ec⟩:=EM g 6 (by decide)
 obtain⟨i,er,Q,U⟩:=aWp (E (List.replicate S.length 0)<|by rw[wo]) cl
 have M:=E i Q;obtain⟨f,d,ib,cls,j,H,M',hk,K,C⟩:=bG4 M (by lia) λb=>bGd M U b
 have l:Va f (tU f d) c:=K.JI M' UD;have B:=l.most;have o:∀p q,p<f.length->q<f.length->p≠q->¬ Pf f (tU f d) f (tU f d) c p q:=λp q n m Z a=>by
  obtain⟨A,y⟩:=K.Uw p n;obtain⟨w,v⟩:=K.Uw q m;have L:=C _ A;have J:=C _ w;rw[y]at L;rw[v]at J;have:=(K.eq _ A _ w).mp<|(L.symm.trans l n a).trans l m J;rw[y,v]at this;exact Z this
 obtain⟨wd,t⟩:∃wd:Nat->Nat->Tl,∀p q,p<f.length->q<f.length->p≠q->dG [mD f (tU f d) c,mD f (tU f d) c,.int p,.int q]=.ok (me<|wd p q)/\Lk f (tU f d) c p q (wd p q):=by
  have s:∀p q,∃x:Tl,p<f.length->q<f.length->p≠q->dG [mD f (tU f d) c,mD f (tU f d) c,.int p,.int q]=.ok (me x)/\Lk f (tU f d) c p q x:=λp q=>by
   by_cases h:p<f.length/\q<f.length/\p≠q
   .obtain⟨x,e,T⟩:=bK8 l (by have:=K.len;lia) h.1 h.2.1 (o p q h.1 h.2.1 h.2.2)
    exact⟨x,λ_ _ _=>⟨e,T⟩⟩
   exact⟨([],[]),λa b d=>(h ⟨a,b,d⟩).elim⟩
  exact Classical.skolem.mp λp=>Classical.skolem.mp<|s p
 have F:=bC1 l H λp q m V=>(t p q (by lia) m<|by lia).1
 obtain⟨k,G⟩:=Y2 l (List.range f.length) [] none (λp n=>qf.mp n) (by rw[Xk,nk];lia)
 rw[zt]at G;have Ob:=Y5 (n:=f.length) (qg wd)<|List.range f.length;rw[nk]at Ob;have kr:=Dw B B;have r:∀d∈mL f.length (qg wd) (List.range f.length),∃p q,p<q/\q<f.length/\d=qg wd p q:=λd j=>by
  obtain⟨p,_,q,s,X,W⟩:=Z5 j;exact⟨p,q,s,X,W⟩
 obtain⟨u,el⟩:=O0 l t (mL f.length (qg wd)<|List.range f.length) none r;refine bL rfl<|aH (bB<|aK rfl eS)<|aH (bB<|aK (aN rfl<|aN (aK (aN rfl<|aN (aK rfl ec) rfl) er) rfl)<|JD M)<|aH (bB<|aK rfl H)<|aH (iC<|aK rfl F)<|aH (iC<|fU rfl)<|aH (dU (yW (show cL "Machine" "many" (mD f (tU f d) c)=_ from lJ)<|by lia) G) ?_
 show (Iq _ _ (mL f.length (qg wd)<|List.range f.length)<|Fn (some<|.v<|.lst<|g.map D.int) (some<|.v<|.lst<|Wb S) (mD S i c) f (tU f d) c none (mL f.length yh<|List.range f.length) k none none).bind _=_;unfold Iq;have P:Mr 4 (xk (tH<|eB Fq<|aA 4)<|e2 Ph (cJ [7] (gb 7) (Ec<|aA 4) cV ZM)<|dB 5) (Lv 4<|eC<|.bl false) Kv (mL f.length (qg wd)<|List.range f.length) (Fn (some<|.v<|.lst<|g.map D.int) (some<|.v<|.lst<|Wb S) (mD S i c) f (tU f d) c none (mL f.length yh<|List.range f.length) k none none)=.ok (.nx<|Fn (some<|.v<|.lst<|g.map D.int) (some<|.v<|.lst<|Wb S) (mD S i c) f (tU f d) c none (mL f.length yh<|List.range f.length) k none none):=by
  unfold Mr;rw[(Fs (xF (p:=true)<|aF rfl) λ_=>aG (by
  have I:=yU (tg:=gb 7) (c:=cV) (f:=ZM) (st:=Fn (some<|.v<|.lst<|g.map D.int) (some<|.v<|.lst<|Wb S) (mD S i c) f (tU f d) c (some<|.v<|.lst<|mL f.length (qg wd)<|List.range f.length) (mL f.length yh<|List.range f.length) k none none) (λd=>match d with|.tup xs=>.tup (xs.take 2)|d=>d) (mL f.length (qg wd)<|List.range f.length) λd j=>by
   obtain⟨p,q,_,_,rfl⟩:=r d j;exact⟨_,rfl,rfl,aF<|show 2<3 by decide⟩
  rw[d6]at I;exact gF (kY rfl) (by lia) I) rfl (i6 (xs:=mL f.length yh<|List.range f.length) λd j=>by
  obtain⟨p,_,q,_,_,rfl⟩:=Z5 j;exact bKb p q).1)]
  rfl
 have O:AG 7 Uu (mL f.length (qg wd)<|List.range f.length) (Fn (some<|.v<|.lst<|g.map D.int) (some<|.v<|.lst<|Wb S) (mD S i c) f (tU f d) c none (mL f.length yh<|List.range f.length) k none none)=.ok (.nx<|Fn (some<|.v<|.lst<|g.map D.int) (some<|.v<|.lst<|Wb S) (mD S i c) f (tU f d) c none (mL f.length yh<|List.range f.length) k u none):=el;have N:AF (cT<|e2 Ad (aO jD<|aC (aA 2) aQ)<|aA 8) (mL f.length (qg wd)<|List.range f.length) (Fn (some<|.v<|.lst<|g.map D.int) (some<|.v<|.lst<|Wb S) (mD S i c) f (tU f d) c none (mL f.length yh<|List.range f.length) k u<|some<|.v<|.lst<|mL f.length (qg wd)<|List.range f.length)=.ok (.rt<|.bl true):=by
  unfold AF;rw[cD<|aG (aK rfl F) rfl (i6 λd j=>by
  obtain⟨p,q,_,_,rfl⟩:=r d j;exact bKa p q).2]
  rfl
 rw[P];show (io (AG 7 Uu _ _) _).bind _=_;rw[O];exact(congrArg (λz:R Fl=>z.bind λY=>match Y with|.rt d=>R.ok (Fl.rt d)|_=>.bad) N).trans rfl
end Pu
namespace Pu
open PySem PySem.Spec PyProof.Rows L2
abbrev zh:=L2.St
noncomputable def pC:Key->D
 |.inl i=>.int i
 |.inr x=>.str x.cps.toList
structure fq(K:Frag)(C:Addr):Prop where
 ga:findIn K (.ref C) "__getattribute__"=some (some<|.builtin "BaseException.__getattribute__")
 gn:findIn K (.ref C) "__getattr__"=some none
 mb:mroIn K C (.type "BaseException")=some true
 cl:(PySem.W.clsIn K C).isSome=true
 fd:findIn K (.ref C) "__class__"=some (some<|.builtin "object.__class__")
 sp:PySem.W.specialIn K (.builtin "object.__class__") "__get__"=some (some<|.builtin "getset_descriptor.__get__")
 tk:PySem.W.takesIn K (.builtin "object.__class__")=some true
 mr:mroIn K C (.type "object")=some true
structure ExcAt(K:Frag)(c:String)(C:Addr)(bm:cr):Prop where
 ns:nsIn K mainGlobals (ofString c)=some (some<|.ref C)
 ob:∃(B newId uu:String)(h_:cr),ExcBaseFacts B newId uu h_/\∀h,K.In h->∃N nm q bs WS sn sub ab col dd k0 k1 k2 k3 k5 mN,
  h.get? C=some (excClassObj nm q C N bs bm WS sn sub ab col dd k0 k1 k2 k3 k5 newId)/\h.Ns N mN/\mN "__init__"=none/\OwnTail h h_ bm
 ic:fq K C
def C9(a C:Addr)(h:Heap):Prop:=∃o,h.get? a=some o/\o.cls=.ref C/\notCls o=true
structure xm(K:Frag)(c:String)(C:Addr):Prop where
 ns:nsIn K mainGlobals (ofString c)=some (some<|.ref C)
 ic:fq K C
def ExcAt.is{K:Frag}{c:String} (h:ExcAt K c C bm):xm K c C:=⟨h.ns,h.ic⟩
def Λ(x C:Addr)(d:pi)(h:Heap):Prop:=∃o,h.get? x=some o/\o.cls=.ref C/\notCls o=true/\o.dict=d
def Κ(b:Addr)(fs:AC)(h:Heap):Prop:=∃a,h.Ns1 b a/\(∀f,xi (fs.lookup f)<|a f)/\PySem.Within a (fs.map (·.1))
def Θ:List D->Bool
 |.str _::_=>true
 |_=>false
mutual
noncomputable def Bb(K:Frag)(H:Hp):D->V->Prop
 |.Sb,v=>v=V.Sb
 |.bl b,v=>v=V.bl b
 |.int i,v=>v=V.int i
 |.str s,v=>v=V.str ⟨s.toArray⟩
 |.tup ds,v=>∃a d,v=V.ref a/\H a=some (.tup d)/\bJ K H ds d
 |.lst ds,v=>∃a d,v=V.ref a/\Qc K H a d/\bJ K H ds d/\(Θ ds=true->H a=some (.lst d))
 |.Fe t l ds,v=>∃a d,v=V.ref a/\((t=false/\∃e:s0,H a=some (.dK e)/\e.map (λp=>pC p.1)=l/\d=e.map (·.2))\/(t=true/\∃e:wn,H a=some (.dT e)/\e.map (λp=>D.tup<|p.1.map pC)=l/\d=e.map (·.2)))/\bJ K H ds d
 |.ins c j ds,v=>∃a C g fs d,v=V.ref a/\H a=some (.ins C g fs)/\nsIn K mainGlobals (ofString c)=some (some<|.ref C)/\fs.map (·.1)=j.map ofString/\d=fs.map (·.2)/\bJ K H ds d
 |.km c j ds,v=>∃a k C,v=V.ref a/\H a=some (.ext k)/\(∀h,k h->C9 a C h)/\xm K c C/\∃g fs d,((j=[]/\d=[])\/(k=Λ a C (some g)/\g≠a/\H g=some (.ext<|Κ g fs)/\fs.map (·.1)=j.map ofString/\d=fs.map (·.2)))/\bJ K H ds d
 |.fn f,v=>∃a,v=V.ref a/\nsIn K mainGlobals (ofString f)=some (some<|.ref a)
noncomputable def bJ(K:Frag)(H:Hp):List D->List V->Prop
 |[],a=>a=[]
 |d::ds,a=>∃v r,a=v::r/\Bb K H d v/\bJ K H ds r
end
def zA{K:Frag} {xs:o0} (e:bG H H') (h:Xf K H a xs):Xf K H' a xs:=by
 rcases h with (h|⟨o,h⟩)|h
 .exact .inl (.inl<|e _ _ h)
 .exact .inl (.inr ⟨o,e _ _ h⟩)
 exact .inr h
mutual
theorem Bb.mono{K:Frag}{H m:Hp}(s:bG H m):∀{d:D}{v:V},Bb K H d v->Bb K m d v
 |.Sb,_,h=>h
 |.bl _,_,h=>h
 |.int _,_,h=>h
 |.str _,_,h=>by unfold Bb at h ⊢; exact h
 |.tup _,_,h=>by
  unfold Bb at h ⊢;obtain⟨a,b,e,q,r⟩:=h;exact⟨a,b,e,s _ _ q,bJ.mono s r⟩
 |.lst _,_,h=>by
  obtain⟨a,b,e,q,r,t⟩:=h;exact⟨a,b,e,s.seq q,bJ.mono s r,λz=>s _ _<|t z⟩
 |.Fe _ _ _,_,h=>by
  obtain⟨a,b,e,q,r⟩:=h;refine⟨a,b,e,?_,bJ.mono s r⟩;rcases q with ⟨j,i,f,c⟩|⟨j,i,f,c⟩
  .exact .inl ⟨j,i,s _ _ f,c⟩
  exact .inr ⟨j,i,s _ _ f,c⟩
 |.ins _ _ _,_,h=>by
  unfold Bb at h ⊢;obtain⟨a,C,l,fs,b,e,f,c,p,o,r⟩:=h;exact⟨a,C,l,fs,b,e,s _ _ f,c,p,o,bJ.mono s r⟩
 |.fn _,_,h=>h
 |.km _ _ _,_,h=>by
  obtain⟨a,n,C,e,q,k,u,l,fs,b,g,r⟩:=h;refine⟨a,n,C,e,s _ _ q,k,u,l,fs,b,?_,bJ.mono s r⟩;rcases g with g|⟨g,y,x,w⟩
  .exact .inl g
  exact .inr ⟨g,y,s _ _ x,w⟩
theorem bJ.mono{K:Frag}{H a:Hp}(s:bG H a):∀{ds:dL}{vs:o0},bJ K H ds vs->bJ K a ds vs
 |[],_,h=>by unfold bJ at h ⊢; exact h
 |d::ds,_,h=>by
  obtain⟨v,r,e,q,t⟩:=h;exact⟨v,r,e,Bb.mono s q,bJ.mono s t⟩
end
section
variable{K:Frag}{H:Hp}
def uN:Bb K H .Sb v↔v=V.Sb:=Nw
def dW:Bb K H (.bl b) v↔v=V.bl b:=Nw
def bO{i:Int}:Bb K H (.int i) v↔v=V.int i:=Nw
def dX{s:ac}:Bb K H (.str s) v↔v=V.str ⟨s.toArray⟩:=Nw
def pX:Bb K H (.tup ds) v↔∃a vs,v=V.ref a/\H a=some (.tup vs)/\bJ K H ds vs:=by conv=>lhs;unfold Bb
def gW(h:Bb K H (.tup ds) v):∃a vs,v=V.ref a/\Xf K H a vs/\bJ K H ds vs:=
 let ⟨a,vs,e,q,r⟩:=pX.mp h;⟨a,vs,e,Xf.of q,r⟩
def IM:Bb K H (.lst ds) v↔∃a vs,v=V.ref a/\Qc K H a vs/\bJ K H ds vs/\(Θ ds=true->H a=some (.lst vs)):=by conv=>lhs;unfold Bb
structure HJ(K:Frag)(H:Hp)(ds:dL)(v:V):Prop where
 mp:Bb K H (.lst ds) v->∃a vs,v=V.ref a/\Qc K H a vs/\bJ K H ds vs
 mpr:(∃a vs,v=V.ref a/\H a=some (.lst vs)/\bJ K H ds vs)->Bb K H (.lst ds) v
def fX:HJ K H ds v:=⟨λh=>let ⟨a,b,e,q,r,_⟩:=IM.mp h;⟨a,b,e,q,r⟩,λ⟨a,b,e,h,r⟩=>IM.mpr ⟨a,b,e,Qc.of h,r,λ_=>h⟩⟩
def nY{t:Bool}{c:dL}:Bb K H (.Fe t c ds) v↔∃a vs,v=V.ref a/\((t=false/\∃b:s0,H a=some (.dK b)/\b.map (λp=>pC p.1)=c/\vs=b.map (·.2))\/(t=true/\∃b:wn,H a=some (.dT b)/\b.map (λp=>D.tup<|p.1.map pC)=c/\vs=b.map (·.2)))/\bJ K H ds vs:=by conv=>lhs;unfold Bb
def ZD{c:String}{b:wv}:Bb K H (.ins c b ds) v↔∃a C d fs vs,v=V.ref a/\H a=some (.ins C d fs)/\nsIn K mainGlobals (ofString c)=some (some<|.ref C)/\fs.map (·.1)=b.map ofString/\vs=fs.map (·.2)/\bJ K H ds vs:=by conv=>lhs;unfold Bb
def bKg{c:String}{e:wv}:Bb K H (.km c e ds) v↔∃a d C,v=V.ref a/\H a=some (.ext d)/\(∀h,d h->C9 a C h)/\xm K c C/\∃b fs vs,((e=[]/\vs=[])\/(d=Λ a C (some b)/\b≠a/\H b=some (.ext<|Κ b fs)/\fs.map (·.1)=e.map ofString/\vs=fs.map (·.2)))/\bJ K H ds vs:=by conv=>lhs;unfold Bb
def ZO{f:String}:Bb K H (.fn f) v↔∃a,v=V.ref a/\nsIn K mainGlobals (ofString f)=some (some<|.ref a):=by conv=>lhs;unfold Bb
def cZ:bJ K H [] vs↔vs=[]:=Nw
def bR{d:D}:bJ K H (d::ds) vs↔∃v r,vs=v::r/\Bb K H d v/\bJ K H ds r:=by conv=>lhs;unfold bJ
def bJ.nil:bJ K H [] []:=cZ.mpr rfl
def bJ.cons{d:D}{ds:dL}{v:V}{vs:o0}(h:Bb K H d v)(t:bJ K H ds vs):bJ K H (d::ds) (v::vs):=bR.mpr ⟨v,vs,rfl,h,t⟩
theorem bJ.length:∀{ds:dL}{vs:o0},bJ K H ds vs->vs.length=ds.length
 |[],_,h=>by rw[cZ.mp h];rfl
 |_::ds,_,h=>by
  obtain⟨v,r,rfl,_,t⟩:=bR.mp h;rw[Ed,Ed,bJ.length t]
theorem bJ.get:∀{ds:dL}{vs:o0}{i:Nat}{d:D},bJ K H ds vs->ds[i]?=some d->∃v,vs[i]?=some v/\Bb K H d v
 |[],_,_,_,_,e=>by simp at e
 |_::ds,_,0,d,h,e=>by
  obtain⟨v,r,rfl,q,t⟩:=bR.mp h;simp at e;subst e;exact⟨v,rfl,q⟩
 |_::ds,_,i+1,d,h,e=>by
  obtain⟨v,r,rfl,q,t⟩:=bR.mp h;obtain⟨u,e1,e2⟩:=bJ.get t (by simpa using e)
  exact⟨u,by simpa using e1,e2⟩
theorem bJ.append:∀{ds b:dL}{vs a:o0},bJ K H ds vs->bJ K H b a->bJ K H (ds++b) (vs++a)
 |[],_,_,_,h,t=>by rwa [cZ.mp h]
 |_::_,_,_,_,h,t=>by
  obtain⟨v,r,rfl,q,w⟩:=bR.mp h;exact .cons q<|bJ.append w t
theorem bJ.set{d:D}{v:V}(a:Bb K H d v):∀{ds:dL}{vs:o0}(i:Nat),bJ K H ds vs->bJ K H (ds.set i d) (vs.set i v)
 |[],_,_,h=>by rw[cZ.mp h];exact .nil
 |_::_,_,0,h=>by
  obtain⟨v,r,rfl,q,w⟩:=bR.mp h;exact .cons a w
 |_::_,_,i+1,h=>by
  obtain⟨v,r,rfl,q,w⟩:=bR.mp h;exact .cons q<|bJ.set a i w
theorem bJ.take:∀{ds:dL}{vs:o0}(n:Nat),bJ K H ds vs->bJ K H (ds.take n) (vs.take n)
 |_,_,0,_=>.nil
 |[],_,_+1,h=>by rw[cZ.mp h];exact .nil
 |_::_,_,n+1,h=>by
  obtain⟨v,r,rfl,q,w⟩:=bR.mp h;exact .cons q<|bJ.take n w
theorem bJ.drop:∀{ds:dL}{vs:o0}(n:Nat),bJ K H ds vs->bJ K H (ds.drop n) (vs.drop n)
 |_,_,0,h=>h
 |[],_,_+1,h=>by rw[cZ.mp h];exact .nil
 |_::_,_,n+1,h=>by
  obtain⟨v,r,rfl,q,w⟩:=bR.mp h;exact bJ.drop n w
theorem bJ.rep{ds:dL}{vs:o0}(h:bJ K H ds vs):∀n:Nat,bJ K H (Pu.rep n ds) (List.replicate n vs).flatten
 |0=>.nil
 |n+1=>by
  unfold Pu.rep;rw[Uk,zo,Uk,zo];exact h.append<|bJ.rep h n
end
def hide(A:bv)(H:Hp):Hp:=λb=>if b∈A then none else H b
def dC{b:Addr}(h:b∈A):hide A H b=none:=jb h
def bF{b:Addr}(h:b∉A):hide A H b=H b:=Pa h
def aX(A:bv)(H:Hp):bG (hide A H) H:=λb o h=>by
 unfold hide at h;split at h
 .cases h
 exact h
theorem bG.hide{A:bv}{H a:Hp}(s:bG H a):bG (hide A H) (hide A a):=λb o h=>by
 unfold Pu.hide at h ⊢;split at h
 .cases h
 rename_i q;rw[Pa q];exact s b o h
def gP{d:bv} (h:∀a∈d,a∈A):bG (hide A H) (hide d H):=λb o q=>by
 by_cases c:b∈A
 .rw[dC c]at q;cases q
 rw[bF c]at q
 rwa [bF λz=>c<|h b z]
def j3(H:Hp):hide [] H=H:=by
 funext b;exact bF (by simp)
def sW(h:a∈A):hide A (bb H a o)=hide A H:=by
 funext b
 by_cases c:b∈A
 .rw[dC c,dC c]
 rw[bF c,bF c];exact aW λz=>c<|z ▸ h
def bN{p:Addr} (h:H p=none):bG H (bb H p o):=λb u q=>by
 rwa [aW<|bD q h]
def nT:HO->Bool
 |.tup _=>false
 |_=>true
def E9{o:Option HO}(h:o.any nT=true):∃u,o=some u/\nT u=true:=by
 cases o with
 |none=>cases h
 |some u=>exact⟨u,rfl,h⟩
def Own(A:bv)(H:Hp):Prop:=∀a∈A,(H a).any nT=true
def Own.mono(h:Own A H)(s:bG H H'):Own A H':=λa b=>by
 obtain⟨o,e,n⟩:=E9<|h a b
 rwa [s a o e]
theorem Own.tup{A:bv}{H:Hp}(h:Own A H){a:Addr}{xs:o0}(e:H a=some (.tup xs)):a∉A:=λz=>by
 have:=h a z;rw[e]at this;cases this
def Own.free(h:Own A H){p:Addr}(e:H p=none):p∉A:=λz=>by
 have q:=h p z;rw[e]at q;cases q
def fB{K:Frag} {p:Addr} (w:Own A H) (e:H p=none) (h:bJ K (hide A H) ds vs):Bb K (hide A<|bb H p<|.lst vs) (.lst ds) (.ref p):=
 fX.mpr ⟨p,vs,rfl,(by rw[bF<|w.free e];exact bK),h.mono<|bG.hide<|bN e⟩
def sY{K:Frag} {p:Addr} (w:Own A H) (e:H p=none) (h:bJ K (hide A H) ds vs):Bb K (hide A<|bb H p<|.tup vs) (.tup ds) (.ref p):=
 pX.mpr ⟨p,vs,rfl,(by rw[bF<|w.free e];exact bK),h.mono<|bG.hide<|bN e⟩
def kq(K:Frag):OK->Addr->HO->List V->Prop
 |.l,_,o,d=>o=.lst d
 |.d t e,_,o,d=>(t=false/\∃b:s0,o=.dK b/\b.map (λp=>pC p.1)=e/\d=b.map (·.2))\/(t=true/\∃b:wn,o=.dT b/\b.map (λp=>D.tup<|p.1.map pC)=e/\d=b.map (·.2))
 |.i n c f,a,o,d=>a=n/\∃C g fs,o=.ins C g fs/\nsIn K mainGlobals (ofString c)=some (some<|.ref C)/\fs.map (·.1)=f.map ofString/\d=fs.map (·.2)
def kq.rep{K:Frag} {k:OK} (f:kq K k a o vs) (h:H a=some o) (r:bJ K H ds vs):Bb K H (Ir k ds) (.ref a):=by
 cases k with
 |l=>subst f;exact fX.mpr ⟨a,vs,rfl,h,r⟩
 |d t u=>
  refine nY.mpr ⟨a,vs,rfl,?_,r⟩;rcases f with ⟨e,b,rfl,q⟩|⟨e,b,rfl,q⟩
  .exact .inl ⟨e,b,h,q⟩
  exact .inr ⟨e,b,h,q⟩
 |i n c s=>
  obtain⟨_,C,p,fs,rfl,m,j,g⟩:=f;exact ZD.mpr ⟨a,C,p,fs,vs,rfl,h,m,j,g,r⟩
def kq.nt{K:Frag}{k:OK} (b:kq K k a o vs):nT o=true:=by
 cases k with
 |l=>rw[b];rfl
 |d t f=>rcases b with ⟨_,_,rfl,_⟩|⟨_,_,rfl,_⟩ <;> rfl
 |i n c e=>obtain⟨_,_,_,_,rfl,_⟩:=b;rfl
structure RS(K:Frag)(B A:bv)(H:Hp)(st:za)(σ:zh):Prop where
 len:st.length=σ.length
 own:Own (A++B) H
 Zf:∀a∈A,a∉B
 val:∀(i:Nat) d,st[i]?=some (some<|.v d)->∃v,σ[i]?=some (some v)/\Bb K (hide (A++B) H) d v
 lst:∀(i:Nat) k xs,st[i]?=some (some<|.o k xs)->∃a o vs,σ[i]?=some (some<|.ref a)/\a∈A/\H a=some o/\kq K k a o vs/\bJ K (hide (A++B) H) xs vs/\
  ∀(j:Nat) k' ys,st[j]?=some (some<|.o k' ys)->σ[j]?=some (some<|.ref a)->j=i
theorem RS.mono{K:Frag}{B A:bv}{H b:Hp}{st:za}(r:RS K B A H st σ)(s:bG H b):RS K B A b st σ where
 len:=r.len
 own:=r.own.mono s
 Zf:=r.Zf
 val:=λi d e=>let ⟨v,e1,q⟩:=r.val i d e;⟨v,e1,q.mono<|bG.hide s⟩
 lst:=λi k xs e=>let ⟨a,o,c,e1,m,h,f,q,u⟩:=r.lst i k xs e;⟨a,o,c,e1,m,s _ _ h,f,q.mono<|bG.hide s,u⟩
def Le(A:bv)(H:Hp)(b:bv)(a:Hp):Prop:=bG (hide A H)<|hide b a
theorem Le.refl{A:bv}{H:Hp}:Le A H A H:=bG.refl _
def Le.of(s:bG H H'):Le A H A H':=bG.hide s
theorem Le.trans{A:bv}{H c:Hp}(a:Le A H A1 c)(b:Le A1 c A2 H2):Le A H A2 H2:=bG.trans a b
def tI(K:Frag)(B:bv)(f:Ex):TE:=λb H Q=>∃A st d,RS K B A H st b/\f st=.ok d/\∀v a,bG H a->Bb K (hide (A++B) a) d v->Q v a
def lZ(K:Frag)(A:bv)(H:Hp)(d:D)(v:V):Prop:=
 Bb K (hide A H) d v\/∃a k o ds b,d=Ir k ds/\v=V.ref a/\H a=some o/\kq K k a o b/\bJ K (hide A H) ds b
theorem lZ.mono{K:Frag}{A:bv}{H b:Hp}{d:D}{v:V}(s:bG H b)(h:lZ K A H d v):lZ K A b d v:=by
 rcases h with h|⟨a,k,o,ds,c,e1,e2,f,e,q⟩
 .exact .inl (h.mono<|bG.hide s)
 exact .inr ⟨a,k,o,ds,c,e1,e2,s _ _ f,e,q.mono<|bG.hide s⟩
def tP(K:Frag)(B:bv)(f:Ex):TE:=λb H Q=>∃A st d,RS K B A H st b/\f st=.ok d/\∀v a,bG H a->lZ K (A++B) a d v->Q v a
def tA(K:Frag)(B:bv)(f:De):TA:=λc H Q=>∃A st ds,RS K B A H st c/\f st=.ok ds/\∀b a,bG H a->bJ K (hide (A++B) a) ds b->Q b a
def tT(K:Frag)(B:bv)(f:Ex):TT:=λc H Q=>∃A st b,RS K B A H st c/\f st=.ok (.bl b)/\∀a,bG H a->Q b a
def tO(K:Frag)(B:bv)(f:Pr):TO:=λb H Q=>∃A st o,RS K B A H st b/\f st=.ok o/\∀a,bG H a->Q o a
def Yy(K:Frag)(B A:bv)(H:Hp)(r:Fl)(e:Ends):Prop:=match r with
 |.nx st'=>∀b c a,Le A H b a->RS K B b a st' c->e.nx c a
 |.bk st'=>∀b c a,Le A H b a->RS K B b a st' c->e.bk c a
 |.ct st'=>∀b c a,Le A H b a->RS K B b a st' c->e.ct c a
 |.rt d=>∀b v a,Le A H b a->Bb K (hide (b++B) a) d v->e.rt v a
def Yy.mono{K:Frag} {r:Fl} (l:Le A H A1 H1) (p:Yy K B A H r Dn):Yy K B A1 H1 r Dn:=by
 cases r with
 |nx st=>exact λc e b a=>p c e b<|l.trans a
 |bk st=>exact λc e b a=>p c e b<|l.trans a
 |ct st=>exact λc e b a=>p c e b<|l.trans a
 |rt d=>exact λc v b a=>p c v b<|l.trans a
def tS(K:Frag)(B:bv)(b:Bd):TS:=λc a H=>∃A st r,RS K B A H st a/\b st=.ok r/\Yy K B A H r c
def Mq(K:Frag)(B A:bv)(H:Hp)(J:It)(ds:dL):Prop:=∀c a,Le A H c a->Own (c++B) a->∀(i:Nat),
 (∀d,ds[i]?=some d->J.go i a/\∀x b,J.Qu i a x b->bG a b/\Bb K (hide (c++B) b) d x)/\(ds.length<=i->J.stop i a)
def Jk(K:Frag)(B:bv)(f:Am):TI:=λb H R=>∃A st ds,RS K B A H st b/\f st=.ok ds/\∀J a,bG H a->Mq K B A a J ds->R J a
def tG(K:Frag)(B:bv)(g:Tg):TG:=λv b H Q=>∃A st d s1,RS K B A H st b/\Bb K (hide (A++B) H) d v/\g d st=.ok s1/\∀a,RS K B A H s1 a->Q a H
section
def cF{t t':TE}(h:PE X e t)(m:∀a H Q,t' a H Q->t a H Q):PE X e t':=λb s a H Q I q=>h b s a H Q I<|m a H Q q
def bP{t t':TT}(h:PT X e t)(m:∀a H Q,t' a H Q->t a H Q):PT X e t':=λb s a H Q I q=>h b s a H Q I<|m a H Q q
def w8{t t':TT}(h:PW X e t)(m:∀a H Q,t' a H Q->t a H Q):PW X e t':=λw b s a H Q I q=>h w b s a H Q I<|m a H Q q
def A8{t t':TA}(h:PA X es t)(m:∀a H Q,t' a H Q->t a H Q):PA X es t':=λb c s a H Q I q=>h b c s a H Q I<|m a H Q q
def B8{e:Option Expr}{t t':TO}(h:PO X e t)(m:∀a H Q,t' a H Q->t a H Q):PO X e t':=λb s a H Q I q=>h b s a H Q I<|m a H Q q
def kW{st:Stmt}{t t':TS}(h:PS X st t)(m:∀D a H,t' D a H->t D a H):PS X st t':=λb s a H D I q=>h b s a H D I<|m D a H q
def rJ{st:List Stmt}{t t':TS}(h:Dd X st t)(m:∀D a H,t' D a H->t D a H):Dd X st t':=λb s a H D I q=>h b s a H D I<|m D a H q
def C8{t t':TG}(h:PG X e t)(m:∀v a H Q,t' v a H Q->t v a H Q):PG X e t':=λb s a H v u Q I r q=>h b s a H v u Q I r<|m v a H Q q
def dP{t t':TI}(h:L2.PI X tg e t)(m:∀a H R,t' a H R->t a H R):L2.PI X tg e t':=λb s a H R I q=>h b s a H R I<|m a H R q
end
section
variable {a b:Expr} {h:Ex}
def aD(g:X.N[i]?=some x:=by rfl)(f:Ah X.env.scope x:=by exact tj rfl)(a:pf x:=by decide)
  (b:Yi x:=by decide):PE X (.Name x pos) (tI X.K B<|aA i):=by
 refine cF (oF g f a b) ?_
 rintro h H Q ⟨A,st,d,c,a,q⟩;unfold aA at a;split at a
 .rename_i j e;cases a;obtain⟨v,e1,r⟩:=c.val i _ e;exact⟨v,e1,q v H (bG.refl _) r⟩
 cases a
end
end Pu
variable{σ τ:Pu.zh}
namespace Pu
open PySem PySem.Spec PyProof.Rows L2
section
variable{X:Cx}{B:bv}{a b e:Expr}{f g:Ex}{pos:Pos}
def tu(h:PE X e (tC v))(r:∀H,Bb X.K H d v):PE X e (tI X.K B<|eC d):=cF h (by
 rintro σ H Q ⟨A,st,c,b,a,q⟩;cases a;exact q v H (bG.refl _)<|r _)
def fV{i:Int}:PE X (.Constant (.int i) j pos) (tI X.K B<|eC<|.int i):=tu u7 λ_=>bO.mpr rfl
def dk{q:Bool}:PE X (.Constant (.bool q) j pos) (tI X.K B<|eC<|.bl q):=tu bR8 λ_=>dW.mpr rfl
def Qv:PE X (.Constant .none j pos) (tI X.K B<|eC .Sb):=tu v7 λ_=>uN.mpr rfl
def Em(s:ac)(a:x=⟨s.toArray⟩:=by first|rfl|decide|decide+kernel):PE X (.Constant (.str x) j pos) (tI X.K B<|eC<|.str s):=tu bNh λ_=>dX.mpr (by rw[a])
def wy{y:Str}{t:Tok}(s:ac)(b:X.mg x=some (.str y t))(c:Gl X x:=by rfl)(a:y=⟨s.toArray⟩:=by first|rfl|decide|decide+kernel)(d:pf x:=by decide):PE X (.Name x pos) (tI X.K B<|eC<|.str s):=
 tu (GD (v:=.str y) c b ⟨t,rfl⟩ d) λ_=>dX.mpr (by rw[a])
def E8{i:Int}{t:Tok}(a:X.mg x=some (.int i t))(b:Gl X x:=by rfl)(c:pf x:=by decide):PE X (.Name x pos) (tI X.K B<|eC<|.int i):=
 tu (GD (v:=.int i) b a ⟨t,rfl⟩ c) λ_=>bO.mpr rfl
def Aa(h:PE X e (tI X.K B f)):PE X e (tP X.K B f):=cF h (by
 rintro σ H Q ⟨A,st,d,a,b,q⟩;exact⟨A,st,d,a,b,λv c s r=>q v c s<|.inl r⟩)
def eO(n:X.N[i]?=some x:=by rfl)(l:Ah X.env.scope x:=by exact tj rfl)(b:pf x:=by decide)
  (f:Yi x:=by decide):PE X (.Name x pos) (tP X.K B<|dB i):=by
 refine cF (oF n l b f) ?_
 rintro σ H Q ⟨A,st,d,c,b,q⟩;unfold dB at b;split at b
 .rename_i p e;cases b;obtain⟨v,e1,r⟩:=c.val i _ e;exact⟨v,e1,q v H (bG.refl _)<|.inl r⟩
 .rename_i k xs e;cases b;obtain⟨a,o,g,e1,m,h,j,r,_⟩:=c.lst i _ _ e;exact⟨_,e1,q _ H (bG.refl _)<|.inr ⟨a,_,o,xs,g,rfl,rfl,h,j,r⟩⟩
 cases b
section
variable{K:Frag}
theorem lZ.Sb(h:lZ K A H .Sb v):v=V.Sb:=by
 rcases h with h|⟨_,k,_,_,_,e,_⟩
 .exact uN.mp h
 cases k<;>cases e
theorem lZ.bl{q:Bool}(h:lZ K A H (.bl q) v):v=V.bl q:=by
 rcases h with h|⟨_,k,_,_,_,e,_⟩
 .exact dW.mp h
 cases k<;>cases e
theorem lZ.int{i:Int}(h:lZ K A H (.int i) v):v=V.int i:=by
 rcases h with h|⟨_,k,_,_,_,e,_⟩
 .exact bO.mp h
 cases k<;>cases e
theorem lZ.str{s:ac}(h:lZ K A H (.str s) v):v=V.str ⟨s.toArray⟩:=by
 rcases h with h|⟨_,k,_,_,_,e,_⟩
 .exact dX.mp h
 cases k<;>cases e
theorem lZ.tup{ds:dL}(h:lZ K A H (.tup ds) v):∃a vs,v=V.ref a/\Xf K H a vs/\bJ K (hide A H) ds vs:=by
 rcases h with h|⟨_,k,_,_,_,e,_⟩
 .obtain⟨a,vs,e,q,r⟩:=gW h;exact⟨a,vs,e,zA (aX _ _) q,r⟩
 cases k<;>cases e
theorem lZ.lst{ds:dL}(h:lZ K A H (.lst ds) v):∃a vs,v=V.ref a/\Qc K H a vs/\bJ K (hide A H) ds vs:=by
 rcases h with h|⟨a,k,o,c,vs,e,e2,h,b,r⟩
 .obtain⟨a,vs,e,q,r⟩:=fX.mp h;exact⟨a,vs,e,(aX _ _).seq q,r⟩
 cases k<;>cases e;subst b;exact⟨a,vs,e2,Qc.of h,r⟩
end
def Gi(K:Frag)(r:R2)(o:Rf):Prop:=∀(A:bv)(H:Hp)(x y d:D)(v u:V)(Q:VK),Own A H->lZ K A H x v->lZ K A H y u->o x y=.ok d->
 (∀w a,bG H a->Bb K (hide A a) d w->Q w a)->r v u H Q
def xy{r:R2}{o:Rf}(s:Gi X.K r o) {Q:VK} (h:tI X.K B (e2 o f g) σ H Q):MB r (tP X.K B f) (tP X.K B g) σ H Q:=by
 obtain⟨A,st,d,b,m,q⟩:=h;obtain⟨x,l,p⟩:=R.qa m;obtain⟨y,k,n⟩:=R.qa p;exact⟨A,st,x,b,l,λv C s1 i=>⟨A,st,y,b.mono s1,k,λu t a e=>s _ t x y d v u Q (b.own.mono<|s1.trans a) (i.mono a) e n λw z c j=>q w z (s1.trans<|a.trans c) j⟩⟩
def Km{c:Operator}{r:R2}{o:Rf}(d:Oe X (binaryOp c) r)(j:Gi X.K r o)(i:PE X a (tP X.K B f))(e:PE X b (tP X.K B g)):PE X (.BinOp a c b pos) (tI X.K B<|e2 o f g):=
 cF (S8 d i e) λ_ _ _ h=>xy j h
def iH{r:R2}{o:Rf}(c:Oe X (compareOp op) r)(j:Gi X.K r o)(i:PE X a (tP X.K B f))(e:PE X b (tP X.K B g))(d:behindInMarks op b=false:=by first|exact C7 _|rfl):PE X (.Compare a [op] [b] pos) (tI X.K B<|e2 o f g):=
 cF (bIh c i e d) λ_ _ _ h=>xy j h
def b_{f:Ex} {Q:KM} (h:tT X.K B f σ H Q):tI X.K B f σ H λx a=>∃k,x=.bl k/\Q k a:=by
 obtain⟨A,st,k,b,c,q⟩:=h;exact⟨A,st,.bl k,b,c,λv a s r=>⟨k,dW.mp r,q a s⟩⟩
def cI{r:R2}{o:Rf}(c:Oe X (compareOp op) r)(j:Gi X.K r o)(i:PE X a (tP X.K B f))(e:PE X b (tP X.K B g))(d:behindInMarks op b=false:=by first|exact C7 _|rfl):PT X (.Compare a [op] [b] pos) (tT X.K B<|e2 o f g):=
 bP (bIi c i e d) λ_ _ _ h=>xy j<|b_ h
def fM{f:Ex}(h:PE X e (tI X.K B f))(he:∀whole,isTrue e X.env whole=(do let v <- whole;standAt e.pos;holding [v] (truthy v)):=by intro _;rfl):PT X e (tT X.K B f):=
 bP (bNi h he) λ_ _ _ q=>b_ q
def zV{K:Frag}{g:Int->Int->D} {o:Rf} (c:∀H i j,Bb K H (g i j)<|gv i j) (f:∀x y d,o x y=.ok d->∃i j,x=.int i/\y=.int j/\d=g i j):Gi K (Tj gv) o:=by
 intro A H x y d v u Q w b a e q;obtain⟨i,j,rfl,rfl,rfl⟩:=f x y d e;exact⟨i,j,b.int,a.int,q _ H (bG.refl _)<|c _ _ _⟩
def yy{K:Frag}{C:Int->Int->Prop}{g:Int->Int->D} {o:Rf} (f:∀H i j,Bb K H (g i j)<|gv i j) (h:∀x y d,o x y=.ok d->∃i j,x=.int i/\y=.int j/\C i j/\d=g i j):Gi K (rI C gv) o:=by
 intro A H x y d v u Q w b a e q;obtain⟨i,j,rfl,rfl,c,rfl⟩:=h x y d e;exact⟨i,j,b.int,a.int,c,q _ H (bG.refl _)<|f _ _ _⟩
def VP(h:PE X a (tP X.K B f))(c:PE X b (tP X.K B g)):PE X (.BinOp a .Sub b pos) (tI X.K B<|e2 Yv f g):=
 Km bNv (zV (λ_ _ _=>bO.mpr rfl) λx y d e=>by
  unfold Yv at e;split at e
  .cases e;exact⟨_,_,rfl,rfl,rfl⟩
  cases e) h c
def Xr(i:PE X a (tP X.K B f))(h:PE X b (tP X.K B g)):PE X (.BinOp a .FloorDiv b pos) (tI X.K B<|e2 xZ f g):=
 Km bIf (yy (λ_ _ _=>bO.mpr rfl) λx y d e=>by
  unfold xZ at e;split at e
  .obtain⟨c,e⟩:=aM e;cases e;exact⟨_,_,rfl,rfl,c,rfl⟩
  cases e) i h
def mH(i:PE X a (tP X.K B f))(h:PE X b (tP X.K B g)):PE X (.BinOp a .Mod b pos) (tI X.K B<|e2 mJ f g):=
 Km bNw (yy (λ_ _ _=>bO.mpr rfl) λx y d e=>by
  unfold mJ at e;split at e
  .obtain⟨c,e⟩:=aM e;cases e;exact⟨_,_,rfl,rfl,c,rfl⟩
  cases e) i h
def F9(i:PE X a (tP X.K B f))(h:PE X b (tP X.K B g)):PE X (.BinOp a .Pow b pos) (tI X.K B<|e2 VF f g):=
 Km bNx (yy (λ_ _ _=>bO.mpr rfl) λx y d e=>by
  unfold VF at e;split at e
  .obtain⟨c,e⟩:=aM e;cases e;exact⟨_,_,rfl,rfl,c,rfl⟩
  cases e) i h
def bT5(K:Frag):R2:=λx y H Q=>∃l b xs a,x=.ref l/\y=.ref b/\Qc K H l xs/\Qc K H b a/\xs.length+a.length<=sizeLine/\∀p,H p=none->Q (.ref p) (bb H p<|.lst<|xs++a)
theorem bKh:Oe X (binaryOp .Add) (bT5 X.K):=by
 intro R s σ H x y v u Q I o m h;refine Uc λB=>?_
 obtain⟨l,b,xs,K,rfl,rfl,A,C,O,q⟩:=h;cases o;cases m;obtain⟨a,r,⟨⟨F,E,g,k⟩,n,f,w,_,t⟩,z⟩:=I.list A;obtain⟨c,e,⟨⟨P,G,data2,J⟩,p,i,j,_,d⟩,L⟩:=I.list C;subst w t j d;have N:=r.length;have M:=e.length;refine B ?_
 refine concat_meets ⟨_,f,rfl⟩ ⟨_,i,rfl⟩ noFill_list_add seq_list_add PySem.F.slot_list_add PySem.F.entry_list_add (PySem.F.args_list_add_2 _ _) (list_addW l b a.toArray c.toArray n p E G k J<|by simp;lia) ⟨f,i,?_⟩
 have D:a.toArray++c.toArray=(a++c).toArray:=by simp
 rw[D];exact⟨.ref _,_,I.Qp (r.append e) (by rw[Ud];omega),rfl,q _ I.fresh⟩
def bKi(x y:ac):(⟨x.toArray⟩:Str)++(⟨y.toArray⟩:Str)=⟨(x++y).toArray⟩:=by
 show Str.append _ _=_;unfold Str.append;simp
def str_len(x:ac):(⟨x.toArray⟩:Str).length=x.length:=by simp[Str.length]
def lim(h:n<=big):n<=sizeLine:=Xd (by rwa [lB]at h) (by decide)
def gY(t:PE X a (tP X.K B f))(s:PE X b (tP X.K B g)):PE X (.BinOp a .Add b pos) (tI X.K B<|e2 iJ f g):=by
 refine Km (bNu.or<|aVc.or bKh) ?_ t s;intro A H x y d v u Q w i h e q;refine Uc λj=>?_
 unfold iJ at e;split at e
 .cases e;exact j<|.inl ⟨_,_,i.int,h.int,q _ H (bG.refl _)<|bO.mpr rfl⟩
 .obtain⟨c,e⟩:=aM e;cases e;exact j<|.inr<|.inl ⟨_,_,i.str,h.str,lim c,q _ H (bG.refl _)<|dX.mpr<|by rw[bKi]⟩
 rotate_left
 .cases e
 obtain⟨c,e⟩:=aM e;cases e;obtain⟨l,xs,e1,C,n⟩:=i.lst;obtain⟨m,r,e2,z,k⟩:=h.lst;exact j<|.inr<|.inr ⟨l,m,xs,r,e1,e2,C,z,by rw[(n.length),(k.length)];exact lim c,λp o=>q _ _ (bN o)<|fB w o<|n.append k⟩
def JE{K:Frag}:Gi K (Tj λi j=>.bl<|decide (i<=j)) Jt:=zV (λ_ _ _=>dW.mpr rfl) λx y d e=>by
 unfold Jt at e;split at e
 .cases e;exact⟨_,_,rfl,rfl,rfl⟩
 cases e
def F8{K:Frag}:Gi K (Tj λi j=>.bl<|decide (j<i)) VH:=zV (λ_ _ _=>dW.mpr rfl) λx y d e=>by
 unfold VH at e;split at e
 .cases e;exact⟨_,_,rfl,rfl,rfl⟩
 cases e
def eP{K:Frag}:Gi K (Tj λi j=>.bl<|decide (j<=i)) Ow:=zV (λ_ _ _=>dW.mpr rfl) λx y d e=>by
 unfold Ow at e;split at e
 .cases e;exact⟨_,_,rfl,rfl,rfl⟩
 cases e
theorem lZ.ref{K:Frag}{A:bv}{H:Hp}{d:D}{v:V}(h:lZ K A H d v)(j:d≠.Sb)(g:∀b,d≠.bl b)(f:∀i,d≠.int i)(c:∀s,d≠.str s):∃a,v=V.ref a:=by
 rcases h with h|⟨a,_,_,_,_,_,e,_⟩
 .cases d with
  |Sb=>exact(j rfl).elim
  |bl b=>exact(g b rfl).elim
  |int i=>exact(f i rfl).elim
  |str s=>exact(c s rfl).elim
  |tup _=>obtain⟨a,_,e,_⟩:=gW h;exact⟨a,e⟩
  |lst _=>obtain⟨a,_,e,_⟩:=fX.mp h;exact⟨a,e⟩
  |Fe _ _ _=>obtain⟨a,_,e,_⟩:=nY.mp h;exact⟨a,e⟩
  |ins _ _ _=>obtain⟨a,_,_,_,_,e,_⟩:=ZD.mp h;exact⟨a,e⟩
  |km _ _ _=>obtain⟨a,_,_,e,_⟩:=bKg.mp h;exact⟨a,e⟩
  |fn _=>obtain⟨a,e,_⟩:=ZO.mp h;exact⟨a,e⟩
 exact⟨a,e⟩
def bKj{K:Frag} (h:lZ K A H d v):decide (v=V.Sb)=Hr d:=by
 cases d with
 |Sb=>rw[h.Sb];rfl
 |bl _=>rw[h.bl];rfl
 |int _=>rw[h.int];rfl
 |str _=>rw[h.str];rfl
 |tup _=>obtain⟨a,b,e,_⟩:=h.tup;rw[e];rfl
 |lst _=>obtain⟨a,b,e,_⟩:=h.lst;rw[e];rfl
 |Fe _ _ _=>obtain⟨a,e⟩:=h.ref (by intro z;cases z) (by intro _ z;cases z) (by intro _ z;cases z) (by intro _ z;cases z);rw[e];rfl
 |ins _ _ _=>obtain⟨a,e⟩:=h.ref (by intro z;cases z) (by intro _ z;cases z) (by intro _ z;cases z) (by intro _ z;cases z);rw[e];rfl
 |km _ _ _=>obtain⟨a,e⟩:=h.ref (by intro z;cases z) (by intro _ z;cases z) (by intro _ z;cases z) (by intro _ z;cases z);rw[e];rfl
 |fn _=>obtain⟨a,e⟩:=h.ref (by intro z;cases z) (by intro _ z;cases z) (by intro _ z;cases z) (by intro _ z;cases z);rw[e];rfl
def bGn(n:Nat)(i:Int):L2.rj n i=Pu.rj n i:=rfl
theorem bJ.yd{K:Frag}{H:Hp}{ds:dL}{vs:o0}{i:Int}{d:D}(r:bJ K H ds vs)(e:Pu.yd ds i=some d):∃v,L2.yd vs i=some v/\Bb K H d v:=by
 unfold Pu.yd at e;unfold L2.yd;rw[r.length,bGn];cases h:Pu.rj ds.length i with
 |none=>rw[h]at e;cases e
 |some j=>
  rw[h]at e;exact r.get e
def zW{o:Option α}{a:α}(h:Ih o=.ok a):o=some a:=by
 cases o with
 |none=>cases h
 |some b=>cases h;rfl
def bPe{K:Frag}{x:D}(p:U9 x=false)(A:bv)(H:Hp)(r y d:D)(v u:V)(Q:VK)(w:Own A H)(b:lZ K A H x v)(a:lZ K A H y u)(e:Wa x y=.ok d)(q:∀w n,bG H n->Bb K (hide A n) d w->Q w n):MI K v u H Q:=by
 refine Uc λj=>?_
 unfold Wa at e;split at e
 .cases p
 .have h:=zW e;obtain⟨l,xs,e1,m,g⟩:=b.lst;obtain⟨z,k,f⟩:=g.yd h;exact j<|.inl ⟨l,xs,_,z,e1,a.int,m,k,q _ H (bG.refl _) f⟩
 .have h:=zW e;obtain⟨l,xs,e1,m,g⟩:=b.tup;obtain⟨z,k,f⟩:=g.yd h;exact j<|.inr<|.inl ⟨l,xs,_,z,e1,a.int,m,k,q _ H (bG.refl _) f⟩
 .rename_i s i;obtain⟨o,e⟩:=aM e;cases h:Pu.yd s i with
  |none=>rw[h]at e;cases e
  |some c=>
   rw[h]at e;cases e;refine j<|.inr<|.inr ⟨_,i,c,b.str,a.int,lim o,?_,q _ H (bG.refl _)<|dX.mpr rfl⟩
   rwa [List.toList_toArray]
 cases e
def vq(h:PE X a (tI X.K B f)):PE X (.BoolOp .And [a] pos) (tI X.K B f):=A7 h
def bT6(h:PE X a (tI X.K B f)):PE X (.BoolOp .Or [a] pos) (tI X.K B f):=A7 h
def Gm{rest:List Expr}(o:PE X a (tI X.K B f))(n:PE X (.BoolOp .And (b::rest) pos) (tI X.K B g)):PE X (.BoolOp .And (a::b::rest) pos) (tI X.K B<|vA f g):=by
 refine cF (bNm o n) ?_
 rintro σ H Q ⟨A,st,d,c,m,q⟩;obtain⟨x,l,p⟩:=R.qa m;obtain⟨k,rfl,e⟩:=uZ p;refine⟨A,st,_,c,l,λv H1 s1 i=>⟨k,dW.mp i,?_⟩⟩
 cases k with
 |true=>exact⟨A,st,d,c.mono s1,e,λw r h j=>q w r (s1.trans h) j⟩
 |false=>cases e;exact q _ H1 s1<|dW.mpr rfl
def bV8{rest:List Expr}(o:PE X a (tI X.K B f))(n:PE X (.BoolOp .Or (b::rest) pos) (tI X.K B g)):PE X (.BoolOp .Or (a::b::rest) pos) (tI X.K B<|xk f g):=by
 refine cF (bRc o n) ?_
 rintro σ H Q ⟨A,st,d,c,m,q⟩;obtain⟨x,l,p⟩:=R.qa m;obtain⟨k,rfl,e⟩:=uZ p;refine⟨A,st,_,c,l,λv H1 s1 i=>⟨k,dW.mp i,?_⟩⟩
 cases k with
 |true=>cases e;exact q _ H1 s1<|dW.mpr rfl
 |false=>exact⟨A,st,d,c.mono s1,e,λw r h j=>q w r (s1.trans h) j⟩
def bT7(h:PE X a (tI X.K B f)):PE X (.UnaryOp .Not a pos) (tI X.K B<|tH f):=by
 refine cF (bNn h) ?_
 rintro σ H Q ⟨A,st,d,b,g,q⟩;obtain⟨x,e,j⟩:=R.qa g;obtain⟨k,rfl,i⟩:=uZ j;cases i;exact⟨A,st,_,b,e,λv l s1 c=>⟨k,dW.mp c,q _ l s1<|dW.mpr rfl⟩⟩
def Av(h:PT X a (tT X.K B f)):PW X (.BoolOp .And [a] pos) (tT X.K B f):=bIa h
def Gs(h:PT X a (tT X.K B f)):PW X (.BoolOp .Or [a] pos) (tT X.K B f):=bNj h
def Rv{rest:List Expr}(m:PT X a (tT X.K B f))(l:PW X (.BoolOp .And (b::rest) pos) (tT X.K B g)):PW X (.BoolOp .And (a::b::rest) pos) (tT X.K B<|vA f g):=by
 refine w8 (bNk m l) ?_
 rintro σ H Q ⟨A,st,d,c,j,q⟩;obtain⟨x,i,n⟩:=R.qa j;obtain⟨k,rfl,e⟩:=uZ n;refine⟨A,st,k,c,i,λH1 s1=>?_⟩
 cases k with
 |true=>exact⟨A,st,d,c.mono s1,e,λo h=>q o<|s1.trans h⟩
 |false=>cases e;exact q H1 s1
def Nq{rest:List Expr}(m:PT X a (tT X.K B f))(l:PW X (.BoolOp .Or (b::rest) pos) (tT X.K B g)):PW X (.BoolOp .Or (a::b::rest) pos) (tT X.K B<|xk f g):=by
 refine w8 (bR9 m l) ?_
 rintro σ H Q ⟨A,st,d,c,j,q⟩;obtain⟨x,i,n⟩:=R.qa j;obtain⟨k,rfl,e⟩:=uZ n;refine⟨A,st,k,c,i,λH1 s1=>?_⟩
 cases k with
 |true=>cases e;exact q H1 s1
 |false=>exact⟨A,st,d,c.mono s1,e,λo h=>q o<|s1.trans h⟩
def tD(g:PT X a (tT X.K B f)):PT X (.UnaryOp .Not a pos) (tT X.K B<|tH f):=by
 refine bP (bNl g) ?_
 rintro σ H Q ⟨A,st,d,b,e,q⟩;obtain⟨x,c,i⟩:=R.qa e;obtain⟨k,rfl,h⟩:=uZ i;cases h;exact⟨A,st,k,b,c,λj s1=>q j s1⟩
def G9{c:Expr}{t:Ex}(o:PT X c (tT X.K B t))(r:PE X a (tI X.K B f))(p:PE X b (tI X.K B g)):PE X (.IfExp c a b pos) (tI X.K B<|Qw t f g):=by
 refine cF (bDh o r p) ?_
 rintro σ H Q ⟨A,st,d,h,n,q⟩;obtain⟨x,m,s⟩:=R.qa n;obtain⟨k,rfl,l⟩:=uZ s;refine⟨A,st,k,h,m,λu s1=>?_⟩
 cases k with
 |true=>exact⟨A,st,d,h.mono s1,l,λw j e i=>q w j (s1.trans e) i⟩
 |false=>exact⟨A,st,d,h.mono s1,l,λw j e i=>q w j (s1.trans e) i⟩
def aL:PA X [] (tA X.K B aQ):=A8 fD (by
 rintro σ H Q ⟨A,st,d,b,a,q⟩;cases a;exact q [] H (bG.refl _) .nil)
def aB{r:De}(k:PE X e (tI X.K B f))(i:PA X es (tA X.K B r))(hs:sf e es X.env:=by rfl):PA X (e::es) (tA X.K B<|aC f r):=by
 refine A8 (cN k i hs) ?_
 rintro σ H Q ⟨A,st,ds,b,j,q⟩;obtain⟨x,h,m⟩:=R.qa j;obtain⟨xs,c,l⟩:=R.qa m;cases l;exact⟨A,st,x,b,h,λv p s1 g=>⟨A,st,xs,b.mono s1,c,λo n a d=>q _ n (s1.trans a)<|.cons (g.mono<|bG.hide a) d⟩⟩
def zB{r:De}{f:Nat}(h:PA X es (tA X.K B r)):PE X (.Tuple es f pos) (tI X.K B<|yi r):=by
 refine cF (bO4 h) ?_
 rintro σ H Q ⟨A,st,d,a,i,q⟩;obtain⟨xs,g,k⟩:=R.qa i;obtain⟨c,j⟩:=aM k;cases j;exact⟨A,st,xs,a,g,λl m s1 b=>⟨by rw[b.length];exact lim c,λp e=>q _ _ (s1.trans<|bN e)<|sY (a.own.mono s1) e b⟩⟩
def Zn{r:De}(h:PA X es (tA X.K B r)):PE X (.List es pos) (tI X.K B<|mK r):=by
 refine cF (AO h) ?_
 rintro σ H Q ⟨A,st,d,a,g,q⟩;obtain⟨xs,f,j⟩:=R.qa g;obtain⟨c,i⟩:=aM j;cases i;exact⟨A,st,xs,a,f,λk l s1 b=>⟨by rw[b.length];exact lim c,λp e=>q _ _ (s1.trans<|bN e)<|fB (a.own.mono s1) e b⟩⟩
def Tb(K:Frag)(c:Nat)(p:ca):Sp:=λb H Q _=>∃A ds d,Own A H/\bJ K (hide A H) ds b/\ds.length=c/\p ds=.ok d/\∀v a,bG H a->Bb K (hide A a) d v->Q v a
def bPf{k:Nat} {r:De} (F:Ca X.prog X.w X.K X.mg X.base Ab k fa fd ps (Tb X.K np p)) (h:Kb k X.A) (i:X.mg x=some (.ref fa))
  (l:keepIn X.K (.ref fa)=true) (o:Binds X.K fd ps []) (j:∀ds d,p ds=.ok d->ds.length=np) (s:PA X (e::es) (tA X.K B r)) (m:Gl X x:=by rfl) (u:pf x:=by decide)
  (he:sf e es X.env:=by rfl) (rf:Zi pos es X.env:=by rfl) :
  PE X (.Call (.Name x p0) (e::es) [] pos) (tI X.K B<|aO p r):=by
 refine cF (VM F h m i l o .nil Hv s u he rf) ?_
 rintro σ H Q ⟨A,st,d,a,n,q⟩;obtain⟨xs,g,b⟩:=R.qa n;refine⟨A,st,xs,a,g,λv H1 s1 r1=>?_⟩
 show Tb X.K np p _ H1 Q E0;rw[Nh];exact⟨A++B,xs,d,a.own.mono s1,r1,j _ _ b,b,λw t c f=>q w t (s1.trans c) f⟩
end
def Zx(a b:Key):Gf (pC a) (pC b)=decide (a=b):=by
 cases a with
 |inl i=>
  cases b with
  |inl j=>unfold pC Gf;rw[m7]
  |inr y=>unfold pC Gf;rw[p7]
 |inr x=>
  cases b with
  |inl j=>unfold pC Gf;rw[t7]
  |inr y=>
   unfold pC Gf;rw[o7,Cw,Nm,qh];constructor
   .intro h;cases x;congr 1;exact ext' h
   rintro rfl;rfl
theorem A3:∀(a b:Gc),ao (a.map pC) (b.map pC)=decide (a=b)
 |[],[]=>by unfold ao;simp
 |[],_::_=>by unfold ao;simp
 |_::_,[]=>by unfold ao;simp
 |x::a,y::b=>by
  rw[gf,gf];unfold ao;rw[Zx,(A3 a b),Cw,Wk,qh,qh,qh,List.cons.injEq]
def C3(a b:Gc):Gf (.tup<|a.map pC) (.tup<|b.map pC)=decide (a=b):=by
 rw[<-A3]
 conv=>lhs;unfold Gf
section
variable{κ:Type}[DecidableEq κ]{E:κ->D}(hE:∀a b,Gf (E a) (E b)=decide (a=b)){K:Frag}{H:Hp}
include hE
theorem MN(k:κ):∀(b:List (κ×V)) (ds:dL),bJ K H ds (b.map (·.2))->(∀d,uW (b.map λp=>E p.1) ds (E k)=some d->∃v,wV b k=some v/\Bb K H d v)/\(wV b k).isSome=oG (b.map λp=>E p.1) (E k)
 |[],ds,r=>⟨λd h=>by cases ds<;>simp[uW]at h,rfl⟩
 |(a,v)::b,ds,r=>by
  cases ds with
  |nil=>have:=cZ.mp r;simp at this
  |cons d ds=>
   obtain⟨m,n,e,l,j⟩:=bR.mp r;injection e with e1 e2
   subst e1 e2;obtain⟨i,g⟩:=MN k b ds j
   by_cases f:a=k
   .have c:Gf (E a) (E k)=true:=by rwa [hE,qh]
    refine⟨λd' h=>?_,?_⟩
    .unfold uW at h;rw[gf,yt,M_ (by simpa using c)]at h
     cases h;exact⟨v,Dx f,l⟩
    rw[Dx f];unfold oG;rw[gf,Bt,c];rfl
   have c:Gf (E a) (E k)=false:=by rwa [hE,E_]
   refine⟨λd' h=>?_,?_⟩
   .rw[Fx f];refine i d' ?_
    unfold uW at h ⊢
    rwa [gf,yt,N_ (by simpa using c)]at h
   rw[Fx f,g];unfold oG;rw[gf,Bt,c];rfl
def E3(k:κ)(a:List (κ×V)):(a.any λb=>decide (b.1=k))=oG (a.map λp=>E p.1) (E k):=by
 unfold oG;rw[Jw];congr 1;funext p;simp[hE]
def NN(k:κ)(v:V)(d:D)(i:Bb K H d v)(b:List (κ×V))(ds:dL)(r:bJ K H ds (b.map (·.2))) :
  (Be b k v).map (λp=>E p.1)=uX (b.map λp=>E p.1) (E k)/\bJ K H (uY (b.map λp=>E p.1) ds (E k) d) ((Be b k v).map (·.2)):=by
 unfold Be uX uY;rw[E3 hE]
 by_cases c:oG (b.map λp=>E p.1) (E k)=true
 .rw[jb c,jb c,jb c];constructor
  .rw[Dg];refine Xs λp _=>?_
   simp;split<;>rfl
  clear c
  induction b generalizing ds with
  |nil=>have:=r.length;cases ds with|nil=>exact .nil|cons _ _=>simp at this
  |cons p b g=>
   obtain⟨a,w⟩:=p;cases ds with
   |nil=>have:=cZ.mp r;simp at this
   |cons o ds=>
    obtain⟨l,m,e,n,j⟩:=bR.mp r;injection e with e1 e2
    subst e1 e2;rw[gf,gf,yt,gf];refine .cons ?_<|g ds j
    by_cases f:a=k
    .rwa [jb (by rwa [hE,qh]),jb f]
    have h:Gf (E a) (E k)=false:=by rwa [hE,E_]
    rwa [Pa (by rw[h];exact Wl),Pa f]
 rw[Pa c,Pa c,Pa c];refine⟨by rw[Hg];rfl,?_⟩
 rw[Hg];exact r.append<|.cons i .nil
end
def zX{K:Frag} (r:Bb K H d v) (h:lc false d=true):∃k:Key,d=pC k/\v=kV k:=by
 cases d<;>first|(cases h;done)|skip
 .exact⟨.inl _,rfl,bO.mp r⟩
 exact⟨.inr _,rfl,dX.mp r⟩
theorem CY{K:Frag}{H:Hp}:∀{ds:dL}{vs:o0},bJ K H ds vs->ds.all XF=true->∃a:Gc,ds=a.map pC/\vs=a.map kV
 |[],vs,r,_=>⟨[],rfl,cZ.mp r⟩
 |d::ds,vs,r,h=>by
  obtain⟨v,g,rfl,c,b⟩:=bR.mp r;rw[all_cons,Wk]at h;obtain⟨a,e1,e2⟩:=CY b h.2;obtain⟨k,f,e⟩:=zX c (by cases d<;>first|(cases h.1;done)|rfl)
  exact⟨k::a,by rw[e1,f];rfl,by rw[e2,e];rfl⟩
def eK{K:Frag} (r:Bb K H d v) (h:lc true d=true):∃(a:Gc)(b:Addr),d=.tup (a.map pC)/\v=.ref b/\H b=some (.tup<|a.map kV):=by
 cases d<;>first|(cases h)|skip
 obtain⟨b,f,e,g,c⟩:=pX.mp r;obtain⟨a,e1,e2⟩:=CY c (by
  unfold lc at h;simpa using h)
 exact⟨a,b,by rw[e1],e,by rwa [<-e2]⟩
def aE{K:Frag} {t:Bool} {l:dL} {k:D} {u:V} (F:lZ K A H (.Fe t l ds) v) (C:Bb K H k u) (E:lc t k=true) :
  ∃a o,v=.ref a/\fj H a u o/\o.isSome=oG l k/\∀d,uW l ds k=some d->∃w,o=some w/\Bb K (hide A H) d w:=by
 have m:∃a g,v=V.ref a/\((t=false/\∃c:List _,H a=some (.dK c)/\c.map (λp=>pC p.1)=l/\g=c.map (·.2))\/(t=true/\∃c:List _,H a=some (.dT c)/\c.map (λp=>D.tup<|p.1.map pC)=l/\g=c.map (·.2)))/\bJ K (hide A H) ds g:=by
  rcases F with h|⟨a,I,o,L,g,e,e2,h,G,r⟩
  .obtain⟨a,g,e,q,r⟩:=nY.mp h;refine⟨a,g,e,?_,r⟩;rcases q with ⟨j,c,f,i⟩|⟨j,c,f,i⟩
   .exact .inl ⟨j,c,aX _ _ _ _ f,i⟩
   exact .inr ⟨j,c,aX _ _ _ _ f,i⟩
  cases I<;>cases e;refine⟨a,g,e2,?_,r⟩;rcases G with ⟨j,c,f,i⟩|⟨j,c,f,i⟩
  .subst f;exact .inl ⟨j,c,h,i⟩
  subst f;exact .inr ⟨j,c,h,i⟩
 obtain⟨a,g,e,q,r⟩:=m;rcases q with ⟨rfl,c,f,rfl,rfl⟩|⟨rfl,c,f,rfl,rfl⟩
 .obtain⟨n,e1,e2⟩:=zX C E;subst e1 e2;obtain⟨x,s⟩:=MN Zx n c ds r;exact⟨a,_,e,fj.k f,s,λd y=>let ⟨w,B,z⟩:=x d y;⟨w,B,z⟩⟩
 obtain⟨n,b,e1,e2,J⟩:=eK C E;subst e1 e2;obtain⟨x,s⟩:=MN C3 n c ds r;exact⟨a,_,e,fj.t f J,s,λd y=>let ⟨w,B,z⟩:=x d y;⟨w,B,z⟩⟩
section
variable{X:Cx}{B:bv}{a b e:Expr}{f g:Ex}{pos:Pos}
def KQ:R2:=λx y H Q=>∃p v,x=.ref p/\fj H p y (some v)/\Q v H
theorem o6(o:X.A.units+64<cLine):Wn X KQ:=by
 intro a b k s σ H x y v u Q I f e h i;obtain⟨p,z,rfl,g,q⟩:=h;cases f;refine xa<|xa<|uz (Ť I g) PySem.F.slot_dict_getitem.lookup ?_;have c:wpAny (model X.prog X.w) X.A (subscripted b false (.ref p) u) (λr d=>wpAny (model X.prog X.w) X.A (letTemporaryGo a (.ref p) r >>= λ_=>pure r) (EP X k σ Q) X.xe d) X.xe s:=by
  rw[i];exact wpAny_operating<|Gj (bB6 (by lia) I g e λn d m l=>⟨z,H,m,l,q⟩) (λr d j=>xa<|wpAny_letTemporaryGo<|Ma j) λ_ _ x=>x
 first
  |exact Ma<|xa c
  |exact xa _
  |exact xa c
def p6{K:Frag}:Gi K (λx y H Q=>MI K x y H Q\/KQ x y H Q) Wa:=by
 intro A H x y d v u Q w c b e q
 by_cases f:U9 x=true
 .cases x<;>first|(cases f)|skip
  rename_i t l j;have s:aP (lc t y=true) (Ih<|uW l j y)=.ok d:=by cases y<;>exact e
  obtain⟨i,e2⟩:=aM s;obtain⟨a,o,r,g,_,n⟩:=aE c (by
   rcases b with h|⟨a,m,o,ds,B,e1,_⟩
   .exact h.mono (aX _ _)
   subst e1;cases m<;>cases t<;>cases i) i
  obtain⟨z,p,k⟩:=n d<|zW e2;subst p;exact .inr ⟨a,z,r,g,q _ H (bG.refl _) k⟩
 exact .inl<|bPe (by simpa using f) A H x y d v u Q w c b e q
def cA(e:PE X a (tP X.K B f))(d:PE X b (tP X.K B g))(hs:XM b:=by intro _ _;rfl)(c:X.A.units+64<cLine:=by exact Kb.units<|by assumption):PE X (.Subscript a b pos) (tI X.K B<|e2 Wa f g):=
 cF (V8 (F7.or<|o6 c) e d hs) λ_ _ _ h=>xy p6 h
def bC4:mF X (.builtin "len") (λxs H Q=>∃a b,xs=[V.ref a]/\H a=some (.dK b)/\Q (.int b.length) H):=by
 intro i s σ H xs f Q I r h;obtain⟨a,b,rfl,d,q⟩:=h;obtain⟨u,rfl,c⟩:=r.one;obtain rfl:u=Value.ref a:=c;exact bRx I (.inl d) λt g e=>⟨.int b.length,H,e,⟨t,rfl⟩,q⟩
def bKk{K:Frag} {d:dL} (g:lZ K A H (.Fe false d ds) v):∃a b,v=.ref a/\H a=some (.dK b)/\b.length=d.length:=by
 rcases g with h|⟨a,k,o,l,f,e,e2,h,j,r⟩
 .obtain⟨a,f,e,q,r⟩:=nY.mp h;rcases q with ⟨_,b,i,rfl,_⟩|⟨c,_⟩
  .exact⟨a,b,e,aX _ _ _ _ i,by simp⟩
  cases c
 cases k<;>cases e;rcases j with ⟨_,b,rfl,rfl,_⟩|⟨c,_⟩
 .exact⟨a,b,e2,h,by simp⟩
 cases c
end
section
variable{K:Frag} {st:za}
def RC{k:OK} (h:(st.set i<|some<|.v d)[j]?=some (some<|.o k xs)):j≠i/\st[j]?=some (some<|.o k xs):=by
 rw[ug]at h
 by_cases e:i=j
 .subst e;rw[jb rfl]at h;split at h<;>simp at h
 rw[Pa e]at h;exact⟨λz=>e z.symm,h⟩
def Le.app(l:Le A H A' H'):bG (hide (A++B) H) (hide (A'++B) H'):=λb u q=>by
 have d:=aX _ _ _ _ q;have c:b∉A++B:=λz=>by rw[dC z]at q;cases q
 have a:=l b u (by rwa [bF λz=>c<|Sf _ z])
 rw[bF λz=>(tf.mp z).elim (λz=>by rw[dC z]at a;cases a) λz=>c<|Ke _ z]
 exact aX _ _ _ _ a
theorem RS.set(r:RS K B A H st σ){d:D}{v:V}(i:Nat)(h:Bb K (hide (A++B) H) d v):RS K B A H (st.set i<|some<|.v d) (σ.set i<|some v) where
 len:=by rw[gm,gm,r.len]
 own:=r.own
 Zf:=r.Zf
 val:=λj w e=>by
  rw[ug]at e
  by_cases c:i=j
  .subst c;rw[jb rfl]at e;split at e
   .simp at e;subst e;exact⟨v,by rw[ug,jb rfl,jb (by rwa [<-r.len])],h⟩
   cases e
  rw[Pa c]at e;obtain⟨u,e1,q⟩:=r.val j w e;exact⟨u,by rwa [ug,Pa c],q⟩
 lst:=λj l xs e=>by
  obtain⟨p,t⟩:=RC e;obtain⟨a,o,f,e1,m,s,g,q,u⟩:=r.lst j l xs t;refine⟨a,o,f,by rwa [ug,Pa λz=>p z.symm],m,s,g,q,λk k' ys ek vh=>?_⟩
  obtain⟨n,b⟩:=RC ek;rw[ug,Pa λz=>n z.symm]at vh
  exact u k k' ys b vh
def bKl{p:Addr} (n:nT o=true) (w:Own (A++B) H):Own ((p::A)++B) (bb H p o):=λa b=>by
 by_cases e:a=p
 .subst e;rwa [bK]
 rw[aW e];exact w a<|(qc.mp b).resolve_left e
def BD{p:Addr} (d:H p=none):bG (hide (A++B) H) (hide ((p::A)++B)<|bb H p o):=λb u q=>by
 have c:=aX _ _ _ _ q;have e:b∉A++B:=λz=>by rw[dC z]at q;cases q
 have a:=bD c d
 rwa [bF<|show b∉(p::A)++B from λz=>(qc.mp z).elim a e,aW a]
def Bv{p:Addr} (d:H p=none):Le A H (p::A) (bb H p o):=λb u q=>by
 have c:=aX _ _ _ _ q;have a:=bD c d
 rwa [bF λz=>(qc.mp z).elim a (λz=>by rw[dC z]at q;cases q),aW a]
def RS.Nn(r:RS K B A H st σ){p:Addr}{v:OK} (i:Nat) (c:H p=none) (t:kq K v p o vs) (h:bJ K (hide (A++B) H) ds vs) :
  RS K B (p::A) (bb H p o) (st.set i<|some<|.o v ds) (σ.set i<|some<|.ref p) where
 len:=by rw[gm,gm,r.len]
 own:=bKl t.nt r.own
 Zf:=λa l w=>by
  rcases qc.mp l with rfl|l
  .exact r.own.free c (Ke _ w)
  exact r.Zf a l w
 val:=λj C e=>by
  rw[ug]at e
  by_cases b:i=j
  .subst b;rw[jb rfl]at e;split at e<;>simp at e
  rw[Pa b]at e;obtain⟨u,e1,q⟩:=r.val j C e;exact⟨u,by rwa [ug,Pa b],q.mono<|BD c⟩
 lst:=λj y xs e=>by
  rw[ug]at e
  by_cases b:i=j
  .subst b;rw[jb rfl]at e;split at e
   .simp at e;obtain⟨z,e⟩:=e;subst z e;refine⟨p,o,vs,by rw[ug,jb rfl,jb (by rwa [<-r.len])],qb,bK,t,h.mono<|BD c,λk k' ys ek vh=>?_⟩
    by_cases d:i=k
    .exact d.symm
    rw[ug,Pa d]at ek vh;obtain⟨a,n,x,e1,m,f,_⟩:=r.lst k k' ys ek;rw[e1]at vh;cases vh;rw[c]at f;cases f
   cases e
  rw[Pa b]at e;obtain⟨a,n,x,e1,m,f,g,q,u⟩:=r.lst j y xs e;have s:=bD f c;refine⟨a,n,x,by rwa [ug,Pa b],Mb _ m,by rwa [aW s],g,q.mono<|BD c,λk k' ys ek vh=>?_⟩
  by_cases d:i=k
  .subst d;rw[ug,jb rfl]at vh;split at vh
   .simp at vh;exact absurd vh.symm s
   cases vh
  rw[ug,Pa d]at ek vh;exact u k k' ys ek vh
def RS.write(r:RS K B A H st σ) {y k1:OK} {o':HO} {Mg:o0} (D:st[i]?=some (some<|.o y xs)) (hs:σ[i]?=some (some<|.ref a)) (x:kq K k1 a o' Mg) (h:bJ K (hide (A++B) H) ds Mg) :
  RS K B A (bb H a o') (st.set i<|some<|.o k1 ds) σ/\Le A H A (bb H a o'):=by
 obtain⟨R,o,O,e1,m,P,_,q,u⟩:=r.lst i y xs D;rw[hs]at e1;cases e1;have E:hide (A++B) (bb H a o')=hide _ H:=sW<|Sf _ m;refine⟨⟨by rw[gm,r.len],λb hb=>?_,r.Zf,λj d e=>?_,λj kj ys e=>?_⟩,?_⟩
 .by_cases e:b=a
  .subst e;rw[bK];exact x.nt
  rw[aW e];exact r.own b hb
 .rw[E];rw[ug]at e
  by_cases l:i=j
  .subst l;rw[jb rfl]at e;split at e<;>simp at e
  rw[Pa l]at e;exact r.val j d e
 .rw[E];have w:∀{k:Nat}{s:OK}{p:dL},(st.set i<|some<|.o k1 ds)[k]?=some (some<|.o s p)->∃n f,st[k]?=some (some<|.o n f):=λ{k s p} g=>by
   rw[ug]at g
   by_cases C:i=k
   .subst C;exact⟨_,_,D⟩
   rw[Pa C]at g;exact⟨_,_,g⟩
  rw[ug]at e
  by_cases l:i=j
  .subst l;rw[jb rfl]at e;split at e
   .simp at e;obtain⟨J,e⟩:=e;subst J e;exact⟨a,o',Mg,hs,m,bK,x,h,λk s p g t=>let ⟨n,f,v⟩:=w g;u k n f v t⟩
   cases e
  rw[Pa l]at e;obtain⟨c,G,f,F,N,Q,I,M,L⟩:=r.lst j kj ys e;exact⟨c,G,f,F,N,by rwa [aW (λz=>by subst z;exact l (u j kj ys e F).symm)],I,M,λk s p g t=>let ⟨n,f,v⟩:=w g;L k n f v t⟩
 unfold Le;rw[sW m];exact bG.refl _
theorem RS.Bp(r:RS K B A H st σ)(i:Nat):∃t,RS K B t H (Pu.Bp st i) σ/\Le A H t H:=by
 unfold Pu.Bp;split
 .rename_i G xs e;obtain⟨a,o,R,e1,m,S,F,q,u⟩:=r.lst i G xs e;have g:∀b∈A.filter (λc=>decide (c≠a)),b∈A:=λb h=>(Vf.mp h).1
  have f:∀b∈A.filter _++B,b∈A++B:=λb h=>(tf.mp h).elim (λz=>Sf _<|g b z)<|Ke _
  have l:bG (hide _ H) _:=gP f;have Q:a∉A.filter (λc=>decide (c≠a))++B:=λz=>(tf.mp z).elim (λz=>vo (Vf.mp z).2 rfl)<|r.Zf a m
  refine⟨A.filter λc=>decide _,⟨by rw[gm,r.len],λb h=>r.own b<|f b h,λb h=>r.Zf b<|g b h,λj d ej=>?_,λj kj ys ej=>?_⟩,gP g⟩
  .rw[ug]at ej
   by_cases s:i=j
   .subst s;rw[jb rfl]at ej;split at ej
    .simp at ej;subst ej;exact⟨_,e1,F.rep (by rwa [bF Q])<|q.mono l⟩
    cases ej
   rw[Pa s]at ej;obtain⟨v,e2,C⟩:=r.val j d ej;exact⟨v,e2,C.mono l⟩
  obtain⟨J,p⟩:=RC ej;obtain⟨c,D,x,n,O,P,I,N,M⟩:=r.lst j kj ys p;exact⟨c,D,x,n,Vf.mpr ⟨O,Jd<|λz=>by subst z;exact J<|u j kj ys p n⟩,P,I,N.mono l,λk E w L y=>M k E w (RC L).2 y⟩
 exact⟨A,r,Le.refl⟩
def RS.fz(is:ac):∀{A:bv}{st:za},RS K B A H st σ->∃a,RS K B a H (is.foldl Pu.Bp st) σ/\Le A H a H:=by
 induction is with
 |nil=>exact λr=>⟨_,r,Le.refl⟩
 |cons i is f=>
  intro A st r;obtain⟨h,c,e⟩:=r.Bp i;obtain⟨g,b,d⟩:=f c;exact⟨g,b,e.trans d⟩
end
section
variable{X:Cx}{B:bv}{a b e:Expr}{f g:Ex}{pos:Pos}{bd Fo:Bd}{sm:Stmt}{rest:List Stmt}
def fK:Dd X [] (tS X.K B dF):=rJ J4 (by
 rintro c σ H ⟨A,st,r,a,b,p⟩;cases b;exact p A σ H Le.refl a)
def aJ(h:PS X sm (tS X.K B bd))(g:Dd X rest (tS X.K B Fo)):Dd X (sm::rest) (tS X.K B<|bA bd Fo):=by
 refine rJ (Bx h g) ?_
 rintro m σ H ⟨A,st,r,c,f,p⟩;obtain⟨x,e,a⟩:=R.qa f;refine⟨A,st,x,c,e,?_⟩;cases x with
 |nx s1=>exact λi k j l b=>⟨i,s1,r,b,a,p.mono l⟩
 |rt d=>cases a;exact p
 |bk s1=>cases a;exact p
 |ct s1=>cases a;exact p
def aU(a:PS X sm (tS X.K B bd)):Dd X [sm] (tS X.K B bd):=Kx a
def Cj(is:ac)(h:PS X sm (tS X.K B bd)):PS X sm (tS X.K B<|cj is bd):=kW h (by
 rintro e σ H ⟨A,st,r,b,c,p⟩;obtain⟨d,a,l⟩:=RS.fz is b;exact⟨d,_,r,a,c,p.mono l⟩)
def bW(h:PE X e (tI X.K B f)):PS X (.Return (some e) pos) (tS X.K B<|cT f):=kW (iy h) (by
 rintro j σ H ⟨A,st,r,a,b,p⟩;obtain⟨d,c,g⟩:=R.qa b;cases g;exact⟨A,st,d,a,c,λv i s q=>p A v i (Le.of s) q⟩)
def JF(h:PE X e (tI X.K B f))(hs:aj e none pos.line X.env:=by rfl):PS X (.Expr e pos) (tS X.K B<|aw f):=kW (Lx h hs) (by
 rintro j σ H ⟨A,st,r,a,b,p⟩;obtain⟨d,c,g⟩:=R.qa b;cases g;exact⟨A,st,d,a,c,λv i s q=>p A σ i (Le.of s)<|a.mono s⟩)
def bY(he:PE X e (tI X.K B f))(k:X.N.Nodup:=by assumption)(g:X.N[i]?=some x:=by rfl)(b:Loc X.env.scope x:=by exact Dl rfl)(hs:aj e (some<|.Name x pos') pos.line X.env:=by rfl)
  (h:sj X x:=by first|exact .inl rfl|exact .inr rfl|assumption):PS X (.Assign [.Name x pos'] e pos) (tS X.K B<|cG i f):=kW (nq k g b he hs h) (by
 rintro n σ H ⟨A,st,r,a,c,p⟩;obtain⟨d,j,l⟩:=R.qa c;cases l;exact⟨A,st,d,a,j,λv m s q=>p A _ m (Le.of s)<|(a.mono s).set i q⟩)
def tF(K:Frag)(B:bv)(f:Ex):TE:=λσ H Q=>∃A st ds,RS K B A H st σ/\f st=.ok (.lst ds)/\∀p b a,bG H a->a p=none->bJ K (hide (A++B) a) ds b->Q (.ref p) (bb a p<|.lst b)
def uD{r:De}(h:PA X es (tA X.K B r)):PE X (.List es pos) (tF X.K B<|mK r):=by
 refine cF (AO h) ?_
 rintro σ H Q ⟨A,st,d,e,i,q⟩;obtain⟨xs,f,k⟩:=R.qa i;obtain⟨c,j⟩:=aM k;cases j;exact⟨A,st,_,e,f,λb l s1 a=>⟨by rw[a.length];exact lim c,λp g=>q p b l s1 g a⟩⟩
def jR(he:PE X e (tF X.K B f))(n:X.N.Nodup:=by assumption)(k:X.N[i]?=some x:=by rfl)(h:Loc X.env.scope x:=by exact Dl rfl)(hs:aj e (some<|.Name x pos') pos.line X.env:=by rfl)
  (l:sj X x:=by first|exact .inl rfl|exact .inr rfl|assumption):PS X (.Assign [.Name x pos'] e pos) (tS X.K B<|mG i f):=kW (nq n k h he hs l) (by
 rintro u σ H ⟨A,st,r,b,j,p⟩;obtain⟨d,m,g⟩:=R.qa j;cases d<;>first|(cases g;done)|skip
 cases g;exact⟨A,st,_,b,m,λa o t s c q=>p _ _ _ ((Le.of s).trans<|Bv c)<|(b.mono s).Nn i c rfl q⟩)
def kE{c:Expr}{t:Ex}{x y:List Stmt}(g:PT X c (tT X.K B t))(i:Dd X x (tS X.K B bd))(h:Dd X y (tS X.K B Fo)):PS X (.If c x y pos) (tS X.K B<|Pd t bd Fo):=kW (Q8 g i h) (by
 rintro m σ H ⟨A,st,r,a,e,p⟩;obtain⟨d,f,j⟩:=R.qa e;obtain⟨k,rfl,b⟩:=uZ j;refine⟨A,st,k,a,f,λl s1=>?_⟩
 cases k with
 |true=>exact⟨A,st,r,a.mono s1,b,p.mono<|Le.of s1⟩
 |false=>exact⟨A,st,r,a.mono s1,b,p.mono<|Le.of s1⟩)
def bU(h:X.N.Nodup:=by assumption)(e:X.N[i]?=some x:=by rfl)(b:Loc X.env.scope x:=by exact Dl rfl)
  (g:sj X x:=by first|exact .inl rfl|exact .inr rfl|assumption):PG X (.Name x pos) (tG X.K B<|gb i):=C8 (K4 h e b g) (by
 rintro v σ H Q ⟨A,st,d,s1,a,c,f,q⟩;cases f;exact q _<|a.set i c)
def SI(K:Frag)(B:bv)(is:ac):Xn:=λb σ H Q=>∃A st ds s1,RS K B A H st σ/\bJ K (hide (A++B) H) ds b/\sv is ds st=.ok s1/\∀a,RS K B A H s1 a->Q a H
def t6{t t':Xn}(h:Bm X es t)(m:∀v a H Q,t' v a H Q->t v a H Q):Bm X es t':=λb s a H v u Q I r q=>h b s a H v u Q I r<|m v a H Q q
def Yr:Bm X [] (SI X.K B []):=t6 bIb (by
 rintro v σ H Q ⟨A,st,ds,s1,b,c,a,q⟩;cases ds with
 |nil=>cases a;exact⟨cZ.mp c,q σ b⟩
 |cons _ _=>exact nomatch a)
def lA{i:Nat}{is:ac} (n:Bm X es (SI X.K B is)) (m:X.N.Nodup:=by assumption) (k:X.N[i]?=some x:=by rfl) (h:Loc X.env.scope x:=by exact Dl rfl)
  (l:sj X x:=by first|exact .inl rfl|exact .inr rfl|assumption)
  (hs:(assignEach (.Name x pos::es) X.env).map (·.2)=assign (.Name x pos) X.env::(assignEach es X.env).map (·.2):=by rfl):Bm X (.Name x pos::es) (SI X.K B<|i::is):=t6 (bDi (bU m k h l) n hs) (by
 rintro v σ H Q ⟨A,st,ds,s1,c,j,b,q⟩;cases ds with
 |nil=>exact nomatch b
 |cons d ds=>
  obtain⟨u,r,e,g,f⟩:=bR.mp j;exact⟨u,r,e,A,st,d,st.set i _,c,g,rfl,λo a=>⟨A,_,ds,s1,a,f,b,q⟩⟩)
def AZ{l it:Addr} (a:h.IsList l items) (s:Heap.SameBut it h h') (b:l≠it):h'.IsList l items:=by
 obtain⟨o,e,r⟩:=a;exact⟨o,(s.2 l b).trans e,r⟩
theorem P0{M:Program}{w:World}{A:Around}{E:be}{it t:Addr}{a:wE}(h:t≠it):∀(n i:Nat)(s:Shared)(Q:Fk),s.heap.IsListIter it t i->s.heap.IsList t a->i+n<=a.size->
  (∀f,f.IsListIter it t (i+n)->Heap.SameBut it s.heap f->Q ((a.toList.drop i).take n) {s with heap:=f})->wpAny (model M w) A (draw (.ref it) n) Q E s
 |0,i,s,Q,b,_,_,e=>by
  exact Ma (by simpa using e s.heap b (Heap.SameBut.refl ..))
 |n+1,i,s,Q,b,g,j,e=>by
  have d:i<a.size:=by lia
  refine xa<|wpAny_pyNext_list_item b g (x:=a[i]) (by simp) λp m c=>xa<|Yf<|P0 h n (i+1) _ _ m (AZ g c h) (by lia) λl q o=>Ma ?_
  have k:a.toList.drop i=a[i] :: a.toList.drop (i+1):=by simp[drop_eq_getElem_cons,d]
  have:=e l (by rwa [show i+(n+1)=i+1+n by lia])<|c.trans o
  rwa [k]at this
theorem Í{M:Program}{w:World}{A:Around} {s:Shared} {l:Nat} {f:Pos} {t:Addr} {Q:wP} (p:A.handled=none) (d:s.heap.IsList t items)
  (n:(assignEach wg env).length=items.size) (v:(assignEach wg env).findIdx? (·.1)=none)
  (h:∀j,Heap.ExtBut s.heap.objs.size s.heap j->wpAny (model M w) A (assignInOrder ((assignEach wg env).map (·.2)) items.toList) Q E {s with heap:=j}) :
  wpAny (model M w) A (assign (.Tuple wg l f) env<|.ref t) Q E s:=by
 have c:t≠s.heap.objs.size:=by obtain⟨o,g,_⟩:=d;exact Vd<|uc g
 refine xa<|xt ?_;unfold unpack;rw[n,v];refine xa<|Yf<|xa<|xa<|uz d.typeIs PySem.F.slot_list_iter.lookup<|Ma<|xa<|Yf<|ft d ?_;have k:(s.heap.push {cls:=.type "list_iterator",data:=.fields #[.ref t,rawInt 0]}).IsList t items:=by
  obtain⟨o,g,r⟩:=d;exact⟨o,Xb _ g,r⟩
 refine xa<|Yf<|P0 c items.size 0 _ _ ⟨_,de _ rfl,rfl,rfl⟩ k (by lia) λy u a=>?_
 have x:List.take items.size (List.drop 0 items.toList)=items.toList:=by
  exact YQ (by simp)
 rw[x,Pa (by simp)]
 refine xa<|Yf<|wpAny_pyNext_list_end p u (AZ k a c) (by simp) λq m=>Ma<|h q λb o i e=>m b o i<|a.extBut b o i<|Xb _ e
def bV9(K:Frag)(n:Nat)(t:Xn):TG:=λv σ H Q=>∃a xs,v=.ref a/\(Xf K H a xs\/Qc K H a xs)/\xs.length=n/\t xs σ H Q
def bPh{k:Nat}{t:Xn} (l:X.calm=true) (h:Bm X es t)
  (i:(assignEach es X.env).length=n:=by rfl) (g:(assignEach es X.env).findIdx? (·.1)=none:=by rfl):PG X (.Tuple es k pos) (bV9 X.K n t):=by
 intro m s σ H v u Q I r d;obtain⟨a,xs,e1,c,j,d⟩:=d;rcases c with c|c
 .exact bNp l h i g m s σ H v u Q I r ⟨a,xs,e1,c,j,d⟩
 subst e1;cases r;obtain⟨p,f,w,x⟩:=I.list c;exact Í (I.ok.hd l) w.isList (by simp[i,<-j,f.length]) g λy q=>h m _ σ H xs _ Q (I.kept λb o e=>q b o (Vd<|uc e) e) (by simpa using f) d
def BZ:∀(is:ac)(ds:dL)(st:za),sv is ds st=.ok s1->ds.length=is.length:=by
 intro is
 induction is with
 |nil=>intro ds st h;cases ds with|nil=>rfl|cons _ _=>exact nomatch h
 |cons i is a=>intro ds st h;cases ds with|nil=>exact nomatch h|cons _ ds=>exact congrArg _<|a ds _ h
def Hs{is:ac} {k:Nat} (n:X.calm=true) (h:Bm X es (SI X.K B is)) (m:(assignEach es X.env).length=is.length:=by rfl) (l:(assignEach es X.env).findIdx? (·.1)=none:=by rfl):PG X (.Tuple es k pos) (tG X.K B<|nh is):=C8 (bPh n h m l) (by
 rintro v σ H Q ⟨A,st,d,s1,i,j,b,q⟩;cases d<;>first|(cases b)|skip
 .rename_i ds;obtain⟨a,f,e,g,c⟩:=gW j;exact⟨a,f,e,.inl<|zA (aX _ _) g,by rw[c.length];exact BZ is ds st b,A,st,ds,s1,i,c,b,q⟩
 rename_i ds;obtain⟨a,f,e,g,c⟩:=fX.mp j;exact⟨a,f,e,.inr<|(aX _ _).seq g,by rw[c.length];exact BZ is ds st b,A,st,ds,s1,i,c,b,q⟩)
theorem gJ {t:Tg} (Q:L2.PI X tg iter (Jk X.K B it)) (S:PG X tg (tG X.K B t)) (V:Dd X body (tS X.K B bd)) (O:PassesOwn (model X.prog X.w) X.A X.env X.xe:=by exact HH) (U:X.calm=true:=by rfl)
  (hs:∀x,foldedSetIterable iter X.env x=pure x:=by intro _;rfl):PS X (.For tg iter body [] pos) (tS X.K B<|lC t it bd):=kW (ZN O U Q S V hs) (by
 rintro Dn σ H ⟨A,st,r,C,N,p⟩;obtain⟨ds,T,h3⟩:=R.qa N;refine⟨A,st,ds,C,T,λJ H1 s1 mB=>⟨λi m v g=>∃c st',m=ds.length-i/\i<=ds.length/\RS X.K B c g st' v/\pb t bd (ds.drop i) st'=.ok r/\Le A H1 c g,⟨ds.length,A,st,rfl,Ef _,C.mono s1,by rwa [drop_zero],Le.refl⟩,?_⟩⟩
 rintro i m v g ⟨c,st',rfl,P,b,n,l⟩;obtain⟨M,L⟩:=mB c g l b.own i
 by_cases a:i<ds.length
 .obtain⟨go,F⟩:=M _<|Kc a;rw[Ws a]at n;obtain⟨z,Y,W⟩:=R.qa n;obtain⟨D,Ae,o⟩:=R.qa W;refine .inr ⟨go,λE f=>∃q k,i+1<=ds.length/\RS X.K B q f k E/\pb t bd (ds.drop<|i+1) k=.ok r/\Le A H1 q f,?_,λx f y=>?_⟩
  .rintro E f ⟨q,k,Z,Kr,Gp,K⟩;exact⟨ds.length-(i+1),by omega,q,k,rfl,Z,Kr,Gp,K⟩
  obtain⟨sm,I⟩:=F x f y;have j:=l.trans<|Le.of sm;refine⟨c,st',ds[i],z,b.mono sm,I,Y,λJl Lr=>⟨c,z,D,Lr,Ae,?_⟩⟩
  cases D with
  |nx h=>exact λw G H4 s u=>⟨w,h,a,u,o,j.trans s⟩
  |ct h=>exact λw G H4 s u=>⟨w,h,a,u,o,j.trans s⟩
  |bk h=>cases o;exact p.mono<|(Le.of s1).trans j
  |rt d=>cases o;exact p.mono<|(Le.of s1).trans j
 have e:i=ds.length:=by lia
 subst e;rw[SH]at n;cases n;exact .inl ⟨L<|Pb _,p c v g ((Le.of s1).trans l) b⟩)
def ay{c:Expr}{t:Ex} (I:PT X c (tT X.K B t)) (J:Dd X body (tS X.K B bd)) (F:PassesOwn (model X.prog X.w) X.A X.env X.xe:=by exact HH):PS X (.While c body [] pos) (tS X.K B<|Wr n t bd):=kW (bDj F I J) (by
 rintro P σ H ⟨A,st,r,C,E,p⟩;refine⟨λm s q=>∃b st',RS X.K B b q st' s/\jA t bd m st'=.ok r/\Le A H b q,⟨n,A,st,C,E,Le.refl⟩,?_⟩
 rintro m s q ⟨b,st',a,v,l⟩;cases m with
 |zero=>exact nomatch v
 |succ m=>
  obtain⟨d,G,K⟩:=R.qa v;obtain⟨k,rfl,w⟩:=uZ K;refine⟨b,st',k,a,G,λH1 s1=>?_⟩
  cases k with
  |false=>
   cases w;exact p b s H1 (l.trans<|Le.of s1)<|a.mono s1
  |true=>
   obtain⟨x,O,g⟩:=R.qa w;refine⟨λy o=>∃h f,RS X.K B h o f y/\jA t bd m f=.ok r/\Le A H h o,?_,b,st',x,a.mono s1,O,?_⟩
   .rintro y o ⟨h,f,L,N,D⟩;exact⟨m,vt m,h,f,L,N,D⟩
   cases x with
   |nx e=>exact λu z M i j=>⟨u,e,j,g,l.trans<|(Le.of s1).trans i⟩
   |ct e=>exact λu z M i j=>⟨u,e,j,g,l.trans<|(Le.of s1).trans i⟩
   |bk e=>cases g;exact p.mono<|l.trans<|Le.of s1
   |rt d=>cases g;exact p.mono<|l.trans<|Le.of s1)
def bPi{K:Frag} {l:Addr} (h:Qc K (hide (A++B) H) l vs) (r:bJ K (hide (A++B) H) ds vs):Mq K B A H (LC K l) ds:=by
 intro n m b g i;have a:=(aX _ _).seq<|(Le.app b).seq h;refine⟨λd hd=>?_,λj=>⟨vs,a,by rwa [r.length]⟩⟩
 obtain⟨v,e,f⟩:=r.get hd;refine⟨⟨vs,v,a,e⟩,λx k y=>⟨by rw[y.1];exact bG.refl _,?_⟩⟩
 have c:=y.2 vs a;rw[y.1];rw[e]at c;cases c;exact f.mono<|Le.app b
def bPj{K:Frag} {l:Addr} (h:Xf K (hide (A++B) H) l vs) (r:bJ K (hide (A++B) H) ds vs):Mq K B A H (EJ K l) ds:=by
 intro n m b g i;have a:=zA (aX _ _)<|zA (Le.app b) h;refine⟨λd hd=>?_,λj=>⟨vs,a,by rwa [r.length]⟩⟩
 obtain⟨v,e,f⟩:=r.get hd;refine⟨⟨vs,v,a,e⟩,λx k y=>⟨by rw[y.1];exact bG.refl _,?_⟩⟩
 have c:=y.2 vs a;rw[y.1];rw[e]at c;cases c;exact f.mono<|Le.app b
def G8{K:Frag} {lo:Int}:Mq K B A H (wx lo n) (oJ lo n):=by
 intro k j f c i;have a:(oJ lo n).length=n:=by simp[oJ]
 refine⟨λd hd=>?_,λh=>by rwa [a]at h⟩
 have b:=by
  have:=(Ee.mp hd).1
  rwa [a]at this
 have e:=by
  unfold oJ at hd;rw[rh,List.getElem?_range b]at hd;exact(Vk hd).symm
 subst e;exact⟨b,λx g y=>⟨by rw[y.1];exact bG.refl _,bO.mpr y.2⟩⟩
def MC(z:ac):It:=⟨λi _=>i<z.length,λi H x a=>a=H/\∃c,z[i]?=some c/\x=.str ⟨#[c]⟩,λi _=>z.length<=i⟩
def bGp{w:World}{K:Frag} {it:Addr} {n:String} {t:Tok} (q:n="str_ascii_iterator"\/n="str_iterator"):Turn P w K tg (MC z) [it] it (λi h=>h.IsStrIter it n ⟨z.toArray⟩ t i) where
 mem:=by simp
 obj:=λi h st b f=>by
  have e:=by simpa using f
  subst e;obtain⟨o,e,c,d⟩:=st;exact⟨o,e,λv z=>by rw[d]at z;cases z⟩
 keep:=λi h a st k=>let ⟨o,e,r⟩:=st;⟨o,k it (by simp) o e,r⟩
 item:=by
  intro X R Q S m i T s σ H E I y st G;subst R Q S;obtain⟨F,D,V,C,B,A⟩:=y it (by simp)
  have p:∀v a g,SignAt ⟨z.toArray⟩ i v->Heap.IsStrIter a it n ⟨z.toArray⟩ t (i+1)->(∀b o,b∉[it]->s.heap.get? b=some o->a.get? b=some o)->
    ∃u,some v=some u/\wpAny (model X.prog X.w) X.A (letOwnedTupleGo tg (.ref it) u) (λ_ O=>∃x M,Ba X T σ M O/\RelV x u/\(MC z).Qu i H x M/\Heap.IsStrIter O.heap it n ⟨z.toArray⟩ t (i+1)/\∀b∈[it],M b=none) E {s with heap:=a,toks:=g}:=by
   intro v a g l st' j;obtain⟨c,u,J,rfl⟩:=l;obtain⟨o,e,W,d⟩:=id st';refine⟨_,rfl,XE e W d (by rcases q with rfl|rfl<;>decide) ⟨.str _,H,(I.turned (λb o f e=>j b o (by simpa using f) e) F D C B A),⟨u,rfl⟩,⟨rfl,c,?_,rfl⟩,st',λb f=>(y b f).1⟩⟩
   simpa using J
  have U:=by simpa using G
  rcases q with rfl|rfl
  .exact(Walks.strAscii (I.ok.hd m) it ⟨z.toArray⟩ t).item i s _ _ U st λv a g l st' j=>p v a g l st' j
  exact(Walks.strWide (I.ok.hd m) it ⟨z.toArray⟩ t).item i s _ _ U st λv a g l st' j=>p v a g l st' j
 done:=by
  intro X R Q S m i T s σ H E I y st G;obtain⟨F,D,V,C,B,A⟩:=y it (by simp)
  have N:z.length<=i:=G;rcases q with rfl|rfl
  .exact wpAny_pyNext_ascii_end (I.ok.hd m) st (by simpa using N) λa L=>⟨rfl,I.turned (λb o f e=>L b o f e) F D C B A⟩
  exact wpAny_pyNext_wide_end (I.ok.hd m) st (by simpa using N) λa L=>⟨rfl,I.turned (λb o f e=>L b o f e) F D C B A⟩
 self:=λ_ _ _ _ _ st h=>by
  rcases q with rfl|rfl
  .exact wpAny_pyIter_striter_ascii st h
  exact wpAny_pyIter_striter_wide st h
def bPk{K:Frag}:Mq K B A H (MC z) (z.map λc=>.str [c]):=by
 intro l k f e i;refine⟨λd hd=>?_,λh=>(by simpa using h:z.length<=i)⟩
 rw[rh]at hd;cases a:z[i]? with
 |none=>rw[a]at hd;cases hd
 |some c=>
  rw[a]at hd;cases hd;refine⟨(Ee.mp a).1,λx j y=>⟨by rw[y.1];exact bG.refl _,?_⟩⟩
  obtain⟨g,b,rfl⟩:=y.2;rw[a]at b;cases b;exact dX.mpr rfl
def bVa(K:Frag)(c:TE):TI:=λσ H R=>c σ H λx b=>(∃a,x=.ref a/\(((∃xs,Qc K b a xs)/\R (LC K a) b)\/((∃xs,Xf K b a xs)/\R (EJ K a) b)))\/∃z:ac,x=.str ⟨z.toArray⟩/\R (MC z) b
def bPl{l:Expr}(n:PE X l tl):L2.PI X tg l (bVa X.K tl):=by
 intro r s σ H R I h;refine Vb (n r s σ H _ I h) λv s1 ⟨x,g,c,i,k⟩=>?_
 rcases k with ⟨a,e,q⟩|⟨z,rfl,q⟩
 rotate_left
 .obtain⟨t,rfl⟩:=i;refine wpAny_pyIter_strU (⟨s1.heap.objs.size,[s1.heap.objs.size],_,_,g,rfl,c.kept λb o e=>Xb _ e,bGp (by unfold strIterType;split<;>simp),⟨_,de _ rfl,rfl,rfl⟩,λb hb=>?_,q⟩)
  have e:=by simpa using hb
  subst e;exact c.Eh (Pb _)<|c.Ta.fresh<|Pb _
 subst e;cases i;rcases q with ⟨⟨xs,f⟩,q⟩|⟨⟨xs,f⟩,q⟩
 .obtain⟨d,j,p,m⟩:=c.list f;refine ft p.isList (⟨s1.heap.objs.size,[s1.heap.objs.size],_,_,g,rfl,c.kept λb o e=>Xb _ e,OZ a _,⟨_,de _ rfl,rfl,rfl⟩,λb hb=>?_,q⟩)
  have e:=by simpa using hb
  subst e;exact c.Eh (Pb _)<|c.Ta.fresh<|Pb _
 obtain⟨d,j,p,m⟩:=c.tuple f;refine wpAny_pyIter_tuple (p)<|⟨s1.heap.objs.size,[s1.heap.objs.size],_,_,g,rfl,c.kept λb o e=>Xb _ e,aV5 a _,⟨_,de _ rfl,rfl,rfl⟩,λb hb=>?_,q⟩
 have e:=by simpa using hb
 subst e;exact c.Eh (Pb _)<|c.Ta.fresh<|Pb _
def gG{l:Expr}(j:PE X l (tI X.K B f)):L2.PI X tg l (Jk X.K B<|Ec f):=dP (bPl j) (by
 rintro σ H m ⟨A,st,ds,h,k,q⟩;obtain⟨x,i,b⟩:=R.qa k;refine⟨A,st,x,h,i,λv H1 s1 r1=>?_⟩
 cases x<;>first|(cases b;done)|skip
 .obtain⟨_,b⟩:=aM b;cases b;exact .inr ⟨_,dX.mp r1,q _ H1 s1 bPk⟩
 .cases b;obtain⟨a,d,e,c,g⟩:=gW r1;exact .inl ⟨a,e,.inr ⟨⟨d,zA (aX _ _) c⟩,q _ H1 s1<|bPj c g⟩⟩
 cases b;obtain⟨a,d,e,c,g⟩:=fX.mp r1;exact .inl ⟨a,e,.inl ⟨⟨d,(aX _ _).seq c⟩,q _ H1 s1<|bPi c g⟩⟩)
theorem zE{p:Pos}(g:X.mg "range"=none)(k:PE X a (tP X.K B f))(h:Gl X "range":=by rfl)(hs:starEach [a] X.env=[(false,eval a X.env)]:=by rfl):L2.PI X tg (.Call (.Name "range" p) [a] [] pos) (Jk X.K B<|yC f):=dP (bAr h g (cN k fD hs) hs) (by
 rintro σ H r ⟨A,st,ds,b,i,q⟩;obtain⟨x,e,n⟩:=R.qa i;obtain⟨j,rfl,m⟩:=ny n;obtain⟨c,l⟩:=aM m;rw[lB]at c;cases l;exact⟨A,st,_,b,e,λv o s1 d=>⟨j,by rw[d.int],by lia,by lia,q _ o s1 G8⟩⟩)
def H9{p:Pos}(r:X.mg "range"=none)(z:PE X a (tP X.K B f))(w:PE X b (tP X.K B g))(s:Gl X "range":=by rfl)(hs:starEach [a,b] X.env=[(false,eval a X.env),(false,eval b X.env)]:=by rfl)(h:starEach [b] X.env=[(false,eval b X.env)]:=by rfl)
  (d:starEach [a,b] X.env=(false,eval a X.env)::starEach [b] X.env:=by rfl):L2.PI X tg (.Call (.Name "range" p) [a,b] [] pos) (Jk X.K B<|Vy f g):=dP (bAs s r (cN z (cN w fD h) d) hs h) (by
 rintro σ H J ⟨A,st,ds,e,t,q⟩;obtain⟨x,o,G⟩:=R.qa t;obtain⟨y,n,D⟩:=R.qa G;obtain⟨i,rfl,C⟩:=ny D;obtain⟨j,rfl,F⟩:=ny C;obtain⟨c,E⟩:=aM F;rw[lB]at c;cases E;exact⟨A,st,_,e,o,λv K s1 m=>⟨A,st,_,e.mono s1,n,λu I k l=>⟨i,j,by rw[m.int,l.int],⟨by omega,by omega,by omega,by omega⟩,q _ I (s1.trans k) G8⟩⟩⟩)
end
def JM{K:Frag} (w:Own B H) (r:bJ K (hide B H) ds vs):RS K B [] H (ds.map (λd=>some<|Sl.v d)++List.replicate (N.length-ds.length) none) (L2.start N vs):=by
 have f:∀(i:Nat)(s:Sl),(ds.map (λd=>some _)++List.replicate (N.length-ds.length) none)[i]?=some (some s)->∃d,ds[i]?=some d/\s=.v d:=λi s e=>by
  by_cases b:i<ds.length
  .rw[ik (by simpa using b),List.getElem?_map,List.getElem?_eq_getElem b]at e
   simp at e;exact⟨ds[i],Kc b,e.symm⟩
  rw[ow (by simpa using b),List.getElem?_replicate]at e
  split at e<;>simp at e
 refine⟨by unfold L2.start;simp[(r.length)],by rwa [zt],λa g=>absurd g (by simp),λi d e=>?_,λi k xs e=>?_⟩
 .obtain⟨h,e1,e2⟩:=f i _ e;cases e2;obtain⟨v,c,j⟩:=r.get e1;refine⟨v,?_,by rwa [zt]⟩
  unfold L2.start;rw[ik (by simpa using ((List.getElem?_eq_some_iff.mp c).1)),List.getElem?_map,c]
  rfl
 obtain⟨h,e1,e2⟩:=f i _ e;cases e2
def vR(ds:dL)(d:D)(h:cM np n bd ds=.ok d):ds.length=np:=(aM h).1
structure Ea(P:Program)(w:World)(K:Frag)(mg:im)(base:Heap)(x:Str)(k np:Nat)(p:ca):Prop where
 ex:∃(fa:Addr)(fd:FuncData)(ps:wp),Ca P w K mg base Ab k fa fd ps (Tb K np p)/\mg x=some (.ref fa)/\keepIn K (.ref fa)=true/\Binds K fd ps []
 len:∀ds d,p ds=.ok d->ds.length=np
def Ea.of{w:World}{K:Frag} {k:Nat} (h:Ca P w K mg base Ab k fa fd ps (Tb K np p)) (m:mg x=some (.ref fa))
  (a:keepIn K (.ref fa)=true) (b:Binds K fd ps []) (l:∀ds d,p ds=.ok d->ds.length=np):Ea P w K mg base x k np p:=⟨⟨fa,fd,ps,h,m,a,b⟩,l⟩
section
variable{X:Cx}{B:bv}{a b e:Expr}{f g:Ex}{pos:Pos}
def ON{k:Nat} {r:De} (h:Ea X.prog X.w X.K X.mg X.base x k np p) (b:Kb j X.A) (c:k<=j) (f:PA X (e::es) (tA X.K B r)) (d:Gl X x:=by rfl) (g:pf x:=by decide)
  (he:sf e es X.env:=by rfl) (rf:Zi pos es X.env:=by rfl):PE X (.Call (.Name x p0) (e::es) [] pos) (tI X.K B<|aO p r):=by
 obtain⟨n,l,i,F,m,a,bd⟩:=h.ex;exact bPf F (b.mono c) m a bd h.len f d g he rf
def aWu{K:Frag} {a:Addr} (b:Qc K H a (ns.map V.int)):bJ K H [.lst<|ns.map D.int] [.ref a]:=by
 refine .cons (IM.mpr ⟨a,_,rfl,b,?_,λz=>by cases ns<;>cases z⟩) .nil
 clear b
 induction ns with
 |nil=>exact .nil
 |cons n ns c=>exact .cons (bO.mpr rfl) c
def bPm{K:Frag} {a:Addr} {E:XK} (d:Qc K H a (ns.map V.int)) (h:p [.lst<|ns.map D.int]=.ok (.bl true)):Tb K 1 p [.ref a] H (λv _=>v=.bl true) E:=
 ⟨[],[.lst _],.bl true,λb c=>absurd c (by simp),aWu d,rfl,h,λv e _ r=>dW.mp r⟩
def gK(n:X.mg "len"=none)(r:PE X a (tP X.K B f))(o:Gl X "len":=by rfl)(hs:sf a [] X.env:=by rfl):PE X (.Call (.Name "len" p0) [a] [] pos) (tI X.K B<|e1 iD f):=by
 refine cF (rY (Ľ.or<|ľ.or bC4) o n PySem.boot_len (cN r fD hs) (he:=hs)) ?_
 rintro σ H Q ⟨A,st,d,k,p,q⟩;obtain⟨x,m,g⟩:=R.qa p;refine⟨A,st,x,k,m,λv H1 s1 r1=>?_⟩
 cases x<;>first|(cases g;done)|skip
 .obtain⟨c,b⟩:=aM g;cases b;exact .inr<|.inl ⟨_,by rw[r1.str],by exact lim c,q _ H1 s1<|bO.mpr rfl⟩
 .cases g;obtain⟨l,h,e,b,i⟩:=r1.tup;exact .inl ⟨l,h,by rw[e],.inr b,by rw[i.length];exact q _ H1 s1<|bO.mpr rfl⟩
 .cases g;obtain⟨l,h,e,b,i⟩:=r1.lst;exact .inl ⟨l,h,by rw[e],.inl b,by rw[i.length];exact q _ H1 s1<|bO.mpr rfl⟩
 rename_i t u ds;cases t<;>first|(cases g;done)|skip
 cases g;obtain⟨a,j,e,b,s⟩:=bKk r1;exact .inr<|.inr ⟨a,j,by rw[e],b,by rw[s];exact q _ H1 s1<|bO.mpr rfl⟩
def ME:PO X none (tO X.K B Iv):=B8 M4 (by
 rintro σ H Q ⟨A,st,o,b,a,q⟩;cases a;exact q H<|bG.refl _)
def Cv(h:PE X e (tP X.K B f)):PO X (some e) (tO X.K B<|Aq f):=B8 (N4 h) (by
 rintro σ H Q ⟨A,st,o,a,d,q⟩;obtain⟨x,c,j⟩:=R.qa d;obtain⟨i,rfl,g⟩:=ny j;cases g;exact⟨A,st,_,a,c,λv k s1 b=>⟨i,b.int,q k s1⟩⟩)
theorem LM{c:Type}(x:List c):∀(k a:Nat),((List.range k).map (a + ·)).filterMap (x[·]?)=(x.drop a).take k
 |0,a=>rfl
 |k+1,a=>by
  rw[O_,gf,XG,Dg];have e:((λb=>a+b) ∘ Nat.succ)=λb=>(a+1)+b:=by funext b;simp;lia
  rw[e,(LM x k<|a+1)]
  by_cases h:a<x.length
  .rw[Nat.add_zero,Kc h];simp only[drop_eq_getElem_cons h,List.take_succ_cons]
  rw[Nat.add_zero,qp (by lia)]
  simp[List.drop_eq_nil_of_le (by lia:x.length<=a),List.drop_eq_nil_of_le (by lia:x.length<=a+1)]
theorem u6(n d:Nat)(o:AT):(match o with|none=>(d:Int)|some i=>if (1:Int)>0 then max 0 (min (if i<0 then i+(n:Int) else i) (n:Int)) else max (-1) (min (if i<0 then i+(n:Int) else i)<|(n:Int)-1))=((Je n d o:Nat):Int):=by
 cases o with
 |none=>rfl
 |some i=>
  show (if (1)>0 then _ else _)=(((if i<0 then (i+n).toNat else min i.toNat n):Nat):Int)
  rw[jb (by decide)]
  by_cases h:i<0
  .rw[jb h,jb h];lia
  rw[Pa h,Pa h];lia
theorem bGq(lo a:AT)(n:Nat):Builtin.Str.strSliceIndices lo a 1 n=(List.range<|Je n n a-Je n 0 lo).map (Je n 0 lo + ·):=by
 refine Eq.trans (congrArg (λz=>sliceRange z _ 1)<|((u6 n 0 lo)))<|Eq.trans (congrArg (λz=>sliceRange _ z 1)<|((u6 n n a))) ?_
 unfold sliceRange;simp only[show (1:Int)>0 by decide,if_true]
 have b:(if ((Je n 0 lo):Int)<((Je n n a):Int) then (((Je n n a):Int)-((Je n 0 lo):Int)+1-1)/1 else 0).toNat=Je n n a-Je n 0 lo:=by
  by_cases h:((Je n 0 lo):Int)<((Je n n a):Int)
  .rw[jb h];lia
  rw[Pa h];lia
 rw[b];refine Xs λk _=>?_
 lia
theorem bKm(n d:Nat)(b:d<=n)(o:AT):Je n d o<=n:=by
 cases o with
 |none=>exact b
 |some v=>
  show (if v<0 then (v+n).toNat else min v.toNat n)<=n
  by_cases a:v<0
  .rw[jb a];lia
  rw[Pa a];lia
theorem bC5(x:ac)(lo b:AT):Txt.slice ⟨x.toArray⟩ lo b=⟨(cut x lo b).toArray⟩:=by
 unfold Txt.slice cut;rw[str_len,bGq];have c:=bKm x.length x.length (Pb _) b
 by_cases h:Je x.length x.length b-Je x.length 0 lo=x.length
 .have a:Je x.length 0 lo=0\/x.length=0:=by lia
  rw[jb (by simp[h]),h]
  rcases a with a|a
  .rw[a,drop_zero,List.take_length]
  rw[Lm.mp a];simp
 rw[Pa (by simp[h])]
 have e:(λ(i:Nat)=>(⟨x.toArray⟩:Str).cps[i]?)=λi=>x[i]?:=by simp
 rw[e,LM]
def bVb:pp:=λx lo a H Q=>∃z:ac,x=.str ⟨z.toArray⟩/\z.length<=sizeLine/\Q (.str ⟨(cut z lo a).toArray⟩) H
def bPn:mq X bVb:=by
 intro p s σ H x v u r lo l w Q I m b n g h;obtain⟨z,rfl,o,q⟩:=h;obtain⟨t,rfl⟩:=m;refine⟨"str",_,PySem.F.slot_str_getitem.lookup,typeIs_str _ _ _,?_⟩;have c:(Txt.slice ⟨z.toArray⟩ lo l).length<=sizeLine:=Xd (Txt.slice_le _ _ _) o;have a:∀e k,EP X p σ Q (.str (Txt.slice _ lo l) e) {s with toks:=k}:=λe k=>⟨.str _,H,I.tok k,⟨e,by rw[bC5]⟩,q⟩
 cases n with
 |none=>
  cases g with
  |none=>exact OG (l:=none) (u:=none) (st:=none) b rfl<|IH ⟨c,a⟩
  |int j d=>exact OG (l:=none) (u:=some (j,d)) (st:=none) b rfl<|IH ⟨c,a⟩
 |int i f=>
  cases g with
  |none=>exact OG (l:=some (i,f)) (u:=none) (st:=none) b rfl<|IH ⟨c,a⟩
  |int j d=>exact OG (l:=some (i,f)) (u:=some (j,d)) (st:=none) b rfl<|IH ⟨c,a⟩
def F3{K:Frag} (lo a:AT) (r:bJ K H ds vs):bJ K H (cut ds lo a) (Xv vs lo a):=by
 unfold cut Xv;rw[r.length];exact(r.drop _).take _
def FG{lo:Option Expr}{l u:Pr} (y:PE X a (tP X.K B f)) (t:PO X lo (tO X.K B l)) (s:PO X hi (tO X.K B u)):PE X (.Subscript a (.Slice lo hi none p2) pos) (tI X.K B<|ir f l u):=by
 refine cF (NL (O4.or bPn) y t s) ?_
 rintro σ H Q ⟨A,st,d,b,w,q⟩;obtain⟨x,r,E⟩:=R.qa w;obtain⟨o,G,D⟩:=R.qa E;obtain⟨k,F,g⟩:=R.qa D;refine⟨A,st,x,b,r,λv J s1 r1=>⟨A,st,o,b.mono s1,G,λI s2=>⟨A,st,k,b.mono<|s1.trans s2,F,λH3 s3=>?_⟩⟩⟩
 have h:=r1.mono<|s2.trans s3;cases x<;>first|(cases g;done)|skip
 .obtain⟨c,C⟩:=aM g;cases C;exact .inr ⟨_,h.str,lim c,q _ H3 (s1.trans<|s2.trans s3)<|dX.mpr rfl⟩
 cases g;obtain⟨p,j,e,z,m⟩:=h.lst;exact .inl ⟨p,j,e,z,λn i=>q _ _ (s1.trans<|s2.trans<|s3.trans<|bN i)<|fB (b.own.mono<|s1.trans<|s2.trans s3) i<|F3 _ _ m⟩
end
noncomputable def wk(cells:zn):List (Str×NameKind)->List (Str×Addr)->List (Str×Addr)
 |[],a=>a
 |(n,k)::r,a=>if k == .free then wk cells r ((n,(cells.lookup n).getD 0)::a) else wk cells r a
theorem QK{env:Env}:∀(names:List (Str×NameKind)) (a:zn),(∀y∈names,y.2=.free->∃c,env.cells.lookup y.1=some c)->
  (forIn names a λx f=>if x.2 == .free then (do let c <- cellOf env x.1;pure (ForInStep.yield<|(x.1,c)::f)) else pure (ForInStep.yield f):Sem (List<|Str×Addr))=pure (wk env.cells names a)
 |[],a,_=>rfl
 |(n,k)::r,a,h=>by
  rw[forIn_cons];unfold wk
  by_cases d:k=.free
  .subst d;obtain⟨c,e⟩:=h (n,.free) qb rfl;have e2:cellOf env n=pure c:=by unfold cellOf;rw[e]
   simp only[e2,e];exact QK r _ λy b=>h y<|Mb _ b
  have g:(k==NameKind.free)=false:=by simpa using d
  simp only[g];exact QK r _ λy b=>h y<|Mb _ b
def Ĥ{a:Scope} (h:∀y∈a.names,y.2=.free->∃c,env.cells.lookup y.1=some c):closureFor a env=pure (wk env.cells a.names []):=by
 unfold closureFor;rw[<-(QK a.names [] h)];simp
theorem PN{cells:zn}:∀(names:List (Str×NameKind)) (b:zn) (x:Str) (c:Addr),(∀y∈names,y.2=.free->∃c,cells.lookup y.1=some c)->(x,c)∈wk cells names b->((x,NameKind.free)∈names/\cells.lookup x=some c)\/(x,c)∈b
 |[],b,x,c,_,h=>.inr h
 |(n,k)::r,b,x,c,g,h=>by
  unfold wk at h;have f:=λy j=>g y<|Mb _ j
  by_cases i:k=.free
  .subst i;obtain⟨l,e⟩:=g (n,.free) qb rfl;rcases PN r _ x c f h with ⟨a,d⟩|a
   .exact .inl ⟨Mb _ a,d⟩
   rcases qc.mp a with a|a
   .cases a;refine .inl ⟨qb,?_⟩;rw[e];rfl
   exact .inr a
  rw[Pa (by simpa using i)]at h
  rcases PN r _ x c f h with ⟨a,d⟩|a
  .exact .inl ⟨Mb _ a,d⟩
  exact .inr a
theorem QN{cells:zn}:∀(names:List (Str×NameKind)) (a:zn) (x:Str),((x,NameKind.free)∈names\/∃c,(x,c)∈a)->∃c,(x,c)∈wk cells names a
 |[],a,x,h=>by
  rcases h with h|h
  .cases h
  exact h
 |(n,k)::r,a,x,h=>by
  unfold wk
  by_cases b:k=.free
  .subst b;refine QN r _ x ?_
   rcases h with h|⟨c,h⟩
   .rcases qc.mp h with h|h
    .cases h;exact .inr ⟨_,qb⟩
    exact .inl h
   exact .inr ⟨c,Mb _ h⟩
  rw[Pa (by simpa using b)]
  refine QN r _ x ?_
  rcases h with h|h
  .rcases qc.mp h with h|h
   .cases h;exact absurd rfl b
   exact .inl h
  exact .inr h
theorem xO{a:Type}:∀{l:List (Str×a)} {x:Str} {c:a},(x,c)∈l->∃d,l.lookup x=some d
 |(n,v)::r,x,c,h=>by
  rw[Fj];cases b:x==n with
  |true=>exact⟨v,rfl⟩
  |false=>
   rcases qc.mp h with h|h
   .cases h;simp at b
   exact xO h
theorem pY{env:Env}:∀(names:List (Str×NameKind)) (x:Str),(names.map λ(n,k)=>if (k==NameKind.free&&env.scope.kind == .function&&env.kindOf n==some .cell) then (n,NameKind.cell) else (n,k)).lookup x =
  (names.lookup x).map λk=>if (k==NameKind.free&&env.scope.kind == .function&&env.kindOf x==some .cell) then NameKind.cell else k
 |[],_=>rfl
 |(n,k)::r,x=>by
  have c:=@pY env r x;show List.lookup x ((if (k==NameKind.free&&env.scope.kind == .function&&env.kindOf n==some .cell)=true then (n,NameKind.cell) else (n,k))::_)=_
  cases b:x==n with
  |true=>
   have e:=Nm.mp b;subst e
   by_cases a:(k==NameKind.free&&env.scope.kind == .function&&env.kindOf x==some .cell)=true
   .rw[jb a,Fj,Fj,b];simp only[map_some];rw[jb a]
   rw[Pa a,Fj,Fj,b];simp only[map_some];rw[Pa a]
  |false=>
   by_cases a:(k==NameKind.free&&env.scope.kind == .function&&env.kindOf n==some .cell)=true
   .rwa [jb a,Fj,Fj,b]
   rwa [Pa a,Fj,Fj,b]
theorem rK:∀(names:List (Str×NameKind)) (n:Nat) (a:zn),cellsFrom n names a=cellsFrom n names []++a
 |[],_,_=>rfl
 |(x,k)::r,n,a=>by
  unfold cellsFrom;split
  .rw[rK r (n+1) _,rK r (n+1) [(x,n)],Bh];rfl
  exact rK r n a
theorem zY:∀(names:List (Str×NameKind)) (n:Nat) (a:zn) (x:Str) (c:Addr),(x,c)∈cellsFrom n names a->(x,c)∈a\/(x,NameKind.cell)∈names
 |[],_,_,_,_,h=>.inl h
 |(y,k)::r,n,a,x,c,h=>by
  unfold cellsFrom at h;split at h
  .rename_i b;rcases zY r _ _ x c h with z|z
   .rcases qc.mp z with z|z
    .cases z;exact .inr (by rw[show k=NameKind.cell from by simpa using b];exact qb)
    exact .inl z
   exact .inr<|Mb _ z
  rcases zY r _ _ x c h with z|z
  .exact .inl z
  exact .inr<|Mb _ z
theorem rM:∀(names:List (Str×NameKind)) (n:Nat) (a:zn) (x:Str),((x,NameKind.cell)∈names\/∃c,(x,c)∈a)->∃c,(x,c)∈cellsFrom n names a
 |[],_,_,x,h=>h.elim (λz=>nomatch z) id
 |(y,k)::r,n,a,x,h=>by
  unfold cellsFrom;split
  .refine rM r _ _ x ?_
   rcases h with h|⟨c,h⟩
   .rcases qc.mp h with h|h
    .cases h;exact .inr ⟨n,qb⟩
    exact .inl h
   exact .inr ⟨c,Mb _ h⟩
  rename_i b;refine rM r _ _ x ?_
  rcases h with h|h
  .rcases qc.mp h with h|h
   .cases h;exact absurd rfl b
   exact .inl h
  exact .inr h
theorem CZ{a:Type}(x:Str):∀(l r:List (Str×a)),(l++r).lookup x=(l.lookup x).or (r.lookup x)
 |[],r=>rfl
 |(y,v)::l,r=>by
  rw[List.cons_append,Fj,Fj];cases b:x==y with
  |true=>rfl
  |false=>exact CZ x l r
theorem rN{b:Type}:∀{l:List (Str×b)} {x:Str} {v:b},(l.map (·.1)).Nodup->(x,v)∈l->l.lookup x=some v
 |(y,w)::l,x,v,a,h=>by
  rw[gf,lj]at a;rw[Fj];rcases qc.mp h with h|h
  .cases h;simp
  have c:(x==y)=false:=by
   rw[Uq];intro z;exact a.1<|gd.mpr ⟨(x,v),h,z⟩
  rw[c];exact rN a.2 h
def bC6{A:Around} {s:Shared} {scope:Scope} {e:Addr} {f:zn} {Q:Env->Shared->Prop}
  (i:∀c,c.Ns s.heap.objs.size (λ_=>none)->(∀b o,s.heap.get? b=some o->c.get? b=some o)->CellsOk c (s.heap.objs.size+1) (cellsFrom (s.heap.objs.size+1) scope.names [])->
   Q {scope:=scope,locals:=s.heap.objs.size,globals:=e,cells:=cellsFrom (s.heap.objs.size+1) scope.names f,qual:=qual,func:=none,code:=env.code,frame:=env.frame,builtins:=env.builtins} {s with heap:=c}) :
  wpAny M A (newFunctionEnv scope e f [] qual none .none<|some env) Q E s:=by
 simp only[newFunctionEnv];refine xa<|wpAny_alloc<|xa<|wpAny_layCells _ (λd a cells=>by cases h:a==NameKind.cell<;>simp) _ _ _ _<|xa<|Ma<|Ma ?_
 have ok:=cellsFrom_ok scope.names (s.heap.push {cls:=.type "dict",data:=.dict #[]}) _ [] ⟨λ_ _ g=>(nomatch g),List.Pairwise.nil⟩ (by rw[Mh];exact Pb _)
 rw[Mh]at ok;rw[(Mh ..)];exact i _ ((Heap.Ns.new s.heap _).keeps<|pushCells_keeps _ _) (λb o q=>pushCells_keeps _ _ b o<|Xb _ q) ok
structure yc(X:Cx)(scope:Scope)(is:ac):Prop where
 kind:scope.kind=.function
 nd:(scope.names.map (·.1)).Nodup
 free:∀x∈scope.names,x.2=.free->X.env.kindOf x.1=some .cell\/X.env.kindOf x.1=some .free
 own:∀(i:Nat) x,X.N[i]?=some x->(scope.names.lookup x=some .local\/scope.names.lookup x=some .cell)->i∈is
section
variable{X:Cx}{scope:Scope}{is:ac}
theorem yc.names(S:yc X scope is):∀x∈scope.names,x.2=.local->scope.names.lookup x.1=some .local:=λx a e=>rN S.nd (by rwa [<-e])
noncomputable def eX(X:Cx)(a:Scope)(C:Addr)(Ga:Shared)(La:Hp)(b:bv):Cx:=
 {X with Ga:=Ga,La:=La,env:=compEnvC a (cellsFrom (C+1) a.names<|wk X.env.cells a.names []) C X.env,outer:=X.stack,stack:=X.stack,ex:=b,fn:=λx=>a.names.lookup x==some .cell,pn:=[],xe:=λ_ _=>False,calm:=true}
theorem yc.cells(S:yc X scope is)(ok:X.Ok):∀y∈scope.names,y.2=.free->∃c,X.env.cells.lookup y.1=some c:=λy a b=>ok.has y.1<|S.free y a b
def yc.lk(S:yc X scope is)(ok:X.Ok){n:Nat}{x:Str}{c:Addr}(h:(cellsFrom n scope.names<|wk X.env.cells scope.names []).lookup x=some c) :
  ((cellsFrom n scope.names []).lookup x=some c/\scope.names.lookup x=some .cell)\/(scope.names.lookup x=some .free/\X.env.cells.lookup x=some c):=by
 rw[rK,CZ]at h;cases e:(cellsFrom n scope.names []).lookup x with
 |some d=>
  rw[e]at h;cases h;rcases zY _ _ _ _ _ (Sk e) with z|z
  .cases z
  exact .inl ⟨rfl,rN S.nd z⟩
 |none=>
  rw[e]at h;rcases PN scope.names [] x c (S.cells ok) (Sk h) with ⟨b,a⟩|a
  .exact .inr ⟨rN S.nd b,a⟩
  cases a
def Oq(is:ac)(a:zh):zh:=is.foldl (λτ i=>τ.set i none) a
def G3(is:ac):∀a:zh,(Oq is a).length=a.length:=by
 induction is with
 |nil=>exact λ_=>rfl
 |cons i is b=>intro a;show (Oq is _).length=_;rw[b,gm]
def bGr(is:ac):∀(b:zh)(j:Nat)(v:V),(Oq is b)[j]?=some (some v)->b[j]?=some (some v)/\j∉is:=by
 induction is with
 |nil=>exact λb j v h=>⟨h,by simp⟩
 |cons i is c=>
  intro b j v h;obtain⟨a,d⟩:=c _ j v h;rw[ug]at a
  by_cases e:i=j
  .subst e;rw[jb rfl]at a;split at a<;>cases a
  rw[Pa e]at a;exact⟨a,λz=>(qc.mp z).elim (λz=>e z.symm) d⟩
theorem aWv{s:Shared}{E:bv} (S:yc X scope is) (n:X.calm=true) (I:Ba X aa σ H s) (B:∀b∈E,Aj X aa H b) (w:∀b∈E,b<s.heap.objs.size)
  (U:h'.Ns s.heap.objs.size λ_=>none) (t:∀b o,s.heap.get? b=some o->h'.get? b=some o) (G:CellsOk h' (s.heap.objs.size+1) (cellsFrom (s.heap.objs.size+1) scope.names [])) :
  Ba (eX X scope s.heap.objs.size s H E) [] (Oq is σ) H {s with heap:=h',toks:=t'}:=by
 have lk:=@yc.lk X scope is S I.ok<|s.heap.objs.size+1;have P:=λb j=>Vd<|w b j
 have M:∀x c,X.env.cells.lookup x=some c->c<s.heap.objs.size:=λx c e=>by
  obtain⟨v,q⟩:=I.cell x c e;exact q.lt
 have d:=λx c e=>(G.empty x c<|Sk e).2
 have r:∀x k,(k=.cell\/k=.free)->scope.names.lookup x=some k->∃c,(cellsFrom (s.heap.objs.size+1) scope.names<|wk X.env.cells scope.names []).lookup x=some c:=λx k t e=>by
  have D:=Sk e;rcases t with rfl|rfl
  .obtain⟨c,q⟩:=rM scope.names (s.heap.objs.size+1) (wk X.env.cells scope.names []) x<|.inl D;exact xO q
  obtain⟨c,q⟩:=rM scope.names (s.heap.objs.size+1) (wk X.env.cells scope.names []) x<|.inr<|QN scope.names [] x<|.inl D;exact xO q
 have C:∀x,(relabel scope X.env).names.lookup x=some .cell\/(relabel scope X.env).names.lookup x=some .free->scope.names.lookup x=some .cell\/scope.names.lookup x=some .free:=λx h=>by
  unfold relabel at h;rw[pY]at h;cases e:scope.names.lookup x with
  |none=>rw[e]at h;rcases h with h|h<;>cases h
  |some k=>
   rw[e]at h;simp only[map_some]at h
   by_cases n:(k==NameKind.free&&X.env.scope.kind == .function&&X.env.kindOf x==some .cell)=true
   .simp only[and_eq_true,beq_iff_eq]at n;exact .inr (by rw[n.1.1])
   rwa [Pa n]at h
 refine⟨⟨I.ok.mod,?_,I.ok.glob,I.ok.blt,Pb _,λx y c h1 h2=>?_,λx h=>?_,λx c F e=>?_,λ_=>I.ok.hd n,I.ok.frames,.inl rfl,λb j=>⟨P b j,λx c e z=>?_⟩,I.bs,?_,λb o e j=>?_,λb j z=>?_,I.stack,I.Ik⟩,
  rfl,I.bare,Un.kept t,⟨_,U,λi x v e1 e2 g=>?_⟩,λx c e=>?_,I.Ta.fresh<|Pb _,λx c e=>?_,(λp T=>absurd (show p∈([]) from T)<|by simp),I.Ta.kept t,by rw[G3];exact I.len⟩
 .exact S.kind
 .rcases lk h1 with ⟨a,_⟩|⟨_,a⟩ <;> rcases lk h2 with ⟨A,_⟩|⟨_,A⟩
  .exact name_of_addr G.apart (Sk a) (Sk A)
  .exact absurd (rg (M y c A)<|QR<|d x c a) (uh _)
  .exact absurd (rg (M x c a)<|QR<|d y c A) (uh _)
  exact I.ok.inj x y c a A
 .rcases C x h with e|e
  .exact r x _ (.inl rfl) e
  exact r x _ (.inr rfl) e
 .have F:=Nm.mp F;rcases lk e with ⟨a,_⟩|⟨a,_⟩
  .have:=d x c a;show s.heap.objs.size<=c;lia
  rw[F]at a;cases a
 .rcases lk e with ⟨a,_⟩|⟨_,a⟩
  .have h2:=w b j;rw[<-z]at h2;exact absurd (rg h2<|QR<|d x c a)<|uh _
  exact(B b j).2.2.2.2.1 x c a z
 .exact Xd I.ok.Ho I.sz
 .rcases (B b j).2.2.2.1 with z|z
  .exact I.ok.Kn b o e z
  exact absurd (rg (uc e)<|Xd I.ok.Ho z)<|uh _
 .rcases qc.mp (I.Wj b z) with z|z
  .exact(B b j).2.1 z
  exact(B b j).2.2.1 z
 .obtain⟨e2,J⟩:=bGr is σ i v e2;have g:(relabel scope X.env).names.lookup x=some .local\/(relabel scope X.env).names.lookup x=some .cell\/(relabel scope X.env).names.lookup x=some .free:=g;have l:scope.names.lookup x=some .free:=by
   have f:=g;unfold relabel at f;rw[pY]at f;cases e:scope.names.lookup x with
   |none=>rw[e]at f;rcases f with f|f|f<;>cases f
   |some k=>
    rw[e]at f;simp only[map_some]at f
    by_cases n:(k==NameKind.free&&X.env.scope.kind == .function&&X.env.kindOf x==some .cell)=true
    .simp only[and_eq_true,beq_iff_eq]at n;rw[n.1.1]
    rw[Pa n]at f;rcases f with f|f|f
    .exact absurd (S.own i x e1<|.inl<|by rw[e,f]) J
    .exact absurd (S.own i x e1<|.inr<|by rw[e,f]) J
    exact f
  have Y:(relabel scope X.env).names.lookup x=some .cell\/(relabel scope X.env).names.lookup x=some .free:=by
   rcases g with g|g|g
   .unfold relabel at g;rw[pY,l]at g;simp only[map_some]at g;split at g<;>cases g
   .exact .inl g
   exact .inr g
  have L:=S.free _ (Sk l) rfl;obtain⟨m,D,V⟩:=I.loc;obtain⟨u,O,Q⟩:=V i x v e1 e2<|.inr L;refine⟨u,O,.inr ⟨Y,?_⟩⟩;rcases Q with ⟨R,_⟩|⟨_,c,W,N⟩
  .rcases L with q|q<;>rw[R]at q<;>cases q
  obtain⟨Z,K⟩:=r x _ (.inr rfl) l;rcases lk K with ⟨_,a⟩|⟨_,a⟩
  .rw[l]at a;cases a
  rw[W]at a;cases a;exact⟨c,K,N.keeps t⟩
 .rcases lk e with ⟨a,_⟩|⟨_,a⟩
  .exact⟨_,(G.empty x c<|Sk a).1⟩
  obtain⟨v,q⟩:=I.cell x c a;exact⟨v,q.keeps t⟩
 rcases lk e with ⟨a,_⟩|⟨_,a⟩
 .exact I.Ta.fresh (by have:=d x c a;lia)
 exact I.df x c a
end
def Ā(e a d c:Expr)(b:Scope)(f:Pos)(it g:Value)(env:Env) :
  compTurn (.ListComp e [⟨a,d,[c],0⟩] b f) 0 it g env=(standAt d.pos >>= λ_=>pyNext it >>= λr=>match r with
   |none=>pure<|.done .next
   |some v=>letOwnedTupleGo a it v >>= λ_=>assign a env v >>= λ_=>isTrue c env (eval c env) >>= λok=>
    if ok=true then (eval e env >>= λx=>call (.builtin "list.append") [g,x] >>= λ_=>again<|.compLoop (.ListComp e [⟨a,d,[c],0⟩] b f) 0 it g env)
    else again (.compLoop (.ListComp e [⟨a,d,[c],0⟩] b f) 0 it g env)):=by
 unfold compTurn;simp;rfl
def ç(d a c:Expr)(b:Scope)(e:Pos)(it f:Value)(env:Env) :
  compTurn (.ListComp d [⟨a,c,[],0⟩] b e) 0 it f env=(standAt c.pos >>= λ_=>pyNext it >>= λr=>match r with
   |none=>pure<|.done .next
   |some v=>letOwnedTupleGo a it v >>= λ_=>assign a env v >>= λ_=>
    (eval d env >>= λx=>call (.builtin "list.append") [f,x] >>= λ_=>again<|.compLoop (.ListComp d [⟨a,c,[],0⟩] b e) 0 it f env)):=by
 unfold compTurn;simp;rfl
section
variable{X:Cx}{scope:Scope}{is:ac}{elt tg iter:Expr}{pos:Pos}{wi:TI}{g:TG}{te:TE}{tt:TT}
def Ζ(is:ac)(j:TI)(g:TG)(l:TT)(te:TE):TE:=λσ H Q=>j σ H λJ f=>∀p,f p=none->∃W:Nat->Nat->zh->IR,(∃m,W 0 m (Oq is σ) []<|bb f p<|.lst [])/\
 ∀i m τ a H,W i m τ a H->H p=some (.lst a)/\((J.stop i H/\Q (.ref p) H)\/(J.go i H/\∀x h,J.Qu i H x h->g x τ h λc n=>l c n λk e=>
  if k=true then te c e λy d=>d p=some (.lst a)/\a.length<sizeLine/\∃b,b < m/\W (i+1) b c (a++[y]) (bb d p<|.lst<|a++[y]) else ∃b,b < m/\W (i+1) b c a e))
def dy{i:bv} (I:Ba X aa σ H s) (f:∀b∈i,Aj X aa H b) (m:s.heap.objs.size<=C) (J:Ba (eX X scope C s H i) [] σ5 H5 s5)
  (hs:Heap.SameBut C s5.heap h'):Ba X aa σ H5 {s5 with heap:=h'}:=by
 have j:H5 C=none:=J.free;have g:∀b o,s.heap.get? b=some o->b≠C:=λb o e z=>by
  subst z;exact absurd (rg (uc e) m)<|uh _
 have r:=λb o e=>by
  refine(J.Ta b o e).Ye (λc v hc q=>hs.extBut c v ?_ q) (λ_ q=>q) λ_ _ q=>q
  rintro rfl;rcases hc with z|z
  .subst z;rw[j]at e;cases e
  rw[j]at z;cases z
 obtain⟨t,u,p,tt,os⟩:=s5;have h:=J.os;subst h;exact I.call (d':=p) (t':=tt) (⟨λb o e n a d=>hs.extBut b o (g b o e)<|J.base.keep b o e n a d,λb o e n a d=>by
   obtain⟨k,q⟩:=J.base.slot b o e n a d;exact⟨k,hs.extBut b _ (g b o e) q⟩,J.base.free,λb o e d=>by
   obtain⟨l,q⟩:=J.base.there b o e d;exact⟨l,hs.extBut b _ (g b o e) q⟩,J.base.Lg,J.base.yg,J.base.Kg⟩) r J.bare λb a=>⟨(f b a).2.2.2.1,(f b a).2.1,(f b a).2.2.2.2.1,(f b a).2.2.2.2.2⟩
theorem Q0{p:Addr} {k:Sem α} {Q:α->sK} (he:PE Y elt te) (d:∀e a,Y.xe e a->E e a) (I:Ba Y aa τ H s) (f:te τ H λy c=>c p=some (.lst vs)/\vs.length<sizeLine/\∀a,Ba Y aa τ (bb c p<|.lst<|vs++[y]) a->wpAny (model Y.prog Y.w) Y.A k Q E a) :
  wpAny (model Y.prog Y.w) Y.A (eval elt Y.env >>= λx=>call (.builtin "list.append") [.ref p,x] >>= λ_=>k) Q E s:=by
 refine xa<|Gj (he aa s τ H _ I f) (λu s1 ⟨y,c,I4,r4,hp,g,q⟩=>?_) d
 obtain⟨z,b,n,r,h,e⟩:=I4.Ig hp;refine xa<|Eo XQ ⟨_,e,rfl⟩ PySem.F.entry_list_append (C_ _ _) (PySem.list_append p b.toArray n u<|by rw[Jf];lia) ⟨e,(q _<|I4.gi hp e (by simp) (r.append<|.cons r4 .nil) ?_)⟩
 rw[Ud,Ug];lia
end
def bC7{env:Env}{g:TG} {it p:Addr} {B:bv} {F:Da} {R:Result->sK} {Np:Pos} {rest:Sem Fin}
  (T:Turn Y.prog Y.w Y.K tg J B it F) (S:Y.calm=true) (hE:Y.xe=λ_ _=>False) (hg:PG Y tg g) (hq:(Code.compLoop e 0 (.ref it) (.ref p) Y.env).quiet=true)
  (Tt:∀(s:Shared)(Q:Fin->sK),wpAny (model Y.prog Y.w) Y.A (pyNext (.ref it) >>= λr=>match r with
    |none=>pure<|.done .next
    |some v=>letOwnedTupleGo tg (.ref it) v >>= λ_=>assign tg Y.env v >>= λ_=>rest) Q (λ_ _=>False) s->
   wpAny (model Y.prog Y.w) (Y.A.under<|.compLoop e 0 (.ref it) (.ref p) Y.env) ((model Y.prog Y.w).den<|.compLoop e 0 (.ref it) (.ref p) Y.env) Q (λ_ _=>False) s)
  (Sh:∀(τ:zh)(H:Hp)(s:Shared) (V:db) (vs:o0) (N:FB) (Q:Fin->sK),Ba Y V τ H s->
   (tt τ H λk f=>if k=true then te τ f λy D=>D p=some (.lst vs)/\vs.length<sizeLine/\N (bb D p<|.lst<|vs++[y]) (vs++[y]) else N f vs)->
   (∀A a t,Ba Y V τ a A->N a t->Q (.again<|.compLoop e 0 (.ref it) (.ref p) Y.env) A)->wpAny (model Y.prog Y.w) Y.A rest Q (λ_ _=>False) s)
  (W:Nat->Nat->zh->IR) {Qe:xL}
  (step:∀i m τ vs H,W i m τ vs H->H p=some (.lst vs)/\((J.stop i H/\Qe H)\/(J.go i H/\∀x a,J.Qu i H x a->g x τ a λE H2=>tt E H2 λk f=>
   if k=true then te E f λy D=>D p=some (.lst vs)/\vs.length<sizeLine/\∃c,c < m/\W (i+1) c E (vs++[y]) (bb D p<|.lst<|vs++[y]) else ∃c,c < m/\W (i+1) c E vs f)))
  (hR:∀τ H s,Ba Y [] τ H s->Qe H->R (.ok .next) s) (I:Ba Y [] τ H s) (st:F i s.heap) (U:∀b∈B,Aj Y [] H b) (w:W i m τ vs H) :
  codeAny (model Y.prog Y.w) Y.A (.compLoop e 0 (.ref it) (.ref p) Y.env) R s:=by
 have L:∀{a:Hp},(∀b∈B,a b=none)->∀b∈B,Aj Y [] a b:=λhn b h=>⟨hn b h,(U b h).2⟩
 refine codeAny_loop hq (λn A=>∃i O Mg a,Ba Y [] O a A/\F i A.heap/\(∀b∈B,a b=none)/\W i n O Mg a) (λn s3 hI=>?_) m ⟨i,τ,vs,H,I,st,λb h=>(U b h).1,w⟩
 obtain⟨i,C,P,f,I3,LB,X,w3⟩:=hI;refine Gj (Tt s3 _ ?_) (λ_ _ q=>q)<|λ_ _ q=>q.elim
 obtain⟨hp,G⟩:=step i n C P f w3;rcases G with ⟨z,qe⟩|⟨go,G⟩
 .refine xa (Vb (T.done Y rfl rfl rfl S i [] s3 C f _ I3 (L X) LB z) λr s4 ⟨hr,I4⟩=>?_)
  subst hr;exact Ma<|hR C f s4 I4 qe
 refine xa<|Vb (T.item Y rfl rfl rfl S i [] s3 C f _ I3 (L X) LB go) λr s4 ⟨u,hr,h4⟩=>?_
 subst hr;refine xa<|Vb h4 λ_ s5 ⟨x,H5,I5,r5,y5,l,K⟩=>?_
 have Z:=hg _ s5 C H5 x u _ (I5.pinned (L K)<|T.obj _ _ l) r5<|G x H5 y5;rw[hE]at Z;refine xa<|Vb Z λ_ s6 ⟨j,H6,I6,q6⟩=>?_
 refine Sh j H6 s6 _ P (λa t=>∃c,c < n/\W (i+1) c j t a) _ I6 q6 λs7 H7 t M ⟨c,hm,w7⟩=>⟨rfl,c,hm,i+1,j,t,H7,M.Td,T.keep _ _ _ l λb h o e=>(M.pin (b,o)<|Ke _<|Ke _<|zN h e).1,λb h=>?_,w7⟩
 obtain⟨o,e,d⟩:=T.obj _ _ l b h;exact(M.pin (b,o)<|Ke _<|Ke _<|zN h e).2.1
section
variable{X:Cx}{scope:Scope}{is:ac}{elt tg iter c:Expr}{pos:Pos}{wi:TI}{g:TG}{te:TE}{tt:TT}
def uU{FC:Option (Value->Sem Unit)} {l:db} {s:Shared} {H:Hp} {Q:VK} {f:List Expr} {rest:Env->Value->Value->Sem Fin} (S:yc X scope is) (hc:X.calm=true) (hi:L2.PI X tg iter wi) (hg:∀C j i a,PG (eX X scope C j i a) tg g)
  (fu:∀it ja env,(Code.compLoop (.ListComp elt [⟨tg,iter,f,0⟩] scope pos) 0 it ja env).quiet=true)
  (Tt:∀C j i a it p (s:Shared) (Q:Fin->sK),wpAny (model X.prog X.w) X.A (pyNext (.ref it) >>= λr=>match r with
    |none=>pure<|.done .next
    |some v=>letOwnedTupleGo tg (.ref it) v >>= λ_=>assign tg (eX X scope C j i a).env v >>= λ_=>rest (eX X scope C j i a).env (.ref it)<|.ref p) Q (λ_ _=>False) s->
   wpAny (model X.prog X.w) (X.A.under<|.compLoop (.ListComp elt [⟨tg,iter,f,0⟩] scope pos) 0 (.ref it) (.ref p) (eX X scope C j i a).env) ((model X.prog X.w).den<|.compLoop (.ListComp elt [⟨tg,iter,f,0⟩] scope pos) 0 (.ref it) (.ref p) (eX X scope C j i a).env) Q (λ_ _=>False) s)
  (Sh:∀C j i a it p (n:zh) (H:Hp) (s:Shared) (l:db) (vs:o0) (N:FB) (Q:Fin->sK),Ba (eX X scope C j i a) l n H s->
   (tt n H λk u=>if k=true then te n u λy Y=>Y p=some (.lst vs)/\vs.length<sizeLine/\N (bb Y p<|.lst<|vs++[y]) (vs++[y]) else N u vs)->
   (∀L Z ws,Ba (eX X scope C j i a) l n Z L->N Z ws->Q (.again<|.compLoop (.ListComp elt [⟨tg,iter,f,0⟩] scope pos) 0 (.ref it) (.ref p) (eX X scope C j i a).env) L)->
   wpAny (model X.prog X.w) X.A (rest (eX X scope C j i a).env (.ref it)<|.ref p) Q (λ_ _=>False) s)
  (hs:∀x,foldedSetIterable iter X.env x=pure x) (I:Ba X l σ H s) (h:Ζ is wi g tt te σ H Q)
  (aT:∀C p B w E D u a n,D.heap.objs.size<=C->Ba X l σ u D->(∀b∈a,Aj X l u b)->Ba (eX X scope C D u a) [] n B w->w.heap.Ns C E->Q (.ref p) B->compPost (model X.prog X.w) X.A X.xe FC Qf (.ref p) C (.ok .next) w) :
  wpAny (model X.prog X.w) X.A (comprehension (.ListComp elt [⟨tg,iter,f,0⟩] scope pos) scope X.env ppos (newList []) false (eval iter X.env) FC) Qf X.xe s:=by
 refine wpAny_comprehension_free rfl hs (Ĥ<|S.cells I.ok) S.kind S.names<|Vb (hi l s σ H _ I h) λv s1 h1=>Vb h1 λVT t h2=>?_
 obtain⟨it,a,tn,J,H2,e,V,T,M,P,hW⟩:=h2;subst e;refine Yl<|bC6 λHe Yt F Qt=>?_
 have U:Ba X l σ _ {t with heap:=t.heap.push {cls:=.type "list",data:=.seq ([]).toArray} }:=V.Qp .nil<|Ef _
 obtain⟨W,⟨m,w0⟩,step⟩:=hW t.heap.objs.size V.fresh;have z:=λb d=>let ⟨o,e,_⟩:=T.obj 0 _ M b d;uc e
 have G:∀b∈a,Aj X l (bb H2 t.heap.objs.size<|.lst []) b:=λb d=>⟨by rw[aW<|Vd<|z b d];exact(P b d).1,(P b d).2⟩
 have O:=F;have A:=aWv (t':=t.toks) S hc U G (λb d=>rg (z b d)<|by rw[Mh];exact Io _) Yt O Qt
 have K:=T.keep 0 _ _ M λb _ o e=>O b o<|Xb _ e
 have q:=bC7 (Y:=eX X scope _ _ _ a) (env:=X.env) (Np:=pos) T rfl rfl (hg _ _ _ a) (fu _ _ _) (Tt _ _ _ a it t.heap.objs.size) (Sh _ _ _ a it t.heap.objs.size) W step
  (λn B w R q5=>by
   obtain⟨E,Oj,_⟩:=R.loc;exact aT _ _ B w E _ _ a n (Pb _) U G R Oj q5) A K (λb d=>⟨(G b d).1,(A.ok.XH b d).1,A.ok.Sm b d,.inl d,λx c e=>(A.ok.XH b d).2 x c e,λp hp=>absurd (show p∈([]) from hp)<|by simp⟩) w0
 exact codeAny_compStart_list q<|T.self _ 0 _ _ _ K q
def qY{it a:Value}:(Code.compLoop e 0 it a env).quiet=true:=rfl
def LQ {it p : Addr}  {Q : Fin -> Shared -> Prop} (h : wpAny (model X.prog X.w) X.A (pyNext (.ref it) >>= fun r => match r with
        |none=>pure<|.done .next
        |some v=>letOwnedTupleGo tg (.ref it) v >>= λ_=>assign tg Y.env v >>= λ_=>(eval elt Y.env >>= λx=>call (.builtin "list.append") [.ref p,x] >>= λ_=>again<|.compLoop (.ListComp elt [⟨tg,iter,[],0⟩] scope pos) 0 (.ref it) (.ref p) Y.env)) Q (λ_ _=>False) s) :
      wpAny (model X.prog X.w) (X.A.under<|.compLoop (.ListComp elt [⟨tg,iter,[],0⟩] scope pos) 0 (.ref it) (.ref p) Y.env) ((model X.prog X.w).den<|.compLoop (.ListComp elt [⟨tg,iter,[],0⟩] scope pos) 0 (.ref it) (.ref p) Y.env) Q (λ_ _=>False) s:=by
 refine wpAny_noted ?_
 rw[ç];exact xa<|xt<|Gj h (λ_ _ q=>q) λ_ _ q=>q.elim
def MQ {it p : Addr}  {Q : Fin -> Shared -> Prop} (h : wpAny (model X.prog X.w) X.A (pyNext (.ref it) >>= fun r => match r with
        |none=>pure<|.done .next
        |some v=>letOwnedTupleGo tg (.ref it) v >>= λ_=>assign tg Y.env v >>= λ_=>(isTrue c Y.env (eval c Y.env) >>= λok=>if ok=true then (eval elt Y.env >>= λx=>call (.builtin "list.append") [.ref p,x] >>= λ_=>again<|.compLoop (.ListComp elt [⟨tg,iter,[c],0⟩] scope pos) 0 (.ref it) (.ref p) Y.env)
          else again (.compLoop (.ListComp elt [⟨tg,iter,[c],0⟩] scope pos) 0 (.ref it) (.ref p) Y.env))) Q (λ_ _=>False) s) :
      wpAny (model X.prog X.w) (X.A.under<|.compLoop (.ListComp elt [⟨tg,iter,[c],0⟩] scope pos) 0 (.ref it) (.ref p) Y.env) ((model X.prog X.w).den<|.compLoop (.ListComp elt [⟨tg,iter,[c],0⟩] scope pos) 0 (.ref it) (.ref p) Y.env) Q (λ_ _=>False) s:=by
 refine wpAny_noted ?_
 rw[Ā];exact xa<|xt<|Gj h (λ_ _ q=>q) λ_ _ q=>q.elim
def bKo:TT:=λ_ H Q=>Q true H
def ZP(m:Y.xe=λ_ _=>False)(he:PE Y elt te){it p:Addr}(c:zh)(H:Hp)(s:Shared)(g:db)(vs:o0)(N:FB)(Q:Fin->sK)(I:Ba Y g c H s)
  (h:bKo c H λk j=>if k=true then te c j λy f=>f p=some (.lst vs)/\vs.length<sizeLine/\N (bb f p<|.lst<|vs++[y]) (vs++[y]) else N j vs)
  (mono:∀(Q i:VK),(∀v d,Q v d->i v d)->te c H Q->te c H i)
  (q:∀e d l,Ba Y g c d e->N d l->Q (.again<|.compLoop (.ListComp elt [⟨tg,iter,[],0⟩] scope pos) 0 (.ref it) (.ref p) Y.env) e) :
  wpAny (model Y.prog Y.w) Y.A (eval elt Y.env >>= λx=>call (.builtin "list.append") [.ref p,x] >>= λ_=>again<|.compLoop (.ListComp elt [⟨tg,iter,[],0⟩] scope pos) 0 (.ref it) (.ref p) Y.env) Q (λ_ _=>False) s:=by
 exact Q0 he (by rw[m];exact λ_ _ z=>z) I<|mono _ _ (λy f ⟨a,b,n⟩=>⟨a,b,λe o=>Ma<|q e _ _ o n⟩) h
end
section
variable{K:Frag} {st:za}
def bKp(is:ac):∀st:za,(nj is st).length=st.length:=by
 induction is with
 |nil=>exact λ_=>rfl
 |cons i is a=>intro st;show (nj is _).length=_;rw[a,gm]
def bE(is:ac):∀(st:za)(j:Nat)(x:Sl),(nj is st)[j]?=some (some x)->st[j]?=some (some x)/\j∉is:=by
 induction is with
 |nil=>exact λσ j v h=>⟨h,by simp⟩
 |cons i is b=>
  intro σ j v h;obtain⟨a,c⟩:=b _ j v h;rw[ug]at a
  by_cases e:i=j
  .subst e;rw[jb rfl]at a;split at a<;>cases a
  rw[Pa e]at a;exact⟨a,λz=>(qc.mp z).elim (λz=>e z.symm) c⟩
def MM(is:ac):∀(a:zh)(j:Nat),j∉is->(Oq is a)[j]?=a[j]?:=by
 induction is with
 |nil=>exact λa j _=>rfl
 |cons i is b=>
  intro a j h;show (Oq is _)[j]?=_;rw[b _ j λz=>h<|Mb _ z,ug,Pa<|show ¬ i=j from λz=>h<|z ▸ qb]
theorem RS.nj(is:ac)(r:RS K B A H st σ):RS K B A H (Pu.nj is st) (Oq is σ) where
 len:=by rw[bKp,G3,r.len]
 own:=r.own
 Zf:=r.Zf
 val:=λi d e=>by
  obtain⟨e1,h⟩:=bE is st i _ e;rw[MM is σ i h];exact r.val i d e1
 lst:=λi f xs e=>by
  obtain⟨e1,h⟩:=bE is st i _ e;obtain⟨a,o,b,e2,m,k,c,q,u⟩:=r.lst i f xs e1;refine⟨a,o,b,by rwa [MM is σ i h],m,k,c,q,λj k' ys ej WH=>?_⟩
  obtain⟨l,g⟩:=bE is st j _ ej;rw[MM is σ j g]at WH;exact u j k' ys l WH
def RS.weaken(r:RS K B A H st σ)(l:st'.length=st.length)(h:∀(j:Nat)(x:Sl),st'[j]?=some (some x)->st[j]?=some (some x)):RS K B A H st' σ where
 len:=l.trans r.len
 own:=r.own
 Zf:=r.Zf
 val:=λi d e=>r.val i d<|h i _ e
 lst:=λi g xs e=>by
  obtain⟨a,o,c,e2,m,n,f,q,u⟩:=r.lst i g xs<|h i _ e;exact⟨a,o,c,e2,m,n,f,q,λj k b p s=>u j k b (h j _ p) s⟩
def mem_mid{p b:Addr}:b∈A++p::B↔b=p\/b∈A++B:=by
 simp;constructor
 .rintro(h|h|h)
  .exact .inr (.inl h)
  .exact .inl h
  exact .inr<|.inr h
 rintro(h|h|h)
 .exact .inr (.inl h)
 .exact .inl h
 exact .inr<|.inr h
def J3{p:Addr} (d:H p=none):bG (hide (A++B) H) (hide (A++p::B)<|bb H p o):=λb u q=>by
 have c:=aX _ _ _ _ q;have a:=bD c d
 rwa [bF<|(λz=>(mem_mid.mp z).elim a<|λz=>by rw[dC z]at q;cases q),aW a]
def RS.grow(r:RS K B A H st σ){p:Addr} (b:H p=none):RS K (p::B) A (bb H p<|.lst vs) st σ where
 len:=r.len
 own:=λa c=>by
  by_cases e:a=p
  .subst e;rw[bK];rfl
  rw[aW e];exact r.own a<|(mem_mid.mp c).resolve_left e
 Zf:=λa c d=>by
  rcases qc.mp d with rfl|d
  .exact r.own.free b (Sf _ c)
  exact r.Zf a c d
 val:=λj i e=>let ⟨u,e1,q⟩:=r.val j i e;⟨u,e1,q.mono<|J3 b⟩
 lst:=λj g xs e=>by
  obtain⟨a,o,k,e1,m,h,f,q,u⟩:=r.lst j g xs e;exact⟨a,o,k,e1,m,by rwa [aW<|bD h b],f,q.mono<|J3 b,u⟩
def RS.put{p:Addr}(r:RS K (p::B) A H st σ):RS K (p::B) A (bb H p<|.lst vs) st σ:=by
 have c:hide _ (bb H p<|.lst vs)=hide (A++p::B) H:=sW<|mem_mid.mpr<|.inl rfl;refine⟨r.len,λb hb=>?_,r.Zf,λj d e=>by rw[c];exact r.val j d e,λj kk xs e=>?_⟩
 .by_cases e:b=p
  .subst e;rw[bK];rfl
  rw[aW e];exact r.own b hb
 obtain⟨a,o,g,e1,m,h,f,q,u⟩:=r.lst j kk xs e;refine⟨a,o,g,e1,m,?_,f,by rwa [c],u⟩
 have:a≠p:=λz=>r.Zf a m<|z ▸ qb
 rwa [aW this]
end
def Xo(is:ac)(t:Tg):Prop:=∀d st a,t d st=.ok a->a.length=st.length/\∀(j:Nat),j∉is->a[j]?=st[j]?
def Sv:Xo [i] (gb i):=λd st a h=>by
 cases h;refine⟨gm,λj hj=>?_⟩
 rw[ug,Pa λz=>hj (by simp[z])]
def bT8{is:ac}:Xo is (nh is):=by
 have b:∀(is:ac)(ds:dL)(st a:za),sv is ds st=.ok a->a.length=st.length/\∀(j:Nat),j∉is->a[j]?=st[j]?:=by
  intro is
  induction is with
  |nil=>intro ds st a h;cases ds with|nil=>cases h;exact⟨rfl,λ_ _=>rfl⟩|cons _ _=>cases h
  |cons i is c=>
   intro ds st a h;cases ds with
   |nil=>cases h
   |cons d ds=>
    obtain⟨f,e⟩:=c ds _ a h;refine⟨by rw[f,gm],λj hj=>?_⟩
    rw[e j λz=>hj<|Mb _ z,ug,Pa<|show ¬ i=j from λz=>hj<|z ▸ qb]
 intro d st a h;cases d<;>first|(cases h)|exact b is _ st a h
noncomputable def KI:List Str->Bool
 |[]=>true
 |x::r=>!r.contains x&&KI r
theorem I9:∀{l:wp},KI l=true->l.Nodup
 |[],_=>.nil
 |x::r,h=>by
  unfold KI at h;simp only[and_eq_true]at h;exact lj.mpr ⟨λz=>by rw[List.contains_iff_mem.mpr z]at h;exact Bool.noConfusion h.1,I9 h.2⟩
noncomputable def c_(a:Scope)(b:List (Str×NameKind))(N:wp)(is:ac):Bool:=
 a.kind == .function&&KI (a.names.map (·.1))&&a.names.all (λx=>x.2 !=.free||b.lookup x.1==some .cell||b.lookup x.1==some .free) &&
  (List.range N.length).all λi=>(a.names.lookup (N.getD i "") !=some .local&&a.names.lookup (N.getD i "") !=some .cell)||is.contains i
def yc.of{is:ac}(h:c_ scope X.env.scope.names X.N is=true):yc X scope is:=by
 unfold c_ at h;simp only[and_eq_true,List.all_eq_true]at h;obtain⟨⟨⟨f,g⟩,d⟩,c⟩:=h;refine⟨by simpa using f,I9 g,λx hx hf=>?_,λi x e hl=>?_⟩
 .have:=d x hx;simp at this;rcases this with (z|z)|z
  .exact absurd hf z
  .exact .inl z
  exact .inr z
 have:=c i<|qf.mpr<|(Ee.mp e).1;rw[bf,e]at this;simp at this;rcases this with ⟨b,a⟩|z
 .rcases hl with hl|hl
  .exact absurd hl b
  exact absurd hl a
 simpa using z
def bKq{K:Frag} (Q b:VK) (m:∀v a,Q v a->b v a) (h:tI K B f τ H Q):tI K B f τ H b:=
 let ⟨A,st,d,c,e,q⟩:=h;⟨A,st,d,c,e,λv a s r=>m v a<|q v a s r⟩
def Eu(K:Frag)(f:Ex):TE:=λτ H Q=>∃B,tI K B f τ H Q
def Η(K:Frag)(f:Ex):TT:=λτ H Q=>∃B,tT K B f τ H Q
def Ε(K:Frag)(t:Tg):TG:=λv τ H Q=>∃B,tG K B t v τ H Q
def gw(h:∀B,PE X e<|tI X.K B f):PE X e (Eu X.K f):=λa s σ H Q I ⟨B,q⟩=>h B a s σ H Q I q
def NQ(h:∀B,PT X e<|tT X.K B f):PT X e (Η X.K f):=λa s σ H Q I ⟨B,q⟩=>h B a s σ H Q I q
def iw{t:Tg}(h:∀B,PG X e<|tG X.K B t):PG X e (Ε X.K t):=λa s σ H v u Q I r ⟨B,q⟩=>h B a s σ H v u Q I r q
def zF{K:Frag} (Q a:VK) (m:∀v b,Q v b->a v b) (h:Eu K f τ H Q):Eu K f τ H a:=let ⟨B,q⟩:=h;⟨B,bKq Q a m q⟩
theorem Tv{K:Frag} {is:ac} {t:Tg} {c:Ex} {H:Hp} (hsub:Xo is t)
  (F:∀o H Q,Η K c o H Q->tt o H Q) {st:za} {ys:dL} (S:RS K B A H st σ) (hx:it st=.ok xs) (hl:xs.length<=big) (hy:jL t c f (nj is st) xs=.ok ys) {Q:VK}
  (q:∀p vs H1 d,bG H H1->H1 p=none->bG H1 d->d p=some (.lst vs)->bJ K (hide (A++p::B) d) ys vs->Q (.ref p) d):Ζ is (Jk K B it) (Ε K t) tt (Eu K f) σ H Q:=by
 refine⟨A,st,xs,S,hx,λJ H1 s1 mB p hp=>⟨λi m o vs d=>m=xs.length-i/\i<=xs.length/\vs.length<=i/\d p=some (.lst vs)/\bG H1 d/\RS K _ A d _ o/\
   ∃ds rest,bJ K (hide (A++p::B) d) ds vs/\jL t c f _ (xs.drop i)=.ok rest/\ds++rest=ys,⟨xs.length,rfl,Ef _,Ef _,bK,bN hp,((S.mono s1).nj is).grow hp,[],ys,.nil,by rwa [drop_zero],rfl⟩,?_⟩⟩
 intro i m o vs d hW;refine Uc λU=>?_
 obtain⟨rfl,hi,μ,l,n,X,ds,rest,r,C,L⟩:=hW;have T:∀a,a∈(p::A)++B↔a∈A++p::B:=λa=>by
  rw[mem_mid];exact qc
 obtain⟨i1,i2⟩:=mB _ d (λb u z=>by
  have M:=aX _ _ _ _ z;rw[bF<|(λw=>(qc.mp w).elim (bD M hp)<|λw=>by rw[dC w]at z;cases z)]
  exact n b u M) (λa I=>X.own a<|(T a).mp I) i
 by_cases g:i<xs.length
 .obtain⟨go,N⟩:=i1 _<|Kc g;rw[Ws g]at C;obtain⟨s,W,h5⟩:=R.qa C;obtain⟨cb,G,h6⟩:=R.qa h5;obtain⟨k,rfl,V⟩:=uZ h6;obtain⟨P,Y⟩:=hsub _ _ _ W;have h:∀(j:Nat)(z:Sl),(nj is st)[j]?=some (some z)->s[j]?=some _:=λj z ez=>by rwa [Y j (bE is st j z ez).2]
  refine U ⟨l,.inr ⟨go,λx H2 y=>?_⟩⟩
  have D:=(N x H2 y).1;have Z:=(N x H2 y).2;have l:=D _ _ l;have n:=n.trans D;have r:=r.mono<|bG.hide D;refine⟨p::B,A,nj is st,xs[i],s,(X.mono D),(Z.mono<|gP λa I=>(T a).mpr I),W,λPo Lr=>F _ _ _ ⟨p::B,A,s,k,Lr,G,λH3 s3=>?_⟩⟩
  cases k with
  |true=>
   obtain⟨O,E,h8⟩:=R.qa V;obtain⟨EB,gu,h9⟩:=R.qa h8;cases h9;refine⟨p::B,A,s,O,Lr.mono s3,E,λv H4 s4 r4=>⟨s4 _ _<|s3 _ _ l,?_,xs.length-(i+1),by lia,rfl,g,by rw[Ud,Ug];lia,bK,?_,?_,ds++[O],EB,?_,gu,by rwa [Bh]⟩⟩
   .have:sizeLine=16777216:=rfl;have hbg:=lB;lia
   .exact λb u z=>by rw[aW<|bD z hp];exact s4 _ _<|s3 _ _<|n b u z
   .exact(((Lr.mono s3).mono s4).weaken (by rw[P]) h).put
   rw[sW<|mem_mid.mpr<|.inl rfl];exact(r.mono<|bG.hide<|s3.trans s4).append (.cons r4 .nil)
  |false=>exact⟨xs.length-(i+1),by lia,rfl,g,by lia,s3 _ _ l,n.trans s3,(Lr.mono s3).weaken (by rw[P]) h,ds,rest,r.mono<|bG.hide s3,V,L⟩
 have e:i=xs.length:=by lia
 subst e;rw[SH]at C;cases C;rw[Nh]at L;subst L;exact U ⟨l,.inl ⟨i2<|Pb _,q p vs H1 d s1 hp n l r⟩⟩
section
variable {iter c:Expr} {t:Tg} {u:Ex}
def dQ(m:Y.xe=λ_ _=>False)(he:PE Y elt te)(w:PT Y c tt){it p:Addr}(d:zh)(H:Hp)(s:Shared)(g:db)(vs:o0)(N:FB)(Q:Fin->sK)(I:Ba Y g d H s)
  (h:tt d H λk t=>if k=true then te d t λy i=>i p=some (.lst vs)/\vs.length<sizeLine/\N (bb i p<|.lst<|vs++[y]) (vs++[y]) else N t vs)
  (mono:∀H (Q o:VK),(∀v e,Q v e->o v e)->te d H Q->te d H o)
  (q:∀f e u,Ba Y g d e f->N e u->Q (.again<|.compLoop (.ListComp elt [⟨tg,iter,[c],0⟩] scope pos) 0 (.ref it) (.ref p) Y.env) f) :
  wpAny (model Y.prog Y.w) Y.A (isTrue c Y.env (eval c Y.env) >>= fun ok => if ok = true then (eval elt Y.env >>= fun x => call (.builtin "list.append") [.ref p, x] >>= fun _ => again<|.compLoop (.ListComp elt [⟨tg, iter, [c], 0⟩] scope pos) 0 (.ref it) (.ref p) Y.env)
        else again (.compLoop (.ListComp elt [⟨tg,iter,[c],0⟩] scope pos) 0 (.ref it) (.ref p) Y.env)) Q (λ_ _=>False) s:=by
 have j:=w g s d H _ I h;rw[m]at j;refine xa<|Vb j λk s1 ⟨B,r,l⟩=>?_
 cases k with
 |true=>
  exact Q0 he (by rw[m];exact λ_ _ z=>z) r<|mono _ _ _ (λy i ⟨a,b,n⟩=>⟨a,b,λf A=>Ma<|q f _ _ A n⟩) l
 |false=>
  exact Ma<|q s1 B vs r l
def NE{Q:VK}{st:za} {ys:dL} {p:Addr} {b:Hp} (d:RS X.K B A H st σ) (q:∀v b,bG H b->Bb X.K (hide (A++B) b) (.lst ys) v->Q v b) (s1:bG H H1) (e:H1 p=none) (c:bG H1 b)
  (g:b p=some (.lst vs)) (r:bJ X.K (hide (A++p::B) b) ys vs):Q (.ref p) b:=
 q _ b (s1.trans c) (fX.mpr ⟨p,vs,rfl,(by rwa [bF<|(d.own.mono s1).free e]),r.mono<|gP λa f=>mem_mid.mpr<|.inr f⟩)
def jF{is:ac}(E:L2.PI X tg iter (Jk X.K B it))(F:∀(B:bv)(C:Addr)(c:Shared)(b:Hp)(a:bv),PG (eX X scope C c b a) tg<|tG X.K B t)
  (he:∀(B:bv)(C:Addr)(c:Shared)(b:Hp)(a:bv),PE (eX X scope C c b a) elt<|tI X.K B f) (J:X.calm=true:=by rfl) (hsub:Xo is t:=by exact Sv) (S:yc X scope is:=by exact .of rfl) (hs:∀x,foldedSetIterable iter X.env x=pure x:=by intro _;rfl) :
  PE X (.ListComp elt [⟨tg,iter,[],0⟩] scope pos) (tI X.K B<|cJ is t it cV f):=by
 intro j s σ H Q I h;refine Uc λK=>?_
 obtain⟨A,st,d,g,G,q⟩:=h;obtain⟨xs,w,P⟩:=R.qa G;obtain⟨D,O⟩:=aM P;obtain⟨ys,v,M⟩:=R.qa O;cases M;refine K (uU (rest:=λe it p=>eval elt e >>= λx=>call _ [p,x] >>= λ_=>again<|.compLoop _ 0 it p e) S J E (λC c b a=>iw λB=>F B C c b a) (λ_ _ _=>qY)
  (λC c b a it p s Q h=>LQ h) (λC c b a it p τ H s j i N Q I h q=>ZP rfl (gw λB=>he B C c b a) τ H s j i N Q I h (λQ U m h=>zF Q U m h) q) hs I
  (Tv hsub (λτ H Q ⟨B,A,st,k,g,hk,q⟩=>?_) g w D v λp i H1 H' s1 z l y r=>NE g q s1 z l y r) λC p Z s5 u s3 H3 a τ L Y T W V n=>⟨u,V,λh' o=>⟨.ref p,Z,dy Y T L W o,rfl,n⟩⟩)
 cases hk;exact q H<|bG.refl _
def vU{is:ac}(G:L2.PI X tg iter (Jk X.K B it))(J:∀(B:bv)(C:Addr)(g:Shared)(e:Hp)(a:bv),PG (eX X scope C g e a) tg<|tG X.K B t)
  (D:∀(B:bv)(C:Addr)(g:Shared)(e:Hp)(a:bv),PT (eX X scope C g e a) c<|tT X.K B u)
  (he:∀(B:bv)(C:Addr)(g:Shared)(e:Hp)(a:bv),PE (eX X scope C g e a) elt<|tI X.K B f) (L:X.calm=true:=by rfl) (hsub:Xo is t:=by exact Sv) (S:yc X scope is:=by exact .of rfl) (hs:∀x,foldedSetIterable iter X.env x=pure x:=by intro _;rfl) :
  PE X (.ListComp elt [⟨tg,iter,[c],0⟩] scope pos) (tI X.K B<|cJ is t it u f):=by
 intro k s σ H Q I h;refine Uc λM=>?_
 obtain⟨A,st,d,j,K,q⟩:=h;obtain⟨xs,y,U⟩:=R.qa K;obtain⟨F,T⟩:=aM U;obtain⟨ys,w,P⟩:=R.qa T;cases P;exact M (uU (te:=Eu X.K f) (rest:=λb it p=>isTrue c b (eval c b) >>= λok=>if ok=true then (eval elt b >>= λx=>call _ [p,x] >>= λ_=>again<|.compLoop _ 0 it p b) else again (.compLoop _ 0 it p b)) S L G (λC g e a=>iw λB=>J B C g e a) (λ_ _ _=>qY)
  (λC g e a it p s Q h=>MQ h) (λC g e a it p τ H s k i N Q I h q=>dQ rfl (gw λB=>he B C g e a) (NQ λB=>D B C g e a) τ H s k i N Q I h (λ_ Q W m h=>zF Q W m h) q) hs I
  (Tv hsub (λτ H Q h=>h) j y F w λp i H1 H' s1 E l z r=>NE j q s1 E l z r) λC p H5 s5 v s3 H3 a τ O I3 V Z Y n=>⟨v,Y,λh' o=>⟨.ref p,H5,dy I3 V O Z o,rfl,n⟩⟩)
end
end Pu
namespace Pu
open PySem PySem.Spec PyProof.Rows L2 PySem.SeqAt
section
variable{X:Cx}{aa:db}{σ:zh}{H:Hp}{s:Shared}
def A6(I:Ba X aa σ H s) {xs ys:o0} (g:Qc X.K H a xs) (f:Xf X.K H a ys):False:=by
 obtain⟨c,_,⟨o,n,e,d,_⟩,_⟩:=I.list g;obtain⟨i,_,⟨h,e2,b,_⟩,_⟩:=I.tuple f;rw[e]at e2;cases e2;rw[d]at b;simp at b
mutual
theorem Bb.inj(I:Ba X aa σ H s):∀{x y:D}{v:V},plain x=true->plain y=true->Bb X.K H x v->Bb X.K H y v->x=y
 |x,y,v,l,k,h,b=>by
  cases x<;>first|(simp at l;done)|skip
  all_goals cases y<;>first|(simp at k)|skip
  case tup.tup=>
   obtain⟨a,j,e,c,g⟩:=gW h;obtain⟨m,n,d,f,i⟩:=gW b;subst e;cases d;cases I.Th c f;rw[bJ.inj I (by simpa using l) (by simpa using k) g i]
  case lst.lst=>
   obtain⟨a,j,e,c,g⟩:=fX.mp h;obtain⟨m,n,d,f,i⟩:=fX.mp b;subst e;cases d;cases I.fg c f;rw[bJ.inj I (by simpa using l) (by simpa using k) g i]
  case tup.lst=>
   obtain⟨a,j,e,c,g⟩:=gW h;obtain⟨m,n,d,f,i⟩:=fX.mp b;subst e;cases d;exact(A6 I f c).elim
  case lst.tup=>
   obtain⟨a,j,e,c,g⟩:=fX.mp h;obtain⟨m,n,d,f,i⟩:=gW b;subst e;cases d;exact(A6 I c f).elim
  all_goals first|(obtain⟨_,_,b,_⟩:=b;subst b;cases h)|(obtain⟨_,_,h,_⟩:=h;subst h;cases b)|(subst h;cases b;first|rfl|done)|(subst h)
theorem bJ.inj(I:Ba X aa σ H s):∀{xs ys:dL}{vs:o0},dJ xs=true->dJ ys=true->bJ X.K H xs vs->bJ X.K H ys vs->xs=ys
 |[],ys,vs,c,b,h,a=>by
  have e:=cZ.mp h;subst e;cases ys with
  |nil=>rfl
  |cons y ys=>obtain⟨_,_,a,_⟩:=bR.mp a;cases a
 |x::xs,ys,vs,c,b,h,a=>by
  obtain⟨v,r,e,i,g⟩:=bR.mp h;subst e;cases ys with
  |nil=>exact nomatch cZ.mp a
  |cons y ys=>
   obtain⟨k,l,j,f,d⟩:=bR.mp a;cases j;simp at c b;rw[Bb.inj I c.1 b.1 i f,bJ.inj I c.2 b.2 g d]
end
mutual
theorem K3:∀x:D,plain x=true->Oc x x=true
 |.Sb,_=>rfl
 |.bl b,_=>by simp
 |.int i,_=>by simp
 |.str x,_=>by simp
 |.tup x,h=>by exact EL x (by simpa using h)
 |.lst x,h=>EL x (by simpa using h)
 |.Fe _ _ _,h=>by simp at h
 |.ins _ _ _,h=>by simp at h
 |.km _ _ _,h=>by simp at h
 |.fn _,h=>by simp at h
theorem EL:∀x:dL,dJ x=true->oH x x=true
 |[],_=>rfl
 |a::x,h=>by
  simp at h;unfold oH;rw[K3 a h.1,EL x h.2];rfl
end
def pairE(xs ys:dL)(j:Nat):Bool:=Oc (xs.getD j .Sb)<|ys.getD j .Sb
theorem CD:∀xs ys:dL,((List.range<|min xs.length ys.length).all (pairE xs ys)&&xs.length==ys.length)=oH xs ys
 |[],[]=>rfl
 |[],_::_=>rfl
 |_::_,[]=>rfl
 |x::xs,y::ys=>by
  have e:oH (x::xs) (y::ys)=(Oc x y&&oH xs ys):=by conv=>lhs;unfold oH
  rw[e,<-(CD xs ys)];have a:min (x::xs).length (y::ys).length=min xs.length ys.length+1:=by simp only[length_cons];omega
  rw[a,O_,all_cons,List.all_map];have e1:pairE (x::xs) (y::ys) 0=Oc x y:=rfl;have e2:(pairE (x::xs) (y::ys) ∘ Nat.succ)=pairE xs ys:=rfl;rw[e1,e2,Bool.and_assoc];simp
def aWw{ys:dL}(h:xs.length≠ys.length):oH xs ys=false:=by
 rw[<-CD];simp[h]
inductive Vw (X:Cx) (H:Hp) (s:Shared):D->Value->Prop
 |Sb:Vw X H s .Sb .none
 |bl (b:Bool):Vw X H s (.bl b) (.bool b)
 |int (i:Int) (t:Tok):Vw X H s (.int i) (.int i t)
 |str (x:ac) (t:Tok):Vw X H s (.str x) (.str ⟨x.toArray⟩ t)
 |tup {x:dL} {ws:o0} {its:cr} {l:Addr} (hq:s.heap.IsTuple l its.toArray) (hr:bJ X.K H x ws) (hv:Ha ws its):Vw X H s (.tup x) (.ref l)
 |lst {x:dL} {ws:o0} {its:cr} {l:Addr} (hq:s.heap.IsList l its.toArray) (hr:bJ X.K H x ws) (hv:Ha ws its):Vw X H s (.lst x) (.ref l)
def Vw.of(I:Ba X aa σ H s){x:D} {a:Value} (h:Bb X.K H x v) (r:RelV v a) (p:plain x=true):Vw X H s x a:=by
 cases x with
 |Sb=>have e:=uN.mp h;subst e;subst r;exact .Sb
 |bl b=>have e:=dW.mp h;subst e;subst r;exact .bl b
 |int i=>have e:=bO.mp h;subst e;obtain⟨t,e⟩:∃t,a=Value.int i t:=r;subst e;exact .int i t
 |str x=>have e:=dX.mp h;subst e;obtain⟨t,e⟩:∃t,a=Value.str _ t:=r;subst e;exact .str x t
 |tup x=>obtain⟨l,k,e,j,g⟩:=gW h;subst e;have e:=r;subst e;obtain⟨f,c,d,_⟩:=I.tuple j;exact .tup d g c
 |lst x=>obtain⟨l,k,e,j,g⟩:=fX.mp h;subst e;subst r;obtain⟨f,c,d,_⟩:=I.list j;exact .lst d.isList g c
 |_=>simp at p
def bKr{A:Around}{x y:D}{a b:Value}{k:Bool}(g:Vw X H s x a)(f:Vw X H s y b)(h:RcAt A s a b k)(hs:a=b->k=true):EqAt A s a b k:=λc w E Q d=>by
 refine Yf<|yo (λe=>?_) λ_=>?_
 .rw[hs<|eq_of_beq e]at d;exact xa<|ar<|Ma d
 cases g<;>cases f<;>exact xa<|h c w E _<|dt d
def bGu{u:V}{a:Value}(h:RelV v a)(b:RelV u a):v=u:=by
 cases v<;>(first|subst h|(obtain⟨_,h⟩:=h;subst h)) <;> cases u<;>first|(cases b;done)|(cases b;rfl)|(obtain⟨_,b⟩:=b;cases b;done)|(obtain⟨_,b⟩:=b;cases b;rfl)
def L3(x y:ac):Oc (.str x) (.str y)=((⟨x.toArray⟩:Str)==⟨y.toArray⟩):=by rw[<-str_beq];simp
def bTa{A:Around}{a b:Value}{k c:Bool}(h:RcAt A s a b k)(e:k=c):RcAt A s a b c:=e ▸ h
def bTb{A:Around}{a b:Value}{k c:Bool}(h:RcNeAt A s a b k)(e:k=c):RcNeAt A s a b c:=e ▸ h
def M3(I:Ba X aa σ H s){x y:D}{A:Around}{u:V}{a b:Value}(i:Bb X.K H x v)(g:Bb X.K H y u)(f:RelV v a)(d:RelV u b)(j:plain x=true)(c:plain y=true)(h:RcAt A s a b (Oc x y)):EqAt A s a b (Oc x y):=
 bKr (Vw.of I i f j) (Vw.of I g d c) h λe=>by rw[Bb.inj I j c i<|bGu (e ▸ f) d ▸ g];exact K3 y c
mutual
theorem OE(I:Ba X aa σ H s)(x y:D)(A:Around)(v u:V)(a b:Value)(n:Bb X.K H x v)(m:Bb X.K H y u)(l:RelV v a)(k:RelV u b)(r:A.units+Ff x<cLine)(i:plain x=true)(h:plain y=true):RcAt A s a b (Oc x y)/\RcNeAt A s a b (!Oc x y):=by
 have c:=LR (FH _ _) r;have p:=Vw.of I n l i;have o:=Vw.of I m k h;clear n m l k;cases p<;>cases o
 case tup.tup x _ i1 _ hq hr hv y _ i2 _ Yd Bg qm=>
  have t:Ff (.tup x)=jV x+1:=by conv=>lhs;unfold Ff
  have:=FL I x y A.in1 _ _ _ _ hr Bg hv qm (by lia) (by simpa using i) (by simpa using h)
  have e:Oc (.tup x) (.tup y)=oH x y:=by conv=>lhs;unfold Oc
  rw[e,<-CD,<-hr.length,<-Bg.length,hv.length,qm.length,<-Jf,<-Jf];exact⟨RcAt.tuples hq Yd c λj f d=>by simpa using this j (by simpa using f) (by simpa using d),RcNeAt.tuples hq Yd c λj f d=>by simpa using this j (by simpa using f) (by simpa using d)⟩
 case lst.lst x _ i1 _ hq hr hv y _ i2 _ Yd Bg qm=>
  have t:Ff (.lst x)=jV x+1:=by conv=>lhs;unfold Ff
  have:=FL I x y A.in1 _ _ _ _ hr Bg hv qm (by lia) (by simpa using i) (by simpa using h)
  have e:Oc (.lst x) (.lst y)=oH x y:=by conv=>lhs;unfold Oc
  have q:i1.length=x.length:=by rw[<-hv.length,hr.length]
  have w:i2.length=y.length:=by rw[<-qm.length,Bg.length]
  rw[e]
  by_cases g:i1.length=i2.length
  .rw[show oH x y=(List.range i1.toArray.size).all (pairE x y) by rw[<-CD,Jf,q];simp[show x.length=y.length by lia]]
   exact⟨RcAt.lists hq Yd (by simpa using g) c λj f d=>by simpa using this j _ _,RcNeAt.lists hq Yd (by simpa using g) c λj f d=>by simpa using this j (by simpa using f) (by simpa using d)⟩
  rw[aWw (by lia)]
  exact⟨RcAt.lists_lengths hq Yd (by simpa using g) c,RcNeAt.lists_lengths hq Yd (by simpa using g) c⟩
 all_goals
  constructor
  .apply bTa
   .with_reducible first|exact RcAt.none_none|exact RcAt.none_bool _|exact RcAt.none_int _ _|exact RcAt.none_str _ _|exact RcAt.none_tuple ‹_› c|exact RcAt.none_list ‹_› c|exact RcAt.bool_none _|exact RcAt.bool_bool _ _|exact RcAt.bool_int _ _ _|exact RcAt.bool_str _ _ _|exact RcAt.bool_tuple _ ‹_› c|exact RcAt.bool_list _ ‹_› c|exact RcAt.int_none _ _|exact RcAt.int_bool _ _ _|exact RcAt.int_int _ _ _ _|exact RcAt.int_str _ _ _ _|exact RcAt.int_tuple _ _ ‹_› c|exact RcAt.int_list _ _ ‹_› c|exact RcAt.str_none _ _|exact RcAt.str_bool _ _ _|exact RcAt.str_int _ _ _ _|exact RcAt.str_str _ _ _ _|exact RcAt.str_tuple _ _ ‹_› c|exact RcAt.str_list _ _ ‹_› c|exact RcAt.tuple_none ‹_› c|exact RcAt.tuple_bool _ ‹_› c|exact RcAt.tuple_int _ _ ‹_› c|exact RcAt.tuple_str _ _ ‹_› c|exact RcAt.tuple_list ‹_› ‹_› c|exact RcAt.list_none ‹_› c|exact RcAt.list_bool _ ‹_› c|exact RcAt.list_int _ _ ‹_› c|exact RcAt.list_str _ _ ‹_› c|exact RcAt.list_tuple ‹_› ‹_› c
   first|exact(L3 _ _).symm|(unfold Oc;rfl)
  apply bTb
  .with_reducible first|exact RcNeAt.none_none|exact RcNeAt.none_bool _|exact RcNeAt.none_int _ _|exact RcNeAt.none_str _ _|exact RcNeAt.none_tuple ‹_› c|exact RcNeAt.none_list ‹_› c|exact RcNeAt.bool_none _|exact RcNeAt.bool_bool _ _|exact RcNeAt.bool_int _ _ _|exact RcNeAt.bool_str _ _ _|exact RcNeAt.bool_tuple _ ‹_› c|exact RcNeAt.bool_list _ ‹_› c|exact RcNeAt.int_none _ _|exact RcNeAt.int_bool _ _ _|exact RcNeAt.int_int _ _ _ _|exact RcNeAt.int_str _ _ _ _|exact RcNeAt.int_tuple _ _ ‹_› c|exact RcNeAt.int_list _ _ ‹_› c|exact RcNeAt.str_none _ _|exact RcNeAt.str_bool _ _ _|exact RcNeAt.str_int _ _ _ _|exact RcNeAt.str_str _ _ _ _|exact RcNeAt.str_tuple _ _ ‹_› c|exact RcNeAt.str_list _ _ ‹_› c|exact RcNeAt.tuple_none ‹_› c|exact RcNeAt.tuple_bool _ ‹_› c|exact RcNeAt.tuple_int _ _ ‹_› c|exact RcNeAt.tuple_str _ _ ‹_› c|exact RcNeAt.tuple_list ‹_› ‹_› c|exact RcNeAt.list_none ‹_› c|exact RcNeAt.list_bool _ ‹_› c|exact RcNeAt.list_int _ _ ‹_› c|exact RcNeAt.list_str _ _ ‹_› c|exact RcNeAt.list_tuple ‹_› ‹_› c
  first|exact congrArg _ (L3 _ _).symm|(rfl)
theorem FL(I:Ba X aa σ H s):∀(xs ys:dL)(A:Around)(vs g:o0)(f bs:cr),bJ X.K H xs vs->bJ X.K H ys g->Ha vs f->Ha g bs->A.units+jV xs<cLine->dJ xs=true->dJ ys=true->∀(j:Nat)(l:j<f.length)(k:j<bs.length),EqAt A s f[j] bs[j] (pairE xs ys j)
 |[],_,A,vs,g,f,bs,i,h,b,a,o,d,c,j,l,k=>by
  have e:=cZ.mp i;subst e;cases b;exact absurd l<|zp _
 |x::xs,[],A,vs,g,f,bs,i,h,b,a,o,d,c,j,l,k=>by
  have e:=cZ.mp h;subst e;cases a;exact absurd k<|zp _
 |x::xs,y::ys,A,vs,g,f,bs,i,h,b,a,o,d,c,j,l,k=>by
  obtain⟨v,r,e,q,z⟩:=bR.mp i;subst e;obtain⟨u,t,e,p,w⟩:=bR.mp h;subst e;have B:jV (x::xs)=max (Ff x) (jV xs):=by conv=>lhs;unfold jV
  rw[B]at o;simp at d c;cases b with
  |cons b n=>
   cases a with
   |cons a m=>
    cases j with
    |zero=>exact M3 I q p b a d.1 c.1 (OE I x y A v u _ _ q p b a (by lia) d.1 c.1).1
    |succ j=>exact FL I xs ys A r t _ _ z w n m (by lia) d.2 c.2 j _ _
end
def N3(I:Ba X aa σ H s)(x y:D)(A:Around)(v u:V)(a b:Value)(f:Bb X.K H x v)(e:Bb X.K H y u)(d:RelV v a)(c:RelV u b)(i:A.units+Ff x<cLine)(h:plain x=true)(g:plain y=true):EqAt A s a b (Oc x y):=
 M3 I f e d c h g (OE I x y A v u _ _ f e d c i h g).1
def bGv(I:Ba X aa σ H s)(x y:D)(A:Around)(v u:V)(a b:Value)(f:Bb X.K H x v)(e:Bb X.K H y u)(d:RelV v a)(c:RelV u b)(i:A.units+Ff x<cLine)(h:plain x=true)(g:plain y=true):RcAt A s a b (Oc x y):=(OE I x y A v u a b f e d c i h g).1
def bGw(I:Ba X aa σ H s)(x y:D)(A:Around)(v u:V)(a b:Value)(f:Bb X.K H x v)(e:Bb X.K H y u)(d:RelV v a)(c:RelV u b)(i:A.units+Ff x<cLine)(h:plain x=true)(g:plain y=true):RcNeAt A s a b (!Oc x y):=(OE I x y A v u a b f e d c i h g).2
end
end Pu
namespace Pu
open PySem PySem.Spec PyProof.Rows L2
section
variable{X:Cx}{B:bv}{a b e:Expr}{f g:Ex}{pos:Pos}
theorem lZ.rep{K:Frag}{A:bv}{H:Hp}{d:D}{v:V}(h:lZ K A H d v):Bb K H d v:=by
 rcases h with h|⟨a,k,o,ds,e,e1,e2,c,b,q⟩
 .exact h.mono (aX _ _)
 subst e1 e2;exact b.rep c<|q.mono<|aX _ _
def GG(K:Frag)(a:Bool):R2:=λv u H Q=>∃x y,Bb K H x v/\Bb K H y u/\(Ff x<=64/\plain x=true/\plain y=true)/\Q (.bl<|if a then !Oc x y else Oc x y) H
theorem eY(i:X.A.units+64<cLine:=by exact Kb.units<|by assumption):Oe X (compareOp .Eq) (GG X.K false):=by
 intro j s σ H v u a b Q I g f h;obtain⟨x,y,e,d,c,q⟩:=h;exact bGv I x y X.A v u a b e d g f (by lia) c.2.1 c.2.2 X.prog X.w X.xe _ ⟨.bl _,H,I,rfl,q⟩
theorem pZ(i:X.A.units+64<cLine:=by exact Kb.units<|by assumption):Oe X (compareOp .NotEq) (GG X.K true):=by
 intro j s σ H v u a b Q I g f h;obtain⟨x,y,e,d,c,q⟩:=h;exact bGw I x y X.A v u a b e d g f (by lia) c.2.1 c.2.2 X.prog X.w X.xe _ ⟨.bl _,H,I,rfl,q⟩
def eZ{K:Frag}:Gi K (GG K false) Ad:=by
 intro A H x y d v u Q w b a e q;obtain⟨c,e⟩:=aM e;cases e;exact⟨x,y,b.rep,a.rep,c,q _ H (bG.refl _)<|dW.mpr rfl⟩
def qC{K:Frag}:Gi K (GG K true) Ph:=by
 intro A H x y d v u Q w b a e q;obtain⟨c,e⟩:=aM e;cases e;exact⟨x,y,b.rep,a.rep,c,q _ H (bG.refl _)<|dW.mpr rfl⟩
noncomputable def tyD:D->String
 |.Sb=>"NoneType"
 |.bl _=>"bool"
 |.int _=>"int"
 |.str _=>"str"
 |.tup _=>"tuple"
 |.lst _=>"list"
 |.Fe _ _ _=>"dict"
 |.ins _ _ _=>""
 |.km _ _ _=>""
 |.fn _=>""
structure IsT(T:String)(p:Do):Prop where
 boot:bootBuiltins T=some (.type T)
 ans:∀(K:Frag)(d:D),bo d=true->PySem.W.kitOne K (.type<|tyD d) (.type T)=some (p d)
def bGx{T:String}{p:Do}(h:IsT T p):mF X (.builtin "isinstance") (λxs H Q=>∃v d,xs=[v,.ty T]/\bo d=true/\Bb X.K H d v/\Q (.bl<|p d) H):=by
 intro D s σ H xs F Q I r q;obtain⟨v,d,rfl,k,i,q⟩:=q;obtain⟨u,G,rfl,g,E⟩:=r.two;subst E;have a:∀y,EP X D σ Q _ {s with toks:=y}:=λy=>⟨.bl<|p d,H,I.tok y,rfl,q⟩
 have e:=h.ans X.K d k;cases d with
 |Sb=>have z:=uN.mp i;subst z;have z:=g;subst z;exact kia_one PySem.W.kitx_none I.Og True.intro e (λz=>nomatch z) a
 |bl x=>have z:=dW.mp i;subst z;have z:=g;subst z;exact kia_one PySem.W.kitx_bool I.Og True.intro e (λz=>nomatch z) a
 |int x=>have z:=bO.mp i;subst z;obtain⟨t,z⟩:∃t,u=Value.int x t:=g;subst z;exact kia_one PySem.W.kitx_int I.Og True.intro e (λz=>nomatch z) a
 |str x=>have z:=dX.mp i;subst z;obtain⟨t,z⟩:∃t,u=Value.str _ t:=g;subst z;exact kia_one PySem.W.kitx_str I.Og True.intro e (λz=>nomatch z) a
 |tup x=>
  obtain⟨l,j,z,b,_⟩:=gW i;subst z;have z:=g;subst z;obtain⟨A,_,⟨o,f,c,_⟩,_⟩:=I.tuple b;exact kia_one PySem.W.kitx_tuple I.Og ⟨o,f,c⟩ e (λz=>nomatch z) a
 |lst x=>
  obtain⟨l,j,z,b,_⟩:=fX.mp i;subst z;have z:=g;subst z;obtain⟨A,_,⟨o,n,f,c,_⟩,_⟩:=I.list b;exact kia_one PySem.W.kitx_list I.Og ⟨o,f,c⟩ e (λz=>nomatch z) a
 |Fe t J x=>
  obtain⟨l,j,z,b,_⟩:=nY.mp i;subst z;have z:=g;subst z;have B:∃o,s.heap.get? l=some o/\o.ExactDict:=by
   rcases b with ⟨_,w,b,_⟩|⟨_,w,b,_⟩
   .obtain⟨_,_,L,_,m⟩:w.length<=sizeLine/\(l==sysModules)=false/\∃j,KV w j/\s.heap.DictOf _ l j:=I.Ta l _ b;obtain⟨o,C,n,f,c,_⟩:=m;exact⟨o,f,c⟩
   obtain⟨_,_,xs,_,o,C,K,f,c,_⟩:=I.Ta l _ b;exact⟨o,f,c⟩
  obtain⟨o,f,c⟩:=B;exact kia_one PySem.W.kitx_dict I.Og ⟨o,f,c.1⟩ e (λz=>nomatch z) a
 |ins _ _ _=>exact nomatch k
 |km _ _ _=>exact nomatch k
 |fn _=>exact nomatch k
def nD{T:Str}{S:String}{p:Do} (k:IsT S p) (o:X.mg "isinstance"=none) (c:X.mg T=none) (t:PE X a (tP X.K B f)) (i:bootBuiltins T=some (.type S):=by first|rfl|exact k.boot) (r:Gl X "isinstance":=by rfl) (e:Gl X T:=by rfl) (b:T≠"__name__":=by decide) (g:pf T:=by decide)
  (hs:starEach [a,.Name T p1] X.env=(false,eval a X.env)::starEach [.Name T p1] X.env:=by rfl) (u:starEach [.Name T p1] X.env=(false,eval (.Name T p1) X.env)::starEach [] X.env:=by rfl) :
  PE X (.Call (.Name "isinstance" p0) [a,.Name T p1] [] pos) (tI X.K B<|eB p f):=by
 have h:PE X (.Name T p1) (tC<|.ty S):=bI9 e c i rfl b g;refine cF (rY (bGx k) r o boot_isinstance (cN t (cN h fD u) hs) (he:=hs)) ?_
 rintro σ H Q ⟨A,st,d,l,s,q⟩;obtain⟨x,n,j⟩:=R.qa s;obtain⟨w,j⟩:=aM j;cases j;exact⟨A,st,x,l,n,λv y s1 m=>⟨v,x,rfl,w,m.rep,q _ y s1<|dW.mpr rfl⟩⟩
def ty_str:IsT "str" YF:=⟨rfl,λK d a=>by cases d<;>first|(cases a;done)|kernel_rfl⟩
def ty_bool:IsT "bool" Sy:=⟨rfl,λK d a=>by cases d<;>first|(cases a;done)|kernel_rfl⟩
def ty_int:IsT "int" isIn:=⟨rfl,λK d a=>by cases d<;>first|(cases a;done)|kernel_rfl⟩
def ty_tuple:IsT "tuple" Uy:=⟨rfl,λK d a=>by cases d<;>first|(cases a;done)|kernel_rfl⟩
def ty_list:IsT "list" Fq:=⟨rfl,λK d a=>by cases d<;>first|(cases a;done)|kernel_rfl⟩
theorem DZ(z:ac):∀(n:Nat)(a:ac),(List.replicate n z.toArray).foldl (· ++ ·) a.toArray=(a++rep n z).toArray
 |0,a=>by simp[rep]
 |n+1,a=>by
  rw[Uk,Yk];have e:a.toArray++z.toArray=(a++z).toArray:=by simp
  rw[e,DZ z n<|a++z];unfold rep;rw[Uk,zo,Bh]
def bKt(z:ac)(n:Nat):(rep n z).length=n*z.length:=by
 unfold rep
 induction n with
 |zero=>simp
 |succ n a=>rw[Uk,zo,Ud,a,MH,Iw]
def bGy(n:Nat):rep n ([]:List α)=[]:=by
 unfold rep
 induction n with
 |zero=>rfl
 |succ n a=>rw[Uk,zo,a];rfl
def bTc:R2:=λx y H Q=>∃(z:ac)(k:Int),x=.str ⟨z.toArray⟩/\y=.int k/\z.length*k.toNat<=big/\-4611686018427387904<=k/\k<4611686018427387904/\Q (.str ⟨(rep k.toNat z).toArray⟩) H
def bKu:Oe X (binaryOp .Mult) bTc:=by
 intro p s σ H x y v u Q I j i h;obtain⟨z,k,rfl,rfl,g,B,A,q⟩:=h;obtain⟨t,rfl⟩:=j;obtain⟨r,rfl⟩:=i;have b:∀d f,EP X p σ Q (.str ⟨(rep k.toNat z).toArray⟩ f) {s with toks:=d}:=λd f=>⟨.str ⟨(rep k.toNat z).toArray⟩,H,I.tok d,⟨f,rfl⟩,q⟩
 refine PySem.P.mul_str ?_ (λc o=>?_) (λc o=>?_) ?_
 .have e1:¬ k < -(2^63:Int):=by omega
  have e2:¬ k ≥ 2^63:=by omega
  rw[pe e1,pe e2];rfl
 .rw[str_len];have l:0<k:=by omega
  have w:(z.length:Int)*k<=10000000:=by
   have:((z.length*k.toNat:Nat):Int)<=10000000:=by rw[lB]at g;omega
   rw[Int.natCast_mul,ER (by omega)]at this
   exact this
  intro m;have:(z.length:Int)<=(2^63-1)/k:=by
   rw[Int.le_ediv_iff_mul_le l];omega
  omega
 .rw[str_len];unfold Builtin.Str.tooLong;have:sizeLine=16777216:=by decide
  have n:=lB;exact pe (by omega)
 .by_cases c:k<1
  .rw[jb c];have e:rep k.toNat z=[]:=by rw[show k.toNat=0 by omega];rfl
   have:=b (s.toks+1) s.toks;rw[e]at this;exact⟨by decide,this⟩
  .rw[Pa c]
   by_cases a:(k==1||(⟨z.toArray⟩:Str).length==0)=true
   .rw[jb a];have e:rep k.toNat z=z:=by
     simp only[or_eq_true,beq_iff_eq,str_len]at a;rcases a with a|a
     .subst a;show rep 1 z=z;unfold rep;simp
     .rw[Lm.mp a,bGy]
    have:=b s.toks t;rw[e]at this;exact this
   .rw[Pa a];have e:(List.replicate k.toNat (⟨z.toArray⟩:Str).cps).foldl (· ++ ·) #[]=(rep k.toNat z).toArray:=by
     have:=DZ z k.toNat [];rw[zt]at this;exact this
    have:=b (s.toks+1) s.toks;rw[e];refine⟨?_,this⟩;rw[str_len,bKt,bS];exact lim g
def bKv{i j:Int}(c:(-18446744073709551616<i/\i<18446744073709551616)\/(-18446744073709551616<j/\j<18446744073709551616)):Ks i j:=by
 unfold Ks;omega
def J9(l:PE X a (tP X.K B f))(k:PE X b (tP X.K B g)):PE X (.BinOp a .Mult b pos) (tI X.K B<|e2 Zv f g):=by
 refine Km (B7.or bKu) ?_ l k;intro A H x y d v u Q w i h e q;refine Uc λj=>?_
 unfold Zv at e;split at e
 .obtain⟨c,e⟩:=aM e;cases e;exact j<|.inl ⟨_,_,i.int,h.int,bKv c,q _ H (bG.refl _)<|bO.mpr rfl⟩
 .obtain⟨c,e⟩:=aM e;cases e;exact j<|.inr ⟨_,_,i.str,h.int,c.1,c.2.1,c.2.2,q _ H (bG.refl _)<|dX.mpr rfl⟩
 cases e
end
end Pu
namespace Pu
open PySem PySem.Spec PyProof.Rows L2 PySem.SeqAt PySem.StrLaws
def aWx(x y:ac)(i:Nat):Builtin.Str.subAt ⟨x.toArray⟩ ⟨y.toArray⟩ i=((x.drop i).take y.length==y):=by
 rw[subAt_eq];simp[Str.length]
theorem O3(s sub:Str)(b:Nat):∀(l:ac)(st:Array Nat×Nat),1<=st.1.size->(forIn l st<|occBody s sub b 1).run.fst=st.1
 |[],st,h=>rfl
 |a::l,st,h=>by
  rw[forIn_cons];unfold occBody;rw[Pa (λz=>by lia)]
  exact O3 s sub b l (st.1,st.2) h
theorem Q3(s sub:Str)(b:Nat):∀(l:ac)(free:Nat),(∀i∈l,free<=i)->
  (forIn l ((#[]:GE),free)<|occBody s sub b 1).run.fst.toList=(l.find? λi=>decide (i+sub.length<=b)&&Builtin.Str.subAt s sub i).toList
 |[],free,_=>rfl
 |a::l,free,d=>by
  rw[forIn_cons]
  by_cases c:a+sub.length<=b/\Builtin.Str.subAt s sub a=true
  .rw[M_ (p:=λi=>decide _&&Builtin.Str.subAt s sub i) (by rw[c.2,Jd c.1];rfl)]
   have e2:occBody s sub b 1 a ((#[]),free)=pure (ForInStep.yield ((#[]).push a,a+sub.length)):=by
    exact jb ⟨⟨⟨by simp,(d a qb)⟩,c.1⟩,c.2⟩
   rw[e2];show (forIn l (((#[]).push a),a+sub.length)<|occBody s sub b 1).run.fst.toList=_;rw[O3 s sub b l _ (by simp)]
   rfl
  rw[N_ (p:=λi=>decide _&&Builtin.Str.subAt s sub i)<|λz=>c<|by simpa using z]
  have e2:occBody s sub b 1 a ((#[]),free)=pure (ForInStep.yield ((#[]),free)):=by
   exact Pa λh=>c ⟨h.1.2,h.2⟩
  rw[e2];exact Q3 s sub b l free λi e=>d i<|Mb _ e
theorem TC(x y:ac)(lo:Nat):Builtin.Str.occurrences ⟨x.toArray⟩ ⟨y.toArray⟩ lo (⟨x.toArray⟩:Str).length 1=(mR x y lo).toList:=by
 rw[occ_eq,Q3 _ _ _ _ _ (λi a=>by simp at a;lia)]
 unfold mR;simp[aWx,str_len]
def bKw(x y:ac):Txt.find ⟨x.toArray⟩ ⟨y.toArray⟩=oq (mR x y 0):=by
 unfold Txt.find;rw[TC];cases mR x y 0<;>rfl
theorem bGz(x y:ac)(i:Int)(h:0<=i):Txt.find3 ⟨x.toArray⟩ ⟨y.toArray⟩ i=oq (mR x y i.toNat):=by
 have e:fromIndex (⟨x.toArray⟩:Str).length i=i.toNat:=by unfold fromIndex;rw[Pa (by lia)];lia
 unfold Txt.find3;rw[e,TC];cases mR x y i.toNat<;>rfl
theorem vV{b:Type}(p:b->Bool):∀x:List b,x.drop (x.takeWhile p).length=x.dropWhile p
 |[]=>rfl
 |a::x=>by
  cases h:p a with
  |true=>rw[s_ h,r_ h,Ed,List.drop_succ_cons,vV p x]
  |false=>rw[List.takeWhile_cons_of_neg (by simp[h]),List.dropWhile_cons_of_neg (by simp[h])];rfl
def VX(p:α->Bool)(x:List α):(x.takeWhile p).length+(x.dropWhile p).length=x.length:=by
 rw[<-Ud,i_]
theorem bH0(x y:ac):Txt.stripChars ⟨x.toArray⟩ ⟨y.toArray⟩=⟨(zO x y).toArray⟩:=by
 have d:y.toArray.contains=λc=>y.contains c:=by funext c;simp
 have a:Builtin.Str.strSub ⟨x.toArray⟩ (stripLo y.toArray.contains true ⟨x.toArray⟩) (stripHi y.toArray.contains true ⟨x.toArray⟩<|stripLo y.toArray.contains true ⟨x.toArray⟩)=⟨(zO x y).toArray⟩:=by
  unfold stripLo stripHi;rw[d];unfold zO;generalize g:(λc=>y.contains c)=q
  have f:=VX q x;have b:=VX q (x.dropWhile q).reverse;rw[List.length_reverse]at b;unfold Builtin.Str.strSub;simp only[str_len];simp;rw[vV];have e:((x.dropWhile q).reverse.dropWhile q).reverse=(x.dropWhile q).take ((x.dropWhile q).length-((x.dropWhile q).reverse.takeWhile q).length):=by
   rw[((vV q _).symm),List.drop_reverse,List.reverse_reverse]
  rw[e];congr 1;lia
 unfold Txt.stripChars Txt.stripBy
 by_cases h:stripSame y.toArray.contains true true ⟨x.toArray⟩=true
 .rw[jb h];unfold stripSame at h;rw[Wk,Nm,Nm]at h;rw[h.2,h.1]at a;rw[<-a];unfold Builtin.Str.strSub;simp[str_len]
 rwa [Pa h]
section
variable {a b o:Expr}
def OQ{id:String}{m:lq}{r:De} {q:sw} (a:Slot "str" name id) (J:typeOf (.builtin id)=pure (.type "method_descriptor")) (u:Ll X id q)
  (y:∀x xs d,m x xs=.ok d->∃s,x=.str s) (F:∀(A:bv)(H:Hp)(x d:D)(xs:dL)(v:V)(vs:o0)(Q:VK),Own A H->lZ X.K A H x v->bJ X.K (hide A H) xs vs->m x xs=.ok d->(∀w b,bG H b->Bb X.K (hide A b) d w->Q w b)->q v vs H Q)
  (t:PE X o (tP X.K B f)) (C:PA X (e::es) (tA X.K B r))
  (j:Pg o name X.env:=by rfl)
  (G:tm Ia (e::es) X.env:=by rfl)
  (i:Jh Ra Ia:=by rfl) (hs:sf e es X.env:=by rfl) (I:Zi Ia es X.env:=by rfl) :
  PE X (.Call (.Attribute o name Ra) (e::es) [] Ia) (tI X.K B<|Ni m f r):=by
 refine cF (Gv PySem.F.plainAttrs_str a J u t C j G i hs I) ?_
 rintro σ H Q ⟨A,st,d,c,z,k⟩;obtain⟨x,p,E⟩:=R.qa z;obtain⟨xs,h,g⟩:=R.qa E;obtain⟨s,rfl⟩:=y x xs d g;refine⟨A,st,_,c,p,λv K s1 r1=>⟨?_,A,st,xs,c.mono s1,h,λvs H2 s2 r2=>?_⟩⟩
 .rw[r1.str];rfl
 exact F _ H2 _ d xs v vs Q (c.own.mono<|s1.trans s2) (r1.mono s2) r2 g λw b l n=>k w b (s1.trans<|s2.trans l) n
def Uv{K:Frag} (h:bJ K H [d] vs):∃v,vs=[v]/\Bb K H d v:=by
 obtain⟨v,r,rfl,b,a⟩:=bR.mp h;rw[cZ.mp a];exact⟨v,rfl,b⟩
def bTd{K:Frag} {e:D} (h:bJ K H [d,e] vs):∃v u,vs=[v,u]/\Bb K H d v/\Bb K H e u:=by
 obtain⟨v,r,rfl,c,b⟩:=bR.mp h;obtain⟨u,rfl,a⟩:=Uv b;exact⟨v,u,rfl,c,a⟩
def bKx:Ll X "str.find" (λx vs H Q=>∃(s:ac),x=.str ⟨s.toArray⟩/\((∃y:ac,vs=[.str ⟨y.toArray⟩]/\Q (.int<|oq<|mR s y 0) H)\/∃(y:ac)(i:Int),vs=[.str ⟨y.toArray⟩,.int i]/\0<=i/\Q (.int<|oq<|mR s y i.toNat) H)):=by
 intro j s σ H x vs v e Q I c a h;obtain⟨z,rfl,h⟩:=h;obtain⟨t,rfl⟩:=c;rcases h with ⟨y,rfl,q⟩|⟨y,i,rfl,d,q⟩
 .obtain⟨u,rfl,b,rfl⟩:=a.one;exact SC.find ⟨.int _,H,I.tok _,⟨_,rfl⟩,by rwa [bKw]⟩
 obtain⟨u,f,rfl,⟨b,rfl⟩,⟨g,rfl⟩⟩:=a.two;exact SC.find3 ⟨.int _,H,I.tok _,⟨_,rfl⟩,by rwa [bGz _ _ _ d]⟩
def bH1:Ll X "str.index" (λx vs H Q=>∃(s y:ac)(i:Nat),x=.str ⟨s.toArray⟩/\vs=[.str ⟨y.toArray⟩]/\mR s y 0=some i/\Q (.int i) H):=by
 intro f s σ H x vs v d Q I a b h;obtain⟨z,y,i,rfl,rfl,c,q⟩:=h;obtain⟨t,rfl⟩:=a;obtain⟨u,rfl,e,rfl⟩:=b.one;exact SC.index (by rw[TC,c];rfl) ⟨.int _,H,I.tok _,⟨_,rfl⟩,q⟩
def bH2:Ll X "str.strip" (λx vs H Q=>∃(s y:ac),x=.str ⟨s.toArray⟩/\vs=[.str ⟨y.toArray⟩]/\s.length<=sizeLine/\Q (.str ⟨(zO s y).toArray⟩) H):=by
 intro g s σ H x vs v c Q I a b h;obtain⟨z,y,rfl,rfl,f,q⟩:=h;obtain⟨t,rfl⟩:=a;obtain⟨u,rfl,d,rfl⟩:=b.one;exact SC.stripChars (λe k=>⟨.str _,H,I.tok _,⟨_,by rw[bH0]⟩,q⟩) (by rwa [str_len])
end
end Pu
namespace Pu
open PySem PySem.Spec PyProof.Rows L2 PySem.SeqAt
section
variable{X:Cx}{B:bv}{a b e o:Expr}{f g:Ex}{pos:Pos}{r:De}{es:List Expr}{Ra Ia:Pos}
def bPs(i:PE X o (tP X.K B f))(j:PA X (e::es) (tA X.K B r))(g:Pg o "find" X.env:=by rfl)
  (l:tm Ia (e::es) X.env:=by rfl)
  (b:Jh Ra Ia:=by rfl) (hs:sf e es X.env:=by rfl) (m:Zi Ia es X.env:=by rfl) :
  PE X (.Call (.Attribute o "find" Ra) (e::es) [] Ia) (tI X.K B<|Ni ZE f r):=by
 refine OQ PySem.F.slot_str_find PySem.F.type_str_find bKx (λx xs d h=>?_) (λA H x d xs v p Q w rx jx h k=>?_) i j g l b hs m
 .cases x<;>first|exact⟨_,rfl⟩|exact nomatch h
 unfold ZE at h;split at h
 .cases h;obtain⟨u,rfl,a⟩:=Uv jx;exact⟨_,rx.str,.inl ⟨_,by rw[dX.mp a],k _ H (bG.refl _)<|bO.mpr rfl⟩⟩
 .obtain⟨c,h⟩:=aM h;cases h;obtain⟨u,q,rfl,a,n⟩:=bTd jx;exact⟨_,rx.str,.inr ⟨_,_,by rw[dX.mp a,bO.mp n],c,k _ H (bG.refl _)<|bO.mpr rfl⟩⟩
 cases h
def B6(g:PE X o (tP X.K B f))(l:PA X (e::es) (tA X.K B r))(b:Pg o "index" X.env:=by rfl)
  (m:tm Ia (e::es) X.env:=by rfl)
  (a:Jh Ra Ia:=by rfl) (hs:sf e es X.env:=by rfl) (n:Zi Ia es X.env:=by rfl) :
  PE X (.Call (.Attribute o "index" Ra) (e::es) [] Ia) (tI X.K B<|Ni ly f r):=by
 refine OQ PySem.F.slot_str_index PySem.F.type_str_index bH1 (λx xs d h=>?_) (λA H x d xs v p Q w rx jx h k=>?_) g l b m a hs n
 .cases x<;>first|exact⟨_,rfl⟩|exact nomatch h
 unfold ly at h;split at h
 .obtain⟨i,j,h⟩:=R.qa h;cases h;obtain⟨u,rfl,c⟩:=Uv jx;exact⟨_,_,i,rx.str,by rw[dX.mp c],zW j,k _ H (bG.refl _)<|bO.mpr rfl⟩
 cases h
def bKy(i:PE X o (tP X.K B f))(j:PA X (e::es) (tA X.K B r))(b:Pg o "strip" X.env:=by rfl)
  (l:tm Ia (e::es) X.env:=by rfl)
  (a:Jh Ra Ia:=by rfl) (hs:sf e es X.env:=by rfl) (m:Zi Ia es X.env:=by rfl) :
  PE X (.Call (.Attribute o "strip" Ra) (e::es) [] Ia) (tI X.K B<|Ni iE f r):=by
 refine OQ PySem.F.slot_str_strip PySem.F.type_str_strip bH2 (λx xs d h=>?_) (λA H x d xs v n Q w rx jx h k=>?_) i j b l a hs m
 .cases x<;>first|exact⟨_,rfl⟩|exact nomatch h
 unfold iE at h;split at h
 .obtain⟨c,h⟩:=aM h;cases h;obtain⟨u,rfl,g⟩:=Uv jx;exact⟨_,_,rx.str,by rw[dX.mp g],lim c,k _ H (bG.refl _)<|dX.mpr rfl⟩
 cases h
def QE(j:X.mg "max"=none)(m:X.calm=true)(o:PE X a (tP X.K B f))(n:PE X b (tP X.K B g))(k:Gl X "max":=by rfl)(hs:starEach [a,b] X.env=(false,eval a X.env)::starEach [b] X.env:=by rfl)
  (r:sf b [] X.env:=by rfl) (rf:(backTo pos<|starEach [b] X.env).any (·.1)=false:=by rfl):PE X (.Call (.Name "max" p0) [a,b] [] pos) (tI X.K B<|e2 zq f g):=by
 refine cF (rY (bAv m) k j rfl (cN o (cN n fD r) hs) (he:=hs) (rf:=rf)) ?_
 rintro σ H Q ⟨A,st,d,e,l,q⟩;obtain⟨x,i,p⟩:=R.qa l;obtain⟨y,h,c⟩:=R.qa p;refine⟨A,st,x,e,i,λv s s1 r1=>⟨A,st,y,e.mono s1,h,λu H2 s2 r2=>?_⟩⟩
 unfold zq at c;split at c
 case h_2=>cases c
 cases c;exact⟨_,_,by rw[r1.int,r2.int],q _ H2 (s1.trans s2)<|bO.mpr rfl⟩
def bPt(j:X.mg "min"=none)(m:X.calm=true)(o:PE X a (tP X.K B f))(n:PE X b (tP X.K B g))(k:Gl X "min":=by rfl)(hs:starEach [a,b] X.env=(false,eval a X.env)::starEach [b] X.env:=by rfl)
  (r:sf b [] X.env:=by rfl) (rf:(backTo pos<|starEach [b] X.env).any (·.1)=false:=by rfl):PE X (.Call (.Name "min" p0) [a,b] [] pos) (tI X.K B<|e2 JP f g):=by
 refine cF (rY (bAw m) k j rfl (cN o (cN n fD r) hs) (he:=hs) (rf:=rf)) ?_
 rintro σ H Q ⟨A,st,d,e,l,q⟩;obtain⟨x,i,p⟩:=R.qa l;obtain⟨y,h,c⟩:=R.qa p;refine⟨A,st,x,e,i,λv s s1 r1=>⟨A,st,y,e.mono s1,h,λu H2 s2 r2=>?_⟩⟩
 unfold JP at c;split at c
 case h_2=>cases c
 cases c;exact⟨_,_,by rw[r1.int,r2.int],q _ H2 (s1.trans s2)<|bO.mpr rfl⟩
def Js(h:PE X a (tP X.K B f)):PE X (.UnaryOp .USub a pos) (tI X.K B<|e1 ap f):=by
 refine cF (bRl bO1 h) ?_
 rintro σ H Q ⟨A,st,d,c,g,q⟩;obtain⟨x,e,b⟩:=R.qa g;refine⟨A,st,x,c,e,λv H1 s1 r1=>?_⟩
 cases x<;>first|(cases b;done)|skip
 cases b;exact⟨_,r1.int,q _ H1 s1<|bO.mpr rfl⟩
def d_(a:Bool):R2:=λx y H Q=>(y=.Sb/\Q (.bl<|if a then !decide (x=.Sb) else decide (x=.Sb)) H)\/∃c d,x=.bl c/\y=.bl d/\Q (.bl<|if a then !(c==d) else (c==d)) H
def GL:Oe X (compareOp .IsNot) (d_ true):=by
 intro e s σ H x y v u Q I b a h;rcases h with h|⟨c,d,rfl,rfl,q⟩
 .exact bIg e s σ H x y v u Q I b a h
 .cases b;cases a;exact isnot_bool ⟨.bl<|!(c==d),H,I,rfl,q⟩
def HL{K:Frag}:Gi K (d_ true) my:=by
 intro A H x y d v u Q w b a e q;unfold my at e;split at e
 .cases e;exact .inl ⟨a.Sb,q _ H (bG.refl _)<|dW.mpr<|by rw[<-bKj b];rfl⟩
 .cases e;exact .inr ⟨_,_,b.bl,a.bl,q _ H (bG.refl _)<|dW.mpr rfl⟩
 cases e
open Classical in
noncomputable def Qk(K:Frag)(H:Hp)(x:D)(u:Value):Bool:=if ∃d z,Bb K H d z/\RelV z u/\plain d=true/\Oc d x=true then true else false
def RN(I:Ba X aa σ H s){x:D}{z:V} (r:Bb X.K H d z) (c:RelV z u) (f:plain d=true):Qk X.K H x u=Oc d x:=by
 unfold Qk;split
 .rename_i h;obtain⟨k,j,g,a,b,e⟩:=h;have:=RelV.inj c a;subst this;rw[Bb.inj I f b r g,e]
 rename_i h;cases i:Oc d x with
 |false=>rfl
 |true=>exact(h ⟨d,z,r,c,f,i⟩).elim
theorem zy{i:db}{c:zh}{H:Hp}{s:Shared}(I:Ba X i c H s){x:D}:∀{ds:dL}{a:o0}{b:cr},bJ X.K H ds a->Ha a b->dJ ds=true->b.any (Qk X.K H x)=inD x ds
 |[],a,b,r,v,_=>by
  have e:=cZ.mp r;subst e;cases v;rfl
 |d::ds,a,b,r,v,p=>by
  obtain⟨z,j,e,h,g⟩:=bR.mp r;subst e;simp at p;cases v with
  |cons v f=>
   rw[Bt,RN I h v p.1,zy I g f p.2];unfold inD;rw[Bt]
theorem Dv{q:db}{l:zh}{H:Hp}{s:Shared}(I:Ba X q l H s){A:Around}{x:D}{f:V}{g:Value}(i:Bb X.K H x f)(h:RelV f g)(j:plain x=true):∀{ds:dL}{b:o0}{c:cr},bJ X.K H ds b->Ha b c->dJ ds=true->A.units+jV ds<cLine->∀u∈c,EqAt A s u g (Qk X.K H x u)
 |[],b,c,r,v,_,_=>by
  have e:=cZ.mp r;subst e;cases v;exact λu a=>nomatch a
 |d::ds,b,c,r,v,p,n=>by
  obtain⟨z,t,e,k,o⟩:=bR.mp r;subst e;simp at p;rw[rL]at n;cases v with
  |cons v m=>
   intro u a;rcases qc.mp a with rfl|a
   .rw[RN I k v p.1];exact N3 I d x A z f _ g k i v h (by lia) p.1 j
   exact Dv I i h j o m p.2 (by lia) u a
def HG(K:Frag)(b:Bool):R2:=λv u H Q=>(∃a o,u=.ref a/\fj H a v o/\Q (.bl<|if b then !o.isSome else o.isSome) H)\/(∃x ds c p,u=.ref p/\(Qc K H p c\/Xf K H p c)/\Bb K H x v/\bJ K H ds c/\jV ds<=60/\plain x=true/\dJ ds=true/\Q (.bl<|if b then !inD x ds else inD x ds) H)\/
 ∃i j:ac,v=.str ⟨i.toArray⟩/\u=.str ⟨j.toArray⟩/\Q (.bl<|if b then !(mR j i 0).isSome else (mR j i 0).isSome) H
def some_of(x y:ac):(!(Builtin.Str.occurrences ⟨x.toArray⟩ ⟨y.toArray⟩ 0 (⟨x.toArray⟩:Str).length 1).isEmpty)=(mR x y 0).isSome:=by
 rw[TC];cases mR x y 0<;>rfl
theorem iP(F:X.A.units+64<cLine:=by exact Kb.units<|by assumption):Oe X (compareOp .In) (HG X.K false):=by
 intro B s σ H v u a b Q I f m h;rcases h with ⟨p,o,rfl,g,q⟩|⟨x,ds,D,p,rfl,d,y,l,G,z,k,q⟩|⟨i,j,rfl,rfl,q⟩
 .cases m;exact bUy (by lia) I g f λE C=>⟨.bl _,H,C,rfl,q⟩
 .cases m;have e:=by show X.A.units+1+jV ds<cLine;lia
  rcases d with d|d
  .obtain⟨c,r,n,A⟩:=I.list d;refine SeqAt.in_listAt (Qk X.K H x) n.isList (λw t=>Dv I y f z l r k e w<|by simpa using t) ⟨.bl _,H,I,rfl,?_⟩
   rwa [show c.toArray.any _=c.any (Qk X.K H x) by simp,zy I l r k]
  obtain⟨c,r,n,A⟩:=I.tuple d;refine SeqAt.in_tupleAt _ n (λw t=>Dv I y f z l r k e w<|by simpa using t) ⟨.bl _,H,I,rfl,?_⟩
  rwa [show c.toArray.any _=c.any (Qk X.K H x) by simp,zy I l r k]
 refine bAu B s σ H _ _ a b Q I f m ⟨_,_,rfl,rfl,?_⟩
 rwa [some_of]
theorem zG(F:X.A.units+64<cLine:=by exact Kb.units<|by assumption):Oe X (compareOp .NotIn) (HG X.K true):=by
 intro B s σ H v u a b Q I f m h;rcases h with ⟨p,o,rfl,g,q⟩|⟨x,ds,D,p,rfl,d,y,l,G,z,k,q⟩|⟨i,j,rfl,rfl,q⟩
 .cases m;exact bIr (by lia) I g f λE C=>⟨.bl _,H,C,rfl,q⟩
 .cases m;have e:=by show X.A.units+1+jV ds<cLine;lia
  rcases d with d|d
  .obtain⟨c,r,n,A⟩:=I.list d;refine SeqAt.notIn_listAt (Qk X.K H x) n.isList (λw t=>Dv I y f z l r k e w<|by simpa using t) ⟨.bl _,H,I,rfl,?_⟩
   rwa [show c.toArray.any (Qk X.K H x)=c.any (Qk X.K H x) by simp,zy I l r k]
  obtain⟨c,r,n,A⟩:=I.tuple d;refine SeqAt.notIn_tupleAt _ n (λw t=>Dv I y f z l r k e w<|by simpa using t) ⟨.bl _,H,I,rfl,?_⟩
  rwa [show c.toArray.any _=c.any (Qk X.K H x) by simp,zy I l r k]
 refine Ļ B s σ H _ _ a b Q I f m ⟨_,_,rfl,rfl,?_⟩
 rwa [some_of]
def kP{K:Frag}:Gi K (HG K false) br:=by
 intro A H x y d v u Q w f b e q;unfold br at e;split at e
 .obtain⟨c,e⟩:=aM e;cases e;obtain⟨a,o,e1,g,l,_⟩:=aE b f.rep c;exact .inl ⟨a,o,e1,g,by rw[l];exact q _ H (bG.refl _)<|dW.mpr rfl⟩
 .obtain⟨c,e⟩:=aM e;cases e;obtain⟨p,h,k,j,i⟩:=b.lst;exact .inr<|.inl ⟨_,_,h,p,k,.inl j,f.rep,i.mono<|aX _ _,c.1,c.2.1,c.2.2,q _ H (bG.refl _)<|dW.mpr rfl⟩
 .obtain⟨c,e⟩:=aM e;cases e;obtain⟨p,h,k,j,i⟩:=b.tup;exact .inr<|.inl ⟨_,_,h,p,k,.inr j,f.rep,i.mono<|aX _ _,c.1,c.2.1,c.2.2,q _ H (bG.refl _)<|dW.mpr rfl⟩
 .cases e;exact .inr<|.inr ⟨_,_,f.str,b.str,q _ H (bG.refl _)<|dW.mpr rfl⟩
 cases e
def zH{K:Frag}:Gi K (HG K true) tE:=by
 intro A H x y d v u Q w f b e q;unfold tE at e;split at e
 .obtain⟨c,e⟩:=aM e;cases e;obtain⟨a,o,e1,g,l,_⟩:=aE b f.rep c;exact .inl ⟨a,o,e1,g,by rw[l];exact q _ H (bG.refl _)<|dW.mpr rfl⟩
 .obtain⟨c,e⟩:=aM e;cases e;obtain⟨p,h,k,j,i⟩:=b.lst;exact .inr<|.inl ⟨_,_,h,p,k,.inl j,f.rep,i.mono<|aX _ _,c.1,c.2.1,c.2.2,q _ H (bG.refl _)<|dW.mpr rfl⟩
 .obtain⟨c,e⟩:=aM e;cases e;obtain⟨p,h,k,j,i⟩:=b.tup;exact .inr<|.inl ⟨_,_,h,p,k,.inr j,f.rep,i.mono<|aX _ _,c.1,c.2.1,c.2.2,q _ H (bG.refl _)<|dW.mpr rfl⟩
 .cases e;exact .inr<|.inr ⟨_,_,f.str,b.str,q _ H (bG.refl _)<|dW.mpr rfl⟩
 cases e
end
end Pu
namespace Pu
open PySem PySem.Spec PyProof.Rows L2
section
variable{X:Cx}{B:bv}{a b e:Expr}{f g:Ex}{pos:Pos}
def zJ(i:Nat) (he:PE X e (tI X.K B f)) (F:X.N[i]?=some x:=by rfl) (D:Ah X.env.scope x:=by exact tj rfl) (b:pf x:=by decide)
  (k:Yi x:=by decide) (t:Pg (.Name x p1) "append" X.env:=by rfl)
  (I:tm Ia [e] X.env:=by rfl)
  (n:Jh Ra Ia:=by rfl) (hs:sf e [] X.env:=by rfl)
  (z:aj (.Call (.Attribute (.Name x p1) "append" Ra) [e] [] Ia) none pos.line X.env:=by rfl) :
  PS X (.Expr (.Call (.Attribute (.Name x p1) "append" Ra) [e] [] Ia) pos) (tS X.K B<|gj i f):=by
 refine kW (Lx (Gv qw XQ PySem.F.type_list_append bB2 (oF F D b k) (cN he fD hs) t I n hs rfl) z) ?_
 rintro K σ H ⟨A,st,r,a,E,p⟩;obtain⟨d,b,g⟩:=R.qa E;split at g
 .rename_i xs e1;obtain⟨c,G⟩:=aM g;cases G;obtain⟨l,o,h,e2,m,j,C,q,u⟩:=a.lst i _ xs e1;subst C;refine⟨.ref l,e2,.inl ⟨rfl,h,Qc.of j⟩,A,st,d,a,b,λv J s rv=>⟨l,h,v,rfl,rfl,s _ _ j,by rw[(q.length)];rw[lB]at c;exact rg c (by decide),?_⟩⟩
  obtain⟨y,w⟩:=(a.mono s).write e1 e2 (k1:=.l) rfl<|(q.mono<|bG.hide s).append<|.cons rv .nil;exact p A _ _ ((Le.of s).trans w) y
 cases g
def cE(h:X.N.Nodup:=by assumption)(f:X.N[i]?=some x:=by rfl)(d:Loc X.env.scope x:=by exact Dl rfl)(hs:aj (.Dict [] [] dp) (some<|.Name x pos') pos.line X.env:=by rfl)
  (g:sj X x:=by first|exact .inl rfl|exact .inr rfl|assumption):PS X (.Assign [.Name x pos'] (.Dict [] [] dp) pos) (tS X.K B<|Ds i false):=kW (nq h f d bDv hs g) (by
 rintro j σ H ⟨A,st,r,c,e,p⟩;cases e;exact λa b=>p _ _ _ (Bv b)<|c.Nn i b (.inl ⟨rfl,[],rfl,rfl,rfl⟩) .nil)
def bL0(i:Nat) (h:X.N.Nodup) (f:X.N[i]?=some x:=by rfl) (d:Loc X.env.scope x:=by exact Dl rfl) (hs:aj (.Dict [] [] dp) (some<|.Name x pos') pos.line X.env:=by rfl)
  (g:sj X x:=by first|exact .inl rfl|exact .inr rfl|assumption):PS X (.Assign [.Name x pos'] (.Dict [] [] dp) pos) (tS X.K B<|Ds i true):=kW (nq h f d bDw hs g) (by
 rintro j σ H ⟨A,st,r,c,e,p⟩;cases e;exact λa b=>p _ _ _ (Bv b)<|c.Nn i b (.inr ⟨rfl,[],rfl,rfl,rfl⟩) .nil)
def bTf:V->V->V->Hp->(Hp->Prop)->Prop:=λo i v H Q=>∃p a,o=.ref p/\Zo H p i v a/\Q a
theorem set_dict(l:X.A.units+64<cLine):O9 X bTf:=by
 intro m s σ H o i v j k u Q I b c a h;obtain⟨p,e,rfl,g,q⟩:=h;cases b;exact bB7 (by lia) I g c a λf d=>⟨e,d,q⟩
theorem Zr(W:X.A.units+64<cLine)(i:Nat) {j:Expr} (hj:PE X j (tI X.K B g)) (he:PE X e (tI X.K B f)) (hN:X.N[i]?=some x:=by rfl) (V:Ah X.env.scope x:=by exact tj rfl) (G:pf x:=by decide)
  (S:Yi x:=by decide)
  (ha:∀v,assign (.Subscript (.Name x p1) j p2) X.env v=(do
   let y <- holding [v] (eval (.Name x p1) X.env)
   let F <- holding [v,y] (eval j X.env)
   standAt p2
   holding [v,y,F] (setItem y F v)
   release [v,y,F] []):=by intro _;rfl)
  (hs:swapsWithSole [.Subscript (.Name x p1) j p2] e pos.line X.env=pure false:=by rfl) (U:swappedStores [.Subscript (.Name x p1) j p2] e X.env=pure none:=by rfl)
  (J:(assignEach [.Subscript (.Name x p1) j p2] X.env).map (·.2)=[assign (.Subscript (.Name x p1) j p2) X.env]:=by rfl) :
  PS X (.Assign [.Subscript (.Name x p1) j p2] e pos) (tS X.K B<|ud i g f):=by
 refine kW (bNr he (bNq (oF hN V G S) hj (set_dict W) ha) hs U J) ?_
 rintro Dn σ H ⟨A,st,r,h,Y,p⟩;obtain⟨d,G,h3⟩:=R.qa Y;obtain⟨k,Z,I⟩:=R.qa h3;split at I
 .rename_i t ks ds e1;obtain⟨c,h6⟩:=aM I;cases h6;obtain⟨l,o,vs,e2,m,J,T,q,u⟩:=h.lst i _ _ e1;refine⟨A,st,d,h,G,λv H' s rv=>⟨.ref l,e2,A,st,k,h.mono s,Z,λw H2 s2 rk=>?_⟩⟩
  have P:=(s.trans s2) _ _ J;have N:=q.mono<|bG.hide<|s.trans s2;have O:=rv.mono<|bG.hide s2;have Q:=rk.mono<|aX _ _;have Ob:ds.length<sizeLine:=by have:=c.2;rw[lB]at this;exact rg this (by decide)
  have M:=q.length;rcases T with ⟨rfl,a,rfl,rfl,rfl⟩|⟨rfl,a,rfl,rfl,rfl⟩
  .obtain⟨n,L,K⟩:=zX Q c.1;subst L K;obtain⟨C,z⟩:=NN Zx n v d O a ds N;refine⟨l,_,rfl,Zo.k P (by rw[Rb]at M;lia),?_⟩
   obtain⟨E,D⟩:=(h.mono<|s.trans s2).write e1 e2 (k1:=.d false _) (.inl ⟨rfl,Be a n v,rfl,C,rfl⟩) z;exact p A _ _ ((Le.of<|s.trans s2).trans D) E
  obtain⟨n,b,L,K,e5⟩:=eK Q c.1;subst L K;obtain⟨C,z⟩:=NN C3 n v d O a ds N;refine⟨l,_,rfl,Zo.t P e5 (by rw[Rb]at M;lia),?_⟩
  obtain⟨E,D⟩:=(h.mono<|s.trans s2).write e1 e2 (k1:=.d true _) (.inr ⟨rfl,Be a n v,rfl,C,rfl⟩) z;exact p A _ _ ((Le.of<|s.trans s2).trans D) E
 cases I
def bVc{lo:Option Expr}{l u:Pr} (w:PE X a (tP X.K B f)) (s:PO X lo (tO X.K B l)) (o:PO X hi (tO X.K B u)):PE X (.Subscript a (.Slice lo hi none p2) pos) (tF X.K B<|ir f l u):=by
 refine cF (NL O4 w s o) ?_
 rintro σ H Q ⟨A,st,d,b,t,q⟩;obtain⟨x,m,D⟩:=R.qa t;obtain⟨k,F,C⟩:=R.qa D;obtain⟨i,E,g⟩:=R.qa C;refine⟨A,st,x,b,m,λv I s1 r1=>⟨A,st,k,b.mono s1,F,λG s2=>⟨A,st,i,b.mono<|s1.trans s2,E,λH3 s3=>?_⟩⟩⟩
 cases x<;>first|(cases g;done)|skip
 .obtain⟨c,z⟩:=aM g;cases z
 cases g;obtain⟨p,h,e,y,j⟩:=(r1.mono<|s2.trans s3).lst;exact⟨p,h,e,y,λn r=>q n _ H3 (s1.trans<|s2.trans s3) r<|F3 _ _ j⟩
def Jy(i:Nat) (he:PE X e (tF X.K B f)) (K:X.N[i]?=some x:=by rfl) (G:Ah X.env.scope x:=by exact tj rfl) (g:pf x:=by decide)
  (v:Yi x:=by decide) (z:Pg (.Name x p1) "extend" X.env:=by rfl)
  (M:tm Ia [e] X.env:=by rfl)
  (y:Jh Ra Ia:=by rfl) (hs:sf e [] X.env:=by rfl)
  (E:aj (.Call (.Attribute (.Name x p1) "extend" Ra) [e] [] Ia) none pos.line X.env:=by rfl) :
  PS X (.Expr (.Call (.Attribute (.Name x p1) "extend" Ra) [e] [] Ia) pos) (tS X.K B<|bp i f):=by
 refine kW (Lx (Gv qw PySem.F.slot_list_extend PySem.F.type_list_extend bB3 (oF K G g v) (cN he fD hs) z M y hs rfl) E) ?_
 rintro O σ H ⟨A,st,r,b,I,p⟩;obtain⟨d,g,k⟩:=R.qa I;cases d<;>first|(cases k)|skip
 rename_i w;have h:(match st[i]? with|some (some<|.o .l xs)=>aP _ _|_=>.bad)=.ok r:=k
 split at h
 .rename_i xs e1;obtain⟨c,L⟩:=aM h;cases L;obtain⟨l,o,j,e2,m,t,F,q,u⟩:=b.lst i _ xs e1;subst F;refine⟨.ref l,e2,.inl ⟨rfl,j,Qc.of t⟩,A,st,w,b,g,λn zs N s hn rz=>?_⟩
  have J:=s _ _ t;refine⟨l,n,j,zs,rfl,rfl,by rwa [aW<|bD J hn],bK,by rw[(q.length),(rz.length)];exact lim c,?_⟩
  have a:=s.trans<|bN (o:=HO.lst zs) hn;obtain⟨D,C⟩:=(b.mono a).write e1 e2 (k1:=.l) rfl<|(q.mono<|bG.hide a).append<|rz.mono<|bG.hide<|bN hn;exact p A _ _ ((Le.of a).trans C) D
 cases h
end
section
open PySem.SeqAt
open PySem.AutoSeq1 (wpAny_loadPart')
open PySem.MeetsSeq PySem.MeetsSeq2 PySem.MeetsSeq3
inductive Xh (A:Around) (s:Shared):List Value->List Value->Bool->Prop where
 |nn:Xh A s [] [] false
 |nc {w:Value} {ws:cr}:Xh A s [] (w::ws) true
 |cn {v:Value} {vs:cr}:Xh A s (v::vs) [] false
 |eq {v w:Value} {vs ws:cr} {b:Bool}:EqAt A s v w true->Xh A s vs ws b->Xh A s (v::vs) (w::ws) b
 |lt {v w:Value} {vs ws:cr} {b:Bool}:EqAt A s v w false->(∀(prog:Program)(wd:World)(E Q:be),Q (.bool b) s->wpAny (model prog wd) A (richCompare .Lt v w) Q E s)->Xh A s (v::vs) (w::ws) b
theorem bCa(l b:Addr)(a j:wE)(n H:Nat)(M N:pi)(G O:li)(t:Bool) :
  Meets (Builtin.«tuple.__lt__» ⟨[.ref l,.ref b],[]⟩)
   (λA R s=>s.heap.get? l=some {cls:=.type "tuple",dict:=M,data:=.seq a n,slots:=G}/\s.heap.get? b=some {cls:=.type "tuple",dict:=N,data:=.seq j H,slots:=O}/\
    Xh A.in1 s a.toList j.toList t/\R (.ok<|.ret<|.bool t) s):=
 .of_wp λc w A R s h=>by
  obtain⟨E,g,d,D,os⟩:=s;obtain⟨K,L,k,h⟩:=h;have P:=AutoSeq1.sub_tuple_tuple
  wp_walk using wpAny_loadPart' K,wpAny_loadPart' L,wpAny_forIn_list _ (λrest b p=>b.1=none/\p=⟨E,g,d,D,os⟩/\∃(i f:cr),rest=i.zip f/\
   Xh A.in1 ⟨E,g,d,D,os⟩ i f t/\i.length+j.size=f.length+a.size) _
  case turn=>
   rintro⟨y,x⟩ rest b p z;refine Uc λo=>?_
   obtain⟨B,rfl,i,f,e,r,m⟩:=z;cases r with
   |nn=>cases e
   |nc=>cases e
   |cn=>cases e
   |eq v J=>
    injection e with C F
    injection C with q k
    subst q k;simp at m;refine o<|xa<|v c w _ _ ?_
    wp_walk
    exact⟨rfl,rfl,_,_,F,J,by lia⟩
   |lt v u=>
    injection e with C F
    injection C with q k
    subst q k;refine o<|xa<|v c w _ _ ?_
    wp_walk using (u c w)
    exact⟨_,rfl,by simpa using h⟩
  case fin=>
   rintro⟨S,Q⟩ p z;refine Uc λo=>?_
   obtain⟨B,rfl,i,f,e,r,m⟩:=z;simp at B;subst B;have I:t=decide (a.size<j.size):=by
    cases r with
    |nn=>
     simp at m;exact(pe<|by lia).symm
    |nc=>
     simp at m;exact(Jd<|by lia).symm
    |cn=>
     simp at m;exact(pe<|by lia).symm
    |eq _ _=>cases e
    |lt _ _=>cases e
   rw[I]at h;refine o ?_
   wp_walk
   exact⟨_,rfl,by simpa [Builtin.Tuple.tupleCompareSizes] using h⟩
  case h=>
   exact⟨rfl,rfl,a.toList,j.toList,rfl,k,by simp;lia⟩
end
section
theorem C6{J:db}{z:zh}{H:Hp}{s:Shared}(I:Ba X J z H s){A:Around}:∀(xs ys:dL){vs q:o0}{w bs:cr}{t:Bool},bJ X.K H xs vs->bJ X.K H ys q->Ha vs w->Ha q bs->A.units+jV xs<cLine->dJ xs=true->dJ ys=true->Nl xs ys=.ok t->Xh A s w bs t
 |[],[],_,_,_,_,_,d,c,b,a,_,_,_,h=>by
  have e:=cZ.mp d;subst e;have e:=cZ.mp c;subst e;cases b;cases a;cases h;exact .nn
 |[],_::_,_,_,_,_,_,d,c,b,a,_,_,_,h=>by
  have e:=cZ.mp d;subst e;obtain⟨_,_,rfl,_⟩:=bR.mp c;cases b;cases a;cases h;exact .nc
 |_::_,[],_,_,_,_,_,d,c,b,a,_,_,_,h=>by
  have e:=cZ.mp c;subst e;obtain⟨_,_,rfl,_⟩:=bR.mp d;cases b;cases a;cases h;exact .cn
 |x::xs,y::ys,_,_,_,_,t,d,c,b,a,G,o,n,h=>by
  obtain⟨v,r,rfl,m,F⟩:=bR.mp d;obtain⟨u,K,rfl,l,D⟩:=bR.mp c;rw[rL]at G;simp at o n;cases b with
  |cons b k=>
   cases a with
   |cons a j=>
    have i:=N3 I x y A v u _ _ m l b a (by lia) o.1 n.1
    unfold Nl at h
    by_cases g:Oc x y=true
    .rw[jb g]at h;rw[g]at i;exact .eq i<|C6 I xs ys F D k j (by lia) o.2 n.2 h
    rw[Pa g]at h;rw[Bool.not_eq_true]at g;rw[g]at i;refine .lt i ?_
    split at h
    .cases h;have e:=bO.mp m;subst e;have e:=bO.mp l;subst e;obtain⟨C,rfl⟩:=b;obtain⟨B,rfl⟩:=a;exact λf wd E Q p=>(PyProof.Rows.lt_int p)
    .cases h;have e:=dX.mp m;subst e;have e:=dX.mp l;subst e;obtain⟨C,rfl⟩:=b;obtain⟨B,rfl⟩:=a;exact λf wd E Q p=>(PyProof.Rows.lt_str p)
    cases h
end
structure ClsAt(K:Frag)(c:String)(C:Addr):Prop where
 ns:nsIn K mainGlobals (ofString c)=some (some<|.ref C)
 cl:Vn K C
def zZ{a b:String}(h:ofString a=ofString b):a=b:=by
 have c:(ofString a).cps=(ofString b).cps:=by rw[h]
 rw[Str.ofString_eq_toList,Str.ofString_eq_toList]at c;have inj:∀(x y:List Char),x.map Char.toNat=y.map Char.toNat->x=y:=by
  intro x
  induction x with
  |nil=>intro y h;cases y with|nil=>rfl|cons _ _=>simp at h
  |cons a x d=>
   intro y h;cases y with
   |nil=>simp at h
   |cons b y=>
    injection h with f e
    rw[d y e];congr 1;exact Char.ext<|UInt32.toNat_inj.mp f
 exact String.toList_inj.mp<|inj _ _ (by
  simpa using (congrArg Array.toList c))
section
variable{K:Frag}
theorem EZ{f:String}:∀{a:wv}{ds:dL} {fs:AC} {d:D},fs.map (·.1)=a.map ofString->bJ K H ds (fs.map (·.2))->(a.zip ds).lookup f=some d->∃v,fs.lookup (ofString f)=some v/\Bb K H d v
 |[],ds,fs,d,_,_,h=>by simp at h
 |n::a,[],fs,d,_,_,h=>by simp at h
 |n::a,m::ds,[],d,e,_,h=>by simp at e
 |n::a,m::ds,(g,w)::fs,d,e,r,h=>by
  injection e with e1 e2
  obtain⟨v,o,l,i,c⟩:=bR.mp r;injection l with k j
  subst k j;subst e1;rw[yt,Fj]at h;rw[Fj]
  by_cases b:f=n
  .subst b;simp only[beq_self_eq_true]at h ⊢;cases h;exact⟨_,rfl,i⟩
  rw[(Uq.mpr b)]at h;rw[(Uq.mpr λz=>b<|zZ z)]
  exact EZ e2 c h
theorem lookup_none{f:String}:∀{a:wv} {fs:AC},fs.map (·.1)=a.map ofString->f∉a->fs.lookup (ofString f)=none
 |[],fs,e,_=>by cases fs with|nil=>rfl|cons _ _=>simp at e
 |n::a,[],e,_=>rfl
 |n::a,(g,w)::fs,e,h=>by
  injection e with e1 e2
  subst e1;rw[Fj,(Uq.mpr λz=>h<|by rw[zZ z];exact qb)]
  exact lookup_none e2 λz=>h<|Mb _ z
theorem R3{f:String}{v:V}:∀{a:wv} {fs:AC},fs.map (·.1)=a.map ofString->f∉a->Di (ofString f) v fs=fs++[(ofString f,v)]
 |[],fs,e,_=>by cases fs with|nil=>rfl|cons _ _=>simp at e
 |n::a,[],e,_=>by simp at e
 |n::a,(g,w)::fs,e,h=>by
  injection e with e1 e2
  subst e1;unfold Di;rw[Pa<|λz=>h<|by rw[zZ z];exact qb,R3 e2 λz=>h<|Mb _ z]
  rfl
end
section
variable{X:Cx}{B:bv}{a b e o:Expr}{f g:Ex}{pos:Pos}
theorem lZ.ins{K:Frag}{A:bv}{H:Hp}{c:String}{f:wv}{ds:dL}{v:V}(h:lZ K A H (.ins c f ds) v):∃p C a fs,v=.ref p/\H p=some (.ins C a fs)/\nsIn K mainGlobals (ofString c)=some (some<|.ref C)/\fs.map (·.1)=f.map ofString/\bJ K (hide A H) ds (fs.map (·.2)):=by
 rcases h with h|⟨p,l,o,m,g,e,e2,h,k,r⟩
 .obtain⟨p,C,a,fs,g,e,j,d,b,i,r⟩:=ZD.mp h;subst i;exact⟨p,C,a,fs,e,aX _ _ _ _ j,d,b,r⟩
 cases l<;>cases e;obtain⟨_,C,a,fs,rfl,d,b,rfl⟩:=k;exact⟨p,C,a,fs,e2,h,d,b,r⟩
def cX{c:String} (a:ClsAt X.K c C) (j:fQ X.K C (ofString f')) (i:PE X o (tP X.K B f)) (l:Pg o (ofString f') X.env:=by rfl) :
  PE X (.Attribute o (ofString f') pos) (tI X.K B<|e1 (cL c f') f):=by
 refine cF (bO2 i l) ?_
 rintro σ H Q ⟨A,st,d,g,k,q⟩;obtain⟨x,h,b⟩:=R.qa k;refine⟨A,st,x,g,h,λv H1 s1 r1=>?_⟩
 cases x<;>first|(cases b)|skip
 obtain⟨e1,y⟩:=aM b;subst e1;obtain⟨p,e,D,fs,e2,u,t,s,r⟩:=r1.ins;have:e=C:=by have z:=t.symm.trans a.ns;injection z with z;injection z with z;injection z
 subst this;obtain⟨w,n,m⟩:=EZ s r<|zW y;exact⟨p,e,D,fs,w,e2,u,a.cl,j,n,q w H1 s1 m⟩
structure Ac(P:Program)(w:World)(K:Frag)(mg:im)(base:Heap)(c m:String)(k np:Nat)(dv:dL)(p:ca):Prop where
 ex:∃(C fa:Addr)(fd:FuncData)(ps:wp)(jf:o0)(ds:cr),ClsAt K c C/\Meth K C (ofString m) fa/\Ca P w K mg base Ab k fa fd ps (Tb K np p)/\Binds K fd ps ds/\Ha jf ds/\∀H,bJ K H dv jf
 len:∀ds d,p ds=.ok d->ds.length=np
def vW{c m:String}{k:Nat} {r:De} (h:Ac X.prog X.w X.K X.mg X.base c m k np dv p) (M:PE X o (tI X.K B f)) (T:PA X (e::es) (tA X.K B r)) (L:Kb j X.A:=by assumption) (P:k<=j:=by decide)
  (G:sf e es X.env:=by rfl) (rf:Zi pos es X.env:=by rfl)
  (K:eval (.Call (.Attribute o (ofString m) Ra) (e::es) [] pos) X.env=(do
   let g <- eval o X.env
   standAt Ra.atName
   let (f,first) <- holding [g] (getMethod g (ofString m) pl)
   callWith pos f first (backTo pos<|starEach (e::es) X.env) (backToKw pos<|keywordEach [] X.env)):=by rfl) :
  PE X (.Call (.Attribute o (ofString m) Ra) (e::es) [] pos) (tI X.K B<|oU c m p dv f r):=by
 obtain⟨C,fa,fd,ps,jf,ds,i,O,F,bd,t,y⟩:=h.ex;refine cF (L4 M i.cl O F (L.mono P) bd t Hv T G rf K) ?_
 rintro σ H Q ⟨A,st,d,b,S,q⟩;obtain⟨x,J,Y⟩:=R.qa S;obtain⟨xs,s,n⟩:=R.qa Y;refine⟨A,st,x,b,J,λv H1 s1 r1=>?_⟩
 cases x<;>first|(cases n)|skip
 obtain⟨⟨e1,N⟩,l⟩:=aM n;subst e1;obtain⟨I,C',Z,fs,e2,W,V,U,h8⟩:=lZ.ins<|.inl r1;have:C'=C:=by have z:=V.symm.trans i.ns;injection z with z;injection z with z;injection z
 subst this;exact⟨I,Z,fs,e2,W,lookup_none U N,A,st,xs,b.mono s1,s,λvs H2 a D=>⟨A++B,_,d,b.own.mono<|s1.trans a,.cons (r1.mono<|bG.hide a)<|D.append<|y _,h.len _ _ l,l,λw H' u E=>q w H' (s1.trans<|a.trans u) E⟩⟩
def JB(K:Frag)(c:String)(f:Nat)(p:ca):Sp:=λe H Q _=>∃x b A C g ds d,e=.ref x::b/\H x=some (.ins C g [])/\nsIn K mainGlobals (ofString c)=some (some<|.ref C)/\Own A H/\x∉A/\bJ K (hide (x::A) H) ds b/\ds.length=f/\p ds=.ok d/\
 ∀a,bG (hide [x] H) a->Bb K (hide A a) d (.ref x)->Q .Sb a
structure Kf(P:Program)(w:World)(K:Frag)(mg:im)(base:Heap)(c:String)(k np:Nat)(p:ca):Prop where
 ex:∃(C fa:Addr)(fd:FuncData)(ps:wp),ClsAt K c C/\Mk K C fa/\Ca P w K mg base Ab k fa fd ps (JB K c np p)/\Binds K fd ps []/\mg (ofString c)=some (.ref C)
 len:∀ds d,p ds=.ok d->ds.length=np
def Fv{c:String}{k:Nat} {r:De} (h:Kf X.prog X.w X.K X.mg X.base c k np p) (s:Kb j X.A) (v:k+1<=j) (G:PA X (e::es) (tA X.K B r)) (w:Gl X (ofString c):=by rfl) (J:pf (ofString c):=by decide)
  (he:sf e es X.env:=by rfl) (rf:Zi pos es X.env:=by rfl):PE X (.Call (.Name (ofString c) p0) (e::es) [] pos) (tI X.K B<|aO p r):=by
 obtain⟨C,O,N,K,E,M,F,bd,t⟩:=h.ex;refine cF (bIl M F (s.mono v) w t bd .nil Hv G J he rf) ?_
 rintro σ H Q ⟨A,st,d,i,D,q⟩;obtain⟨xs,o,l⟩:=R.qa D;refine⟨A,st,xs,i,o,λvs H1 s1 r1 x dx ou YS L=>?_⟩
 have g:=i.own.mono s1;have f:∀b u,H1 b=some u->bb (bb H1 dx<|.own x) x (.ins C dx []) b=some u:=λb u z=>by
  rwa [aW<|bD z ou,aW<|bD z YS]
 refine⟨x,vs++[],A++B,C,dx,xs,d,rfl,bK,E.ns,λb hb=>?_,(g.free ou),?_,h.len _ _ l,l,λI sm m=>⟨rfl,q _ I (λb u z=>?_) m⟩⟩
 .obtain⟨u,z,n⟩:=E9 (g b hb)
  rwa [f b u z]
 .rw[Nh];refine r1.mono λb u z=>?_
  have a:=aX _ _ _ _ z;rw[bF<|λy=>(qc.mp y).elim (bD a ou)<|λy=>by rw[dC y]at z;cases z]
  exact f b u a
 have a:=s1 _ _ z;exact sm b u (by rw[bF (by simpa using bD a ou)];exact f b u a)
def bCb{K:Frag} {a:o0}{x:Addr} {c:String} (w:Own A H) (p:x∉A) (h:H x=some (.ins C dx [])) (q:nsIn K mainGlobals (ofString c)=some (some<|.ref C)) (r:bJ K (hide (x::A) H) ds a) :
  RS K A [x] H (some (Sl.o (.i x c []) [])::(ds.map (λd=>some<|Sl.v d)++List.replicate (N.length-ds.length-1) none)) (L2.start N<|.ref x::a):=by
 have m:=r.length;have n:L2.start N (.ref x::a)=some (.ref x)::(a.map some++List.replicate (N.length-ds.length-1) none):=by
  unfold L2.start;rw[Ed,m];congr 2
 rw[n];have g:∀(i:Nat)(s:Sl),(ds.map (λd=>some _)++List.replicate (N.length-ds.length-1) none)[i]?=some (some s)->∃d,ds[i]?=some d/\s=.v d:=λi s e=>by
  by_cases f:i<ds.length
  .rw[ik (by simpa using f),List.getElem?_map,List.getElem?_eq_getElem f]at e
   simp at e;exact⟨ds[i],Kc f,e.symm⟩
  rw[ow (by simpa using f),List.getElem?_replicate]at e
  split at e<;>simp at e
 refine⟨by simp[m],λb hb=>?_,λb hb=>by rwa [Hd.mp hb],λi d e=>?_,λi k xs e=>?_⟩
 .rcases tf.mp hb with hb|hb
  .rw[Hd.mp hb,h];rfl
  exact w b hb
 .cases i with
  |zero=>simp at e
  |succ i=>
   obtain⟨y,e1,e2⟩:=g i _ e;cases e2;obtain⟨v,l,o⟩:=r.get e1;refine⟨v,?_,o⟩;rw[MR,ik (by simpa using ((List.getElem?_eq_some_iff.mp l).1)),List.getElem?_map,l]
   rfl
 cases i with
 |zero=>
  simp at e;obtain⟨rfl,rfl⟩:=e;refine⟨x,_,[],rfl,Hd.mpr rfl,h,⟨rfl,C,dx,[],rfl,q,rfl,rfl⟩,.nil,λj u t ej _=>?_⟩
  cases j with
  |zero=>rfl
  |succ j=>
   obtain⟨_,_,e2⟩:=g j _ ej;cases e2
 |succ i=>
  obtain⟨_,_,e2⟩:=g i _ e;cases e2
def E6{w:World}{K:Frag} {st:Stmt} {f:Addr} {k:Nat} (F:iq K x qual st f fd) (S:Pc N ps (bM st)) (c:String) (t n:Nat) (D:Bd) (Jp:ps.length=t+1) (hn:N.length=n)
  (z:∀(j:Value)(A:Around)(e:Ch)(s:Shared)(H:Hp)(E:XK)(B:bv),Kb k (A.deeper<|envOfC qual (bM st) s.heap.objs.size f j)->
   Dd (Hm Ab P w K mg base N qual (bM st) f j A e s H E).Ln (dH st) (tS K B D)):Ca P w K mg base Ab (k+1) f fd ps (JB K c t<|jo c t n D):=by
 refine F.ok S (λI H Q E h=>?_)<|λj A e s H I Q E Y h=>?_
 .obtain⟨y,U,A,C,dx,ds,d,rfl,_,_,_,_,r,v,_⟩:=h;rw[Ed,r.length,v,Jp]
 obtain⟨y,U,O,C,dx,ds,d,rfl,X,Xw,p,u,r,v,Z,q⟩:=h;refine⟨tS K O D,z j A e s H E O Y,?_⟩;obtain⟨_,h2⟩:=aM<|R4 Z y;obtain⟨M,Ae,i⟩:=R.qa h2;have J:=bCb (N:=N) p u X Xw r;rw[v,hn]at J;refine⟨[y],_,M,J,Ae,?_⟩;cases M with
 |nx s1=>
  intro A1 Ru H1 l g;have G:(match (s1[0]?) with|some (some<|.o (.i T c' W) xs)=>aP _ _|_=>.bad)=.ok d:=i
  split at G
  .rename_i T c' W xs e1;obtain⟨rfl,h4⟩:=aM G;cases h4;obtain⟨a,o,I,e2,m,h5,L,V,_⟩:=g.lst 0 _ _ e1;have ea:=L.1;subst ea;exact q H1 (bG.trans (l)<|aX _ _)<|L.rep (by rwa [bF<|g.Zf a m])<|V.mono<|gP λb z=>Ke _ z
  cases G
 |rt d'=>cases i
 |bk s1=>cases i
 |ct s1=>cases i
def bH3{c:String} (ds:dL) (d:D) (h:jo c np n bd ds=.ok d):ds.length=np:=(aM<|R4 h 0).1
theorem So(i:Nat) {c a:String} (t:ClsAt X.K c C) (J:fQ X.K C (ofString a)) (he:PE X value (tI X.K B f)) (L:X.N[i]?=some x:=by rfl) (G:Ah X.env.scope x:=by exact tj rfl) (h:pf x:=by decide)
  (v:Yi x:=by decide) (hs:aj value (some<|.Attribute (.Name x p1) (ofString a) p2) pos.line X.env:=by rfl) :
  PS X (.Assign [.Attribute (.Name x p1) (ofString a) p2] value pos) (tS X.K B<|Ml i c a f):=by
 refine kW (bO3 (oF L G h v) he hs) ?_
 rintro V σ H ⟨A,st,r,e,I,p⟩;obtain⟨d,h,j⟩:=R.qa I;split at j
 .rename_i n Q E xs e1;obtain⟨⟨P,K,T⟩,M⟩:=aM j;subst P;cases M;obtain⟨l,o,S,e2,m,N,F,q,u⟩:=e.lst i _ _ e1;obtain⟨O,b,k,fs,rfl,s,g,rfl⟩:=F;have:b=C:=by have z:=s.symm.trans t.ns;injection z with z;injection z with z;injection z
  subst this;refine⟨A,st,d,e,h,λy U s1 r1=>⟨.ref l,e2,l,b,k,fs,rfl,s1 _ _ N,t.cl,J,?_,?_⟩⟩
  .have:=congrArg List.length g;rw[Rb,Rb]at this;lia
  rw[R3 g K];obtain⟨D,w⟩:=(e.mono s1).write e1 e2 (k1:=.i n Q<|E++[a]) (o':=.ins b k<|fs++[(ofString a,y)]) ⟨O,b,k,_,rfl,s,by rw[Hg,Hg,g];rfl,by rw[Hg];rfl⟩<|(q.mono<|bG.hide s1).append<|.cons r1 .nil
  exact p A _ _ ((Le.of s1).trans w) D
 cases j
def rO:PS X sm (tS X.K B oK):=λ_ _ _ _ _ _ ⟨_,_,_,_,h,_⟩=>nomatch h
end
section
variable {iter c:Expr} {t:Tg} {u:Ex}
def R0{f:Shared}{l:bv}{p:Addr}{j:im} (F:X.N.Nodup) (w:X.N[i]?=some x) (r:Loc X.env.scope x)
  (A:sj X x) (g:f.heap.objs.size<=C) (d:Ba X aa σ H3 f) (H:∀b∈l,Aj X aa H3 b) (m:Ba (eX X scope C f H3 l) [] τ H5 s5) (I:s5.heap.Ns C j)
  (E:∀h,Ba X aa (σ.set i<|some<|.ref p) H5 h->Qf .none h):compPost (model X.prog X.w) X.A X.xe (some<|assign (.Name x px) X.env) Qf (.ref p) C (.ok .next) s5:=by
 have lt:∀b o,f.heap.get? b=some o->C≠b:=λb o e z=>uh _<|rg (uc<|z ▸ e) g
 have G:C≠X.env.locals:=λz=>uh _<|rg (z ▸ d.lt) g
 have k:∀y c,X.env.cells.lookup y=some c->c≠C:=λy c e=>by
  obtain⟨v,o,u,_⟩:=d.cell y c e;exact(lt c o u).symm
 exact wpAny_assign_Name<|NZ (v:=.ref p) (dy d H g m<|.refl ..) F w r rfl (λK J ⟨a,s,D⟩=>⟨j,I.sameBut s (by
  rcases D with z|z
  .rwa [z]
  exact(k x a z).symm),λL n=>E _<|J.turned (λb o B e=>(n.2 b B).trans e) ((m.free)) G (.inr<|Xd d.sz g) k<|λq t=>(lt q.1 q.2 (d.pin q t).1).symm⟩) A
def RE{x:Str}{w:Pos}{is:ac}(U:L2.PI X tg iter (Jk X.K B it))(V:∀(B:bv)(C:Addr)(c:Shared)(b:Hp)(a:bv),PG (eX X scope C c b a) tg<|tG X.K B t)
  (he:∀(B:bv)(C:Addr)(c:Shared)(b:Hp)(a:bv),PE (eX X scope C c b a) elt<|tI X.K B f) (Z:X.calm=true:=by rfl) (hsub:Xo is t:=by exact Sv) (S:yc X scope is:=by exact .of rfl) (hN:X.N.Nodup:=by assumption) (Rh:X.N[i]?=some x:=by rfl) (K:Loc X.env.scope x:=by exact Dl rfl)
  (G:swapsWith (.ListComp elt [⟨tg,iter,[],0⟩] scope pos) (some<|.Name x px) w.line X.env=pure true:=by rfl)
  (W:sj X x:=by first|exact .inl rfl|exact .inr rfl|assumption) (hs:∀x,foldedSetIterable iter X.env x=pure x:=by intro _;rfl) :
  PS X (.Assign [.Name x px] (.ListComp elt [⟨tg,iter,[],0⟩] scope pos) w) (tS X.K B<|cG i<|cJ is t it cV f):=by
 intro u s σ H Dn I h;refine Uc λhG=>?_
 obtain⟨A,st,r,j,M,q⟩:=h;obtain⟨d,Y,l⟩:=R.qa M;cases l;obtain⟨xs,Al,h2⟩:=R.qa Y;obtain⟨T,l⟩:=aM h2;obtain⟨ys,J,h4⟩:=R.qa l;cases h4;refine hG ?_
 rw[exec_Assign_Name_used _ _ _ _ G];refine xa<|xt<|xa<|xa<|Gj (uU (rest:=λg it p=>eval elt g >>= λx=>call _ [p,x] >>= λ_=>again<|.compLoop _ 0 it p g) S Z U (λC c b a=>iw λB=>V B C c b a) (λ_ _ _=>qY)
  (λC c b a it p s Q h=>LQ h) (λC c b a it p τ H s u n N Q I h q=>ZP rfl (gw λB=>he B C c b a) τ H s u n N Q I h (λQ Q' m h=>zF Q Q' m h) q) hs I
  (Tv hsub (λτ H Q ⟨B,A,st,k,j,hk,q⟩=>?_) j Al T J λp n H1 y s1 P z L r=>NE j (λv y o E=>q A _ y (Le.of o)<|(j.mono o).set i E) s1 P z L r) λC p H5 s5 m5 s3 H3 a τ hC I3 Si I5 Oj F=>R0 hN Rh K W hC I3 Si I5 Oj λD I'=>⟨_,_,I',F⟩) (λ_ D O=>Ma<|Ma O) λ_ _ e=>e
 cases hk;exact q H<|bG.refl _
def bH4{x:Str}{y:Pos}{is:ac}(W:L2.PI X tg iter (Jk X.K B it))(Y:∀(B:bv)(C:Addr)(j:Shared)(g:Hp)(a:bv),PG (eX X scope C j g a) tg<|tG X.K B t)
  (O:∀(B:bv)(C:Addr)(j:Shared)(g:Hp)(a:bv),PT (eX X scope C j g a) c<|tT X.K B u)
  (he:∀(B:bv)(C:Addr)(j:Shared)(g:Hp)(a:bv),PE (eX X scope C j g a) elt<|tI X.K B f) (hc:X.calm=true:=by rfl) (hsub:Xo is t:=by exact Sv) (S:yc X scope is:=by exact .of rfl) (hN:X.N.Nodup:=by assumption) (Rh:X.N[i]?=some x:=by rfl) (L:Loc X.env.scope x:=by exact Dl rfl)
  (J:swapsWith (.ListComp elt [⟨tg,iter,[c],0⟩] scope pos) (some<|.Name x px) y.line X.env=pure true:=by rfl)
  (Z:sj X x:=by first|exact .inl rfl|exact .inr rfl|assumption) (hs:∀x,foldedSetIterable iter X.env x=pure x:=by intro _;rfl) :
  PS X (.Assign [.Name x px] (.ListComp elt [⟨tg,iter,[c],0⟩] scope pos) y) (tS X.K B<|cG i<|cJ is t it u f):=by
 intro w s σ H Dn I h;refine Uc λhG=>?_
 obtain⟨A,st,r,k,P,q⟩:=h;obtain⟨d,hd,l⟩:=R.qa P;cases l;obtain⟨xs,Al,h2⟩:=R.qa hd;obtain⟨V,l⟩:=aM h2;obtain⟨ys,K,h4⟩:=R.qa l;cases h4;refine hG ?_
 rw[exec_Assign_Name_used _ _ _ _ J];exact xa<|xt<|xa<|xa<|Gj (uU (te:=Eu X.K f) (rest:=λb it p=>isTrue c b (eval c b) >>= λok=>if ok=true then (eval elt b >>= λx=>call _ [p,x] >>= λ_=>again<|.compLoop _ 0 it p b) else again (.compLoop _ 0 it p b)) S hc W (λC j g a=>iw λB=>Y B C j g a) (λ_ _ _=>qY)
  (λC j g a it p s Q h=>MQ h) (λC j g a it p τ H s w n N Q I h q=>dQ rfl (gw λB=>he B C j g a) (NQ λB=>O B C j g a) τ H s w n N Q I h (λ_ Q Q' m h=>zF Q Q' m h) q) hs I
  (Tv hsub (λτ H Q h=>h) k Al V K λp n H1 z s1 U D M r=>NE k (λv z o F=>q A _ z (Le.of o)<|(k.mono o).set i F) s1 U D M r) λC p H5 s5 m5 s3 H3 a τ hC I3 Si I5 Oj G=>R0 hN Rh L Z hC I3 Si I5 Oj λE I'=>⟨_,_,I',G⟩) (λ_ E T=>Ma<|Ma T) λ_ _ e=>e
end
structure Ja(K:Frag)(x qual:Str)(st:Stmt)(dV:Value)(f:Addr)(fd:FuncData):Prop where
 ex:∃(oc:Value)(od:pi)(kV doc pm:Value)(an:pi)(Zb ct:Value) (Ai:li),
  fd=fnOf x qual (eU st) (dH st) (bM st) dV kV doc pm an Zb ct/\K.lookup f=some ⟨oc,od,.func fd,Ai⟩/\codeIn K Zb qual=true
 kp:keepIn K (.ref f)=true
section
variable{w:World}{K:Frag} {st:Stmt} {f:Addr} {k:Nat}
def uO{a:pi}{kV:Value} (l:K.lookup f=some ⟨oc,a,.func<|fnOf x qual (eU st) (dH st) (bM st) dV kV doc pm an Zb ct,Ai⟩)
  (c:codeIn K Zb qual=true) (k:keepIn K (.ref f)=true):Ja K x qual st dV f (fnOf x qual (eU st) (dH st) (bM st) dV kV doc pm an Zb ct):=⟨⟨oc,a,kV,doc,pm,an,Zb,ct,Ai,rfl,l,c⟩,k⟩
def Ja.Yh(F:Ja K x qual st .none f fd)
  (h:∀(kV a c:Value)(e:pi)(g d:Value)(b:cr),b.length=ps.length->bindArgs (fnOf x qual (eU st) (dH st) (bM st) .none kV a c e g d) ⟨b,[]⟩=pure (ps.zip b)):Binds K fd ps []:=by
 obtain⟨k,j,kV,a,c,e,g,d,l,rfl,lk,i⟩:=F.ex;exact .all<|h kV a c e g d
theorem Ja.binds{T:Addr}{o:Obj} {ds:cr} (F:Ja K x qual st (.ref T) f fd) (l:K.lookup T=some o) (j:o.data=.seq items n) (w:m+ds.length=ps.length)
  (h:∀(kV a c:Value)(e:pi)(g d:Value)(b:cr),b.length=m->∃k:Option (Array Value)->Sem (List<|Str×Value),bindArgs (fnOf x qual (eU st) (dH st) (bM st) (.ref T) kV a c e g d) ⟨b,[]⟩=seqItems? (.ref T) >>= k/\k (some items)=pure (ps.zip<|b++ds)):Binds K fd ps ds:=by
 obtain⟨v,u,kV,a,c,e,g,d,y,rfl,lk,t⟩:=F.ex;intro s b r i;obtain⟨k,q,p⟩:=h kV a c e g d b (by rw[Ud]at i;lia)
 exact .of_defaults rfl (r _ _ l) j q p
def Ja.YU{sp:Sp}(F:Ja K x qual st dV f fd)(S:Pc N ps (bM st))(len:∀vs H Q E,sp vs H Q E->vs.length=ps.length)
  (i:∀(b:Value)(A:Around)(a:Ch)(s:Shared)(H:Hp)(vs:o0)(Q:VK)(E:XK),Kb k (A.deeper<|envOfC qual (bM st) s.heap.objs.size f b)->sp vs H Q E->
   ∃t,Dd (Hm Ab P w K mg base N qual (bM st) f b A a s H E).Ln (dH st) t/\t {nx:=λ_ j=>Q .Sb j,rt:=Q} (L2.start N vs) H):Ca P w K mg base Ab (k+1) f fd ps sp:=by
 obtain⟨n,m,kV,g,l,p,b,o,r,rfl,lk,d⟩:=F.ex;refine U8 lk d S len λA a s H vs Q E e c=>?_
 obtain⟨t,h,q⟩:=i b A a s H vs Q E e c;exact⟨t,h.Ln,q⟩
def bTg(F:Ja K x qual st dV f fd)(S:Pc N ps (bM st))(o n:Nat)(t:Bd)(T:ps.length=o)(J:N.length=n)
  (L:∀(j:Value)(A:Around)(b:Ch)(s:Shared)(H:Hp)(E:XK)(B:bv),Kb k (A.deeper<|envOfC qual (bM st) s.heap.objs.size f j)->
   Dd (Hm Ab P w K mg base N qual (bM st) f j A b s H E).Ln (dH st) (tS K B t)):Ca P w K mg base Ab (k+1) f fd ps (Tb K o<|cM o n t):=by
 refine F.YU S (λz H Q E h=>?_)<|λj A b s H z Q E G h=>?_
 .obtain⟨A,ds,d,e,r,p,_⟩:=h;rw[r.length,p,T]
 obtain⟨B,ds,d,e,r,p,I,q⟩:=h;refine⟨tS K B t,L j A b s H E B G,?_⟩;obtain⟨_,O⟩:=aM I;obtain⟨y,U,i⟩:=R.qa O;have u:=JM (N:=N) e r;rw[p,J]at u;refine⟨[],_,y,u,U,?_⟩;have g:∀{m:bv}{c:Hp},Le [] H m c->bG H c:=λ{m c} l=>by
  unfold Le at l;exact l.trans<|aX _ _
 cases y with
 |nx s1=>
  cases i;exact λm W c l D=>q _ c (g l)<|uN.mpr rfl
 |rt V=>
  cases i;exact λm v c l C=>q v c (g l)<|C.mono<|gP λa M=>Ke _ M
 |bk s1=>exact nomatch i
 |ct s1=>exact nomatch i
def Ac.of{c m:String} {ds:cr} (d:ClsAt K c C) (a:Meth K C (ofString m) f) (F:Ca P w K mg base Ab k f fd ps (Tb K np<|cM np n bd)) (b:Binds K fd ps ds) (v:Ha jf ds) (r:∀H,bJ K H dv jf):Ac P w K mg base c m k np dv (cM np n bd):=
 ⟨⟨C,f,fd,ps,jf,ds,d,a,F,b,v,r⟩,vR⟩
end
end Pu
namespace Pu
open PySem PySem.Spec PyProof.Rows L2 PySem.SeqAt
section
variable {a b o:Expr} {r:De}
def FZ:mF X (.type "list") (λvs H Q=>∃l xs,vs=[.ref l]/\(Qc X.K H l xs\/Xf X.K H l xs)/\∀n,H n=none->Q (.ref n) (bb H n<|.lst xs)):=by
 intro t s σ H vs p Q I r h;obtain⟨l,xs,rfl,d,q⟩:=h;obtain⟨u,rfl,m⟩:=r.one;obtain rfl:u=Value.ref l:=m;rcases d with d|d
 .obtain⟨a,c,⟨ob,n,e,i,_,g⟩,b⟩:=I.list d;exact call_list_seq l (.inl rfl) e i g (λo j k f=>⟨.ref s.heap.objs.size,_,I.laid (o:=.lst xs) k (Pb _) ⟨b,a,j,c,f⟩,rfl,q _<|I.Ta.fresh<|Pb _⟩) (by rw[c.length]at b;simpa using b)
 obtain⟨a,c,⟨ob,e,i,n,g⟩,b⟩:=I.tuple d;exact call_list_seq l (.inr rfl) e i g (λo j k f=>⟨.ref s.heap.objs.size,_,I.laid (o:=.lst xs) k (Pb _) ⟨b,a,j,c,f⟩,rfl,q _<|I.Ta.fresh<|Pb _⟩) (by rw[c.length]at b;simpa using b)
def H8(m:X.mg "list"=none)(r:PE X a (tP X.K B f))(o:Gl X "list":=by rfl)(hs:sf a [] X.env:=by rfl):PE X (.Call (.Name "list" p0) [a] [] pos) (tI X.K B<|e1 fF f):=by
 refine cF (oR FZ o m rfl (cN r fD hs) (he:=hs)) ?_
 rintro σ H Q ⟨A,st,d,g,p,q⟩;obtain⟨x,k,j⟩:=R.qa p;refine⟨A,st,x,g,k,λv s s1 r1=>?_⟩
 cases x<;>first|(cases j;done)|skip
 .cases j;obtain⟨l,c,e,i,h⟩:=r1.tup;exact⟨l,c,by rw[e],.inr i,λn b=>q _ _ (s1.trans<|bN b)<|fB (g.own.mono s1) b h⟩
 cases j;obtain⟨l,c,e,i,h⟩:=r1.lst;exact⟨l,c,by rw[e],.inl i,λn b=>q _ _ (s1.trans<|bN b)<|fB (g.own.mono s1) b h⟩
theorem F6:∀{l:u8}{a:cr},Ha (l.map V.bl) a->a=l.map Value.bool
 |[],_,.nil=>rfl
 |b::l,_,.cons r t=>by
  rw[F6 t];cases r;rfl
def bCc(E:X.calm=true):mF X (.builtin "all") (λvs H Q=>∃(l:Addr)(bs:u8),vs=[.ref l]/\Qc X.K H l (bs.map V.bl)/\Q (.bl<|bs.all id) H):=by
 intro N s σ H vs J Q I r h;obtain⟨l,bs,rfl,C,q⟩:=h;obtain⟨u,rfl,w⟩:=r.one;obtain rfl:u=Value.ref l:=w;obtain⟨a,t,⟨ob,n,e,G,_,D⟩,L⟩:=I.list C;have g:=F6 t;have o:s.heap.IsList l a.toArray:=⟨ob,e,G,n,D⟩;refine call_all_walk<|ft o ⟨s.heap.objs.size,_,_,_,_,_,λi=>bs[i]?.getD false,rfl,Dz (A:=X.A.in1) (I.ok.hd E) _ l (Vd<|uc e) a.toArray,⟨⟨_,de _ rfl,rfl,rfl⟩,o.push _⟩,?_,λM K k=>?_⟩
 .intro i v p F O d B;rw[g]at d;simp only[getElem?_toArray,List.getElem?_map,Option.map_eq_some_iff]at d;obtain⟨b,f,rfl⟩:=d;have j:F (bs[i]?.getD false) p:=B;rw[f]at j;exact Ma j
 refine⟨.bl _,H,I.kept<|λb u z=>k b u (λf=>?_)<|Xb _ z,?_,q⟩
 .exact uh _ ((Hd.mp f) ▸ uc z)
 congr 1;rw[Cw,qz,qz];have y:a.toArray.size=bs.length:=by rw[g];simp
 rw[y];constructor
 .intro h x A;obtain⟨i,c,rfl⟩:=Vs.mp A;have:=h i (qf.mpr c)
  rwa [Kc c]at this
 intro h i c;have m:=qf.mp c;rw[Kc m];exact h _<|Vg m
theorem G6{K:Frag}{H:Hp}:∀{l:u8}{vs:o0},bJ K H (l.map D.bl) vs->vs=l.map V.bl
 |[],vs,h=>cZ.mp h
 |b::l,vs,h=>by
  obtain⟨v,r,rfl,c,a⟩:=bR.mp h;rw[G6 a,dW.mp c];rfl
def LF(j:X.mg "all"=none)(n:X.calm=true)(o:PE X a (tP X.K B f))(k:Gl X "all":=by rfl)(hs:sf a [] X.env:=by rfl):PE X (.Call (.Name "all" p0) [a] [] pos) (tI X.K B<|e1 Gq f):=by
 refine cF (rY (bCc n) k j rfl (cN o fD hs) (he:=hs)) ?_
 rintro σ H Q ⟨A,st,d,h,m,q⟩;obtain⟨x,i,g⟩:=R.qa m;refine⟨A,st,x,h,i,λv H1 s1 r1=>?_⟩
 cases x<;>first|(cases g)|skip
 obtain⟨bs,r,p⟩:=R.qa g;cases p;obtain⟨l,s,e,c,b⟩:=r1.lst;rw[M7 r]at b;rw[G6 b]at c;exact⟨l,bs,by rw[e],c,q _ H1 s1<|dW.mpr rfl⟩
theorem S3:∀{l:lv}{a:cr},Ha (l.map V.int) a->∃ps:List (Int×Tok),a=ps.map (λp=>Value.int p.1 p.2)/\ps.map (·.1)=l
 |[],_,.nil=>⟨[],rfl,rfl⟩
 |b::l,_,.cons r t=>by
  obtain⟨ps,e,e2⟩:=S3 t;obtain⟨t,rfl⟩:=r;exact⟨(b,t)::ps,by rw[e];rfl,by rw[gf,e2]⟩
def T3{ps:List (Int×Tok)} (a:i<ps.length):numAt ps.toArray i=(ps.map (·.1))[i]'(by simpa using a):=by
 unfold numAt;rw[zw,Kc a];simp
theorem bCd(y:X.calm=true):mF X (.builtin "max") (λvs H Q=>∃(l:Addr)(is:lv),vs=[.ref l]/\Qc X.K H l (is.map V.int)/\0<is.length/\Q (.int<|gp is) H):=by
 intro M s σ H vs F Q I r h;obtain⟨l,is,rfl,o,m,q⟩:=h;obtain⟨u,rfl,c⟩:=r.one;obtain rfl:u=Value.ref l:=c;obtain⟨d,b,⟨ob,n,e,D,_,w⟩,J⟩:=I.list o;obtain⟨a,B,e2⟩:=S3 b;have C:a.length=is.length:=by rw[<-e2,Rb]
 have E:s.heap.IsList l (intItems a.toArray):=⟨ob,e,D,n,by rw[w,B];simp[intItems]⟩
 refine max_intList (I.ok.hd y) E (by simpa [C] using m) λv L G f k=>?_
 obtain⟨t,rfl⟩:=intItems_at f;refine⟨.int _,H,I.kept k,⟨t,?_⟩,q⟩;congr 1;have g:a.toArray.size=a.length:=rfl;rw[g];obtain⟨K,A⟩:=argBest_gt (numAt a.toArray)<|a.length-1;have z:argBest (λi j=>decide (numAt a.toArray i>numAt a.toArray j)) (a.length-1)<a.length:=by omega
 refine(V4 ?_ λx hx=>?_).symm
 .rw[T3 z,<-e2];exact Vg _
 rw[<-e2]at hx;obtain⟨i,p,rfl⟩:=Vs.mp hx;rw[<-T3 (by simpa using p)]
 exact A i (by lia)
theorem U3{K:Frag}{H:Hp}:∀{l:lv}{vs:o0},bJ K H (l.map D.int) vs->vs=l.map V.int
 |[],vs,h=>cZ.mp h
 |b::l,vs,h=>by
  obtain⟨v,r,rfl,c,a⟩:=bR.mp h;rw[U3 a,bO.mp c];rfl
def NF(m:X.mg "max"=none)(p:X.calm=true)(r:PE X a (tP X.K B f))(n:Gl X "max":=by rfl)(hs:sf a [] X.env:=by rfl):PE X (.Call (.Name "max" p0) [a] [] pos) (tI X.K B<|e1 Bq f):=by
 refine cF (rY (bCd p) n m rfl (cN r fD hs) (he:=hs)) ?_
 rintro σ H Q ⟨A,st,d,j,o,q⟩;obtain⟨x,k,i⟩:=R.qa o;refine⟨A,st,x,j,k,λv H1 s1 r1=>?_⟩
 cases x<;>first|(cases i)|skip
 obtain⟨is,s,b⟩:=R.qa i;obtain⟨c,b⟩:=aM b;cases b;obtain⟨l,t,e,h,g⟩:=r1.lst;rw[WC s]at g;rw[U3 g]at h;exact⟨l,is,by rw[e],h,c,q _ H1 s1<|bO.mpr rfl⟩
end
end Pu
namespace Pu
open PySem PySem.Spec PyProof.Rows L2
abbrev XW:=D->L2.St->xL
end Pu
variable{W:Pu.XW}
namespace Pu
open PySem PySem.Spec PyProof.Rows L2
section
variable{w:World}{K:Frag} {f:Addr} {k:Nat}
def Kf.of{c:String} (d:ClsAt K c C) (a:Mk K C f) (F:Ca P w K mg base Ab k f fd ps (JB K c np<|jo c np n bd)) (b:Binds K fd ps []) (m:mg (ofString c)=some (.ref C)):Kf P w K mg base c k np (jo c np n bd):=
 ⟨⟨C,f,fd,ps,d,a,F,b,m⟩,bH3⟩
end
section
variable{P:List α->Prop}
def N6(h:P [])(a:List α)(b:a.length=0):P a:=by rwa [Lm.mp b]
def cv(h:∀a b,b.length=n->P (a::b))(b:List α)(c:b.length=n+1):P b:=by
 cases b with
 |nil=>cases c
 |cons a b=>exact h a b<|Nat.succ.inj c
def SN(h:∀a,P [a])(b:List α)(c:b.length=1):P b:=cv (λa=>N6<|h a) b c
def O6(h:∀a b,P [a,b])(c:List α)(d:c.length=2):P c:=cv (λa=>SN<|h a) c d
def fv(h:∀a b c,P [a,b,c])(d:List α)(e:d.length=3):P d:=cv (λa=>O6<|h a) d e
def dE(h:∀a b c d,P [a,b,c,d])(e:List α)(f:e.length=4):P e:=cv (λa=>fv<|h a) e f
def fE(h:∀a b c d e,P [a,b,c,d,e])(f:List α)(g:f.length=5):P f:=cv (λa=>dE<|h a) f g
def bL1(h:∀a b c d e f,P [a,b,c,d,e,f])(g:List α)(i:g.length=6):P g:=cv (λa=>fE<|h a) g i
end
def NW(K:Frag)(G H:Hp):List (List D)->List Addr->Prop
 |[],a=>a=[]
 |xs::c,a=>∃p r b,a=p::r/\H p=some (.lst b)/\bJ K G xs b/\NW K G H c r
def GJ(Z A:bv)(H:Hp)(b:bv)(a:Hp):Prop:=bG (hide (Z++A) H)<|hide (Z++b) a
def GJ.of(l:Le A H A' H'):GJ Z A H A' H':=λb o e=>by
 have e1:=aX _ _ _ _ e;have c:b∉Z++A:=λz=>by rw[dC z]at e;cases e
 have e2:hide A H b=some o:=by rw[bF λz=>c<|Ke _ z];exact e1
 have a:=l b o e2;have d:=aX _ _ _ _ a;have f:b∉A':=λz=>by rw[dC z]at a;cases a
 rw[bF λz=>(tf.mp z).elim (λz=>c<|Sf _ z) f]
 exact d
def bL2(h:∀a,a∈A↔a∈A'):hide A H=hide A' H:=by
 funext b
 by_cases c:b∈A
 .rw[dC c,dC<|(h b).mp c]
 .rw[bF c,bF λz=>c<|(h b).mpr z]
def RS.shift{K:Frag}{Z:bv} {st:za} (r:RS K (Z++B) A H st σ) (f:∀z∈Z,z∉B):RS K B (Z++A) H st σ:=by
 have m:∀a,a∈A++(Z++B)↔a∈(Z++A)++B:=λa=>by
  simp only[List.mem_append];constructor
  .rintro(h|h|h)
   .exact .inl (.inr h)
   .exact .inl (.inl h)
   .exact .inr h
  .rintro((h|h)|h)
   .exact .inr (.inl h)
   .exact .inl h
   .exact .inr (.inr h)
 have e:=bL2 (H:=H) m;refine⟨r.len,λa b=>r.own a<|(m a).mpr b,λa b c=>(tf.mp b).elim (λz=>f a z c)<|λz=>r.Zf a z<|Ke _ c,λi d h=>?_,λi k xs h=>?_⟩
 .obtain⟨v,e1,q⟩:=r.val i d h;exact⟨v,e1,by rw[<-e];exact q⟩
 .obtain⟨a,o,g,e1,e2,p,n,l,j⟩:=r.lst i k xs h;exact⟨a,o,g,e1,Ke _ e2,p,n,by rw[<-e];exact l,j⟩
def RS.less{K:Frag} {st:za} (r:RS K (Z++B) A H st σ):RS K B A H st σ:=by
 have m:∀a∈A++B,a∈A++(Z++B):=λa h=>(tf.mp h).elim (Sf _) λz=>Ke _<|Ke _ z
 refine⟨r.len,λa b=>r.own a<|m a b,λa b e=>r.Zf a b<|Ke _ e,λi d h=>?_,λi k xs h=>?_⟩
 .obtain⟨v,e1,q⟩:=r.val i d h;exact⟨v,e1,q.mono<|gP m⟩
 .obtain⟨a,o,c,e1,e2,l,j,g,f⟩:=r.lst i k xs h;exact⟨a,o,c,e1,e2,l,j,g.mono<|gP m,f⟩
def RS.EV{K:Frag} {st:za} {p:Addr} {u:HO} (r:RS K B A H st σ) (c:p∈B) (n:nT u=true:=by rfl):RS K B A (bb H p u) st σ:=by
 have f:hide (A++B) (bb H p u)=hide (A++B) H:=sW<|Ke _ c;refine⟨r.len,λb hb=>?_,r.Zf,λj d e=>by rw[f];exact r.val j d e,λj kk xs e=>?_⟩
 .by_cases e:b=p
  .subst e;rw[bK];exact n
  .rw[aW e];exact r.own b hb
 .obtain⟨a,o,i,e1,m,h,g,q,u⟩:=r.lst j kk xs e;refine⟨a,o,i,e1,m,?_,g,by rw[f];exact q,u⟩
  have:a≠p:=λz=>r.Zf a m<|z ▸ c
  rw[aW this];exact h
section
variable {a b o:Expr} {rest:List Stmt} {na:NB}
def SE{l:List α} {x:α} (h:i≠j):(l.set j x)[i]?=l[i]?:=AR<|vg h
end
def OB(K:Frag)(B:bv)(i:Nat)(b:Bd):TS:=λf σ H=>∃A st st' xs,RS K B A H st σ/\b st=.ok (.nx st')/\st'[i]?=some (some<|.o .l xs)/\∀d a e c,Le A H d c->a∈d->c a=some (.lst e)->bJ K (hide (d++B) c) xs e->f.rt (.ref a) c
def Ek(K:Frag)(e:Nat)(p:ca):Sp:=λd H Q _=>∃A ds xs,Own A H/\bJ K (hide A H) ds d/\ds.length=e/\p ds=.ok (.lst xs)/\∀a c b,bG H b->H a=none->b a=some (.lst c)->bJ K (hide (a::A) b) xs c->Q (.ref a) b
section
variable {o:Expr} {rest:List Stmt}
def P6(n:PS X sm (tS X.K B bd))(m:Dd X rest (OB X.K B i Fo)):Dd X (sm::rest) (OB X.K B i<|bA bd Fo):=rJ (Bx n m) (by
 rintro v σ H ⟨A,st,st',xs,g,k,j,q⟩;obtain⟨e,p,b⟩:=R.qa k;refine⟨A,st,e,g,p,?_⟩;cases e with
 |nx s1=>exact λs u t l c=>⟨s,s1,st',xs,c,b,j,λr a f o h=>q r a f o<|l.trans h⟩
 |rt d=>cases b
 |bk s1=>cases b
 |ct s1=>cases b)
def bPu(k:X.N[i]?=some x:=by rfl)(f:Ah X.env.scope x:=by exact tj rfl)(h:pf x:=by decide)(b:Yi x:=by decide) :
  Dd X [.Return (some<|.Name x p1) pos] (OB X.K B i dF):=rJ (Kx<|iy<|oF k f h b) (by
 rintro n σ H ⟨A,st,st',xs,d,j,g,q⟩;cases j;obtain⟨a,o,c,e1,m,l,e,r,_⟩:=d.lst i .l xs g;subst e;exact⟨.ref a,e1,q A a c H Le.refl m l r⟩)
end
section
variable{w:World}{K:Frag} {st:Stmt} {f:Addr} {k:Nat}
def bVd(F:Ja K x qual st dV f fd)(S:Pc N ps (bM st))(p n i:Nat)(u:Bd)(U:ps.length=p)(J:N.length=n)
  (j:∀(m:Value)(A:Around)(c:Ch)(s:Shared)(H:Hp)(E:XK)(B:bv),Kb k (A.deeper<|envOfC qual (bM st) s.heap.objs.size f m)->
   Dd (Hm Ab P w K mg base N qual (bM st) f m A c s H E).Ln (dH st) (OB K B i u)):Ca P w K mg base Ab (k+1) f fd ps (Ek K p<|cM p n<|Uo u i):=by
 refine F.YU S (λy H Q E h=>?_)<|λm A c s H y Q E G h=>?_
 .obtain⟨A,ds,d,g,r,t,_⟩:=h;rw[r.length,t,U]
 obtain⟨B,ds,xs,g,r,t,I,q⟩:=h;refine⟨OB K B i u,j m A c s H E B G,?_⟩;obtain⟨_,M⟩:=aM I;obtain⟨X,e,L⟩:=R.qa M;have v:=JM (N:=N) g r;rw[t,J]at v;unfold Uo at e;split at e
 .rename_i s1 O;unfold KP at e;split at e
  .rename_i e1;cases e;cases L;refine⟨[],_,s1,_,v,O,e1,λY a T V l ha D C=>q a T V (by
    unfold Le at l;exact l.trans<|aX _ _) ?_ D<|C.mono<|gP λb j=>?_⟩
   .cases W:H a with
    |none=>rfl
    |some o=>
     have z:=l a o (by rwa [j3])
     rw[dC ha]at z;cases z
   rcases qc.mp j with rfl|j
   .exact Sf _ ha
   exact Ke _ j
  cases e
 cases e
def bCe(h:cM np n (Uo bd i) ds=.ok d):∃xs,d=.lst xs:=by
 obtain⟨_,c⟩:=aM h;obtain⟨e,a,b⟩:=R.qa c;unfold Uo at a;split at a
 .unfold KP at a;split at a
  .cases a;cases b;exact⟨_,rfl⟩
  cases a
 cases a
def S0(y:∀ds d,p ds=.ok d->∃xs,d=.lst xs) (F:Ca P w K mg base Ab k f fd ps (Ek K np p)):Ca P w K mg base Ab k f fd ps (Tb K np p):=by
 have l:∀c H Q E,Tb K np p c H Q E->Ek K np p c H Q E:=by
  rintro c H Q E ⟨A,ds,d,g,r,z,n,q⟩;obtain⟨xs,rfl⟩:=y ds d n;refine⟨A,ds,xs,g,r,z,n,λa o D u B m v=>q _ D u<|fX.mpr ⟨a,o,rfl,(by rwa [bF<|g.free B]),v.mono<|gP λb j=>Mb _ j⟩⟩
 exact⟨λc H Q E h=>F.len c H Q E<|l c H Q E h,λA e s H i t c Q E x C j m h=>F.run A e s H i t c Q E x C j m<|l c H Q E h⟩
end
structure Zc(P:Program)(w:World)(K:Frag)(mg:im)(base:Heap)(c m:String)(k np:Nat)(dv:dL)(p:ca):Prop where
 ex:∃(C fa:Addr)(fd:FuncData)(ps:wp)(jf:o0)(ds:cr),ClsAt K c C/\Meth K C (ofString m) fa/\Ca P w K mg base Ab k fa fd ps (Ek K np p)/\Binds K fd ps ds/\Ha jf ds/\∀H,bJ K H dv jf
 len:∀ds d,p ds=.ok d->ds.length=np
 lst:∀ds d,p ds=.ok d->∃xs,d=.lst xs
def Zc.of{w:World}{K:Frag} {k:Nat} {f:Addr} {c m:String} {ds:cr} (d:ClsAt K c C) (a:Meth K C (ofString m) f) (F:Ca P w K mg base Ab k f fd ps (Ek K np<|cM np n<|Uo bd i)) (b:Binds K fd ps ds) (v:Ha jf ds) (r:∀H,bJ K H dv jf):Zc P w K mg base c m k np dv (cM np n<|Uo bd i):=
 ⟨⟨C,f,fd,ps,jf,ds,d,a,F,b,v,r⟩,vR,λ_ _ h=>bCe h⟩
def Zc.plain{w:World}{K:Frag} {c m:String} {k:Nat} (h:Zc P w K mg base c m k np dv p):Ac P w K mg base c m k np dv p:=by
 obtain⟨C,i,g,a,d,ds,f,e,F,b,v,r⟩:=h.ex;exact⟨⟨C,i,g,a,d,ds,f,e,S0 h.lst F,b,v,r⟩,h.len⟩
section
variable {o:Expr}
def bPv{c m:String}{k:Nat} {r:De} (h:Zc X.prog X.w X.K X.mg X.base c m k np dv p) (N:Kb j X.A) (T:k<=j) (O:PE X o (tI X.K B f)) (V:PA X (e::es) (tA X.K B r))
  (J:sf e es X.env:=by rfl) (rf:Zi pos es X.env:=by rfl)
  (M:eval (.Call (.Attribute o (ofString m) Ra) (e::es) [] pos) X.env=(do
   let i <- eval o X.env
   standAt Ra.atName
   let (f,first) <- holding [i] (getMethod i (ofString m) pl)
   callWith pos f first (backTo pos<|starEach (e::es) X.env) (backToKw pos<|keywordEach [] X.env)):=by rfl) :
  PE X (.Call (.Attribute o (ofString m) Ra) (e::es) [] pos) (tF X.K B<|oU c m p dv f r):=by
 refine Uc λW=>?_
 obtain⟨C,fa,fd,ps,jf,ds,l,S,F,bd,E,G⟩:=h.ex;refine W<|cF (L4 O l.cl S F (N.mono T) bd E Hv V J rf M) ?_;rintro σ H Q ⟨A,st,xs,g,U,q⟩;obtain⟨x,L,h2⟩:=R.qa U;obtain⟨w,D,s⟩:=R.qa h2;refine⟨A,st,x,g,L,λv H1 s1 r1=>?_⟩
 cases x<;>first|(cases s)|skip
 obtain⟨⟨e1,P⟩,n⟩:=aM s;subst e1;obtain⟨K,C',dx,fs,e2,h5,Z,Y,h8⟩:=lZ.ins<|.inl r1;have:C'=C:=by have z:=Z.symm.trans l.ns;injection z with z;injection z with z;injection z
 subst this;refine⟨K,dx,fs,e2,h5,lookup_none Y P,A,st,w,g.mono s1,D,λvs H2 s2 I=>⟨A++B,_,xs,g.own.mono<|s1.trans s2,.cons (r1.mono<|bG.hide s2)<|I.append<|G _,h.len _ _ n,n,λa ws H' s' il hv rv=>?_⟩⟩
 have e0:bb (hide [a] H') a (.lst ws)=H':=by
  funext b
  by_cases d:b=a
  .subst d;rw[bK];exact hv.symm
  rw[aW d,bF (by simpa using d)]
 have z:=q a ws (hide [a] H') (λb u hz=>?_) (dC<|by simp) ?_
 .rwa [e0]at z
 .have t:=s2 _ _<|s1 _ _ hz;rw[bF (by simpa using bD t il)]
  exact s' _ _ t
 refine rv.mono λb u hz=>?_
 have d:b∉a::(A++B):=λy=>by rw[dC y]at hz;cases hz
 rw[bF λy=>d<|Mb _ y,bF (by simpa using λy=>d<|by rw[y];exact qb)]
 exact aX _ _ _ _ hz
end
def DJ(K:Frag)(a:Addr):It:=
 ⟨λi H=>∃xs x,Qc K H a xs/\xs[i]?=some x,λi H x b=>∃T v,x=V.ref T/\H T=none/\b=bb H T (.tup [.int (i:Int),v])/\∀xs,Qc K H a xs->xs[i]?=some v,λi H=>∃xs,Qc K H a xs/\xs.length<=i⟩
theorem bCf{w:World}{K:Frag} {x1} (a e it:Addr) (fh:e≠it):Turn P w K (.Tuple wg x1 tp) (DJ K a) [e,it] e (λi h=>(∃l,IsEnum h e it (i:Int) l)/\h.IsListIter it a i) where
 mem:=by simp
 obj:=λi h st b g=>by
  obtain⟨⟨l,r⟩,j⟩:=st;simp only[mem_cons,not_mem_nil,or_false]at g;rcases g with rfl|rfl
  .exact⟨_,r,λv z=>by cases z⟩
  obtain⟨o,e1,c,d⟩:=j;exact⟨o,e1,λv z=>by rw[d]at z;cases z⟩
 keep:=λi h Z st k=>by
  obtain⟨⟨l,r⟩,j⟩:=st;exact⟨⟨l,k e (by simp) _ r⟩,j.at λo x=>k it (by simp) o x⟩
 item:=by
  intro X R O S V i aa s σ H E I L st Q;subst R O S;obtain⟨⟨l,r⟩,j⟩:=st;obtain⟨xs,x,J,m⟩:=Q;obtain⟨N,M,p,hz⟩:=I.list J;obtain⟨u,hu,ru⟩:=M.get m;have C:=L e (by simp)
  have B:=L it (by simp)
  have W:=I.Ta.fresh<|Pb _;refine wpAny_pyNext_enum_item r j p.isList (by simpa using hu) fh λZ ho kl OS lg hk=>⟨_,rfl,wpAny_letOwnedTupleGo_enum ho λh2 sA sb=>?_⟩
  have f:=λb o Y h3 q=>(sb.2 b Y).trans<|hk b o Y h3 q
  have G:=Vd<|uc r;have ju:=(sb.2 _ G.symm).trans OS;have nT:∀b t,H b=some t->b≠s.heap.objs.size:=λb t q=>bD q W
  have U:∀b t,H b=some t->b≠e/\b≠it:=λb t q=>⟨bD q C.1,bD q B.1⟩
  have A:∀b:Addr,b∉[e,it]->b≠e/\b≠it:=λb g=>⟨λz=>g (by simp[z]),λz=>g<|by simp[z]⟩
  have F:∀b o,s.heap.get? b=some o->b≠s.heap.objs.size:=λb o q=>Vd<|uc q
  have un:Un (Zk X.stack) [e,it] H (bb H s.heap.objs.size<|.tup [.int i,x]) s.heap h2:=by
   refine⟨λb o q n g m=>f b o (A b m).1 (A b m).2 q,λb o q n g m=>⟨o.slots,f b o (A b m).1 (A b m).2 q⟩,λb o q n m=>by rwa [aW<|F b o q],λb o q m=>⟨o,f b o (A b m).1 (A b m).2 q⟩,λb T q=>by rwa [aW<|nT b _ q],λb o t q=>by rw[aW<|nT b _ q];exact q,λb ps q=>⟨#[],by rw[aW<|nT b _ q,Array.append_empty];exact q⟩⟩
  have Ta:Df X.prog X.w (bb H s.heap.objs.size<|.tup [.int i,x]) h2:=λb t q=>by
   by_cases g:b=s.heap.objs.size
   .subst g;rw[bK]at q;cases q;exact⟨show 2<=sizeLine by decide,[.int i s.toks,u],.cons ⟨_,rfl⟩<|.cons ru .nil,_,ju,rfl,_,rfl⟩
   rw[aW g]at q;refine(I.Ta b t q).Ye (λc v Qh D=>?_) (λc D=>by rwa [aW<|nT c _ D]) λc T D=>by rwa [aW<|nT c _ D]
   have:∃Rn,H c=some Rn:=by
    rcases Qh with z|z
    .exact⟨t,by rw[z];exact q⟩
    exact⟨_,z⟩
   obtain⟨Rn,Ui⟩:=this;exact f c v (U c _ Ui).1 (U c _ Ui).2 D
  have I2:Ba X aa σ _ {s with heap:=h2,toks:=s.toks+1}:=I.call un Ta I.bare λb g=>by
   simp only[mem_cons,not_mem_nil,or_false]at g;rcases g with rfl|rfl
   .exact⟨C.2.2.2.1,C.2.1,C.2.2.2.2.1,C.2.2.2.2.2⟩
   exact⟨B.2.2.2.1,B.2.1,B.2.2.2.2.1,B.2.2.2.2.2⟩
  refine⟨.ref s.heap.objs.size,_,I2,rfl,⟨_,x,rfl,W,rfl,λT hy=>by rwa [I.fg hy J]⟩,⟨⟨_,by simpa using sA⟩,kl.at λo y=>(sb.2 it fh.symm).trans y⟩,λb g=>?_⟩
  simp only[mem_cons,not_mem_nil,or_false]at g;rcases g with rfl|rfl
  .rw[aW G];exact C.1
  rw[aW (by obtain⟨o,q,_⟩:=j;exact F _ _ q)];exact B.1
 done:=by
  intro X R O S V i aa s σ H E I L st Q;subst R O S;obtain⟨⟨l,r⟩,j⟩:=st;obtain⟨xs,J,m⟩:=Q;obtain⟨N,M,p,hz⟩:=I.list J;obtain⟨f0,f1,f2,f3,f4,f5⟩:=L it (by simp)
  have hl:=M.length;exact wpAny_pyNext_enum_end (I.ok.hd V) r j p.isList (by simp;lia) λZ eb=>⟨rfl,I.turned (λb o g e=>eb b o g e) f0 f1 f3 f4 f5⟩
 self:=λ_ _ _ _ _ st h=>by
  obtain⟨⟨l,r⟩,_⟩:=st;exact wpAny_pyIter_enum r h
theorem U0:∀(n:Nat)(ds:dL),(vB n ds).length=ds.length
 |_,[]=>rfl
 |n,d::ds=>by rw[vB,Ed,Ed,U0]
theorem V0:∀(n:Nat)(ds:dL)(i:Nat),(vB n ds)[i]?=ds[i]?.map λd=>D.tup [.int ((n+i:Nat):Int),d]
 |_,[],_=>by simp[vB]
 |n,d::ds,0=>by simp[vB]
 |n,d::ds,i+1=>by
  rw[vB,MR,MR,V0 (n+1) ds i,show n+1+i=n+(i+1) by lia]
section
variable {a:Expr}
def bPw{K:Frag} {l:Addr} (k:Qc K (hide (A++B) H) l vs) (r:bJ K (hide (A++B) H) ds vs):Mq K B A H (DJ K l) (vB 0 ds):=by
 intro t s e a i;have c:=(aX _ _).seq<|(Le.app e).seq k;refine⟨λd hd=>?_,λm=>⟨vs,c,by rw[r.length];rwa [U0]at m⟩⟩
 rw[V0,Kw]at hd;cases b:ds[i]? with
 |none=>rw[b]at hd;cases hd
 |some p=>
  rw[b]at hd;cases hd;obtain⟨v,g,j⟩:=r.get b;refine⟨⟨vs,v,c,g⟩,λx q y=>?_⟩
  obtain⟨T,o,rfl,h,rfl,n⟩:=y;have f:=n vs c;rw[g]at f;cases f;exact⟨bN h,sY a h<|.cons (bO.mpr rfl)<|.cons (j.mono<|Le.app e) .nil⟩
def Q6{x1}{p:Pos}(n:X.mg "enumerate"=none)(w:PE X a (tI X.K B f))(r:Gl X "enumerate":=by rfl)(hs:starEach [a] X.env=[(false,eval a X.env)]:=by rfl):L2.PI X (.Tuple wg x1 tp) (.Call (.Name "enumerate" p) [a] [] pos) (Jk X.K B<|DQ f):=by
 intro z s σ H L I C;refine Uc λy=>?_
 obtain⟨A,st,ds,j,t,q⟩:=C;obtain⟨x,m,h⟩:=R.qa t;refine y ?_
 cases x<;>first|(cases h;done)|skip
 rename_i xs;cases h;refine Call_<|uV I r n boot_enumerate<|Tq (Vb ((cN w fD hs) pos z s σ H (λd H1=>∃v,d=[v]/\bG H H1/\Bb X.K (hide _ H1) _ v) I ⟨A,st,_,j,m,λv H1 s1 r1=>⟨v,rfl,s1,r1⟩⟩) λF s1 ⟨d,H1,I1,r1,v,hv,sm,rv⟩=>?_) hs rfl
 subst hv;obtain⟨l,E,rfl,e,D⟩:=fX.mp rv;obtain⟨u,rfl,i⟩:=r1.one;subst i;obtain⟨k,M,p,J⟩:=I1.list<|(aX _ _).seq e;refine call_enumerate_list p.isList λK g c G o=>wpAny_pyIter_enum g ⟨s1.heap.objs.size+1,[s1.heap.objs.size+1,s1.heap.objs.size],_,DJ X.K l,H1,rfl,I1.kept o,bCf l _ s1.heap.objs.size<|Xq<|vt _,⟨⟨_,g⟩,c⟩,λb hb=>?_,q _ H1 sm<|bPw e D⟩
 simp at hb;rcases hb with rfl|rfl
 .exact I1.Eh (Io _) (I1.Ta.fresh<|Io _)
 exact I1.Eh (Pb _)<|I1.Ta.fresh<|Pb _
end
section
variable{X:Cx}{B:bv}{a b e:Expr}{f g:Ex}{pos:Pos}
def Sj:sw:=λx a H Q=>∃l xs,x=.ref l/\a=[]/\H l=some (.lst xs)/\Q .Sb (bb H l<|.lst [])
theorem Wi:xx X "list.clear" Sj:=by
 intro k s σ H x g v i Q I d f h;obtain⟨l,xs,rfl,rfl,b,q⟩:=h;cases d;have c:=f.zero;subst c;obtain⟨z,a,n,r,j,e⟩:=I.Ig b;exact Eo kR ⟨_,e,rfl⟩ PySem.F.entry_list_clear (PySem.F.args_list_clear_1 _) (l_ l a.toArray n<|by rw[Jf];lia) ⟨e,(⟨.Sb,_,I.gi b e rfl .nil (by simp),rfl,q⟩)⟩
theorem V3:∀{b:lv}{a:cr},Ha (b.map V.int) a->IntsAre a b
 |[],a,h=>by rw[h.zero];exact .nil
 |n::b,a,h=>by
  cases h with
  |cons r t=>
   obtain⟨k,rfl⟩:=r;exact .cons n k<|V3 t
theorem W0{K:Frag}{H:Hp}:∀{l:lv}{vs:o0},bJ K H (l.map D.int) vs->vs=l.map V.int
 |[],vs,h=>cZ.mp h
 |i::l,vs,h=>by
  obtain⟨v,r,rfl,b,a⟩:=bR.mp h;rw[bO.mp b,W0 a];rfl
end
def CU:Hp:=λ_=>none
def TN:bG CU H:=λ_ _ h=>nomatch h
def DD{K:Frag} (h:atom d=true) (r:Bb K H d v):Bb K CU d v:=by
 cases d<;>first|(cases h;done)|skip
 .exact uN.mpr (uN.mp r)
 .exact dW.mpr (dW.mp r)
 .exact bO.mpr (bO.mp r)
 exact dX.mpr<|dX.mp r
def tC(K:Frag)(B:bv)(f:Ex):TE:=λσ H Q=>∃A st d xs,RS K B A H st σ/\f st=.ok d/\bOl d=.ok (.lst xs)/\∀P a b,bG H b->(∀p∈P::a,H p=none)->(P::a).Nodup->b P=some (.lst<|a.map V.ref)->NW K CU b (xs.map unL) a->Q (.ref P) b
section
variable{K:Frag} {st:za}
def bPx{l:List α} {x:α} (h:l[i]?=some x):l.set i x=l:=by
 apply BH;intro k;rw[ug]
 by_cases a:i=k
 .subst a;rw[jb rfl,jb (Ee.mp h).1];exact h.symm
 .rw[Pa a]
end
open Builtin
section
variable{prog:Program}{w:World}{A:Around}{E:be}{s:Shared}
variable{z TI TO i1 i2 l:Addr}{fp:bv}{n k1 k2:Nat}{P:Nat->Value->Prop}{St:Da}{ys:wE}{y a b:Value}
structure Rc(z TI TO i1 i2 l:Addr)(fp:bv):Prop where
 TIz:TI≠z
 TOz:TO≠z
 i1z:i1≠z
 i2z:i2≠z
 TITO:TI≠TO
 TIi1:TI≠i1
 TIi2:TI≠i2
 TOi1:TO≠i1
 TOi2:TO≠i2
 i12:i1≠i2
 lz:l≠z
 HI:l≠TO
 II:l≠i1
 ρ:l≠i2
 zf:z∉fp
 Tf:TO∉fp
 ο:i2∉fp
theorem GZ{n l:Nat}{a:bv}(h:l<n)(c:∀b∈a,b<=n):Rc (n+4) (n+2) (n+3) n (n+1) l a:=by
 constructor<;>first|lia|(intro z;have:=c _ z;lia)
abbrev Zy(h:Heap)(z TI TO:Addr)(b a:Value):Prop:=h.get? z=some {cls:=.type "zip",dict:=none,data:=.fields #[b,a,.bool false,.ref TI,.ref TO],slots := #[]}
def UC(a:Zy s.heap z TI TO .none f1)(Q:v4)(q:Q true s):wpAny (model prog w) A (Builtin.SmallTypes.ownedTupleIsFree<|.ref z) Q E s:=by
 exact xa<|Li a rfl rfl<|Ma q
variable{f0 f1:Value}
def NM(G:Draws prog w A i1 fp n P St)(D:Rc z TI TO i1 i2 l fp)
  (u:Zy s.heap z TI TO f0 f1) (J:∀Q:v4,Q true s->wpAny (model prog w) A (Builtin.SmallTypes.ownedTupleIsFree<|.ref z) Q E s) (Fg:IsPair s.heap TI (.ref i1) (.ref i2)) (Ng:IsPair s.heap TO a b)
  (h1:St k1 s.heap) (I:k1<n) (h2:s.heap.IsListIter i2 l k2) (hl:s.heap.IsList l ys) (hy:ys[k2]?=some y)
  (hQ:∀k R x,P k1 x->IsZip k z TI TO (rawInt s.heap.objs.size)->IsPair k TO x y->St (k1+1) k->k.IsListIter i2 l (k2+1)->IsPair k s.heap.objs.size x y->k.objs.size=s.heap.objs.size+1->
   (∀c o,c≠z->c≠TO->c≠i1->c≠i2->s.heap.get? c=some o->k.get? c=some o)->Q (.ref s.heap.objs.size) {s with heap:=k,toks:=R}) :
  wpAny (model prog w) A (Builtin.«zip.__next__» ⟨[.ref z],[]⟩) (λK s'=>∃v,K=.done (.ret v)/\Q v s') E s:=by
 show wpAny _ _ (field (.ref z) 2 >>= _) _ _ _;refine xa<|Li u rfl (x:=.bool false) rfl ?_;refine xa<|Li u rfl rfl<|xa<|Ej Fg rfl ?_;refine xa<|J _ ?_;refine xa<|ar<|xa<|Li u rfl rfl<|xa<|bt u (by simp) λX bg f=>(xa ?_)
 simp only[List.zipIdx_cons,List.zipIdx_nil,forIn_cons,forIn_nil];refine xa<|xa<|LH ?_;refine xa<|G.item k1 {s with heap:=X} _ _ I (G.frame k1 s.heap X h1 λb m o e=>f.extBut _ _ (λx=>D.zf<|x ▸ m) e) λx Pj R hP Oi d=>Ma ?_
 have U:=d.extBut _ _ D.TOi1<|f.extBut _ _ D.TOz Ng;refine xa<|Ej U rfl<|xa<|BR U λQj Wm j=>?_
 refine xa<|Zq<|Ma<|xa<|xa<|LH ?_;refine xa (RG (((h2.extBut f.extBut D.i2z).extBut d.extBut D.i12.symm).extBut j.extBut D.TOi2.symm)
  (((hl.extBut f.extBut D.lz).extBut d.extBut D.II).extBut j.extBut D.HI) hy λYA Yz hs₄=>Ma ?_)
 have V:=hs₄.extBut _ _ D.TOi2 Wm;refine xa<|Ej V rfl<|xa<|BR V λq C Ak=>?_
 replace C:IsPair q TO x y:=C
 refine xa<|Zq<|Ma<|Ma<|xa<|Ej C rfl<|xa<|wpAny_newTuple ?_;have h:=j;have g:=hs₄;have r:Heap.SameBut TO YA q:=Ak;have S:q.objs.size=s.heap.objs.size:=by rw[r.1,g.1,h.1,d.1,f.1]
 have Z:=r.extBut _ _ D.TOz.symm<|g.extBut _ _ D.i2z.symm<|h.extBut _ _ D.TOz.symm<|d.extBut _ _ D.i1z.symm bg;have W:=uc Z;refine xa ?_
 refine xa<|bt (Xb _ Z) (by simp) λT XA i=>?_
 refine bt XA (by simp) λF Y H=>?_
 have t:∀c o,c≠z->q.get? c=some o->F.get? c=some o:=λc o p e=>H.extBut _ _ p<|i.extBut _ _ p<|Xb _ e
 have O:=H.extBut _ _ (Xq W)<|i.extBut _ _ (Xq W)<|de _ rfl;have N:F.objs.size=q.objs.size+1:=by rw[H.1,i.1,Mh]
 rw[S]at Y O N;refine Ma ⟨_,rfl,?_⟩;rw[S];exact hQ F _ x hP Y (t _ _ D.TOz C) (G.frame _ q F (G.frame _ Pj q Oi λb m o e=>r.extBut _ _ (λx=>D.Tf<|x ▸ m)<|g.extBut _ _ (λx=>D.ο<|x ▸ m)<|h.extBut _ _ (λx=>D.Tf<|x ▸ m) e) λb m o e=>t b o (λx=>D.zf<|x ▸ m) e) ((Yz.extBut r.extBut D.TOi2.symm).at λo e=>t _ o D.i2z e) O N λc o p B M L e=>t c o p<|(λc o p B M L e=>
  r.extBut _ _ B (g.extBut _ _ L<|h.extBut _ _ B<|d.extBut _ _ M<|f.extBut _ _ p e)) c o p B M L e
def UN(I:Draws prog w A i1 fp n P St)(O:A.handled=none)(D:Rc z TI TO i1 i2 l fp)
  (m:Zy s.heap z TI TO f0 f1) (t:∀Q:v4,Q true s->wpAny (model prog w) A (Builtin.SmallTypes.ownedTupleIsFree<|.ref z) Q E s) (Z:IsPair s.heap TI (.ref i1) (.ref i2)) (Y:IsPair s.heap TO a b)
  (T:St k1 s.heap) (S:s.heap.IsListIter i2 l k2) (N:s.heap.IsList l ys)
  (q:(∀(s:Shared)(Q:be)(E:be),St k1 s.heap->(∀h e,Heap.ExtBut i1 s.heap h->(∃o,h.get? e=some o/\o.cls=.type "StopIteration")->E (.ref e) {s with heap:=h})->wpAny (model prog w) A (Builtin.SmallTypes.nextOf<|.ref i1) Q E s)\/(k1<n/\ys[k2]?=none)) {Q:Fin->sK}
  (B:∀h e y,(∀c o,c≠z->c≠TO->c≠i1->c≠i2->s.heap.get? c=some o->h.get? c=some o)->(∃o,h.get? e=some o/\o.cls=.type "StopIteration")->E (.ref e) {s with heap:=h,toks:=y}) :
  wpAny (model prog w) A (Builtin.«zip.__next__» ⟨[.ref z],[]⟩) Q E s:=by
 show wpAny _ _ (field _ 2 >>= _) _ _ _;refine xa<|Li m rfl (x:=.bool false) rfl<|xa<|Li m rfl rfl<|xa<|Ej Z rfl<|xa<|t _<|xa<|ar<|xa<|Li m rfl rfl<|xa<|bt m (by simp) λv C d=>xa ?_
 simp only[List.zipIdx_cons,List.zipIdx_nil,forIn_cons,forIn_nil];refine xa<|xa<|LH ?_;have H:=I.frame k1 s.heap v T λb R o e=>d.extBut _ _ (λx=>D.zf<|x ▸ R) e
 rcases q with q|⟨r,M⟩
 .refine xa (q {s with heap:=v} _ _ H λX e hs₂ he=>?_)
  obtain⟨p,i,k⟩:=he;have K:=hs₂ _ _ D.i1z.symm C;refine bt K (by simp) λG _ g=>B G e _ (λc o j _ u _ x=>g.extBut _ _ j<|hs₂ _ _ u<|d.extBut _ _ j x) ⟨p,g.extBut _ _ (λx=>by subst x;rw[K]at i;cases i;simp at k) i,k⟩
 refine xa<|I.item k1 {s with heap:=v} _ _ r H λx X y hP Oi hs₂=>Ma ?_
 have F:=hs₂.extBut _ _ D.TOi1<|d.extBut _ _ D.TOz Y;refine xa<|Ej F rfl<|xa<|BR F λG Wm g=>?_
 have f:=g;refine xa<|Zq<|Ma<|xa<|xa<|LH<|xa (VG O (((S.extBut d.extBut D.i2z).extBut hs₂.extBut D.i12.symm).extBut f.extBut D.TOi2.symm)
  (((N.extBut d.extBut D.lz).extBut hs₂.extBut D.II).extBut f.extBut D.HI) M λYA e hs₄ he=>?_)
 obtain⟨p,i,k⟩:=he;have J:=hs₄ _ _ D.i2z.symm<|f.extBut _ _ D.TOz.symm<|hs₂.extBut _ _ D.i1z.symm C;refine bt J (by simp) λW _ L=>B W e _ (λc o j V u U x=>L.extBut _ _ j<|hs₄ _ _ U<|f.extBut _ _ V<|hs₂.extBut _ _ u<|d.extBut _ _ j x) ⟨p,L.extBut _ _ (λx=>by subst x;rw[J]at i;cases i;simp at k) i,k⟩
end
section
variable{prog:Program}{w:World}{A:Around}{E:be}{s:Shared}
abbrev UI(h:Heap)(o:Obj):Heap:=h.push o
abbrev VI(h:Heap)(o:Obj)(l:Addr):Heap:=(UI h o).push {cls:=.type "list_iterator",data:=.fields #[.ref l,.int 0 0]}
abbrev WI(h:Heap)(o:Obj)(l:Addr):Heap:=(VI h o l).push {cls:=.type "tuple",data:=.seq #[.ref h.objs.size,.ref (UI h o).objs.size]}
abbrev XI(h:Heap)(o:Obj)(l:Addr):Heap:=(WI h o l).push {cls:=.type "tuple",data:=.seq #[.none,.none]}
abbrev JC(h:Heap)(o:Obj)(l:Addr):Heap:=(XI h o l).push {cls:=.type "zip",data:=.fields #[.none,.bool false,.bool false,.ref (VI h o l).objs.size,.ref (WI h o l).objs.size]}
def PQ(u:Value)(o:Obj)(s:Shared):Prop:=∀(prog:Program)(w:World)(A:Around)(E Q:be),Q (.ref s.heap.objs.size) {s with heap:=s.heap.push o}->wpAny (model prog w) A (pyIter u) Q E s
def aX0(u:Value)(o:Obj)(l:Addr)(ys:wE) :
  Meets (Builtin.«zip.__new__» ⟨[.type "zip",u,.ref l],[]⟩) (λ_ R s=>PQ u o s/\s.heap.IsList l ys/\
   R (.ok<|.ret<|.ref (XI s.heap o l).objs.size) {s with heap:=JC s.heap o l}):=
 .of_wp λprog w A R s h=>by
  obtain⟨c,b,h⟩:=h;have a:=sub_zip;have d:∀{A:Around}{E Q:be},Q (.ref s.heap.objs.size) {s with heap:=s.heap.push o}->wpAny (model prog w) A (pyIter u) Q E s:=c prog w _ _ _
  wp_walk using d,wpAny_pyIter_list<|Heap.IsList.push b _
  exact⟨_,rfl,h⟩
def X0{l:Addr} (q:PQ u o1 s) (i:o1.isFreed=false) (p:s.heap.IsList l ys)
  (h:∀a,IsZip a (s.heap.objs.size+4) (s.heap.objs.size+2) (s.heap.objs.size+3) .none->IsPair a (s.heap.objs.size+2) (.ref s.heap.objs.size) (.ref<|s.heap.objs.size+1)->
   IsPair a (s.heap.objs.size+3) .none .none->a.get? s.heap.objs.size=some o1->a.IsListIter (s.heap.objs.size+1) l 0->a.objs.size=s.heap.objs.size+5->
   (∀c o,s.heap.get? c=some o->a.get? c=some o)->Q (.ref<|s.heap.objs.size+4) {s with heap:=a}) :
  wpAny (model prog w) A (call (.type "zip") [u,.ref l]) Q E s:=by
 refine callType_new PySem.F.called_zip rfl (PySem.F.typeCall_zip_2 _ _) (PySem.F.newCall_zip_2 _ _) (λg=>PySem.F.args_object_init_3 g _ _) PySem.F.entry_zip_new
  (aX0 u o1 l ys) ⟨q,p,?_⟩
 have f:(UI s.heap o1).objs.size=s.heap.objs.size+1:=Mh ..;have e:(VI s.heap o1 l).objs.size=s.heap.objs.size+2:=by rw[Mh,f]
 have d:(WI s.heap o1 l).objs.size=s.heap.objs.size+3:=by rw[Mh,e]
 have b:(XI s.heap o1 l).objs.size=s.heap.objs.size+4:=by rw[Mh,d]
 have j:(JC s.heap o1 l).get? (XI s.heap o1 l).objs.size=some _:=de _ rfl;have k:(JC s.heap o1 l).get? (WI s.heap o1 l).objs.size=some _:=Xb _<|de _ rfl;have m:(JC s.heap o1 l).get? (VI s.heap o1 l).objs.size=some _:=Xb _<|Xb _<|de _ rfl;have n:(JC s.heap o1 l).get? (UI s.heap o1).objs.size=some _:=Xb _<|Xb _<|Xb _<|de _ rfl;rw[e,d,b]at j;rw[f,e]at m;rw[d]at k;rw[f]at n;rw[b];exact⟨⟨_,j,rfl⟩,h _ j m k (Xb _<|Xb _<|Xb _<|Xb _<|de _ i) ⟨_,n,rfl,rfl⟩ (by rw[Mh,b]) λc o x=>
  Xb _ (Xb _<|Xb _<|Xb _<|Xb _ x)⟩
def bCg(a:A.handled=none)(it:Addr)(x:Str)(t:Tok){n:String}(b:n="str_ascii_iterator"\/n="str_iterator") :
  Draws prog w A it [it] x.cps.size (λi v=>∃c u,x.cps[i]?=some c/\v=.str ⟨#[c]⟩ u) (λi h=>h.IsStrIter it n x t i):=by
 rcases b with rfl|rfl
 .exact Draws.strAscii a it x t
 exact Draws.strWide a it x t
def bL3(c:A.handled=none){it:Addr} {t:Tok} {n:String} (f:n="str_ascii_iterator"\/n="str_iterator") (st:s.heap.IsStrIter it n x t i) (b:x.cps[i]?=none)
  (d:∀a e,Heap.ExtBut it s.heap a->(∃o,a.get? e=some o/\o.cls=.type "StopIteration")->E (.ref e) {s with heap:=a}):wpAny (model prog w) A (Builtin.SmallTypes.nextOf<|.ref it) Q E s:=by
 rcases f with rfl|rfl
 .exact wpAny_nextOf_ascii_end c st b d
 exact wpAny_nextOf_wide_end c st b d
def WX(x:Str):strIterType x="str_ascii_iterator"\/strIterType x="str_iterator":=by
 unfold strIterType;split<;>simp
end
structure Sr(X:Cx)(i1:Addr)(fp:bv)(St:Da)(src:FB):Prop where
 ob:∀i h,St i h->∃o,h.get? i1=some o/\∀v,o.data≠.cell v
 keep:∀i h h',St i h->(∀o,h.get? i1=some o->h'.get? i1=some o)->St i h'
 dr:∀(Y:Cx),Y.prog=X.prog->Y.w=X.w->Y.K=X.K->Y.A.handled=none->∀(i:Nat) aa s σ H ys,Ba Y aa σ H s->src H ys->St i s.heap->∃Pv Su,Draws X.prog X.w Y.A.in1 i1 fp ys.length Pv Su/\Su i s.heap/\(∀k h,Su k h->St k h)/\(∀y v,ys[i]?=some y->Pv i v->RelV y v)/\
  (ys.length<=i->∀(s:Shared)(Q E:be),Su i s.heap->(∀h' e,Heap.ExtBut i1 s.heap h'->(∃o,h'.get? e=some o/\o.cls=.type "StopIteration")->E (.ref e) {s with heap:=h'})->wpAny (model X.prog X.w) Y.A.in1 (Builtin.SmallTypes.nextOf<|.ref i1) Q E s)/\∀zs,src H zs->zs=ys
def FJ(K:Frag)(d:FB)(a:Addr):It:=
 ⟨λi H=>∃b y xs x,d H b/\b[i]?=some y/\Qc K H a xs/\xs[i]?=some x,λi H x e=>∃T c v,x=V.ref T/\H T=none/\(∀b,d H b->b[i]?=some c)/\e=bb H T (.tup [c,v])/\∀xs,Qc K H a xs->xs[i]?=some v,λi H=>∃b xs,d H b/\Qc K H a xs/\(b.length<=i\/xs.length<=i)⟩
def bVe{P:Addr->Prop}{a b c d e:Addr}(j:P a)(i:P b)(h:P c)(g:P d)(f:P e):∀x∈[a,b,c,d,e],P x:=by
 simp[j,i,h,g,f]
def e_{b c d e x:Addr}(h:x∉[a,b,c,d,e]):x≠a/\x≠c/\x≠d/\x≠e:=by
 simp at h;exact⟨h.1,h.2.2.1,h.2.2.2.1,h.2.2.2.2⟩
def bTi{P:Addr->Prop}{a b c d e:Addr}(h:∀x∈[a,b,c,d,e],P x):P a/\P b/\P c/\P d/\P e:=by
 simpa using h
def R6{St:Da}{z TI TO:Addr} (Z:Sr X i1 fp St src) (i:Nat) (h:Heap) (st:IsZip h z TI TO .none/\IsPair h TI (.ref i1) (.ref i2)/\(∃u v,IsPair h TO u v)/\St i h/\h.IsListIter i2 a i):∀b∈[z,TI,TO,i1,i2],∃o,h.get? b=some o/\∀v,o.data≠.cell v:=by
 obtain⟨e,k,⟨u,v,j⟩,f,⟨d,c,l,g⟩⟩:=st;exact bVe ⟨_,e,λv z=>by cases z⟩ ⟨_,k,λv z=>by cases z⟩ ⟨_,j,λv z=>by cases z⟩ (Z.ob i h f) ⟨d,c,λv z=>by rw[g]at z;cases z⟩
theorem bH7{x1} {St:Da} (a z TI TO m l:Addr) (Z:Sr X m fp St src) (D:Rc z TI TO m l a fp) :
  Turn X.prog X.w X.K (.Tuple wg x1 tp) (FJ X.K src a) [z,TI,TO,m,l] z (λi h=>IsZip h z TI TO .none/\IsPair h TI (.ref m) (.ref l)/\(∃u v,IsPair h TO u v)/\St i h/\h.IsListIter l a i) where
 mem:=by simp
 obj:=R6 Z
 keep:=λi h B st k=>
  have ⟨k1,k2,k3,k4,k5⟩:=bTi k
  ⟨k1 _ st.1,k2 _ st.2.1,st.2.2.1.elim λu q=>q.elim λv q=>⟨u,v,k3 _ q⟩,Z.keep i h B st.2.2.2.1 k4,st.2.2.2.2.at k5⟩
 item:=by
  intro Y hP hw G hc i T s σ H E I K st hg;refine Uc λhG=>?_
  have ob:=R6 Z i _ st;obtain⟨w,V,⟨u0,v0,Ng⟩,h1,h2⟩:=st;obtain⟨U,y1,xs,x,HA,qu,F,f⟩:=hg;have R:=I.ok.hd hc;obtain⟨Pv,Su,Dr,JV,sk,ru1,_,uq⟩:=Z.dr Y hP hw G R i T s σ H U I HA h1;rw[<-G]at F;obtain⟨its,rv,p,_⟩:=I.list F;obtain⟨u,hu,ru⟩:=rv.get f;have S:∀b∈[z,TI,TO,m,l],H b=none:=λb d=>(K b d).1
  have hT:H s.heap.objs.size=none:=I.Ta.fresh<|Pb _;have N:s.TypeIs (.ref z) "zip":=⟨_,w,rfl⟩;refine hG ?_
  unfold pyNext;refine xa<|Bo (Mm N rp
   (Ki rp N SG
    (NM Dr D w (UC w) V Ng JV (Ee.mp qu).1 h2 p.isList (by simpa using hu) λB tk v hPv a1 a2 a3 a4 a5 a6 hk=>wpAny_pure ?_) (PySem.F.args_zip_next_1 _)))
  refine⟨_,rfl,wpAny_letOwnedTupleGo_zip a1 λh9 hz9 sb=>?_⟩
  have A:∀b o,b≠z->b≠TO->b≠m->b≠l->s.heap.get? b=some o->h9.get? b=some o:=λb o e1 e2 M L q=>(sb.2 b e1).trans<|hk b o e1 e2 M L q
  have W:z≠s.heap.objs.size:=Vd<|uc w;have ju:h9.get? s.heap.objs.size=some {cls:=.type "tuple",data:=.seq #[v,u]}:=(sb.2 _ W.symm).trans a5;have nT:∀b g,H b=some g->b≠s.heap.objs.size:=λb g q=>bD q hT
  have nx:∀b g,H b=some g->b∉[z,TI,TO,m,l]:=λb g q d=>bD q (S b d) rfl
  have J:∀b o,s.heap.get? b=some o->b≠s.heap.objs.size:=λb o q=>Vd<|uc q
  have r:∀b o,b∉[z,TI,TO,m,l]->s.heap.get? b=some o->h9.get? b=some o:=λb o d q=>
   have ⟨e1,e2,M,L⟩:=e_ d
   A b o e1 e2 M L q
  have un:Un (Zk Y.stack) [z,TI,TO,m,l] H (bb H s.heap.objs.size<|.tup [y1,x]) s.heap h9:=by
   refine⟨λb o q n d f=>r b o f q,λb o q n d f=>⟨o.slots,r b o f q⟩,λb o q n f=>by rw[aW<|J b o q];exact n,λb o q f=>⟨o,r b o f q⟩,λb C q=>by rw[aW<|nT b _ q];exact q,λb o g q=>by rw[aW<|nT b _ q];exact q,λb ps q=>⟨#[],by rw[aW<|nT b _ q,Array.append_empty];exact q⟩⟩
  have Ta:Df Y.prog Y.w (bb H s.heap.objs.size<|.tup [y1,x]) h9:=λb g q=>by
   by_cases d:b=s.heap.objs.size
   .subst d;rw[bK]at q;cases q;exact⟨show 2<=sizeLine by decide,[v,u],.cons (ru1 _ _ qu hPv)<|.cons ru .nil,_,ju,rfl,_,rfl⟩
   .rw[aW d]at q;refine(I.Ta b g q).Ye (λc v Qh j=>?_) (λc j=>by rw[aW<|nT c _ j];exact j) λc C j=>by rw[aW<|nT c _ j];exact j
    have:∃O,H c=some O:=by
     rcases Qh with z|z
     .exact⟨g,by rw[z];exact q⟩
     .exact⟨_,z⟩
    obtain⟨O,Ui⟩:=this;exact r c v (nx c _ Ui) j
  have I2:Ba Y T σ _ {s with heap:=h9,toks:=tk}:=I.call un Ta I.bare λb d=>by
   have t:=K b d;exact⟨t.2.2.2.1,t.2.1,t.2.2.2.2.1,t.2.2.2.2.2⟩
  have P:∀b o,b≠z->B.get? b=some o->h9.get? b=some o:=λb o e q=>(sb.2 b e).trans q
  refine⟨.ref s.heap.objs.size,_,I2,rfl,⟨_,y1,x,rfl,hT,λC Q=>by rw[uq C Q];exact qu,rfl,λC Q=>by rw[<-G]at Q;rw[I.fg Q F];exact f⟩,⟨hz9,P _ _ D.TIz<|hk _ _ D.TIz D.TITO D.TIi1 D.TIi2 V,⟨_,_,P _ _ D.TOz a2⟩,Z.keep _ _ _ (sk _ _ a3) λo y=>P _ o D.i1z y,a4.at λo y=>P _ o D.i2z y⟩,λb d=>?_⟩
  obtain⟨o,q,_⟩:=ob b d;rw[aW<|J b o q];exact S b d
 done:=by
  intro Y hP hw G hc i T s σ H E I K st hg;refine Uc λhG=>?_
  obtain⟨w,V,⟨u0,v0,Ng⟩,h1,h2⟩:=st;obtain⟨U,xs,HA,F,f⟩:=hg;have R:=I.ok.hd hc;obtain⟨Pv,Su,Dr,JV,sk,_,en,_⟩:=Z.dr Y hP hw G R i T s σ H U I HA h1;rw[<-G]at F;obtain⟨its,rv,p,_⟩:=I.list F;have N:s.TypeIs (.ref z) "zip":=⟨_,w,rfl⟩;have hl:=rv.length;refine hG<|xa<|Bo (Mm N rp
   (Ki rp N SG
    (UN Dr R D w (UC w) V Ng JV h2 p.isList (by
     by_cases hi:U.length<=i
     .exact .inl (en hi)
     .exact .inr ⟨by lia,by simp;lia⟩) λB e tk hk he=>?_) (UQ _)))
  obtain⟨o,ho,Ep⟩:=he;refine xa<|Aw ⟨o,ho,Ep⟩ vz ?_;refine Ma ⟨rfl,?_⟩;have S:=λb d=>(K b d).1
  have r:∀b o,b∉[z,TI,TO,m,l]->s.heap.get? b=some o->B.get? b=some o:=λb o d q=>
   have ⟨e1,e2,M,L⟩:=e_ d
   hk b o e1 e2 M L q
  have un:Un (Zk Y.stack) [z,TI,TO,m,l] H H s.heap B:=
   ⟨λb o q n d f=>r b o f q,λb o q n d f=>⟨o.slots,r b o f q⟩,λb o q n f=>n,λb o q f=>⟨o,r b o f q⟩,λb C q=>q,λb o g q=>q,λb ps q=>⟨#[],by exact q⟩⟩
  have Ta:Df Y.prog Y.w H B:=λb g q=>by
   refine(I.Ta b g q).Ye (λc v Qh j=>?_) (λc j=>j) λc C j=>j
   have:∃O,H c=some O:=by
    rcases Qh with z|z
    .exact⟨g,by rw[z];exact q⟩
    .exact⟨_,z⟩
   obtain⟨O,Ui⟩:=this;exact r c v (λd=>bD Ui (S c d) rfl) j
  exact I.call un Ta I.bare λb d=>by
   have t:=K b d;exact⟨t.2.2.2.1,t.2.1,t.2.2.2.2.1,t.2.2.2.2.2⟩
 self:=λ_ _ _ _ _ st h=>wpAny_pyIter_zip st.1 h
def IG(a ds:dL):dL:=List.zipWith (λc e=>.tup [c,e]) a ds
section
variable{X:Cx}{B:bv}{a b:Expr}{f g:Ex}{pos:Pos}
theorem bPz{K:Frag} {m:dL} {l:Addr} (hs:∀k f,Le A H k f->src f us) (n:bJ K (hide (A++B) H) m us) (w:Qc K (hide (A++B) H) l vs) (r:bJ K (hide (A++B) H) ds vs):Mq K B A H (FJ K src l) (IG m ds):=by
 intro k f b h i;have j:=(aX _ _).seq<|(Le.app b).seq w;have g:=hs k f b;refine⟨λd hd=>?_,λhl=>⟨us,vs,g,j,?_⟩⟩
 .obtain⟨c,e,D,C,rfl⟩:=List.getElem?_zipWith_eq_some.mp hd;obtain⟨u,p,t⟩:=n.get D;obtain⟨v,o,s⟩:=r.get C;refine⟨⟨us,u,vs,v,g,p,j,o⟩,λx I y=>?_⟩
  obtain⟨T,G,F,rfl,q,E,rfl,z⟩:=y;have a:=z vs j;rw[o]at a;cases a;have a:=E us g;rw[p]at a;cases a;exact⟨bN q,sY h q<|.cons (t.mono<|Le.app b)<|.cons (s.mono<|Le.app b) .nil⟩
 unfold IG at hl;rw[List.length_zipWith]at hl;rw[r.length,n.length];lia
def f_(X:Cx)(B:bv)(d:D)(g:dL):Prop:=∀{aa s σ H A v u},Ba X aa σ H s->Bb X.K (hide (A++B) H) d v->L2.RelV v u->∃o e St a c,PQ u o s/\o.isFreed=false/\(∀b∈e,b<=s.heap.objs.size)/\Sr X s.heap.objs.size e St a/\(∀h:Heap,h.get? s.heap.objs.size=some o->St 0 h)/\bJ X.K (hide (A++B) H) g c/\∀i f,Le A H i f->a f c
def bL5{x1}{p:Pos}(r:∀st ds,it st=.ok ds->∃x h i,f st=.ok x/\g st=.ok (.lst i)/\f_ X B x h/\ds=IG h i)(O:X.mg "zip"=none)(S:PE X a (tI X.K B f))(d:PE X b (tI X.K B g))(Q:Gl X "zip")(hs:starEach [a,b] X.env=(false,eval a X.env)::starEach [b] X.env)(E:starEach [b] X.env=[(false,eval b X.env)]):L2.PI X (.Tuple wg x1 tp) (.Call (.Name "zip" p) [a,b] [] pos) (Jk X.K B it):=by
 intro aa s σ H Rq I Qi;refine Uc λT=>?_
 obtain⟨A,st,ds,z,R,q⟩:=Qi;obtain⟨x,h,i,N,M,U,rfl⟩:=r st ds R;refine T ?_
 refine Call_<|uV I Q O boot_zip<|Tq (Vb ((cN S (cN d fD E) hs) pos aa s σ H (λt H1=>∃v w,t=[v,w]/\bG H H1/\Bb X.K (hide _ H1) _ v/\Bb X.K (hide _ H1) _ w) I ⟨A,st,_,z,N,λv H1 s1 r1=>⟨A,st,_,z.mono s1,M,λw H2 y K=>⟨v,w,rfl,s1.trans y,r1.mono<|bG.hide y,K⟩⟩⟩) λus s1 ⟨t,H1,I1,r1,v,w,hv,sm,rv,Jg⟩=>?_) hs<|by rw[E];rfl
 subst hv;obtain⟨k,j,rfl,n,c⟩:∃k j,us=[k,j]/\L2.RelV v k/\L2.RelV w j:=by
  cases r1 with
  |cons n c=>
   cases c with
   |cons c J=>
    cases J;exact⟨_,_,rfl,n,c⟩
 obtain⟨l,ts,rfl,D,G⟩:=fX.mp Jg;subst c;obtain⟨L,OI,C,hz⟩:=I1.list<|(aX _ _).seq D;obtain⟨o,fp,St,m,F,f1,f2,f3,Z,Y,W,V⟩:=U I1 rv n;refine X0 f1 f2 C.isList λh' u Fg Ng ai Hh lg P=>wpAny_pyIter_zip u ⟨s1.heap.objs.size+4,[s1.heap.objs.size+4,s1.heap.objs.size+2,s1.heap.objs.size+3,s1.heap.objs.size,s1.heap.objs.size+1],_,FJ X.K m l,H1,rfl,I1.kept P,bH7 l _ _ _ s1.heap.objs.size _ Z<|GZ (by
  obtain⟨o,e,_⟩:=C.isList;exact uc e) f3,⟨u,Fg,⟨_,_,Ng⟩,Y _ ai,Hh⟩,λb d=>?_,q _ H1 sm<|bPz V W D G⟩
 simp at d;rcases d with rfl|rfl|rfl|rfl|rfl<;>exact I1.Eh (by simp)<|I1.Ta.fresh<|by simp
theorem S6:∀(z:ac)(ds:dL),oo z ds=IG (z.map λc=>.str [c]) ds
 |[],ds=>rfl
 |c::z,[]=>rfl
 |c::z,d::ds=>congrArg _<|S6 z ds
theorem HZ{K:Frag}{H:Hp}:∀z:ac,bJ K H (z.map λc=>.str [c]) (z.map λc=>V.str ⟨#[c]⟩)
 |[]=>.nil
 |_::z=>.cons (dX.mpr rfl)<|HZ z
def bQ0(z:ac):f_ X B (.str z) (z.map λc=>.str [c]):=by
 intro m s σ H A v u I r e;have l:=dX.mp r;subst l;obtain⟨t,rfl⟩:=(e);refine⟨{cls:=.type<|strIterType ⟨z.toArray⟩,data:=.fields #[.str ⟨z.toArray⟩ t,.int 0 0]},[s.heap.objs.size],λi h=>h.IsStrIter s.heap.objs.size (strIterType ⟨z.toArray⟩) ⟨z.toArray⟩ t i,λ_ L=>L=z.map λc=>V.str ⟨#[c]⟩,_,λa w A E Q q=>wpAny_pyIter_strU q,rfl,λb g=>by rw[Hd.mp g];exact Pb _,⟨λi h ⟨o,q,c,d⟩=>⟨o,q,λv z=>by rw[d]at z;cases z⟩,λi h F ⟨o,q,r⟩ k=>⟨o,k o q,r⟩,λY C x D hh i m p σ H n I hq st=>?_⟩,λh q=>⟨_,q,rfl,rfl⟩,HZ z,λ_ _ _=>rfl⟩
 subst hq;rw[Rb];refine⟨_,_,bCg (A:=Y.A.in1) hh _ ⟨z.toArray⟩ t<|WX _,st,λ_ _ h=>h,λy v h1 ⟨c,w,h2,h3⟩=>?_,λf s Q E st j=>bL3 (A:=Y.A.in1) hh (WX _) st (by simpa using f) j,λ_ h=>h⟩
 rw[rh]at h1;rw[zw]at h2;rw[h2]at h1;cases h1;exact⟨w,h3⟩
def I8{x1}{p:Pos}(h:X.mg "zip"=none)(k:PE X a (tI X.K B f))(j:PE X b (tI X.K B g))(i:Gl X "zip":=by rfl)(hs:starEach [a,b] X.env=(false,eval a X.env)::starEach [b] X.env:=by rfl)(m:starEach [b] X.env=[(false,eval b X.env)]:=by rfl):L2.PI X (.Tuple wg x1 tp) (.Call (.Name "zip" p) [a,b] [] pos) (Jk X.K B<|iF f g):=by
 refine bL5 (λst ds hd=>?_) h k j i hs m
 obtain⟨x,e,l⟩:=R.qa hd;obtain⟨y,d,c⟩:=R.qa l;split at c
 rotate_left
 .cases c
 cases c;exact⟨_,_,_,e,d,bQ0 _,S6 _ _⟩
end
section
variable {a b:Expr} {q:Pos}
def bQ1{f:TA}(i:X.mg "range"=none)(l:PA X [a] f)(k:Gl X "range":=by rfl)(hs:starEach [a] X.env=[(false,eval a X.env)]:=by rfl) :
  PE X (.Call (.Name "range" p1) [a] [] q) (λc H Q=>f c H λvs d=>∃j:Int,vs=[.int j]/\∀r,d r=none->Q (.ref r) (bb d r<|.Yp 0 j)):=by
 intro m s c H Q I h;refine Call_<|uV I k i boot_range<|Tq (Vb (l q m s c H _ I h) λn s1 ⟨vs,d,I1,r1,j,e,qq⟩=>?_) hs rfl
 subst e;cases r1 with
 |cons r g=>
  cases g;obtain⟨t,rfl⟩:=r;exact call_range_1 ⟨.ref s1.heap.objs.size,_,I1.laid (o:=.Yp 0 j) (λb o e=>Xb _ e) (Pb _) ⟨_,_,_,de _ rfl⟩,rfl,qq _<|I1.Ta.fresh<|Pb _⟩
theorem Ŋ(C:X.calm=true):mF X (.type "list") (λvs H Q=>∃r,∃j:Int,vs=[.ref r]/\H r=some (.Yp 0 j)/\-10000000<=j/\j<=10000000/\∀n,H n=none->Q (.ref n) (bb H n<|.lst<|(List.range j.toNat).map λ(k:Nat)=>V.int (k:Int))):=by
 intro N s σ H vs G Q I r h;obtain⟨l,j,rfl,A,L,K,q⟩:=h;obtain⟨u,rfl,i⟩:=r.one;obtain rfl:u=Value.ref l:=i;obtain⟨t,u,v,x⟩:=((I.Ta l _ A));have z:Builtin.Range.rangeSize 0 j 1=j.toNat:=by rw[rangeSize_one];split<;>lia
 refine call_list_range (I.ok.hd C) x (small_one (by lia) (by lia) (by lia)<|by lia) z (by lia) λM J m F c p B=>⟨.ref s.heap.objs.size,_,I.laid (o:=.lst _) c (Pb _) ⟨?_,m.toList,F,?_,by simpa using p⟩,rfl,q _<|I.Ta.fresh<|Nat.le_refl _⟩
 .rw[Rb,nk,fm];lia
 obtain⟨E,D⟩:=B;have d:∀(n:Nat)(xs:cr),xs.length=n->(∀(k:Nat) w,xs[k]?=some w->∃t,w=.int (0+k*1) t)->Ha ((List.range n).map λ(k:Nat)=>V.int k) xs:=by
  intro n
  induction n with
  |zero=>intro xs b _;rw[Lm.mp b];exact .nil
  |succ n o=>
   intro xs b g;obtain⟨a,y,rfl⟩:∃a y,xs=a++[y]:=by
    rcases R_ xs with e|⟨a,y,e⟩
    .rw[e]at b;simp at b
    exact⟨a,y,by rw[e,S_]⟩
   have f:=by simpa using b
   rw[VR,Hg];refine(o a f λk w c=>?_).append (.cons ?_ .nil)
   .exact g k w (by rwa [ik (Ee.mp c).1])
   obtain⟨t,e⟩:=g n y (by rw[ow (by lia),f];simp)
   exact⟨t,by rw[e];simp⟩
 exact d _ _ (by simpa using E) λk w c=>by
  obtain⟨t,e⟩:=D k w (by simpa using c)
  exact⟨t,e⟩
def aX1{K:Frag} (n:Nat):bJ K H (oJ 0 n) ((List.range n).map λ(k:Nat)=>V.int (k:Int)):=by
 unfold oJ;generalize List.range n=l
 induction l with
 |nil=>exact .nil
 |cons x l a=>exact .cons (bO.mpr<|by rw[Int.zero_add]) a
theorem W3(m:X.mg "list"=none)(b:X.mg "range"=none)(s:X.calm=true)(t:PE X a (tP X.K B f))(o:Gl X "list":=by rfl)(i:Gl X "range":=by rfl)(hs:sf a [] X.env:=by rfl)(w:starEach [Expr.Call (.Name "range" p1) [a] [] q] X.env=(false,eval (.Call (.Name "range" p1) [a] [] q) X.env)::starEach [] X.env:=by rfl) :
  PE X (.Call (.Name "list" p0) [.Call (.Name "range" p1) [a] [] q] [] pos) (tI X.K B<|e1 Px f):=by
 refine cF (oR (Ŋ s) o m rfl<|cN (bQ1 b (cN t fD hs) i hs) fD w) ?_
 rintro σ H Q ⟨A,st,d,e,p,k⟩;obtain⟨x,l,h⟩:=R.qa p;refine⟨A,st,x,e,l,λv y s1 r1=>?_⟩
 cases x<;>first|(cases h)|skip
 rename_i j;obtain⟨c,u⟩:=aM h;cases u;rw[lB]at c;exact⟨j,by rw[r1.int],λr b=>⟨r,j,rfl,bK,by lia,by lia,λn g=>k _ _ (s1.trans<|(bN b).trans<|bN g)<|fB (e.own.mono<|s1.trans<|bN (o:=.Yp 0 j) b) g<|aX1 _⟩⟩
theorem bL6(i:Nat) (j:PE X a (tI X.K B g)) (s:PE X b (tI X.K B f)) (D:X.N.Nodup) (w:X.N[i]?=some x:=by rfl) (q:Loc X.env.scope x:=by exact Dl rfl) (hs:aj (.Dict [some a] [b] dp) (some<|.Name x pos') pos.line X.env:=by rfl)
  (y:sj X x:=by first|exact .inl rfl|exact .inr rfl|assumption):PS X (.Assign [.Name x pos'] (.Dict [some a] [b] dp) pos) (tS X.K B<|EO i g f):=kW (nq D w q (bIs (N1 j s P4) rfl rfl (by simp)<|show 1<=15 by lia) hs y) (by
 rintro P σ H ⟨A,st,r,h,t,p⟩;obtain⟨k,j,I⟩:=R.qa t;obtain⟨d,C,F⟩:=R.qa I;obtain⟨⟨N,M⟩,E⟩:=aM F;cases E;intro a l;refine⟨A,st,k,h.mono<|bN l,j,λu O s1 r1=>⟨A,st,d,(h.mono<|bN l).mono s1,C,λv H2 s2 r2=>?_⟩⟩
 obtain⟨c,K,J⟩:∃c:Key,pC c=k/\u=kV c:=by
  cases k<;>first|(cases N;done)|skip
  .exact⟨.inl _,rfl,bO.mp r1⟩
  refine⟨.inr ⟨_⟩,?_,dX.mp r1⟩;simp[pC]
 refine⟨(s2 _ _<|s1 _ _ bK),[(c,v)],by rw[J];rfl,(show 1<=15 by lia),?_⟩
 let G:=λb=>if b=a then none else H2 b
 have m:bG H G:=λb o z=>by
  have e:=bD z l;show (if b=a then none else H2 b)=_
  rw[Pa e];exact s2 _ _<|s1 _ _<|by rwa [aW e]
 have n:G a=none:=jb rfl;have L:bb H2 a (.dK<|ky [] [(c,v)])=bb G a (.dK [(c,v)]):=by
  funext b
  by_cases e:b=a
  .subst e;rw[bK,bK];rfl
  rw[aW e,aW e];exact(Pa e).symm
 rw[L];exact p _ _ _ ((Le.of m).trans<|Bv n)<|(h.mono m).Nn i n (.inl ⟨rfl,[(c,v)],rfl,by rw[<-K];rfl,rfl⟩)<|.cons ((DD M r2).mono TN) .nil)
end
def bitAnd_nn{i j:Int}(b:0<=i)(a:0<=j):Builtin.bitAnd i j=((i.toNat&&&j.toNat:Nat):Int):=by
 unfold Builtin.bitAnd;rw[Jd b,Jd a]
theorem bH9{i j:Int}(b:0<=i)(a:0<=j):Builtin.bitOr i j=((i.toNat|||j.toNat:Nat):Int):=by
 unfold Builtin.bitOr Builtin.bitAnd;rw[pe (by unfold Builtin.bitNot;lia),pe (by unfold Builtin.bitNot;lia)]
 have e1:Builtin.bitNot (Builtin.bitNot i)=i:=by unfold Builtin.bitNot;lia
 have e2:Builtin.bitNot (Builtin.bitNot j)=j:=by unfold Builtin.bitNot;lia
 unfold Builtin.bitNot;lia
section
variable {a b o:Expr}
def Ky(i:PE X a (tP X.K B f))(h:PE X b (tP X.K B g)):PE X (.BinOp a .LShift b pos) (tI X.K B<|e2 Ol f g):=
 Km bNy (yy (λ_ _ _=>bO.mpr rfl) λx y d e=>by
  unfold Ol at e;split at e
  .obtain⟨c,e⟩:=aM e;cases e;exact⟨_,_,rfl,rfl,c,rfl⟩
  cases e) i h
def OF(i:PE X a (tP X.K B f))(h:PE X b (tP X.K B g)):PE X (.BinOp a .RShift b pos) (tI X.K B<|e2 Nk f g):=
 Km bNz (yy (λ_ _ _=>bO.mpr rfl) λx y d e=>by
  unfold Nk at e;split at e
  .obtain⟨c,e⟩:=aM e;cases e;exact⟨_,_,rfl,rfl,c,rfl⟩
  cases e) i h
def js(i:PE X a (tP X.K B f))(h:PE X b (tP X.K B g)):PE X (.BinOp a .BitAnd b pos) (tI X.K B<|e2 Ei f g):=
 Km bO0 (zV (λ_ _ _=>bO.mpr rfl) λx y d e=>by
  unfold Ei at e;split at e
  .obtain⟨c,e⟩:=aM e;cases e;exact⟨_,_,rfl,rfl,by rw[bitAnd_nn c.1 c.2]⟩
  cases e) i h
def Vv(i:PE X a (tP X.K B f))(h:PE X b (tP X.K B g)):PE X (.BinOp a .BitOr b pos) (tI X.K B<|e2 Qm f g):=
 Km bRn (zV (λ_ _ _=>bO.mpr rfl) λx y d e=>by
  unfold Qm at e;split at e
  .obtain⟨c,e⟩:=aM e;cases e;exact⟨_,_,rfl,rfl,by rw[bH9 c.1 c.2]⟩
  cases e) i h
theorem IZ{K:Frag}{H:Hp}:∀{l:lv}{vs:o0},bJ K H (l.map D.int) vs->vs=l.map V.int
 |[],vs,h=>cZ.mp h
 |i::l,vs,h=>by
  obtain⟨v,r,rfl,b,a⟩:=bR.mp h;rw[bO.mp b,IZ a];rfl
theorem Yc:∀{l:lv}{a:cr},Ha (l.map V.int) a->∀(j:Nat)(h:j<a.length),∃i t,l[j]?=some i/\a[j]=.int i t
 |[],a,r,j,h=>by cases r;simp at h
 |i::l,a,r,j,h=>by
  cases r with
  |cons d c=>
   obtain⟨t,rfl⟩:=d;cases j with
   |zero=>exact⟨i,t,rfl,rfl⟩
   |succ j=>
    obtain⟨e,b,g,f⟩:=Yc c j _;exact⟨e,b,by simpa using g,by simpa using f⟩
theorem bCh:Ll X "list.index" (λx vs H Q=>∃(p:Addr)(l:lv)(k:Int)(n:Nat),x=V.ref p/\vs=[.int k]/\Qc X.K H p (l.map V.int)/\l.findIdx? (λi=>i==k)=some n/\l.length<=10000000/\Q (.int (n:Int)) H):=by
 intro R s σ H x vs v N Q I o r h;refine Uc λE=>?_
 obtain⟨p,l,k,n,rfl,rfl,A,B,P,q⟩:=h;obtain⟨u,rfl,w⟩:=r.one;obtain⟨t,rfl⟩:=(w);subst o;obtain⟨a,b,⟨⟨L,K,e,j⟩,z,d,D,_,C⟩,O⟩:=I.list A;have M:=b.length;rw[Rb]at M;obtain⟨J,G,F⟩:=SQ.mp B;subst D C;have f:n<a.length:=by omega
 refine E ?_
 refine Eo QG ⟨_,d,rfl⟩ y_ (v_ _ _) (z_ p a.toArray z K j _ (λy=>match y with|.int i _=>i==k|_=>false) n (by simpa using f) (by lia) ?_ λm hm sT=>?_) ⟨d,λy hy=>?_,?_⟩
 .obtain⟨i,c,e1,e2⟩:=Yc b n f;rw[JH,e2];rw[Kc J]at e1;cases e1;exact G
 .have g:=by simpa using hm
  obtain⟨i,c,e1,e2⟩:=Yc b m g;rw[JH,e2];rw[Kc (by lia)]at e1
  cases e1;simpa using (F m sT)
 .obtain⟨m,hm,rfl⟩:=Vs.mp ((by simpa using hy))
  obtain⟨i,c,e1,e2⟩:=Yc b m hm;rw[e2];exact(PySem.MeetsSeq.EqGives.int i k c t).at _ _
 exact⟨.int n,H,I.tok _,⟨_,rfl⟩,q⟩
def bHa{r:De}(t:PE X o (tP X.K B f))(C:PA X [e] (tA X.K B r))(m:Pg o "index" X.env:=by rfl)
  (K:tm Ia [e] X.env:=by rfl)
  (i:Jh Ra Ia:=by rfl) (hs:sf e [] X.env:=by rfl) :
  PE X (.Call (.Attribute o "index" Ra) [e] [] Ia) (tI X.K B<|Ni kF f r):=by
 refine cF (Gv qw QG F_ bCh t C m K i hs rfl) ?_
 rintro σ H Q ⟨A,st,d,b,z,k⟩;obtain⟨x,s,G⟩:=R.qa z;obtain⟨xs,h,a⟩:=R.qa G;unfold kF at a;split at a
 .rename_i M j;obtain⟨l,y,F⟩:=R.qa a;obtain⟨n,u,E⟩:=R.qa F;obtain⟨c,D⟩:=aM E;cases D;have I:=WC y;subst I;refine⟨A,st,_,b,s,λv P s1 r1=>?_⟩
  obtain⟨p,O,e1,g,q⟩:=r1.lst;have J:=IZ q;subst J;refine⟨by rw[e1];exact .inl ⟨rfl,_,g⟩,A,st,_,b.mono s1,h,λN H2 s2 r2=>?_⟩
  obtain⟨w,rfl,L⟩:=Uv r2;rw[lB,Rb]at c;exact⟨p,l,j,n,e1,by rw[bO.mp L],s2.seq g,zW u,c,k _ H2 (s1.trans s2)<|bO.mpr rfl⟩
 cases a
def bL7:Ll X "int.bit_length" (λx vs H Q=>∃i:Int,x=.int i/\vs=[]/\Q (.int ((Builtin.Int.intBits i:Nat):Int)) H):=by
 intro e s σ H x vs v d Q I b c h;obtain⟨i,rfl,rfl,q⟩:=h;obtain⟨t,rfl⟩:=(b);have a:=c.zero;subst a;exact call_int_bit_length ⟨.int _,H,I.tok _,⟨_,rfl⟩,q⟩
def bL8(i:Int):Builtin.Int.intBits i=Cm i:=by
 unfold Builtin.Int.intBits Cm
 by_cases h:i=0
 .rw[jb h,jb (by rw[h];rfl)]
 rw[Pa h,Pa (by simpa using h)]
def bQ2(i:PE X o (tP X.K B f))(e:Pg o "bit_length" X.env:=by rfl)(c:Jh Ra Ia:=by rfl) :
  PE X (.Call (.Attribute o "bit_length" Ra) [] [] Ia) (tI X.K B<|e1 HD f):=by
 refine cF (qv PySem.F.plainAttrs_int PySem.F.slot_int_bit_length PySem.F.type_int_bit_length bL7 i e c) ?_
 rintro σ H Q ⟨A,st,d,g,j,k⟩;obtain⟨x,h,b⟩:=R.qa j;cases x<;>first|(cases b;done)|skip
 cases b;refine⟨A,st,_,g,h,λv H1 s1 a=>⟨by rw[a.int];rfl,_,a.int,rfl,?_⟩⟩
 rw[bL8];exact k _ H1 s1<|bO.mpr rfl
end
section
open PySem.SeqAt
open PySem.AutoSeq1 (wpAny_loadPart')
open PySem.MeetsSeq PySem.MeetsSeq2 PySem.MeetsSeq3
inductive Kk (A:Around) (s:Shared):List Value->List Value->Bool->Prop where
 |nn:Kk A s [] [] true
 |nc {w:Value} {ws:cr}:Kk A s [] (w::ws) true
 |cn {v:Value} {vs:cr}:Kk A s (v::vs) [] false
 |eq {v w:Value} {vs ws:cr} {b:Bool}:EqAt A s v w true->Kk A s vs ws b->Kk A s (v::vs) (w::ws) b
 |lt {v w:Value} {vs ws:cr} {b:Bool}:EqAt A s v w false->(∀(prog:Program)(wd:World)(E Q:be),Q (.bool b) s->wpAny (model prog wd) A (richCompare .LtE v w) Q E s)->Kk A s (v::vs) (w::ws) b
end
def J8{k:Key} (h:Bs k u=true):L2.RelV (kV k) u:=by
 rcases gH h with ⟨i,t,rfl,rfl⟩|⟨x,t,rfl,rfl⟩
 .exact⟨t,rfl⟩
 exact⟨t,rfl⟩
section
variable {a:Expr}
def UE{vs:Ev}(r:KV ua vs):vs.length=ua.length:=by
 induction r with
 |nil=>rfl
 |cons _ _ a=>simp[a]
end
end Pu
namespace Pu
section
open PySem PySem.Spec PyProof.Rows L2
variable {a b:Expr}
def fy{K:Frag}:Gi K (Tj λi j=>.bl<|decide (i<j)) qo:=zV (λ_ _ _=>dW.mpr rfl) λx y d e=>by
 unfold qo at e;split at e
 .cases e;exact⟨_,_,rfl,rfl,rfl⟩
 cases e
def bHc{i j:Int}(c:(-18446744073709551616<i/\i<18446744073709551616)\/(-18446744073709551616<j/\j<18446744073709551616)):Ks i j:=by
 unfold Ks;omega
def To(k:PE X a (tP X.K B f))(j:PE X b (tP X.K B g)):PE X (.BinOp a .Mult b pos) (tI X.K B<|e2 uC f g):=by
 refine Km B7 ?_ k j;intro A H x y d v u Q w i h e q;unfold uC at e;split at e
 .obtain⟨c,e⟩:=aM e;cases e;exact⟨_,_,i.int,h.int,bHc c,q _ H (bG.refl _)<|bO.mpr rfl⟩
 cases e
end
end Pu
namespace Pu
open PySem PySem.Spec PyProof.Rows L2
def g_{K:Frag} {p:Addr} (s1:bG H H1) (e:H1 p=none) (c:bG H1 H') (d:H' p=some (.lst vs)) (r:bJ K (hide (A++p::B) H') ds vs):∃G,bG H G/\G p=none/\bb G p (.lst vs)=H'/\bJ K (hide (A++B) G) ds vs:=by
 let G:=λb=>if b=p then none else H' b
 refine⟨G,λb o z=>?_,(jb rfl),?_,r.mono λb o z=>?_⟩
 .show (if b=p then none else H' b)=_
  rw[Pa<|bD (s1 _ _ z) e];exact c _ _<|s1 _ _ z
 .funext b
  by_cases a:b=p
  .subst a;rw[bK,d]
  rw[aW a];exact Pa a
 have a:b∉A++p::B:=λw=>by rw[dC w]at z;cases z
 have f:=aX _ _ _ _ z;rw[bF λw=>a<|mem_mid.mpr<|.inr w]
 show (if b=p then none else H' b)=_
 rwa [Pa λw=>a<|mem_mid.mpr<|.inl w]
section
variable {iter:Expr} {t:Tg} {h:Ex} {rest:List Stmt}
def bQ3{is:ac}(w:L2.PI X tg iter (Jk X.K B it))(y:∀(B:bv)(C:Addr)(c:Shared)(b:Hp)(a:bv),PG (eX X scope C c b a) tg<|tG X.K B t)
  (he:∀(B:bv)(C:Addr)(c:Shared)(b:Hp)(a:bv),PE (eX X scope C c b a) elt<|tI X.K B f) (D:X.calm=true:=by rfl) (hsub:Xo is t:=by exact Sv) (S:yc X scope is:=by exact .of rfl) (hs:∀x,foldedSetIterable iter X.env x=pure x:=by intro _;rfl) :
  PE X (.ListComp elt [⟨tg,iter,[],0⟩] scope pos) (tF X.K B<|cJ is t it cV f):=by
 intro i s σ H Q I h;refine Uc λE=>?_
 obtain⟨A,st,d,g,z,q⟩:=h;obtain⟨xs,u,L⟩:=R.qa z;obtain⟨v,K⟩:=aM L;obtain⟨ys,o,J⟩:=R.qa K;cases J;refine E (uU (rest:=λe it p=>eval elt e >>= λx=>call _ [p,x] >>= λ_=>again<|.compLoop _ 0 it p e) S D w (λC c b a=>iw λB=>y B C c b a) (λ_ _ _=>qY)
  (λC c b a it p s Q h=>LQ h) (λC c b a it p τ H s i vs N Q I h q=>ZP rfl (gw λB=>he B C c b a) τ H s i vs N Q I h (λQ V m h=>zF Q V m h) q) hs I
  (Tv hsub (λτ H Q ⟨B,A,st,k,g,hk,q⟩=>?_) g u v o λp vs H1 H' s1 hp s2 hv r=>?_) λC p H5 s5 n s3 H3 a τ F Z U Y W j=>⟨n,W,λh' l=>⟨.ref p,H5,dy Z U F Y l,rfl,j⟩⟩)
 .obtain⟨G,T,P,O,M⟩:=g_ s1 hp s2 hv r;have:=q p vs G T P M
  rwa [O]at this
 cases hk;exact q H<|bG.refl _
end
def Dq(v d:Addr):HO:=.ext λh=>h.IsItemsView v d
section
variable {σ:List (Option V)}
def X3(I:Ba X aa σ H s)(k:∀b u,s.heap.get? b=some u->h'.get? b=some u)(c:bG H H')(g:∀b,b<s.heap.objs.size->H' b=H b)(d:∀a o,H a=none->H' a=some o->mQ X.prog X.w H' h' a o):Ba X aa σ H' {s with heap:=h',toks:=t'}:=by
 refine I.un ⟨λb u q _ _ _=>k b u q,λb u q _ _ _=>⟨u.slots,k b u q⟩,λb u q n _=>by rwa [g b<|uc q],λb u q _=>⟨u,k b u q⟩,λb xs q=>c _ _ q,λb u xs q=>c _ _ q,λb h q=>⟨#[],by rw[c _ _ q];simp⟩⟩ λa o e=>?_
 cases f:H a with
 |none=>exact d a o f e
 |some u=>
  have z:=c a u f;rw[e]at z;cases z;exact(I.Ta a _ f).Ye (λb v _ q=>k b v q) (λb q=>c _ _ q) λb xs q=>c _ _ q
def Y3:Ll X "dict.items" (λx vs H Q=>∃(d:Addr) (c:s0),x=.ref d/\vs=[]/\H d=some (.dK c)/\∀n,H n=none->Q (.ref n) (bb H n<|Dq n d)):=by
 intro A s σ H x vs v r Q I i j h;obtain⟨d,c,rfl,rfl,a,q⟩:=h;cases i;have g:=j.zero;subst g;obtain⟨w,l,xs,t,f⟩:=yq I.Ta a;refine yz VQ f.typeIs PySem.F.entry_dict_items (PySem.F.args_dict_items_1 _) (meets_dict_items _ d l) ⟨⟨xs,f⟩,?_⟩;have e:(s.heap.push {cls:=.type "dict_items",data:=.fields #[.ref d]}).get? s.heap.objs.size=some {cls:=.type "dict_items",data:=.fields #[.ref d]}:=de _ rfl;exact⟨.ref s.heap.objs.size,_,I.laid (o:=Dq s.heap.objs.size d) (λb u q=>Xb _ q) (Pb _) ⟨⟨_,e,rfl,rfl⟩,⟨_,e⟩,λz y ⟨o,m,p,a⟩ k=>⟨o,k o m,p,a⟩⟩,rfl,q _<|I.Ta.fresh<|Pb _⟩
theorem VE:∀{a:s0} {vs:Ev} {j:Nat} {k:Key} {x:Value},KV a vs->vs[j]?=some (k,x)->∃p,a[j]?=some p/\p.1=k/\RelV p.2 x
 |_,_,j,k,x,.nil,e=>by simp at e
 |_,_,0,k,x,.cons h _,e=>by
  simp at e;subst e;exact⟨_,rfl,h.1,h.2⟩
 |_,_,j+1,k,x,.cons _ t,e=>by
  obtain⟨p,e1,e2⟩:=VE t (by simpa using e)
  exact⟨p,by simpa using e1,e2⟩
theorem aX2(Y:X.calm=true):mF X (.type "list") (λvs H Q=>∃(v d:Addr) (g:s0),vs=[.ref v]/\H v=some (Dq v d)/\H d=some (.dK g)/\
  ∀(n:Addr)(ps:bv)(t:Hp),bG H t->t n=none->ps.length=g.length->(∀a∈ps,H a=none)->(∀(j:Nat)(a:Addr),ps[j]?=some a->∃p,g[j]?=some p/\t a=some (.tup [kV p.1,p.2]))->Q (.ref n) (bb t n<|.lst<|ps.map V.ref)):=by
 intro aa s σ H vs us Q I r h;obtain⟨v,d,g,rfl,T,W,q⟩:=h;obtain⟨u,rfl,O⟩:=r.one;obtain rfl:u=Value.ref v:=O;obtain⟨hz,hs,xs,A,hD⟩:=yq I.Ta W;have Ob:=UE A;obtain⟨ep,P⟩:=hD.dictAt;obtain⟨N,_,_⟩:=I.Ta v _ T;refine PySem.W.kdx_call (I.ok.hd Y) N P (by lia) λh' tk R c f U Z B l M=>?_
 have F:f.Nodup:=l.rise.imp Vd;have lo:=l.above;have y:=λa C=>I.Ta.fresh<|Co<|lo a C
 let G:=λb=>if b∈f then (g[f.idxOf b]?).map (λp=>.tup [kV p.1,p.2]) else H b
 have w:bG H G:=λb o e=>by
  show (if b∈f then _ else H b)=_
  rwa [Pa λz=>by rw[y b z]at e;cases e]
 have D:G s.heap.objs.size=none:=by
  show (if _∈f then _ else H _)=_
  rw[Pa λz=>uh _<|lo _ z]
  exact I.Ta.fresh<|Pb _
 have E:∀(j:Nat)(a:Addr),f[j]?=some a->∃p,g[j]?=some p/\G a=some (.tup [kV p.1,p.2]):=λj a e=>by
  obtain⟨i,k,x,e1,e2,e3⟩:=l.pairs j a e;obtain⟨p,K,e5,e6⟩:=VE A e1;refine⟨p,K,?_⟩;show (if a∈f then _ else H a)=_
  rw[jb<|jg e];obtain⟨m,ej⟩:=Ee.mp e;rw[<-ej,F.idxOf_getElem j m,K];rfl
 refine⟨.ref s.heap.objs.size,_,X3 I U (w.trans<|bN D) (λb hb=>?_)<|λa o C e=>?_,rfl,q _ f G w D (by rwa [B]) y E⟩
 .rw[aW<|Vd hb];show (if b∈f then _ else H b)=_
  rw[Pa λz=>uh _<|Yq hb<|lo _ z]
 by_cases hb:a=s.heap.objs.size
 .subst hb;rw[bK]at e;cases e;refine⟨by rw[Rb,B];lia,R.toList,c,?_,by simpa using Z⟩
  rw[M];clear M l F lo y E w D B G
  induction f with
  |nil=>exact .nil
  |cons a f S=>exact .cons rfl S
 rw[aW hb]at e;obtain⟨j,m⟩:=Ul.mp (by
  refine Uc λz=>?_
  have L:(if a∈f then (g[f.idxOf a]?).map _ else H a)=some o:=e
  rw[Pa z,C]at L;cases L)
 obtain⟨p,e1,e2⟩:=E j a m;obtain⟨i,k,x,f1,f2,f3⟩:=l.pairs j a m;obtain⟨p',J,g2,g3⟩:=VE A f1;rw[e1]at J;cases J;rw[e2]at e;cases e;refine⟨by show 2<=16777216;decide,[i,x],.cons ?_<|.cons g3 .nil,_,f3,?_⟩
 .rw[g2];exact J8 f2
 exact⟨rfl,_,rfl⟩
theorem JZ{K:Frag}{H:Hp}:∀(c:s0) (ds:dL) (ps:bv),bJ K H ds (c.map (·.2))->ps.length=c.length->(∀(j:Nat)(a:Addr),ps[j]?=some a->∃p,c[j]?=some p/\H a=some (.tup [kV p.1,p.2]))->bJ K H (List.zipWith (λk d=>.tup [k,d]) (c.map λp=>pC p.1) ds) (ps.map V.ref)
 |[],ds,ps,_,f,_=>by
  rw[Lm.mp f];exact .nil
 |p::c,[],ps,r,_,_=>by
  have:=r.length;simp at this
 |p::c,d::ds,[],_,f,_=>by simp at f
 |p::c,d::ds,a::ps,r,f,h=>by
  obtain⟨v,rest,e,m,l⟩:=bR.mp r;cases e;obtain⟨g,e1,e2⟩:=h 0 a rfl;cases e1;refine .cons (pX.mpr ⟨a,_,rfl,e2,.cons ?_<|.cons m .nil⟩)<|JZ c ds ps l (by simpa using f) λj b n=>?_
  .obtain⟨k,v⟩:=p;cases k with
   |inl i=>exact bO.mpr rfl
   |inr x=>exact dX.mpr (by simp[kV])
  obtain⟨g,e1,e2⟩:=h (j+1) b (by simpa using n)
  exact⟨g,by simpa using e1,e2⟩
end
section
variable{X:Cx}{B:bv}{a e:Expr}{es:List Expr}{f:Ex}{pos p0 Ra Ia:Pos}{sm:Stmt}{rest:List Stmt}{bd Fo:Bd}{r:De}
def bL9(w:X.mg "list"=none)(C:X.calm=true)(D:PE X a (tI X.K B f))(y:Gl X "list":=by rfl)(r:Pg a "items" X.env:=by rfl)(o:Jh Ra Ia:=by rfl)
  (hs:starEach [.Call (.Attribute a "items" Ra) [] [] Ia] X.env=(false,eval (.Call (.Attribute a "items" Ra) [] [] Ia) X.env)::starEach [] X.env:=by rfl):PE X (.Call (.Name "list" p0) [.Call (.Attribute a "items" Ra) [] [] Ia] [] pos) (tF X.K B<|e1 mE f):=by
 refine cF (oR (aX2 C) y w rfl<|cN (qv cz VQ G_ Y3 D r o) fD hs) ?_
 rintro σ H Q ⟨A,st,ds,k,z,q⟩;obtain⟨x,u,e⟩:=R.qa z;refine⟨A,st,x,k,u,λv I s1 r1=>?_⟩
 unfold mE at e;split at e
 .obtain⟨c,F⟩:=aM e;cases F;obtain⟨p,G,rfl,E,s⟩:=nY.mp r1;rcases E with ⟨_,d,h,rfl,rfl⟩|⟨h,_⟩
  .have g:=aX _ _ _ _ h;refine⟨.inr<|.inr<|.inl ⟨rfl,.inl ⟨d,g⟩⟩,p,d,rfl,rfl,g,λn hn=>⟨n,p,d,rfl,bK,by rwa [aW<|bD g hn],λm ps H' s2 xl hl hps hp=>?_⟩⟩
   have i:=(bN hn).trans s2;refine q m _ H' (s1.trans i) xl<|JZ d _ ps (s.mono<|bG.hide i) hl λj b l=>?_
   obtain⟨t,e1,e2⟩:=hp j b l;exact⟨t,e1,by rwa [bF<|(k.own.mono<|s1.trans<|bN hn).free<|hps b<|jg l]⟩
  cases h
 cases e
def K8(h:PE X e (tF X.K B f))(g:∀st d,f st=.ok d->∃xs,d=.lst xs):PE X e (tI X.K B f):=cF h (by
 rintro σ H Q ⟨A,st,d,a,c,q⟩;obtain⟨xs,rfl⟩:=g st d c;exact⟨A,st,xs,a,c,λp i j s b r=>q _ _ (s.trans<|bN b)<|fB (a.own.mono s) b r⟩)
def kx(K:Frag)(B:bv)(b:Bd)(f:Ex):TS:=λg σ H=>∃A st st' xs,RS K B A H st σ/\b st=.ok (.nx st')/\f st'=.ok (.lst xs)/\∀d a e c,Le A H d c->a∈d->c a=some (.lst e)->bJ K (hide (d++B) c) xs e->g.rt (.ref a) c
def gy(n:PS X sm (tS X.K B bd))(m:Dd X rest (kx X.K B Fo f)):Dd X (sm::rest) (kx X.K B (bA bd Fo) f):=rJ (Bx n m) (by
 rintro v σ H ⟨A,st,st',xs,h,k,j,q⟩;obtain⟨e,p,b⟩:=R.qa k;refine⟨A,st,e,h,p,?_⟩;cases e with
 |nx s1=>exact λs u t l c=>⟨s,s1,st',xs,c,b,j,λr a g o i=>q r a g o<|l.trans i⟩
 |rt d=>cases b
 |bk s1=>cases b
 |ct s1=>cases b)
def L8(he:PE X e (tF X.K B f)):Dd X [.Return (some e) pos] (kx X.K B dF f):=rJ (Kx<|iy he) (by
 rintro i σ H ⟨A,st,st',xs,c,g,d,q⟩;cases g;exact⟨A,st,xs,c,d,λp b h s a r=>q _ p b _ ((Le.of s).trans<|Bv a) qb bK<|r.mono<|BD a⟩)
end
section
variable{w:World}{K:Frag} {st:Stmt} {f:Addr} {k:Nat}
def QQ(F:Ja K x qual st dV f fd)(S:Pc N ps (bM st))(p n:Nat)(v:Bd)(g:Ex)(W:ps.length=p)(L:N.length=n)
  (i:∀(j:Value)(A:Around)(c:Ch)(s:Shared)(H:Hp)(E:XK)(B:bv),Kb k (A.deeper<|envOfC qual (bM st) s.heap.objs.size f j)->
   Dd (Hm Ab P w K mg base N qual (bM st) f j A c s H E).Ln (dH st) (kx K B v g)):Ca P w K mg base Ab (k+1) f fd ps (Ek K p<|cM p n<|sE v g):=by
 refine F.YU S (λC H Q E h=>?_)<|λj A c s H C Q E I h=>?_
 .obtain⟨A,ds,d,e,r,t,_⟩:=h;rw[r.length,t,W]
 obtain⟨B,ds,xs,e,r,t,J,q⟩:=h;refine⟨kx K B v g,i j A c s H E B I,?_⟩;obtain⟨_,T⟩:=aM J;obtain⟨Z,m,O⟩:=R.qa T;have y:=JM (N:=N) e r;rw[t,L]at y;unfold sE at m;split at m
 .rename_i s1 U;obtain⟨d,M,u⟩:=R.qa m;split at u
  .cases u;cases O;refine⟨[],_,s1,_,y,U,M,λA' a V X l ha G D=>q a V X (by
    unfold Le at l;exact l.trans<|aX _ _) ?_ G<|D.mono<|gP λb i=>?_⟩
   .cases Y:H a with
    |none=>rfl
    |some o=>
     have z:=l a o (by rwa [j3])
     rw[dC ha]at z;cases z
   rcases qc.mp i with rfl|i
   .exact Sf _ ha
   exact Ke _ i
  cases u
 cases m
def bCi(ds:dL)(d:D)(h:cM np n (sE bd g) ds=.ok d):∃xs,d=.lst xs:=by
 obtain⟨_,e⟩:=aM h;obtain⟨i,a,c⟩:=R.qa e;unfold sE at a;split at a
 .obtain⟨d,f,b⟩:=R.qa a;split at b
  .cases b;cases c;exact⟨_,rfl⟩
  cases b
 cases a
end
structure Gd(P:Program)(w:World)(K:Frag)(mg:im)(base:Heap)(x:Str)(k np:Nat)(p:ca):Prop where
 ex:∃(fa:Addr)(fd:FuncData)(ps:wp),Ca P w K mg base Ab k fa fd ps (Ek K np p)/\mg x=some (.ref fa)/\keepIn K (.ref fa)=true/\Binds K fd ps []
 len:∀ds d,p ds=.ok d->ds.length=np
 lst:∀ds d,p ds=.ok d->∃xs,d=.lst xs
def Gd.of{w:World}{K:Frag} {k:Nat} (h:Ca P w K mg base Ab k fa fd ps (Ek K np<|cM np n<|sE bd g)) (m:mg x=some (.ref fa))
  (a:keepIn K (.ref fa)=true) (b:Binds K fd ps []):Gd P w K mg base x k np (cM np n<|sE bd g):=⟨⟨fa,fd,ps,h,m,a,b⟩,vR,bCi⟩
def Gd.plain{w:World}{K:Frag} {k:Nat} (h:Gd P w K mg base x k np p):Ea P w K mg base x k np p:=by
 obtain⟨d,c,a,F,m,b,bd⟩:=h.ex;exact⟨⟨d,c,a,S0 h.lst F,m,b,bd⟩,h.len⟩
section
variable {r:De}
def T6{k:Nat} (h:Gd X.prog X.w X.K X.mg X.base x k np p) (o:Kb j X.A) (s:k<=j) (w:PA X (e::es) (tA X.K B r)) (t:Gl X x:=by rfl) (D:pf x:=by decide)
  (he:sf e es X.env:=by rfl) (rf:Zi pos es X.env:=by rfl):PE X (.Call (.Name x p0) (e::es) [] pos) (tF X.K B<|aO p r):=by
 obtain⟨J,I,G,F,m,l,bd⟩:=h.ex;refine cF (VM F (o.mono s) t m l bd .nil Hv w D he rf) ?_
 rintro σ H Q ⟨A,st,d,f,v,q⟩;obtain⟨xs,n,g⟩:=R.qa v;refine⟨A,st,xs,f,n,λE H1 s1 r1=>?_⟩
 show Ek X.K np p _ H1 Q E0;rw[Nh];refine⟨A++B,xs,d,f.own.mono s1,r1,h.len _ _ g,g,λa ws H' s' il hv rv=>?_⟩
 have C:bb (hide [a] H') a (.lst ws)=H':=by
  funext b
  by_cases c:b=a
  .subst c;rw[bK];exact hv.symm
  rw[aW c,bF (by simpa using c)]
 have z:=q a ws (hide [a] H') (λb u hz=>?_) (dC<|by simp) ?_
 .rwa [C]at z
 .have i:=s1 _ _ hz;rw[bF (by simpa using bD i il)]
  exact s' _ _ i
 refine rv.mono λb u hz=>?_
 have c:b∉a::(A++B):=λy=>by rw[dC y]at hz;cases hz
 rw[bF λy=>c<|Mb _ y,bF (by simpa using λy=>c<|by rw[y];exact qb)]
 exact aX _ _ _ _ hz
end
structure DA(K:Frag)(n:Str)(st:Stmt):Prop where
 ex:∃(f:Addr)(fd:FuncData),nsIn K mainGlobals n=some (some<|.ref f)/\Ja K n n st .none f fd
section
variable{P:Program}{w:World}{K:Frag}{h base:Heap}{mg:im}{n:Str}{st:Stmt}{f:Addr}{ps:wp}{k np m:Nat}{p:ca}{bd:Bd}{g:Ex}
def cR{b:pi}{kV:Value} (a:nsIn K mainGlobals n=some (some<|.ref f)) (l:K.lookup f=some ⟨oc,b,.func<|fnOf n n (eU st) (dH st) (bM st) .none kV doc pm an Zb ct,Ai⟩)
  (c:codeIn K Zb n=true) (k:keepIn K (.ref f)=true):DA K n st:=⟨⟨f,_,a,uO l c k⟩⟩
structure Ct(P:Program)(w:World)(K:Frag)(mg:im)(base h:Heap):Prop where
 X:K.In h
 G:h.Ns mainGlobals mg
def Bn(n:Str)(st:Stmt)(ps:wp):Prop:=∀(kV b c:Value)(e:pi)(f d:Value)(a:cr),a.length=ps.length->bindArgs (fnOf n n (eU st) (dH st) (bM st) .none kV b c e f d) ⟨a,[]⟩=pure (ps.zip a)
structure YI(n q:Str)(st:Stmt)(ps:wp):Prop where
 ok:∀(kV doc pm:Value)(an:pi)(Zb ct:Value)(us:cr),us.length=ps.length->bindArgs (fnOf n q (eU st) (dH st) (bM st) .none kV doc pm an Zb ct) ⟨us,[]⟩=pure (ps.zip us):=by intro _ _ _ _ _ _;first|exact N6 rfl|exact SN λ_=>rfl|exact O6 λ_ _=>rfl|exact fv λ_ _ _=>rfl|exact dE λ_ _ _ _=>rfl|exact fE λ_ _ _ _ _=>rfl|exact bL1 λ_ _ _ _ _ _=>rfl
def DA.FC(D:DA K n st)(C:Ct P w K mg base h)(b:Bn n st ps):∃(f:Addr)(c:FuncData),Ja K n n st .none f c/\mg n=some (.ref f)/\Binds K c ps []:=by
 obtain⟨f,c,a,F⟩:=D.ex;exact⟨f,c,F,mg_of C.X C.G a,F.Yh b⟩
theorem DA.ok(D:DA K n st)(C:Ct P w K mg base h)(r:∀{f:Addr}{c:FuncData},Ja K n n st .none f c->Ca P w K mg base Ab k f c ps (Tb K np<|cM np m bd))(b:YI n n st ps:=by exact {}):Ea P w K mg base n k np (cM np m bd):=by
 obtain⟨f,c,F,a,z⟩:=D.FC C b.ok;exact .of (r F) a F.kp z vR
def DA.XU(D:DA K n st)(C:Ct P w K mg base h)(r:∀{f:Addr}{c:FuncData},Ja K n n st .none f c->Ca P w K mg base Ab k f c ps (Ek K np<|cM np m<|sE bd g))(b:YI n n st ps:=by exact {}):Gd P w K mg base n k np (cM np m<|sE bd g):=by
 obtain⟨f,c,F,a,z⟩:=D.FC C b.ok;exact .of (r F) a F.kp z
structure MA(K:Frag)(C:Addr)(m:String)(n q:Str)(st:Stmt):Prop where
 ex:∃(f:Addr)(fd:FuncData),Meth K C (ofString m) f/\Ja K n q st .none f fd
def Ly{m:String}{q:Str}{b:pi}{kV:Value} (a:findIn K (.ref C) (ofString m)=some (some<|.ref f)) (e:isFn K (.ref f)=true) (l:K.lookup f=some ⟨oc,b,.func<|fnOf n q (eU st) (dH st) (bM st) .none kV doc pm an Zb ct,Ai⟩)
  (c:codeIn K Zb q=true) (k:keepIn K (.ref f)=true):MA K C m n q st:=⟨⟨f,_,⟨a,e,k⟩,uO l c k⟩⟩
theorem MA.ok{C:Addr}{c m:String}{q:Str}{j:Nat}(D:MA K C m n q st)(_:Ct P w K mg base h)(d:ClsAt K c C)(r:∀{f:Addr}{a:FuncData},Ja K n q st .none f a->Ca P w K mg base Ab k f a ps (Tb K np<|cM np j bd))(b:YI n q st ps:=by exact {}):Ac P w K mg base c m k np [] (cM np j bd):=by
 obtain⟨f,a,M,F⟩:=D.ex;exact Ac.of d M (r F) (F.Yh b.ok) .nil λ_=>.nil
end
section
variable {a b:Expr} {r:De}
def K9{A:Addr}(a:nsIn X.K mainGlobals (ofString F)=some (some<|.ref A))(b:X.mg x=some (.ref A))(c:Gl X x:=by rfl)(d:pf x:=by decide):PE X (.Name x pos) (tI X.K B<|eC<|.fn F):=
 tu (GD (v:=.ref A) c b rfl d) λ_=>ZO.mpr ⟨A,rfl,a⟩
theorem lP(o:PA X es (tA X.K B r))(m:PE X b (tP X.K B g)):PE X (.BinOp (.List es p1) .Mult b pos) (tI X.K B<|Dy r g):=by
 refine cF (S8 bO8 (AO o) m) ?_
 rintro σ H Q ⟨A,st,d,e,l,q⟩;obtain⟨xs,k,w⟩:=R.qa l;obtain⟨y,i,u⟩:=R.qa w;obtain⟨j,rfl,t⟩:=ny u;obtain⟨⟨z,x,D,C⟩,s⟩:=aM t;cases s;refine⟨A,st,xs,e,k,λvs F s1 r1=>⟨by rw[r1.length];exact lim z,λp hp=>?_⟩⟩
 have c:=s1.trans<|bN (o:=.lst vs) hp;exact⟨A,st,_,e.mono c,i,λv E a h=>⟨p,j,vs,rfl,h.int,a _ _ bK,by lia,by lia,by rw[r1.length];exact lim x,λn f=>q _ _ (c.trans<|a.trans<|bN f)<|fB (e.own.mono<|c.trans a) f<|((r1.mono<|bG.hide<|bN hp).mono<|bG.hide a).rep j.toNat⟩⟩
end
open Builtin
theorem ű{l a:Nat}(h:l<n)(d:a<n):Rc (n+4) (n+2) (n+3) n (n+1) l [n,a]:=GZ h λb c=>by
 simp at c;lia
section
variable{w:World}{A:Around}
def bCj{l:Addr} (f:s.heap.IsList l1 IC) (g:s.heap.IsList l ys)
  (h:∀e,IsZip e (s.heap.objs.size+4) (s.heap.objs.size+2) (s.heap.objs.size+3) .none->IsPair e (s.heap.objs.size+2) (.ref s.heap.objs.size) (.ref<|s.heap.objs.size+1)->
   IsPair e (s.heap.objs.size+3) .none .none->e.IsListIter s.heap.objs.size l1 0->e.IsListIter (s.heap.objs.size+1) l 0->e.objs.size=s.heap.objs.size+5->
   (∀c o,s.heap.get? c=some o->e.get? c=some o)->Q (.ref<|s.heap.objs.size+4) {s with heap:=e}) :
  wpAny (model prog w) A (call (.type "zip") [.ref l1,.ref l]) Q E s:=X0 (λ_ _ _ _ _ q=>ft f q) rfl g λe a b c d=>h e a b c ⟨_,d,rfl,rfl⟩
def bHf(d:A.handled=none){it l:Addr} (st:s.heap.IsListIter it l i) (c:s.heap.IsList l ys) (b:ys[i]?=none)
  (f:∀a e,Heap.ExtBut it s.heap a->(∃o,a.get? e=some o/\o.cls=.type "StopIteration")->E (.ref e) {s with heap:=a}):wpAny (model prog w) A (Builtin.SmallTypes.nextOf<|.ref it) Q E s:=VG d st c b f
end
end Pu
namespace Pu
open PySem PyProof.Rows
def Rk(h:Heap)(d:Addr)(a:Array DictEntry)(b:Nat):Prop:=∃o,h.get? d=some o/\o.ExactDict/\o.data=.dict a b
def Rk.ty{d:Addr}{a:Array DictEntry} (x:Rk s.heap d a ep):s.TypeIs (.ref d) "dict":=let ⟨o,h,e,_⟩:=x;⟨o,h,e.1⟩
def Rk.at{d:Addr}{a:Array DictEntry} (x:Rk h d a ep) (k:∀o,h.get? d=some o->h'.get? d=some o):Rk h' d a ep:=let ⟨o,e,r⟩:=x;⟨o,k o e,r⟩
def Rk.lt{d:Addr}{a:Array DictEntry} (x:Rk h d a ep):d<h.objs.size:=let ⟨_,e,_⟩:=x;uc e
section
variable{w:World}{A:Around} {it d:Addr} {es:Array DictEntry}
def bHg(c:(d==sysModules)=false)(x:Rk s.heap d es ep)(q:Q (.ref s.heap.objs.size) {s with heap:=s.heap.push {cls:=.type "dict_keyiterator",data:=.fields #[.ref d,.int 0 0,.int es.size 0,.int ep 0]} }):wpAny (model prog w) A (pyIter<|.ref d) Q E s:=by
 obtain⟨o,a,e,b⟩:=id x;refine CH x.ty F.slot_dict_iter<|Ki F.slot_dict_iter x.ty F.entry_dict_iter (xa<|xa<|wpAny_notOrdered_dict x.ty<|Ma<|(?_:wpAny _ _ (Builtin.Dict.showsAll d >>= _) _ _ s))<|F.args_dict_iter_1 _;unfold Builtin.Dict.showsAll;rw[Pa (by rw[c];exact Wl)]
 refine xa<|Ma<|xa<|RR a b<|xa<|XR a b<|xa<|Yl<|Ma ⟨_,rfl,"dict_keyiterator",_,⟨_,de _ rfl,rfl⟩,az.lookup,?_⟩;simpa [rawInt] using q
def bHh{e:DictEntry}{Q:ut}(a:s.heap.IsKeyIter it d i es.size ep)(x:Rk s.heap d es ep)(l:es[i]?=some e)
  (q:∀g,g.IsKeyIter it d (i+1) es.size ep->Heap.SameBut it s.heap g->Q (some e.key) {s with heap:=g}):wpAny (model prog w) A (pyNext<|.ref it) Q E s:=by
 obtain⟨o,c,n,b⟩:=id a;obtain⟨p,h,_,k⟩:=id x;refine xa<|Bo<|Mm a.typeIs az<|Ki az a.typeIs m_ (xa<|Ma<|xa<|xa ?_)<|k_ _
 first|refine xa (KG a.typeIs<|Ma ?_)|refine xa<|NG a.typeIs<|Ma ?_
 refine xa<|Ew c b<|((xa<|Ma<|xa<|RR h k ?_):wpAny _ _ _ _ _ s);rw[Pa (by simp)]
 refine xa<|Ma<|xa<|XR h k ?_;rw[Pa (by simp)]
 refine Ma ?_
 obtain⟨f,m⟩:=pw.mp l;subst m;simp[Array.getElem?_eq_getElem f];refine xa ?_
 first|refine xa (KG a.typeIs<|Ma ?_)|refine xa<|NG a.typeIs<|Ma ?_
 refine xa<|wpAny_isOneOf_keyiter a.typeIs<|((xa<|Wq c b (by simp) ?_):wpAny _ _ (setField _ 1 _ >>= _) _ _ s)
 have j:(s.heap.update it (Obj.mapFields (·.setIfInBounds 1 (rawInt<|i+1)))).IsKeyIter it d (i+1) es.size ep:=
  ⟨_,Vl _ c<|gz<|uw b _,(Obj.cls_mapFields ..).trans n,by rw[uw b];simp[rawInt]⟩
 exact xa<|Yf<|xa<|wpAny_isOneOf_keyiter j.typeIs<|(Ma<|Ma ⟨_,rfl,Ma<|q _ j<|Zs ..⟩)
def bLa{Q:ut}(j:A.handled=none)(a:s.heap.IsKeyIter it d i es.size ep)(x:Rk s.heap d es ep)(h:es.size<=i)
  (q:∀f,Heap.ExtBut it s.heap f->Q none {s with heap:=f}):wpAny (model prog w) A (pyNext<|.ref it) Q E s:=by
 obtain⟨o,c,l,e⟩:=id a;obtain⟨k,b,_,g⟩:=id x;refine xa<|Bo<|Mm a.typeIs az<|Ki az a.typeIs m_ (xa<|Ma<|xa<|xa ?_)<|k_ _
 first|refine xa (KG a.typeIs<|Ma ?_)|refine xa<|NG a.typeIs<|Ma ?_
 refine xa<|Ew c e<|((xa<|Ma<|xa<|RR b g ?_):wpAny _ _ _ _ _ s);rw[Pa (by simp)]
 refine xa<|Ma<|xa<|XR b g ?_;rw[Pa (by simp)]
 refine Ma ?_
 simp[Array.getElem?_eq_none h];refine xa ?_
 first|refine xa (KG a.typeIs<|Ma ?_)|refine xa<|NG a.typeIs<|Ma ?_
 refine((xa<|Wq c e (by simp) ?_):wpAny _ _ (setField _ 0 .none >>= _) _ _ s)
 refine xa<|xa<|Yl (xa<|TH (by first|rfl|(rfl))<|Yl (xa<|wpAny_handled ?_)<|by size_fits)<|by size_fits
 rw[j];refine xa<|Ma<|wpAny_throw ?_;exact xa<|Aw ⟨_,de _ rfl,rfl⟩ vz<|Ma<|q _<|((Zs ..).extBut.push _).push _
def bCk(n:A.handled=none)(I:Addr)(p:d≠I):Walks prog w A I [I,d] [I] es.size (λi v=>∃e,es[i]?=some e/\v=e.key) (λi h=>h.IsKeyIter I d i es.size ep/\Rk h d es ep) where
 sub:=λb a=>by simp at a;simp[a]
 frame:=λ_ _ _ st k=>⟨st.1.at λo e=>k I (by simp) o e,st.2.at λo e=>k d (by simp) o e⟩
 item:=λi s Q E l st c=>bHh st.1 st.2 (Dj l) λg m j=>c _ g s.toks ⟨_,Dj l,rfl⟩ ⟨m,st.2.at λo e=>j.extBut d o p e⟩ λb o a e=>j.extBut b o (λh=>a<|by simp[h]) e
 done:=λs Q E st c=>bLa n st.1 st.2 (Pb _) λg f=>c g s.toks λb o a e=>f b o (λh=>a<|by simp[h]) e
 self:=λ_ _ _ _ st c=>wpAny_pyIter_keyiter st.1 c
def U6(lo:(d==sysModules)=false):KdlSrc prog w "dict" d d es.size (λi v=>∃e,es[i]?=some e/\v=e.key) (λh=>Rk h d es ep) where
 type:=λ_ x=>x.ty
 there:=λ_ x=>⟨x.lt,x.lt⟩
 keep:=λ_ _ x b=>x.at λo e=>b d (.inl rfl) o e
 notList:=rfl
 notTuple:=rfl
 hint:=λ_ _ _ _ x a=>PySem.W.kdl_hint_dict x.ty a
 iter:=λ_ _ c x=>⟨_,_,(λ_ _ a=>bHg lo x a),bCk c _<|Vd x.lt,⟨⟨_,de _ rfl,rfl,rfl⟩,x.at λ_ e=>Xb _ e⟩⟩
end
section
variable{w:World}{A:Around} {T:String} {r d:Addr} {P:Nat->Value->Prop} {OK:Heap->Prop}
def bQ5{R:Fk}(K:KdlSrc prog w T r d n P OK)(x:A.handled=none)(p:OK s.heap)(v:n<=sizeLine)
  (q:∀(a:Heap)(g:Nat)(vs:cr),ItemsOf P vs.toArray n->(∀b o,s.heap.get? b=some o->a.get? b=some o)->R vs {s with heap:=a,toks:=g}) :
  wpAny (model prog w) A (collect<|.ref r) R E s:=by
 refine xa<|wpAny_runValue<|jk entry_proto_collect'<|xa<|Yl<|Ma ⟨Zl H_ _,jk entry_list_iadd' ?_⟩;have l:=K.there _ p;have h:∀(a:Heap)(g:Nat)(vs:cr)(c:Nat),ItemsOf P vs.toArray n->(∀b o,s.heap.get? b=some o->a.get? b=some o)->a.get? s.heap.objs.size=some {cls:=.type "list",dict:=none,data:=.seq vs.toArray c,slots := #[]}->
   wpAny (model prog w) A (load s.heap.objs.size >>= λo=>match o.data with|.seq xs _=>pure xs.toList|_=>unsupported "internal:collect") R E {s with heap:=a,toks:=g}:=λa g vs c i k o=>by
  exact xa<|wpAny_load o<|Ma<|q a g vs i k
 refine Gj (PySem.W.kdl_extend (s:={s with heap:=s.heap.push {cls:=.type "list",data:=.seq ([]).toArray} })
  (R:=λq j=>q=.ok _/\∃(a:Heap)(g:Nat)(vs:cr)(c:Nat),j={s with heap:=a,toks:=g}/\ItemsOf P vs.toArray n/\(∀b o,s.heap.get? b=some o->a.get? b=some o)/\a.get? s.heap.objs.size=some {cls:=.type "list",dict:=none,data:=.seq vs.toArray c,slots := #[]})
  K x (K.keep _ _ p λb _ o e=>Xb _ e) s.heap.objs.size (Xq l.1) (Xq l.2) _ 0 (de _ rfl)
  (λa g u c k o it=>⟨rfl,a,g,u.toList,c,rfl,by simpa using it,λb t m=>k b t (Nat.ne_of_lt<|Heap.lt_size m)<|Heap.get?_push_of_some _ m,by simpa using o⟩) v) (λfin j y=>?_) λe j y=>nomatch y.1
 cases fin with
 |done f=>
  obtain⟨e,a,g,vs,c,rfl,i,k,o⟩:=y;cases e;exact h a g vs c i k o
 |again B=>
  refine⟨y.1,yp y.2 λq C z=>?_⟩
  obtain⟨rfl,a,g,vs,c,rfl,i,k,o⟩:=z;exact h a g vs c i k o
end
end Pu
namespace Pu
open PySem PySem.Spec PyProof.Rows L2
def Qo(H:Hp):List (List Key×V)->List Addr->Prop:=Paired λa p=>H p=some (.tup<|a.1.map kV)
def Qo.len{a:wn}{ps:bv}(h:Qo H a ps):a.length=ps.length:=Paired.length h
def L9{w:World} {c:wn} (ok:Df P w H h) (e:H a=some (.dT c)):c.length<=sizeLine/\(a==sysModules)=false/\∃b d ps,Rk h a b d/\Qo H c ps/\b.toList.map (·.key)=ps.map Value.ref:=by
 refine Uc λg=>?_
 obtain⟨z,y,xs,r,o,b,d,n,k,j,i,t⟩:=((ok a _ e));refine g ?_
 refine⟨z,y,b,d,xs.map (·.2.1),⟨o,n,k,j⟩,?_,?_⟩
 .have:∀{l:List _} {m:List (List Key×Addr×Value)},Paired (λp q=>p.1=q.1/\H q.2.1=some (.tup<|p.1.map kV)/\RelV p.2 q.2.2) l m->Qo H l (m.map _):=λ{l m} q=>by
   induction q with
   |nil=>exact .nil
   |cons s _ f=>exact .cons s.2.1 f
  exact this r
 rw[i,Dg,Dg];rfl
theorem Z3{a:Array DictEntry}{ps:bv}{vs:cr}(h:a.toList.map (·.key)=ps.map Value.ref)(it:ItemsOf (λi v=>∃e,a[i]?=some e/\v=e.key) vs.toArray a.size):vs=ps.map Value.ref:=by
 obtain⟨f,d⟩:=it;rw[<-h];refine BH λi=>?_
 cases b:vs[i]? with
 |none=>
  have:=List.getElem?_eq_none_iff.mp b;rw[Jf]at f;exact(qp<|by rw[Rb,tw];lia).symm
 |some v=>
  obtain⟨e,c,rfl⟩:=d i v (by simpa using b)
  rw[rh,vp,c];rfl
theorem IL:∀ps:bv,Ha (ps.map V.ref) (ps.map Value.ref)
 |[]=>.nil
 |_::ps=>.cons rfl<|IL ps
theorem Qo.mh{K:Frag}{A:bv}{H:Hp}(w:Own A H):∀{b:wn} {ps:bv},Qo H b ps->bJ K (hide A H) (b.map λp=>D.tup<|p.1.map pC) (ps.map V.ref)
 |_,_,.nil=>.nil
 |c::_,_,.cons e t=>by
  refine .cons (pX.mpr ⟨_,_,rfl,by rwa [bF<|w.tup e],?_⟩)<|Qo.mh w t
  have:∀a:Gc,bJ K (hide A H) (a.map pC) (a.map kV):=λa=>by
   induction a with
   |nil=>exact .nil
   |cons k a d=>
    refine .cons ?_ d;cases k with
    |inl i=>exact bO.mpr rfl
    |inr x=>exact dX.mpr (by simp[kV])
  exact this c.1
section
variable {a:Expr}
def KZ(k:X.calm=true):mF X (.type "list") (λvs H Q=>∃(r:Addr) (a:wn),vs=[.ref r]/\H r=some (.dT a)/\∀n ps,H n=none->Qo H a ps->Q (.ref n) (bb H n<|.lst<|ps.map V.ref)):=by
 intro B s σ H vs v Q I r h;obtain⟨l,a,rfl,f,q⟩:=h;obtain⟨u,rfl,d⟩:=r.one;obtain rfl:u=Value.ref l:=d;obtain⟨y,e,o,A,ps,j,b,c⟩:=L9 I.Ta f;have t:o.size=a.length:=by
  have:=congrArg List.length c;rw[Rb,Rb,tw]at this;rw[this,b.len]
 refine kdl_call (U6 e) (I.ok.hd k) j (by rwa [t]) λz w x p g m i=>⟨.ref s.heap.objs.size,_,I.laid (o:=.lst _) g (Pb _) ⟨by rwa [Rb,<-b.len],ps.map Value.ref,p,IL ps,by rw[<-(Z3 c<|by simpa using i)];simpa using m⟩,rfl,q _ _ (I.Ta.fresh<|Nat.le_refl _) b⟩
def bLb(k:X.mg "list"=none)(r:X.calm=true)(s:PE X a (tI X.K B f))(m:Gl X "list":=by rfl)(hs:sf a [] X.env:=by rfl):PE X (.Call (.Name "list" p0) [a] [] pos) (tI X.K B<|e1 uv f):=by
 refine cF (oR (KZ r) m k rfl (cN s fD hs) (he:=hs)) ?_
 rintro σ H Q ⟨A,st,d,g,o,q⟩;obtain⟨x,j,b⟩:=R.qa o;refine⟨A,st,x,g,j,λv D s1 r1=>?_⟩
 unfold uv at b;split at b
 .obtain⟨c,u⟩:=aM b;cases u;obtain⟨p,y,rfl,t,z⟩:=nY.mp r1;rcases t with ⟨e,_⟩|⟨_,i,e,rfl,rfl⟩
  .cases e
  have w:=g.own.mono s1;exact⟨p,i,rfl,aX _ _ _ _ e,λn C h l=>q _ _ (s1.trans<|bN h)<|fB w h<|l.mh w⟩
 cases b
end
def ym(h:Heap)(v:Value)(i j:Int):Prop:=∃a o t u n,v=.ref a/\h.get? a=some o/\o.cls=.type "tuple"/\o.data=.seq #[.int i t,.int j u] n
section
open PySem.W (kat_lt kat_cons kat_go kat_yes kat_no kat_nil kat_one KatTups kat_kind kat_run kat_snds)
variable{prog:Program}{w:World}{A:Around}{E:be}{s:Shared}
def ym.keep{v:Value}{i j:Int}(p:ym h v i j)(k:∀a o,h.get? a=some o->o.cls=.type "tuple"->h'.get? a=some o):ym h' v i j:=by
 obtain⟨a,o,t,u,n,e,c,b,d⟩:=p;exact⟨a,o,t,u,n,e,k a o c b,b,d⟩
def bLc{x:Value}{p q:Go}{C:v4}(m:ym s.heap x p.1 p.2)(g:ym s.heap y q.1 q.2)(h:C (ltQ p q) s):wpAny (model prog w) A (keyLt' (tuples' true) x y) C E s:=by
 obtain⟨i,j⟩:=p;obtain⟨k,l⟩:=q;obtain⟨a,o,t,u,n,rfl,z,_,B⟩:=m;obtain⟨b,D,f,d,F,rfl,v,_,r⟩:=g;refine kat_lt z B v r<|kat_cons<|SeqAt.EqAt.int_int i t k f _ _ _ _<|kat_go (λe=>?_) λe=>?_
 .have c:=by unfold ltQ at h;rw[jb e]at h;exact h
  refine kat_yes<|kat_cons<|SeqAt.EqAt.int_int j u l d _ _ _ _<|kat_go (λe=>?_) λe=>?_
  .have e:=eq_of_beq e;subst e;exact kat_yes<|kat_nil<|by simpa using c
  exact kat_no<|kat_one _ _<|lt_int c
 exact kat_no<|oneLt_int<|by unfold ltQ at h;rw[Pa (by rw[e];exact Wl)]at h;exact h
def bQ6{c:wS} {Q:α->Prop} {G:α->sK} {a:Nat->Nat->(Bool->Shared->Prop)->Shared->Prop} (d:∀i j,i<n->j<n->∀C:v4,C (c i j) s->a i j C s) {t:PySem.W.KasT α} (h:xh c n t Q) (g:G (Wy c t) s):t.kasWp a G s:=by
 induction t with
 |ret _=>exact g
 |ask i j k b=>exact d i j h.1 h.2.1 _<|b _ h.2.2 g
theorem bTl{vs:cr} {P:PySem.Fin->sK} {ps:re} (G:s.heap.get? a=some (seqObj "list" vs.toArray n)) (F:Paired (λ(x:Go) u=>ym s.heap u x.1 x.2) ps vs) (kr:vs.length<64)
  (q:∀(c:Nat)(R:Heap),(∀b o,b≠a->s.heap.get? b=some o->R.get? b=some o)->R.get? a=some (seqObj "list" ((Rj ps).map λi=>vs.getD i Value.none).toArray c)->P (.done<|.ret .none) {s with heap:=R}) :
  wpAny (model prog w) A (Builtin.«list.sort» ⟨[.ref a],[]⟩) P E s:=by
 have N:vs.length<=sizeLine:=by rw[fm];lia
 have O:=Paired.length F;obtain⟨e1,T⟩:∃e1,(s.heap.update a<|Obj.mapSeq λ_=>(#[])).get? a=some (seqObj "list" #[] e1):=⟨_,get?_update_seq G λ_ => #[]⟩
 have L:∀b o,b≠a->s.heap.get? b=some o->(((s.heap.update a<|Obj.mapSeq λ_=>(#[])).push<|seqObj "tuple" vs.toArray 0).push<|seqObj "list" #[] 0).get? b=some o:=λb o l e=>Xb _<|Xb _<|by rwa [Heap.get?_update_ne _ _ _ _ l]
 have r:(((s.heap.update a<|Obj.mapSeq λ_=>(#[])).push<|seqObj "tuple" vs.toArray 0).push<|seqObj "list" #[] 0).get? a=some (seqObj "list" #[] e1):=Xb _<|Xb _ T
 rw[list_sort_plain];refine xa<|listItems_at G rfl<|xa<|listUpdate_at G rfl (xa<|seqEpoch_at T rfl<|xa<|wpAny_newTuple (xa<|wpAny_newList (Yf ?_)<|Ef _)<|by exact N) (by rwa [Jf])<|Ef _
 generalize ((s.heap.update a<|Obj.mapSeq λ_=>(#[])).push _).push (seqObj "list" #[] 0)=h3 at L r
 have tup:∀b o,s.heap.get? b=some o->o.cls=.type "tuple"->h3.get? b=some o:=λb o e k=>L b o (λz=>by
  rw[z,G]at e;cases e;injection k with k
  exact absurd k<|by decide) e
 have Y:vs.toArray.size=vs.length:=Jf;have V:((Rj ps).map λi=>vs.getD i Value.none).length=vs.length:=by rw[Rb,(XC ps).length_eq,nk,O]
 have D:P (.done<|.ret .none) {s with heap:=h3.update a (Obj.mapSeq λ_=>((Rj ps).map λi=>vs.getD i Value.none).toArray)}:=by
  obtain⟨S,X⟩:∃S,(h3.update a _).get? a=some (seqObj "list" ((Rj ps).map λi=>vs.getD i Value.none).toArray S):=⟨_,get?_update_seq r λ_=>_⟩
  exact q S _ (λb o l e=>by rw[Heap.get?_update_ne _ _ _ _ l];exact L b o l e) X
 dsimp only
 by_cases H:vs.toArray.size<2
 .rw[jb H];refine xa<|Ma ?_;rw[jb H,StateT.run_pure];refine xa<|Ma ?_;have I:(arrOf<|SortSt.mk' general' (vs.toArray.zip vs.toArray) #[] 7 none).map (·.2)=((Rj ps).map λi=>vs.getD i Value.none).toArray:=by
   apply Array.toList_inj.mp;rw[Array.toList_map,ksk_zip,List.map_snd_zip<|Pb _,List.toList_toArray];unfold Rj;rw[jb (by lia),O,map_range]
  have d:failedOf (SortSt.mk' general' (vs.toArray.zip vs.toArray) #[] 7 none)=none:=rfl;generalize SortSt.mk' general' (vs.toArray.zip vs.toArray) #[] 7 none=st at I d;rw[I];refine xa<|seqEpoch_at r rfl<|xa<|listUpdate_at r rfl ?_ (Ef _)<|by rw[Jf,V];exact Nat.le_succ_of_le N
  rw[d];simp;exact Ma D
 rw[Pa H];have Z:∀{ps:re} {g:cr},Paired (λx u=>ym s.heap u x.1 x.2) ps g->∃fs:cr,KatTups h3 g fs/\fs.length=g.length/\∀f∈fs,∃n t,f=.int n t:=λ{ps g} h=>by
  induction h with
  |nil=>exact⟨[],.nil,rfl,λ_ h=>nomatch h⟩
  |cons Q _ M=>
   obtain⟨fs,K,U,J⟩:=M;obtain⟨b,o,t,u,m,e,l,k,hd⟩:=Q;subst e;refine⟨.int _ t::fs,.cons (tup _ _ l k) k hd rfl K,by rw[Ed,Ed,U],λf d=>?_⟩
   rcases qc.mp d with rfl|d
   .exact⟨_,t,rfl⟩
   exact J f d
 have W:∀{ps:re} {g:cr},Paired (λx u=>ym s.heap u x.1 x.2) ps g->∀i,i<g.length->ym h3 (g.getD i Value.none) (ps.getD i (0,0)).1 (ps.getD i (0,0)).2:=λ{ps g} h=>by
  induction h with
  |nil=>exact λi B=>absurd B<|zp _
  |cons Q _ M=>
   intro i B;cases i with
   |zero=>exact Q.keep tup
   |succ i=>exact M i<|P_ B
 obtain⟨fs,K,U,J⟩:=Z F;refine xa<|kat_kind (T:=.type "int") K (by lia) (λv d=>?_) rfl ?_
 .obtain⟨n,t,rfl⟩:=J v d;exact .now
 rw[Pa H];refine xa (Gj (kat_run (Q:=λst' y=>y={s with heap:=h3}/\failedOf st'=none/\(arrOf st').map (·.2)=((Rj ps).map λi=>vs.getD i Value.none).toArray) (G:=λp y=>y={s with heap:=h3}/\p=Wy (B' ps) (PySem.W.kas_sort vs.length)) rfl (by lia) kr (λp st' y _ ha d ⟨g1,g2⟩=>⟨g1,d,?_⟩)<|bQ6 (λi j B hj C hC=>bLc (W F i B) (W F j hj) hC) (X4<|by lia) ⟨rfl,rfl⟩) ?_ λ_ _ z=>z)
 .rw[kat_snds rfl ha,g2];unfold Rj;rw[Pa (by lia),O]
 rintro⟨⟨⟩,st⟩ y ⟨rfl,d,I⟩;rw[I];refine xa<|seqEpoch_at r rfl<|xa<|listUpdate_at r rfl ?_ (Ef _)<|by rw[Jf,V];exact Nat.le_succ_of_le N
 rw[d];simp;exact Ma D
def M9(prog:Program)(w:World)(d:Addr)(vs:cr)(s:Shared):Prop:=∀(A:Around)(E:be)(R:Fk),A.handled=none->(∀(a:Heap)(c:Nat),(∀b o,s.heap.get? b=some o->a.get? b=some o)->R vs {s with heap:=a,toks:=c})->wpAny (model prog w) A (collect<|.ref d) R E s
theorem aX4{d:Addr}{ps:re} (l:M9 prog w d us s) (r:A.handled=none) (n:Paired (λ(x:Go) u=>ym s.heap u x.1 x.2) ps us) (v:us.length<64)
  (q:∀(D:Addr)(f:Heap)(h:Nat)(c:Nat),(∀b o,s.heap.get? b=some o->f.get? b=some o)->(∀b o,s.heap.get? b=some o->b<D)->f.get? D=some (seqObj "list" ((Rj ps).map λi=>us.getD i Value.none).toArray c)->Q (.ref D) {s with heap:=f,toks:=h}) :
  wpAny (model prog w) A (call (.builtin "sorted") [.ref d]) Q E s:=by
 refine Calls.call_function_entry kind_sorted plain_sorted entry_sorted (args_sorted1 _)<|xa<|Ma<|xa<|l _ _ _ r λf h j=>?_
 refine xa<|wpAny_newList ?_<|by rw[fm];lia
 have o:(f.push<|seqObj "list" us.toArray 0).get? f.objs.size=some _:=de _ rfl;have m:∀b o,s.heap.get? b=some o->(f.push<|seqObj "list" us.toArray 0).get? b=some o:=λb o e=>Xb _<|j b o e
 exact xa<|Yf<|Ki slot_list_sort ⟨_,o,rfl⟩ entry_list_sort (bTl o (Paired.imp' (λ_ _ p=>p.keep λa o e _=>m a o e) n) (by lia) λc y k t=>⟨_,rfl,(Ma ⟨_,rfl,q _ _ h c (λb ob g=>k b ob (Vd<|uc<|j b ob g)<|m b ob g) (λb ob g=>uc<|j b ob g) t⟩)⟩)<|args_list_sort _
end
def bLd{w:World} (x:mQ P w H h a o):∃u,h.get? a=some u:=by
 cases o with
 |lst xs=>obtain⟨_,_,_,_,e⟩:=x;exact⟨_,e⟩
 |tup xs=>obtain⟨_,_,_,o,e,_⟩:=x;exact⟨_,e⟩
 |dK b=>obtain⟨_,_,_,_,o,_,_,e,_⟩:=x;exact⟨_,e⟩
 |dT b=>obtain⟨_,_,_,_,o,_,_,e,_⟩:=x;exact⟨_,e⟩
 |set S n=>obtain⟨o,_,_,_,e,_⟩:=x;exact⟨_,e⟩
 |ins C i fs=>obtain⟨_,_,_,e,_⟩:=x;exact⟨_,e⟩
 |own y=>obtain⟨_,e⟩:=x;exact⟨_,e⟩
 |xd fs=>obtain⟨_,⟨_,_,_,e,_⟩,_⟩:=x;exact⟨_,e⟩
 |Yp lo g=>obtain⟨_,_,_,e⟩:=x;exact⟨_,e⟩
 |Fh ob u=>obtain⟨e,_⟩:=x;exact⟨_,e⟩
 |Oo d=>exact⟨_,(x)⟩
 |met f y=>exact⟨_,(x)⟩
 |ext c=>obtain⟨_,⟨_,e⟩,_⟩:=x;exact⟨_,e⟩
section
variable {a:Expr}
theorem M8{H:Hp}:∀{c:wn} {ps:bv} {l:re},Qo H c ps->(c.map λp=>D.tup<|p.1.map pC)=l.map pD->Paired (λ(x:Go) a=>H a=some (.tup [.int x.1,.int x.2])) l ps
 |_,_,[],.nil,_=>.nil
 |_,_,_::_,.nil,h=>nomatch h
 |_,_,[],.cons _ _,h=>nomatch h
 |f::_,_,x::l,.cons i t,h=>by
  injection h with b g
  refine .cons ?_<|M8 t g;rw[i];injection b with b
  match o:f.1,b with
  |[],b=>simp at b
  |[_],b=>simp at b
  |e::d::[],b=>
   simp at b;obtain⟨e1,e2⟩:=b;rcases e with n|x1
   .rcases d with m|j
    .injection e1 with e1
     injection e2 with e2
     rw[<-e1,<-e2];rfl
    exact nomatch (show D.str _=D.int _ from e2)
   exact nomatch (show D.str _=D.int _ from e1)
  |e::d::k::r,b=>simp at b
theorem V6(ps:bv):∀is:ac,Ha (is.map λi=>(ps.map V.ref).getD i .Sb) (is.map λi=>(ps.map Value.ref).getD i Value.none)
 |[]=>.nil
 |i::is=>by
  refine .cons ?_<|V6 ps is;dsimp only
  by_cases h:i<ps.length
  .rw[bf,bf,rh,rh,Kc h];rfl
  rw[bf,bf,rh,rh,qp (by lia)]
  rfl
theorem W6{K:Frag}{H:Hp}{l:re}{ps:bv}(h:∀i,i<l.length->∃a,ps[i]?=some a/\H a=some (.tup [.int (l.getD i (0,0)).1,.int (l.getD i (0,0)).2])):∀is:ac,(∀i∈is,i<l.length)->bJ K H ((is.map λi=>l.getD i (0,0)).map pD) (is.map λi=>(ps.map V.ref).getD i .Sb)
 |[],_=>.nil
 |i::is,b=>by
  obtain⟨a,e,d⟩:=h i<|b i qb;refine .cons (pX.mpr ⟨a,_,?_,d,.cons (bO.mpr rfl)<|.cons (bO.mpr rfl) .nil⟩)<|W6 h is λi c=>b i<|Mb _ c
  dsimp only;rw[bf,rh,e];rfl
theorem bHj(w:X.calm=true) {B:L2.St} {p:Addr} {l:re} {ps:bv} {Q:VK} (I:Ba X aa B H s) (C:Paired (λ(x:Go) a=>H a=some (.tup [.int x.1,.int x.2])) l ps) (P:l.length<64) (y:M9 X.prog X.w p (ps.map Value.ref) s) (q:∀n,H n=none->Q (.ref n) (bb H n<|.lst<|(Rj l).map λi=>(ps.map V.ref).getD i .Sb)) :
  wpAny (model X.prog X.w) X.A (call (.builtin "sorted") [.ref p]) (λu s1=>∃x J,Ba X aa B J s1/\RelV x u/\Q x J) X.xe s:=by
 have A:∀{l:re} {ps:bv},Paired (λx a=>H a=some (.tup [.int x.1,.int x.2])) l ps->Paired (λx u=>ym s.heap u x.1 x.2) l (ps.map Value.ref):=λ{l ps} h=>by
  induction h with
  |nil=>exact .nil
  |cons S _ O=>
   refine .cons ?_ O;obtain⟨N,f,⟨o,j,w,n,k⟩,_⟩:=I.tuple<|Xf.of S;cases f with
   |cons M f=>cases f with
    |cons L f=>
     cases f;obtain⟨t,rfl⟩:=M;obtain⟨K,rfl⟩:=L;exact⟨_,o,t,K,n,rfl,j,w,k⟩
 refine aX4 y (I.ok.hd w) (A C) (by rw[Rb,<-Paired.length C];exact P) λD Y W c g F k=>?_
 have G:H D=none:=by
  cases R:H D with
  |none=>rfl
  |some o=>
   obtain⟨u,e⟩:=bLd<|I.Ta D o R;exact absurd (F D u e)<|uh _
 have d:bG H (bb H D<|.lst<|(Rj l).map λi=>(ps.map V.ref).getD i .Sb):=bN G
 refine⟨.ref D,_,I.step (ch:=[]) (λ_ z=>nomatch z) (λb o _ _ _ e _=>g b o e) (λb o _ _ _ e _=>⟨o.slots,g b o e⟩) (λb o _ e n=>by rwa [aW<|Vd<|F b o e]) (λb o _ e=>⟨o,g b o e⟩) (λb xs e=>d _ _ e) (λb o u e=>d _ _ e) (λb ps e=>⟨#[],by rw[d _ _ e];simp⟩) (λm ⟨o,T,U,j,r⟩=>⟨o,T,U,g _ o j,r⟩) (λb o e=>?_) I.bare,rfl,q _ G⟩
 by_cases E:b=D
 .subst E;rw[bK]at e;cases e;exact⟨by rw[Rb,(XC l).length_eq,nk,fm];lia,_,c,V6 ps _,k⟩
 rw[aW E]at e;exact(I.Ta b _ e).Ye (λb v _ q=>g b v q) (λb q=>d _ _ q) λb xs q=>d _ _ q
theorem bCl(y:X.calm=true):mF X (.builtin "sorted") (λxs H Q=>∃(p:Addr) (b:wn) (l:re),xs=[.ref p]/\H p=some (.dT b)/\(b.map λp=>D.tup<|p.1.map pC)=l.map pD/\l.length<64/\∀n ps,H n=none->Paired (λ(x:Go) a=>H a=some (.tup [.int x.1,.int x.2])) l ps->Q (.ref n) (bb H n<|.lst<|(Rj l).map λi=>(ps.map V.ref).getD i .Sb)):=by
 intro J s σ H xs f Q I r h;obtain⟨p,b,l,rfl,t,v,d,q⟩:=h;obtain⟨u,rfl,j⟩:=vals1 r;cases j;obtain⟨F,o,B,G,ps,w,C,e⟩:=L9 I.Ta t;have c:=M8 C v;have K:B.size=l.length:=by
  have:=congrArg List.length e;rw[Rb,Rb,tw]at this;rw[this,(Paired.length c)]
 refine bHj y I c d (λA E R hh h=>?_) λn d=>q n ps d c
 refine bQ5 (U6 o) hh w (by rw[fm];lia) λz g f k m=>?_
 rw[Z3 e k];exact h z g m
def bQ7(y:X.mg "sorted"=none)(E:X.calm=true)(G:PE X a (tI X.K B f))(C:Gl X "sorted":=by rfl)(hs:sf a [] X.env:=by rfl):PE X (.Call (.Name "sorted" p0) [a] [] pos) (tF X.K B<|e1 Ey f):=by
 refine cF (rY (bCl E) C y A_ (cN G fD hs) (he:=hs)) ?_
 rintro σ H Q ⟨A,st,d,r,D,q⟩;obtain⟨x,u,k⟩:=R.qa D;refine⟨A,st,x,r,u,λv H1 s1 r1=>?_⟩
 unfold Ey at k;split at k
 .obtain⟨l,z,I⟩:=R.qa k;obtain⟨c,o⟩:=aM I;cases o;obtain⟨p,K,rfl,o,L⟩:=nY.mp r1;rcases o with ⟨m,_⟩|⟨_,s,m,rfl,rfl⟩
  .cases m
  refine⟨p,s,l,rfl,aX _ _ _ _ m,N7 z,c,λn j w hp=>q n _ H1 s1 w<|W6 (λi g=>?_) _ λi g=>qf.mp<|(XC l).mem_iff.mp g⟩
  have:∀{l:List _}{j:bv},Paired (λx a=>H1 a=some (.tup [.int x.1,.int x.2])) l j->∀i,i<l.length->∃a,j[i]?=some a/\H1 a=some (.tup [.int (l.getD i (0,0)).1,.int (l.getD i (0,0)).2]):=λ{l j} h=>by
   induction h with
   |nil=>exact λi g=>absurd g<|zp _
   |cons J _ t=>
    intro i g;cases i with
    |zero=>exact⟨_,rfl,J⟩
    |succ i=>exact t i<|P_ g
  obtain⟨b,e,F⟩:=this hp i g;exact⟨b,e,by rwa [bF<|(r.own.mono s1).tup F]⟩
 cases k
end
open Builtin
abbrev jw(h:Heap)(z TI TO a:Addr)(f:Bool):Prop:=h.get? z=some {cls:=.type "zip",dict:=none,data:=.fields #[rawInt a,.bool f,.bool false,.ref TI,.ref TO],slots := #[]}
section
variable{w:World}{A:Around} {z TI TO i1 i2 l1 l2:Addr} {f:Bool} {k:Nat} {xs:wE} {x:Value}
def X6{Q:v4}(c:jw s.heap z TI TO a f)(e:s.heap.get? a=some oa)(q:∀d,jw d z TI TO a true->Heap.SameBut z s.heap d->Q false {s with heap:=d}):wpAny (model prog w) A (Builtin.SmallTypes.ownedTupleIsFree<|.ref z) Q E s:=by
 refine xa<|Li c rfl rfl<|((xa<|PySem.W.kdx_alive e<|xa<|Li c rfl (x:=.bool f) rfl ?_):wpAny _ _ _ _ _ _);cases f with
 |true=>
  exact xa<|Ma<|Ma<|q s.heap c<|Heap.SameBut.refl _ _
 |false=>
  refine xa<|bt c (by simp) λh g b=>Ma<|q h g b
def bLe(j:jw s.heap z TI TO a f)(u:s.heap.get? a=some oa)(M:IsPair s.heap TI (.ref i1) (.ref i2))(C:s.heap.IsListIter i1 l1 k)(B:s.heap.IsListIter i2 l2 k)(n:s.heap.IsList l1 xs)(m:s.heap.IsList l2 ys)(t:xs[k]?=some x)(r:ys[k]?=some y)(D:ZipApart z TI TO i1 i2 l1 l2)
  (q:∀h,jw h z TI TO a true->h.IsListIter i1 l1 (k+1)->h.IsListIter i2 l2 (k+1)->IsPair h s.heap.objs.size x y->h.objs.size=s.heap.objs.size+1->(∀c o,c≠z->c≠i1->c≠i2->s.heap.get? c=some o->h.get? c=some o)->Q (.ref s.heap.objs.size) {s with heap:=h}) :
  wpAny (model prog w) A (Builtin.«zip.__next__» ⟨[.ref z],[]⟩) (λl p=>∃v,l=.done (.ret v)/\Q v p) E s:=by
 show wpAny _ _ (field _ 2 >>= _) _ _ _;refine xa<|Li j rfl (x:=.bool false) rfl<|xa<|Li j rfl rfl<|xa<|Ej M rfl<|xa<|X6 j u λO I b=>xa<|xa<|xa<|Yf<|xa<|RG (C.extBut b.extBut D.i1z) (n.extBut b.extBut D.l1z) t λN L d=>Ma<|Ma<|xa<|xa<|Yf<|xa<|RG ((B.extBut b.extBut D.i2z).extBut d.extBut D.i12.symm) ((m.extBut b.extBut D.l2z).extBut d.extBut D.l2i1) r λK J g=>Ma<|Ma<|Ma ?_
 have i:K.objs.size=s.heap.objs.size:=by rw[g.1,d.1,b.1]
 refine xa<|wpAny_newTuple (Ma ⟨_,rfl,?_⟩)<|by show 2<=sizeLine;decide
 rw[i];exact q _ (Xb _<|g.extBut _ _ D.i2z.symm<|d.extBut _ _ D.i1z.symm I) ((L.extBut g.extBut D.i12).at λo e=>Xb _ e) (J.at λo e=>Xb _ e) (by rw[<-i];exact de _ rfl) (by rw[Mh,i]) λc o H G F e=>Xb _<|g.extBut _ _ F<|d.extBut _ _ G<|b.extBut _ _ H e
def bQ8{Q:PySem.Fin->sK}(p:A.handled=none)(h:jw s.heap z TI TO a f)(v:s.heap.get? a=some oa)(F:IsPair s.heap TI (.ref i1) (.ref i2))(r:s.heap.IsListIter i1 l1 k)(y:s.heap.IsListIter i2 l2 k)(n:s.heap.IsList l1 xs)(u:s.heap.IsList l2 ys)(he:xs[k]?=none\/ys[k]?=none)(D:ZipApart z TI TO i1 i2 l1 l2)
  (q:∀j e,(∀c o,c≠z->c≠i1->c≠i2->s.heap.get? c=some o->j.get? c=some o)->(∃o,j.get? e=some o/\o.cls=.type "StopIteration")->E (.ref e) {s with heap:=j}) :
  wpAny (model prog w) A (Builtin.«zip.__next__» ⟨[.ref z],[]⟩) Q E s:=by
 show wpAny _ _ (field _ 2 >>= _) _ _ _;refine xa<|Li h rfl (x:=.bool false) rfl<|xa<|Li h rfl rfl<|xa<|Ej F rfl<|xa<|X6 h v λI G b=>?_
 simp only[Bool.false_eq_true,if_false];rw[<-Array.forIn_toList];simp only[forIn_cons,forIn_nil];refine xa<|xa<|xa<|Yf ?_;cases i:xs[k]? with
 |none=>exact xa<|VG p (r.extBut b.extBut D.i1z) (n.extBut b.extBut D.l1z) i λt e d he=>q t e (λc o m l _ x=>(d) _ _ l<|b.extBut _ _ m x) he
 |some x=>
  exact xa<|RG (r.extBut b.extBut D.i1z) (n.extBut b.extBut D.l1z) i λt H d=>Ma<|Ma<|xa<|xa<|Yf<|xa<|VG p ((y.extBut b.extBut D.i2z).extBut d.extBut D.i12.symm) ((u.extBut b.extBut D.l2z).extBut d.extBut D.l2i1) (he.resolve_left<|by rw[i];exact nofun) λC e g he=>q C e (λc o m l B x=>(g) _ _ B<|d.extBut _ _ l<|b.extBut _ _ m x) he
end
open Builtin
def Ro(h:Heap)(z TI TO:Addr):Prop:=IsZip h z TI TO .none\/∃a f,jw h z TI TO a f
def Ro.ob{z TI TO:Addr}(x:Ro h z TI TO):∃c b,Zy h z TI TO c b:=by
 rcases x with x|⟨a,f,x⟩
 .exact⟨_,_,x⟩
 exact⟨_,_,x⟩
def Ro.keep{z TI TO:Addr}(x:Ro h z TI TO)(k:∀o,h.get? z=some o->h'.get? z=some o):Ro h' z TI TO:=by
 rcases x with x|⟨a,f,x⟩
 .exact .inl (k _ x)
 exact .inr ⟨a,f,k _ x⟩
section
variable{w:World}{A:Around} {z TI TO i1 i2 l1 l2:Addr} {k:Nat} {xs:wE} {x:Value}
def Rc.two(D:Rc z TI TO i1 i2 l2 [i1,l1])(a:l1≠i1):ZipApart z TI TO i1 i2 l1 l2:=
 ⟨D.TIz,D.TOz,D.i1z,D.i2z,D.TITO,D.TIi1,D.TIi2,D.TOi1,D.TOi2,D.i12,λe=>D.zf (by simp[e]),λe=>D.Tf (by simp[e]),a,λe=>D.ο (by simp[e]),D.lz,D.HI,D.II,D.ρ⟩
def Y0(c:Zy s.heap z TI TO (rawInt a) f1)(d:s.heap.get? a=none)(Q:v4)(q:Q true s):wpAny (model prog w) A (Builtin.SmallTypes.ownedTupleIsFree<|.ref z) Q E s:=by
 refine xa<|Li c rfl rfl<|(?_:wpAny _ _ _ _ _ _);have b:∀{R:Option Obj->Shared->Prop},R none s->wpAny (model prog w) A (loadIfAlive a) R E s:=λ{R} h=>by
  have e:R (s.heap.get? a) s:=by rwa [d]
  exact λ_ _ _=>e
 exact xa<|b<|Ma q
def bLf(F:A.handled=none)(g:Ro s.heap z TI TO)(B:IsPair s.heap TI (.ref i1) (.ref i2))(i:∃u v,IsPair s.heap TO u v)(t:s.heap.IsListIter i1 l1 k)(r:s.heap.IsListIter i2 l2 k)(l:s.heap.IsList l1 xs)(j:s.heap.IsList l2 ys)(p:xs[k]?=some x)(n:ys[k]?=some y)(D:Rc z TI TO i1 i2 l2 [i1,l1])(m:l1≠i1)
  (q:∀b h,Ro b z TI TO->(∃u v,IsPair b TO u v)->b.IsListIter i1 l1 (k+1)->b.IsListIter i2 l2 (k+1)->IsPair b s.heap.objs.size x y->(∀c o,c≠z->c≠TO->c≠i1->c≠i2->s.heap.get? c=some o->b.get? c=some o)->Q (.ref s.heap.objs.size) {s with heap:=b,toks:=h}) :
  wpAny (model prog w) A (Builtin.«zip.__next__» ⟨[.ref z],[]⟩) (λd I=>∃v,d=.done (.ret v)/\Q v I) E s:=by
 obtain⟨Y,X,i⟩:=i;have d:∀b h v,xs[k]?=some v->IsZip b z TI TO (rawInt s.heap.objs.size)->IsPair b TO v y->(b.IsListIter i1 l1 (k+1)/\b.IsList l1 xs)->b.IsListIter i2 l2 (k+1)->IsPair b s.heap.objs.size v y->b.objs.size=s.heap.objs.size+1->(∀c o,c≠z->c≠TO->c≠i1->c≠i2->s.heap.get? c=some o->b.get? c=some o)->Q _ {s with heap:=b,toks:=h}:=λb h v e W V U T S _ R=>by
  rw[p]at e;cases e;exact q b h (.inr ⟨_,_,W⟩) ⟨_,_,V⟩ U.1 T S R
 have C:=(pw.mp p).1;rcases g with g|⟨a,f,g⟩
 .exact NM (Draws.list F i1 l1 m xs) D g (UC g) B i ⟨t,l⟩ C r j n d
 cases G:s.heap.get? a with
 |none=>exact NM (Draws.list F i1 l1 m xs) D g (Y0 g G) B i ⟨t,l⟩ C r j n d
 |some Z=>exact bLe g G B t r l j p n (D.two m) λb P O N M _ H=>q b s.toks (.inr ⟨_,_,P⟩) ⟨_,_,H TO _ D.TOz D.TOi1 D.TOi2 i⟩ O N M λc o L _ K J e=>H c o L K J e
def bQ9{Q:PySem.Fin->sK}(g:A.handled=none)(d:Ro s.heap z TI TO)(r:IsPair s.heap TI (.ref i1) (.ref i2))(h:∃u v,IsPair s.heap TO u v)(p:s.heap.IsListIter i1 l1 k)(n:s.heap.IsListIter i2 l2 k)(j:s.heap.IsList l1 xs)(i:s.heap.IsList l2 ys)(he:xs[k]?=none\/ys[k]?=none)(D:Rc z TI TO i1 i2 l2 [i1,l1])(l:l1≠i1)
  (q:∀b e B,(∀c o,c≠z->c≠TO->c≠i1->c≠i2->s.heap.get? c=some o->b.get? c=some o)->(∃o,b.get? e=some o/\o.cls=.type "StopIteration")->E (.ref e) {s with heap:=b,toks:=B}) :
  wpAny (model prog w) A (Builtin.«zip.__next__» ⟨[.ref z],[]⟩) Q E s:=by
 obtain⟨L,K,h⟩:=h;have t:(∀(s:Shared)(Q:be)(E:be),(s.heap.IsListIter i1 l1 k/\s.heap.IsList l1 xs)->(∀b e,Heap.ExtBut i1 s.heap b->(∃o,b.get? e=some o/\o.cls=.type "StopIteration")->E (.ref e) {s with heap:=b})->wpAny (model prog w) A (Builtin.SmallTypes.nextOf<|.ref i1) Q E s)\/(k<xs.size/\ys[k]?=none):=by
  cases m:xs[k]? with
  |none=>exact .inl λs Q E st C=>bHf g st.1 st.2 m C
  |some x=>exact .inr ⟨(pw.mp m).1,he.resolve_left<|by rw[m];exact nofun⟩
 rcases d with d|⟨a,f,d⟩
 .exact UN (Draws.list g i1 l1 l xs) g D d (UC d) r h ⟨p,j⟩ n i t q
 cases y:s.heap.get? a with
 |none=>exact UN (Draws.list g i1 l1 l xs) g D d (Y0 d y) r h ⟨p,j⟩ n i t q
 |some M=>exact bQ8 g d y r p n j i he (D.two l) λb e J I=>q b e s.toks (λc o H _ G F x=>J c o H G F x) I
end
end Pu
namespace Pu
open PySem PySem.Calls PyProof.Rows PySem.Spec
open Builtin
section
variable{prog:Program}{w:World}{A:Around}{E:be}{s:Shared}{z TI TO i1 i2 l1 l2 S:Addr}{xs ys:wE}
structure ZW(h:Heap)(z TI TO i1 i2 l1 l2 S:Addr)(xs ys:wE)(k:Nat):Prop where
 st:Ro h z TI TO
 ti:IsPair h TI (.ref i1) (.ref i2)
 to:∃u v,IsPair h TO u v
 a:h.IsListIter i1 l1 k
 b:h.IsListIter i2 l2 k
 la:h.IsList l1 xs
 lb:h.IsList l2 ys
theorem ZW.keep{h d:Heap}{k:Nat}(x:ZW h z TI TO i1 i2 l1 l2 S xs ys k)(c:S∉[z,TI,TO,i1,i2,l1,l2])(a:∀b o,b≠S->h.get? b=some o->d.get? b=some o):ZW d z TI TO i1 i2 l1 l2 S xs ys k:=by
 simp at c;obtain⟨s1,m,l,j,i,g,f⟩:=c;obtain⟨u,v,t⟩:=x.to;exact⟨x.st.keep λo e=>a z o (vg s1) e,a _ _ (vg m) x.ti,⟨u,v,a _ _ (vg l) t⟩,x.a.at λo e=>a _ o (vg j) e,x.b.at λo e=>a _ o (vg i) e,x.la.at λo e=>a _ o (vg g) e,x.lb.at λo e=>a _ o (vg f) e⟩
def bLg{k:Nat}{x:Value}{Q:ut}(i:A.handled=none)(W:ZW s.heap z TI TO i1 i2 l1 l2 S xs ys k)(D:Rc z TI TO i1 i2 l2 [i1,l1])(d:l1≠i1)(h:xs[k]?=some x)(g:ys[k]?=some y)
  (q:∀a b,ZW a z TI TO i1 i2 l1 l2 S xs ys (k+1)->IsPair a s.heap.objs.size x y->(∀c o,c≠z->c≠TO->c≠i1->c≠i2->s.heap.get? c=some o->a.get? c=some o)->Q (some<|.ref s.heap.objs.size) {s with heap:=a,toks:=b}):wpAny (model prog w) A (pyNext<|.ref z) Q E s:=by
 obtain⟨u,t,r⟩:=W.st.ob;have f:s.TypeIs (.ref z) "zip":=⟨_,r,rfl⟩;refine xa<|Bo<|Mm f rp (Ki rp f SG
  (bLf i W.st W.ti W.to W.a W.b W.la W.lb h g D d λa b p n m l j hk=>Ma<|q a b ⟨p,hk _ _ D.TIz D.TITO D.TIi1 D.TIi2 W.ti,n,m,l,?_,?_⟩ j hk) (UQ _))
 .have Z:=D.two d;exact W.la.at λo e=>hk _ o Z.l1z Z.l1TO Z.l1i1 Z.l1i2 e
 exact W.lb.at λo e=>hk _ o D.lz D.HI D.II D.ρ e
def bQa{k:Nat}{Q:ut}(f:A.handled=none)(W:ZW s.heap z TI TO i1 i2 l1 l2 S xs ys k)(D:Rc z TI TO i1 i2 l2 [i1,l1])(b:l1≠i1)(he:xs[k]?=none\/ys[k]?=none)
  (q:∀h' tk,(∀c o,c≠z->c≠TO->c≠i1->c≠i2->s.heap.get? c=some o->h'.get? c=some o)->Q none {s with heap:=h',toks:=tk}):wpAny (model prog w) A (pyNext<|.ref z) Q E s:=by
 obtain⟨j,i,g⟩:=W.st.ob;have a:s.TypeIs (.ref z) "zip":=⟨_,g,rfl⟩;refine xa<|Bo<|Mm a rp (Ki rp a SG
  (bQ9 f W.st W.ti W.to W.a W.b W.la W.lb he D b λh' e tk hk he=>?_) (UQ _))
 obtain⟨o,d,h⟩:=he;exact xa<|Aw ⟨o,d,h⟩ vz<|Ma<|q h' tk hk
def JG(h:Heap)(lo:Addr)(xs ys:wE)(b:bv):Prop:=b.Nodup/\∀(j:Nat)(a:Addr),b[j]?=some a->lo<a/\∃x y,xs[j]?=some x/\ys[j]?=some y/\IsPair h a x y
theorem bLi{R:Result->sK}(hh:A.handled=none)(D:Rc z TI TO i1 i2 l2 [i1,l1])(ne:l1≠i1)(r:S∉[z,TI,TO,i1,i2,l1,l2])(hn:min xs.size ys.size<=sizeLine)(lo:Addr)(Xt:∀b∈[z,TO,i1,i2,S],b<=lo)(B:Value){He:Heap}
  (hR:∀p v m c g,(∀b o,b∉[S,z,TO,i1,i2]->He.get? b=some o->p.get? b=some o)->p.get? S=some {cls:=.type "list",dict:=none,data:=.seq m c,slots := #[]}->g.length=min xs.size ys.size->JG p lo xs ys g->m.toList=g.map Value.ref->R (.ok<|.ret B) {s with heap:=p,toks:=v}) :
  ∀(k i:Nat)(h:Heap)(v c:Nat)(m:wE)(g:bv),min xs.size ys.size-i=k->i<=min xs.size ys.size->ZW h z TI TO i1 i2 l1 l2 S xs ys i->(∀b o,b∉[S,z,TO,i1,i2]->He.get? b=some o->h.get? b=some o)->
   h.get? S=some {cls:=.type "list",dict:=none,data:=.seq m c,slots := #[]}->m.toList=g.map Value.ref->g.length=i->JG h lo xs ys g->lo<h.objs.size->
   codeAny (model prog w) A (.builtin "list.extend.loop" ⟨[.ref S,.ref z,B],[]⟩) R {s with heap:=h,toks:=v}:=by
 have J':∀{b:Addr},lo<b->b≠z/\b≠TO/\b≠i1/\b≠i2/\b≠S:=λ{b} f=>by
  refine⟨?_,?_,?_,?_,?_⟩ <;> (rintro rfl;exact absurd (Xt _<|by simp)<|Nat.not_le_of_lt f)
 have q:S≠z/\S≠TO/\S≠i1/\S≠i2:=by
  simp only[mem_cons,not_mem_nil,or_false,not_or]at r;exact⟨r.1,r.2.2.1,r.2.2.2.1,r.2.2.2.2.1⟩
 have C:∀{b:Addr},b∉[S,z,TO,i1,i2]->b≠S/\b≠z/\b≠TO/\b≠i1/\b≠i2:=λ{b} f=>by
  simpa only[mem_cons,not_mem_nil,or_false,not_or] using f
 intro k
 induction k with
 |zero=>
  intro i h v c m g hk hi W d H I l t J;refine jk w_ ?_
  refine xa<|bQa hh W D ne (by
   by_cases K:xs.size<=i
   .exact .inl (fR K)
   exact .inr<|fR<|by lia) λp YV M=>?_
  refine Ma<|hR p YV m c g (λb o f e=>let ⟨_,Z,Y,X,V⟩:=C f;M b o Z Y X V (d b o f e)) (M S _ q.1 q.2.1 q.2.2.1 q.2.2.2 H) (by lia) ⟨t.1,λj a hj=>?_⟩ I
  obtain⟨F,x,y,O,N,E⟩:=t.2 j a hj;obtain⟨U,T,Q,P,_⟩:=J' F;exact⟨F,x,y,O,N,M a _ U T Q P E⟩
 |succ k ih=>
  intro i h v c m g hk hi W d H I l t J;have K:xs[i]?=some xs[i]:=Dj (by lia)
  have hy:ys[i]?=some ys[i]:=Dj (by lia)
  have U':m.size=i:=by rw[<-tw,I,Rb,l]
  refine jk w_ ?_
  refine xa<|bLg hh W D ne K hy λp YV W' L n=>?_
  dsimp only at L n ⊢;have nr:=n S _ q.1 q.2.1 q.2.2.1 q.2.2.2 H;have u:∀b o,b≠S->p.get? b=some o->(p.update S (Obj.mapSeq (·.push (Value.ref h.objs.size)))).get? b=some o:=λb o f e=>(Rl _ _<|vg f).trans e
  have nS:=Xq<|uc H;refine xa<|xp nr rfl (Ma ⟨Zl MG _,ih (i+1) _ YV _ _ (g++[h.objs.size]) (by lia) (by lia) (W'.keep r u)
   (λb o f e=>let ⟨b0,Z,Y,X,V⟩:=C f;u b o b0 (n b o Z Y X V<|d b o f e)) (Vl _ nr rfl) (by rw[toList_push,I,Hg];rfl) (by rw[Ud,l];rfl) ⟨?_,λj a hj=>?_⟩ ?_⟩) (by rw[U'];lia)<|by rw[Array.size_push,U'];lia
  .refine Xl.mpr ⟨t.1,by simp,λa ha b f=>?_⟩
   rw[Hd.mp f];obtain⟨j,hj⟩:=Ul.mp ha;obtain⟨_,_,_,_,_,E⟩:=t.2 j a hj;exact Vd<|uc E
  .rcases PR j g.length with G|G|G
   .rw[ik G]at hj;obtain⟨F,x,y,O,N,E⟩:=t.2 j a hj;obtain⟨U,T,Q,P,f5⟩:=J' F;exact⟨F,x,y,O,N,u a _ f5<|n a _ U T Q P E⟩
   .subst G;have f:=by simpa using hj
    subst f;exact⟨J,_,_,by rwa [l],by rwa [l],u _ _ nS L⟩
   have EA:(g++[h.objs.size])[j]?=none:=qp (by rw[Ud,Ug];lia)
   rw[EA]at hj;cases hj
  have e:=u _ _ nS L;exact Yq J<|uc e
def bHk:typeLookup (.type "zip") "__len__"=pure none:=by kernel_rfl
def bCn:typeLookup (.type "zip") "__length_hint__"=pure none:=by kernel_rfl
def bHl{Q:v4}(a:s.TypeIs (.ref z) "zip")(q:Q true s):wpAny (model prog w) A (Builtin.List.listLengthHint<|.ref z) Q E s:=by
 exact xa<|uz a bHk<|xa<|uz a bCn<|Ma q
def bLj{R:Result->sK}(L:A.handled=none)(W:ZW s.heap z TI TO i1 i2 l1 l2 S xs ys 0)(D:Rc z TI TO i1 i2 l2 [i1,l1])(H:l1≠i1)(m:S∉[z,TI,TO,i1,i2,l1,l2])(I:min xs.size ys.size<=sizeLine)(n:∀b∈[z,TO,i1,i2],b<S)(u:s.heap.get? S=some {cls:=.type "list",data:=.seq #[]})
  (M:∀g p l c h,(∀b o,b∉[S,z,TO,i1,i2]->s.heap.get? b=some o->g.get? b=some o)->g.get? S=some {cls:=.type "list",dict:=none,data:=.seq l c,slots := #[]}->h.length=min xs.size ys.size->JG g S xs ys h->l.toList=h.map Value.ref->R (.ok<|.ret .none) {s with heap:=g,toks:=p}) :
  wpAny (model prog w) A.in1 (Builtin.«list.__init__» ⟨[.ref S,.ref z],[]⟩)
   (λr k=>match r with|.done f=>R (.ok f) k|.again B=>B.quiet=true/\codeAny (model prog w) A B R k) (λe k=>R (.error e) k) s:=by
 refine xa<|xa<|Ej u rfl<|Ma<|((xa<|xp u rfl<|xa<|Zq ?_):wpAny _ _ _ _ _ s);have t:=Vl (Obj.mapSeq<|λ_=>(#[])) u rfl
 have q:∀b o,b≠S->s.heap.get? b=some o->(s.heap.update S<|Obj.mapSeq<|λ_=>(#[])).get? b=some o:=λb o d e=>(Rl _ _<|vg d).trans e
 generalize s.heap.update S _=He at t q;have E:=W.keep m q;obtain⟨U,T,O⟩:=E.st.ob;have i:Shared.TypeIs {s with heap:=He} (.ref z) "zip":=⟨_,O,rfl⟩
 have F:S≠z:=λe=>m (by simp[e])
 refine xa<|QH i ?_;simp only[show Builtin.List.listSameRef (.ref S) (.ref z)=false by simp[Builtin.List.listSameRef,F]]
 refine xa<|CH i T_<|Ki T_ i PySem.F.entry_zip_iter ((Ma ⟨_,rfl,"zip",_,i,rp.lookup,(xa<|Yf<|bHl i<|xa<|ar<|xa<|(xa<|xp t rfl ?_))⟩))<|PySem.F.args_zip_iter_1 _;have x:=Vl (Obj.mapSeq (·.push Value.none)) t rfl;refine xp x rfl ?_
 have v:=Vl (Obj.mapSeq (·.pop)) x rfl;have y:∀b o,b≠S->He.get? b=some o->((He.update S (Obj.mapSeq (·.push Value.none))).update S (Obj.mapSeq (·.pop))).get? b=some o:=λb o d e=>(Rl _ _<|vg d).trans<|(Rl _ _<|vg d).trans e
 refine Ma ⟨Zl MG _,bLi L D H m I S (λb d=>?_) .none (λg p l c h P G J N Q=>M g p l c h P G J N Q)
  _ 0 _ _ _ #[] [] (Nat.sub_zero _) (Ef _) (E.keep m y) (λb o d e=>?_) v rfl rfl ⟨Dt,λj a K=>by simp at K⟩ (uc v)⟩
 .simp at d;rcases d with rfl|rfl|rfl|rfl|rfl
  .exact Co (n _<|by simp)
  .exact Co (n _<|by simp)
  .exact Co (n _<|by simp)
  .exact Co (n _<|by simp)
  exact Pb _
 have C:b≠S:=λz=>d (by simp[z])
 exact y b o C<|q b o C e
def bLk(G:A.handled=none)(W:∀S,ZW s.heap z TI TO i1 i2 l1 l2 S xs ys 0)(D:Rc z TI TO i1 i2 l2 [i1,l1])(y:l1≠i1)(B:min xs.size ys.size<=sizeLine)
  (q:∀d j i c g,(∀b o,b∉[z,TO,i1,i2]->s.heap.get? b=some o->d.get? b=some o)->d.get? s.heap.objs.size=some {cls:=.type "list",dict:=none,data:=.seq i c,slots := #[]}->g.length=min xs.size ys.size->JG d s.heap.objs.size xs ys g->i.toList=g.map Value.ref->Q (.ref s.heap.objs.size) {s with heap:=d,toks:=j}) :
  wpAny (model prog w) A (call (.type "list") [.ref z]) Q E s:=by
 refine callType_codes (Q₁:=λf m=>f=.ref s.heap.objs.size/\m={s with heap:=s.heap.push {cls:=.type "list",data:=.seq #[]} }) PySem.F.called_list (PySem.F.typeCall_list_1 _) PySem.F.entry_list_init (code_list_new _ ⟨rfl,rfl⟩) λf m I=>?_
 obtain⟨rfl,rfl⟩:=I;have l:(s.heap.push {cls:=.type "list",data:=.seq #[]}).get? s.heap.objs.size=some {cls:=.type "list",data:=.seq #[]}:=de _ rfl;have lt:∀b∈[z,TI,TO,i1,i2,l1,l2],b<s.heap.objs.size:=λb a=>by
  have W:=W 0;obtain⟨_,_,v⟩:=W.st.ob;obtain⟨_,_,u⟩:=W.to;obtain⟨_,t,_⟩:=W.a;obtain⟨_,r,_⟩:=W.b;obtain⟨_,p,_⟩:=W.la;obtain⟨_,n,_⟩:=W.lb;simp at a;rcases a with rfl|rfl|rfl|rfl|rfl|rfl|rfl
  .exact uc v
  .exact uc W.ti
  .exact uc u
  .exact uc t
  .exact uc r
  .exact uc p
  exact uc n
 have k:s.heap.objs.size∉[z,TI,TO,i1,i2,l1,l2]:=λe=>absurd (lt _ e)<|uh _
 refine⟨⟨_,l,rfl⟩,PySem.F.args_list_init_2 _ _,bLj G ((W _).keep k λb o _ e=>Xb _ e) D y k B (λb a=>lt b ?_) l λd j i c g F x C H J=>⟨rfl,q d j i c g (λb o a e=>F b o (λz=>?_)<|Xb _ e) x C H J⟩⟩
 .simp at a ⊢;rcases a with h|h|h|h<;>simp[h]
 rcases qc.mp z with z|z
 .exact absurd (uc e) (by rw[z];exact uh _)
 exact a z
end
end Pu
namespace Pu
open PySem PySem.Spec PyProof.Rows L2
open Builtin
theorem LZ{K:Frag}{H:Hp}:∀{e f:dL}{d vs:o0}(ps:bv),bJ K H e d->bJ K H f vs->ps.length=min d.length vs.length->(∀(j:Nat)(a:Addr),ps[j]?=some a->∃x y,d[j]?=some x/\vs[j]?=some y/\H a=some (.tup [x,y]))->bJ K H (so e f) (ps.map V.ref)
 |[],f,d,vs,ps,r,_,c,_=>by
  rw[cZ.mp r]at c;rw[Lm.mp c,so];exact .nil
  exact λ_ _ _ _ z=>by cases z
 |z::e,[],d,vs,ps,_,r,c,_=>by
  rw[cZ.mp r,Xk,Nat.min_zero]at c;rw[Lm.mp c,so];exact .nil
  exact λ_ _ _ _ _ z=>by cases z
 |z::e,w::f,d,vs,ps,i,g,c,h=>by
  obtain⟨u,d,rfl,n,i⟩:=bR.mp i;obtain⟨v,vs,rfl,m,g⟩:=bR.mp g;cases ps with
  |nil=>simp at c
  |cons a ps=>
   obtain⟨x,y,e1,e2,k⟩:=h 0 a rfl;cases e1;cases e2;refine .cons (pX.mpr ⟨a,_,rfl,k,.cons n<|.cons m .nil⟩)<|LZ ps i g (by simp at c;omega) λj b l=>?_
   obtain⟨x,y,e1,e2,k⟩:=h (j+1) b (by simpa using l)
   exact⟨x,y,by simpa using e1,by simpa using e2,k⟩
section
variable {a b:Expr}
theorem Y6(N:X.mg "list"=none)(hm:X.mg "zip"=none)(hc:X.calm=true)(m:PE X a (tI X.K B f))(t:PE X b (tI X.K B g))(nI:Gl X "list":=by rfl)(hg:Gl X "zip":=by rfl)(hs:starEach [a,b] X.env=(false,eval a X.env)::starEach [b] X.env:=by rfl)(ae:starEach [b] X.env=[(false,eval b X.env)]:=by rfl)
  (M:starEach [.Call (.Name "zip" p1) [a,b] [] p2] X.env=(false,eval (.Call (.Name "zip" p1) [a,b] [] p2) X.env)::starEach [] X.env:=by rfl):PE X (.Call (.Name "list" p0) [.Call (.Name "zip" p1) [a,b] [] p2] [] pos) (tI X.K B<|e2 sF f g):=by
 intro aa s σ H Rq I ⟨A,st,d,E,hd,q⟩;obtain⟨x,hx,h2⟩:=R.qa hd;obtain⟨y,hy,F⟩:=R.qa h2;unfold sF at F;split at F
 rotate_left
 .cases F
 rename_i zs ws;cases F;refine Vq<|uV I nI N (by rfl)<|Tq ?_ M rfl
 refine GR ?_
 refine Vq<|uV I hg hm boot_zip<|Tq (Vb ((cN m (cN t fD ae) hs) p2 aa s σ H (λZ H1=>∃v w,Z=[v,w]/\bG H H1/\Bb X.K (hide (A++B) H1) (.lst zs) v/\Bb X.K (hide (A++B) H1) (.lst ws) w) I ⟨A,st,_,E,hx,λv H1 s1 r1=>⟨A,st,_,E.mono s1,hy,λw H2 s2 r2=>⟨v,w,rfl,s1.trans s2,r1.mono<|bG.hide s2,r2⟩⟩⟩) λus s1 ⟨Z,H1,I1,r1,v,w,hv,sm,rv,Jg⟩=>?_) hs<|by rw[ae];rfl
 subst hv;obtain⟨l,n,rfl,hq,rr⟩:=fX.mp Jg;obtain⟨l1,r,rfl,HA,J⟩:=fX.mp rv;obtain rfl:us=[.ref l1,.ref l]:=by
  cases r1 with
  |cons ra K=>cases K with
   |cons K rc=>cases rc;rw[show _=Value.ref l1 from ra,show _=Value.ref l from K]
 obtain⟨its1,HB,Y,hz1⟩:=I1.list<|(aX _ _).seq HA;have BA:=let ⟨o,e,_⟩:=Y.isList;uc e;obtain⟨its,OI,L,hz⟩:=I1.list<|(aX _ _).seq hq;have O:=let ⟨o,e,_⟩:=L.isList;uc e;refine bCj Y.isList L.isList λD su Fg Ng ai Hh lg k=>(NR ?_)
 have e1:=HB.length;have Rm:=OI.length;refine bLk (I1.ok.hd hc) (λS=>⟨.inl su,Fg,⟨_,_,Ng⟩,ai,Hh,Y.isList.at λo e=>k _ o e,L.isList.at λo e=>k _ o e⟩) (ű O BA) (Vd BA) (by simp;lia) λh' tk ja c h hk hS hl P Ag=>?_
 have Ar:h.length=min r.length n.length:=by rw[hl];simp[e1,Rm]
 have lo:=λa m=>let ⟨j,i⟩:=Ul.mp m;(P.2 j a i).1
 have nn:∀a∈h,H1 a=none:=λa m=>I1.Ta.fresh (by have:=lo a m;lia)
 let G:Hp:=λb=>if b∈h then ((r.zip n)[h.idxOf b]?).map (λp=>.tup [p.1,p.2]) else H1 b
 have C:bG H1 G:=λb o e=>by
  show (if b∈h then _ else H1 b)=_
  rw[Pa λz=>by rw[nn b z]at e;cases e]
  exact e
 have Q:G D.objs.size=none:=by
  show (if _∈h then _ else H1 _)=_
  rw[Pa λz=>uh _<|lo _ z]
  exact I1.Ta.fresh (by lia)
 have gA:∀(j:Nat)(a:Addr),h[j]?=some a->∃x y,r[j]?=some x/\n[j]?=some y/\G a=some (.tup [x,y]):=λj a e=>by
  have i:=(Ee.mp e).1;have U:j<r.length:=by lia
  have T:j<n.length:=by lia
  refine⟨r[j],n[j],Kc U,Kc T,?_⟩;show (if a∈h then _ else H1 a)=_
  obtain⟨i,ej⟩:=Ee.mp e;rw[<-ej,P.1.idxOf_getElem j i,Kc (by simp;lia)]
  simp
 have I2:Ba X aa σ (bb G D.objs.size<|.lst<|h.map V.ref) {s1 with heap:=h',toks:=tk}:=by
  refine X3 I1 (λb u e=>hk b u (λz=>?_)<|k b u e) (C.trans<|bN Q) (λb t=>?_)<|λa o m e=>?_
  .have:=uc e;simp only[mem_cons,not_mem_nil,or_false]at z;rcases z with rfl|rfl|rfl|rfl<;>first|exact absurd this (uh _)|exact absurd this<|Nat.not_lt.mpr<|FH _ _
  .have bh:b<D.objs.size:=rg t (by rw[lg];exact FH _ _)
   rw[aW<|Vd bh];show (if b∈h then _ else H1 b)=_
   rw[Pa λz=>uh _<|Yq bh<|lo _ z]
  by_cases t:a=D.objs.size
  .subst t;rw[bK]at e;cases e;refine⟨by rw[Rb,Ar];lia,ja.toList,c,by rw[Ag];exact IL h,by simpa using hS⟩
  rw[aW t]at e;have il:a∈h:=by
   refine Uc λz=>?_
   have e':(if a∈h then ((r.zip n)[h.idxOf a]?).map (λp=>HO.tup [p.1,p.2]) else H1 a)=some o:=e
   rw[Pa z,m]at e';cases e'
  obtain⟨j,i⟩:=Ul.mp il;obtain⟨x,y,e1,e2,W⟩:=gA j a i;obtain⟨_,x',y',f1,f2,f3⟩:=P.2 j a i;rw[W]at e;cases e;obtain⟨x2,U,T⟩:=HB.get e1;obtain⟨y2,g3,g4⟩:=OI.get e2;rw[zw,U]at f1;rw[zw,g3]at f2;obtain rfl:=Vk f1;obtain rfl:=Vk f2;exact⟨show 2<=sizeLine by decide,[_,_],.cons T<|.cons g4 .nil,_,f3,rfl,_,rfl⟩
 exact⟨.ref D.objs.size,_,I2,rfl,q _ _ (sm.trans<|C.trans<|bN Q)<|fB (E.own.mono<|sm.trans C) Q (LZ h (J.mono<|bG.hide C) (rr.mono<|bG.hide C) Ar λj a i=>let ⟨x,y,e1,e2,W⟩:=gA j a i;⟨x,y,e1,e2,by rw[bF<|(E.own.mono sm).free<|nn a<|jg i];exact W⟩)⟩
end
section
variable {o:Expr}
theorem VN{k:db}{f:zh}{H:Hp}{s:Shared}(I:Ba X k f H s){x:D}:∀{ds:dL}{b:o0}{a:cr},bJ X.K H ds b->Ha b a->dJ ds=true->∀(m:Nat)(h:m<a.length)(c:m<ds.length),Qk X.K H x a[m]=Oc ds[m] x
 |[],b,a,r,v,_,m,h,c=>absurd c<|zp _
 |d::ds,b,a,r,v,p,m,h,c=>by
  obtain⟨z,l,e,j,i⟩:=bR.mp r;subst e;simp at p;cases v with
  |cons v g=>
   cases m with
   |zero=>exact RN I j v p.1
   |succ m=>exact VN I i g p.2 m _ _
theorem aX5(S:X.A.units+64<cLine):Ll X "list.index" (λx vs H Q=>∃(p:Addr)(ds:dL)(e:o0)(y:D)(z:V)(n:Nat),x=V.ref p/\vs=[z]/\Qc X.K H p e/\bJ X.K H ds e/\Bb X.K H y z/\ds.findIdx? (λd=>Oc d y)=some n/\ds.length<=10000000/\jV ds<=60/\plain y=true/\dJ ds=true/\Q (.int (n:Int)) H):=by
 intro Z s σ H x vs v P Q I o r h;refine Uc λJ=>?_
 obtain⟨p,ds,e,y,z,n,rfl,rfl,E,c,l,F,U,W,A,f,q⟩:=h;obtain⟨u,rfl,t⟩:=r.one;obtain rfl:v=Value.ref p:=o;obtain⟨a,b,⟨⟨N,M,i,k⟩,B,g,G,_,C⟩,R⟩:=I.list E;have Ob:=b.length;have O:=c.length;obtain⟨L,Y,K⟩:=SQ.mp F;subst G C;have j:n<a.length:=by lia
 refine J ?_
 refine Eo QG ⟨_,g,rfl⟩ y_ (v_ _ _) (z_ p a.toArray B M k u (Qk X.K H y) n (by simpa using j) (by lia) ?_ λm T sT=>?_) ⟨g,λw hw=>?_,?_⟩
 .rwa [JH,VN I c b f n j L]
 .rw[JH,VN I c b f m _ _];simpa using (K m sT)
 .exact Dv I l t A c b f (by lia) w (by simpa using hw)
 exact⟨.int n,H,I.tok _,⟨_,rfl⟩,q⟩
def bCo{r:De}(t:X.A.units+64<cLine)(u:PE X o (tP X.K B f))(D:PA X [e] (tA X.K B r))(l:Pg o "index" X.env:=by rfl)
  (L:tm Ia [e] X.env:=by rfl)
  (j:Jh Ra Ia:=by rfl) (hs:sf e [] X.env:=by rfl) :
  PE X (.Call (.Attribute o "index" Ra) [e] [] Ia) (tI X.K B<|Ni LP f r):=by
 refine cF (Gv qw QG F_ (aX5 t) u D l L j hs rfl) ?_
 rintro σ H Q ⟨A,st,d,b,C,k⟩;obtain⟨x,s,G⟩:=R.qa C;obtain⟨xs,i,a⟩:=R.qa G;unfold LP at a;split at a
 .rename_i h y;obtain⟨n,z,F⟩:=R.qa a;obtain⟨⟨g,K,J,I⟩,E⟩:=aM F;cases E;refine⟨A,st,_,b,s,λv O s1 r1=>?_⟩
  obtain⟨p,m,e1,c,q⟩:=r1.lst;refine⟨by rw[e1];exact .inl ⟨rfl,_,c⟩,A,st,_,b.mono s1,i,λN H2 s2 r2=>?_⟩
  obtain⟨w,rfl,M⟩:=Uv r2;rw[lB]at g;exact⟨p,h,m,y,w,n,e1,rfl,s2.seq c,(q.mono<|aX _ _).mono s2,M.mono<|aX _ _,zW z,g,K,J,I,k _ H2 (s1.trans s2)<|bO.mpr rfl⟩
 cases a
end
def bTm(d c:TE):TE:=λσ H Q=>∀p,H p=none->d σ (bb H p<|.dT []) λx e=>c σ e λy a=>a p=some (.dT [])/\∃b k,x=.ref b/\a b=some (.tup<|k.map kV)/\Q (.ref p) (bb a p<|.dT [(k,y)])
section
variable {a b:Expr} {tk tv:TE}
def bLl(N:X.A.units+64<cLine)(r:PE X a tk)(n:PE X b tv):PE X (.Dict [some a] [b] pos) (bTm tk tv):=by
 intro J s σ H Q I q;rw[arm_eval_Dict,zip_pairTrees [some a] [b] X.env pos rfl rfl,dictDisplay_pairs _ (by simp[pairTrees]) (by simp[pairTrees])]
 refine xa<|xt<|xa<|xa<|wpAny_alloc<|xa<|Yf<|xa<|Vb ((N1 r n P4) J _ σ _ (λi f=>match i with
  |[(x,y)]=>f s.heap.objs.size=some _/\∃b k,x=.ref b/\f b=some (.tup<|k.map kV)/\Q _ (bb f s.heap.objs.size<|.dT [(k,y)])
  |_=>False) (I.laid (t':=s.toks) (λ_ _ q=>Xb _ q) (Pb _)<|L1 s.heap I.big)<|q _<|I.Ta.fresh<|Pb s.heap.objs.size) λL M ⟨i,f,g,d,e⟩=>?_
 cases d with
 |nil=>exact e.elim
 |@cons x p _ _ h t=>
  cases t with
  |cons _ _=>exact e.elim
  |nil=>
   obtain⟨u,v⟩:=p;obtain⟨x,y⟩:=x;obtain⟨e1,P,k,e2,l,e⟩:=e;subst e2;cases ((h.1));obtain⟨z,w,xs,d,G⟩:=Y8 g.Ta e1;cases d;refine Yf<|xa<|xa<|xa<|wpAny_dictSet_heap (show X.A.units<cLine by omega) (Ur g.Ta l) G λO m o=>Ma<|(?_:wpAny _ _ _ _ _ _)
   refine Ma<|Ma<|Ma ?_;obtain⟨q,E,F,j,D,C,B,_,A⟩:=m;refine Ma ⟨.ref s.heap.objs.size,bb f s.heap.objs.size<|.dT [(k,y)],Mx g (by rw[e1];exact True.intro) o ⟨q,j⟩ ⟨show 1<=sizeLine by decide,w,_,(KT.put .nil k l h.2).keeps λc K ec=>?_,q,E,F,j,D,C,B,A⟩,rfl,e⟩
   rwa [aW<|P8 ec e1<|λz=>nomatch z]
def d4(t:X.A.units+64<cLine)(i:Nat) (j:PE X a (tI X.K B g)) (s:PE X b (tI X.K B f)) (E:X.N.Nodup) (y:X.N[i]?=some x:=by rfl) (q:Loc X.env.scope x:=by exact Dl rfl) (hs:aj (.Dict [some a] [b] dp) (some<|.Name x pos') pos.line X.env:=by rfl)
  (C:sj X x:=by first|exact .inl rfl|exact .inr rfl|assumption):PS X (.Assign [.Name x pos'] (.Dict [some a] [b] dp) pos) (tS X.K B<|nE i g f):=kW (nq E y q (bLl t j s) hs C) (by
 rintro T σ H ⟨A,st,r,h,w,p⟩;obtain⟨k,j,J⟩:=R.qa w;obtain⟨d,D,I⟩:=R.qa J;obtain⟨⟨P,O⟩,F⟩:=aM I;cases F;intro a l;refine⟨A,st,k,h.mono<|bN l,j,λu S s1 r1=>⟨A,st,d,(h.mono<|bN l).mono s1,D,λv H2 s2 r2=>?_⟩⟩
 obtain⟨e,Q,N,M,L⟩:=eK (r1.mono<|aX _ _) P;subst N M;refine⟨(s2 _ _<|s1 _ _ bK),Q,e,rfl,s2 _ _ L,?_⟩
 let G:=λb=>if b=a then none else H2 b
 have m:bG H G:=λb o z=>by
  have c:=bD z l;show (if b=a then none else H2 b)=_
  rw[Pa c];exact s2 _ _<|s1 _ _<|by rwa [aW c]
 have n:G a=none:=jb rfl;have K:bb H2 a (.dT [(e,v)])=bb G a (.dT [(e,v)]):=by
  funext b
  by_cases c:b=a
  .subst c;rw[bK,bK]
  rw[aW c,aW c];exact(Pa c).symm
 rw[K];exact p _ _ _ ((Le.of m).trans<|Bv n)<|(h.mono m).Nn i n (.inr ⟨rfl,[(e,v)],rfl,rfl,rfl⟩)<|.cons ((DD O r2).mono TN) .nil)
end
end Pu
namespace Pu
open PySem
structure TI(b:Bool)(t:SetTable):Prop where
 rise:t.place.toList.Pairwise (· < ·)
 D':t.dummies = #[]
 led:t.led=b
theorem OM(xs:GE)(j:Nat)(p:xs.toList.Pairwise (· < ·)):∀(c lo d:Nat),d-lo<=c->lo<=d->d<=xs.size->(∀(i:Nat)(a:Nat),i<lo->xs[i]?=some a->a<j)->(∀(i:Nat)(a:Nat),d<=i->xs[i]?=some a->j<=a)->
  (∀(i:Nat)(a:Nat),i<SetTable.below.go xs j c lo d->xs[i]?=some a->a<j)/\(∀(i:Nat)(a:Nat),SetTable.below.go xs j c lo d<=i->xs[i]?=some a->j<=a)/\SetTable.below.go xs j c lo d<=xs.size
 |0,lo,d,y,w,l,o,n=>by
  have e:lo=d:=by lia
  subst e;exact⟨o,n,l⟩
 |c+1,lo,d,y,w,l,o,n=>by
  unfold SetTable.below.go;have t:∀(i k:Nat)(a b:Nat),i<k->xs[i]?=some a->xs[k]?=some b->a<b:=λi k a b q f u=>by
   rw[<-vp]at f u;obtain⟨s,A⟩:=Ee.mp f;obtain⟨B,z⟩:=Ee.mp u;have:=LG.mp p i k s B q
   rwa [A,z]at this
  by_cases h:lo<d
  .rw[jb h];have v:(lo+d)/2<xs.size:=by lia
   have g:=Dj v;have x:xs.getD ((lo+d)/2) j=xs[(lo+d)/2]:=by rw[WG,g];rfl
   dsimp only;rw[x]
   by_cases m:xs[(lo+d)/2] < j
   .rw[jb m];refine OM xs j p c _ _ (by lia) (by lia) l (λi a s f=>?_) n
    by_cases r:i=(lo+d)/2
    .subst r;rw[g]at f;cases f;exact m
    exact Yq (t i _ a _ (by lia) f g) m
   rw[Pa m];refine OM xs j p c _ _ (by lia) (by lia) (by lia) o λi a s f=>?_
   by_cases r:i=(lo+d)/2
   .subst r;rw[g]at f;lia
   have:=t _ i _ a (by lia) g f;lia
  rw[Pa h];have e:lo=d:=by lia
  subst e;exact⟨o,n,l⟩
theorem MZ(xs:GE)(j:Nat)(b:xs.toList.Pairwise (· < ·)):(∀(i:Nat)(a:Nat),i<SetTable.below xs j->xs[i]?=some a->a<j)/\(∀(i:Nat)(a:Nat),SetTable.below xs j<=i->xs[i]?=some a->j<=a)/\SetTable.below xs j<=xs.size:=
 OM xs j b xs.size 0 xs.size (by lia) (Ef _) (Pb _) (λi a h=>absurd h<|zp _) λi a h c=>by
  have:=(pw.mp c).1;lia
theorem Ų(xs:GE)(j:Nat)(f:xs.toList.Pairwise (· < ·))(q:xs[SetTable.below xs j]?≠some j):(SetTable.insertAt xs (SetTable.below xs j) j).toList.Pairwise (· < ·):=by
 obtain⟨r,m,s⟩:=MZ xs j f;have e:(SetTable.insertAt xs (SetTable.below xs j) j).toList=xs.toList.take (SetTable.below xs j)++j::xs.toList.drop (SetTable.below xs j):=by
  unfold SetTable.insertAt;simp;rw[YQ (by simp)]
 rw[e,List.pairwise_append];have n:∀a∈xs.toList.drop _,j<a:=λa i=>by
  obtain⟨k,c⟩:=Ul.mp i;rw[List.getElem?_drop,vp]at c;have:=m _ a (FH _ _) c;rcases Nat.lt_or_eq_of_le this with h|h
  .exact h
  subst h;exfalso;have d:SetTable.below xs j<xs.size:=by have:=(pw.mp c).1;lia
  have t:=m _ _ (Pb _)<|Dj d
  by_cases p:k=0
  .subst p;exact q c
  have o:=pw.mp c;have:=LG.mp f _ _ (by simpa using d) (by simpa using o.1) (by lia)
  rw[Z_,Z_,o.2]at this;lia
 refine⟨f.sublist<|List.take_sublist _ _,List.pairwise_cons.mpr ⟨n,f.sublist<|List.drop_sublist _ _⟩,λa i b d=>?_⟩
 have l:a<j:=by
  obtain⟨k,c⟩:=Ul.mp i;rw[List.getElem?_take]at c;split at c
  .rename_i g;rw[vp]at c;exact r k a g c
  cases c
 rcases qc.mp d with rfl|d
 .exact l
 exact Yq l<|n b d
theorem i4(t:SetTable)(hashAt:Nat->Int)(h:Int)(g:t.dummies = #[]):∀(c:Nat)(p:SetTable.Probe)(j:Nat)(d:Option Nat),SetTable.probe.go t hashAt h c p=some (.empty j d)->t.slot j=.empty/\d=p.dummy
 |0,p,j,d,e=>by cases e
 |c+1,p,j,d,e=>by
  unfold SetTable.probe.go at e;cases f:t.slot p.j with
  |empty=>rw[f]at e;cases e;exact⟨f,rfl⟩
  |dummy=>
   unfold SetTable.slot at f;dsimp only at f;split at f
   .cases f
   rw[g]at f;cases f
  |live i=>
   rw[f]at e;dsimp only at e;split at e
   .cases e
   obtain⟨a,b⟩:=i4 t hashAt h g c _ j d e;exact⟨a,b.trans (by
    unfold SetTable.advance;split<;>rfl)⟩
def bCp{t:SetTable}{h:Int} {w:Bool} (f:t.dummies = #[]) (e:t.freeSlot h=some (j,w)):t.slot j=.empty:=by
 unfold SetTable.freeSlot at e;split at e
 .rename_i g d c;obtain⟨a,b⟩:=i4 t _ h f _ _ _ _ c;subst b;cases e;exact a
 cases e
def bCq{t:SetTable} (h:t.slot j=.empty):t.place[SetTable.below t.place j]?≠some j:=λe=>by
 unfold SetTable.slot at h;rw[jb (by rw[e];exact beq_self_eq_true _)]at h
 cases h
theorem TI.put{b:Bool}{t:SetTable}{j:Nat}(x:TI b t)(h:t.slot j=.empty):TI b (t.put j).1:=by
 refine⟨Ų t.place j x.rise<|bCq h,?_,x.led⟩;show (if SetTable.has t.dummies j then _ else t.dummies)=_
 rw[x.D'];rfl
def aX6(n:Nat):(Array.range n).toList.Pairwise (· < ·):=by
 rw[Array.toList_range];exact eR
def TI.Hk{t:SetTable}(x:TI b t)(n:Nat):TI b (t.standIn n):=⟨aX6 n,rfl,x.led⟩
def TI.Up{t:SetTable}(x:TI b t)(n:Nat):TI b (t.orStandIn n):=by
 unfold SetTable.orStandIn;split
 .exact x
 exact x.Hk n
def TI.lay{t:SetTable}(x:TI b t)(a:lw)(h:Int)(v:Value):TI b (layNew t a h v).2.1:=by
 unfold layNew;split
 .rename_i j w e;exact(x.put<|bCp x.D' e).Up _
 exact x.Hk _
def TI.DB{t:SetTable}(x:TI b t)(q:lw)(n:Nat):TI b (relayAll t q n).2.1:=by
 unfold relayAll;split
 .rename_i l i e;have y:TI b l:=by
   obtain⟨d,_,e2⟩:=Option.bind_eq_some_iff.mp e;cases e2;refine⟨?_,rfl,x.led⟩;rw[List.map_filterMap];refine(eR).filterMap _ λa j m c g r h=>?_
   have p:c=a:=by
    cases f:(d.getD a none) with
    |none=>rw[f]at g;cases g
    |some k=>rw[f]at g;cases g;rfl
   have o:r=j:=by
    cases f:(d.getD j none) with
    |none=>rw[f]at h;cases h
    |some k=>rw[f]at h;cases h;rfl
   rwa [p,o]
  dsimp only;split
  .exact y
  exact x.Hk _
 exact x.Hk _
theorem TI.fresh(b:Bool):TI b (.fresh 0 0 b):=⟨List.Pairwise.nil,rfl,rfl⟩
def j4(t:SetTable)(a:lw)(h:Int)(v:Value):(layNew t a h v).1.toList.Perm (a.toList++[(h,v)]):=by
 have p:=layNew_perm t a h v
 rwa [toList_push]at p
def numOf:Value->Int
 |.int n _=>n
 |_=>0
def mw(e:Int×Value):Prop:=∃(n:Int)(t:Tok),e=(hashInt n,.int n t)
structure dc(b:Bool)(a:Addr)(ns:lv)(es:lw)(ep:Nat)(t:SetTable)(h:Heap):Prop where
 obj:h.get? a=some {cls:=.type "set",dict:=none,data:=.set es ep t,slots := #[]}
 fit:t.fits es.size=true
 ti:TI b t
 perm:(es.toList.map λe=>numOf e.2).Perm ns
 nums:∀e∈es.toList,mw e
def dc.keep{c:lw} {t:SetTable} (x:dc b a ns c ep t h) (k:∀o,h.get? a=some o->h'.get? a=some o):dc b a ns c ep t h':=
 ⟨k _ x.obj,x.fit,x.ti,x.perm,x.nums⟩
theorem dc.size{b:Bool}{a:Addr}{c:lv}{d:lw}{e:Nat}{t:SetTable}{h:Heap}(x:dc b a c d e t h):d.size=c.length:=by
 simpa using x.perm.length_eq
def dc.put{j f:lw} {t t':SetTable} (x:dc b a ns j ep t h) (g:t'.fits f.size=true) (i:TI b t') (c:(f.toList.map λe=>numOf e.2).Perm Mo) (d:∀e∈f.toList,mw e) :
  dc b a Mo f (ep+1) t' (h.update a<|Obj.putSet f t'):=by
 refine⟨?_,g,i,c,d⟩;rw[Vl _ x.obj rfl];rfl
def ip(a:lv)(k:Int):lv:=if a.any (· == k) then a else a++[k]
def bLm(a:lv)(k:Int):(ip a k).length<=a.length+1:=by
 unfold ip;split
 .exact Io _
 simp
section
variable{w:World}{A:Around}
def bLn{b:List (Int×Value)}(a:∀e∈b,mw e):ElemsOf (intKind prog w) b:=λe c=>by
 obtain⟨n,t,rfl⟩:=a e c;exact⟨⟨n,Ez prog w n t,rfl⟩,rfl⟩
def bLo{f:List (Int×Value)} (b:∀e∈f,mw e) (a:(f.map λe=>numOf e.2).Perm ns) (k:Int):(f.findIdx?<|λe=>(intKind prog w).is k e.2).isSome=ns.any (· == k):=by
 rw[Y_,Cw,ww,ww];constructor
 .rintro⟨e,c,d⟩;obtain⟨n,t,rfl⟩:=b e c;exact⟨n,a.mem_iff.mp<|gd.mpr ⟨_,c,rfl⟩,Nm.mpr<|(intKind prog w).inj _ n k (Ez prog w n t) d⟩
 rintro⟨n,i,d⟩;obtain⟨e,c,h⟩:=gd.mp<|a.mem_iff.mpr i;obtain⟨g,t,rfl⟩:=b e c;refine⟨_,c,?_⟩;rw[<-(Nm.mp d),<-(h)];exact Ez prog w g t
def WN{Q:wP}(c:Bool)(q:Q () s):wpAny (model prog w) A (match c with|true=>rule "set.scan.the-table-gave-way"|false=>pure ()) Q E s:=by
 cases c with
 |true=>exact ar q
 |false=>exact Ma q
def xf{l f:lw}{m:Nat}{t t':SetTable}{d:Bool}{R:Option Bool->Shared->Prop}{g:Bool->Sem Unit}
  (z:∀(c:Bool)(u:Shared)(Q:wP),Q () u->wpAny (model prog w) A (g c) Q E u) (x:dc b a ns l m t s.heap)
  (v:f.size<scanBound) (k:t'.fits f.size=true) (n:TI b t') (h:(f.toList.map λe=>numOf e.2).Perm Mo) (i:∀e∈f.toList,mw e)
  (r:∀(j:Heap) (l:lw) (m:Nat) (t:SetTable),Heap.SameBut a s.heap j->dc b a Mo l m t j->R (some true) {s with heap:=j}) :
  wpAny (model prog w) A (storeSet a f t' >>= λ_=>if (!d&&t'.tooFull)=true then g (relayAll t' f<|SetTable.grown f.size).2.2 >>= λ_=>storeSet a (relayAll t' f<|SetTable.grown f.size).1 (relayAll t' f<|SetTable.grown f.size).2.1 >>= λ_=>pure (some true) else pure (some true)) R E s:=by
 have y:=x.put k n h i;have o:=Zs s.heap a<|Obj.putSet f t';refine xa<|wpAny_storeSet_of x.obj rfl ?_<|DH v
 by_cases q:(!d&&t'.tooFull)=true
 .rw[jb q];have p:=relayAll_perm t' f<|SetTable.grown f.size;have sz:=by simpa using p.length_eq
  exact xa<|z _ _ _<|xa<|wpAny_storeSet_of y.obj rfl (Ma<|r _ _ _ _ (o.trans<|Zs _ a _)<|y.put (relayAll_fits t' f _) (n.DB f _) ((p.map _).trans h) λe B=>i e<|p.mem_iff.mp B)<|DH<|by rwa [sz]
 rw[Pa q];exact Ma<|r _ _ _ _ o y
theorem bQb{f:lw}{h:Nat}{t:SetTable}{k:Int}{Q:v4}(x:dc b a ns f h t s.heap)(H:ns.length+1<scanBound)
  (q:∀(c:Bool)(g:Heap) (f:lw) (h:Nat) (t:SetTable),Heap.SameBut a s.heap g->dc b a (ip ns k) f h t g->Q c {s with heap:=g}) :
  wpAny (model prog w) A (setAddHashed a (.int k tk)<|hashInt k) Q E s:=by
 have B:ElemsOf (intKind prog w) f.toList:=bLn x.nums;have l:=bLo (prog:=prog) (w:=w) x.nums x.perm k;have n:∀e∈(layNew t f _ _).1.toList,mw e:=λe i=>by
  rcases tf.mp ((j4 t f _ _).mem_iff.mp i) with i|i
  .exact x.nums e i
  exact⟨k,tk,Hd.mp i⟩
 have m:=by
  have:=(j4 t f (hashInt k)<|.int k tk).map λe=>numOf e.2
  rw[Hg]at this;exact this.trans<|x.perm.append_right _
 have u:(layNew t f (hashInt k)<|.int k tk).1.size<scanBound:=by
  have:=m.length_eq;simp at this;lia
 refine Yf<|xa<|vw x.obj rfl x.fit ?_;dsimp only;rw[jb<|byScan_of rfl (by rw[x.size];lia) B]
 refine xa<|xa<|ar<|xa<|wpAny_setScan_of (Ez prog w k tk) x.obj rfl x.fit B ?_;cases v:f.toList.findIdx? _ with
 |some j=>
  rw[v]at l;have:ip ns k=ns:=jb l.symm;rw[this]at q;exact Ma<|Ma<|q false s.heap f h t (Heap.SameBut.refl a s.heap) x
 |none=>
  rw[v]at l;have:ip ns k=ns++[k]:=by unfold ip;rw[<-l];rfl
  rw[this]at q;have o:=x.ti.lay f (hashInt k)<|.int k tk;have r:=layNew_fits t f (hashInt k)<|.int k tk;generalize layNew t f _ _=L at m n u o r ⊢;obtain⟨D,C,d,I⟩:=L;refine xa<|WN _ ?_
  by_cases z:C.plain=true
  .rw[jb z];exact xa<|Ma<|xf (λc G F g=>WN c g) x u r o m n λg f h t p y=>Ma<|q true g f h t p y
  rw[Pa z];exact xa<|Ma<|xf (λc G F g=>WN c g) x u r o m n λg f h t p y=>Ma<|q true g f h t p y
end
end Pu
namespace Pu
open PySem PyProof.Rows
section
variable{prog:Program}{w:World}{A:Around}{E:be}{s:Shared}
def Qs(val:Nat->Int):Nat->List Int
 |0=>[]
 |i+1=>ip (Qs val i)<|val i
theorem Z6(val:Nat->Int):∀i,(Qs val i).length<=i
 |0=>Pb _
 |i+1=>Xd (bLm _ _)<|Nat.succ_le_succ<|Z6 val i
def jT(b:Bool)(a:Addr)(c:lv)(h:Heap):Prop:=∃d e t,dc b a c d e t h
theorem jT.keep{b:Bool}{a:Addr}{c:lv}{h d:Heap}(x:jT b a c h)(k:∀o,h.get? a=some o->d.get? a=some o):jT b a c d:=
 let ⟨e,f,t,y⟩:=x
 ⟨e,f,t,y.keep k⟩
def bQc{k:Int}{t:Tok}{Q:v4}(x:jT b a ns s.heap)(e:ns.length+1<scanBound)
  (q:∀(c:Bool)(d:Heap),Heap.SameBut a s.heap d->jT b a (ip ns k) d->Q c {s with heap:=d,toks:=s.toks+1}) :
  wpAny (model prog w) A (setAdd a<|.int k t) Q E s:=by
 obtain⟨l,m,j,y⟩:=x;exact Yf<|xa<|(intKind prog w).pyHash (Ez prog w k t)<|bQb y e λc d h i f g z=>q c d g ⟨h,i,f,z⟩
variable{I:Addr}{fp wr:bv}{G:Array GenState->Array GenState->Prop}{n:Nat}{P:Nat->Value->Prop}{St:Nat->Shared->Prop}
theorem bLp(W:WalksS prog w A.in1 I fp wr G n P St){R:Result->sK}(a:Addr)(b:Bool)(j:a∉fp)(val:Nat->Int)(Hr:∀i v,P i v->∃t,v=.int (val i) t)(E:n+1<scanBound) :
  ∀(m i:Nat)(s:Shared),i+m=n->St i s->jT b a (Qs val i) s.heap->
   (∀f,Moved (a::wr) G s f->jT b a (Qs val n) f.heap->R (.ok<|.ret .none) f)->
   codeAny (model prog w) A (.builtin "set.update.loop" ⟨[.ref a,.ref I],[]⟩) R s:=by
 have u:=λh=>j<|W.sub _ h
 have q:∀c∈wr,c∈a::wr:=λc g=>Mb _ g
 intro m
 induction m with
 |zero=>
  intro i s e st x r;subst e;refine jk F.entry_set_update_loop ?_
  rw[Around.under_plainId F.plain_set_update_loop _];exact xa<|W.done s _ _ st λf k=>Ma<|r f (k.mono q)<|x.keep λo l=>k.heap a o u l
 |succ m D=>
  intro i s e st x r;refine jk F.entry_set_update_loop<|xa<|W.item i s _ _ (by lia) st λv f pv st' k=>?_
  obtain⟨t,rfl⟩:=Hr i v pv;refine xa<|Yf<|bQc (x.keep λo l=>k.heap a o u l) (by have:=Z6 val i;lia) λc H B y=>Ma ⟨Zl F.plain_set_update_loop _,?_⟩
  have d:=λc g=>B.2 c g
  refine D (i+1) _ (by lia) (W.frame _ f _ _ st' (Io _) λc g o l=>?_) y λC p z=>?_
  .rwa [d c λh=>j<|h ▸ g]
  refine r C (Moved.trans W.gtrans ((k.mono q).then_heap (Io _) λc o g l=>?_) p) z
  rwa [d c λh=>g<|h ▸ qb]
end
section
variable{prog:Program}{w:World}{A:Around}{E:be}{s:Shared}
def Hi(w:World):Bool:=w.params.followText "set-order"
def Jx(w:World):Obj:={cls:=.type "set",dict:=none,data:=.set #[] 0 (.fresh 0 0<|!Hi w),slots := #[]}
def bLq(a:Value) (q:Q (.ref s.heap.objs.size) {s with heap:=s.heap.push (Jx w)}) :
  codeAny (model prog w) A (.call (.builtin "set.__new__") ⟨[.type "set",a],[]⟩) (wants Q E) s:=by
 refine codeAny_of_tree<|(xa<|TH (F.newCall_set_1 a)<|Ma ⟨Zl F.plain_set_new _,jk F.entry_set_new ?_⟩);unfold Builtin.«set.__new__» Builtin.Frozenset.newClass;have sub:=sub_set_self;dsimp only
 wp_walk
 exact Bw<|Ma<|xa<|wpAny_alloc<|Ma<|Ma q
def bCs(w:World) (o:h.get? a=some (Jx w)):jT (!Hi w) a [] h:=
 ⟨#[],0,_,o,rfl,TI.fresh _,List.Perm.nil,λe b=>nomatch b⟩
def bLr{l:Addr} {R:Result->sK} (y:A.handled=none) (o:s.heap.get? a=some (Jx w)) (t:l≠a) (d:s.heap.IsList l items) (Hr:IntsAre items.toList ns) (n:items.size+1<scanBound)
  (r:∀(g:Heap)(p:Nat),jT (!Hi w) a (Qs (λi=>ns.getD i 0) items.size) g->(∀b o,b≠a->s.heap.get? b=some o->g.get? b=some o)->R (.ok<|.ret .none) {s with heap:=g,toks:=p}) :
  wpAny (model prog w) A.in1 (Builtin.«set.__init__» ⟨[.ref a,.ref l],[]⟩) (λj s'=>match j with|.done f=>R (.ok f) s'|.again m=>m.quiet=true/\codeAny (model prog w) A m R s') (λe s'=>R (.error e) s') s:=by
 obtain⟨q,c,B,D,L⟩:=id d;obtain⟨K,I,J,C⟩:=q;subst B;have H:=F.sub_list_set;have G:=F.sub_list_frozenset;unfold Builtin.«set.__init__» noKeywords Builtin.Frozenset.updateFrom;generalize u:pyIter=it
 wp_walk
 subst u;refine ft d<|xa<|wpAny_runValue (bLp ((Dz (by simp[y]) _ l (Vd<|uc c) items).toS) a _ (by
  intro h;rcases qc.mp h with h|h
  .exact(Vd<|uc o) h
  exact t (Hd.mp h).symm) _ (λi v E=>IntsAre.int_at Hr i v<|by rwa [vp]) n items.size 0 _ (Kw _)
  ⟨⟨_,de _ rfl,rfl,rfl⟩,d.push _⟩ (bCs w<|Xb _ o) λs' mv x=>?_)
 rw[Moved.eq_with mv];refine Ma<|Ma<|r s'.heap s'.toks x λb o z k=>mv.heap b o (λhm=>?_)<|Xb _ k
 rcases qc.mp hm with h|h
 .exact z h
 exact absurd (Hd.mp h)<|Vd<|uc k
def bLs{l:Addr} (y:A.handled=none) (j:s.heap.IsList l items) (Hr:IntsAre items.toList ns) (p:items.size+1<scanBound)
  (q:∀(a:Heap)(c:Nat),jT (!Hi w) s.heap.objs.size (Qs (λi=>ns.getD i 0) items.size) a->(∀b o,s.heap.get? b=some o->a.get? b=some o)->Q (.ref s.heap.objs.size) {s with heap:=a,toks:=c}) :
  wpAny (model prog w) A (call (.type "set") [.ref l]) Q E s:=by
 have M:=Bz.made;have L:=Bz.sub;have K:=F.typeCall_set_1<|.ref l;refine Cz<|codeAny_of_tree<|(Ma ⟨Code.quiet_builtin _ (by decide+kernel),jk F.entry_type_call ?_⟩)
 rw[Around.under_plain (weight_type_call_type "set" [.ref l] []) rfl]
 repeat (any_goals (first|assumption|wp_step))
 refine yp (bLq (.ref l) (E:=E) (Q:=λv m=>v=.ref s.heap.objs.size/\m={s with heap:=s.heap.push _}) ⟨rfl,rfl⟩) λd m C=>?_
 match d,C with
 |.error e,f=>exact f
 |.ok (.ret v),⟨t,u⟩=>
  subst t;subst u;have ob:(s.heap.push _).get? s.heap.objs.size=some (Jx w):=de _ rfl;have z:Shared.TypeIs {s with heap:=s.heap.push (Jx w)} (.ref s.heap.objs.size) "set":=⟨_,ob,rfl⟩
  have J:=Bz.init.lookup;have I:=Bz.init.bind<|.ref s.heap.objs.size
  repeat (any_goals (first|assumption|wp_step))
  refine yp (codeAny_call_builtin (R:=wants (λr n=>r=.none/\Q _ n) E) Bz.init.plain F.entry_set_init (check_set_init_1 z
   (bLr (by simp[y]) ob (let ⟨_,h,_⟩:=j;Vd (uc h)) (j.push _) Hr p λa c x k=>⟨rfl,q a c x λb o g=>k b o (Vd<|uc g)<|Xb _ g⟩))) λD n B=>?_
  match D,B with
  |.error e,f=>exact f
  |.ok (.ret _),⟨H,G⟩=>
   repeat (any_goals (first|assumption|wp_step))
end
theorem RK{a:Type}:∀(xs:List a)(i:Nat)(x:a),xs[i]?=some x->(x::xs.eraseIdx i).Perm xs
 |[],_,_,h=>nomatch h
 |y::xs,0,x,h=>by cases h;exact KH _
 |y::xs,i+1,x,h=>by
  exact(List.Perm.swap y x _).trans ((RK xs i x<|by simpa using h).cons y)
theorem Z0{b:Type}(next:tz):∀(n k:Nat)(left:List b)(a:Array b),left.length=n->(pickOrder.go next n k left a).toList.Perm (a.toList++left)
 |0,k,left,a,h=>by
  cases left with
  |nil=>rw[Nh];exact KH _
  |cons _ _=>cases h
 |n+1,k,left,a,h=>by
  unfold pickOrder.go;have c:next k%left.length<left.length:=mod_lt _ (by lia)
  have e:=Kc c;rw[e];refine(Z0 next n (k+1) _ _ (by rw[t_ c];lia)).trans ?_
  rw[toList_push,Bh];exact(RK left _ _ e).append_left _
def ā(next:tz)(xs:Array α):(pickOrder next xs).toList.Perm xs.toList:=Z0 next xs.size 0 xs.toList #[] tw
section
variable{w:World}{A:Around}
def bCt{s:Shared}{a:Source} {Q:Nat->Shared->Prop} (b:n≠0) (q:∀i d,i<n->Q i {s with drawn:=d}):wpAny (model prog w) A (choose a n) Q E s:=
 λ_ _ _=>⟨b,q _ _<|mod_lt _<|Nat.pos_of_ne_zero b⟩
theorem bLt{a:Type}(n:Nat):∀(xs:List a)(s:Shared)(Q:List a->sK),xs.length=n->(∀ys d,ys.Perm xs->Q ys {s with drawn:=d})->wpAny (model prog w) A (drawOrder n xs) Q E s:=by
 induction n with
 |zero=>
  intro xs s Q h q;have e:=Lm.mp h;subst e;exact Ma<|q [] s.drawn<|KH _
 |succ n c=>
  intro xs s Q h q;have b:xs≠[]:=λe=>by rw[e]at h;cases h
  obtain⟨x,l,rfl⟩:=List.exists_cons_of_ne_nil b;refine((xa<|bCt (by simp) λi d hi=>?_):wpAny _ A (choose .order (x::l).length >>= λi=>match (x::l)[i]? with|some y=>drawOrder n _ >>= λr=>pure _|none=>unsupported "internal:drawOrder") Q E s)
  have e:=Kc hi;rw[e];exact xa<|c _ _ _ (by rw[t_ hi];lia) λys g f=>Ma<|q _ g<|(f.cons _).trans<|RK _ _ _ e
end
def rP:Slot "set_iterator" "__next__" "set_iterator.__next__":=
 .of (owner:="set_iterator") (n:="__next__") (by kernel_rfl) (by decide+kernel) (by decide+kernel) (by decide+kernel) (.inl<|by decide+kernel) (by kernel_rfl)
def ED:entryFor table "set_iterator.__next__"=some Builtin.«set_iterator.__next__» := entryFor_of_tree (by kernel_rfl)
def gE(a:Value):argsOk "set_iterator.__next__" ⟨[a],[]⟩:=by
 kernel_rfl
def o4:Slot "set_iterator" "__iter__" "set_iterator.__iter__":=
 .of (owner:="set_iterator") (n:="__iter__") (by kernel_rfl) (by decide+kernel) (by decide+kernel) (by decide+kernel) (.inl<|by decide+kernel) (by kernel_rfl)
def bCu:entryFor table "set_iterator.__iter__"=some Builtin.«dict_keyiterator.__iter__» := entryFor_alias (id':="dict_keyiterator.__iter__") (by kernel_rfl) rfl (by decide+kernel) (by kernel_rfl)
def bHm(a:Value):argsOk "set_iterator.__iter__" ⟨[a],[]⟩:=by
 kernel_rfl
def aX8:entryFor table "set.__iter__"=some Builtin.«frozenset.__iter__» := entryFor_alias (id':="frozenset.__iter__") (by kernel_rfl) rfl (by decide+kernel) (by kernel_rfl)
def bLu:typeLookup (.type "set") "__len__"=pure (some<|.builtin "set.__len__"):=by kernel_rfl
def uo(first:Value)(i:Nat)(a:Addr)(n b:Nat):Obj:={cls:=.type "set_iterator",dict:=none,data:=.fields #[first,.int i 0,.ref a,.int n 0,.int b 0],slots := #[]}
section
variable{prog:Program}{w:World}{A:Around}{E:be}{s:Shared}
def bLv{e:lw} {t:SetTable} {f:Nat} {v:Value} {Q:ut}
  (d:s.heap.get? I=some (uo (.int c 0) i a e.size ep)) (x:dc b a ns e ep t s.heap)
  (k:∀(A:Around)(E:be) (Q:xz),Q (some (v,f)) s->wpAny (model prog w) A (setNext a c i ep) Q E s)
  (q:∀g,g.get? I=some (uo (.int f 0) (i+1) a e.size ep)->Heap.SameBut I s.heap g->Q (some v) {s with heap:=g}) :
  wpAny (model prog w) A (pyNext<|.ref I) Q E s:=by
 have h:s.TypeIs (.ref I) "set_iterator":=⟨_,d,rfl⟩;refine xa<|Bo<|Mm h rP<|Ki rP h ED (xa<|Ma<|xa<|Ew d rfl ?_)<|gE _;dsimp only;refine xa<|mz x.obj rfl x.fit ?_;rw[Pa (by simp)]
 refine xa<|k _ _ _<|xa<|Wq d rfl (by simp) ?_
 have j:(s.heap.update I (Obj.mapFields (·.setIfInBounds 0 (rawInt f)))).get? I=some (uo (.int f 0) i a e.size ep):=by
  rw[Vl _ d<|gz<|uw rfl _];rfl
 refine xa<|Wq j rfl (by simp)<|Ma ⟨v,rfl,Ma<|q _ ?_<|(Zs ..).trans<|Zs ..⟩
 rw[Vl _ j<|gz<|uw rfl _];rfl
def b7{R:be}{Q:Fin->sK}(d:A.handled=none)(r:∀(a:Heap)(e:Addr),(∀b o,s.heap.get? b=some o->a.get? b=some o)->(∃o,a.get? e=some o/\o.cls=.type "StopIteration")->R (.ref e) {s with heap:=a}) :
  wpAny (model prog w) A (newExc (.type "StopIteration") [] >>= λe=>raiseNew e) Q R s:=by
 refine xa<|xa<|Yl (xa<|TH (by first|rfl|(rfl))<|Yl (xa<|wpAny_handled ?_)<|by size_fits)<|by size_fits
 rw[d];exact xa<|Ma<|wpAny_throw<|r _ _ (λb o c=>Xb _<|Xb _ c) ⟨_,de _ rfl,rfl⟩
def bQd{b:Bool} {h:lw} {t:SetTable} {Q:ut} (n:A.handled=none)
  (d:s.heap.get? I=some (uo (.int c 0) i a h.size ep)) (x:dc b a ns h ep t s.heap)
  (l:∀(A:Around)(E:be) (Q:xz),Q none s->wpAny (model prog w) A (setNext a c i ep) Q E s)
  (q:∀f,(∀b o,b≠I->s.heap.get? b=some o->f.get? b=some o)->Q none {s with heap:=f}) :
  wpAny (model prog w) A (pyNext<|.ref I) Q E s:=by
 have g:s.TypeIs (.ref I) "set_iterator":=⟨_,d,rfl⟩;refine xa<|Bo<|Mm g rP<|Ki rP g ED (xa<|Ma<|xa<|Ew d rfl ?_)<|gE _;dsimp only;refine xa<|mz x.obj rfl x.fit ?_;rw[Pa (by simp)]
 refine xa<|l _ _ _<|xa<|Wq d rfl (by simp)<|b7 n λf e k o=>?_
 obtain⟨o,m,p⟩:=o;refine xa<|Aw ⟨o,m,p⟩ vz<|Ma<|q _ λb j r u=>k b j ?_
 rwa [Rl _ _<|vg r]
def bCv{d:lw} {t:SetTable} (x:dc b a ns d ep t s.heap) (g:Hi w=true) (c i:Nat) {Q:xz}
  (q:Q (((pickOrder (w.params.setOrder a ep) d)[i]?).map λe=>(e.2,c)) s):wpAny (model prog w) A (setNext a c i ep) Q E s:=by
 have f:=g;refine xa<|vw x.obj rfl x.fit ?_;dsimp only;refine xa<|xa<|Bw<|Ma<|yo (λ_=>?_) λh=>absurd f h
 rw[Pa (by simp)]
 exact xa<|xa<|vw x.obj rfl x.fit<|xa<|xa<|Bw<|Ma<|yo (λ_=>xa<|Bw<|Ma<|Ma q) λh=>absurd f h
def As(t:SetTable):tz
 |0=>0
 |i+1=>t.place.getD i 0+1
theorem below_at{t:SetTable}(a:TI b t)(i:Nat)(l:i<=t.place.size):SetTable.below t.place (As t i)=i:=by
 obtain⟨d,c,f⟩:=MZ t.place _ a.rise;generalize j:SetTable.below t.place _=m at d c f;rcases PR m i with h|h|h
 .have lt:i-1<t.place.size:=by lia
  have:=c (i-1) _ (by lia)<|Dj lt
  have e:As t i=t.place[i-1]+1:=by
   cases i with
   |zero=>lia
   |succ k=>
    show t.place.getD k 0+1=_;rw[WG,Dj (by lia)]
    rfl
  lia
 .exact h
 have g:=d i _ h<|Dj<|by lia
 cases i with
 |zero=>exact absurd g<|zp _
 |succ k=>
  have e:As t (k+1)=t.place[k]+1:=by
   show t.place.getD k 0+1=_;rw[WG,(Dj _)];rfl
  have r:=LG.mp a.rise k (k+1) (by simp;lia) (by simp;lia) (by lia)
  simp at r;lia
theorem bHn{b:lw} {t:SetTable} (x:dc true a ns b ep t s.heap) (f:Hi w=false) (d:(!t.plain&&decide (b.size>1))=false) (i:Nat) (g:i<=b.size) {Q:xz}
  (q:Q ((b[i]?).map λe=>(e.2,As t<|i+1)) s):wpAny (model prog w) A (setNext a (As t i) i ep) Q E s:=by
 have sz:=by
  have:=x.fit;simp[SetTable.fits]at this;exact this.1
 refine xa<|vw x.obj rfl x.fit ?_;dsimp only;refine xa<|xa<|Bw<|Ma<|yo (λh=>absurd ((f).symm.trans h) Wl) λ_=>yo (λh=>absurd (d.symm.trans h) Wl) λ_=>xa (m:=(if (!t.led && !b.isEmpty)=true then unsupported "set:maker-not-led" else pure ())) ?_
 rw[Pa (by rw[x.ti.led];exact Wl)]
 refine Ma ?_
 rw[below_at x.ti i (by rwa [sz])]
 by_cases c:i<b.size
 .rw[Dj c]at q;rw[Dj c,Dj _];refine Ma ?_
  have:As t (i+1)=t.place[i]+1:=by
   show t.place.getD i 0+1=_;rw[WG,Dj _];rfl
  rwa [this]at q
 rw[(fR<|by lia)]at q ⊢
 exact Ma q
def bLw{T:Addr} {d:lw} {t:SetTable} {ys:ac} {e:Int×Value} {y:Nat} {Q:ut}
  (c:s.heap.get? I=some (uo (.ref T) i a d.size ep)) (x:dc b a ns d ep t s.heap) (h:s.heap.get? T=some {cls:=.type "tuple",data:=.seq (ys.map λ(n:Nat)=>rawInt n).toArray})
  (j:ys[i]?=some y) (he:d[y]?=some e)
  (q:∀f,f.get? I=some (uo (.ref T) (i+1) a d.size ep)->Heap.SameBut I s.heap f->Q (some e.2) {s with heap:=f}) :
  wpAny (model prog w) A (pyNext<|.ref I) Q E s:=by
 have g:s.TypeIs (.ref I) "set_iterator":=⟨_,c,rfl⟩;refine xa<|Bo<|Mm g rP<|Ki rP g ED (xa<|Ma<|xa<|Ew c rfl ?_)<|gE _;dsimp only;refine xa<|mz x.obj rfl x.fit ?_;rw[Pa (by simp)]
 refine xa<|Ej h rfl ?_;dsimp only;have k:((ys.map λ(n:Nat)=>rawInt n).toArray)[(i:Int).toNat]?=some (.int y 0):=by
  rw[Ao,zw,rh,j];rfl
 rw[k];refine xa<|xa<|vw x.obj rfl x.fit ?_;dsimp only;rw[Pa (by simp),Ao,he]
 refine Ma<|xa<|Wq c rfl (by simp)<|Ma ⟨e.2,rfl,Ma<|q _ ?_<|Zs ..⟩
 rw[Vl _ c<|gz<|uw rfl _];rfl
def bQe{T:Addr}{b:Bool} {f:lw} {t:SetTable} {ys:ac} {Q:ut} (r:A.handled=none)
  (c:s.heap.get? I=some (uo (.ref T) i a f.size ep)) (x:dc b a ns f ep t s.heap) (l:s.heap.get? T=some {cls:=.type "tuple",data:=.seq (ys.map λ(n:Nat)=>rawInt n).toArray})
  (p:ys[i]?=none)
  (q:∀d,(∀b o,b≠I->s.heap.get? b=some o->d.get? b=some o)->Q none {s with heap:=d}) :
  wpAny (model prog w) A (pyNext<|.ref I) Q E s:=by
 have h:s.TypeIs (.ref I) "set_iterator":=⟨_,c,rfl⟩;refine xa<|Bo<|Mm h rP<|Ki rP h ED (xa<|Ma<|xa<|Ew c rfl ?_)<|gE _;dsimp only;refine xa<|mz x.obj rfl x.fit ?_;rw[Pa (by simp)]
 refine xa<|Ej l rfl ?_;dsimp only;have y:((ys.map λ(n:Nat)=>rawInt n).toArray)[(i:Int).toNat]?=none:=by
  rw[Ao,zw,rh,p];rfl
 rw[y];refine xa<|Wq c rfl (by simp) ?_
 have v:(s.heap.update I (Obj.mapFields (·.setIfInBounds 0 (rawInt 0)))).get? I=some (uo (.int 0 0) i a f.size ep):=by
  rw[Vl _ c<|gz<|uw rfl _];rfl
 refine xa<|Wq v rfl (by simp)<|b7 r λd e k o=>?_
 obtain⟨o,m,u⟩:=o;refine xa<|Aw ⟨o,m,u⟩ vz<|Ma<|q _ λb j g z=>k b j ?_
 rwa [Rl _ _<|vg g,Rl _ _<|vg g]
def d7{o:Obj} (c:s.heap.get? I=some o) (b:o.cls=.type "set_iterator") (q:Q (.ref I) s):wpAny (model prog w) A (pyIter<|.ref I) Q E s:=by
 have a:s.TypeIs (.ref I) "set_iterator":=⟨o,c,b⟩;exact CH a o4<|Ki o4 a bCu ((Ma ⟨_,rfl,"set_iterator",_,a,rP.lookup,q⟩))<|bHm _
def p4(u:A.handled=none) (r:a≠I) {j:lw} {t:SetTable} (c:tz) (vs:cr)
  (m:∀(s:Shared)(i:Nat),i<=vs.length->dc b a ns j ep t s.heap->∀(A:Around)(E:be) (Q:xz),Q ((vs[i]?).map λv=>(v,c<|i+1)) s->wpAny (model prog w) A (setNext a (c i) i ep) Q E s) :
  Walks prog w A I [I,a] [I] vs.length (λi v=>vs[i]?=some v) (λi h=>h.get? I=some (uo (.int (c i) 0) i a j.size ep)/\dc b a ns j ep t h) where
 sub:=λb f=>by rw[Hd.mp f];exact qb
 frame:=λ_ _ _ st k=>⟨k I qb _ st.1,st.2.keep λo d=>k a (Mb _ qb) o d⟩
 item:=λi s Q E n st q=>by
  have e:=Kc n;refine bLv st.1 st.2 (λA E l h=>m s i (Co n) st.2 A E l<|by rwa [e]) λg x p=>?_
  have k:∀b o,b≠I->s.heap.get? b=some o->g.get? b=some o:=λb o f d=>by rwa [p.2 b f]
  exact q _ g s.toks e ⟨x,st.2.keep λo d=>k a o r d⟩ λb o f d=>k b o (λh=>f<|Hd.mpr h) d
 done:=λs Q E st q=>
  bQd u st.1 st.2 (λA E l h=>m s _ (Pb _) st.2 A E l<|by rwa [qp<|Pb _]) λg k=>q g s.toks λb o f d=>k b o (λh=>f<|Hd.mpr h) d
 self:=λ_ _ _ _ st q=>d7 st.1 rfl q
def bLx(r:A.handled=none){T:Addr}(p:a≠I)(nT:T≠I) {f:lw} {t:SetTable} (ys:ac) (lt:∀y∈ys,y<f.size) :
  Walks prog w A I [I,a,T] [I] (ys.map λy=>(f.getD y (0,.none)).2).length (λi v=>(ys.map λy=>(f.getD y (0,.none)).2)[i]?=some v)
   (λi h=>h.get? I=some (uo (.ref T) i a f.size ep)/\dc b a ns f ep t h/\h.get? T=some {cls:=.type "tuple",data:=.seq (ys.map λ(n:Nat)=>rawInt n).toArray}) where
 sub:=λb d=>by rw[Hd.mp d];exact qb
 frame:=λ_ _ _ st k=>⟨k I qb _ st.1,st.2.1.keep λo c=>k a (Mb _ qb) o c,k T (Mb _<|Mb _ qb) _ st.2.2⟩
 item:=λi s Q E j st q=>by
  rw[Rb]at j;have e:=Kc j;have l:=Dj<|lt _<|Vg j;refine bLw st.1 st.2.1 st.2.2 e l λg u m=>?_
  have k:∀b o,b≠I->s.heap.get? b=some o->g.get? b=some o:=λb o d c=>by rwa [m.2 b d]
  refine q _ g s.toks ?_ ⟨u,st.2.1.keep λo c=>k a o p c,k T _ nT st.2.2⟩ λb o d c=>k b o (λh=>d<|Hd.mpr h) c
  rw[rh,e];simp[l]
 done:=λs Q E st q=>by
  rw[Rb]at st;exact bQe r st.1 st.2.1 st.2.2 (qp<|Pb _) λg k=>q g s.toks λb o d c=>k b o (λh=>d<|Hd.mpr h) c
 self:=λ_ _ _ _ st q=>d7 st.1 rfl q
def Nums(vs:cr)(a:lv):Prop:=(vs.map numOf).Perm a/\∀v∈vs,∃n t,v=.int n t
def dc.ji{c:lw} {t:SetTable} (x:dc b a ns c ep t h) {l:List (Int×Value)} (p:l.Perm c.toList):Nums (l.map (·.2)) ns:=by
 refine⟨?_,λv hv=>?_⟩
 .rw[Dg];exact(p.map λe=>numOf e.2).trans x.perm
 obtain⟨e,f,rfl⟩:=gd.mp hv;obtain⟨n,d,rfl⟩:=x.nums e<|p.mem_iff.mp f;exact⟨n,d,rfl⟩
def bLy(p:A.handled=none) (x:jT (!Hi w) a ns s.heap) (O:ns.length<scanBound)
  (q:∀(I:Addr)(u:Heap)(d:_)(vs:cr)(D:bv)(St:Da),Nums vs ns->(∀b o,s.heap.get? b=some o->u.get? b=some o)->s.heap.objs.size<=I->(∀f∈D,f=a\/s.heap.objs.size<=f)->
   Walks prog w A I D [I] vs.length (λi v=>vs[i]?=some v) St->St 0 u->Q (.ref I) {s with heap:=u,drawn:=d}) :
  wpAny (model prog w) A (pyIter<|.ref a) Q E s:=by
 obtain⟨g,G,t,x⟩:=x;have C:s.TypeIs (.ref a) "set":=⟨_,x.obj,rfl⟩;have n:=uc x.obj;refine CH C F.slot_set_iter<|Ki F.slot_set_iter C aX8 (xa<|xa<|Ma<|(Ma<|xa<|xa<|mz x.obj rfl x.fit<|Ma ?_))<|F.args_set_iter_1 _;refine xa<|xa<|vw x.obj rfl x.fit ?_;refine xa<|xa<|Bw<|Ma<|Ma ?_;have k:∀(j:Shared)(first:Value),dc (!Hi w) a ns g G t j.heap->Q (.ref j.heap.objs.size) {j with heap:=j.heap.push _}->wpAny (model prog w) A.in1 (setEpoch a >>= λe=>newFields "set_iterator" [first,rawInt 0,.ref a,rawInt g.size,rawInt e] >>= λr=>ret r)
   (λk j=>∃r,k=.done (.ret r)/\∃H K,j.TypeIs r H/\typeLookup (.type H) "__next__"=pure (some K)/\Q r j) E j:=λj first y L=>by
  refine xa<|wpAny_setEpoch_of y.obj rfl y.fit ?_;exact xa<|Yl<|Ma ⟨_,rfl,"set_iterator",_,⟨_,de _ rfl,rfl⟩,rP.lookup,L⟩
 by_cases m:(!Hi w&&(!t.plain&&decide (g.size>1)))=true
 .refine yo (λ_=>xa<|bLt g.size (List.range g.size) s _ nk λys d py=>?_) λh=>absurd m h
  have sz:ys.length<=sizeLine:=DH (by rwa [py.length_eq,nk,x.size])
  refine xa<|Yl (k _ _ (x.keep λo c=>Xb _ c) (q _ _ d _ _ _ ?_ (λb o c=>Xb _<|Xb _ c) ?_ (λf hf=>?_)
   (bLx p ?_ ?_ ys<|λy M=>qf.mp<|py.mem_iff.mp M) ⟨de _ rfl,x.keep λo c=>Xb _<|Xb _ c,Xb _<|de _ rfl⟩))<|by show (List.map _ ys).toArray.size<=sizeLine;rwa [Jf,Rb]
  .have e:(ys.map λy=>(g.getD y (0,.none)).2)=(ys.map λy=>g.getD y (0,.none)).map (·.2):=by rw[Dg];rfl
   rw[e];refine x.ji<|(py.map _).trans<|List.Perm.of_eq<|BH λi=>?_
   by_cases l:i<g.size
   .simp[List.getElem?_map,List.getElem?_range l,getD_eq_getD_getElem?,l]
   simp[l]
  .rw[Mh];exact Io _
  .rcases qc.mp hf with h|h
   .exact .inr (by rw[h,Mh];exact Io _)
   rcases qc.mp h with h|h
   .exact .inl h
   exact .inr<|wz (Hd.mp h).symm
  .rw[Mh];exact Vd<|Nat.lt_succ_of_lt n
  rw[Mh];exact Vd<|vt _
 refine yo (λh=>absurd h m) λ_=>xa<|Ma<|k s (.int 0 0) x ?_
 by_cases B:Hi w=true
 .refine q s.heap.objs.size _ s.drawn ((pickOrder (w.params.setOrder a G) g).toList.map (·.2)) _ _ (x.ji<|ā _ g) (λb o c=>Xb _ c) (Pb _) (λf hf=>?_)
   (p4 p (Vd n) (λ_=>0) _ λs i l y A E N h=>bCv y B 0 i ?_) ⟨de _ rfl,x.keep λo c=>Xb _ c⟩
  .rcases qc.mp hf with h|h
   .exact .inr (wz h.symm)
   exact .inl<|Hd.mp h
  rwa [rh,Option.map_map,vp]at h
 have z:Hi w=false:=by revert B;cases Hi w<;>intro h<;>first|rfl|exact absurd rfl h
 have J:=by rw[z]at x;exact x
 refine q s.heap.objs.size _ s.drawn (g.toList.map (·.2)) _ _ (x.ji<|KH _) (λb o c=>Xb _ c) (Pb _) (λf hf=>?_)
  (p4 p (Vd n) (As t) _ λs i l y A E N h=>bHn y z (by
  rw[z]at m;revert m;cases (!t.plain&&decide (g.size>1)) <;> intro h<;>first|rfl|exact absurd rfl h) i (by simpa using l) ?_) ⟨Heap.get?_push_size _ rfl,J.keep λo c=>Heap.get?_push_of_some _ c⟩
 .rcases qc.mp hf with h|h
  .exact .inr (wz h.symm)
  exact .inl<|Hd.mp h
 rwa [rh,Option.map_map,vp]at h
end
section
variable{w:World}{A:Around}
def bHo{r:Addr}{Q:v4}(b:s.TypeIs (.ref r) "set")(q:Q false s):wpAny (model prog w) A (Builtin.List.listLengthHint<|.ref r) Q E s:=by
 refine xa<|uz b bLu ?_;generalize a:("set.__len__")=id0;subst a;exact xa<|Aw b sub_set_self<|yo (λh=>absurd h<|by decide) λ_=>yo (λ_=>xa<|QH b<|Ma q) λh=>absurd (by decide+kernel) h
def jT.typeIs(x:jT b a ns s.heap):s.TypeIs (.ref a) "set":=let ⟨_,_,_,y⟩:=x;⟨_,y.obj,rfl⟩
def Nums.len{vs:cr} (h:Nums vs ns):vs.length=ns.length:=by
 simpa using h.1.length_eq
def bQf{S:Addr} {R:Result->sK} (T:A.handled=none) (x:jT (!Hi w) a ns s.heap) (L:ns.length<scanBound) (u:s.heap.get? S=some {cls:=.type "list",data:=.seq #[] 0}) (F:S≠a)
  (r:∀(m:Heap)(d:_)(M:Nat)(vs:cr)(c:Nat),Nums vs ns->(∀b o,b≠S->s.heap.get? b=some o->m.get? b=some o)->m.get? S=some {cls:=.type "list",dict:=none,data:=.seq vs.toArray c,slots := #[]}->R (.ok<|.ret res) {s with heap:=m,drawn:=d,toks:=M}) :
  wpAny (model prog w) A.in1 (Builtin.List.listExtendWith (.ref S) (.ref a) res) (λy l=>match y with|.done f=>R (.ok f) l|.again p=>p.quiet=true/\codeAny (model prog w) A p R l) (λe l=>R (.error e) l) s:=by
 refine xa<|QH x.typeIs ?_;rw[Pa (by simp[Builtin.List.listSameRef,F])]
 refine xa<|bLy (A:=A.in1) T x L λI m d vs U St E k P O W st=>xa<|Yf<|bHo (jT.typeIs<|x.keep λo g=>k a o g) ?_
 have G:S∉U:=λh=>by
  rcases O S h with e|e
  .exact F e
  exact absurd (uc u)<|Nat.not_lt.mpr e
 have go:∀(n:Heap)(z:Nat),St 0 n->(∀b o,b≠S->s.heap.get? b=some o->n.get? b=some o)->n.get? S=some {cls:=.type "list",data:=.seq #[] z}->
   codeAny _ A _ R {s with heap:=n,drawn:=d}:=λn z q Q t=>by
  refine codeAny_extend_loopS W.toS (DH<|by rwa [E.len]) S G res vs.length 0 _ #[] z rfl (Ef _) q t (ItemsOf.nil _) λl J p H N it=>?_
  have V:J=vs.toArray:=by
   apply ext';refine BH λi=>?_
   rw[vp];cases K:J[i]? with
   |some v=>exact(it.2 i v K).symm
   |none=>exact(qp<|by rw[<-it.1];exact Array.getElem?_eq_none_iff.mp K).symm
  subst V;rw[Moved.eq_with H];refine r l.heap d l.toks vs p E (λb o j g=>H.heap b o (λhm=>?_)<|Q b o j g) N
  rcases qc.mp hm with h|h
  .exact j h
  exact absurd (uc g) (by rw[Hd.mp h];exact Nat.not_lt.mpr P)
 refine yo (λ_=>xa<|ar<|xa<|?_) λ_=>Ma ⟨Zl MG _,go m 0 st (λb o _ g=>k b o g)<|k S _ u⟩
 have D:=k S _ u;have C:=Vl (Obj.mapSeq (·.push Value.none)) D rfl;have B:∀b o,b≠S->m.get? b=some o->((m.update S (Obj.mapSeq (·.push Value.none))).update S (Obj.mapSeq (·.pop))).get? b=some o:=λb o j g=>by
  rwa [Rl _ _<|vg j,Rl _ _<|vg j]
 exact xa<|xp D rfl<|xp C rfl<|Ma ⟨Zl MG _,go _ _ (W.frame 0 _ _ st λb j o g=>B b o (λe=>G<|e ▸ j) g) (λb o j g=>B b o j<|k b o g)<|Vl _ C rfl⟩
def bLz{R:Fk}(u:A.handled=none)(x:jT (!Hi w) a ns s.heap)(n:ns.length<scanBound)
  (r:∀(g:Heap)(d:_)(h:Nat)(vs:cr),Nums vs ns->(∀b o,s.heap.get? b=some o->g.get? b=some o)->R vs {s with heap:=g,drawn:=d,toks:=h}) :
  wpAny (model prog w) A (collect<|.ref a) R E s:=by
 refine xa<|wpAny_runValue<|jk entry_proto_collect'<|xa<|Yl<|Ma ⟨Zl H_ _,jk entry_list_iadd' ?_⟩;have t:=let ⟨_,_,_,y⟩:=x;uc y.obj;have i:∀(g:Heap)(d:_)(h:Nat)(vs:cr)(c:Nat),Nums vs ns->(∀b o,s.heap.get? b=some o->g.get? b=some o)->g.get? s.heap.objs.size=some {cls:=.type "list",dict:=none,data:=.seq vs.toArray c,slots := #[]}->
   wpAny (model prog w) A (load s.heap.objs.size >>= λo=>match o.data with|.seq xs _=>pure xs.toList|_=>unsupported "internal:collect") R E {s with heap:=g,drawn:=d,toks:=h}:=λg d h vs c j k o=>by
  exact xa<|wpAny_load o<|Ma<|r g d h vs j k
 refine Gj (bQf (s:={s with heap:=s.heap.push {cls:=.type "list",data:=.seq ([]).toArray} }) (prog:=prog)
  (R:=λq m=>q=.ok _/\∃(g:Heap)(d:_)(h:Nat)(vs:cr)(c:Nat),m={s with heap:=g,drawn:=d,toks:=h}/\Nums vs ns/\(∀b o,s.heap.get? b=some o->g.get? b=some o)/\g.get? s.heap.objs.size=some {cls:=.type "list",dict:=none,data:=.seq vs.toArray c,slots := #[]})
  u (x.keep λo l=>Xb _ l) n (de _ rfl) (Xq t)
  λg d h vs c j k o=>⟨rfl,g,d,h,vs,c,rfl,j,λb p l=>k b p (Vd<|uc l)<|Xb _ l,o⟩) (λfin m y=>?_) λe m y=>nomatch y.1
 cases fin with
 |done f=>
  obtain⟨e,g,d,h,vs,c,rfl,j,k,o⟩:=y;cases e;exact i g d h vs c j k o
 |again v=>
  refine⟨y.1,yp y.2 λq B z=>?_⟩
  obtain⟨rfl,g,d,h,vs,c,rfl,j,k,o⟩:=z;exact i g d h vs c j k o
theorem t4:∀{vs:cr},(∀v∈vs,∃n t,v=Value.int n t)->IntsAre vs (vs.map Pu.numOf)
 |[],_=>IntsAre.nil
 |v::vs,h=>by
  obtain⟨n,t,rfl⟩:=h v qb;exact IntsAre.cons _ _<|t4 λv a=>h v<|Mb _ a
theorem bCw(m:A.handled=none)(x:jT (!Hi w) a ns s.heap)(n:ns.length<64)
  (q:∀(D:Addr)(e:Heap)(d:_)(f:Nat)(out:wE)(Mo:lv)(c:Nat),IntsAre out.toList Mo->Mo.Perm ns->Mo.Pairwise (· <= ·)->(∀b o,s.heap.get? b=some o->e.get? b=some o)->(∀b o,s.heap.get? b=some o->b<D)->e.get? D=some (seqObj "list" out c)->Q (.ref D) {s with heap:=e,drawn:=d,toks:=f}) :
  wpAny (model prog w) A (call (.builtin "sorted") [.ref a]) Q E s:=by
 refine Calls.call_function_entry kind_sorted plain_sorted entry_sorted (args_sorted1 _)<|xa<|Ma<|xa<|bLz m x (by unfold scanBound;lia) λe d f i g k=>?_
 have h:i.length<64:=by rwa [g.len]
 refine xa<|wpAny_newList ?_<|by rw[fm];lia
 have o:(e.push _).get? e.objs.size=some (seqObj "list" i.toArray 0):=de _ rfl;refine xa<|Yf<|Ki slot_list_sort ⟨_,o,rfl⟩ entry_list_sort (list_sort_tree o (t4 g.2) h λout Mo e1 e2 e3=>⟨_,rfl,?_⟩)<|args_list_sort _
 obtain⟨c,j⟩:=sortedHeap_at o;refine Ma ⟨_,rfl,q _ _ d f out Mo c e1 (e2.trans g.1) e3 (λb ob hb=>?_) (λb ob hb=>uc<|k b ob hb) j⟩
 have l:=uc<|k b ob hb;rw[sortedHeap_old (Vd l) (by rw[Mh];exact Nat.lt_succ_of_lt l)]
 exact Xb _<|k b ob hb
end
end Pu
namespace Pu
open PySem PySem.Spec PyProof.Rows L2
theorem B1(a:lv):∀k,k<=a.length->Qs (λi=>a.getD i 0) k=rZ (a.take k)
 |0,_=>rfl
 |k+1,h=>by
  have e:a.take (k+1)=a.take k++[a.getD k 0]:=by
   rw[List.take_add_one,bf,Kc<|(by lia)]
   rfl
  rw[e];show ip _ _=_;rw[B1 a k (by lia)]
  unfold rZ;rw[List.foldl_append];rfl
def bQg{l m:lv}(h:m.Perm l)(c:m.Pairwise (· <= ·)):m=Bj l:=List.Perm.eq_of_pairwise (λa b _ _ e d=>Int.le_antisymm e d) c (bE8 l)<|h.trans (sH l).symm
theorem B4:∀{a:cr}{b:lv},IntsAre a b->Ha (b.map V.int) a
 |_,_,.nil=>.nil
 |_,_,.cons n t h=>.cons ⟨t,rfl⟩<|B4 h
def bHp{w:World} (x:mQ P w H h a o):∃u,h.get? a=some u:=by
 cases o with
 |lst xs=>obtain⟨_,_,_,_,e⟩:=x;exact⟨_,e⟩
 |tup xs=>obtain⟨_,_,_,o,e,_⟩:=x;exact⟨_,e⟩
 |dK b=>obtain⟨_,_,_,_,o,_,_,e,_⟩:=x;exact⟨_,e⟩
 |dT b=>obtain⟨_,_,_,_,o,_,_,e,_⟩:=x;exact⟨_,e⟩
 |set S n=>obtain⟨o,_,_,_,e,_⟩:=x;exact⟨_,e⟩
 |ins C i fs=>obtain⟨_,_,_,e,_⟩:=x;exact⟨_,e⟩
 |own y=>obtain⟨_,e⟩:=x;exact⟨_,e⟩
 |xd fs=>obtain⟨_,⟨_,_,_,e,_⟩,_⟩:=x;exact⟨_,e⟩
 |Yp lo g=>obtain⟨_,_,_,e⟩:=x;exact⟨_,e⟩
 |Fh ob u=>obtain⟨e,_⟩:=x;exact⟨_,e⟩
 |Oo d=>exact⟨_,(x)⟩
 |met f y=>exact⟨_,(x)⟩
 |ext c=>obtain⟨_,⟨_,e⟩,_⟩:=x;exact⟨_,e⟩
section
variable {a:Expr}
theorem bCx(n:X.calm=true):mF X (.type "set") (λxs H Q=>∃p a,xs=[.ref p]/\Qc X.K H p (a.map V.int)/\a.length<=4000/\∀l,H l=none->Q (.ref l) (bb H l<|.ext<|jT (!Hi X.w) l<|rZ a)):=by
 intro E s σ H xs o Q I r h;obtain⟨p,a,rfl,j,y,q⟩:=h;obtain⟨u,rfl,g⟩:=vals1 r;cases g;obtain⟨b,f,i,w⟩:=I.list j;have e:=f.length;rw[Rb]at e;refine bLs (I.ok.hd n) i.isList (by simpa using V3 f) (by rw[List.size_toArray,<-e];show a.length+1<4096;lia) λB v c m=>?_
 rw[show b.toArray.size=a.length by rw[Jf,e],B1 a _<|Pb _,List.take_length]at c
 obtain⟨C,D,t,d⟩:=id c;exact⟨.ref s.heap.objs.size,_,I.laid (o:=.ext _) m (Pb _) ⟨c,⟨_,d.obj⟩,λA z x k=>x.keep k⟩,rfl,q _<|I.Ta.fresh<|Pb _⟩
theorem bCy(F:X.calm=true):mF X (.builtin "sorted") (λxs H Q=>∃p a,xs=[.ref p]/\H p=some (.ext<|jT (!Hi X.w) p a)/\a.length<64/\∀l,H l=none->Q (.ref l) (bb H l<|.lst<|(Bj a).map V.int)):=by
 intro R s σ H xs M Q I r h;obtain⟨p,a,rfl,A,C,q⟩:=h;obtain⟨u,rfl,x⟩:=vals1 r;cases x;obtain⟨G,_,_⟩:=I.Ta _ _ A;refine bCw (I.ok.hd F) G C λD P d N i S c j B y g t E=>?_
 obtain rfl:=bQg B y;have w:H D=none:=by
  cases J:H D with
  |none=>rfl
  |some o=>
   obtain⟨u,e⟩:=bHp<|I.Ta D o J;exact absurd (t D u e)<|uh _
 have f:bG H (bb H D<|.lst<|(Bj a).map V.int):=bN w;refine⟨.ref D,bb H D _,I.step (ch:=[]) (λ_ z=>nomatch z) (λb o _ _ _ e _=>g b o e) (λb o _ _ _ e _=>⟨o.slots,g b o e⟩) (λb o _ e n=>by rwa [aW<|Vd<|t b o e]) (λb o _ e=>⟨o,g b o e⟩) (λb xs e=>f _ _ e) (λb o u e=>f _ _ e) (λb O e=>⟨#[],by rw[f _ _ e];simp⟩) (λm ⟨o,K,L,j,r⟩=>⟨o,K,L,g _ o j,r⟩) (λb o e=>?_) I.bare,rfl,q _ w⟩
 by_cases k:b=D
 .subst k;rw[bK]at e;cases e;exact⟨by rw[Rb,((sH a).length_eq),fm];lia,i.toList,c,B4 j,by simpa using E⟩
 rw[aW k]at e;exact(I.Ta b _ e).Ye (λb v _ q=>g b v q) (λb q=>f _ _ q) λb xs q=>f _ _ q
theorem C4{K:Frag}{H:Hp}:∀(l:lv),bJ K H (l.map D.int) (l.map V.int)
 |[]=>.nil
 |_::l=>.cons (bO.mpr rfl)<|C4 l
def PM(w:X.mg "sorted"=none)(b:X.mg "set"=none)(k:X.calm=true)(D:PE X a (tP X.K B f))(z:Gl X "sorted":=by rfl)(t:Gl X "set":=by rfl)(hs:starEach [.Call (.Name "set" p1) [a] [] p2] X.env=(false,eval (.Call (.Name "set" p1) [a] [] p2) X.env)::starEach [] X.env:=by rfl)
  (s:sf a [] X.env:=by rfl):PE X (.Call (.Name "sorted" p0) [.Call (.Name "set" p1) [a] [] p2] [] pos) (tI X.K B<|e1 Qx f):=by
 refine cF (rY (bCy k) z w A_<|cN (oR (bCx k) t b PyProof.Rows.boot_set (cN D fD s) (he:=s)) fD hs) ?_
 rintro σ H Q ⟨A,st,d,h,C,q⟩;obtain⟨x,u,r⟩:=R.qa C;cases x<;>first|(cases r)|skip
 obtain⟨l,y,F⟩:=R.qa r;obtain⟨c,E⟩:=aM F;cases E;refine⟨A,st,_,h,u,λv I s1 r1=>?_⟩
 obtain⟨p,G,e,o,i⟩:=r1.lst;rw[WC y]at i;rw[W0 i]at o;exact⟨p,l,by rw[e],o,c.1,λn j=>⟨n,_,rfl,bK,c.2,λm g=>q _ _ (s1.trans<|(bN j).trans<|bN g)<|fB (h.own.mono<|s1.trans<|bN j) g<|C4 _⟩⟩
end
section
variable {iter c:Expr} {t:Tg} {u:Ex}
def QM{is:ac}(z:L2.PI X tg iter (Jk X.K B it))(D:∀(B:bv)(C:Addr)(g:Shared)(e:Hp)(a:bv),PG (eX X scope C g e a) tg<|tG X.K B t)
  (w:∀(B:bv)(C:Addr)(g:Shared)(e:Hp)(a:bv),PT (eX X scope C g e a) c<|tT X.K B u)
  (he:∀(B:bv)(C:Addr)(g:Shared)(e:Hp)(a:bv),PE (eX X scope C g e a) elt<|tI X.K B f) (F:X.calm=true:=by rfl) (hsub:Xo is t:=by exact Sv) (S:yc X scope is:=by exact .of rfl) (hs:∀x,foldedSetIterable iter X.env x=pure x:=by intro _;rfl) :
  PE X (.ListComp elt [⟨tg,iter,[c],0⟩] scope pos) (tF X.K B<|cJ is t it u f):=by
 intro i s σ H Q I h;refine Uc λJ=>?_
 obtain⟨A,st,d,j,E,q⟩:=h;obtain⟨xs,v,O⟩:=R.qa E;obtain⟨y,M⟩:=aM O;obtain⟨ys,o,L⟩:=R.qa M;cases L;refine J (uU (te:=Eu X.K f) (rest:=λb it p=>isTrue c b (eval c b) >>= λok=>if ok=true then (eval elt b >>= λx=>call _ [p,x] >>= λ_=>again<|.compLoop _ 0 it p b) else again (.compLoop _ 0 it p b)) S F z (λC g e a=>iw λB=>D B C g e a) (λ_ _ _=>qY)
  (λC g e a it p s Q h=>MQ h) (λC g e a it p τ H s i vs N Q I h q=>dQ rfl (gw λB=>he B C g e a) (NQ λB=>w B C g e a) τ H s i vs N Q I h (λ_ Q Y m h=>zF Q Y m h) q) hs I
  (Tv hsub (λτ H Q h=>h) j v y o λp vs H1 H' s1 hp s2 hv r=>?_) λC p H5 s5 n s3 H3 a τ K I3 W I5 Z k=>⟨n,Z,λh' l=>⟨.ref p,H5,dy I3 W K I5 l,rfl,k⟩⟩)
 obtain⟨G,V,U,T,P⟩:=g_ s1 hp s2 hv r;have:=q p vs G V U P
 rwa [T]at this
end
def bCz(a v d:Value):argsOk "min" ⟨[a],[(ofString "key",v),(ofString "default",d)]⟩:=by kernel_rfl
section
variable {σ:L2.St}
def e7{k:Nat} {Q:VK} (F:Ca X.prog X.w X.K X.mg X.base Ab k fa fd ps (Tb X.K np p)) (b:Kb (k+1) X.A) (c:Binds X.K fd ps []) (I:Ba X aa σ H s) (r:RelV v u) (h:Tb X.K np p [v] H Q E0) :
  wpAny (model X.prog X.w) X.A.in1 (call (.ref fa) [u]) (EP X aa σ Q) (λ_ _=>False) s:=by
 refine Cz<|yp (F.run X.A.in1 X.stack s H _ [u] [v] Q E0 b.in1 I.Mt.in1 (c s [u] I.Og<|by simpa using (F.len _ _ _ _ h)) (.cons r .nil) h) λr f a=>?_
 cases r with
 |error e=>exact a.elim
 |ok d=>
  cases d with
  |ret u=>exact I.after a
  |next=>exact False.elim a
  |brk=>exact False.elim a
  |cont=>exact False.elim a
theorem bQh{b:Addr}{ys:dL}{t:Bool} (L:X.A.units+64<cLine) (I:Ba X aa σ H s) (C:Xf X.K H a vs) (B:Xf X.K H b us) (l:bJ X.K H xs vs) (k:bJ X.K H ys us) (f:jV xs<=60) (r:dJ xs=true) (p:dJ ys=true) (z:Nl xs ys=.ok t) (q:Q (.bool t) s):wpAny (model X.prog X.w) X.A.in1 (richCompare .Lt (.ref a)<|.ref b) Q E s:=by
 refine Uc λD=>?_
 obtain⟨c,o,v,_⟩:=I.tuple C;obtain⟨y,m,u,_⟩:=I.tuple B;obtain⟨⟨G,F,g,j⟩,e,A,n,f⟩:=id v;obtain⟨⟨M,J,data2,K⟩,h,i,w,d⟩:=id u;subst A f i d;refine D ?_
 refine richCompare_meets_room ⟨_,e,rfl⟩ ⟨_,h,rfl⟩ PySem.F.slot_tuple_lt PySem.F.entry_tuple_lt (PySem.F.args_tuple_lt_2 _ _) (bCa a b c.toArray y.toArray n w F J j K t) ⟨e,h,?_,?_⟩ (by lia)
 .exact C6 I (A:=X.A.in1.in1) xs ys l k o m (by lia) r p z
 exact⟨(λx=>nomatch x),q⟩
def N8 {v:Value} (a:Ha zs its) (h:j<zs.length) (c:its.toArray[j]?=some v):RelV zs[j] v:=by
 obtain⟨u,b,q⟩:=a.get<|Kc h;have:=by simpa using c
 rw[b]at this;cases this;exact q
def i7{K:Frag} (a:bJ K H ds zs) (h:j<ds.length) (b:j<zs.length):Bb K H ds[j] zs[j]:=by
 obtain⟨z,e,q⟩:=a.get<|Kc h;rw[Kc b]at e;cases e;exact q
def O8{it l:Addr} (I:Ba X aa σ H s) (b:Aj X aa H it) (h:s.heap.get? it=some oI) (c:oI.data=.fields #[.ref l,.int j 0]):Ba X (aa++[(it,oI)]) σ H s:=I.ki λq a=>by
 rcases tf.mp a with a|a
 .exact I.pin q (Ke _ a)
 rw[Hd.mp a];exact⟨h,b.1,b.2.1,b.2.2.1,λv z=>by rw[c]at z;cases z⟩
def E4{S:Addr} (h:H S=some o) (w:nT o=true) (c:Own Z H):Own (S::Z) H:=λa b=>by
 rcases qc.mp b with z|b
 .rw[z,h];exact w
 exact c a b
theorem bHs {k : Nat}    {g : List D -> R D} (F : Ca X.prog X.w X.K X.mg X.base Ab k fa fd ps (Tb X.K 1 g)) (hr : Kb (k + 1) X.A) (G : Binds X.K fd ps []) (hc : X.calm = true) (hu : X.A.units + 64 < cLine)
     {l it S:Addr} {dv:Value} {r:D} {Q:VK} (hl:Qc X.K H l zs) (hz:bJ X.K (hide (S::Z) H) ds zs) (hZ:Own Z H) (yA:l≠it) (hS:H S=none)
  (hQ:∀v d,bG H d->Bb X.K (hide Z d) r v->Q v d):∀(n j:Nat)(f:Shared)(d:Hp)(b kb:D)(p T:V),j+n=ds.length->Ba X aa σ d f->Aj X aa d it->f.heap.IsListIter it l j->bG H d->d S=some (.lst [p,T])->
   Bb X.K (hide (S::Z) d) b p->Bb X.K (hide (S::Z) d) kb T->Vo g b kb (ds.drop j)=.ok r->
   codeAny (model X.prog X.w) X.A (.builtin "min.loop" ⟨[.ref it,.ref fa,.ref S],[(ofString "default",dv)]⟩) (λr f=>match r with|.ok (.ret v)=>EP X aa σ Q v f|.ok _=>False|.error e=>X.xe e f) f:=by
 have nm:(toString "min" ++ toString ".loop")="min.loop":=by decide
 have xI:=hz.length;intro n
 induction n with
 |zero=>
  intro j f d b kb p T hj I fp E q s rb rk a;refine Uc λm=>?_
  obtain⟨h,Y,pl,_⟩:=I.list<|q.seq hl;have W:=Dz (prog:=X.prog) (w:=X.w) (A:=X.A.in1) (I.ok.hd hc) it l yA h.toArray;have lg:h.toArray.size=j:=by rw[Jf,<-Y.length];lia
  obtain⟨_,lh,n2,w,l2,o2⟩:=I.Ig s;obtain⟨ub,w1,rfl,r3,r4⟩:=w.two;obtain⟨f1,M,f3,L,K,J⟩:=fp;have hSi:=bD s f1;have e:b=r:=by
   rw[ZQ (by lia)]at a
   cases a;rfl
  subst e;refine m<|jk UG ?_;rw[Around.under_plainId dz _];show wpAny _ X.A.in1 (seqItems? (.ref S) >>= _) _ _ f;refine xa<|Ej o2 rfl ?_;refine xa<|qt<|W.done f _ _ ⟨by rwa [lg],pl.isList⟩ λh' U kk=>?_
  have I1:=I.turned (t':=U) (λb o G e=>kk b o (by simpa using G) e) f1 M L K J
  have B:=kk S _ (by simpa using hSi) o2
  refine xa<|xp B rfl<|xa<|Zq<|Ma ?_;have I2:=I1.gi (t':=U) (f:=λ_ => #[]) s B rfl .nil<|Ef _
  refine⟨p,_,I2,r3,hQ p _ (λb o e=>?_) ?_⟩
  .rw[aW<|bD e hS];exact q _ _ e
  refine rb.mono λb o e=>?_
  unfold hide at e ⊢
  by_cases i:b∈S::Z
  .rw[jb i]at e;cases e
  rw[Pa i]at e
  rwa [Pa λz=>i<|Mb _ z,aW λz=>i (by rw[z];exact qb)]
 |succ n ih=>
  intro j f d b kb p T hj I fp E q s rb rk a;refine Uc λm=>?_
  have C:j<ds.length:=by lia
  have CA:j<zs.length:=by lia
  obtain⟨h,Y,pl,_⟩:=I.list<|q.seq hl;have W:=Dz (prog:=X.prog) (w:=X.w) (A:=X.A.in1) (I.ok.hd hc) it l yA h.toArray;have lg:h.toArray.size=zs.length:=by rw[Jf,<-Y.length]
  obtain⟨_,lh,n2,w,l2,o2⟩:=I.Ig s;obtain⟨ub,uk,rfl,r3,r4⟩:=w.two;obtain⟨f1,M,f3,L,K,J⟩:=id fp;rw[Ws C]at a;obtain⟨kd,hk,h2⟩:=R.qa a;split at h2
  rotate_left
  .cases h2
  rename_i x y;obtain⟨⟨c1,c2,c3⟩,h3⟩:=aM h2;obtain⟨t,ht,h4⟩:=R.qa h3;obtain⟨a2,va2,rfl,q3,q4⟩:=pX.mp rk;obtain rfl:uk=Value.ref a2:=r4;have own:=E4 s rfl<|hZ.mono q;have rd:=(i7 hz C CA).mono<|bG.hide q;refine m<|jk UG ?_;refine xa<|Ej o2 rfl ?_;refine xa<|qt<|W.item j f _ _ (by rwa [lg]) ⟨E,pl.isList⟩ λv h' U hP iu kk=>?_
  refine Uc λm=>?_
  have I1:=I.turned (t':=U) (λb o G e=>kk b o (by simpa using G) e) f1 M L K J
  obtain⟨oI,vT,au,mm⟩:=id iu.1;have GB:=N8 Y CA hP;have I2:=O8 I1 fp vT mm;refine m<|xa<|qt<|Yf<|Gj (e7 F hr G I2 GB ⟨S::Z,[ds[j]],.tup x,own,.cons rd .nil,rfl,hk,λv P s2 w=>(⟨s2,w⟩:bG d P/\Bb X.K (hide (S::Z) P) (.tup x) v)⟩) (λu s2 he=>?_) λ_ _ z=>z.elim
  refine Uc λm=>?_
  obtain⟨EW,P,O,ix,c,Xp⟩:=he;obtain⟨N,va,rfl,q1,q2⟩:=pX.mp Xp;obtain rfl:u=Value.ref N:=ix;have A:=O.pin (it,oI)<|Ke _<|Ke _<|Hd.mpr rfl;have Hh:s2.heap.IsListIter it l (j+1):=⟨oI,A.1,au,mm⟩;refine m<|xa<|qt<|Yf<|xa<|bQh hu O (Xf.of<|aX _ _ _ _ q1) (Xf.of<|c _ _<|aX _ _ _ _ q3) (q2.mono<|aX _ _) ((q4.mono<|aX _ _).mono c) c1 c2 c3 ht<|xa<|Yf<|dt<|xa<|Zq<|Ma ?_;have Du:=q.trans c;have ae:=c _ _ s;have Tp:=(bD ae A.2.1).symm;cases t with
  |true=>
   rw[jb rfl]at h4;simp only[if_true];refine Uc λm=>?_
   obtain⟨_,UT,n3,r5,l3,B⟩:=O.Ig ae;refine m<|xa<|xp B rfl<|xa<|Zq ?_;rw[nm];have I4:=O.Td.gi (t':=s2.toks) (f:=λ_ => #[v,.ref N]) (ys:=[zs[j],.ref N]) ae B rfl (.cons GB<|.cons rfl .nil) (by rw[fm];show 2<=_;lia)
   have hd:hide (S::Z) (bb P S<|.lst [zs[j],.ref N])=hide (S::Z) P:=sW qb;refine Ma ⟨Zl dz _,ih (j+1) _ _ ds[j] (.tup x) zs[j] (.ref N) (by lia) I4 ?_ ?_ (λb o e=>?_) bK (by rw[hd];exact rd.mono<|bG.hide c) (by rwa [hd]) h4⟩
   .refine⟨?_,M,f3,L,K,J⟩;rw[aW Tp];exact A.2.1
   .refine⟨oI,?_,au,mm⟩;rw[Rl _ _ Tp.symm];exact A.1
   rw[aW<|bD e hS];exact Du _ _ e
  |false=>
   refine xa<|Zq ?_;rw[nm];exact Ma ⟨Zl dz _,ih (j+1) _ _ b (.tup y) p (.ref a2) (by lia) O.Td ⟨A.2.1,M,f3,L,K,J⟩ Hh Du ae (rb.mono<|bG.hide c) (rk.mono<|bG.hide c) h4⟩
end
section
variable{X:Cx}{B:bv}{e:Expr}{f:Ex}{pos p kp GI Pp Bk:Pos}
theorem bD0 {k : Nat}    {g : List D -> R D} (F : Ca X.prog X.w X.K X.mg X.base Ab k fa fd ps (Tb X.K 1 g)) (hr : Kb (k + 1) X.A) (m : Binds X.K fd ps []) (hc : X.calm = true) (hu : X.A.units + 64 < cLine)
     {E:L2.St} (I:Ba X aa E H s) {l:Addr} {r:D} {Q:VK} (U:Qc X.K H l zs) (hz:bJ X.K (hide Z H) ds zs) (hZ:Own Z H) (hm:Hq g (.lst ds)=.ok r)
  (hQ:∀v H',bG H H'->Bb X.K (hide Z H') r v->Q v H'):wpAny (model X.prog X.w) X.A (call (.builtin "min") [.ref l] [(ofString "key",.ref fa),(ofString "default",.none)]) (EP X aa E Q) X.xe s:=by
 have nm:(toString "min" ++ toString ".loop")="min.loop":=by decide
 refine Uc λh=>?_
 obtain⟨f,J,p,_⟩:=I.list U;have yA:l≠s.heap.objs.size:=by obtain⟨_,q,_⟩:=p.isList;exact Vd<|uc q
 have fp:=I.Eh (Pb _) I.fresh;obtain⟨f1,C,f3,B,A,y⟩:=id fp;refine h<|kmk_tree PySem.F.kind_min PySem.F.plain_min PySem.F.entry_min (bCz _ _ _) ?_;refine xa<|TH (show Builtin.Builtins.bindParams "min" ["key","default"] 0 ⟨[],[(ofString "key",Value.ref fa),(ofString "default",Value.none)]⟩=pure [some<|Value.ref fa,some Value.none] from rfl) ?_
 refine xa<|Ma ?_;refine xa<|ft p.isList ?_;refine xa<|Yl ?_;rw[nm];refine Ma ⟨Zl dz _,?_⟩;have I1:Ba X aa E H {s with heap:=s.heap.push {cls:=.type "list_iterator",data:=.fields #[.ref l,.int 0 0]} }:=I.kept λ_ _ q=>Xb _ q
 have ai:(s.heap.push {cls:=.type "list_iterator",data:=.fields #[.ref l,.int 0 0]}).IsListIter s.heap.objs.size l 0:=⟨_,de _ rfl,rfl,rfl⟩;have N:s.heap.objs.size<(s.heap.push {cls:=.type "list_iterator",data:=.fields #[.ref l,.int 0 0]}).objs.size:=by rw[Mh];exact vt _
 generalize s.heap.objs.size=it at *;generalize s.heap.push {cls:=.type "list_iterator",data:=.fields #[.ref l,.int 0 0]}=h1 at *;have w:=I1.Qp (t':=s.toks) .nil<|Ef _;have t:=I1.fresh;have Hh:(h1.push {cls:=.type "list",data:=.seq ([]).toArray}).IsListIter it l 0:=let ⟨o,a,b,c⟩:=ai;⟨o,Xb _ a,b,c⟩;have M:(h1.push {cls:=.type "list",data:=.seq ([]).toArray}).get? h1.objs.size=some {cls:=.type "list",data:=.seq #[] 0}:=de _ rfl;have Y:=Vd N;dsimp only at w M Hh t ⊢;generalize h1.objs.size=S at *;have n:bG H (bb H S<|.lst []):=bN t;have su:bJ X.K (hide (S::Z) H) ds zs:=hz.mono λb o e=>by
  unfold hide at e ⊢
  by_cases j:b∈Z
  .rw[jb j]at e;cases e
  rw[Pa j]at e;rw[Pa λz=>(qc.mp z).elim (λz=>by rw[z,t]at e;cases e) j]
  exact e
 have V:(bb H S<|.lst []) it=none:=by rw[aW Y];exact f1
 refine Uc λh=>?_
 obtain⟨f,J,p,_⟩:=w.list<|n.seq U;have W:=Dz (prog:=X.prog) (w:=X.w) (A:=X.A.in1) (w.ok.hd hc) it l yA f.toArray;have lg:f.toArray.size=zs.length:=by rw[Jf,<-J.length]
 have xI:=hz.length;cases ds with
 |nil=>
  have T:f.toArray.size=0:=by rw[lg,xI];rfl
  refine h<|jk UG<|xa<|Ej M rfl<|xa<|qt<|W.done _ _ _ ⟨by rw[T];exact Hh,p.isList⟩ λh' G O=>?_
  have I3:=w.turned (t':=G) (λb o m e=>O b o (by simpa using m) e) V C B A y
  refine xa<|ar<|Ma ?_;cases hm;exact⟨.Sb,_,I3,rfl,hQ _ _ n<|uN.mpr rfl⟩
 |cons d ds=>
  have L:0<zs.length:=by rw[xI];exact succ_pos _
  obtain⟨P,hk,h2⟩:=R.qa hm;refine h<|jk UG<|xa<|Ej M rfl<|xa<|qt<|W.item 0 _ _ _ (by rw[lg];exact L) ⟨Hh,p.isList⟩ λv h' G hP iu O=>?_
  refine Uc λh=>?_
  have I3:=w.turned (t':=G) (λb o m e=>O b o (by simpa using m) e) V C B A y
  obtain⟨oI,vT,au,mm⟩:=id iu.1;have GB:=N8 J L hP;have I4:=O8 I3 ⟨V,C,f3,B,A,y⟩ vT mm;have K:=E4 bK rfl<|hZ.mono n;have rd:Bb X.K (hide (S::Z)<|bb H S<|.lst []) d zs[0]:=(i7 su (succ_pos _) L).mono<|bG.hide n;refine h<|xa<|qt<|Yf<|Gj (e7 F hr m I4 GB ⟨S::Z,[d],P,K,.cons rd .nil,rfl,hk,λv x s2 r2=>(⟨s2,r2⟩:bG (bb H S<|.lst []) x/\Bb X.K (hide (S::Z) x) P v)⟩) (λu s2 he=>?_) λ_ _ z=>z.elim
  refine Uc λh=>?_
  obtain⟨EW,x,I5,ix,i,Xp⟩:=he;have ae:=i _ _ bK;have pn:=I5.pin (it,oI)<|Ke _<|Ke _<|Hd.mpr rfl;obtain⟨_,UT,n3,r5,l3,o3⟩:=I5.Ig ae;refine h<|xa<|xp o3 rfl ?_;rw[nm];have I6:=I5.Td.gi (t':=s2.toks) (f:=λ_ => #[v,u]) ae o3 rfl (.cons GB<|.cons ix .nil) (by rw[fm];show 2<=_;lia)
  have hd:hide (S::Z) (bb x S<|.lst [zs[0],EW])=hide (S::Z) x:=sW qb;refine Ma ⟨Zl dz _,bHs F hr m hc hu U su hZ yA t hQ ds.length 1 _ _ d P zs[0] EW (by rw[Ed];lia) I6 ?_ ?_ (λb o e=>?_) bK (by rw[hd];exact rd.mono<|bG.hide i) (by rw[hd];exact Xp) h2⟩
  .refine⟨?_,C,f3,B,A,y⟩;rw[aW Y];exact pn.2.1
  .refine⟨oI,?_,au,mm⟩;rw[Rl _ _<|vg Y];exact pn.1
  .rw[aW<|bD e t];exact i _ _<|n _ _ e
def bQi{k:Nat}{g:ca}(h:Ea X.prog X.w X.K X.mg X.base x k 1 g)(O:Kb j X.A)(U:k+1<=j)(Z:X.calm=true)(N:X.A.units+64<cLine)(S:X.mg "min"=none)(ha:PE X e (tI X.K B f))(o:Gl X x:=by rfl)(YS:pf x:=by decide)(W:Gl X "min":=by rfl)
  (hs:sf e [] X.env:=by rfl)
  (he:backTo pos (starEach [e] X.env)=(false,eval e X.env)::backTo pos (starEach [] X.env):=by rfl) (Od:(backTo pos<|starEach [e] X.env).any (·.1)=false:=by rfl)
  (Mj:(backToKw pos<|keywordEach [⟨some "key",.Name x kp,Pp⟩,⟨some "default",.Constant .none jc GI,Bk⟩] X.env).all (·.1.isSome)=true:=by rfl) (n:(backToKw pos<|keywordEach [⟨some "key",.Name x kp,Pp⟩,⟨some "default",.Constant .none jc GI,Bk⟩] X.env).any (·.1.isNone)=false:=by rfl)
  (T:(backToKw pos<|keywordEach [⟨some "key",.Name x kp,Pp⟩,⟨some "default",.Constant .none jc GI,Bk⟩] X.env).filterMap (·.1)=[("key":Str),("default":Str)]:=by rfl) :
  PE X (.Call (.Name "min" p) [e] [⟨some "key",.Name x kp,Pp⟩,⟨some "default",.Constant .none jc GI,Bk⟩] pos) (tI X.K B<|e1 (Hq g) f):=by
 obtain⟨r,fd,ps,F,m,L,bn⟩:=h.ex;intro t s σ H Q I h;obtain⟨A,st,d,z,Y,q⟩:=h;obtain⟨y,M,c⟩:=R.qa Y;obtain⟨ds,rfl⟩:∃ds,y=.lst ds:=by
  unfold Hq at c;split at c
  .exact⟨_,rfl⟩
  .exact⟨_,rfl⟩
  cases c
 refine Vq<|uV I W S rfl (callWith_kw (Vb (cN ha fD hs pos t s σ H (λw H1=>∃l a,w=[V.ref l]/\bG H H1/\Qc X.K H1 l a/\bJ X.K (hide (A++B) H1) ds a) I ?_) λus s1 ⟨w,H1,I1,r1,l,a,e1,sm,q1,q2⟩=>?_) he Od Mj n) (by decide) rfl
 .refine⟨A,st,_,z,M,λv H1 s1 r1=>?_⟩
  obtain⟨l,a,rfl,P,AI⟩:=fX.mp r1;exact⟨l,a,rfl,s1,(aX _ _).seq P,AI⟩
 subst e1;obtain⟨u,rfl,E⟩:=r1.one;obtain rfl:u=Value.ref l:=E;refine kws_cons<|Vb (GD (v:=.ref r) o m rfl YS t s1 σ H1 (λb i=>b=.ref r/\i=H1) I1 ⟨rfl,rfl⟩) λv D ⟨b,i,I2,K,e2,e3⟩=>?_
 subst e2 e3;obtain rfl:v=Value.ref r:=K;refine kws_cons<|Vb (v7 t D σ _ (λb i=>b=.Sb/\i=_) I2 ⟨rfl,rfl⟩) λv s3 ⟨b,H3,I3,J,e4,e5⟩=>kws_nil ?_
 subst e4 e5;obtain rfl:v=Value.none:=J;exact bD0 F (O.mono U) bn Z N I3 q1 q2 (z.own.mono sm) c λv H' C G=>q v H' (sm.trans C) G
def PF(K:Frag)(T:Addr)(bs:u8):Prop:=∃(o:Obj)(a:wE)(n:Nat),K.lookup T=some o/\o.cls=.type "tuple"/\o.data=.seq a n/\a.size<=sizeLine/\Ha (bs.map V.bl) a.toList
theorem F4{K:Frag}{H:Hp}:∀(bs:u8),bJ K H (bs.map D.bl) (bs.map V.bl)
 |[]=>.nil
 |_::bs=>.cons (dW.mpr rfl)<|F4 bs
def bM0{K:Frag} {T:Addr} {bs:u8} (m:nsIn K mainGlobals (ofString nF)=some (some<|.ref T)) (p:PF K T bs):Gi K (λx y H Q=>MI K x y H Q\/KQ x y H Q) (kG nF bs):=by
 intro A H x y d v u Q w f c e q;unfold kG at e;split at e
 .rename_i g;obtain⟨rfl,e2⟩:=aM e;have ⟨i,n⟩:∃i,y=.int i:=by
   cases y with
   |int i=>exact⟨i,rfl⟩
   |_=>cases e2
  subst n;have h:=zW<|show Ih (Pu.yd (bs.map D.bl) i)=.ok d from e2
  have b:Bb K (hide A H) (.fn g) v:=by
   rcases f with h|⟨_,l,_,_,_,e1,_⟩
   .exact h
   .cases l<;>cases e1
  obtain⟨a,rfl,j⟩:=ZO.mp b;rw[m]at j;cases j;obtain⟨z,o,k⟩:=(F4 (K:=K) (H:=hide A H) bs).yd h;exact .inl<|.inr<|.inl ⟨T,_,i,z,rfl,c.int,.inr p,o,q _ H (bG.refl _) k⟩
 .exact p6 A H x y d v u Q w f c e q
def bTn{a b:Expr} {T:Addr} {bs:u8} (d:nsIn X.K mainGlobals (ofString nF)=some (some<|.ref T)) (j:PF X.K T bs) (c:X.A.units+64<cLine) (i:PE X a (tP X.K B f)) (e:PE X b (tP X.K B g)) (hs:XM b:=by intro _ _;rfl):PE X (.Subscript a b pos) (tI X.K B<|e2 (kG nF bs) f g):=
 cF (V8 (F7.or<|o6 c) i e hs) λ_ _ _ h=>xy (bM0 d j) h
def bHt(st:za)(d:D)(h:e1 Ey f st=.ok d):∃xs,d=.lst xs:=by
 obtain⟨x,_,a⟩:=R.qa h;unfold Ey at a;split at a
 .obtain⟨l,_,c⟩:=R.qa a;obtain⟨_,b⟩:=aM c;cases b;exact⟨_,rfl⟩
 cases a
def bM1{a:Expr} (C:X.mg "list"=none) (F:X.calm=true) (G:PE X a (tP X.K B f)) (D:Gl X "list":=by rfl) (hs:sf a [] X.env:=by rfl):PE X (.Call (.Name "list" p0) [a] [] pos) (tF X.K B<|e1 uv f):=by
 refine cF (oR (KZ F) D C rfl (cN G fD hs) (he:=hs)) ?_
 rintro σ H Q ⟨A,st,d,l,E,q⟩;obtain⟨x,z,b⟩:=R.qa E;refine⟨A,st,x,l,z,λv H1 s1 r1=>?_⟩
 unfold uv at b;split at b
 .obtain⟨c,J⟩:=aM b;cases J;have w:=l.own.mono s1;rcases r1 with h|⟨p,y,o,L,m,e,e2,h,u,r⟩
  .obtain⟨p,m,rfl,I,K⟩:=nY.mp h;rcases I with ⟨k,_⟩|⟨_,g,k,rfl,rfl⟩
   .cases k
   exact⟨p,g,rfl,aX _ _ _ _ k,λn t i j=>q n _ H1 s1 i<|j.mh w⟩
  cases y<;>cases e;rcases u with ⟨s,_⟩|⟨_,g,rfl,rfl,rfl⟩
  .cases s
  exact⟨p,g,by rw[e2],h,λn t i j=>q n _ H1 s1 i<|j.mh w⟩
 cases b
end
section
variable {o x:Expr} {h:Ex}
def bQj{K:Frag} {t:Bool} {g:dL} (f:lZ K A H (.Fe t g ds) v):∃a,v=.ref a/\CJ H a:=by
 rcases f with h|⟨a,j,o,k,d,e,e2,h,i,r⟩
 .obtain⟨a,d,e,q,r⟩:=nY.mp h;rcases q with ⟨_,b,c,_,_⟩|⟨_,b,c,_,_⟩
  .exact⟨a,e,.inl ⟨b,.inl<|aX _ _ _ _ c⟩⟩
  exact⟨a,e,.inr ⟨b,.inl<|aX _ _ _ _ c⟩⟩
 cases j<;>cases e;rcases i with ⟨_,b,c,_⟩|⟨_,b,c,_⟩
 .subst c;exact⟨a,e2,.inl ⟨b,.inl h⟩⟩
 subst c;exact⟨a,e2,.inr ⟨b,.inl h⟩⟩
def bM2{K:Frag} {k z r:D} {u y:V} (j:v=.ref a) (i:lZ K A H d v) (h:Bb K (hide A H) k u) (q:Bb K (hide A H) z y) (c:Fy d k z=.ok r):∃b,fj H a u b/\Bb K (hide A H) r (b.getD y):=by
 unfold Fy at c;split at c
 .obtain⟨n,e⟩:=aM c;obtain⟨s,b,f,g,l,o⟩:=aE i (h.mono<|aX _ _) n;rw[j]at f;cases f;refine⟨b,g,?_⟩;split at e
  .obtain⟨w,rfl,p⟩:=o r<|zW e;exact p
  rename_i m;cases e;have:b=none:=by
   cases b with
   |none=>rfl
   |some w=>exact absurd (l.symm.trans rfl) m
  rwa [this]
 cases c
def bHu{k z r:D}(a:Fy d k z=.ok r):∃t b vs,d=.Fe t b vs:=by
 unfold Fy at a;split at a
 .exact⟨_,_,_,rfl⟩
 cases a
theorem bQk(G:X.A.units+64<cLine)(p:PE X o (tP X.K B f))(he:PE X e (tI X.K B g))(m:Pg o "get" X.env:=by rfl)
  (l:tm Ia [e] X.env:=by rfl)
  (j:Jh Ra Ia:=by rfl) (i:backTo Ia (starEach [e] X.env)=[(false,eval e X.env)]:=by rfl):PE X (.Call (.Attribute o "get" Ra) [e] [] Ia) (tI X.K B<|EQ f g<|eC .Sb):=by
 refine cF (bDx (by lia) p he ⟨m,l,j,i⟩) ?_
 rintro σ H Q ⟨A,st,r,b,n,q⟩;obtain⟨d,w,z⟩:=R.qa n;obtain⟨k,s,y⟩:=R.qa z;have c:=y;refine⟨A,st,d,b,w,λv I s1 rx=>?_⟩
 obtain⟨t,F,E,rfl⟩:=bHu c;obtain⟨a,rfl,x⟩:=bQj rx;refine⟨a,rfl,x,A,st,k,b.mono s1,s,λu H2 s2 ry=>?_⟩
 obtain⟨h,D,C⟩:=bM2 rfl (rx.mono s2) ry (uN.mpr rfl) c;exact⟨h,D,q _ H2 (s1.trans s2) C⟩
end
structure IJ(K:Frag)(C:Addr):Prop where
 makes:makesIn K C=true
 init:findIn K (.ref C) "__init__"=some (some<|.builtin "object.__init__")
 kp:keepIn K (.ref C)=true
section
variable {a b:Expr}
def bQl{c:String} (n:IJ X.K C) (k:ClsAt X.K c C) (g:X.mg (ofString c)=some (.ref C)) (i:Gl X (ofString c):=by rfl) (l:pf (ofString c):=by decide) :
  PE X (.Call (.Name (ofString c) p0) [] [] pos) (tI X.K B<|b9 c):=by
 intro m s σ H Q I h;obtain⟨A,st,d,f,j,q⟩:=h;cases j;refine Vq<|FD I i g (PySem.W.callWith_K0 I.Og n.kp<|Cz<|bAy I.Og n.makes n.init (λa=>PySem.W.Looks.of_pure<|PySem.W.oi_bind a)<|codeAny_call_builtin PySem.W.oi_plain PySem.W.entry_oi<|@PySem.W.check_slot _ _ _ _ "object.__init__" "object" "__init__" (.ref<|s.heap.objs.size+1) [] [] _ PySem.W.oi_kind PySem.W.oi_split (((PySem.W.Looks.ld (by
  have:=de (s.heap.push PySem.W.emptyDict) (o:=PySem.W.instObj C s.heap.objs.size) rfl
  rwa [Mh]at this)).andThen .now).andThen<|(SR (M:=model X.prog X.w) I.Og n.makes).top.keeps λb o z=>Xb _<|Xb _ z) (PySem.W.oi_args _)<|Ma<|And.intro rfl ?_) l
 have e:=I.Ta.fresh<|Io _;refine⟨V.ref _,_,Ba.made I,rfl,q _ _ (λb u z=>?_) ?_⟩
 .rwa [aW<|bD z e,aW<|bD z<|I.Ta.fresh<|Pb _]
 refine ZD.mpr ⟨_,C,s.heap.objs.size,[],[],rfl,?_,k.ns,rfl,rfl,.nil⟩;rw[bF<|f.own.free e];exact bK
def bQm(i j:Nat){y g:Str}{k M:Nat} {D:Pos} (h:Ea X.prog X.w X.K X.mg X.base g k 2 p) (C:Kb M X.A) (hk:k<=M) (he:PE X e (tI X.K B f)) (hN:X.N.Nodup) (hi:X.N[i]?=some x:=by rfl) (hj:X.N[j]?=some y:=by rfl)
  (hx:Loc X.env.scope x:=by exact Dl rfl) (hv:Ah X.env.scope y:=by exact tj rfl) (hd:pf y:=by decide) (P:Yi y:=by decide)
  (hg:Gl X g:=by rfl) (Gh:pf g:=by decide) (T:Pg (.Name y p1) "pop" X.env:=by rfl) (Q:Jh Ra Ia:=by rfl)
  (ae:starEach [.Call (.Attribute (.Name y p1) "pop" Ra) [] [] Ia] X.env=(false,eval (.Call (.Attribute (.Name y p1) "pop" Ra) [] [] Ia) X.env)::starEach [] X.env:=by rfl)
  (a:starEach [e,.Call (.Attribute (.Name y p1) "pop" Ra) [] [] Ia] X.env=(false,eval e X.env)::starEach [.Call (.Attribute (.Name y p1) "pop" Ra) [] [] Ia] X.env:=by rfl)
  (rf:(backTo D<|starEach [.Call (.Attribute (.Name y p1) "pop" Ra) [] [] Ia] X.env).any (·.1)=false:=by rfl)
  (hs:aj (.Call (.Name g p0) [e,.Call (.Attribute (.Name y p1) "pop" Ra) [] [] Ia] [] D) (some<|.Name x pos') pos.line X.env:=by rfl)
  (hf:sj X x:=by first|exact .inl rfl|exact .inr rfl|assumption) :
  PS X (.Assign [.Name x pos'] (.Call (.Name g p0) [e,.Call (.Attribute (.Name y p1) "pop" Ra) [] [] Ia] [] D) pos) (tS X.K B<|vF i j p f):=by
 refine Uc λhG=>?_
 obtain⟨fa,fd,ps,F,m,Z,bd⟩:=h.ex;refine hG<|kW (nq hN hi hx (VM F (C.mono hk) hg m Z bd .nil Hv (cN he (cN (qv qw PySem.F.slot_list_pop PySem.F.type_list_pop bO7 (oF hj hv hd P) T Q) fD ae) a) Gh a rf) hs hf) ?_;rintro Dn σ H ⟨A,st,r,t,C,W⟩;obtain⟨G,Al,b⟩:=R.qa C;split at b
 .rename_i E e1;split at b
  .rename_i d O;obtain⟨c,h4⟩:=aM b;obtain⟨S,hy,h5⟩:=R.qa h4;cases h5;obtain⟨l,o,n,e2,Y,N,ko,q,u⟩:=t.lst j _ E e1;subst ko;refine⟨A,st,G,t,Al,λv H' s rv=>?_⟩
   have K:=q.length;have L:=q.mono<|bG.hide s;rw[u_]at O;obtain⟨w,hw,Jg⟩:=L.get O;obtain⟨I,U⟩:=(t.mono s).write e1 e2 (k1:=.l) (ds:=E.dropLast) (Mg:=n.dropLast) rfl (by
    rw[U_,U_,K];exact L.take _)
   refine⟨.ref l,e2,.inl ⟨rfl,n,Qc.of<|s _ _ N⟩,l,n,w,rfl,rfl,s _ _ N,by rwa [K],(⟨A++B,[G,d],S,I.own,?_,rfl,hy,λz H3 J V=>W A _ H3 ((Le.of s).trans<|U.trans<|Le.of J)<|(I.mono J).set i V⟩)⟩
   rw[(sW<|Sf _ Y)];exact .cons rv<|.cons Jg .nil
  cases b
 cases b
end
section
variable {σ:L2.St} {b:Addr} {A:Around} {more:s0} {k:Key} {r:Value}
theorem bQn(I:Ba X aa σ H s)(e:H a=some (.dK ua))(l:RelV (kV k) u)(m:RelV v r)(w:ua.length+1<=sizeLine)
  (p:∀d,wV ua k=some d->∀g f,RelV d g->Ba X aa σ H f->Q g f) (o:wV ua k=none->∀f,Ba X aa σ (bb H a<|.dK<|Be ua k v) f->Q r f):wpAny (model X.prog X.w) A (call (.builtin "dict.setdefault") [.ref a,u,r]) Q E s:=by
 obtain⟨z,h,j,b,i⟩:=yq I.Ta e;refine yz n_ i.typeIs PySem.F.entry_dict_setdefault (PySem.F.args_dict_setdefault_3 _ _ _) (kt_meets_setdefault _ a (wq l) h r) ⟨j,i,by rwa [<-b.length],λt qm=>?_,λhn x jm hs=>?_⟩
 .have q:=b.val k;rw[qm]at q;cases c:wV ua k with
  |none=>rw[c]at q;exact q.elim
  |some d=>
   rw[c]at q;exact p d c _ _ q<|I.tok _
 have q:=b.val k;rw[hn]at q;cases c:wV ua k with
 |some d=>rw[c]at q;exact q.elim
 |none=>
  exact o c _<|Mx I (by rw[e];exact True.intro) hs (let ⟨q,_,_,n,_⟩:=jm;⟨q,n⟩)<|BO (by have:=wG ua k v;lia) h (KV.put b k m) jm
end
def bTo:sw:=λx d H Q=>∃a b k v,x=.ref a/\d=[kV k,v]/\H a=some (.dK b)/\b.length+1<=sizeLine/\(∀c,wV b k=some c->Q c H)/\(wV b k=none->Q v (bb H a<|.dK<|Be b k v))
def bM3:Ll X "dict.setdefault" bTo:=by
 intro B s σ H x t v u Q I i j h;obtain⟨a,w,k,f,rfl,rfl,e,r,o,n⟩:=h;cases i;obtain⟨z,y,rfl,m,d⟩:=j.two;exact bQn I e m d r (λc p A g l b=>⟨c,H,b,l,o c p⟩) λq g b=>⟨f,_,b,d,n q⟩
section
variable {e1 e2:Expr}
def bQo(i:Nat) (h:PE X e1 (tI X.K B g)) (he:PE X e2 (tI X.K B f)) (P:X.N[i]?=some x:=by rfl) (N:Ah X.env.scope x:=by exact tj rfl) (j:pf x:=by decide)
  (D:Yi x:=by decide) (I:Pg (.Name x p1) "setdefault" X.env:=by rfl)
  (Y:tm Ia [e1,e2] X.env:=by rfl)
  (G:Jh Ra Ia:=by rfl) (hs:starEach [e1,e2] X.env=(false,eval e1 X.env)::starEach [e2] X.env:=by rfl) (W:sf e2 [] X.env:=by rfl)
  (rf:(backTo Ia<|starEach [e2] X.env).any (·.1)=false:=by rfl)
  (L:aj (.Call (.Attribute (.Name x p1) "setdefault" Ra) [e1,e2] [] Ia) none pos.line X.env:=by rfl) :
  PS X (.Expr (.Call (.Attribute (.Name x p1) "setdefault" Ra) [e1,e2] [] Ia) pos) (tS X.K B<|d9 i g f):=by
 refine kW (Lx (Gv cz n_ PySem.F.type_dict_setdefault bM3 (oF P N j D) (cN h (cN he fD W) hs) I Y G hs rf) L) ?_
 rintro Dn σ H ⟨A,st,r,b,O,p⟩;obtain⟨k,h,S⟩:=R.qa O;obtain⟨d,j,n⟩:=R.qa S;split at n
 .rename_i ks ds y;obtain⟨⟨V,C⟩,Q⟩:=aM n;cases Q;obtain⟨l,o,vs,w,m,v,M,q,u⟩:=b.lst i _ _ y;rcases M with ⟨_,a,rfl,rfl,rfl⟩|⟨z,_⟩
  .refine⟨.ref l,w,.inr<|.inr<|.inl ⟨rfl,.inl ⟨a,v⟩⟩,A,st,k,b,h,λv1 H1 s1 r1=>⟨A,st,d,b.mono s1,j,λv2 H2 s2 r2=>?_⟩⟩
   obtain⟨c,U,T⟩:=zX r1 V;subst U T;have t:=q.length;rw[Rb]at t;have e:oG (a.map λp=>pC p.1) (pC c)=(wV a c).isSome:=by rw[<-OL,E3 Zx]
   refine⟨l,a,c,v2,rfl,rfl,(s1.trans s2) _ _ v,by rw[t];rw[lB]at C;exact Xd C (by decide),λZ hw=>?_,λhn=>?_⟩
   .rw[hw]at e;have s:oG _ _=true:=e;rw[jb s]at p;exact p A _ _ (Le.of<|s1.trans s2)<|b.mono<|s1.trans s2
   rw[hn]at e;rw[Pa (by rw[e];exact Wl)]at p
   obtain⟨F,E⟩:=NN Zx c v2 d r2 a ds<|q.mono<|bG.hide<|s1.trans s2;obtain⟨K,J⟩:=(b.mono<|s1.trans s2).write y w (k1:=.d false _) (.inl ⟨rfl,Be a c v2,rfl,F,rfl⟩) E;exact p A _ _ ((Le.of<|s1.trans s2).trans J) K
  cases z
 cases n
end
def oQ(v d:Addr):HO:=.ext λh=>h.IsValuesView v d
section
def bD1:Ll X "dict.values" (λx vs H Q=>∃(d:Addr) (c:s0),x=.ref d/\vs=[]/\H d=some (.dK c)/\∀n,H n=none->Q (.ref n) (bb H n<|oQ n d)):=by
 intro A s σ H x vs v r Q I i j h;obtain⟨d,c,rfl,rfl,a,q⟩:=h;cases i;have g:=j.zero;subst g;obtain⟨w,l,xs,t,f⟩:=yq I.Ta a;refine yz B_ f.typeIs PySem.F.entry_dict_values (PySem.F.args_dict_values_1 _) (meets_dict_values _ d l) ⟨⟨xs,f⟩,?_⟩;have e:(s.heap.push {cls:=.type "dict_values",data:=.fields #[.ref d]}).get? s.heap.objs.size=some {cls:=.type "dict_values",data:=.fields #[.ref d]}:=de _ rfl;exact⟨.ref s.heap.objs.size,_,I.laid (o:=oQ s.heap.objs.size d) (λb u q=>Xb _ q) (Pb _) ⟨⟨_,e,rfl,rfl⟩,⟨_,e⟩,λz y ⟨o,m,p,a⟩ k=>⟨o,k o m,p,a⟩⟩,rfl,q _<|I.Ta.fresh<|Pb _⟩
end
section
variable {σ:L2.St}
def Ba.word(I:Ba X aa σ H s) {o':HO} (h:H a=some o) (A:∀b,o≠.own b) (y:∀xs,o≠.tup xs) (t:∀xs,X.La a≠some (.tup xs)) (r:∀q u,X.La a≠some (.Fh q u)) (l:∀ps,X.La a≠some (.Oo ps)) (w:mQ X.prog X.w (bb H a o') s.heap a o'):Ba X aa σ (bb H a o') s:=by
 have f:∀b,H b=none->b≠a:=λb e z=>by rw[z,h]at e;cases e
 have d:∀{b:Addr}{u:Option HO},b≠a->H b=u->bb H a o' b=u:=λg e=>by rwa [aW g]
 refine⟨I.ok,I.os,I.bare,⟨I.base.keep,I.base.slot,λb o e n hx=>?_,I.base.there,λb xs e=>?_,λb q u e=>?_,λb ps e=>?_⟩,I.loc,I.cell,d (f _ I.free) I.free,λx c e=>d (f _<|I.df x c e)<|I.df x c e,λp hp=>?_,λb u e=>?_,I.len⟩
 .have:=I.base.free b o e n hx;exact d (f _ this) this
 .exact d (λz=>t xs<|z ▸ e) (I.base.Lg b xs e)
 .exact d (λz=>r q u<|z ▸ e) (I.base.yg b q u e)
 .obtain⟨m,e1⟩:=I.base.Kg b ps e;exact⟨m,d (λz=>l ps<|z ▸ e) e1⟩
 .obtain⟨k,i,j⟩:=I.pin p hp;exact⟨k,d (f _ i) i,j⟩
 by_cases g:b=a
 .subst g;rw[bK]at e;cases e;exact w
 rw[aW g]at e;refine(I.Ta b u e).Ye (λc v _ q=>q) (λc q=>d (λz=>?_) q) λc xs q=>d (λz=>?_) q
 .rw[z,h]at q;exact A b<|Vk q
 rw[z,h]at q;exact y xs<|Vk q
end
def j7{w:World} {xs:Ev} {ob:Obj} (c:h.DictAt (iB P w) a xs ep) (e:h.get? a=some ob) (f:h'.get? a=some ob):h'.DictAt (iB P w) a xs ep:=by
 obtain⟨o,d,b,r⟩:=c;rw[e]at b;cases b;exact⟨ob,d,f,r⟩
def OW(a:Addr)(ob:Obj)(b:s0):It:=
 ⟨λi H=>H a=some (.Fh ob<|.dK b)/\i<b.length,λi H x c=>∃T p,b[i]?=some p/\x=V.ref T/\H T=none/\c=bb H T (.tup [kV p.1,p.2]),λi H=>H a=some (.Fh ob<|.dK b)/\b.length<=i⟩
theorem aX9{w:World}{K:Frag} {tn1} {it:Addr} {ob:Obj} {xs:Ev} {Q:Heap} (A:KV ua xs) (S:Q.DictAt (iB P w) a xs ep) (r:Q.get? a=some ob):Turn P w K (.Tuple wg tn1 tp) (OW a ob ua) [it] it (λi h=>∃u v,IsItemIter h it a i xs.length ep u v) where
 mem:=by simp
 obj:=λi h st b f=>by
  have e:=by simpa using f
  subst e;obtain⟨u,v,e⟩:=st;exact⟨_,e,λv z=>by cases z⟩
 keep:=λi h R ⟨u,v,e⟩ k=>⟨u,v,k it (by simp) _ e⟩
 item:=by
  intro X M G N J i aa s σ H E I D ⟨W,V,st⟩ ⟨F,hi⟩;subst M G N;have hl:=UE A;obtain⟨⟨k,x⟩,j⟩:∃p,xs[i]?=some p:=⟨_,Kc<|by lia⟩
  obtain⟨p,e1,e2,e3⟩:=VE A j;have l:=D it (by simp)
  have L:=I.Ta.fresh<|Pb _;refine wpAny_pyNext_items_item st (j7 S r (I.Ta a _ F).1) j λB R hk Z OS lg C=>⟨_,rfl,wpAny_letOwnedTupleGo_items Z λh2 sA sb=>?_⟩
  have d:=λb o O q=>(sb.2 b O).trans<|C b o O q
  have t:=Vd<|uc st;have nT:∀b g,H b=some g->b≠s.heap.objs.size:=λb g q=>bD q L
  have Y:∀b g,H b=some g->b≠it:=λb g q=>bD q l.1
  have y:∀b:Addr,b∉[it]->b≠it:=λb f z=>f (by simp[z])
  refine⟨.ref s.heap.objs.size,_,(I.call (⟨λb o q n f j=>d b o (y b j) q,λb o q n f j=>⟨o.slots,d b o (y b j) q⟩,λb o q n j=>by rwa [aW<|(λb o q=>Vd<|uc q) b o q],λb o q j=>⟨o,d b o (y b j) q⟩,λb U q=>by rwa [aW<|nT b _ q],λb o g q=>by rwa [aW<|nT b _ q],λb ps q=>⟨#[],by rwa [aW<|nT b _ q]⟩⟩) (λb g q=>by
   by_cases f:b=s.heap.objs.size
   .subst f;rw[bK]at q;cases q;exact⟨show 2<=sizeLine by decide,[B,x],.cons (by rw[e2];exact J8 hk)<|.cons e3 .nil,_,((sb.2 _ t.symm).trans OS),rfl,_,rfl⟩
   rw[aW f]at q;refine(I.Ta b g q).Ye (λc v Qh m=>?_) (λc m=>by rwa [aW<|nT c _ m]) λc U m=>by rwa [aW<|nT c _ m]
   have:∃T,H c=some T:=by
    rcases Qh with z|z
    .exact⟨g,by rwa [z]⟩
    exact⟨_,z⟩
   obtain⟨T,Ui⟩:=this;exact d c v (Y c _ Ui) m) I.bare λb f=>by
   have e:=by simpa using f
   subst e;exact⟨l.2.2.2.1,l.2.1,l.2.2.2.2.1,l.2.2.2.2.2⟩),rfl,⟨_,p,e1,rfl,L,rfl⟩,⟨_,_,sA⟩,λb f=>?_⟩
  have e:=by simpa using f
  subst e;rw[aW t];exact l.1
 done:=by
  intro X M G N J i aa s σ H E I D ⟨W,V,st⟩ ⟨F,hi⟩;have hl:=UE A;obtain⟨f0,f1,f2,f3,f4,f5⟩:=D it (by simp)
  exact wpAny_pyNext_items_end (I.ok.hd J) st (j7 S r (I.Ta a _ F).1) (qp<|by lia) λR eb=>⟨rfl,I.turned (λb o f e=>eb b o f e) f0 f1 f3 f4 f5⟩
 self:=λ_ _ _ _ _ ⟨_,_,st⟩ h=>PySem.W.kcp_self st h
def bVf(i:Nat):L2.TI:=λσ H R=>∃a b,σ[i]?=some (some<|.ref a)/\H a=some (.dK b)/\∀n ob,H n=none->R (OW a ob b) (bb (bb H n<|Dq n a) a<|.Fh ob<|.dK b)
section
variable {tn1}
def bHw(C:X.N[i]?=some x)(y:Ah X.env.scope x)(J:pf x)(K:Yi x)
  (w:Pg (.Name x px) "items" X.env) (t:Jh Ra Ia):L2.PI X (.Tuple wg tn1 tp) (.Call (.Attribute (.Name x px) "items" Ra) [] [] Ia) (bVf i):=by
 intro p s σ H R I L;refine Uc λF=>?_
 obtain⟨a,g,e1,j,q⟩:=L;refine F<|Vb ((qv cz VQ G_ Y3 (oF C y J K) w t) p s σ H (λv r=>∃n,v=.ref n/\H n=none/\r=bb H n (Dq n a)) I ⟨_,e1,.inr<|.inr<|.inl ⟨rfl,.inl ⟨g,j⟩⟩,a,g,rfl,rfl,j,λn h=>⟨n,rfl,h,rfl⟩⟩) λv s1 ⟨M,r,c,A,n,e2,h,G⟩=>?_
 subst e2 G;cases A;have d:bb H n (Dq n a) a=some (.dK g):=by rwa [aW<|bD j h]
 obtain⟨N,E,xs,D,m⟩:=yq c.Ta d;obtain⟨ob,O,Q,f,_⟩:=id m;obtain⟨P,l⟩:=m.dictAt;have k:Ba X p σ (bb _ a<|.Fh ob<|.dK g) s1:=Ba.word c d (by rintro b z;cases z) (by rintro b z;cases z) (λxs z=>by have:=c.base.Lg a xs z;rw[d]at this;cases this) (λq u z=>by have:=c.base.yg a q u z;rw[d]at this;cases this) (λB z=>by obtain⟨_,this⟩:=c.base.Kg a B z;rw[d]at this;cases this) ⟨f,c.Ta a _ d⟩
 refine wpAny_pyIter_items (c.Ta n _ bK).1 l ⟨_,[s1.heap.objs.size],_,_,_,rfl,k.kept λb o e=>Xb _ e,aX9 D l f,⟨_,_,de _ rfl⟩,λb hb=>?_,q n ob h⟩
 have e:=by simpa using hb
 subst e;exact k.Eh (Pb _)<|k.Ta.fresh<|Pb _
theorem bHx{t:Tg} {st:za} {r:Fl} {h:zh} {v:Ends} (O:RS X.K B A H1 st h) (P:Mq X.K B A H1 J ds) (k:pb t bd ds st=.ok r) (p:Yy X.K B A H1 r v) :
  ∃W:Nat->Nat->L2.St->xL,(∃m,W 0 m h H1)/\∀i m h H,W i m h H->
   (J.stop i H/\v.nx h H)\/(J.go i H/\∃N:L2.St->xL,(∀j a,N j a->∃G,G < m/\W (i+1) G j a)/\∀x a,J.Qu i H x a->tG X.K B t x h a λu f=>tS X.K B bd {v with nx:=N,ct:=N,bk:=v.nx} u f):=by
 refine⟨λi m j a=>∃g st',m=ds.length-i/\i<=ds.length/\RS X.K B g a st' j/\pb t bd (ds.drop i) st'=.ok r/\Le A H1 g a,⟨ds.length,A,st,rfl,Ef _,O,by rwa [drop_zero],Le.refl⟩,?_⟩
 rintro i m j a ⟨g,st',rfl,U,c,k,l⟩;obtain⟨T,S⟩:=P g a l c.own i
 by_cases b:i<ds.length
 .obtain⟨go,K⟩:=T _<|Kc b;rw[Ws b]at k;obtain⟨F,Y,V⟩:=R.qa k;obtain⟨I,Ae,s⟩:=R.qa V;refine .inr ⟨go,λu f=>∃w q,i+1<=ds.length/\RS X.K B w f q u/\pb t bd (ds.drop<|i+1) q=.ok r/\Le A H1 w f,?_,λx f y=>?_⟩
  .rintro u f ⟨w,q,Z,Kr,Gp,Q⟩;exact⟨ds.length-(i+1),by omega,w,q,rfl,Z,Kr,Gp,Q⟩
  obtain⟨E,M⟩:=K x f y;have o:=l.trans<|Le.of E;refine⟨g,st',ds[i],F,c.mono E,M,Y,λJl Lr=>⟨g,F,I,Lr,Ae,?_⟩⟩
  cases I with
  |nx n=>exact λD L H4 z C=>⟨D,n,b,C,s,o.trans z⟩
  |ct n=>exact λD L H4 z C=>⟨D,n,b,C,s,o.trans z⟩
  |bk n=>cases s;exact p.mono o
  |rt d=>cases s;exact p.mono o
 have e:i=ds.length:=by lia
 subst e;rw[SH]at k;cases k;exact .inl ⟨S<|Pb _,p g j a l c⟩
def XN{K:Frag} (h:atom d=true) (r:Bb K H d v):Bb K H' d v:=(DD h r).mono λb u (z:none=some u)=>nomatch z
theorem G4{K:Frag}{H c:Hp}:∀(ds:dL){vs:o0},ds.all atom=true->bJ K H ds vs->bJ K c ds vs
 |[],vs,_,r=>by
  have:=r.length;cases vs<;>first|exact .nil|simp at this
 |d::ds,vs,h,r=>by
  rw[all_cons,Wk]at h;obtain⟨v,rest,rfl,a,b⟩:=bR.mp r;exact .cons (XN h.1 a)<|G4 ds h.2 b
def RS.cover{K:Frag} {st:za} {a:Addr} (r:RS K B A H st σ) (j:a∉A++B) (hs:∀b,b≠a->∀o,H b=some o->H' b=some o) (D:(H' a).any nT=true) (t:(st.set i none).all atS=true):RS K (a::B) A H' (st.set i none) σ:=by
 have g:∀{l:Nat}{x:Sl},(st.set i none)[l]?=some _->st[l]?=some _/\atS (some x)=true:=λ{l x} e=>by
  refine⟨?_,qz.mp t _<|jg e⟩;rw[ug]at e;split at e
  .split at e<;>cases e
  exact e
 have w:∀b∈A++B,b≠a:=λb f z=>j<|z ▸ f
 refine⟨by rw[gm,r.len],λb f=>?_,λb f z=>?_,λl d e=>?_,λl k ys e=>?_⟩
 .by_cases z:b=a
  .subst z;exact D
  have:=r.own b (by simpa [z] using f)
  cases h:H b with
  |none=>rw[h]at this;cases this
  |some o=>rw[hs b z o h];rwa [h]at this
 .rcases qc.mp z with z|z
  .exact j (z ▸ Sf _ f)
  exact r.Zf b f z
 .obtain⟨v,e1,q⟩:=r.val l d (g e).1;exact⟨v,e1,XN (g e).2 q⟩
 obtain⟨c,u,s,J,m,I,C,G,F⟩:=r.lst l k ys (g e).1;exact⟨c,u,s,J,m,hs c (w c<|Sf _ m) _ I,C,G4 _ (g e).2 G,λn y p E=>F n y p (g E).1⟩
def RS.bare{K:Frag} {st:za} {a:Addr} (r:RS K (a::B) A H st σ) (n:a∉B):RS K B A (bb H a o) st σ:=by
 have h:∀b∈A,b≠a:=λb f z=>r.Zf b f (by simp[z])
 have g:bG (hide _ H) (hide (A++B)<|bb H a o):=λb u q=>by
  by_cases f:b∈A++a::B
  .rw[dC f]at q;cases q
  rw[bF f]at q;simp at f;rw[bF (by simp[f]),aW f.2.1,q]
 refine⟨r.len,λb f=>?_,λb f z=>r.Zf b f<|Mb _ z,λl d e=>?_,λl k ys e=>?_⟩
 .rw[aW (by
   rcases tf.mp f with z|z
   .exact h b z
   exact λy=>n<|y ▸ z)]
  exact r.own b (by simp at f ⊢; rcases f with z|z<;>simp[z])
 .obtain⟨v,e1,q⟩:=r.val l d e;exact⟨v,e1,q.mono g⟩
 obtain⟨c,m,j,w,i,x,p,t,s⟩:=r.lst l k ys e;exact⟨c,m,j,w,i,by rwa [aW<|h c i],p,t.mono g,s⟩
theorem bQp(i:Nat){t:Tg} (hg:∀B,PG X (.Tuple wg tn1 tp)<|tG X.K B t) (J:∀B,Dd X body<|tS X.K B bd) (hp:PassesOwn (model X.prog X.w) X.A X.env X.xe) (hc:X.calm=true)
  (ni:X.N[i]?=some x:=by rfl) (vi:Ah X.env.scope x:=by exact tj rfl) (di:pf x:=by decide) (ci:Yi x:=by decide)
  (xb:Pg (.Name x px) "items" X.env:=by rfl) (yb:Jh Ra Ia:=by rfl)
  (hs:∀v,foldedSetIterable (.Call (.Attribute (.Name x px) "items" Ra) [] [] Ia) X.env v=pure v:=by intro _;rfl):PS X (.For (.Tuple wg tn1 tp) (.Call (.Attribute (.Name x px) "items" Ra) [] [] Ia) body [] pos) (tS X.K B<|MP i t bd):=by
 intro aa s σ H Dn I Qi;refine Uc λhG=>?_
 obtain⟨A,st,r,O,h,p⟩:=Qi;unfold MP at h;split at h
 case h_2=>cases h
 rename_i ks ds BI;split at h
 case isFalse=>cases h
 rename_i F;rw[Wk]at F;obtain⟨fl,hE,V⟩:=R.qa h;refine hG ?_
 cases fl<;>first|(cases V;done)|skip
 cases V;obtain⟨v,e1,rv⟩:=O.val i _ BI;obtain⟨a,vs,rfl,h4,P⟩:=nY.mp rv;rcases h4 with ⟨_,c,K,rfl,rfl⟩|⟨z,_⟩
 case inr=>cases z
 have G:a∉A++B:=λz=>by rw[dC z]at K;cases K
 have M:=λz=>G<|Sf B z
 have m:=aX _ _ _ _ K;have Ob:=by have:=P.length;rwa [Rb]at this
 refine Vb (ZN hp hc (bHw ni vi di ci xb yb) (hg<|a::B) (J<|a::B) hs aa s σ H {nx:=λC H'=>(∃ob,H' a=some (.Fh ob<|.dK c))/\Dn.nx C (bb H' a<|.dK c),rt:=λ_ _=>False} I ?_) λf s' g=>?_
 .refine⟨a,c,e1,m,λn ob hn=>?_⟩
  have W:∀b,b≠a->∀o,H b=some o->bb (bb H n<|Dq n a) a (.Fh ob<|.dK c) b=some o:=λb J o e=>by rwa [aW J,aW<|bD e hn]
  have Ye:∀{A' H'},Le A (bb (bb H n<|Dq n a) a _) A' H'->a∉A'/\H' a=some (.Fh ob<|.dK c):=λ{A' H'} l=>by
   have e:=l a _ (by rw[bF M];exact bK)
   by_cases z:a∈A'
   .rw[dC z]at e;cases e
   exact⟨z,by rwa [bF z]at e⟩
  refine bHx (O.cover G W (by rw[bK];rfl) F.2) (λA' H' l own j=>⟨λd hd=>?_,λhl=>⟨(Ye l).2,?_⟩⟩) hE λA' C H' l E=>⟨⟨ob,(Ye l).2⟩,p A' C _ (λb o e=>?_)<|E.bare<|λz=>G<|Ke A z⟩
  .rw[List.getElem?_zipWith]at hd;have Q:j<c.length:=by
    refine Uc λz=>?_
    rw[qp (by simp;lia)]at hd
    cases hd
   obtain⟨q,g⟩:∃q,c[j]?=some q:=⟨_,Kc Q⟩;obtain⟨d1,L⟩:∃d,ds[j]?=some d:=⟨_,Kc<|by lia⟩
   rw[rh,g,L]at hd;cases hd;refine⟨⟨(Ye l).2,Q⟩,?_⟩;rintro y H3 ⟨T,q',Z,rfl,U,rfl⟩;rw[g]at Z;cases Z;obtain⟨w,Y,r5⟩:=P.get L;rw[rh,g]at Y;cases Y;refine⟨bN U,sY own U<|.cons ?_<|.cons (XN (qz.mp F.1 _<|jg L) r5) .nil⟩;obtain⟨k,_⟩:=q;cases k with
   |inl i=>exact bO.mpr rfl
   |inr x=>exact dX.mpr (by simp[kV])
  .simp at hl;lia
  by_cases z:b=a
  .subst z;rw[bF M,m]at e;cases e;rw[bF (Ye l).1,bK]
  by_cases D:b∈A
  .rw[dC D]at e;cases e
  rw[bF D]at e;have e2:=l b o (by rw[bF D];exact W b z o e)
  by_cases N:b∈A'
  .rw[dC N]at e2;cases e2
  rw[bF N]at e2 ⊢
  rwa [aW z]
 cases f with
 |next=>
  obtain⟨C,H',I',⟨ob,S⟩,hn⟩:=g;exact⟨C,_,Ba.word (o':=.dK c) I' S (by rintro b z;cases z) (by rintro b z;cases z) (λxs z=>by have:=I.base.Lg a xs z;rw[m]at this;cases this) (λq u z=>by have:=I.base.yg a q u z;rw[m]at this;cases this) (λps z=>by obtain⟨_,this⟩:=I.base.Kg a ps z;rw[m]at this;cases this) (I'.Ta a _ S).2,hn⟩
 |ret v=>obtain⟨_,_,_,_,_,z⟩:=g;exact z.elim
 |brk=>obtain⟨_,_,_,z⟩:=g;exact z.elim
 |cont=>obtain⟨_,_,_,z⟩:=g;exact z.elim
end
theorem C1:∀{f:s0} {vs:Ev} {c:cr},KV f vs->c.length=vs.length->(∀(j:Nat)(u:Value),c[j]?=some u->∃k,vs[j]?=some (k,u))->Ha (f.map (·.2)) c
 |[],_,c,r,d,_=>by
  cases r;rw[Lm.mp d];exact .nil
 |p::f,_,c,r,d,h=>by
  cases r with
  |@cons a b l bs i t=>
   cases c with
   |nil=>simp at d
   |cons u c=>
    obtain⟨k,e⟩:=h 0 u rfl;simp at e;refine .cons ?_<|C1 t (by simpa using d) λj u g=>?_
    .have:=i.2
     rwa [e]at this
    obtain⟨k,e⟩:=h (j+1) u (by simpa using g)
    exact⟨k,by simpa using e⟩
section
variable {a:Expr}
theorem aXa(p:X.calm=true):mF X (.type "list") (λvs H Q=>∃(v d:Addr) (a:s0),vs=[.ref v]/\H v=some (oQ v d)/\H d=some (.dK a)/\a.length<=10000000/\∀n,H n=none->Q (.ref n) (bb H n (.lst (a.map (·.2))))):=by
 intro K s σ H vs B Q I r h;refine Uc λw=>?_
 obtain⟨v,d,a,rfl,i,o,F,q⟩:=h;obtain⟨u,rfl,e⟩:=r.one;obtain rfl:u=Value.ref v:=e;obtain⟨D,E,xs,b,x⟩:=yq I.Ta o;have L:=UE b;obtain⟨J,f⟩:=x.dictAt;obtain⟨c,_,_⟩:=I.Ta v _ i;refine w ?_
 refine kdl_call PySem.W.kdl_values (I.ok.hd p) ⟨c,f⟩ (by lia) λG C g A k t m=>⟨.ref s.heap.objs.size,_,I.laid (o:=.lst _) k (Pb _) ⟨by rwa [Rb],g.toList,A,?_,by simpa using t⟩,rfl,q _<|I.Ta.fresh<|Nat.le_refl _⟩
 obtain⟨z,y⟩:=m;exact C1 b (by simpa using z) λj u l=>y j u (by simpa using l)
def bM4(t:X.mg "list"=none)(y:X.calm=true)(z:PE X a (tI X.K B f))(u:Gl X "list":=by rfl)(o:Pg a "values" X.env:=by rfl)(k:Jh Ra Ia:=by rfl)
  (hs:starEach [.Call (.Attribute a "values" Ra) [] [] Ia] X.env=(false,eval (.Call (.Attribute a "values" Ra) [] [] Ia) X.env)::starEach [] X.env:=by rfl):PE X (.Call (.Name "list" p0) [.Call (.Attribute a "values" Ra) [] [] Ia] [] pos) (tF X.K B<|e1 qy f):=by
 refine cF (oR (aXa y) u t rfl<|cN (qv cz B_ PySem.F.type_dict_values bD1 z o k) fD hs) ?_
 rintro σ H Q ⟨A,st,ds,r,w,q⟩;obtain⟨x,s,b⟩:=R.qa w;refine⟨A,st,x,r,s,λv F s1 r1=>?_⟩
 unfold qy at b;split at b
 .obtain⟨c,D⟩:=aM b;cases D;obtain⟨p,E,rfl,C,i⟩:=nY.mp r1;rcases C with ⟨_,d,h,rfl,rfl⟩|⟨h,_⟩
  .have g:=aX _ _ _ _ h;have j:=i.length;rw[Rb]at j;rw[lB]at c;exact⟨.inr<|.inr<|.inl ⟨rfl,.inl ⟨d,g⟩⟩,p,d,rfl,rfl,g,λn e=>⟨n,p,d,rfl,bK,by rwa [aW<|bD g e],by rwa [j],λm l=>q m _ _ (s1.trans<|bN e) l<|i.mono<|bG.hide<|bN e⟩⟩
  cases h
 cases b
def bM5(g:X.mg "list"=none)(j:X.calm=true)(k:PE X a (tI X.K B f))(i:Gl X "list":=by rfl)(e:Pg a "values" X.env:=by rfl)(c:Jh Ra Ia:=by rfl)
  (hs:starEach [.Call (.Attribute a "values" Ra) [] [] Ia] X.env=(false,eval (.Call (.Attribute a "values" Ra) [] [] Ia) X.env)::starEach [] X.env:=by rfl):PE X (.Call (.Name "list" p0) [.Call (.Attribute a "values" Ra) [] [] Ia] [] pos) (tI X.K B<|e1 qy f):=
 K8 (bM4 g j k i e c hs) λst d h=>by
  obtain⟨x,_,b⟩:=R.qa h;unfold qy at b;split at b
  .obtain⟨_,l⟩:=aM b;cases l;exact⟨_,rfl⟩
  cases b
end
section
variable{X:Cx}{B:bv}{a b e:Expr}{f g:Ex}{pos p2:Pos}
section
variable{w:World}{A:Around}
theorem bQq(k n:Nat)(h:k<=n):Builtin.Slice.sliceAdjust none (some (k:Int)) 1 (n:Int)=(0,(k:Int)):=by
 unfold Builtin.Slice.sliceAdjust;lia
theorem bTp{k n:Nat}{u:Tok}{Q:Int×Int×Nat->Shared->Prop}(a:s.heap.IsSliceOf sl .none (.int k u) .none)(h:k<=n)(q:Q (0,1,k) s) :
  wpAny (model prog w) A (Builtin.Slice.sliceApplied (.ref sl)<|pure (n:Int)) Q E s:=by
 obtain⟨c,e1,_,e2⟩:=id a;refine xa<|xa<|Li e1 e2 rfl<|xa<|Li e1 e2 rfl<|xa<|Li e1 e2 rfl<|Ma<|xa<|slicePart_none ?_;show wpAny _ _ (match Builtin.Slice.sliceAdjust none (some k) 1 n with|(lo,b)=>pure (lo,(1:Int),Builtin.Slice.slicePlaces lo b 1)) Q E s
 rw[bQq k n h];show wpAny _ _ (pure ((0),(1),Builtin.Slice.slicePlaces 0 k 1)) Q E s;have:Builtin.Slice.slicePlaces 0 k 1=k:=by
  unfold Builtin.Slice.slicePlaces;simp;split<;>lia
 rw[this];exact Ma q
def bM6(xs:wE)(k:Nat):((List.range k).filterMap λ(j:Nat)=>xs[((0:Int)+(j:Int)*1).toNat]?).toArray=(xs.toList.take k).toArray:=by
 have e:(λ(j:Nat)=>xs[((0:Int)+j*1).toNat]?)=λj=>xs.toList[j]?:=by
  simp
 have:=LM xs.toList k 0;simp at this;rw[<-this];simp
theorem bM7{t:Addr}{k:Nat}{u:Tok} (a:IsTup s.heap t its) (b:s.heap.IsSliceOf sl .none (.int k u) .none) (d:k<its.size) (f:its.size<=sizeLine)
  (q:Q (.ref s.heap.objs.size) {s with heap:=s.heap.push {cls:=.type "tuple",data:=.seq (its.toList.take k).toArray} }):wpAny (model prog w) A (getItem (.ref t)<|.ref sl) Q E s:=by
 obtain⟨c,e1,e,_⟩:=id b;unfold getItem
 try with_reducible refine Yf ?_
 refine xa<|wpAny_sequenceKey a.typeIs rfl<|xa<|Mm a.typeIs slot_tuple_getitem<|Ki slot_tuple_getitem a.typeIs entry_tuple_getitem ?_<|args_tuple_getitem _ _;show wpAny _ _ (Builtin.Tuple.tupleItemsOf (.ref t) >>= _) _ E s;refine xa<|tupleItemsOf_ a<|xa<|QH ⟨c,e1,e⟩<|xa<|bTp b (Co d) ?_;show wpAny _ _ (if ((0)==0&&(1)==1&&k==its.size)=true then _ else _) _ E s
 rw[Pa (by
  have:(k==its.size)=false:=by lia
  rw[this];simp),bM6 its k]
 first
  |exact xa<|Yl (Ma ⟨_,rfl,Ma q⟩) (by
  show (its.toList.take k).toArray.size<=sizeLine;rw[Jf,EH,tw];lia)
  |exact xa _
  |exact xa _
  |exact xa _
end
def CB(K:Frag)(k:Nat):pp:=λx lo a H Q=>∃l xs,x=.ref l/\lo=none/\a=some (k:Int)/\Xf K H l xs/\k<xs.length/\∀p,H p=none->Q (.ref p) (bb H p<|.tup<|xs.take k)
def bQr(k:Nat):mq X (CB X.K k):=by
 intro A s σ H x v o n lo z t Q I c g e d h;refine Uc λm=>?_
 obtain⟨l,xs,rfl,rfl,rfl,i,y,q⟩:=h;cases c;obtain⟨f,r,a,u⟩:=I.tuple i;have w:=r.length;refine m ?_
 cases e;cases d with
 |int j p=>
  refine⟨"tuple",_,slot_tuple_getitem.lookup,a.typeIs,?_⟩;refine bM7 a g (by rw[Jf];omega) (by rw[Jf];omega) ?_
  refine⟨.ref s.heap.objs.size,_,I.laid (t':=s.toks) (o:=.tup<|xs.take k) (λb ob q=>Xb _ q) (Pb _) ?_,rfl,q _<|I.Ta.fresh<|Pb _⟩
  exact⟨by rw[EH];omega,_,r.take k,⟨_,de _ rfl,rfl,0,rfl⟩⟩
def bTq{k:Nat}(o:PE X a (tI X.K B f)):PE X (.Subscript a (.Slice none (some<|.Constant (.int (k:Int)) j pk) none p2) pos) (tI X.K B<|V9 f k):=by
 refine cF (NL (bQr k) o M4<|N4 u7) ?_
 rintro σ H Q ⟨A,st,d,e,m,q⟩;obtain⟨x,i,b⟩:=R.qa m;refine⟨A,st,x,e,i,λv s s1 r1=>⟨(k:Int),rfl,?_⟩⟩
 split at b
 .obtain⟨c,r⟩:=aM b;cases r;obtain⟨l,h,rfl,p,g⟩:=gW r1;refine⟨l,h,rfl,rfl,rfl,zA (aX _ _) p,by rw[g.length];exact c,λn hn=>q _ _ (s1.trans<|bN hn) ?_⟩
  exact sY (e.own.mono s1) hn<|g.take k
 .cases b
end
structure VS(K:Frag)(B A:bv)(H:Hp)(st:za)(σ:zh)(i:Nat)(P:Addr)(xs:dL)(vs:o0):Prop where
 rs:RS K (P::B) A H st σ
 no:st[i]?=some none
 at_:σ[i]?=some (some<|.ref P)
 out:H P=some (.lst vs)
 ZA:bJ K (hide (A++(P::B)) H) xs vs
 zb:P∉B
def qi(P:Addr)(A:bv)(H:Hp)(b:bv)(a:Hp):Prop:=bG (hide (P::A) H)<|hide (P::b) a
theorem qi.trans{P:Addr}{A:bv}{H c:Hp}(a:qi P A H A1 c)(b:qi P A1 c A2 H2):qi P A H A2 H2:=bG.trans a b
theorem qi.refl{P:Addr}{A:bv}{H:Hp}:qi P A H A H:=bG.refl _
theorem qi.of{P:Addr}{A b:bv}{H a:Hp}(l:Le A H b a):qi P A H b a:=GJ.of (Z:=[P]) l
def QF(K:Frag)(B A:bv)(H:Hp)(i:Nat)(P:Addr)(xs:dL)(vs:o0)(r:Fl)(e:Ends):Prop:=match r with
 |.nx st=>∀b c a,qi P A H b a->VS K B b a st c i P xs vs->e.nx c a
 |.rt d=>∀b v a,qi P A H b a->Bb K (hide (b++B) a) d v->e.rt v a
 |_=>False
def QF.mono{K:Frag} {P:Addr} {r:Fl} (l:qi P A H A1 H1) (h:QF K B A H i P xs vs r Dn):QF K B A1 H1 i P xs vs r Dn:=by
 cases r with
 |nx s=>exact λc e b a=>h c e b<|l.trans a
 |rt d=>exact λc v b a=>h c v b<|l.trans a
 |bk s=>exact h
 |ct s=>exact h
def tV(K:Frag)(B:bv)(i:Nat)(b:VB):TS:=λc σ H=>∃A st P xs a r,VS K B A H st σ i P xs a/\b xs st=.ok r/\QF K B A H i P xs a r c
section
variable{K:Frag} {st:za} {Gb:zh} {P:Addr}
def VS.step(n:VS K B A H st σ i P xs vs)(l:Le A H A' H')(f:RS K (P::B) A' H' st' Gb)(g:st'[i]?=some none)(c:Gb[i]?=some (some<|.ref P)):VS K B A' H' st' Gb i P xs vs:=by
 exact⟨f,g,c,aX _ _ _ _<|l P _<|by rw[bF<|λz=>n.rs.Zf P z qb];exact n.out,n.ZA.mono (λb o e=>by
  have e1:=aX _ _ _ _ e;have d:b∉A++(P::B):=λz=>by rw[dC z]at e;cases e
  have a:=l b o (by rwa [bF λz=>d<|Sf _ z])
  rw[bF λz=>(tf.mp z).elim (λz=>by rw[dC z]at a;cases a) λz=>d<|Ke _ z]
  exact aX _ _ _ _ a),n.zb⟩
def VS.same(n:VS K B A H st σ i P xs vs)(s:bG H H'):VS K B A H' st σ i P xs vs:=n.step (Le.of s) (n.rs.mono s) n.no n.at_
def VS.yu(n:VS K B A H st σ i P xs vs):P∉A++B:=λz=>(tf.mp z).elim (λz=>n.rs.Zf P z qb) n.zb
def VS.sub(_:VS K B A H st σ i P xs vs):∀a∈A++B,a∈A++(P::B):=λa h=>(tf.mp h).elim (Sf _) λz=>Ke _<|Mb _ z
def VS.look(n:VS K B A H st σ i P xs vs):RS K B A H (NP i xs st) σ:=by
 have a:=(RS.less (Z:=[P]) n.rs).set i<|fX.mpr ⟨P,_,rfl,(by rw[bF n.yu];exact n.out),n.ZA.mono<|gP n.sub⟩
 rwa [bPx n.at_]at a
end
section
variable {a b o:Expr} {rest:List Stmt} {va vb:VB}
def sQ:Dd X [] (tV X.K B i Kv):=rJ J4 (by
 rintro c σ H ⟨A,st,P,xs,b,r,n,a,q⟩;cases a;exact q A σ H qi.refl n)
def RF(h:PS X sm (tV X.K B i va)):Dd X [sm] (tV X.K B i va):=Kx h
def WE(b:PS X sm (tV X.K B i va))(a:Dd X rest (tV X.K B i vb)):Dd X (sm::rest) (tV X.K B i<|Iq va vb):=rJ (Bx b a) (by
 rintro m σ H ⟨A,st,P,xs,c,r,n,g,q⟩;obtain⟨e,b,a⟩:=R.qa g;refine⟨A,st,P,xs,c,e,n,b,?_⟩;cases e with
 |nx s=>exact λh k j l f=>⟨h,s,P,xs,c,r,f,a,q.mono l⟩
 |rt d=>cases a;exact q
 |bk s=>cases a;exact q
 |ct s=>cases a;exact q)
def RQ{c:Expr}{t:Ex}{x y:List Stmt}(g:PT X c (tT X.K B t))(j:Dd X x (tV X.K B i va))(h:Dd X y (tV X.K B i vb)):PS X (.If c x y pos) (tV X.K B i<|Mr i t va vb):=by
 intro o s σ H u I p;refine Uc λl=>?_
 obtain⟨A,st,P,xs,a,r,n,e,q⟩:=p;refine l<|Q8 g j h o s σ H u I ?_;obtain⟨d,f,m⟩:=R.qa e;obtain⟨k,rfl,b⟩:=uZ m;refine⟨A,_,k,n.look,f,λv s1=>?_⟩
 have lo:=qi.of (P:=P)<|Le.of (A:=A) s1;cases k with
 |true=>exact⟨A,st,P,xs,a,r,n.same s1,b,q.mono lo⟩
 |false=>exact⟨A,st,P,xs,a,r,n.same s1,b,q.mono lo⟩
def AQ(he:PE X e (tI X.K B f)):PS X (.Return (some e) pos) (tV X.K B i<|Lv i f):=by
 intro l s σ H p I m;refine Uc λh=>?_
 obtain⟨A,st,P,xs,t,r,n,b,q⟩:=m;refine h<|iy he l s σ H p I ?_;obtain⟨d,g,k⟩:=R.qa b;obtain⟨c,j⟩:=aM k;cases j;exact⟨A,_,d,n.look,g,λv o s1 a=>q A v o (qi.of<|Le.of s1) a⟩
def bQt(j:Nat){y:Str} (l:X.mg "list"=none) (v:X.N.Nodup) (b:i≠j:=by decide) (o:X.N[j]?=some x:=by rfl) (g:Loc X.env.scope x:=by exact Dl rfl) (f:X.N[i]?=some y:=by rfl) (h:Ah X.env.scope y:=by exact tj rfl) (u:pf y:=by decide)
  (c:Yi y:=by decide) (p:Gl X "list":=by rfl) (e:starEach [Expr.Name y p1] X.env=(false,eval (.Name y p1) X.env)::starEach [] X.env:=by rfl) (hs:aj (.Call (.Name "list" p0) [.Name y p1] [] Ia) (some<|.Name x pos') pos.line X.env:=by rfl)
  (t:sj X x:=by first|exact .inl rfl|exact .inr rfl|assumption):PS X (.Assign [.Name x pos'] (.Call (.Name "list" p0) [.Name y p1] [] Ia) pos) (tV X.K B i<|f9 j):=by
 intro z s σ H D I C;refine Uc λw=>?_
 obtain⟨A,st,P,xs,d,r,n,k,q⟩:=C;refine w<|nq v o g (oR FZ p l rfl<|cN (oF f h u c) fD e) hs t z s σ H D I ?_;cases k;exact⟨.ref P,n.at_,P,d,rfl,.inl<|Qc.of n.out,λm a=>q A _ _ (qi.of<|Le.of<|bN a)<|n.step (Le.of<|bN a) ((n.rs.mono<|bN a).set j<|fB n.rs.own a n.ZA) (by rw[SE b];exact n.no)<|by rw[SE b];exact n.at_⟩
theorem bTr(j:Nat){y:Str} (hb:Dd X body (tV X.K B i vb)) (hp:PassesOwn (model X.prog X.w) X.A X.env X.xe) (hc:X.calm=true) (hN:X.N.Nodup) (L:i≠j:=by decide) (hj:X.N[j]?=some x:=by rfl) (Y:Loc X.env.scope x:=by exact Dl rfl) (W:X.N[i]?=some y:=by rfl) (Z:Ah X.env.scope y:=by exact tj rfl) (hd:pf y:=by decide)
  (M:Yi y:=by decide) (hf:sj X x:=by first|exact .inl rfl|exact .inr rfl|assumption) (hs:∀z,foldedSetIterable (.Name y p2) X.env z=pure z:=by intro _;rfl):PS X (.For (.Name x p1) (.Name y p2) body [] pos) (tV X.K B i<|AG j vb):=by
 intro aa s σ H Dn I Qi;refine Uc λhG=>?_
 obtain⟨A,st,P,xs,b,r,n,hr,p⟩:=Qi;refine hG ?_
 refine ZN hp hc (bIc<|oF W Z hd M) (K4 hN hj Y hf) hb hs aa s σ H Dn I<|⟨.ref P,n.at_,P,rfl,⟨b,Qc.of n.out⟩,(⟨λk m E t=>∃f st',m=xs.length-k/\k<=xs.length/\VS X.K B f t st' E i P xs b/\Mv j vb xs (xs.drop k) st'=.ok r/\qi P A H f t,⟨xs.length,A,st,by simp,zero_le _,n,by rwa [drop_zero],qi.refl⟩,?_⟩)⟩
 rintro k m E t ⟨f,st',rfl,hle,a,g,l⟩
 by_cases c:k<xs.length
 .obtain⟨v,F,Q⟩:=a.ZA.get<|Kc c;rw[Ws c]at g;have D:=g;obtain⟨G,Ae,o⟩:=R.qa D;refine .inr ⟨⟨b,v,Qc.of a.out,F⟩,λK q=>∃u h,k+1<=xs.length/\VS X.K B u q h K i P xs b/\Mv j vb xs (xs.drop<|k+1) h=.ok r/\qi P A H u q,?_,λw q y=>?_⟩
  .rintro K q ⟨u,h,Zm,T,D,V⟩;exact⟨xs.length-(k+1),by omega,u,h,rfl,Zm,T,D,V⟩
  obtain⟨O,N⟩:=y;subst O;have J:=N b<|Qc.of a.out;rw[F]at J;cases J;refine⟨f,_,P,xs,b,G,(a.step Le.refl (a.rs.set j Q) (by rw[SE L];exact a.no)<|by rw[SE L];exact a.at_),Ae,?_⟩
  cases G with
  |nx C=>exact λA4 sx H4 U S=>⟨A4,C,c,S,o,l.trans U⟩
  |rt d=>cases o;exact p.mono l
  |bk C=>cases o
  |ct C=>cases o
 have e:k=xs.length:=by lia
 subst e;rw[SH]at g;cases g;exact .inl ⟨⟨b,Qc.of a.out,by rw[a.ZA.length];exact Pb _⟩,p f E t l a⟩
def bQu(h:Dd X rest (tS X.K B bd))(D:X.N[i]?=some x:=by rfl)(t:Ah X.env.scope x:=by exact tj rfl)(C:pf x:=by decide)
  (g:Yi x:=by decide) (k:Pg (.Name x p1) "clear" X.env:=by rfl) (j:Jh Ra Ia:=by rfl)
  (o:aj (.Call (.Attribute (.Name x p1) "clear" Ra) [] [] Ia) none pos.line X.env:=by rfl) :
  Dd X (.Expr (.Call (.Attribute (.Name x p1) "clear" Ra) [] [] Ia) pos::rest) (tV X.K B i<|AF bd):=by
 intro G s σ H L I J;refine Uc λE=>?_
 obtain⟨A,st,P,xs,S,r,n,y,q⟩:=J;refine E<|Bx (Lx (qv qw kR PySem.F.type_list_clear Wi (oF D t C g) k j) o) h G s σ H L I ?_;obtain⟨F,M,a⟩:=R.qa y;refine⟨.ref P,n.at_,.inl ⟨rfl,_,Qc.of n.out⟩,P,_,rfl,rfl,n.out,?_⟩;cases F with
 |rt d=>
  cases a;refine⟨P::A,st,.rt d,(RS.shift (n.rs.EV (u:=.lst []) qb) λz p=>by rw[Hd.mp p];exact n.zb),M,λN v K l m=>q N v K (λb u z=>?_) m⟩
  have Q:=aX _ _ _ _ z;have f:b∉P::A:=λw=>by rw[dC w]at z;cases z
  have e:b≠P:=λw=>f (by rw[w];exact qb)
  have c:=l b u (by rwa [bF f,aW e])
  have O:=aX _ _ _ _ c
  rwa [bF λw=>(qc.mp w).elim e (λw=>by rw[dC w]at c;cases c)]
 |nx s=>cases a
 |bk s=>cases a
 |ct s=>cases a
end
section
variable {rest:List Stmt} {vb:VB}
def bVg(is:ac)(h:PE X e (tI X.K B f)):PE X e (tI X.K B<|G' is f):=cF h (by
 rintro σ H Q ⟨A,st,d,b,g,q⟩;obtain⟨o,l,k⟩:=R.qa g;obtain⟨i,j⟩:=aM k;cases j;obtain⟨n,a,_⟩:=RS.fz is b;exact⟨n,_,_,a,l,λv m s1 c=>q v m s1<|(DD i c).mono TN⟩)
def bTs{a b:Bd}(i:PS X sm (tS X.K B a))(h:PS X sm (tS X.K B b)):PS X sm (tS X.K B<|Ls a b):=by
 rintro f s σ H g I ⟨A,st,r,d,c,p⟩;unfold Ls at c;split at c
 .rename_i j e;cases c;exact i f s σ H g I ⟨A,st,_,d,e,p⟩
 exact h f s σ H g I ⟨A,st,r,d,c,p⟩
def bQv(i:Nat) (k:X.N[i]?=some x:=by rfl) (g:Ah X.env.scope x:=by exact tj rfl) (h:pf x:=by decide) (c:Yi x:=by decide) :
  Dd X [.Return (some<|.Name x p1) pos] (kx X.K B dF<|CG i):=rJ (Kx<|iy<|oF k g h c) (by
 rintro p σ H ⟨A,st,st',xs,e,j,b,q⟩;cases j;unfold CG at b;split at b
 .rename_i n e1;cases b;obtain⟨a,o,d,e2,m,l,f,r,_⟩:=e.lst i .l _ e1;subst f;exact⟨.ref a,e2,q A a d H Le.refl m l r⟩
 cases b)
def RS.enter{K:Frag} {st:za} (r:RS K B A H st σ) (e:st[i]?=some (some<|.o .l xs)):∃y P vs,VS K B y H (st.set i none) σ i P xs vs/\P∈A/\∀b∈y,b∈A:=by
 refine Uc λN=>?_
 obtain⟨a,o,vs,e1,m,O,J,q,u⟩:=r.lst i .l xs e;subst J;have g:∀b∈A.filter (λc=>decide (c≠a)),b∈A:=λb l=>(Vf.mp l).1
 have f:∀b∈A.filter _++(a::B),b∈A++B:=λb l=>(tf.mp l).elim (λz=>Sf _<|g b z) λz=>(qc.mp z).elim (λz=>by rw[z];exact Sf _ m)<|Ke _
 have n:bG (hide _ H) _:=gP f;have p:∀{j:Nat}{s:Sl},(st.set i none)[j]?=some (some s)->j≠i/\st[j]?=some _:=λ{j s} h=>by
  rw[ug]at h
  by_cases t:i=j
  .rw[jb t]at h;split at h<;>cases h
  rw[Pa t]at h;exact⟨λz=>t z.symm,h⟩
 refine N ?_
 refine⟨A.filter λc=>decide _,a,vs,⟨⟨by rw[gm,r.len],λb l=>r.own b<|f b l,λb l z=>(qc.mp z).elim (λz=>vo (Vf.mp l).2 z)<|r.Zf b<|g b l,λj d ej=>?_,λj kj ys ej=>?_⟩,?_,e1,O,q.mono n,r.Zf a m⟩,m,g⟩
 .obtain⟨v,e2,F⟩:=r.val j d (p ej).2;exact⟨v,e2,F.mono n⟩
 .obtain⟨M,x⟩:=p ej;obtain⟨c,G,D,w,T,U,L,S,R⟩:=r.lst j kj ys x;exact⟨c,G,D,w,Vf.mpr ⟨T,Jd λz=>by subst z;exact M<|u j kj ys x w⟩,U,L,S.mono n,λk I C Q E=>R k I C (p Q).2 E⟩
 rw[ug,jb rfl,jb (Ee.mp e).1]
def bI0(q:Dd X rest (tV X.K B i vb)):Dd X rest (tS X.K B<|YM i vb):=rJ q (by
 rintro y σ H ⟨A,st,r,j,a,p⟩;unfold YM at a;split at a
 .rename_i xs e;obtain⟨f,t,c⟩:=R.qa a;obtain⟨x,P,g,n,m,k⟩:=j.enter e;refine⟨x,_,P,xs,g,f,n,t,?_⟩;cases f with
  |rt d=>
   cases c;intro w v u l h;refine p w v u (λb o e=>?_) h
   have e1:=aX _ _ _ _ e;have a:b∉A:=λz=>by rw[dC z]at e;cases e
   have e2:=l b o (by rwa [bF<|λz=>(qc.mp z).elim (λz=>by rw[z]at a;exact a m) λz=>a<|k b z])
   rw[bF λz=>(λz=>by rw[dC z]at e2;cases e2)<|Mb _ z]
   exact aX _ _ _ _ e2
  |nx s=>cases c
  |bk s=>cases c
  |ct s=>cases c
 cases a)
end
def bI1:Dd X ss (tS X.K B oK):=by
 intro b s σ H c I h;obtain⟨A,st,r,_,a,_⟩:=h;cases a
section
def ya(d:X.N[i]?=some x:=by rfl)(b:Ah X.env.scope x:=by exact tj rfl)(c:pf x:=by decide)
  (a:Yi x:=by decide):PE X (.Name x pos) (tP X.K B<|aA i):=Aa<|aD d b c a
def Za{i:Int}:PE X (.Constant (.int i) j pos) (tP X.K B<|eC<|.int i):=Aa fV
def vc{P:wp}{a:Scope}(h:N.Nodup/\N.take P.length=P/\(∀x∈P,a.names.lookup x=some .local\/a.names.lookup x=some .cell)/\∀y∈a.names,y.2≠.free:=by decide+kernel)(k:a.kind=.function:=by rfl)(c:a.isCoroutine=false:=by rfl)(b:a.isGenerator=false:=by rfl):Pc N P a:=⟨k,c,b,h.1,h.2.1,h.2.2.1,h.2.2.2⟩
def bV{k:Nat} {r:De} (h:Ea X.prog X.w X.K X.mg X.base x k np p) (d:PA X (e::es) (tA X.K B r)) (a:Kb j X.A:=by assumption) (b:k<=j:=by decide) (c:Gl X x:=by rfl) (f:pf x:=by decide)
  (he:sf e es X.env:=by rfl) (rf:Zi pos es X.env:=by rfl):PE X (.Call (.Name x p0) (e::es) [] pos) (tI X.K B<|aO p r):=ON h a b d c f he rf
end
end Pu
set_option maxHeartbeats 4000000
namespace Pu
open PySem PySem.Spec PyProof.Rows L2
def top(i:Nat):Stmt:=PySem.Challenge.pw_looprank_k62_parted_rooms.main.body.getD i<|.Pass ⟨0,0,0,0⟩
def cg(s:Stmt)(j:Nat):Stmt:=match s with
 |.ClassDef _ _ _ b _ _ _ _ _ _ _=>b.getD j<|.Pass ⟨0,0,0,0⟩
 |_=>.Pass ⟨0,0,0,0⟩
abbrev kK:Stmt:=top 79
abbrev nK:Stmt:=top 80
abbrev xP:Stmt:=top 81
abbrev AK:Stmt:=top 87
abbrev KJ:Stmt:=top 88
abbrev LJ:Stmt:=top 82
abbrev MJ:Stmt:=top 83
abbrev NJ:Stmt:=top 89
abbrev SK:Stmt:=top 30
abbrev TK:Stmt:=top 31
abbrev tW:Stmt:=top 44
abbrev JL:Stmt:=top 29
abbrev OJ:Stmt:=top 34
abbrev PJ:Stmt:=top 36
abbrev xQ:Stmt:=top 37
abbrev QJ:Stmt:=top 38
abbrev UK:Stmt:=top 40
abbrev vX:Stmt:=top 45
abbrev tX:Stmt:=top 46
abbrev BK:Stmt:=top 32
abbrev CK:Stmt:=top 35
abbrev xR:Stmt:=top 48
abbrev KL:Stmt:=top 41
abbrev xT:Stmt:=top 49
abbrev RJ:Stmt:=top 52
abbrev xU:Stmt:=cg (top 55) 1
abbrev RM:Stmt:=top 33
abbrev WK:Stmt:=top 53
abbrev mO:Stmt:=cg (top 55) 2
abbrev qZ:Stmt:=top 20
abbrev YK:Stmt:=top 18
abbrev ZK:Stmt:=top 19
abbrev SM:Stmt:=top 21
abbrev DK:Stmt:=top 22
abbrev EK:Stmt:=top 23
abbrev fO:Stmt:=cg (top 24) 0
abbrev rQ:Stmt:=cg (top 54) 0
abbrev vY:Stmt:=top 71
abbrev FK:Stmt:=top 26
abbrev tY:Stmt:=top 27
abbrev GK:Stmt:=top 61
abbrev vZ:Stmt:=top 62
abbrev xV:Stmt:=top 63
abbrev rA:Stmt:=top 64
abbrev wA:Stmt:=top 65
abbrev tZ:Stmt:=top 58
abbrev wB:Stmt:=top 59
abbrev lL:Stmt:=cg (top 24) 1
abbrev gQ:Stmt:=cg (top 60) 0
abbrev rB:Stmt:=top 69
abbrev xW:Stmt:=top 72
abbrev xX:Stmt:=top 73
abbrev eL:Stmt:=top 74
abbrev LL:Stmt:=top 39
abbrev TM:Stmt:=top 42
abbrev eN:Stmt:=cg (top 24) 3
abbrev gL:Stmt:=top 43
abbrev ML:Stmt:=top 12
abbrev SJ:Stmt:=top 13
abbrev jG:Stmt:=cg (top 24) 6
abbrev jH:Stmt:=cg (top 24) 7
abbrev TJ:Stmt:=top 75
abbrev uA:Stmt:=top 76
abbrev xY:Stmt:=top 66
abbrev rC:Stmt:=top 14
abbrev kO:Stmt:=top 67
abbrev jJ:Stmt:=top 68
abbrev wC:Stmt:=top 77
abbrev wF:Stmt:=top 92
abbrev UJ:Stmt:=top 90
abbrev HK:Stmt:=top 91
abbrev VJ:Stmt:=top 93
abbrev Yo:Stmt:=top 94
abbrev wc(N:wp)(k:Nat)(st:Stmt):Prop:=Pc N (N.take k)<|bM st
theorem eE{w:World}{K:Frag} {st:Stmt} {f:Addr} {k:Nat} (F:Ja K x qual st dV f fd) (S:Pc N ps (bM st))
  (d:∀{b:Value}{A:Around}{a:Ch}{s:Shared}{H:Hp}{E:XK}{B:bv},Kb k (A.deeper<|envOfC qual (bM st) s.heap.objs.size f b)->N.Nodup->
   Dd (Hm Ab P w K mg base N qual (bM st) f b A a s H E).Ln (dH st) (tS K B bd)) (e:ps.length=np:=by rfl) (c:N.length=n:=by rfl):Ca P w K mg base Ab (k+1) f fd ps (Tb K np<|cM np n bd):=bTg F S np n bd e c λ_ _ _ _ _ _ _ h=>d h S.nd
theorem ŋ:wc ["_law_script","_law_k","_law_rest"] 2 kK:=vc
theorem Ō:wc ["_law_cell_here","_law_k","_law_many","_law_number"] 3 nK:=vc
theorem Ă:wc ["_law_cell_here","_law_sizes","_law_found","_law_size"] 2 xP:=vc
theorem ō:wc ["_law_k","_law_goal_here","_law_way","_law_many"] 4 AK:=vc
theorem ĥ:wc ["_law_script","_law_start","_law_most","_law_first","_law_sizes","_law_drawn","_law_many","_law_way","_law_steps_here","_law_k","_law_cell_here","_law_goals_here","_law_j","_law_goal_here"] 3 KJ:=vc
theorem Ħ:wc ["_law_steps_here","_law_goals_here","_law_step","_law_bits","_law_goal_here"] 1 LJ:=vc
theorem ħ:wc ["_law_goals_here","_law_inside","_law_begin","_law_found","_law_more","_law_wider","_law_k"] 3 MJ:=vc
theorem Ĩ:wc ["_law_steps_here","_law_cell_here","_law_goals_here","_law_drawn","_law_ranks_here","_law_k","_law_seen","_law_hang","_law_j"] 2 NJ:=vc
theorem ų:wc ["bits","room"] 2 SK:=vc
theorem Ŵ:wc ["bits","room"] 1 TK:=vc
theorem Õ:wc ["machine","allowed","wanted","ranks","rank","room"] 3 tW:=vc
theorem aXb:wc ["rooms","bits","room"] 1 JL:=vc
theorem ĩ:wc ["steps","allowed","rooms","seen","room","middle"] 2 OJ:=vc
theorem Ī:wc ["steps","part","rooms"] 2 PJ:=vc
theorem ă:wc ["steps","allowed","seen","parts","room","part","other"] 2 xQ:=vc
theorem ī:wc ["machine","allowed"] 2 QJ:=vc
theorem ŵ:wc ["machine","bits","room"] 2 UK:=vc
theorem AX:wc ["machine","allowed","rank","low","part","room"] 3 vX:=vc
theorem Ö:wc ["machine","allowed","wanted","found","rank"] 3 tX:=vc
theorem Ŏ:wc ["machine"] 1 BK:=vc
theorem ŏ:wc ["machine","room"] 2 CK:=vc
theorem Ą:wc ["machine","loop","rank","room"] 2 xR:=vc
theorem aXc:wc ["machine","bits"] 2 KL:=vc
theorem ą:wc ["machine","loop","found","left","rest","part"] 2 xT:=vc
theorem Ĭ:wc ["machine","good","loop","inner","nest"] 2 RJ:=vc
theorem Ć:wc ["self","machine","bar"] 2 xU:=vc
theorem bD2:wc ["sets","bits","rooms"] 1 RM:=vc
theorem Ŷ:wc ["machine","bits","inside","outside","room"] 4 WK:=vc
theorem Â:wc ["self","machine","good"] 2 mO:=vc
theorem Î:wc ["thing","most"] 2 qZ:=vc
theorem ŷ:wc ["thing"] 1 YK:=vc
theorem Ÿ:wc ["thing","limit"] 2 ZK:=vc
theorem bD3:wc ["thing","letters","rooms","room"] 3 SM:=vc
theorem Ő:wc ["thing","row"] 1 DK:=vc
theorem ő:wc ["thing","rooms","rank"] 2 EK:=vc
theorem uE:wc ["self","steps","ranks","row"] 3 fO:=vc
theorem ć:wc ["self","machine"] 2 rQ:=vc
theorem è:wc ["machine","kind","bar"] 1 vY:=vc
theorem Œ:wc ["steps","start","allowed","ways","met","place","here","letter","room"] 3 FK:=vc
theorem zK:wc ["machine","ways"] 1 tY:=vc
theorem œ:wc ["wanted","p","q"] 3 GK:=vc
theorem é:wc ["sides","wanted","found","p","q"] 2 vZ:=vc
theorem Ĉ:wc ["sides","p","q","ranks","place","pair"] 3 xV:=vc
theorem Ï:wc ["sides","part","places","place"] 2 rA:=vc
theorem ê:wc ["sides","wanted","found","p","q","parts","part"] 2 wA:=vc
theorem Ø:wc ["one","other"] 2 tZ:=vc
theorem ë:wc ["one","other","steps","left","right"] 2 wB:=vc
theorem À:wc ["self","thing"] 2 lL:=vc
theorem wR:wc ["self","one","other","left","right","steps","fronts","pair","goal"] 5 gQ:=vc
theorem Ź:wc ["one","other","left","right"] 4 rB:=vc
theorem ĉ:wc ["machine","heads","room","number","head"] 3 xW:=vc
theorem Ċ:wc ["machine","heads","classes","room","front"] 1 xX:=vc
theorem ź:wc ["classes","heads","room","number"] 1 eL:=vc
theorem aXd:wc ["machine","bits"] 2 LL:=vc
theorem bD4:wc ["machine","allowed","room","goal"] 4 TM:=vc
theorem qF:wc ["self","room","text","rooms","letter"] 3 eN:=vc
theorem Ż:wc ["machine","bits","room","text","here","goal"] 3 gL:=vc
theorem aXe:wc ["thing","many"] 2 ML:=vc
theorem ĭ:wc ["thing","many"] 2 SJ:=vc
theorem ì:wc ["self","word","room","rooms","begun","ahead"] 3 jG:=vc
theorem í:wc ["self","word","room","ring","place"] 3 jH:=vc
theorem Į:wc ["machine","heads","form","found","part","room"] 3 TJ:=vc
theorem Ù:wc ["machine","twin","classes","heads","steps","form","head","room"] 1 uA:=vc
theorem ċ:wc ["sides","wanted","start","words","met","turn","here","letter","goal","there"] 3 xY:=vc
theorem Ð:wc ["word"] 1 rC:=vc
theorem Č:wc ["one","other","wanted","left","right","sides","places","words","place"] 5 kO:=vc
theorem î:wc ["one","other","left","right"] 4 jJ:=vc
theorem BX:wc ["machine","form","found","p","q"] 1 wC:=vc
theorem ï:wc ["_law_thing","_law_letters","_law_text","_law_sign"] 2 wF:=vc
theorem į:wc ["_law_steps_here","_law_room","_law_text","_law_letter"] 3 UJ:=vc
theorem Ŕ:wc ["_law_machine","_law_word","_law_room","_law_best","_law_letter"] 3 HK:=vc
theorem İ:wc ["_law_small","_law_p","_law_q","_law_word","_law_one","_law_other"] 4 VJ:=vc
theorem bQw:wc ["_law_script","_law_steps_here","_law_machine","_law_small","_law_found","_law_due","_law_p","_law_row","_law_kept","_law_q"] 1 Yo:=vc
section
variable{P:Program}{w:World}{K:Frag}{mg:im}{base:Heap}{fa:Addr}{fd:FuncData}{dV:Value}
variable(bZ:mg "len"=none)
def ż(F:Ja K "_law_cell" "_law_cell" kK dV fa fd):Ca P w K mg base Ab 1 fa fd ["_law_script","_law_k"] (Tb K 2 oV):=eE F ŋ λb a=>(aJ (kE (cI By fy ya<|Aa<|gK bZ ya) (aU<|bW<|mH (Aa<|cA ya ya)<|Aa<|F9 Za Za) fK)<|aJ (bY fV)<|aJ (kE (cI T8 F8 (Aa<|gK bZ ya) Za) (aU<|bY<|mH (Aa<|cA ya<|Aa<|mH ya<|Aa<|gK bZ ya) Za) fK)<|aU<|bW<|mH (Aa<|To (Aa<|gY (Aa<|gY (Aa<|To ya Za)<|Aa<|To Za ya) Za)<|Aa<|gY ya Za) Za)
theorem Ž(F:Ja K "_law_pick" "_law_pick" nK dV fa fd):Ca P w K mg base Ab 1 fa fd ["_law_cell_here","_law_k","_law_many"] (Tb K 3 jM):=eE F Ō λb a=>(aJ (bY<|mH (Aa<|gY ya<|Aa<|To Za ya) Za)<|aJ (bY<|mH (Aa<|To (Aa<|mH (Aa<|To ya ya) Za) Za) Za)<|aU<|bW<|mH (Aa<|Xr (Aa<|mH (Aa<|To ya ya) Za) Za) ya)
theorem ı(F:Ja K "_law_digits" "_law_digits" xP dV fa fd):Ca P w K mg base Ab 1 fa fd ["_law_cell_here","_law_sizes"] (Tb K 2 iU):=eE F Ă λb a=>(aJ (jR<|uD aL)<|aJ (gJ (gG aD) bU<|aJ (by exact zJ 2<|mH ya ya)<|by exact aU<|bY<|Xr ya ya)<|aU<|Cj [2]<|bW aD)
variable(nG:mg "max"=none)(Mi:mg "min"=none)
def ž(F:Ja K "_law_goal" "_law_goal" AK dV fa fd):Ca P w K mg base Ab 1 fa fd ["_law_k","_law_goal_here","_law_way","_law_many"] (Tb K 4 wH):=eE F ō λb a=>(aJ (kE (cI eY eZ ya Za) (aU<|bW<|QE nG rfl ya ya) fK)<|aJ (kE (PW.pt<|Rv (cI eY eZ ya Za)<|Av<|cI By fy (Aa<|Xr ya Za)<|Aa<|Xr ya Za) (aU<|bW<|bPt Mi rfl (Aa<|VP ya Za)<|Aa<|gY (Aa<|VP ya<|Aa<|mH ya Za)<|Aa<|mH ya Za) fK)<|aU<|bW aD)
variable(jN:Ea P w K mg base "_law_cell" 1 2 oV)(Bc:Ea P w K mg base "_law_pick" 1 3 jM)(gc:Ea P w K mg base "_law_digits" 1 2 iU)(uf:Ea P w K mg base "_law_goal" 1 4 wH)(Xa:mg "range"=none)
def ŕ(F:Ja K "_law_steps" "_law_steps" KJ dV fa fd):Ca P w K mg base Ab 2 fa fd ["_law_script","_law_start","_law_most"] (Tb K 3 uF):=eE F ĥ λb a=>(aJ (bY<|bV jN<|aB aD<|aB aD aL)<|aJ (bY<|Zn<|aB aD<|aB fV<|aB fV aL)<|aJ (RE (zE Xa Za) (λ_ _ _ _ _=>bU)<|λ_ _ _ _ _=>bV Bc<|aB aD<|aB (gY Za ya)<|aB (cA ya ya) aL)<|aJ (kE (cI eY eZ (Aa<|mH ya Za) Za) (aU<|bY<|bV gc<|aB (Xr ya Za)<|aB aD aL) fK)<|aJ (bY<|gY Za<|Aa<|cA ya Za)<|aJ (bY<|cA (Aa<|Zn<|aB fV<|aB fV<|aB fV<|aB fV<|aB fV aL)<|Aa<|cA ya Za)<|aJ (jR<|uD aL)<|aJ (gJ (zE Xa ya) bU<|aJ (by exact bY<|bV jN<|aB aD<|aB (gY (Aa<|gY ya Za) ya) aL)<|by exact aJ (by exact bY<|bV gc<|aB aD<|aB (lP (aB aD aL)<|Aa<|gY Za<|Aa<|cA ya Za) aL)<|by exact aJ (by exact kE (cI eY eZ (Aa<|mH ya Za) Za) (aU<|RE (zE Xa<|Aa<|gY Za<|Aa<|cA ya Za) (λ_ _ _ _ _=>bU)<|λ_ _ _ _ _=>bV Bc<|aB aD<|aB (gY Za ya)<|aB aD aL) fK)<|by exact aU<|zJ 8<|jF (gG aD) (λ_ _ _ _ _=>bU)<|λ_ _ _ _ _=>bV uf<|aB aD<|aB aD<|aB aD<|aB aD aL)<|aU<|Cj [8]<|bW aD)
theorem Ŗ(F:Ja K "_law_goals" "_law_goals" LJ dV fa fd):Ca P w K mg base Ab 1 fa fd ["_law_steps_here"] (Tb K 1 uG):=eE F Ħ λb a=>(aJ (jR<|uD aL)<|aJ (gJ (gG aD) bU<|aJ (by exact bY fV)<|by exact aJ (by exact gJ (gG aD) bU<|aU<|bY<|Vv ya<|Aa<|Ky Za ya)<|by exact aU<|zJ 1 aD)<|aU<|Cj [1]<|bW aD)
def ŗ(F:Ja K "_law_close" "_law_close" MJ dV fa fd):Ca P w K mg base Ab 1 fa fd ["_law_goals_here","_law_inside","_law_begin"] (Tb K 3 lQ):=eE F ħ λb a=>(aJ (bY<|js ya ya)<|aJ (bY dk)<|aJ (ay (fM aD)<|aJ (by exact bY aD)<|by exact aJ (by exact gJ (zE Xa<|Aa<|gK bZ ya) bU<|aU<|kE (cI eY eZ (Aa<|js (Aa<|OF ya ya) Za) Za) (aU<|bY<|Vv ya<|Aa<|js (Aa<|cA ya ya) ya) fK)<|by exact aJ (by exact bY<|iH pZ qC ya ya)<|by exact aU<|bY aD)<|aU<|bW aD)
variable(uP:Ea P w K mg base "_law_goals" 1 1 uG)(Fd:Ea P w K mg base "_law_close" 1 3 lQ)
def Ř(F:Ja K "_law_ranks" "_law_ranks" NJ dV fa fd):Ca P w K mg base Ab 2 fa fd ["_law_steps_here","_law_cell_here"] (Tb K 2 uH):=eE F Ĩ λb a=>(aJ (bY<|bV uP<|aB aD aL)<|aJ (bY<|bV gc<|aB (Xr ya Za)<|aB (gY (Aa<|Zn<|aB fV aL)<|Aa<|lP (aB fV aL)<|Aa<|gK bZ ya) aL)<|aJ (kE (cI eY eZ (Aa<|mH ya Za) Za) (aU<|bY<|gY (Aa<|Zn<|aB (bV Bc<|aB aD<|aB fV<|aB fV aL) aL)<|Aa<|jF (zE Xa<|Aa<|gK bZ ya) (λ_ _ _ _ _=>bU)<|λ_ _ _ _ _=>bV Bc<|aB aD<|aB (gY Za ya)<|aB fV aL) fK)<|aJ (jR<|uD aL)<|aJ (gJ (zE Xa<|Aa<|gK bZ ya) bU<|aJ (by exact bY<|bV Fd<|aB aD<|aB fV<|aB (Ky Za ya) aL)<|by exact aJ (by exact bH4 (zE Xa<|Aa<|gK bZ ya) (λ_ _ _ _ _=>bU) (λ_ _ _ _ _=>PW.pt<|Rv (cI eY eZ (Aa<|js (Aa<|OF ya ya) Za) Za)<|Av<|cI eY eZ (Aa<|js (Aa<|OF (Aa<|bV Fd<|aB aD<|aB fV<|aB (Ky Za ya) aL) ya) Za) Za)<|λ_ _ _ _ _=>aD)<|by exact aU<|zJ 4<|gY (Aa<|gY (Aa<|cA (Aa<|Zn<|aB fV<|aB fV<|aB (F9 Za Za) aL)<|Aa<|cA ya Za)<|Aa<|To (Aa<|Xr (Aa<|cA ya<|Aa<|gY Za ya) Za) Za)<|Aa<|mH (Aa<|cA ya<|Aa<|gY Za<|Aa<|cA ya Za) Za)<|aU<|Cj [4]<|bW aD)
theorem aXf(F:Ja K "has_room" "has_room" SK dV fa fd):Ca P w K mg base Ab 1 fa fd ["bits","room"] (Tb K 2 gU):=eE F ų λb a=>(aU<|bW<|iH eY eZ (Aa<|js (Aa<|OF ya ya) Za) Za)
variable(dD:Ea P w K mg base "has_room" 1 2 gU)
def aXg(F:Ja K "rooms_of" "rooms_of" TK dV fa fd):Ca P w K mg base Ab 2 fa fd ["bits"] (Tb K 1 cQ):=eE F Ŵ λb a=>(aU<|bW<|vU (zE Xa<|Aa<|bQ2 ya) (λ_ _ _ _ _=>bU) (λ_ _ _ _ _=>fM<|bV dD<|aB aD<|aB aD aL)<|λ_ _ _ _ _=>aD)
variable(bH:Ea P w K mg base "rooms_of" 2 1 cQ)
variable{Na:Addr}(ka:ClsAt K "Machine" Na)
variable(aZ:fQ K Na (ofString "ranks"))(jd:mg "sorted"=none)(Oh:mg "set"=none)
def ð(F:Ja K "ranks_of_sort" "ranks_of_sort" tW dV fa fd):Ca P w K mg base Ab 3 fa fd ["machine","allowed","wanted"] (Tb K 3 nJ):=eE F Õ λb a=>(aJ (bY<|PM jd Oh rfl<|Aa<|jF (gG<|bV bH<|aB aD aL) (λ_ _ _ _ _=>bU)<|λ_ _ _ _ _=>cA (Aa<|cX ka aZ ya) ya)<|aU<|bW<|vU (gG aD) (λ_ _ _ _ _=>bU) (λ_ _ _ _ _=>cI eY eZ (Aa<|iH eY eZ (Aa<|mH ya Za) Za) ya)<|λ_ _ _ _ _=>aD)
theorem bD5(F:Ja K "bits_of" "bits_of" JL dV fa fd):Ca P w K mg base Ab 1 fa fd ["rooms"] (Tb K 1 kI):=eE F aXb λb a=>(aJ (bY fV)<|aJ (gJ (gG aD) bU<|aU<|bY<|Vv ya<|Aa<|Ky Za ya)<|aU<|bW aD)
variable(dY:Ea P w K mg base "bits_of" 1 1 kI)
def ř(F:Ja K "seen_among" "seen_among" OJ dV fa fd):Ca P w K mg base Ab 3 fa fd ["steps","allowed"] (Tb K 2 lR):=eE F ĩ λa b=>(aJ (bY<|bV bH<|aB aD aL)<|aJ cE<|aJ (gJ (gG aD) bU<|aU<|Zr a.units 3 aD<|js (Aa<|Vv (Aa<|bV dY<|aB (cA ya ya) aL)<|Aa<|Ky Za ya) ya)<|aJ (gJ (gG aD) bU<|aU<|gJ (gG aD) bU<|aU<|kE (fM<|bV dD<|aB (cA eO ya)<|aB aD aL) (aU<|Zr a.units 3 aD<|Vv (Aa<|cA eO ya)<|Aa<|cA eO ya) fK)<|aU<|Cj [3]<|bW aD)
def Ś(F:Ja K "goes_round" "goes_round" PJ dV fa fd):Ca P w K mg base Ab 3 fa fd ["steps","part"] (Tb K 2 uI):=eE F Ī λb a=>(aJ (bY<|bV bH<|aB aD aL)<|aU<|bW<|bV8 (iH T8 F8 (Aa<|gK bZ ya) Za)<|bT6<|iH iP kP (Aa<|cA ya Za)<|Aa<|cA ya<|Aa<|cA ya Za)
variable(jU:Ea P w K mg base "seen_among" 3 2 lR)(Ve:Ea P w K mg base "goes_round" 3 2 uI)
def Ĳ(F:Ja K "parts_among" "parts_among" xQ dV fa fd):Ca P w K mg base Ab 4 fa fd ["steps","allowed"] (Tb K 2 mU):=eE F ă λb a=>(aJ (bY<|bV jU<|aB aD<|aB aD aL)<|aJ (jR<|uD aL)<|aJ (gJ (gG<|bV bH<|aB aD aL) bU<|aJ (by exact bY<|bV dY<|aB (vU (gG<|bV bH<|aB (cA ya ya) aL) (λ_ _ _ _ _=>bU) (λ_ _ _ _ _=>fM<|bV dD<|aB (cA ya ya)<|aB aD aL)<|λ_ _ _ _ _=>aD) aL)<|by exact aU<|kE (PW.pt<|Rv (cI zG zH ya eO)<|Av<|fM<|bV Ve<|aB aD<|aB aD aL) (aU<|zJ 3 aD) fK)<|aU<|Cj [3]<|bW aD)
variable(iY:Ea P w K mg base "parts_among" 4 2 mU)(ma:fQ K Na (ofString "steps"))
def ś(F:Ja K "loop_parts" "loop_parts" QJ dV fa fd):Ca P w K mg base Ab 5 fa fd ["machine","allowed"] (Tb K 2 iK):=eE F ī λb a=>(aU<|bW<|bV iY<|aB (cX ka ma ya)<|aB aD aL)
def aXh(F:Ja K "top_rank" "top_rank" UK dV fa fd):Ca P w K mg base Ab 3 fa fd ["machine","bits"] (Tb K 2 qN):=eE F ŵ λb a=>(aJ (kE (cI eY eZ ya Za) (aU rO) fK)<|aU<|bW<|NF nG rfl<|Aa<|jF (gG<|bV bH<|aB aD aL) (λ_ _ _ _ _=>bU)<|λ_ _ _ _ _=>cA (Aa<|cX ka aZ ya) ya)
variable(dZ:Ea P w K mg base "loop_parts" 5 2 iK)(Lc:Ea P w K mg base "top_rank" 3 2 qN)
def č(F:Ja K "parts_topped" "parts_topped" vX dV fa fd):Ca P w K mg base Ab 6 fa fd ["machine","allowed","rank"] (Ek K 3 pG):=by
 refine QQ (k:=5) F AX 3 6 nM (cJ [4] (gb 4) (Ec<|aO iK<|aC (aA 0)<|aC (aA 3) aQ) qO yE) rfl rfl λd A a s H E B c=>?_
 have b:=AX.nd;exact gy (by exact bY<|bV dY<|aB (vU (gG<|bV bH<|aB aD aL) (λ_ _ _ _ _=>bU) (λ_ _ _ _ _=>cI YE JE (Aa<|cA (Aa<|cX ka aZ ya) ya) ya)<|λ_ _ _ _ _=>aD) aL) (by exact L8<|QM (gG<|bV dZ<|aB aD<|aB aD aL) (λ_ _ _ _ _=>bU) (λ_ _ _ _ _=>cI eY eZ (Aa<|bV Lc<|aB aD<|aB aD aL) ya)<|λ_ _ _ _ _=>aD)
variable(nZ:Ea P w K mg base "ranks_of_sort" 3 3 nJ)(Md:Gd P w K mg base "parts_topped" 6 3 pG)
def ñ(F:Ja K "loops_of_sort" "loops_of_sort" tX dV fa fd):Ca P w K mg base Ab 7 fa fd ["machine","allowed","wanted"] (Tb K 3 jW):=eE F Ö λa b=>(aJ (jR<|uD aL)<|aJ (gJ (gG<|bV nZ<|aB aD<|aB aD<|aB aD aL) bU<|aU<|Jy 3<|T6 Md a (by decide)<|aB aD<|aB aD<|aB aD aL)<|aU<|Cj [3]<|bW aD)
variable(aV:fQ K Na (ofString "many"))(Hb:mg "list"=none)
def ſ(F:Ja K "all_rooms" "all_rooms" BK dV fa fd):Ca P w K mg base Ab 2 fa fd ["machine"] (Tb K 1 oW):=eE F Ŏ λb a=>(aU<|bW<|bV dY<|aB (W3 Hb Xa rfl<|Aa<|cX ka aV ya) aL)
variable(lM:Ea P w K mg base "all_rooms" 2 1 oW)
def aUz(F:Ja K "seen_from" "seen_from" CK dV fa fd):Ca P w K mg base Ab 4 fa fd ["machine","room"] (Tb K 2 oX):=eE F ŏ λb a=>(aU<|bW<|cA (Aa<|bV jU<|aB (cX ka ma ya)<|aB (bV lM<|aB aD aL) aL) ya)
def ĳ(F:Ja K "without_top" "without_top" xR dV fa fd):Ca P w K mg base Ab 4 fa fd ["machine","loop"] (Tb K 2 rD):=eE F Ą λb a=>(aJ (bY<|bV Lc<|aB aD<|aB aD aL)<|aU<|bW<|bV dY<|aB (vU (gG<|bV bH<|aB aD aL) (λ_ _ _ _ _=>bU) (λ_ _ _ _ _=>cI pZ qC (Aa<|cA (Aa<|cX ka aZ ya) ya) ya)<|λ_ _ _ _ _=>aD) aL)
def bD6(F:Ja K "is_good" "is_good" KL dV fa fd):Ca P w K mg base Ab 4 fa fd ["machine","bits"] (Tb K 2 uT):=eE F aXc λb a=>(aU<|bW<|iH eY eZ (Aa<|mH (Aa<|bV Lc<|aB aD<|aB aD aL) Za) Za)
variable(rR:Ea P w K mg base "without_top" 4 2 rD)(Bf:Ea P w K mg base "is_good" 4 2 uT)
def Ĵ(F:Ja K "inner_loops" "inner_loops" xT dV fa fd):Ca P w K mg base Ab 6 fa fd ["machine","loop"] (Tb K 2 wW):=eE F ą λb a=>(aJ (jR<|uD aL)<|aJ (jR<|uD<|aB aD aL)<|aJ (ay (cI pZ qC eO<|Aa<|Zn aL)<|aJ (by exact bQm 4 3 rR b (by decide) aD a)<|by exact aU<|gJ (gG<|bV dZ<|aB aD<|aB aD aL) bU<|aU<|kE (cI eY eZ (Aa<|bV Bf<|aB aD<|aB aD aL)<|Aa<|bV Bf<|aB aD<|aB aD aL) (aU<|zJ 3 aD)<|aU<|zJ 2 aD)<|aU<|Cj [2]<|bW aD)
variable(fZ:Ea P w K mg base "loops_of_sort" 7 3 jW)(md:Ea P w K mg base "seen_from" 4 2 oX)(we:Ea P w K mg base "inner_loops" 6 2 wW)
def Ŝ(F:Ja K "bar_within" "bar_within" RJ dV fa fd):Ca P w K mg base Ab 8 fa fd ["machine","good"] (Tb K 2 pH):=eE F Ĭ λb a=>(aJ (gJ (gG<|bV fZ<|aB aD<|aB (bV md<|aB aD<|aB fV aL)<|aB aD aL) bU<|aJ (by exact bY<|bV we<|aB aD<|aB aD aL)<|by exact aU<|kE (cI pZ qC ya<|Aa<|Zn aL) bI1 fK)<|aU<|bW Qv)
variable(qG:Ea P w K mg base "bar_within" 8 2 pH)
def ĵ(F:Ja K "bar" "Settled.bar" xU dV fa fd):Ca P w K mg base Ab 9 fa fd ["self","machine"] (Tb K 2 mV):=eE F Ć λb a=>(aJ (bY<|bV qG<|aB aD<|aB dk aL)<|aU<|bW<|G9 (cI GL HL ya<|Aa Qv) aD<|bV qG<|aB aD<|aB dk aL)
theorem bI2(F:Ja K "joined" "joined" RM dV fa fd):Ca P w K mg base Ab 1 fa fd ["sets"] (Tb K 1 yF):=eE F bD2 λb a=>(aJ (bY fV)<|aJ (gJ (gG aD) bU<|aU<|bY<|Vv ya ya)<|aU<|bW aD)
def aXi(F:Ja K "ranks_by" "ranks_by" WK dV fa fd):Ca P w K mg base Ab 2 fa fd ["machine","bits","inside","outside"] (Tb K 4 vL):=eE F Ŷ λb a=>(aU<|bW<|jF (zE Xa<|Aa<|cX ka aV ya) (λ_ _ _ _ _=>bU)<|λ_ _ _ _ _=>G9 (fM<|bV dD<|aB aD<|aB aD aL) aD aD)
variable(nH:Ea P w K mg base "joined" 1 1 yF)(Nd:Ea P w K mg base "ranks_by" 2 4 vL)
def Å(F:Ja K "ranks_for" "Settled.ranks_for" mO dV fa fd):Ca P w K mg base Ab 8 fa fd ["self","machine"] (Tb K 2 iZ):=eE F Â λb a=>(aJ (bY<|bV nH<|aB (bV fZ<|aB aD<|aB (bV md<|aB aD<|aB fV aL)<|aB dk aL) aL)<|aU<|bW<|bV Nd<|aB aD<|aB aD<|aB fV<|aB fV aL)
variable(bQ:mg "isinstance"=none)
def Ú(F:Ja K "is_filled_list" "is_filled_list" qZ dV fa fd):Ca P w K mg base Ab 1 fa fd ["thing","most"] (Tb K 2 fL):=eE F Î λb a=>(aU<|bW<|Gm (nD ty_list bQ Hb ya)<|Gm (iH IP eP (Aa<|gK bZ ya) Za)<|vq<|iH YE JE (Aa<|gK bZ ya) ya)
variable(HP:mg "int"=none)(Ij:mg "bool"=none)
def aXj(F:Ja K "is_whole" "is_whole" YK dV fa fd):Ca P w K mg base Ab 1 fa fd ["thing"] (Tb K 1 lD):=eE F ŷ λb a=>(aU<|bW<|Gm (nD ty_int bQ HP ya)<|vq<|bT7<|nD ty_bool bQ Ij ya)
variable(oN:Ea P w K mg base "is_whole" 1 1 lD)
def aXk(F:Ja K "is_below" "is_below" ZK dV fa fd):Ca P w K mg base Ab 2 fa fd ["thing","limit"] (Tb K 2 lE):=eE F Ÿ λb a=>(aU<|bW<|Gm (bV oN<|aB aD aL)<|Gm (iH IP eP ya Za)<|vq<|iH By fy ya ya)
variable(oO:Ea P w K mg base "is_below" 2 2 lE)(Eg:mg "all"=none)
def bI3(F:Ja K "is_row" "is_row" SM dV fa fd):Ca P w K mg base Ab 3 fa fd ["thing","letters","rooms"] (Tb K 3 YC):=eE F bD3 λb a=>(aU<|bW<|Gm (iH eY eZ (Aa<|gK bZ ya) ya)<|vq<|LF Eg rfl<|Aa<|jF (gG aD) (λ_ _ _ _ _=>bU)<|λ_ _ _ _ _=>bV oO<|aB aD<|aB aD aL)
variable(jK:Ea P w K mg base "is_filled_list" 1 2 fL)(ah:Ea P w K mg base "is_row" 3 3 YC)
variable{Ze:Tok}(Se:mg "MOST_ROOMS"=some (.int 8 Ze))
variable{Qd:Tok}(Kd:mg "MOST_LETTERS"=some (.int 3 Qd))
def aV0(F:Ja K "are_steps" "are_steps" DK dV fa fd):Ca P w K mg base Ab 4 fa fd ["thing"] (Tb K 1 wL):=eE F Ő λb a=>(aJ (kE (tD<|fM<|bV jK<|aB aD<|aB (E8 Se) aL) (aU<|bW dk) fK)<|aJ (kE (tD<|fM<|LF Eg rfl<|Aa<|jF (gG aD) (λ_ _ _ _ _=>bU)<|λ_ _ _ _ _=>bV jK<|aB aD<|aB (E8 Kd) aL) (aU<|bW dk) fK)<|aU<|bW<|LF Eg rfl<|Aa<|jF (gG aD) (λ_ _ _ _ _=>bU)<|λ_ _ _ _ _=>bV ah<|aB aD<|aB (gK bZ<|Aa<|cA ya Za)<|aB (gK bZ ya) aL)
def aV1(F:Ja K "are_ranks" "are_ranks" EK dV fa fd):Ca P w K mg base Ab 2 fa fd ["thing","rooms"] (Tb K 2 wM):=eE F ő λb a=>(aJ (kE (PW.pt<|Nq (tD<|fM<|nD ty_list bQ Hb ya)<|Gs<|cI pZ qC (Aa<|gK bZ ya) ya) (aU<|bW dk) fK)<|aU<|bW<|LF Eg rfl<|Aa<|jF (gG aD) (λ_ _ _ _ _=>bU)<|λ_ _ _ _ _=>Gm (bV oN<|aB aD aL)<|vq<|iH IP eP ya Za)
variable(wU:Ea P w K mg base "are_steps" 4 1 wL)(vf:Ea P w K mg base "are_ranks" 2 2 wM)(Ka:fQ K Na (ofString "letters"))
def É(F:iq K "__init__" "Machine.__init__" fO fa fd):Ca P w K mg base Ab 5 fa fd ["self","steps","ranks"] (JB K "Machine" 2 eQ):=by
 refine E6 (k:=4) F uE "Machine" 2 4 jP rfl rfl λd A a s H E B c=>?_
 have b:=uE.nd;exact aJ (kE (tD<|fM<|bV wU<|aB aD aL) (aU rO) fK)<|aJ (kE (tD<|fM<|bV vf<|aB aD<|aB (gK bZ ya) aL) (aU rO) fK)<|aJ (So 0 ka ma<|jF (gG aD) (λ_ _ _ _ _=>bU)<|λ_ _ _ _ _=>H8 Hb ya)<|aJ (So 0 ka aZ<|H8 Hb ya)<|aJ (So 0 ka aV<|gK bZ ya)<|aU<|So 0 ka Ka<|gK bZ<|Aa<|cA ya Za
variable(fC:Ac P w K mg base "Settled" "bar" 9 2 [] mV)(Nb:Ac P w K mg base "Settled" "ranks_for" 8 2 [] iZ)(Fc:Kf P w K mg base "Machine" 5 2 eQ)
def XX(F:Ja K "marked" "Kind.marked" rQ dV fa fd):Ca P w K mg base Ab 10 fa fd ["self","machine"] (Tb K 2 rE):=eE F ć λa b=>(aJ (kE (cI GL HL (Aa<|vW (pl:=_) fC aD<|aB aD aL)<|Aa Qv) (aU rO) fK)<|aU<|bW<|Fv Fc a (by decide)<|aB (cX ka ma ya)<|aB (vW (pl:=_) Nb aD<|aB aD aL) aL)
variable(uB:Ac P w K mg base "Kind" "marked" 10 2 [] rE)(Fb:Ac P w K mg base "Settled" "marked" 10 2 [] rE)
variable{Dc:Addr}(Nc:ClsAt K "Settled" Dc)
variable(OC:mg (ofString "Settled")=some (.ref Dc))(Cf:IJ K Dc)
include fC uB Fb Nc OC Cf in
theorem Ď(F:Ja K "settled_twin" "settled_twin" vY dV fa fd):Ca P w K mg base Ab 11 fa fd ["machine"] (Tb K 1 pI):=eE F è λb a=>(aJ (bY<|bQl Cf Nc OC)<|aJ (bY<|vW (pl:=_) fC aD<|aB aD aL)<|aJ (kE (cI GL HL ya<|Aa Qv) (aU rO) fK)<|aU<|bW<|vW (pl:=_) Fb aD<|aB aD aL)
variable(zL:mg "zip"=none)
variable{Cg:Tok}(Ub:mg "LETTERS"=some (.str "abc" Cg))
def aV2(F:Ja K "ways_from" "ways_from" FK dV fa fd):Ca P w K mg base Ab 1 fa fd ["steps","start","allowed"] (Tb K 3 lF):=eE F Œ λb a=>(aJ (bTs (d4 b.units 3 aD (Em []) a)<|bL6 3 aD (Em []) a)<|aJ (jR<|uD<|aB aD aL)<|aJ (bY fV)<|aJ (ay (cI By fy ya<|Aa<|gK bZ eO)<|aJ (by exact bY<|cA eO ya)<|by exact aJ (by exact gJ (I8 zL (wy [97,98,99] Ub)<|cA ya ya) (Hs rfl<|lA<|lA Yr)<|aU<|kE (PW.pt<|Rv (cI iP kP ya ya)<|Av<|cI zG zH ya eO) (aJ (by exact Zr b.units 3 aD<|gY (Aa<|cA eO ya) ya)<|by exact aU<|zJ 4 aD) fK)<|by exact aU<|bY<|gY ya Za)<|aU<|Cj [3]<|bW aD)
variable(gM:Ea P w K mg base "ways_from" 1 3 lF)
def ò(F:Ja K "rooms_reached" "rooms_reached" tY dV fa fd):Ca P w K mg base Ab 2 fa fd ["machine"] (Ek K 1 nO):=by
 refine QQ (k:=1) F zK 1 2 lU (e1 mE<|aA 1) rfl rfl λd A a s H E B c=>?_
 have b:=zK.nd;exact gy (by exact bY<|bV gM<|aB (cX ka ma ya)<|aB fV<|aB (W3 Hb Xa rfl<|Aa<|cX ka aV ya) aL) (by exact L8<|bL9 Hb rfl aD)
variable{Jc:Addr}(fv_JUST_ONE:nsIn K mainGlobals (ofString "JUST_ONE")=some (some<|.ref Jc))
variable(iT:mg (ofString "JUST_ONE")=some (.ref Jc))(ie:PF K Jc [false,true,true,false])
include fv_JUST_ONE iT ie in
theorem aV3(F:Ja K "is_wanted" "is_wanted" GK dV fa fd):Ca P w K mg base Ab 1 fa fd ["wanted","p","q"] (Tb K 3 oY):=eE F œ λa b=>(aU<|bW<|bTn fv_JUST_ONE ie a.units ya<|Aa<|gY (Aa<|To (Aa<|mH ya Za) Za)<|Aa<|mH ya Za)
variable(lN:Ea P w K mg base "is_wanted" 1 3 oY)
variable{Cb:Addr}(Oa:ClsAt K "Sides" Cb)
variable(cB:fQ K Cb (ofString "lefts"))(Qa:fQ K Cb (ofString "rights"))
def ď(F:Ja K "wanted_ranks" "wanted_ranks" vZ dV fa fd):Ca P w K mg base Ab 2 fa fd ["sides","wanted"] (Tb K 2 pJ):=eE F é λb a=>(aJ (jR<|uD aL)<|aJ (gJ (gG<|PM jd Oh rfl<|Aa<|cX Oa cB ya) bU<|aU<|Jy 2<|QM (gG<|PM jd Oh rfl<|Aa<|cX Oa Qa ya) (λ_ _ _ _ _=>bU) (λ_ _ _ _ _=>fM<|bV lN<|aB aD<|aB aD<|aB aD aL)<|λ_ _ _ _ _=>zB<|aB aD<|aB aD aL)<|aU<|Cj [2]<|bW aD)
variable(lO:mg "enumerate"=none)
def Ķ(F:Ja K "kept_places" "kept_places" xV dV fa fd):Ca P w K mg base Ab 2 fa fd ["sides","p","q"] (Tb K 3 rF):=eE F Ĉ λb a=>(aJ (bY<|Y6 Hb zL rfl (cX Oa cB ya)<|cX Oa Qa ya)<|aU<|bW<|bV dY<|aB (vU (Q6 lO aD) (λ_ _ _ _ _=>Hs rfl<|lA<|lA Yr) (λ_ _ _ _ _=>PW.pt<|Rv (cI YE JE (Aa<|cA ya Za) ya)<|Av<|cI YE JE (Aa<|cA ya Za) ya) (λ_ _ _ _ _=>aD) (hsub:=bT8)) aL)
def Û(F:Ja K "greatest_ranks" "greatest_ranks" rA dV fa fd):Ca P w K mg base Ab 3 fa fd ["sides","part"] (Tb K 2 lV):=eE F Ï λb a=>(aJ (bY<|bV bH<|aB aD aL)<|aU<|bW<|zB<|aB (NF nG rfl<|Aa<|jF (gG aD) (λ_ _ _ _ _=>bU)<|λ_ _ _ _ _=>cA (Aa<|cX Oa cB ya) ya)<|aB (NF nG rfl<|Aa<|jF (gG aD) (λ_ _ _ _ _=>bU)<|λ_ _ _ _ _=>cA (Aa<|cX Oa Qa ya) ya) aL)
variable(qH:Ea P w K mg base "wanted_ranks" 2 2 pJ)(ye:Ea P w K mg base "kept_places" 2 3 rF)(Vc:Ea P w K mg base "greatest_ranks" 3 2 lV)(Lb:fQ K Cb (ofString "steps"))
def Đ(F:Ja K "wanted_parts" "wanted_parts" wA dV fa fd):Ca P w K mg base Ab 5 fa fd ["sides","wanted"] (Tb K 2 lG):=eE F ê λb a=>(aJ (jR<|uD aL)<|aJ (gJ (gG<|bV qH<|aB aD<|aB aD aL) (Hs rfl<|lA<|lA Yr)<|aJ (by exact bY<|bV iY<|aB (cX Oa Lb ya)<|aB (bV ye<|aB aD<|aB aD<|aB aD aL) aL)<|by exact aU<|Jy 2<|QM (gG aD) (λ_ _ _ _ _=>bU) (λ_ _ _ _ _=>cI eY eZ (Aa<|bV Vc<|aB aD<|aB aD aL)<|Aa<|zB<|aB aD<|aB aD aL)<|λ_ _ _ _ _=>aD)<|aU<|Cj [2]<|bW aD)
def ó(F:Ja K "check_letters" "check_letters" tZ dV fa fd):Ca P w K mg base Ab 1 fa fd ["one","other"] (Tb K 2 jX):=eE F Ø λb a=>(aU<|kE (cI pZ qC (Aa<|cX ka Ka ya)<|Aa<|cX ka Ka ya) (aU rO) fK)
def đ(F:Ja K "paired_steps" "paired_steps" wB dV fa fd):Ca P w K mg base Ab 1 fa fd ["one","other"] (Tb K 2 pK):=eE F ë λb a=>(aJ (bL0 2 a)<|aJ (gJ (zE Xa<|Aa<|cX ka aV ya) bU<|aU<|gJ (zE Xa<|Aa<|cX ka aV ya) bU<|aU<|Zr b.units 2 (zB<|aB aD<|aB aD aL)<|Y6 Hb zL rfl (cA (Aa<|cX ka ma ya) ya)<|cA (Aa<|cX ka ma ya) ya)<|aU<|Cj [2]<|bW aD)
def Ã(F:Ja K "check_room" "Machine.check_room" lL dV fa fd):Ca P w K mg base Ab 3 fa fd ["self","thing"] (Tb K 2 cC):=eE F À λb a=>(aU<|kE (tD<|fM<|bV oO<|aB aD<|aB (cX ka aV ya) aL) (aU rO) fK)
variable(oA:Ea P w K mg base "check_letters" 1 2 jX)(Ld:Ea P w K mg base "paired_steps" 1 2 pK)(Ya:Ac P w K mg base "Machine" "check_room" 3 2 [] cC)(Ib:fQ K Cb (ofString "pairs"))(fc:fQ K Cb (ofString "fronts"))
def Ü(F:iq K "__init__" "Sides.__init__" gQ fa fd):Ca P w K mg base Ab 4 fa fd ["self","one","other","left","right"] (JB K "Sides" 4 jB):=by
 refine E6 (k:=3) F wR "Sides" 4 9 lX rfl rfl λd A a s H E B b=>?_
 have c:=wR.nd;exact aJ (JF<|bV oA<|aB aD<|aB aD aL)<|aJ (JF<|vW (pl:=_) Ya aD<|aB aD aL)<|aJ (JF<|vW (pl:=_) Ya aD<|aB aD aL)<|aJ (bY<|bV Ld<|aB aD<|aB aD aL)<|aJ (bY<|bV gM<|aB aD<|aB (zB<|aB aD<|aB aD aL)<|aB (bLb Hb rfl aD) aL)<|aJ (So 0 Oa Ib<|K8 (bQ7 jd rfl aD) bHt)<|aJ (So 0 Oa fc<|jF (gG<|cX Oa Ib eO) (λ_ _ _ _ _=>bU)<|λ_ _ _ _ _=>cA ya ya)<|aJ (So 0 Oa Lb<|jF (gG<|cX Oa Ib eO) (λ_ _ _ _ _=>bU)<|λ_ _ _ _ _=>jF (gG<|cA ya ya) (λ_ _ _ _ _=>bU)<|λ_ _ _ _ _=>bCo b.units (Aa<|cX Oa Ib eO)<|aB aD aL)<|aJ (So 0 Oa cB<|jF (gG<|cX Oa Ib eO) (λ_ _ _ _ _=>bU)<|λ_ _ _ _ _=>cA (Aa<|cX ka aZ ya)<|Aa<|cA ya Za)<|aU<|So 0 Oa Qa<|jF (gG<|cX Oa Ib eO) (λ_ _ _ _ _=>bU)<|λ_ _ _ _ _=>cA (Aa<|cX ka aZ ya)<|Aa<|cA ya Za
variable(gZ:Ea P w K mg base "wanted_parts" 5 2 lG)(dg:Kf P w K mg base "Sides" 4 4 jB)
def aXl(F:Ja K "is_alike" "is_alike" rB dV fa fd):Ca P w K mg base Ab 6 fa fd ["one","other","left","right"] (Tb K 4 iV):=eE F Ź λa b=>(aU<|bW<|iH eY eZ (Aa<|bV gZ<|aB (Fv dg a (by decide)<|aB aD<|aB aD<|aB aD<|aB aD aL)<|aB (K9 fv_JUST_ONE iT) aL)<|Aa<|Zn aL)
variable(WJ:Ea P w K mg base "is_alike" 6 4 iV)
def ķ(F:Ja K "class_among" "class_among" xW dV fa fd):Ca P w K mg base Ab 7 fa fd ["machine","heads","room"] (Tb K 3 mX):=eE F ĉ λb a=>(aJ (gJ (Q6 lO aD) (Hs rfl<|lA<|lA Yr)<|aU<|kE (fM<|bV WJ<|aB aD<|aB aD<|aB aD<|aB aD aL) (aU<|bW aD) fK)<|aU<|bW<|gK bZ ya)
variable(oE:Gd P w K mg base "rooms_reached" 2 1 nO)(ue:Ea P w K mg base "class_among" 7 3 mX)
def ĸ(F:Ja K "classes_met" "classes_met" xX dV fa fd):Ca P w K mg base Ab 8 fa fd ["machine"] (Tb K 1 wZ):=eE F Ċ λa b=>(aJ (jR<|uD aL)<|aJ cE<|aJ (gJ (gG<|ON (Gd.plain oE) a (by decide)<|aB aD aL) (Hs rfl<|lA<|lA Yr)<|aJ (by exact Zr a.units 2 aD<|bVg [1]<|bV ue<|aB aD<|aB aD<|aB aD aL)<|by exact aU<|kE (cI eY eZ (Aa<|cA eO ya)<|Aa<|gK bZ eO) (aU<|zJ 1 aD) fK)<|aU<|Cj [2]<|bW aD)
def aXm(F:Ja K "heads_of" "heads_of" eL dV fa fd):Ca P w K mg base Ab 1 fa fd ["classes"] (Tb K 1 zP):=eE F ź λb a=>(aJ cE<|aJ (bQp 0 (λ_=>Hs rfl<|lA<|lA Yr) (λ_=>aU<|bQo 1 aD aD) HH rfl)<|aU<|Cj [1]<|bW<|bM5 Hb rfl aD)
def bD7(F:Ja K "is_loop" "is_loop" LL dV fa fd):Ca P w K mg base Ab 6 fa fd ["machine","bits"] (Tb K 2 yN):=eE F aXd λb a=>(aU<|bW<|iH eY eZ (Aa<|bV dZ<|aB aD<|aB aD aL)<|Aa<|Zn<|aB aD aL)
def bI4(F:Ja K "way_in" "way_in" TM dV fa fd):Ca P w K mg base Ab 3 fa fd ["machine","allowed","room","goal"] (Tb K 4 Gx):=eE F bD4 λa b=>(aJ (kE (tD<|fM<|bV dD<|aB aD<|aB aD aL) (aU<|bW Qv) fK)<|aU<|bW<|bQk a.units (Aa<|bV gM<|aB (cX ka ma ya)<|aB aD<|aB (bV bH<|aB aD aL) aL) aD)
def Á(F:Ja K "rooms_along" "Machine.rooms_along" eN dV fa fd):Ca P w K mg base Ab 1 fa fd ["self","room","text"] (Ek K 3 cH):=by
 refine bVd (k:=0) F qF 3 5 3 gD rfl rfl λd A a s H E B c=>?_
 have b:=qF.nd;exact P6 (by exact jR<|uD<|aB aD aL) (by exact P6 (by exact gJ (gG aD) bU<|aJ (by exact bY<|cA (Aa<|cA (Aa<|cX ka ma ya) ya)<|Aa<|bPs (Aa<|wy [97,98,99] Ub)<|aB aD aL)<|by exact aU<|zJ 3 aD)<|by exact bPu)
variable(IK:Ea P w K mg base "is_loop" 6 2 yN)(ag:Ea P w K mg base "way_in" 3 4 Gx)(Ua:Zc P w K mg base "Machine" "rooms_along" 1 3 [] cH)
def aXn(F:Ja K "round_in" "round_in" gL dV fa fd):Ca P w K mg base Ab 7 fa fd ["machine","bits","room"] (Tb K 3 jQ):=eE F Ż λb a=>(aJ (kE (tD<|fM<|bV IK<|aB aD<|aB aD aL) (aU rO) fK)<|aJ (kE (tD<|fM<|bV dD<|aB aD<|aB aD aL) (aU rO) fK)<|aJ (kE (cI eY eZ (Aa<|bV bH<|aB aD aL)<|Aa<|Zn<|aB aD aL) (aU<|bW<|cA (Aa<|wy [97,98,99] Ub)<|Aa<|bHa (Aa<|cA (Aa<|cX ka ma ya) ya)<|aB aD aL) fK)<|aJ (bY<|Em [])<|aJ (bY aD)<|aJ (gJ (gG<|bV bH<|aB aD aL) bU<|aU<|kE (cI zG zH ya<|Aa<|vW (pl:=_) (Zc.plain Ua) aD<|aB aD<|aB aD aL) (aJ (by exact bY<|gY ya<|Aa<|bV ag<|aB aD<|aB aD<|aB aD<|aB aD aL)<|by exact aU<|bY aD) fK)<|aU<|bW<|gY ya<|Aa<|bV ag<|aB aD<|aB aD<|aB aD<|aB aD aL)
variable(Ay:mg "str"=none)
def bD8(F:Ja K "is_word" "is_word" ML dV fa fd):Ca P w K mg base Ab 1 fa fd ["thing","many"] (Tb K 2 oZ):=eE F aXe λb a=>(aU<|bW<|Gm (nD ty_str bQ Ay ya)<|vq<|iH eY eZ (Aa<|bKy ya<|aB (FG (Aa<|wy [97,98,99] Ub) ME<|Cv ya) aL)<|Aa<|Em [])
variable(zM:Ea P w K mg base "is_word" 1 2 oZ)(Pe:mg "tuple"=none)
def ŝ(F:Ja K "is_endless" "is_endless" SJ dV fa fd):Ca P w K mg base Ab 2 fa fd ["thing","many"] (Tb K 2 lY):=eE F ĭ λb a=>(aJ (kE (PW.pt<|Nq (tD<|fM<|nD ty_tuple bQ Pe ya)<|Gs<|cI pZ qC (Aa<|gK bZ ya) Za) (aU<|bW dk) fK)<|aU<|bW<|Gm (bV zM<|aB (cA ya Za)<|aB aD aL)<|Gm (bV zM<|aB (cA ya Za)<|aB aD aL)<|vq<|iH pZ qC (Aa<|cA ya Za)<|Aa<|Em [])
variable(uQ:Ea P w K mg base "is_endless" 2 2 lY)
def Ē(F:Ja K "walk" "Machine.walk" jG dV fa fd):Ca P w K mg base Ab 4 fa fd ["self","word","room"] (Tb K 3 lH):=eE F ì λa b=>(aJ (JF<|vW (pl:=_) Ya aD<|aB aD aL)<|aJ (kE (tD<|fM<|bV uQ<|aB aD<|aB (cX ka Ka ya) aL) (aU rO) fK)<|aJ (jR<|bPv (pl:=_) Ua a (by decide) aD<|aB aD<|aB (cA ya Za) aL)<|aJ cE<|aJ (ay (cI zG zH (Aa<|cA eO<|Aa<|Js Za) eO)<|aJ (by exact Zr a.units 4 (cA eO<|Aa<|Js Za)<|VP (Aa<|gK bZ eO) Za)<|by exact aU<|Jy 3<|bVc (Aa<|vW (pl:=_) (Zc.plain Ua) aD<|aB (cA eO<|Aa<|Js Za)<|aB (cA ya Za) aL) (Cv Za) ME)<|aJ (bY<|cA eO<|Aa<|cA eO<|Aa<|Js Za)<|aU<|bW<|zB<|aB (FG eO ME<|Cv ya)<|aB (FG eO (Cv ya)<|Cv<|Aa<|Js Za) aL)
variable(mC:Ac P w K mg base "Machine" "walk" 4 3 [] lH)
def ē(F:Ja K "lets" "Machine.lets" jH dV fa fd):Ca P w K mg base Ab 5 fa fd ["self","word","room"] (Tb K 3 dN):=eE F í λb a=>(aJ (bY<|cA (Aa<|vW (pl:=_) mC aD<|aB aD<|aB aD aL) Za)<|aU<|bW<|iH eY eZ (Aa<|mH (Aa<|NF nG rfl<|Aa<|jF (gG aD) (λ_ _ _ _ _=>bU)<|λ_ _ _ _ _=>cA (Aa<|cX ka aZ ya) ya) Za) Za)
variable(XJ:Ea P w K mg base "round_in" 7 3 jQ)(Xc:Ac P w K mg base "Machine" "lets" 5 3 [] dN)
def Ş(F:Ja K "good_parts" "good_parts" TJ dV fa fd):Ca P w K mg base Ab 8 fa fd ["machine","heads","form"] (Tb K 3 uK):=eE F Į λb a=>(aJ (jR<|uD aL)<|aJ (gJ (gG<|bV dZ<|aB aD<|aB (bV lM<|aB aD aL) aL) bU<|aJ (by exact bY<|cA (Aa<|bV bH<|aB aD aL) Za)<|by exact aU<|kE (fM<|vW (pl:=_) Xc aD<|aB (zB<|aB (Em [])<|aB (bV XJ<|aB aD<|aB aD<|aB aD aL) aL)<|aB (cA ya ya) aL) (aU<|zJ 3 aD) fK)<|aU<|Cj [3]<|bW aD)
variable(qI:Ea P w K mg base "settled_twin" 11 1 pI)(ve:Ea P w K mg base "classes_met" 8 1 wZ)(Nf:Ea P w K mg base "heads_of" 1 1 zP)(We:Ea P w K mg base "good_parts" 8 3 uK)
def ô(F:Ja K "smallest_form" "smallest_form" uA dV fa fd):Ca P w K mg base Ab 12 fa fd ["machine"] (Tb K 1 iI):=eE F Ù λa b=>(aJ (bY<|bV qI<|aB aD aL)<|aJ (bY<|bV ve<|aB aD aL)<|aJ (bY<|bV Nf<|aB aD aL)<|aJ (RE (gG aD) (λ_ _ _ _ _=>bU)<|λ_ _ _ _ _=>jF (gG<|cA (Aa<|cX ka ma ya) ya) (λ_ _ _ _ _=>bU)<|λ_ _ _ _ _=>cA ya ya)<|aJ (bY<|Fv Fc a (by decide)<|aB aD<|aB (lP (aB fV aL)<|Aa<|gK bZ ya) aL)<|aU<|bW<|Fv Fc a (by decide)<|aB aD<|aB (bV Nd<|aB aD<|aB (bV nH<|aB (bV We<|aB aD<|aB aD<|aB aD aL) aL)<|aB fV<|aB fV aL) aL)
def Ĺ(F:Ja K "first_round" "first_round" xY dV fa fd):Ca P w K mg base Ab 2 fa fd ["sides","wanted","start"] (Tb K 3 rG):=eE F ċ λa b=>(aJ (d4 a.units 3 (zB<|aB aD<|aB (Js Za)<|aB (Js Za) aL) (Em []) b)<|aJ (jR<|bM1 Hb rfl eO)<|aJ (bY fV)<|aJ (ay (cI By fy ya<|Aa<|gK bZ eO)<|aJ (by exact bY<|cA eO ya)<|by exact aJ (by exact gJ (I8 zL (wy [97,98,99] Ub)<|cA (Aa<|cX Oa Lb ya)<|Aa<|cA ya Za) (Hs rfl<|lA<|lA Yr)<|aJ (by exact bY<|zB<|aB aD<|aB (QE nG rfl (Aa<|cA ya Za)<|Aa<|cA (Aa<|cX Oa cB ya) ya)<|aB (QE nG rfl (Aa<|cA ya Za)<|Aa<|cA (Aa<|cX Oa Qa ya) ya) aL)<|by exact aJ (by exact kE (PW.pt<|Rv (cI eY eZ ya ya)<|Av<|fM<|bV lN<|aB aD<|aB (cA ya Za)<|aB (cA ya Za) aL) (aU<|bW<|gY (Aa<|cA eO ya) ya) fK)<|by exact aU<|kE (cI zG zH ya eO) (aJ (by exact Zr a.units 3 aD<|gY (Aa<|cA eO ya) ya)<|by exact aU<|zJ 4 aD) fK)<|by exact aU<|bY<|gY ya Za)<|aU<|bW Qv)
def Ý(F:Ja K "place_in_order" "place_in_order" rC dV fa fd):Ca P w K mg base Ab 1 fa fd ["word"] (Tb K 1 cY):=eE F Ð λb a=>(aU<|bW<|zB<|aB (gY (Aa<|gK bZ<|Aa<|cA ya Za)<|Aa<|gK bZ<|Aa<|cA ya Za)<|aB (gK bZ<|Aa<|cA ya Za)<|aB (cA ya Za)<|aB (cA ya Za) aL)
variable(rT:Ea P w K mg base "first_round" 2 3 rG)(Wc:Ea P w K mg base "place_in_order" 1 1 cY)
def ĺ(F:Ja K "wanted_word" "wanted_word" kO dV fa fd):Ca P w K mg base Ab 6 fa fd ["one","other","wanted","left","right"] (Tb K 5 mY):=eE F Č λa b=>(aJ (bY<|Fv dg a (by decide)<|aB aD<|aB aD<|aB aD<|aB aD aL)<|aJ (bY<|bV bH<|aB (bV nH<|aB (bV gZ<|aB aD<|aB aD aL) aL) aL)<|aJ (RE (gG aD) (λ_ _ _ _ _=>bU)<|λ_ _ _ _ _=>zB<|aB (cA (Aa<|cX Oa fc ya) ya)<|aB (bV rT<|aB aD<|aB aD<|aB aD aL) aL)<|aU<|bW<|bQi Wc a (by decide) rfl a.units Mi aD)
variable(rW:Ea P w K mg base "wanted_word" 6 5 mY)
def Ĕ(F:Ja K "parting_word" "parting_word" jJ dV fa fd):Ca P w K mg base Ab 7 fa fd ["one","other","left","right"] (Tb K 4 dG):=eE F î λb a=>(aU<|bW<|bV rW<|aB aD<|aB aD<|aB (K9 fv_JUST_ONE iT)<|aB aD<|aB aD aL)
variable(gB:Ea P w K mg base "smallest_form" 12 1 iI)(Cc:Ea P w K mg base "parting_word" 7 4 dG)
def ĕ(F:Ja K "parted_rooms" "parted_rooms" wC dV fa fd):Ca P w K mg base Ab 13 fa fd ["machine"] (Ek K 1 jD):=by
 refine QQ (k:=12) F BX 1 5 nR (CG 2) rfl rfl λd A a s H E B c=>?_
 have b:=BX.nd;exact gy (by exact bY<|bV gB<|aB aD aL) (by exact gy (by exact jR<|uD aL)<|by exact gy (by exact gJ (zE Xa<|Aa<|cX ka aV ya) bU<|aU<|gJ (H9 Xa (Aa<|gY ya Za)<|Aa<|cX ka aV ya) bU<|aU<|zJ 2<|zB<|aB aD<|aB aD<|aB (bV Cc<|aB aD<|aB aD<|aB aD<|aB aD aL) aL)<|by exact bQv 2)
def Ė(F:Ja K "_law_is_word" "_law_is_word" wF dV fa fd):Ca P w K mg base Ab 1 fa fd ["_law_thing","_law_letters"] (Tb K 2 pM):=eE F ï λb a=>(aJ (kE (PW.pt<|Nq (tD<|fM<|nD ty_tuple bQ Pe ya)<|Gs<|cI pZ qC (Aa<|gK bZ ya) Za) (aU<|bW dk) fK)<|aJ (gJ (gG aD) bU<|aU<|kE (PW.pt<|Nq (tD<|fM<|nD ty_str bQ Ay ya)<|Gs<|cI pZ qC (Aa<|gK bZ<|Aa<|vU (gG aD) (λ_ _ _ _ _=>bU) (λ_ _ _ _ _=>cI iP kP ya<|Aa<|FG (Aa<|Em [97,98,99]) ME<|Cv ya)<|λ_ _ _ _ _=>aD)<|Aa<|gK bZ ya) (aU<|bW dk) fK)<|aU<|bW<|iH pZ qC (Aa<|cA ya Za)<|Aa<|Em [])
theorem ş(F:Ja K "_law_after" "_law_after" UJ dV fa fd):Ca P w K mg base Ab 1 fa fd ["_law_steps_here","_law_room","_law_text"] (Tb K 3 iM):=eE F į λb a=>(aJ (gJ (gG aD) bU<|aU<|bY<|cA (Aa<|cA ya ya)<|Aa<|B6 (Aa<|Em [97,98,99])<|aB aD aL)<|aU<|bW aD)
variable(fP:Ea P w K mg base "_law_after" 1 3 iM)
def aV4(F:Ja K "_law_lets" "_law_lets" HK dV fa fd):Ca P w K mg base Ab 2 fa fd ["_law_machine","_law_word","_law_room"] (Tb K 3 sU):=eE F Ŕ λb a=>(aJ (bY<|bV fP<|aB (cX ka ma ya)<|aB aD<|aB (gY (Aa<|cA ya Za)<|Aa<|J9 (Aa<|cA ya Za)<|Aa<|cX ka aV ya) aL)<|aJ (bY fV)<|aJ (gJ (gG<|J9 (Aa<|cA ya Za)<|Aa<|cX ka aV ya) bU<|aJ (by exact bY<|cA (Aa<|cA (Aa<|cX ka ma ya) ya)<|Aa<|B6 (Aa<|Em [97,98,99])<|aB aD aL)<|by exact aU<|bY<|QE nG rfl ya<|Aa<|cA (Aa<|cX ka aZ ya) ya)<|aU<|bW<|iH eY eZ (Aa<|mH ya Za) Za)
variable(qJ:Ea P w K mg base "_law_is_word" 1 2 pM)(je:Ea P w K mg base "_law_lets" 2 3 sU)
def Š(F:Ja K "_law_parts" "_law_parts" VJ dV fa fd):Ca P w K mg base Ab 3 fa fd ["_law_small","_law_p","_law_q","_law_word"] (Tb K 4 uL):=eE F İ λb a=>(aJ (kE (PW.pt<|Nq (tD<|fM<|bV qJ<|aB aD<|aB (cX ka Ka ya) aL)<|Gs<|cI eY eZ (Aa<|bV je<|aB aD<|aB aD<|aB aD aL)<|Aa<|bV je<|aB aD<|aB aD<|aB aD aL) (aU<|bW dk) fK)<|aJ (bY<|bV fP<|aB (cX ka ma ya)<|aB aD<|aB (cA ya Za) aL)<|aJ (bY<|bV fP<|aB (cX ka ma ya)<|aB aD<|aB (cA ya Za) aL)<|aU<|bW<|Gm (iH eY eZ (Aa<|bV fP<|aB (cX ka ma ya)<|aB aD<|aB (cA ya Za) aL) ya)<|vq<|iH eY eZ (Aa<|bV fP<|aB (cX ka ma ya)<|aB aD<|aB (cA ya Za) aL) ya)
variable(uR:Ea P w K mg base "_law_steps" 2 3 uF)(Ue:Ea P w K mg base "_law_ranks" 2 2 uH)(Tc:Gd P w K mg base "parted_rooms" 13 1 jD)(Te:Ea P w K mg base "_law_parts" 3 4 uL)
def bTt(F:Ja K "law" "law" Yo dV fa fd):Ca P w K mg base Ab 14 fa fd ["_law_script"] (Tb K 1 Nv):=eE F bQw λa b=>(aJ (by exact bY<|bV uR<|aB aD<|aB fV<|aB fV aL)<|by exact aJ (by exact bY<|Fv Fc a (by decide)<|aB aD<|aB (bV Ue<|aB aD<|aB (bV jN<|aB aD<|aB fV aL) aL) aL)<|by exact aJ (by exact bY<|bV gB<|aB aD aL)<|by exact aJ (by exact jR<|T6 Tc a (by decide)<|aB aD aL)<|by exact aJ (by exact jR<|uD aL)<|by exact aJ (by exact gJ (zE Xa<|Aa<|cX ka aV ya) bU<|aU<|Jy 5<|bQ3 (H9 Xa (Aa<|gY ya Za)<|Aa<|cX ka aV ya) (λ_ _ _ _ _=>bU)<|λ_ _ _ _ _=>zB<|aB aD<|aB aD aL)<|by exact bI0<|by exact WE (by exact RQ (PW.pt<|Nq (tD<|fM<|nD ty_list bQ Hb ya)<|Gs<|cI pZ qC (Aa<|jF (gG aD) (λ_ _ _ _ _=>bU)<|λ_ _ _ _ _=>bTq (k:=2) aD) eO) (RF<|by exact AQ dk) sQ)<|by exact WE (by exact bTr 7 (WE (by exact RQ (PW.pt<|Nq (tD<|fM<|nD ty_tuple bQ Pe ya)<|Nq (cI pZ qC (Aa<|gK bZ ya) Za)<|Gs<|tD<|fM<|bV Te<|aB aD<|aB (cA ya Za)<|aB (cA ya Za)<|aB (cA ya Za) aL) (RF<|by exact AQ dk) sQ)<|by exact RF<|by exact RQ (cI pZ qC (Aa<|cA ya Za)<|Aa<|bV Cc<|aB aD<|aB aD<|aB (cA ya Za)<|aB (cA ya Za) aL) (RF<|by exact AQ dk) sQ) HH rfl b)<|by exact WE (by exact bQt 8 Hb b)<|by exact bQu<|aU<|bW<|iH eY eZ (Aa<|ON (Gd.plain Tc) a (by decide)<|aB aD aL) ya)
end
theorem all_mk{l:OpenLaw}{w:World}{K:Frag} (X:K.In h) (G:h.Ns mainGlobals mg) (hfa:mg "law"=some (.ref fa))
  {wm:Addr} {YH:Addr} {OU mP:pi} {MV:li} {FU WT rS gV Hz fS:Value} {ZH:Addr} {PU oP:pi} {NV:li} {GU XT vS nV Iz gS:Value} {IS:Addr} {QU sP:pi} {OV:li} {HU YT xS pV Jz iS:Value} {RW:Addr} {QB:Value} {XB:pi} {zC:li} {ZV:Nat} {Fu:Tok} {Gu:Tok} {aI:Addr} {RU BP:pi} {PV:li} {IU ZT AS qV Kz jS:Value} {fI:Addr} {SU CP:pi} {QV:li} {JU hU BS rV Lz kS:Value} {SW:Addr} {RB:Value} {YB:pi} {BC:li} {eW:Nat} {Hu:Tok} {gI:Addr} {TU DP:pi} {RV:li} {KU kU CS AV Mz lS:Value} {UW:Addr} {TB:Value} {kC:pi} {CC:li} {AW:Nat} {Iu:Tok} {JS:Addr} {UU FP:pi} {SV:li} {LU AU DS BV Nz mS:Value} {VW:Addr} {UB:Value} {oC:pi} {DC:li} {BW:Nat} {Ju:Tok} {Ku:Tok} {KS:Addr} {VU GP:pi} {TV:li} {MU BU ES CV Oz pS:Value} {WW:Addr} {WB:Value} {sC:pi} {EC:li} {CW:Nat} {Lu:Tok} {Mu:Tok} {LS:Addr} {WU My:pi} {WV:li} {NU nB Qz AB Ft Pz:Value} {Uh:pi} {Vh:li} {Ci:Nat}
  (Et:ClsAt K "Kind" wm)
  (b:ClsAt K "Machine" Na)
  (y:makesIn K Na=true)
  (x:keepIn K (.ref Na)=true)
  (Nc:ClsAt K "Settled" Dc)
  (Cf:IJ K Dc)
  (P:ClsAt K "Sides" Cb)
  (D:makesIn K Cb=true)
  (B:keepIn K (.ref Cb)=true)
  (c:findIn K (.ref Na) (ofString "letters")=some none)
  (j:findIn K (.ref Na) (ofString "many")=some none)
  (f:findIn K (.ref Na) (ofString "ranks")=some none)
  (d:findIn K (.ref Na) (ofString "steps")=some none)
  (i:findIn K (.ref Cb) (ofString "fronts")=some none)
  (o:findIn K (.ref Cb) (ofString "lefts")=some none)
  (n:findIn K (.ref Cb) (ofString "pairs")=some none)
  (g:findIn K (.ref Cb) (ofString "rights")=some none)
  (m:findIn K (.ref Cb) (ofString "steps")=some none)
  (a:nsIn K mainGlobals "JUST_ONE"=some (some<|.ref Jc))
  (D1:DA K "_law_cell" kK)
  (D2:DA K "_law_pick" nK)
  (D3:DA K "_law_digits" xP)
  (D4:DA K "_law_goal" AK)
  (D5:DA K "_law_steps" KJ)
  (D6:DA K "_law_goals" LJ)
  (D7:DA K "_law_close" MJ)
  (D8:DA K "_law_ranks" NJ)
  (D9:DA K "has_room" SK)
  (Ξ:DA K "rooms_of" TK)
  (Ο:DA K "ranks_of_sort" tW)
  (Ρ:DA K "bits_of" JL)
  (Τ:DA K "seen_among" OJ)
  (Υ:DA K "goes_round" PJ)
  (Φ:DA K "parts_among" xQ)
  (Χ:DA K "loop_parts" QJ)
  (Ψ:DA K "top_rank" UK)
  (Ω:DA K "parts_topped" vX)
  (ϊ:DA K "loops_of_sort" tX)
  (ϋ:DA K "all_rooms" BK)
  (ό:DA K "seen_from" CK)
  (ύ:DA K "without_top" xR)
  (ώ:DA K "is_good" KL)
  (Ϗ:DA K "inner_loops" xT)
  (ϐ:DA K "bar_within" RJ)
  (ϴ:MA K Dc "bar" "bar" "Settled.bar" xU)
  (ϑ:DA K "joined" RM)
  (ϒ:DA K "ranks_by" WK)
  (ϵ:MA K Dc "ranks_for" "ranks_for" "Settled.ranks_for" mO)
  (ϓ:DA K "is_filled_list" qZ)
  (ϔ:DA K "is_whole" YK)
  (ϕ:DA K "is_below" ZK)
  (ϖ:DA K "is_row" SM)
  (ϗ:DA K "are_steps" DK)
  (Ϙ:DA K "are_ranks" EK)
  (a36:findIn K (.ref Na) (ofString "__init__")=some (some<|.ref YH))
  (e36:isFn K (.ref YH)=true)
  (l36:K.lookup YH=some ⟨FU,OU,.func<|fnOf "__init__" "Machine.__init__" (eU fO) (dH fO) (bM fO) .none WT rS gV mP Hz fS,MV⟩)
  (c36:codeIn K Hz "Machine.__init__"=true)
  (k36:keepIn K (.ref YH)=true)
  (Ϸ:MA K wm "marked" "marked" "Kind.marked" rQ)
  (ϙ:DA K "settled_twin" vY)
  (Ϛ:DA K "ways_from" FK)
  (ϛ:DA K "rooms_reached" tY)
  (Ϝ:DA K "is_wanted" GK)
  (ϝ:DA K "wanted_ranks" vZ)
  (Ϟ:DA K "kept_places" xV)
  (ϟ:DA K "greatest_ranks" rA)
  (Ϡ:DA K "wanted_parts" wA)
  (ϡ:DA K "check_letters" tZ)
  (Ϣ:DA K "paired_steps" wB)
  (ϸ:MA K Na "check_room" "check_room" "Machine.check_room" lL)
  (a49:findIn K (.ref Cb) (ofString "__init__")=some (some<|.ref ZH))
  (e49:isFn K (.ref ZH)=true)
  (l49:K.lookup ZH=some ⟨GU,PU,.func<|fnOf "__init__" "Sides.__init__" (eU gQ) (dH gQ) (bM gQ) .none XT vS nV oP Iz gS,NV⟩)
  (c49:codeIn K Iz "Sides.__init__"=true)
  (k49:keepIn K (.ref ZH)=true)
  (a50:nsIn K mainGlobals "is_alike"=some (some<|.ref IS))
  (l50:K.lookup IS=some ⟨HU,QU,.func<|fnOf "is_alike" "is_alike" (eU rB) (dH rB) (bM rB) (.ref RW) YT xS pV sP Jz iS,OV⟩)
  (t50:K.lookup RW=some ⟨QB,XB,.seq #[.int 0 Fu,.int 0 Gu] ZV,zC⟩)
  (c50:codeIn K Jz "is_alike"=true)
  (k50:keepIn K (.ref IS)=true)
  (ϣ:DA K "class_among" xW)
  (Ϥ:DA K "classes_met" xX)
  (ϥ:DA K "heads_of" eL)
  (Ϧ:DA K "is_loop" LL)
  (ϧ:DA K "way_in" TM)
  (a56:findIn K (.ref Na) (ofString "rooms_along")=some (some<|.ref aI))
  (e56:isFn K (.ref aI)=true)
  (l56:K.lookup aI=some ⟨IU,RU,.func<|fnOf "rooms_along" "Machine.rooms_along" (eU eN) (dH eN) (bM eN) .none ZT AS qV BP Kz jS,PV⟩)
  (c56:codeIn K Kz "Machine.rooms_along"=true)
  (k56:keepIn K (.ref aI)=true)
  (Ϩ:DA K "round_in" gL)
  (ϩ:DA K "is_word" ML)
  (Ϫ:DA K "is_endless" SJ)
  (a60:findIn K (.ref Na) (ofString "walk")=some (some<|.ref fI))
  (e60:isFn K (.ref fI)=true)
  (l60:K.lookup fI=some ⟨JU,SU,.func<|fnOf "walk" "Machine.walk" (eU jG) (dH jG) (bM jG) (.ref SW) hU BS rV CP Lz kS,QV⟩)
  (t60:K.lookup SW=some ⟨RB,YB,.seq #[.int 0 Hu] eW,BC⟩)
  (c60:codeIn K Lz "Machine.walk"=true)
  (k60:keepIn K (.ref fI)=true)
  (a61:findIn K (.ref Na) (ofString "lets")=some (some<|.ref gI))
  (e61:isFn K (.ref gI)=true)
  (l61:K.lookup gI=some ⟨KU,TU,.func<|fnOf "lets" "Machine.lets" (eU jH) (dH jH) (bM jH) (.ref UW) kU CS AV DP Mz lS,RV⟩)
  (t61:K.lookup UW=some ⟨TB,kC,.seq #[.int 0 Iu] AW,CC⟩)
  (c61:codeIn K Mz "Machine.lets"=true)
  (k61:keepIn K (.ref gI)=true)
  (ϫ:DA K "good_parts" TJ)
  (Ϭ:DA K "smallest_form" uA)
  (ϭ:DA K "first_round" xY)
  (Ϯ:DA K "place_in_order" rC)
  (a66:nsIn K mainGlobals "wanted_word"=some (some<|.ref JS))
  (l66:K.lookup JS=some ⟨LU,UU,.func<|fnOf "wanted_word" "wanted_word" (eU kO) (dH kO) (bM kO) (.ref VW) AU DS BV FP Nz mS,SV⟩)
  (t66:K.lookup VW=some ⟨UB,oC,.seq #[.int 0 Ju,.int 0 Ku] BW,DC⟩)
  (c66:codeIn K Nz "wanted_word"=true)
  (k66:keepIn K (.ref JS)=true)
  (a67:nsIn K mainGlobals "parting_word"=some (some<|.ref KS))
  (l67:K.lookup KS=some ⟨MU,VU,.func<|fnOf "parting_word" "parting_word" (eU jJ) (dH jJ) (bM jJ) (.ref WW) BU ES CV GP Oz pS,TV⟩)
  (t67:K.lookup WW=some ⟨WB,sC,.seq #[.int 0 Lu,.int 0 Mu] CW,EC⟩)
  (c67:codeIn K Oz "parting_word"=true)
  (k67:keepIn K (.ref KS)=true)
  (ϯ:DA K "parted_rooms" wC)
  (ϰ:DA K "_law_is_word" wF)
  (ϱ:DA K "_law_after" UJ)
  (ϲ:DA K "_law_lets" HK)
  (ϳ:DA K "_law_parts" VJ)
  (a73:nsIn K mainGlobals "law"=some (some<|.ref LS))
  (l73:K.lookup LS=some ⟨NU,WU,.func<|fnOf "law" "law" (eU Yo) (dH Yo) (bM Yo) .none nB Qz AB My Ft Pz,WV⟩)
  (c73:codeIn K Ft "law"=true)
  (k73:keepIn K (.ref LS)=true)
  (Ϲ:MA K Dc "marked" "marked" "Kind.marked" rQ)
  (z:nsIn K mainGlobals "LETTERS"=some (some<|.str "abc" Cg))
  (k:nsIn K mainGlobals "MOST_LETTERS"=some (some<|.int 3 Qd))
  (q:nsIn K mainGlobals "MOST_ROOMS"=some (some<|.int 8 Ze))
  (t:K.lookup Jc=some ⟨.type "tuple",Uh,.seq #[.bool false,.bool true,.bool true,.bool false] Ci,Vh⟩)
  (Z:nsIn K mainGlobals "all"=some none)
  (N:nsIn K mainGlobals "bool"=some none)
  (r:nsIn K mainGlobals "enumerate"=some none)
  (Y:nsIn K mainGlobals "int"=some none)
  (p:nsIn K mainGlobals "isinstance"=some none)
  (W:nsIn K mainGlobals "len"=some none)
  (M:nsIn K mainGlobals "list"=some none)
  (V:nsIn K mainGlobals "max"=some none)
  (U:nsIn K mainGlobals "min"=some none)
  (I:nsIn K mainGlobals "range"=some none)
  (T:nsIn K mainGlobals "set"=some none)
  (A:nsIn K mainGlobals "sorted"=some none)
  (S:nsIn K mainGlobals "str"=some none)
  (H:nsIn K mainGlobals "tuple"=some none)
  (R:nsIn K mainGlobals "zip"=some none) :
  ∃fd:FuncData,(∀(s:Shared)(v:Value),BindsTo s fd ⟨[v],[]⟩ [("_law_script",v)])/\∀base:Heap,K.In base->base.Ns mainGlobals mg->Ca l.prog w K mg base Ab 14 fa fd ["_law_script"] (Tb K 1 Nv):=by
 have e:=hfa.symm.trans<|mg_of X G a73;cases e;have OC:=mg_of X G Nc.ns;have Ka:fQ K Na (ofString "letters"):=c;have O:fQ K Na (ofString "many"):=j;have Q:fQ K Na (ofString "ranks"):=f;have E:fQ K Na (ofString "steps"):=d;have fc:fQ K Cb (ofString "fronts"):=i;have cB:fQ K Cb (ofString "lefts"):=o;have Ib:fQ K Cb (ofString "pairs"):=n;have Qa:fQ K Cb (ofString "rights"):=g;have Lb:fQ K Cb (ofString "steps"):=m;have HW:=J7 (st:=fO) l36 c36 k36;have b36:=HW.binds (ps:=["self","steps","ranks"]) λ_ _ _ _ _ _=>fv<|λ_ _ _=>rfl
 have IW:=J7 (st:=gQ) l49 c49 k49;have b49:=IW.binds (ps:=["self","one","other","left","right"]) λ_ _ _ _ _ _=>fE<|λ_ _ _ _ _=>rfl
 have eJ:=uO (st:=rB) l50 c50 k50;have Ny:Binds K _ ["one","other","left","right"] []:=eJ.binds (m:=4) t50 rfl rfl λ_ _ _ _ _ _=>dE<|λ_ _ _ _=>⟨_,rfl,rfl⟩
 have JW:=uO (st:=eN) l56 c56 k56;have b56:=JW.Yh (ps:=["self","room","text"]) λ_ _ _ _ _ _=>fv<|λ_ _ _=>rfl
 have KW:=uO (st:=jG) l60 c60 k60;have Oy:Binds K _ ["self","word","room"] []:=KW.binds (m:=3) t60 rfl rfl λ_ _ _ _ _ _=>fv<|λ_ _ _=>⟨_,rfl,rfl⟩
 have LW:=uO (st:=jH) l61 c61 k61;have Py:Binds K _ ["self","word","room"] []:=LW.binds (m:=3) t61 rfl rfl λ_ _ _ _ _ _=>fv<|λ_ _ _=>⟨_,rfl,rfl⟩
 have tJ:=uO (st:=kO) l66 c66 k66;have Qy:Binds K _ ["one","other","wanted","left","right"] []:=tJ.binds (m:=5) t66 rfl rfl λ_ _ _ _ _ _=>fE<|λ_ _ _ _ _=>⟨_,rfl,rfl⟩
 have AJ:=uO (st:=jJ) l67 c67 k67;have Ry:Binds K _ ["one","other","left","right"] []:=AJ.binds (m:=4) t67 rfl rfl λ_ _ _ _ _ _=>dE<|λ_ _ _ _=>⟨_,rfl,rfl⟩
 have MW:=uO (st:=Yo) l73 c73 k73;have b73:=MW.Yh (ps:=["_law_script"]) λ_ _ _ _ _ _=>SN<|λ_=>rfl
 have Eg:=Hj X G Z;have Ij:=Hj X G N;have lO:=Hj X G r;have HP:=Hj X G Y;have bQ:=Hj X G p;have u:=Hj X G W;have J:=Hj X G M;have nG:=Hj X G V;have Mi:=Hj X G U;have L:=Hj X G I;have Oh:=Hj X G T;have jd:=Hj X G A;have Ay:=Hj X G S;have Pe:=Hj X G H;have zL:=Hj X G R;have Ub:=mg_of X G z;have Kd:=mg_of X G k;have Se:=mg_of X G q;have ie:PF K Jc [false,true,true,false]:=⟨_,_,_,t,rfl,rfl,(show 4<=sizeLine by decide),.cons rfl<|.cons rfl<|.cons rfl<|.cons rfl<|.nil⟩
 have iT:=mg_of X G a;refine⟨fnOf "law" "law" (eU Yo) (dH Yo) (bM Yo) .none nB Qz AB My Ft Pz,λs v=>.of_eq rfl,λbase _ _=>?_⟩
 have C:Ct l.prog w K mg base h:=⟨X,G⟩;have jN:=D1.ok C<|ż u;have Bc:=D2.ok C Ž;have gc:=D3.ok C ı;have uf:=D4.ok C<|ž nG Mi;have uR:=D5.ok C<|ŕ jN Bc gc uf L;have uP:=D6.ok C Ŗ;have Fd:=D7.ok C<|ŗ u L;have Ue:=D8.ok C<|Ř u Bc gc L uP Fd;have dD:=D9.ok C aXf;have F:=Ξ.ok C<|aXg L dD;have nZ:=Ο.ok C<|ð F b Q jd Oh;have dY:=Ρ.ok C bD5;have jU:=Τ.ok C<|ř dD F dY;have Ve:=Υ.ok C<|Ś u F;have iY:=Φ.ok C<|Ĳ dD F dY jU Ve;have dZ:=Χ.ok C<|ś b iY E;have Lc:=Ψ.ok C<|aXh nG F b Q;have Md:=Ω.XU C<|č F b Q dY dZ Lc;have fZ:=ϊ.ok C<|ñ nZ Md;have lM:=ϋ.ok C<|ſ L b dY O J;have md:=ό.ok C<|aUz b jU E lM;have rR:=ύ.ok C<|ĳ F b Q dY Lc;have Bf:=ώ.ok C<|bD6 Lc;have we:=Ϗ.ok C<|Ĵ dZ rR Bf;have qG:=ϐ.ok C<|Ŝ fZ md we;have fC:=ϴ.ok C Nc<|ĵ qG;have nH:=ϑ.ok C bI2;have Nd:=ϒ.ok C<|aXi L dD b O;have Nb:=ϵ.ok C Nc<|Å fZ md nH Nd;have jK:=ϓ.ok C<|Ú u J bQ;have oN:=ϔ.ok C<|aXj bQ HP Ij;have oO:=ϕ.ok C<|aXk oN;have ah:=ϖ.ok C<|bI3 u oO Eg;have wU:=ϗ.ok C<|aV0 u Eg jK ah Se Kd;have vf:=Ϙ.ok C<|aV1 u J bQ oN Eg;have Lf:=É (P:=l.prog) (w:=w) (mg:=mg) (base:=base) u b Q E O J wU vf Ka HW;have Fc:=Kf.of b ⟨y,a36,e36,x⟩ Lf b36<|mg_of X G b.ns;have uB:=Ϸ.ok C Et<|XX b E fC Nb Fc;have Fb:=Ϲ.ok C Nc<|XX b E fC Nb Fc;have qI:=ϙ.ok C<|Ď fC uB Fb Nc OC Cf;have gM:=Ϛ.ok C<|aV2 u zL Ub;have oE:=ϛ.XU C<|ò L b E O J gM;have lN:=Ϝ.ok C<|aV3 a iT ie;have qH:=ϝ.ok C<|ď jd Oh lN P cB Qa;have ye:=Ϟ.ok C<|Ķ dY J zL P cB Qa lO;have Vc:=ϟ.ok C<|Û nG F P cB Qa;have gZ:=Ϡ.ok C<|Đ iY P qH ye Vc Lb;have oA:=ϡ.ok C<|ó b Ka;have Ld:=Ϣ.ok C<|đ L b E O J zL;have Ya:=ϸ.ok C b<|Ã b O oO;have xg:=Ü (P:=l.prog) (w:=w) (mg:=mg) (base:=base) b Q jd J gM P cB Qa Lb oA Ld Ya Ib fc IW;have dg:=Kf.of P ⟨D,a49,e49,B⟩ xg b49<|mg_of X G P.ns;have Kj:=aXl (P:=l.prog) (w:=w) (mg:=mg) (base:=base) a iT gZ dg eJ;have WJ:=Ea.of Kj (mg_of X G a50) eJ.kp Ny vR;have ue:=ϣ.ok C<|ķ u lO WJ;have ve:=Ϥ.ok C<|ĸ u oE ue;have Nf:=ϥ.ok C<|aXm J;have IK:=Ϧ.ok C<|bD7 dZ;have ag:=ϧ.ok C<|bI4 dD F b E gM;have kf:=Á (P:=l.prog) (w:=w) (mg:=mg) (base:=base) b E Ub JW;have Ua:Zc l.prog w K mg base "Machine" "rooms_along" 1 3 [] cH:=Zc.of (jf:=[]) b ⟨a56,e56,k56⟩ kf b56 (.nil) λ_=>.nil
 have XJ:=Ϩ.ok C<|aXn dD F b E Ub IK ag Ua;have zM:=ϩ.ok C<|bD8 bQ Ub Ay;have uQ:=Ϫ.ok C<|ŝ u bQ zM Pe;have Xg:=Ē (P:=l.prog) (w:=w) (mg:=mg) (base:=base) u b Ka Ya Ua uQ KW;have mC:Ac l.prog w K mg base "Machine" "walk" 4 3 [] lH:=Ac.of (jf:=[]) b ⟨a60,e60,k60⟩ Xg Oy (.nil) λ_=>.nil
 have Wg:=ē (P:=l.prog) (w:=w) (mg:=mg) (base:=base) nG b Q mC LW;have Xc:Ac l.prog w K mg base "Machine" "lets" 5 3 [] dN:=Ac.of (jf:=[]) b ⟨a61,e61,k61⟩ Wg Py (.nil) λ_=>.nil
 have We:=ϫ.ok C<|Ş F dZ lM XJ Xc;have gB:=Ϭ.ok C<|ô u b E nH Nd Fc qI ve Nf We;have rT:=ϭ.ok C<|Ĺ u nG J zL Ub lN P cB Qa Lb;have Wc:=Ϯ.ok C<|Ý u;have Dh:=ĺ (P:=l.prog) (w:=w) (mg:=mg) (base:=base) Mi F nH P fc gZ dg rT Wc tJ;have rW:=Ea.of Dh (mg_of X G a66) tJ.kp Qy vR;have Yg:=Ĕ (P:=l.prog) (w:=w) (mg:=mg) (base:=base) a iT rW AJ;have Cc:=Ea.of Yg (mg_of X G a67) AJ.kp Ry vR;have Tc:=ϯ.XU C<|ĕ L b O gB Cc;have qJ:=ϰ.ok C<|Ė u bQ Ay Pe;have fP:=ϱ.ok C ş;have je:=ϲ.ok C<|aV4 nG b Q E O fP;have Te:=ϳ.ok C<|Š b E Ka fP qJ je;have Vz:=bTt (P:=l.prog) (w:=w) (mg:=mg) (base:=base) u jN L b O J bQ Fc Pe gB Cc uR Ue Tc Te MW;exact Vz
theorem bM8{q:Program} {K:Params->Frag} {l:bv} {t:Nat} {r:PySem.W.RowW} {d:DefRec} {k:List (Str×Expr)} {run:Value->cr->Sem Value} (e:∀P,l=(K P).map (·.1)) (h:WalkO q loose XP (InK K) r d k run):PySem.W.WalkX q loose XP (PySem.W.X.obsZ l) (PySem.W.X.valZ K n t) r d k run:=
 λw J I p s G y a o m H i F kV E D C B A z c b j L x v u g f=>h w J I p s G (PySem.W.InK.keeps w _ _ (PySem.W.X.z_facts e y).2.1 L.keeps) a o m H i F kV E D C B A z c b j x v u g f
theorem walk{l:OpenLaw}{q:Program} {i:KB} {d:DefRec} {K:Params->Frag} (k:l.most=some 63) (j:d.params.defaults=[])
  (n:∀(w:World)(h:Heap),i w h->(K w.params).In h)
  (b:∀c:lv,c.length<=63->Nv [.lst<|c.map D.int]=.ok (.bl true))
  (F:∀(w:World)(mg:im)(g:Addr)(h:Heap),(K w.params).In h->h.Ns mainGlobals mg->mg d.name=some (.ref g)->
   ∃e:FuncData,(∀(s:Shared)(u:Value),BindsTo s e ⟨[u],[]⟩ [("_law_script",u)])/\∀base:Heap,(K w.params).In base->base.Ns mainGlobals mg->Ca l.prog w (K w.params) mg base Ab 14 g e ["_law_script"] (Tb (K w.params) 1 Nv)) :
  WalkO q loose XP i l.row.toRowW d [] (λf vs=>PySem.call f vs):=
 L2.aq (n:=63) (k:=14) (x:="_law_script") (CX:=λ_=>Ab) (sp:=λw=>Tb (K w.params) 1 Nv) k (by decide) j ⟨rfl,by decide,by decide⟩ n F (λ_ _ a c m _ o=>bPm o<|b c m) λ_ _ _ _ _ z=>z
end Pu
set_option genInjectivity false
set_option genSizeOf false
structure PySem.W.Fast where (tw4700585185345927174 tw14985266246790733797 tw11259186577359011370 tw10994112385441054441 tw18079649704754436184 tw16018993072631163891 tw10906740423979310393 tw16567545032318856334 tw1306357471562266964 tw4018426103362252255 tw11801248613606686783 tw8333498146984073362 tw9185577209650883633 tw15264633534789603572 tw2102361202561597624 tw14096510258890545762 tw16818150825987961636 tw17732972046529269171 tw9214917076210485321 tw13316593708885396188 tw7314567237653446674 tw10867965961372148651 tw15185930660485740612 tw15284803165477190415 tw4184815901744050410 tw3849382719399951761 tw3242464737463656110 tw10202599982302196261 tw11058929071697869865 tw9027900073665968403 tw3407814322354854009 tw11230685858977362048 tw11293141361962810108 tw1871169260615628637 tw8089861006710292 tw13957743742118969937 tw15331105190633114341 tw966146951996661117 tw4311502560561760132 tw9760004695948538794 tw10149178923333422125 tw2138797399740316867 tw594471455607732532 tw15166547626270867181 tw15358492792172980695 tw7392330824942409955 tw13619623618140994522 tw3153399437839823295 tw8371491196651760840 tw4761589153997753523 tw2944513085414316309 tw10189624541351878824 tw5727057315153983699 tw10314022806282216859 tw12387290335889098869 tw18258958667050874995 tw15390496052732377462 tw6105179168068726935 tw12866478629915443067 tw2194937758901241845 tw1620234860186833976 tw4371322631239744769 tw2854854066390341895 tw12367990276502399577 tw17279167109077977015 tw4861520244105756771 tw2356723260132658861 tw15563703365324196279 tw17333250598322932412 tw14119042722429783055 tw7791894430519193928 tw15173940166859048307 tw2507659469520815528 tw12534036564883470155 tw12790895727165273494 tw17016984712938997261 tw2441612263522933652 tw989452658711988638 tw13283141037754995165 tw17814509368540697442 tw7734485542512603226 tw17035607124335463242 tw16521173794789939537 tw12283263102003199766 tw1024110610993467634 tw9091622136798854753 tw10499019737152262146 tw3490501915938873885 tw9850943645103203133 tw1615085262527146677 tw578959363612893311 tw7975375207861749339 tw14511238578020347426 tw17280013765683562448 tw10758954665776250081 tw16434219028306472686 tw10475208501117540857 tw1838822977961693867 tw3865132457811255022 tw7914893017493875382 tw9657820347858021544 tw3942043855260914698 tw12292394633793879720 tw2502688795927677611 tw15612214120851910375 tw5121755699490872504 tw12626713750667878393 tw12184359279122234464 tw14795074803779604260 tw17369529021628723811 tw12403887215040160089 tw467661404526711477 tw15227803886368801475 tw11133766538562624297 tw16789539452549536907 tw18079708727423596895 tw17027038317793328093 tw3253645974394177026 tw18394984107330008865 tw13080190574269609588 tw13818015128803245558 tw8828426071836264684 tw6226536594381129056 tw4292643704898145325 tw15859834823879540376 tw9683785154576441452 tw15445392781503709362 tw9427385436956647055 tw12598483389233293231 tw5474521541628258896 tw11997152907770172466 tw684857404337769562 tw12617948411413265188 tw9577747952325609205 tw15275356496277672855 tw17959033352549203195 tw5396394500306269627 tw12269546131752173187 tw16226326227414175071 tw15379176808065015100 tw2588491841591237738 tw5684302274980052382 tw1612429256500682030 tw18244070170608937244 tw9783167539145364474 tw9004344023877625316 tw15023166488624925783 tw12438715718028967989 tw18431972185812632563 tw17788891942701681838 tw10940558036651994821 tw8605845117913585239 tw7898856684123662886 tw6485921345892574957 tw3305873071193143918 tw16488180780265360695 tw3671025345958575599 tw5184719804241696393 tw17846136608656142722 tw2442673045600658412 tw14657363222523817460 tw12372424360448703843 tw16175964944311014610 tw3641578534850870805 tw6000931075036217346 tw17080055181512310140 tw5752822951281025821 tw16705049103012213738 tw16652428483534741677 tw1568195403624533726 tw12939367023400325887 tw13892747231191771785 tw8571233396603447382 tw485267644722174233 tw1414771411737549684 tw16818807638494166968 tw224637560820518258 tw17125414670165814160 tw13026047806562261927 tw1584317313744331653 tw12581031776459665838 tw11851962452036302717 tw2071903081382345075 tw6362186831084286110 tw2896997077445755902 tw4504057057926051355 tw12963326704360900984 tw3090272633532461839 tw8314832723298842309 tw11794575038728072552 tw16428251861397632455 tw17672131522801913329 tw2557212117477002566 tw9096491401745498982 tw10928201170837298650 tw2288400220724042757 tw13720389522422255918 tw9776375607357682529 tw7086100204708563331 tw14806693979422588595 tw2743960365911569849 tw11997428957825459425 tw16139352126380292466 tw10161965385324900357 tw994974031418225824 tw10755833647197644319 tw15570331443856484284 tw8740302697027240096 tw12951290731178928314 tw11296105619725645815 tw5352846211674368036 tw16695363082610866784 tw2926790304373842168 tw10703988986737381345 tw16890599700825546218 tw9749986944629005227 tw9158035030772229481 tw2739909333741682831 tw4387049217444176624 tw6022628399597130639 tw8092430383752045361 tw3226035579114789999 tw10090822526553383932 tw12514008395447839113 tw3678550099840333842 tw16638022537515665297 tw15147609901328896997 tw9966099345883271174 tw8531497119479488040 tw2471853846952900469 tw11739001070727179910 tw11714577057261184853 tw16979909235733206977 tw1960932681775115702 tw8801258256140785727 tw6646079119727123341 tw6001206364629256938 tw14919660537242828321 tw14459011032854687276 tw13713099330318747209 tw6824499969195277270:Nat)
open PySem PySem.W PyProof.Rows
set_option maxRecDepth 100000 in
set_option maxHeartbeats 0 in
theorem PySem.Challenge.cw_looprank_k62_parted_rooms_holds : PySem.Challenge.rw_looprank_k62_parted_rooms.Holds := by
 w_on;o_law;z_head;(case hw=>w_witness2)
 k_fill
 refine Pu.bM8 (λP=>by kernel_rfl) (Pu.walk (l:=PySem.Challenge.rw_looprank_k62_parted_rooms) rfl rfl (λw h Y=>Y) Pu.law_true ?F)
 case F=>
  intro w mg fa h KX G hmg;refine' Pu.all_mk KX G hmg ⟨?x_Kind,?x1_Kind,?x2_Kind,?x3_Kind,?x4_Kind⟩ ⟨?x_Machine,?x1_Machine,?x2_Machine,?x3_Machine,?x4_Machine⟩ ?x5_Machine ?x6_Machine ⟨?x_Settled,?x1_Settled,?x2_Settled,?x3_Settled,?x4_Settled⟩ ⟨?x5_Settled,?x7_Settled,?x6_Settled⟩ ⟨?x_Sides,?x1_Sides,?x2_Sides,?x3_Sides,?x4_Sides⟩ ?x5_Sides ?x6_Sides ?w_Machine_letters ?w_Machine_many ?w_Machine_ranks ?w_Machine_steps ?w_Sides_fronts ?w_Sides_lefts ?w_Sides_pairs ?w_Sides_rights ?w_Sides_steps ?fv_JUST_ONE (Pu.cR ?a1 ?l1 ?c1 ?k1) (Pu.cR ?a2 ?l2 ?c2 ?k2) (Pu.cR ?a3 ?l3 ?c3 ?k3) (Pu.cR ?a4 ?l4 ?c4 ?k4) (Pu.cR ?a5 ?l5 ?c5 ?k5) (Pu.cR ?a6 ?l6 ?c6 ?k6) (Pu.cR ?a7 ?l7 ?c7 ?k7) (Pu.cR ?a8 ?l8 ?c8 ?k8) (Pu.cR ?a9 ?l9 ?c9 ?k9) (Pu.cR ?a10 ?l10 ?c10 ?k10) (Pu.cR ?a11 ?l11 ?c11 ?k11) (Pu.cR ?a12 ?l12 ?c12 ?k12) (Pu.cR ?a13 ?l13 ?c13 ?k13) (Pu.cR ?a14 ?l14 ?c14 ?k14) (Pu.cR ?a15 ?l15 ?c15 ?k15) (Pu.cR ?a16 ?l16 ?c16 ?k16) (Pu.cR ?a17 ?l17 ?c17 ?k17) (Pu.cR ?a18 ?l18 ?c18 ?k18) (Pu.cR ?a19 ?l19 ?c19 ?k19) (Pu.cR ?a20 ?l20 ?c20 ?k20) (Pu.cR ?a21 ?l21 ?c21 ?k21) (Pu.cR ?a22 ?l22 ?c22 ?k22) (Pu.cR ?a23 ?l23 ?c23 ?k23) (Pu.cR ?a24 ?l24 ?c24 ?k24) (Pu.cR ?a25 ?l25 ?c25 ?k25) (Pu.Ly ?a26 ?e26 ?l26 ?c26 ?k26) (Pu.cR ?a27 ?l27 ?c27 ?k27) (Pu.cR ?a28 ?l28 ?c28 ?k28) (Pu.Ly ?a29 ?e29 ?l29 ?c29 ?k29) (Pu.cR ?a30 ?l30 ?c30 ?k30) (Pu.cR ?a31 ?l31 ?c31 ?k31) (Pu.cR ?a32 ?l32 ?c32 ?k32) (Pu.cR ?a33 ?l33 ?c33 ?k33) (Pu.cR ?a34 ?l34 ?c34 ?k34) (Pu.cR ?a35 ?l35 ?c35 ?k35) ?a36 ?e36 ?l36 ?c36 ?k36 (Pu.Ly ?a37 ?e37 ?l37 ?c37 ?k37) (Pu.cR ?a38 ?l38 ?c38 ?k38) (Pu.cR ?a39 ?l39 ?c39 ?k39) (Pu.cR ?a40 ?l40 ?c40 ?k40) (Pu.cR ?a41 ?l41 ?c41 ?k41) (Pu.cR ?a42 ?l42 ?c42 ?k42) (Pu.cR ?a43 ?l43 ?c43 ?k43) (Pu.cR ?a44 ?l44 ?c44 ?k44) (Pu.cR ?a45 ?l45 ?c45 ?k45) (Pu.cR ?a46 ?l46 ?c46 ?k46) (Pu.cR ?a47 ?l47 ?c47 ?k47) (Pu.Ly ?a48 ?e48 ?l48 ?c48 ?k48) ?a49 ?e49 ?l49 ?c49 ?k49 ?a50 ?l50 ?t50 ?c50 ?k50 (Pu.cR ?a51 ?l51 ?c51 ?k51) (Pu.cR ?a52 ?l52 ?c52 ?k52) (Pu.cR ?a53 ?l53 ?c53 ?k53) (Pu.cR ?a54 ?l54 ?c54 ?k54) (Pu.cR ?a55 ?l55 ?c55 ?k55) ?a56 ?e56 ?l56 ?c56 ?k56 (Pu.cR ?a57 ?l57 ?c57 ?k57) (Pu.cR ?a58 ?l58 ?c58 ?k58) (Pu.cR ?a59 ?l59 ?c59 ?k59) ?a60 ?e60 ?l60 ?t60 ?c60 ?k60 ?a61 ?e61 ?l61 ?t61 ?c61 ?k61 (Pu.cR ?a62 ?l62 ?c62 ?k62) (Pu.cR ?a63 ?l63 ?c63 ?k63) (Pu.cR ?a64 ?l64 ?c64 ?k64) (Pu.cR ?a65 ?l65 ?c65 ?k65) ?a66 ?l66 ?t66 ?c66 ?k66 ?a67 ?l67 ?t67 ?c67 ?k67 (Pu.cR ?a68 ?l68 ?c68 ?k68) (Pu.cR ?a69 ?l69 ?c69 ?k69) (Pu.cR ?a70 ?l70 ?c70 ?k70) (Pu.cR ?a71 ?l71 ?c71 ?k71) (Pu.cR ?a72 ?l72 ?c72 ?k72) ?a73 ?l73 ?c73 ?k73 (Pu.Ly ?aI0 ?eI0 ?lI0 ?cI0 ?kI0) ?v_LETTERS ?v_MOST_LETTERS ?v_MOST_ROOMS ?ub_JUST_ONE ?z_all ?z_bool ?z_enumerate ?z_int ?z_isinstance ?z_len ?z_list ?z_max ?z_min ?z_range ?z_set ?z_sorted ?z_str ?z_tuple ?z_zip
  (case x_Kind|x1_Kind|x2_Kind|x3_Kind|x4_Kind|x_Machine|x1_Machine|x2_Machine|x3_Machine|x4_Machine|x5_Machine|x6_Machine|x_Settled|x1_Settled|x2_Settled|x3_Settled|x4_Settled|x5_Settled|x7_Settled|x6_Settled|x_Sides|x1_Sides|x2_Sides|x3_Sides=>k_is)
  (case x4_Sides|x5_Sides|x6_Sides|w_Machine_letters|w_Machine_many|w_Machine_ranks|w_Machine_steps|w_Sides_fronts|w_Sides_lefts|w_Sides_pairs|w_Sides_rights|w_Sides_steps|fv_JUST_ONE|a1|l1|c1|k1|a2|l2|c2|k2|a3|l3|c3=>k_is)
  (case k3|a4|l4|c4|k4|a5|l5|c5|k5|a6|l6|c6|k6|a7|l7|c7|k7|a8|l8|c8|k8|a9|l9|c9=>k_is)
  (case k9|a10|l10|c10|k10|a11|l11|c11|k11|a12|l12|c12|k12|a13|l13|c13|k13|a14|l14|c14|k14|a15|l15|c15=>k_is)
  (case k15|a16|l16|c16|k16|a17|l17|c17|k17|a18|l18|c18|k18|a19|l19|c19|k19|a20|l20|c20|k20|a21|l21|c21=>k_is)
  (case k21|a22|l22|c22|k22|a23|l23|c23|k23|a24|l24|c24|k24|a25|l25|c25|k25|a26|e26|l26|c26|k26|a27|l27=>k_is)
  (case c27|k27|a28|l28|c28|k28|a29|e29|l29|c29|k29|a30|l30|c30|k30|a31|l31|c31|k31|a32|l32|c32|k32|a33=>k_is)
  (case l33|c33|k33|a34|l34|c34|k34|a35|l35|c35|k35|a36|e36|l36|c36|k36|a37|e37|l37|c37|k37|a38|l38|c38=>k_is)
  (case k38|a39|l39|c39|k39|a40|l40|c40|k40|a41|l41|c41|k41|a42|l42|c42|k42|a43|l43|c43|k43|a44|l44|c44=>k_is)
  (case k44|a45|l45|c45|k45|a46|l46|c46|k46|a47|l47|c47|k47|a48|e48|l48|c48|k48|a49|e49|l49|c49|k49|a50=>k_is)
  (case l50|t50|c50|k50|a51|l51|c51|k51|a52|l52|c52|k52|a53|l53|c53|k53|a54|l54|c54|k54|a55|l55|c55|k55=>k_is)
  (case a56|e56|l56|c56|k56|a57|l57|c57|k57|a58|l58|c58|k58|a59|l59|c59|k59|a60|e60|l60|t60|c60|k60|a61=>k_is)
  (case e61|l61|t61|c61|k61|a62|l62|c62|k62|a63|l63|c63|k63|a64|l64|c64|k64|a65|l65|c65|k65|a66|l66|t66=>k_is)
  (case c66|k66|a67|l67|t67|c67|k67|a68|l68|c68|k68|a69|l69|c69|k69|a70|l70|c70|k70|a71|l71|c71|k71|a72=>k_is)
  (case l72|c72|k72|a73|l73|c73|k73|aI0|eI0|lI0|cI0|kI0|v_LETTERS|v_MOST_LETTERS|v_MOST_ROOMS|ub_JUST_ONE|z_all|z_bool|z_enumerate|z_int|z_isinstance|z_len|z_list|z_max=>k_is)
  (case z_min|z_range|z_set|z_sorted|z_str|z_tuple|z_zip=>k_is)
