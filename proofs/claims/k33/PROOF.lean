import PyProof.Rows.All
import Wide.All
import OpenK.AllK
import Wide.FinOn
import Lean
import PyProof.EqAt
import PyProof.EqKinds
import PyProof.TupleCall
import PyProof.P3Eq
import PyProof.NeKinds
import PyProof.NsDelKeeps
import PyProof.RulesAs
import PyProof.ExcAttrAll.ValueError
import KE.KSortKey
import PyProof.DictUpdate
import KE.KDictLaws
import PySem.Challenge.RW_looprank_k33_whole_lowest_ranks
set_option compiler.extract_closed false
set_option bootstrap.genMatcherCode false
noncomputable section
set_option Elab.async false
set_option linter.all false
set_option maxRecDepth 100000
def Ab:=@List.mem_cons_of_mem
def Oa:=@PySem.wpAny_bind
def Lc:=@PySem.Heap.get?_push_of_some
def zb:=@List.mem_cons_self
def md:=@List.getElem?_eq_getElem
def pe:=@List.getElem?_eq_some_iff
def Pb:=@List.mem_cons
def Cb:=@Nat.le_refl
def se:=@List.mem_append_right
def jd:=@List.getElem?_set
def Cc:=@decide_eq_true
def Qc:=@decide_eq_false
def Ea:=@if_neg
def Ke:=@List.mem_append_left
def Ka:=@if_pos
def Fe:=@List.mem_singleton
def Ve:=@PySem.Heap.get?_push_size
def lc:=@List.length_map
def We:=@Nat.lt_of_lt_of_le
def Uc:=@PySem.Heap.lt_size
def Vc:=@Nat.le_trans
def vc:=@PySem.wpAny_pure
def Zc:=@List.mem_map
def Mb:=@PyProof.Rows.wpS_pure
def cf:=@List.size_toArray
def Te:=@Option.some.inj
def Sb:=@PyProof.Rows.wpS_bind
def df:=@List.mem_filter
def si:=@Classical.byContradiction
def ie:=@List.length_cons
def Ig:=@Array.length_toList
def ef:=@List.length_append
def Ff:=@List.mem_range
def wg:=@List.mem_append
def xi:=@List.mem_of_getElem?
def Xi:=@List.getD_eq_getElem?_getD
def Yk:=@List.getElem?_append_left
def Bf:=@Nat.ne_of_lt
def gi:=@of_decide_eq_true
def ii:=@decide_eq_true_eq
def nh:=@Array.getElem?_toList
def Fh:=@List.getElem_mem
def xk:=@List.mem_iff_getElem?
def Mj:=@PySem.mem_of_lookup
def oh:=@PySem.Heap.size_push
def xg:=@List.map_map
def yk:=@List.map_congr_left
def Pg:=@Nat.lt_irrefl
def Yi:=@List.length_singleton
def Nj:=@List.getElem?_map
def zk:=@Bool.false_ne_true
def Kn:=@List.length_eq_zero_iff
def Ge:=@List.map_cons
def Zi:=@List.map_append
def Lq:=@List.getElem?_append_right
def Hm:=@Nat.exists_eq_add_of_le
def yg:=@List.length_set
def Zk:=@List.append_assoc
def aj:=@List.nodup_cons
def Ln:=@List.drop_eq_getElem_cons
def Gh:=@PyProof.Rows.wpS_forRange
def He:=@Nat.zero_le
def Im:=@List.nodup_append
def Mq:=@PySem.F.plainAttrs_list
def jx:=@List.Nodup.length_le_of_subset
def Mn:=@List.filter_cons_of_pos
def nu:=@Nat.lt_of_add_lt_add_left
def Oj:=@PySem.wpAny_holding
def Hh:=@List.append_nil
def kx:=@PyProof.Rows.callWith_type1
def ou:=@PySem.F.plainAttrs_dict
def yi:=@List.lookup_cons
def Ih:=@beq_iff_eq
def Pj:=@Nat.le_of_lt
def WC:=@PySem.F.slot_tuple_iterator_next
def Nq:=@beq_eq_false_iff_ne
def Oq:=@List.length_pos_iff
def lx:=@List.mem_of_find?_eq_some
def Jm:=@PySem.wpAny_seqItems
def qu:=@PySem.F.slot_dict_get
def zi:=@PySem.wpAny_mono
def Pq:=@List.filter_cons_of_neg
def ip:=@Nat.eq_of_testBit_eq
def su:=@List.mem_iff_getElem
def il:=@Nat.le_add_right
def Qq:=@PySem.wpAny_truthy_bool
def bj:=@PySem.W.mg_none_of
def Ak:=@Int.le_refl
def tu:=@List.filter_eq_self
def ox:=@List.filter_eq_nil_iff
def qx:=@PySem.F.slot_list_clear
def XC:=@Nat.mod_two_eq_zero_or_one
def Sq:=@decide_eq_decide
def uu:=@PySem.tupleKind_room_in1
def wu:=@Nat.lt_of_le_of_ne
def xu:=@PySem.wpAny_setField_rec
def jl:=@PySem.wpAny_field
def YC:=@List.pairwise_iff_getElem
def sx:=@List.pairwise_append
def Jh:=@PyProof.Rows.wpS_mono
def Tq:=@PySem.wpAny_passesOwn
def yu:=@List.take_of_length_le
def Bk:=@PySem.wpAny_rule
def Nn:=@Int.le_trans
def Km:=@PySem.sizeLine_eq
def Lm:=@Bool.and_eq_true
def ZC:=@PySem.wpAny_getItem_str_slice
def eD:=@PySem.wpAny_callSpecial?_slot
def zu:=@List.any_eq_true
def Qg:=@Ne.symm
def sD:=@PySem.Heap.get?_update_other
def xD:=@PySem.Calls.callWith_builtin
def zD:=@PySem.F.entry_dict_get
def wx:=@PySem.wpAny_Call_Name_kw
def AD:=@PySem.Heap.get?_update_self
def qp:=@PySem.call_meetsIn
def Au:=@Int.toNat_of_nonneg
def rp:=@Nat.zero_add
def BD:=@List.cons_lt_cons_iff
def CD:=@List.eq_nil_or_concat
def DD:=@List.concat_eq_append
def ED:=@PySem.F.slot_zip_next
def Uq:=@Nat.lt_succ_self
def xx:=@PySem.wpAny_pyIter_list
def Mm:=@List.foldl_cons
def Nm:=@PyProof.Rows.wpS_modify
def FD:=@Nat.pow_le_pow_right
def VL:=@List.getLast?_eq_getElem?
def Bu:=@Nat.mul_le_mul
def Cu:=@Int.emod_lt_of_pos
def WL:=@Nat.le_of_add_le_add_left
def yx:=@List.mem_reverse
def Ax:=@List.length_filter_le
def Bx:=@List.all_eq_true
def GD:=@List.filterMap_cons
def Du:=@Int.toNat_natCast
def vp:=@PySem.wpAny_letGo
def Vq:=@getElem?_pos
def YL:=@Array.size_setIfInBounds
def V5:=@PySem.F.args_tuple_iterator_next_1
def Eu:=@PySem.wpAny_standAt
def HD:=@PySem.Calls.spliced_cons
def Dx:=@Bool.eq_iff_iff
def W5:=@List.findIdx?_eq_some_iff_getElem
def ZL:=@List.getLast?_cons_cons
def eM:=@decide_eq_false_iff_not
def hM:=@PySem.F.type_list_clear
def kM:=@Nat.add_sub_cancel_left
def X5:=@PySem.F.entry_tuple_iterator_next
def Fu:=@Nat.le_of_not_lt
def Y5:=@List.pairwise_iff_forall_sublist
def Z5:=@List.take_succ_eq_append_getElem
def mM:=@PySem.F.slot_list_append
def sM:=@List.find?_cons_of_neg
def ID:=@List.any_eq_false
def b6:=@List.takeWhile_append_dropWhile
def Wq:=@Int.emod_nonneg
def JD:=@Nat.le_of_succ_le
def KD:=@PySem.wpAny_newObj_type
def Gu:=@List.length_range
def AM:=@List.take_append_drop
def CM:=@List.pairwise_reverse
def d6:=@PySem.AutoSeq1.list_clear_list_0
def LD:=@List.getElem?_toArray
def MD:=@PySem.wpAny_call_entry
def ND:=@PySem.F.plain_max_loop
def DM:=@PySem.Calls.evalArgs_plain
def EM:=@Nat.mul_le_mul_right
def HM:=@PySem.wpAny_updateSeq_pair
def Xq:=@List.any_cons
def Fx:=@List.zip_cons_cons
def i6:=@PySem.F.slot_dict_setdefault
def Yq:=@PySem.call_meets
def Zq:=@List.nil_append
def OD:=@PySem.wpAny_execs_nil
def IM:=@PySem.W.plainGet_of
def Hu:=@List.cons_append
def PD:=@List.find?_some
def QD:=@PySem.PassesOwn.never
def RD:=@PySem.post_val_or_str
def JM:=@Nat.add_le_add_left
def LM:=@PySem.Heap.get?_update_ne
def j6:=@PySem.Calls.Name_function_global
def m6:=@Int.fdiv_eq_ediv_of_nonneg
def n6:=@List.dropWhile_cons_of_pos
def o6:=@List.takeWhile_cons_of_pos
def u6:=@List.perm_ext_iff_of_nodup
def w6:=@Array.perm_iff_toList_perm
def MM:=@Int.natCast_nonneg
def Gx:=@PySem.codeAny_mono
def NM:=@PySem.W.callWith_K
def Hx:=@List.length_nil
def Jx:=@Nat.lt_trans
def Kx:=@List.any_map
def Lx:=@List.pairwise_map
def OM:=@List.map_singleton
def Mx:=@Nat.zero_testBit
def PM:=@Nat.pos_of_ne_zero
def QM:=@List.find?_eq_none
def RM:=@List.getElem?_drop
def TM:=@List.getElem?_take
def A6:=@PySem.F.slot_dict_getitem
def B6:=@List.exists_mem_of_ne_nil
def C6:=@Array.getElem?_eq_getElem
def UM:=@PySem.Calls.spliced_nil
def E6:=@Option.isSome_iff_exists
def VM:=@Option.isSome_map
def WM:=@Nat.lt_trichotomy
def XM:=@List.mem_range'_1
def ar:=@List.nodup_nil
def YM:=@List.reverse_perm
def F6:=@PySem.F.slot_dict_update
def G6:=@PySem.F.slot_dict_values
def J6:=@PySem.F.args_list_append_2
def K6:=@PySem.F.args_dict_get_2
def L6:=@PySem.F.args_dict_get_3
def M6:=@List.getElem?_cons_succ
def SD:=@PySem.wpAny_onRaise
def UD:=@PySem.wpAny_attempt
def N6:=@PySem.F.slot_list_index
def O6:=@PySem.F.slot_dict_items
def Om:=@PyProof.Rows.wpS_get
def VD:=@PyProof.Rows.listUpdate_at
def WD:=@PySem.plainId_quiet
def ZM:=@List.getElem_map
def P6:=@List.getElem?_set_self
def Q6:=@PySem.W.cellsFrom_some
def R6:=@Nat.testBit_lt_two_pow
def S6:=@List.length_pos_of_mem
def T6:=@List.find?_cons_of_pos
def U6:=@List.range_succ_eq_map
def V6:=@PySem.F.entry_zip_next
def W6:=@List.drop_of_length_le
def fN:=@List.of_mem_zip
def kN:=@PySem.wpAny_specialOf
def X6:=@PySem.F.type_dict_get
def Y6:=@Classical.choose_spec
def XD:=@Nat.add_zero
def YD:=@Nat.sub_self
def nN:=@List.range_succ
def sN:=@Nat.le_antisymm
def tN:=@Nat.not_lt_zero
def Z6:=@List.getElem?_eq_none
def b7:=@List.dropLast_eq_take
def AN:=@PySem.wpAny_updateSeq
def br:=@PyProof.Rows.wpS_lift
def d7:=@List.getElem?_set_ne
def i7:=@List.getLast?_append
def j7:=@List.getElem_toArray
def o7:=@List.mem_of_mem_drop
def t7:=@Array.toList_reverse
def u7:=@List.mem_of_mem_take
def ZD:=@Nat.or_comm
def aE:=@List.drop_length
def BN:=@List.zip_map'
def Iu:=@Nat.lt_or_ge
def Nx:=@List.drop_zero
def bE:=@Nat.testBit_or
def CN:=@Nat.ne_of_gt
def DN:=@Int.zero_add
def EN:=@Nat.succ_mul
def Ox:=@Eq.trans
section
open PySem PySem.Spec PyProof.Rows
abbrev am:=List Nat
abbrev be:=List (List Nat)
abbrev bv:=Value->Shared->Prop
abbrev db:=List Addr
abbrev dL:=Array Keyed
abbrev f8:=List (Addr×Obj)
abbrev jp:=List Value
abbrev kt:=Str->Option Value
abbrev lf:=List (Nat×List Nat)
abbrev lv:=List Int
abbrev ol:=Nat->Nat
abbrev pi:=Option Addr
abbrev pp:=Array (Option Value)
abbrev sw:=Nat×List Nat
abbrev sB:=List Str
abbrev sK:=Nat->Bool
abbrev tz:=List Keyed
abbrev ut:=Keyed->Int
abbrev u8:=Shared->Prop
abbrev v4:=List Env
abbrev wf:=List (Str×Addr)
abbrev wp:=List String
abbrev wv:=List (Str×Value)
abbrev wE:=Unit->Shared->Prop
abbrev wP:=Option Int
abbrev wS:=Option Nat
abbrev xL:=Array Value
abbrev zn:=Nat->Heap->Prop
abbrev At:=Nat->Nat->Prop
abbrev AC:=SortSt->Prop
abbrev AT:=Option Bool->SortSt->Prop
abbrev Db:=Array Keyed->SortSt->Prop
abbrev Fa:=Keyed->Prop
abbrev Gc:=Option (Option Nat)×Nat
abbrev Go:=Nat->Prop
abbrev GM:=List Bool
abbrev GT:=Nat->List Nat
abbrev Ix:=Bool->SortSt->Prop
abbrev IN:=Bool->Shared->Prop
abbrev IR:=World->Heap->Prop
end
open PySem.Str(ofString)
namespace L2
open PySem PySem.Spec PyProof.Rows
abbrev Key:=Sum Int Str
noncomputable def vq:Key->Value->Bool
 |.inl k,v=>Value.isInt k v
 |.inr x,v=>Value.isStrOf x v
noncomputable def bRq(w:World):Key->Int
 |.inl k=>hashInt k
 |.inr x=>hashStr w x
abbrev _root_.wT:=List (Key×Value)
abbrev _root_.Fk:=List Key
def gP:∀{k:Key}{v:Value},vq k v=true->(∃i t,k=Sum.inl i/\v=Value.int i t)\/(∃x t,k=Sum.inr x/\v=Value.str x t)
 |.inl i,v,h=>by
  obtain⟨t,e⟩:=Value.isInt_shape h;exact .inl ⟨i,t,rfl,e⟩
 |.inr x,v,h=>by
  obtain⟨t,e⟩:=Value.isStrOf_shape h;exact .inr ⟨x,t,rfl,e⟩
def ĝ(i:Int)(t:Tok):vq (.inl i) (.int i t)=true:=by simp[vq,Value.isInt]
def Ğ(x:Str)(t:Tok):vq (.inr x) (.str x t)=true:=by simp[vq,Value.isStrOf]
def C1(a b:Int):decide ((Sum.inl a:Key)=Sum.inl b)=(a==b):=by
 by_cases e:a=b
 .subst e;simp
 rw[Qc<|λq=>e<|Sum.inl.inj q]
 exact(Nq.mpr e).symm
def E1(a b:Str):decide ((Sum.inr a:Key)=Sum.inr b)=decide (a=b):=by
 by_cases e:a=b
 .simp
 rw[Qc<|λq=>e<|Sum.inr.inj q,Qc e]
def F1(a:Int)(b:Str):decide ((Sum.inl a:Key)=Sum.inr b)=false:=Qc (λq=>nomatch q)
def G1(a:Str)(b:Int):decide ((Sum.inr a:Key)=Sum.inl b)=false:=Qc (λq=>nomatch q)
def gH(prog:Program)(w:World):PySem.KeyKind prog w Key where
 is:=vq
 hash:=bRq w
 inj:=λv a b g d=>by
  rcases gP g with ⟨i,t,rfl,rfl⟩|⟨x,t,rfl,rfl⟩
  .rcases gP d with ⟨j,u,rfl,e⟩|⟨y,u,rfl,e⟩
   .injection e with e1 _;rw[e1]
   .exact nomatch e
  .rcases gP d with ⟨j,u,rfl,e⟩|⟨y,u,rfl,e⟩
   .exact nomatch e
   .injection e with e1 _;rw[e1]
 byValue:=λk v h=>by
  rcases gP h with ⟨i,t,rfl,rfl⟩|⟨x,t,rfl,rfl⟩ <;> rfl
 pyHash:=λc h=>by
  rcases gP c with ⟨i,t,rfl,rfl⟩|⟨x,t,rfl,rfl⟩
  .exact wpAny_pyHash_int h
  .exact wpAny_pyHash_str h
 eqBool:=λf c h=>by
  rcases gP f with ⟨i,t,rfl,rfl⟩|⟨x,t,rfl,rfl⟩
  .rcases gP c with ⟨j,u,rfl,rfl⟩|⟨y,u,rfl,rfl⟩
   .rw[C1]at h;exact wpAny_eqBool_int h
   .rw[F1]at h;exact SeqAt.EqAt.int_str i t y u _ _ _ _ h
  .rcases gP c with ⟨j,u,rfl,rfl⟩|⟨y,u,rfl,rfl⟩
   .rw[G1]at h;exact SeqAt.EqAt.str_int x t j u _ _ _ _ h
   .rw[E1]at h;exact wpAny_eqBool_str h
 «strs» := λk x t v h=>by
  rcases gP h with ⟨i,u,rfl,e⟩|⟨y,u,rfl,e⟩
  .exact nomatch e
  .injection e with e1 _
   subst e1;cases v<;>rfl
def ϰ(prog:Program)(w:World)(i:Int)(t:Tok):(gH prog w).is (.inl i) (.int i t)=true:=ĝ i t
def ϱ(prog:Program)(w:World)(x:Str)(t:Tok):(gH prog w).is (.inr x) (.str x t)=true:=Ğ x t
inductive V where
 |Bb|bl (b:Bool)|int (i:Int)|str (x:Str)|cE (b:Array UInt8)|Lu (b:UInt64)|ref (a:Addr)|ty (n:String)
 deriving DecidableEq
abbrev _root_.ls:=List (Key×V)
abbrev _root_.nw:=List V
abbrev _root_.wn:=List (Str×V)
abbrev _root_.FB:=List (List Key×V)
def RelV:V->Value->Prop
 |.Bb,u=>u=Value.none
 |.bl b,u=>u=Value.bool b
 |.int i,u=>∃t,u=Value.int i t
 |.str x,u=>∃t,u=Value.str x t
 |.cE b,u=>∃t,u=Value.bytes b t
 |.Lu b,u=>∃t,u=Value.float b t
 |.ref a,u=>u=Value.ref a
 |.ty n,u=>u=Value.type n
abbrev Ha:List V->List Value->Prop:=Paired RelV
theorem Ha.length(r:Ha xs us):xs.length=us.length:=Paired.length r
theorem Ha.get:∀{xs:nw}{a:jp}{i:Nat}{x:V},Ha xs a->xs[i]?=some x->∃u,a[i]?=some u/\RelV x u
 |_,_,_,_,.nil,e=>by simp at e
 |_,_,0,_,.cons r _,e=>by simp at e;subst e;exact⟨_,rfl,r⟩
 |_,_,i+1,x,.cons _ t,e=>by
  obtain⟨u,c,b⟩:=Ha.get t (by simpa using e)
  exact⟨u,by simpa using c,b⟩
theorem Ha.set(r:RelV x u):∀{xs:nw}{a:jp}(i:Nat),Ha xs a->Ha (xs.set i x) (a.set i u)
 |_,_,_,.nil=>.nil
 |_,_,0,.cons _ t=>.cons r t
 |_,_,i+1,.cons q t=>.cons q<|Ha.set r i t
theorem Ha.append:∀{xs ys:nw}{b a:jp},Ha xs b->Ha ys a->Ha (xs++ys) (b++a)
 |_,_,_,_,.nil,s=>s
 |_,_,_,_,.cons r t,s=>.cons r<|Ha.append t s
theorem Ha.take:∀{xs:nw}{a:jp}(n:Nat),Ha xs a->Ha (xs.take n) (a.take n)
 |_,_,0,_=>.nil
 |_,_,_+1,.nil=>.nil
 |_,_,n+1,.cons r t=>.cons r<|Ha.take n t
theorem Ha.drop:∀{xs:nw}{a:jp}(n:Nat),Ha xs a->Ha (xs.drop n) (a.drop n)
 |_,_,0,r=>r
 |_,_,_+1,.nil=>.nil
 |_,_,n+1,.cons _ t=>Ha.drop n t
def lh:Option V->Option Value->Prop
 |some v,some u=>RelV v u
 |none,none=>True
 |_,_=>False
def KV{a:Type}:List (a×V)->List (a×Value)->Prop:=Paired λ(p:a×V)(q:a×Value)=>p.1=q.1/\RelV p.2 q.2
noncomputable def kV:Key->V
 |.inl i=>.int i
 |.inr x=>.str x
inductive HO where
 |lst (xs:nw)
 |tup (xs:nw)
 |dK (ka:ls)|dT (ka:FB)
 |set (S:Int->Bool) (n:Nat)
 |ins (C dx:Addr) (fs:wn)
 |own (x:Addr)
 |xd (fs:wn)
 |met (f x:Addr)
 |Cs (lo hi:Int)
 |Mf (o:Obj) (u:HO)
 |uo (ps:xL)
 |ext (φ:Heap->Prop)
abbrev Hp:=Addr->Option HO
abbrev _root_.v6:=Hp->Prop
abbrev _root_.Do:=Hp->List V->Prop
abbrev _root_.GE:=List V->Hp->Prop
abbrev _root_.KB:=Bool->Hp->Prop
def Ua(H:Hp)(a:Addr)(o:HO):Hp:=λb=>if b=a then some o else H b
def bG:Ua H a o a=some o:=by unfold Ua;rw[Ka rfl]
def bA{a b:Addr}(h:b≠a):Ua H a o b=H b:=by unfold Ua;rw[Ea h]
def bG4:Ua (Ua H a o) a u=Ua H a u:=by
 funext b;unfold Ua;split<;>rfl
def bOf{H:Hp}(h:H a=some o)(c:H b=some u)(d:o≠u):a≠b:=by
 intro e;subst e;rw[h]at c;exact d<|Te c
def aP{H:Hp}(h:H a=some o)(c:H b=none):a≠b:=by
 intro e;subst e;rw[h]at c;cases c
section
variable(P:Program)(w:World)
def oW(H:Hp)(h:Heap)(a:Addr):HO->Prop
 |.lst b=>b.length<=sizeLine/\∃(e:jp)(n:Nat),Ha b e/\h.get? a=some {cls:=.type "list",data:=.seq e.toArray n}
 |.tup b=>b.length<=sizeLine/\∃e:jp,Ha b e/\IsTup h a e.toArray
 |.dK d=>d.length<=sizeLine/\(a==sysModules)=false/\∃j,KV d j/\h.DictOf (gH P w) a j
 |.dT d=>d.length<=sizeLine/\(a==sysModules)=false/\∃b:List (List Key×Addr×Value),
   Paired (λ(p:List Key×V)(q:List Key×Addr×Value)=>p.1=q.1/\H q.2.1=some (.tup<|p.1.map kV)/\RelV p.2 q.2.2) d b/\
   ∃o m y,h.get? a=some o/\o.ExactDict/\o.data=.dict m y/\m.toList=b.map (entryOfKey<|tupleKind<|gH P w)/\(b.map (·.1)).Nodup
 |.set S n=>h.SetOf (intKind P w) a S n
 |.ins C g fs=>H g=some (.own a)/\fs.length<=1000/\g≠a/\h.get? a=some (PySem.W.instObj C g)/\
   ∃c,h.Ns1 g c/\(∀f,lh (fs.lookup f)<|c f)/\PySem.Within c (fs.map (·.1))
 |.own _=>∃o,h.get? a=some o
 |.xd fs=>∃c,h.Ns1 a c/\∀f,lh (fs.lookup f)<|c f
 |.Cs lo s=>∃t u v,h.get? a=some {cls:=.type "range",data:=.fields #[.int lo t,.int s u,.int 1 v]}
 |.Mf o u=>h.get? a=some o/\oW H h a u
 |.uo r=>h.get? a=some {cls:=.none,data:=.fields r}
 |.met f x=>h.get? a=some (PySem.W.methodObj (.ref f)<|.ref x)
 |.ext i=>i h/\(∃o,h.get? a=some o)/\∀l k:Heap,i l->(∀o,l.get? a=some o->k.get? a=some o)->i k
def Je(H:Hp)(h:Heap):Prop:=∀a o,H a=some o->oW P w H h a o
end
section
variable{P:Program}{w:World}{H H':Hp}{h h':Heap}{a:Addr}{o:HO}
theorem oW.lt(x:oW P w H h a o):a<h.objs.size:=by
 cases o with
 |lst b=>obtain⟨_,_,_,_,e⟩:=x;exact Uc e
 |tup b=>obtain⟨_,_,_,p⟩:=x;exact p.lt
 |dK c=>obtain⟨_,_,_,_,o,_,_,e,_⟩:=x;exact Uc e
 |dT c=>obtain⟨_,_,_,_,o,_,_,e,_⟩:=x;exact Uc e
 |set S n=>obtain⟨o,_,_,_,e,_⟩:=x;exact Uc e
 |ins C k fs=>obtain⟨_,_,_,e,_⟩:=x;exact Uc e
 |own y=>obtain⟨_,e⟩:=x;exact Uc e
 |xd fs=>obtain⟨_,⟨_,_,_,e,_⟩,_⟩:=x;exact Uc e
 |Cs lo j=>obtain⟨_,_,_,e⟩:=x;exact Uc e
 |Mf i u=>obtain⟨e,_⟩:=x;exact Uc e
 |uo g=>exact Uc<|x
 |met f y=>exact Uc<|x
 |ext d=>obtain⟨_,⟨_,e⟩,_⟩:=x;exact Uc e
theorem Paired.Ur{d c:Type}{F G:d->c->Prop}:∀{e:List d}{l₂:List c},Paired F e l₂->(∀a b,F a b->G a b)->Paired G e l₂
 |_,_,.nil,_=>.nil
 |_,_,.cons r t,f=>.cons (f _ _ r)<|Paired.Ur t f
def oW.ug(x:oW P w H h a o)(k:∀b u,(b=a\/H b=some (.own a))->h.get? b=some u->h'.get? b=some u)
  (G:∀b,H b=some (.own a)->H' b=some (.own a)) (F:∀b xs,H b=some (.tup xs)->H' b=some (.tup xs)):oW P w H' h' a o:=by
 induction o with
 |lst xs=>obtain⟨z,s,n,r,e⟩:=x;exact⟨z,s,n,r,k _ _ (.inl rfl) e⟩
 |tup xs=>obtain⟨z,s,r,g,e,c⟩:=x;exact⟨z,s,r,g,k _ _ (.inl rfl) e,c⟩
 |dK D=>obtain⟨z,y,A,r,g,i,j,e,c⟩:=x;exact⟨z,y,A,r,g,i,j,k _ _ (.inl rfl) e,c⟩
 |dT D=>
  obtain⟨z,y,xs,r,g,i,j,e,c⟩:=x;exact⟨z,y,xs,Paired.Ur r λp q z=>⟨z.1,F _ _ z.2.1,z.2.2⟩,g,i,j,k _ _ (.inl rfl) e,c⟩
 |set S n=>obtain⟨g,i,j,t,e,c⟩:=x;exact⟨g,i,j,t,k _ _ (.inl rfl) e,c⟩
 |ins C L fs=>
  obtain⟨d,z,B,e,m,⟨l,i,j,e2,c⟩,r⟩:=x;exact⟨G _ d,z,B,k _ _ (.inl rfl) e,m,⟨l,i,j,k _ _ (.inr d) e2,c⟩,r⟩
 |own y=>obtain⟨g,e⟩:=x;exact⟨g,k _ _ (.inl rfl) e⟩
 |xd fs=>obtain⟨m,⟨l,i,j,e,c⟩,r⟩:=x;exact⟨m,⟨l,i,j,k _ _ (.inl rfl) e,c⟩,r⟩
 |Cs lo K=>obtain⟨t,u,v,e⟩:=x;exact⟨t,u,v,k _ _ (.inl rfl) e⟩
 |Mf g u E=>obtain⟨e,q⟩:=x;exact⟨k _ _ (.inl rfl) e,E q⟩
 |uo J=>
  exact k a _ (.inl rfl) x
 |met f y=>
  exact k a _ (.inl rfl) x
 |ext I=>obtain⟨p,⟨o,e⟩,st⟩:=x;exact⟨st _ _ p λo q=>k _ _ (.inl rfl) q,⟨o,k _ _ (.inl rfl) e⟩,st⟩
theorem Je.lt(x:Je P w H h)(e:H a=some o):a<h.objs.size:=(x a o e).lt
def Je.fresh(x:Je P w H h)(e:h.objs.size<=a):H a=none:=by
 cases q:H a with
 |none=>rfl
 |some u=>exact absurd (We (x.lt q) e)<|Pg _
def Je.kept(x:Je P w H h)(k:∀b u,h.get? b=some u->h'.get? b=some u):Je P w H h':=λa o e=>
 (x a o e).ug (λb u _ q=>k b u q) (λ_ q=>q) λ_ _ q=>q
def Je.laid(x:Je P w H h)(k:∀b u,h.get? b=some u->h'.get? b=some u)(i:h.objs.size<=a)(d:oW P w (Ua H a o) h' a o):Je P w (Ua H a o) h':=λb u e=>by
 have f:=x.fresh i
 by_cases g:b=a
 .subst g;rw[bG]at e;cases e;exact d
 rw[bA g]at e;exact(x b u e).ug (λc v _ q=>k c v q) (λc q=>by rwa [bA<|aP q f]) λc j q=>by rwa [bA<|aP q f]
end
def Rd(H:Hp)(a:Addr)(u:HO):Prop:=H a=some u\/∃o,H a=some (.Mf o u)
def Rd.ok(r:Rd H a u)(x:Je P w H h):oW P w H h a u:=by
 rcases r with r|⟨o,r⟩
 .exact x a u r
 obtain⟨_,q⟩:=x a _ r;exact q
def mi:Option HO->Prop
 |some (.lst _)=>True
 |some (.dK _)=>True
 |some (.dT _)=>True
 |some (.set _ _)=>True
 |some (.ins _ _ _)=>True
 |some (.ext _)=>True
 |_=>False
section
variable{P:Program}{w:World}{H:Hp}{h h':Heap}{x e:Addr}{o':HO}
def Je.write(ok:Je P w H h)(l:mi (H x))(he:e=x\/H e=some (.own x))(k:∀b u,b≠e->h.get? b=some u->h'.get? b=some u)(m:∃u,h'.get? e=some u)
  (g:oW P w (Ua H x o') h' x o'):Je P w (Ua H x o') h':=λb u q=>by
 have d:∀c y,H c=some (.own y)->c≠x:=λc y r z=>by subst z;rwa [r]at l
 by_cases f:b=x
 .subst f;rw[bG]at q;cases q;exact g
 rw[bA f]at q
 by_cases a:b=e
 .have j:H b=some (.own x):=by
   rcases he with z|z
   .exact absurd (a.trans z) f
   rwa [a]
  rw[q]at j;cases j;obtain⟨v,n⟩:=m;exact⟨v,by rwa [a]⟩
 refine(ok b u q).ug (λc v hc r=>k c v ?_ r) (λc r=>by rwa [bA<|d c b r]) λc i r=>by rwa [bA<|(λc i r z=>by subst z;rwa [r]at l) c i r]
 rcases hc with rfl|hc
 .exact a
 rintro rfl;rcases he with z|z
 .exact d c b hc z
 rw[hc]at z;cases z;exact f rfl
end
structure Un(fs ex:db)(H H':Hp)(h h':Heap):Prop where
 keep:∀b o,h.get? b=some o->H b=none->b∉fs->b∉ex->h'.get? b=some o
 slot:∀b o,h.get? b=some o->H b=none->b∈fs->b∉ex->∃sl,h'.get? b=some {o with slots:=sl}
 free:∀b o,h.get? b=some o->H b=none->b∉ex->H' b=none
 there:∀b o,h.get? b=some o->b∉ex->∃o',h'.get? b=some o'
 Kf:∀b xs,H b=some (.tup xs)->H' b=some (.tup xs)
 rf:∀b o u,H b=some (.Mf o u)->H' b=some (.Mf o u)
 Jf:∀b ps,H b=some (.uo ps)->∃more,H' b=some (.uo<|ps++more)
section
variable{fs fs' ex ex':db}{H H1 H2:Hp}{h h1 h2 h':Heap}{a x e:Addr}{o:HO}
def Un.any(u:Un fs ex H H1 h h1){b:Addr}{a:Obj}(q:h.get? b=some a)(n:H b=none)(c:b∉ex):∃e,h1.get? b=some {a with slots:=e}:=by
 by_cases d:b∈fs
 .exact u.slot b a q n d c
 exact⟨a.slots,u.keep b a q n d c⟩
def Un.kept(k:∀b u,h.get? b=some u->h'.get? b=some u):Un fs ex H H h h':=
 ⟨λb a q _ _ _=>k b a q,λb a q _ _ _=>⟨a.slots,k b a q⟩,λ_ _ _ n _=>n,λb a q _=>⟨a,k b a q⟩,λ_ _ q=>q,λ_ _ _ q=>q,λ_ c q=>⟨#[],by rw[q];simp⟩⟩
def Un.refl:Un fs ex H H h h:=Un.kept λ_ _ q=>q
def Un.laid(k:∀b u,h.get? b=some u->h'.get? b=some u)(e:h.objs.size<=a)(c:H a=none):Un fs ex H (Ua H a o) h h' where
 keep:=λb u q _ _ _=>k b u q
 slot:=λb u q _ _ _=>⟨u.slots,k b u q⟩
 free:=λb u q n _=>by rwa [bA<|Bf<|We (Uc q) e]
 there:=λb u q _=>⟨u,k b u q⟩
 Kf:=λb d q=>by rwa [bA<|aP q c]
 rf:=λb u d q=>by rwa [bA<|aP q c]
 Jf:=λb f q=>⟨#[],by rw[bA<|aP q c,q];simp⟩
def Un.write(c:mi (H x))(he:e=x\/H e=some (.own x))(k:∀b u,b≠e->h.get? b=some u->h'.get? b=some u)(l:∃u,h'.get? e=some u):Un fs ex H (Ua H x o) h h':=by
 have f:∀b,H b=none->b≠x:=λb n z=>by subst z;rwa [n]at c
 have g:∀b,H b=none->b≠e:=λb n z=>by
  subst z;rcases he with r|r
  .exact f b n r
  rw[n]at r;cases r
 have d:∀b u,H b=some u->¬ mi (some u)->b≠x:=λb u q j z=>by subst z;rw[q]at c;exact j c
 refine⟨λb u q n _ _=>k b u (g b n) q,λb u q n _ _=>⟨u.slots,k b u (g b n) q⟩,λb u q n _=>by rwa [bA<|f b n],λb u q _=>?_,
  λb i q=>by rwa [bA<|d b _ q λz=>z],λb u i q=>by rwa [bA<|d b _ q λz=>z],λb m q=>⟨#[],by rw[bA<|d b _ q λz=>z,q];simp⟩⟩
 by_cases a:b=e
 .subst a;exact l
 exact⟨u,k b u a q⟩
end
noncomputable def trk(h:Heap)(H:Hp):db:=(List.range h.objs.size).filter λa=>(H a).isSome
def gu(h:Heap)(H:Hp):Heap:=PySem.W.hideAll h<|trk h H
def ğ(h:Heap)(H:Hp):(gu h H).objs.size=h.objs.size:=PySem.W.hideAll_size _ _
def ů{h:Heap}{H:Hp}(e:h.get? b=some o)(n:H b=none):(gu h H).get? b=some o:=
 PySem.W.hideAll_get _ e λa=>by
  have q:=(df.mp a).2;rw[n]at q;simp at q
def bG5(e:(gu h H).get? b=some o):h.get? b=some o/\H b=none:=by
 have a:=PySem.W.of_hideAll _ e;refine⟨a,?_⟩;cases q:H b with
 |none=>rfl
 |some x=>
  have z:(gu h H).get? b=none:=PySem.W.hideAll_none _<|df.mpr ⟨Ff.mpr<|Uc a,by simp[q]⟩
  rw[z]at e;cases e
noncomputable def bG6(g h:Heap)(L:Addr):f8:=(List.range h.objs.size).filterMap λa=>if a=L\/(g.get? a).isSome=true then none else (h.get? a).map λo=>(a,o)
noncomputable def rest(g h:Heap)(L d:Addr):f8:=(bG6 g h L).filter λp=>decide (p.1≠d)
structure Mod(K:PySem.W.Frag)(mg:kt)(base:Heap):Prop where
 My:K.In base
 glob:base.Ns mainGlobals mg
 blt:∃mb,base.Ns builtinsNs mb/\∀x:Str,x≠"__name__"->mb x=bootBuiltins x
 nolimit:base.NoLimit
structure Cx where
 prog:Program
 w:World
 K:PySem.W.Frag
 mg:kt
 base:Heap
 A:Around
 N:sB
 Ca:Shared
 Ja:Hp
 env:Env
 outer:v4
 stack:v4
 ex:db
 fn:Str->Bool
 calm:Bool
 pn:f8
 xe:bv
noncomputable def Dk(l:v4):db:=l.filterMap (·.frame)
abbrev Cx.fs(X:Cx):db:=Dk X.outer
def Dg(a:Scope)(x:Str):Prop:=a.names.lookup x=some .local\/a.names.lookup x=some .cell\/a.names.lookup x=some .free
def Loc(a:Scope)(x:Str):Prop:=a.names.lookup x=some .local\/a.names.lookup x=some .cell
def Look(env:Env)(h:Heap)(m:kt)(x:Str)(u:Value):Prop:=
 (env.kindOf x=some .local/\m x=some u)\/((env.kindOf x=some .cell\/env.kindOf x=some .free)/\∃c,env.cells.lookup x=some c/\h.IsCell c (some u))
structure Cx.Ok(X:Cx):Prop where
 mod:Mod X.K X.mg X.base
 kind:X.env.scope.kind=.function
 glob:X.env.globals=mainGlobals
 blt:X.env.builtins=builtinsNs
 above:X.Ca.heap.objs.size<=X.env.locals
 inj:∀x y c,X.env.cells.lookup x=some c->X.env.cells.lookup y=some c->x=y
 has:∀x,(X.env.kindOf x=some .cell\/X.env.kindOf x=some .free)->∃c,X.env.cells.lookup x=some c
 Px:∀x c,X.fn x=true->X.env.cells.lookup x=some c->X.Ca.heap.objs.size<=c
 hd:X.calm=true->X.A.handled=none
 frames:X.A.frames=some X.stack
 fF:X.stack=X.outer\/(X.stack=X.env::X.outer/\X.env.frame=some X.env.locals)
 nE:∀b∈X.ex,b≠X.env.locals/\∀x c,X.env.cells.lookup x=some c->c≠b
 bs:∀b o,X.base.get? b=some o->X.Ca.heap.get? b=some o/\X.Ja b=none
 Pm:X.base.objs.size<=X.Ca.heap.objs.size
 fm:∀b o,X.base.get? b=some o->b∉X.ex
 El:∀b∈X.ex,b∉X.fs
 sf:X.Ca.heap.FunFrames X.base X.outer
 yp:∀b∈X.fs,X.Ja b=none
structure za(X:Cx)(ba:f8)(σ:List (Option V))(H:Hp)(s:Shared):Prop where
 ok:X.Ok
 os:s.os=X.Ca.os
 bare:AllBare s.gens
 base:Un X.fs X.ex X.Ja H X.Ca.heap s.heap
 loc:∃m,s.heap.Ns X.env.locals m/\∀(i:Nat)(x:Str)(v:V),X.N[i]?=some x->σ[i]?=some (some v)->Dg X.env.scope x->∃u,RelV v u/\Look X.env s.heap m x u
 cell:∀x c,X.env.cells.lookup x=some c->∃v,s.heap.IsCell c v
 free:H X.env.locals=none
 Jd:∀x c,X.env.cells.lookup x=some c->H c=none
 pin:∀p∈X.pn++ba,s.heap.get? p.1=some p.2/\H p.1=none/\p.1≠X.env.locals/\p.1∉X.fs/\∀v,p.2.data≠.cell v
 Xa:Je X.prog X.w H s.heap
 len:σ.length=X.N.length
section
variable{X:Cx}{ba:f8}{σ:List (Option V)}{H H':Hp}{s:Shared}{h':Heap}
def Cx.Ok.ZP(ok:X.Ok){b:Addr}{o:Obj}(e:X.base.get? b=some o):b∉X.fs:=λa=>by
 have:=(ok.sf.mem a).1;rw[e]at this;cases this
theorem za.bs(I:za X ba σ H s):∀b o,X.base.get? b=some o->s.heap.get? b=some o/\H b=none:=λb o e=>
 ⟨I.base.keep b o (I.ok.bs b o e).1 (I.ok.bs b o e).2 (I.ok.ZP e)<|I.ok.fm b o e,I.base.free b o (I.ok.bs b o e).1 (I.ok.bs b o e).2<|I.ok.fm b o e⟩
def za.bk(I:za X ba σ H s):∀b o,X.base.get? b=some o->s.heap.get? b=some o:=λb o e=>(I.bs b o e).1
theorem za.mod(I:za X ba σ H s):Mod X.K X.mg X.base:=I.ok.mod
def za.Fg(I:za X ba σ H s):X.K.In s.heap:=I.ok.mod.My.keeps I.bk
theorem za.lt(I:za X ba σ H s):X.env.locals<s.heap.objs.size:=let ⟨_,a,_⟩:=I.loc;a.lt
def za.sz(I:za X ba σ H s):X.Ca.heap.objs.size<=s.heap.objs.size:=Vc I.ok.above<|Pj I.lt
def za.Uy(I:za X ba σ H s){a:Addr}(h:s.heap.objs.size<=a):a∉X.fs:=λc=>by
 obtain⟨_,o,b,_⟩:=I.ok.sf.mem c;exact absurd (We (Uc b)<|Vc I.sz h)<|Pg _
def za.nr(I:za X ba σ H s):∀x c,X.env.cells.lookup x=some c->c≠X.env.locals:=λx c e z=>by
 obtain⟨v,o,b,d⟩:=I.cell x c e;obtain⟨m,⟨g,h,i,f,a,_⟩,_⟩:=I.loc;rw[z,f]at b;cases b;rw[a]at d;cases d
theorem za.sf(I:za X ba σ H s):s.heap.FunFrames X.base X.outer:=by
 have all:∀(l:v4),(∀b∈Dk l,b∈X.fs)->X.Ca.heap.FunFrames X.base l->s.heap.FunFrames X.base l:=by
  intro l
  induction l with
  |nil=>intro _ _;trivial
  |cons p r g=>
   intro f k;obtain⟨m,⟨L,o,a,j,i,n⟩,h⟩:=k;have d:=f L (by unfold Dk;rw[GD,a];exact zb)
   obtain⟨q,e⟩:=I.base.slot L o i (I.ok.yp L d) d λz=>I.ok.El L z d
   exact⟨m,⟨L,_,a,j,e,n⟩,g (λb c=>f b<|by unfold Dk;rw[GD,a];exact Ab _ c) h⟩
 exact all X.outer (λ_ c=>c) I.ok.sf
theorem za.stack(I:za X ba σ H s):s.heap.FunFrames X.base X.stack:=by
 rcases I.ok.fF with e|⟨e,b⟩
 .rw[e];exact I.sf
 rw[e];obtain⟨m,a,_⟩:=I.loc;exact .cons (by rw[I.ok.kind];decide) b a (Heap.get?_none_of_le<|Vc I.ok.Pm I.ok.above) I.sf
def za.Ri(I:za X ba σ H s):∀b∈Dk X.stack,b∈X.env.locals::X.fs:=λb a=>by
 rcases I.ok.fF with e|⟨e,c⟩
 .rw[e]at a;exact Ab _ a
 rw[e]at a;unfold Dk at a
 rwa [GD,c]at a
def za.Bj(I:za X ba σ H s):∀b∈Dk X.stack,H b=none:=λb a=>by
 rcases Pb.mp (I.Ri b a) with e|a
 .rw[e];exact I.free
 obtain⟨_,o,c,_⟩:=I.ok.sf.mem a;exact I.base.free b o c (I.ok.yp b a) λz=>I.ok.El b z a
def za.step{t':Nat}{d':Drawn}{ch:db}(I:za X ba σ H s)
  (y:∀b∈ch,(b∈X.ex\/X.Ca.heap.objs.size<=b)/\b≠X.env.locals/\(∀x c,X.env.cells.lookup x=some c->c≠b)/\∀p∈X.pn++ba,p.1≠b)
  (keep:∀b o,b≠X.env.locals->b∉X.fs->b∉ch->s.heap.get? b=some o->H b=none->h'.get? b=some o)
  (g:∀b o,b≠X.env.locals->b∈X.fs->b∉ch->s.heap.get? b=some o->H b=none->∃C,h'.get? b=some {o with slots:=C}) (free:∀b o,b∉ch->s.heap.get? b=some o->H b=none->H' b=none)
  (h:∀b o,b∉ch->s.heap.get? b=some o->∃o',h'.get? b=some o')
  (S:∀b xs,H b=some (.tup xs)->H' b=some (.tup xs)) (K:∀b o u,H b=some (.Mf o u)->H' b=some (.Mf o u)) (T:∀b ps,H b=some (.uo ps)->∃more,H' b=some (.uo<|ps++more))
  (L:∀m,s.heap.Ns X.env.locals m->h'.Ns X.env.locals m) (R:Je X.prog X.w H' h') (Q:AllBare g') :
  za X ba σ H' {s with heap:=h',gens:=g',drawn:=d',toks:=t'}:=by
 have J:∀b o,X.Ca.heap.get? b=some o->b≠X.env.locals:=λb o e=>Bf<|We (Uc e) I.ok.above
 have A:∀b o,X.Ca.heap.get? b=some o->b∉X.ex->b∉ch:=λb o e a j=>by
  rcases (y b j).1 with z|z
  .exact a z
  exact absurd (We (Uc e) z)<|Pg _
 have f:∀x c,X.env.cells.lookup x=some c->∀v,s.heap.IsCell c v->h'.IsCell c v:=λx c e v ⟨o,t,D⟩=>by
  have w:=λz=>(y c z).2.2.1 x c e rfl
  by_cases G:c∈X.fs
  .obtain⟨C,q⟩:=g c o (I.nr x c e) G w t<|I.Jd x c e;exact⟨_,q,D⟩
  exact⟨o,keep c o (I.nr x c e) G w t<|I.Jd x c e,D⟩
 refine⟨I.ok,I.os,Q,⟨λb o e n j a=>?_,λb o e n j a=>?_,λb o e n a=>?_,λb o e a=>?_,λb xs e=>S b xs<|I.base.Kf b xs e,λb o xs e=>K b o xs<|I.base.rf b o xs e,λb ps e=>?_⟩,?_,λx c e=>?_,?_,λx c e=>?_,λp hp=>?_,R,I.len⟩
 .exact keep b o (J b o e) j (A b o e a) (I.base.keep b o e n j a) (I.base.free b o e n a)
 .obtain⟨C,e1⟩:=I.base.slot b o e n j a;obtain⟨B,e2⟩:=g b _ (J b o e) j (A b o e a) e1<|I.base.free b o e n a;exact⟨B,e2⟩
 .obtain⟨o',e1⟩:=I.base.there b o e a;exact free b o' (A b o e a) e1<|I.base.free b o e n a
 .obtain⟨o',e1⟩:=I.base.there b o e a;exact h b o' (A b o e a) e1
 .obtain⟨N,e1⟩:=I.base.Jf b ps e;obtain⟨M,e2⟩:=T b _ e1;exact⟨N++M,by rw[e2,Array.append_assoc]⟩
 .obtain⟨m,O,P⟩:=I.loc;refine⟨m,L m O,λi x v e1 e2 e3=>?_⟩
  obtain⟨u,r,l⟩:=P i x v e1 e2 e3;refine⟨u,r,?_⟩;rcases l with l|⟨k,c,e,z⟩
  .exact .inl l
  exact .inr ⟨k,c,e,f x c e _ z⟩
 .obtain⟨v,z⟩:=I.cell x c e;exact⟨v,f x c e v z⟩
 .obtain⟨m,⟨o,_,_,t,_⟩,_⟩:=I.loc;exact free _ o (λz=>(y _ z).2.1 rfl) t I.free
 .obtain⟨v,o,t,D⟩:=I.cell x c e;exact free c o (λz=>(y c z).2.2.1 x c e rfl) t<|I.Jd x c e
 obtain⟨e,n,F,E,d⟩:=I.pin p hp;have w:=λz=>(y p.1 z).2.2.2 p hp rfl
 exact⟨keep p.1 p.2 F E w e n,free p.1 p.2 w e n,F,E,d⟩
def za.un{t':Nat}(I:za X ba σ H s)(u:Un X.fs [] H H' s.heap h')(i:Je X.prog X.w H' h'):za X ba σ H' {s with heap:=h',toks:=t'}:=by
 obtain⟨m,⟨o,t,v,c,r⟩,_⟩:=id I.loc;obtain⟨l,h⟩:=u.any c I.free (by simp)
 exact I.step (ch:=[]) (λ_ z=>nomatch z) (λb o _ a _ e n=>u.keep b o e n a<|by simp) (λb o _ a _ e n=>u.slot b o e n a<|by simp) (λb o _ e n=>u.free b o e n<|by simp) (λb o _ e=>u.there b o e<|by simp) u.Kf u.rf u.Jf (λq g=>by
  obtain⟨p,j,k,d,f⟩:=g;rw[c]at d;cases d;exact⟨_,j,k,h,f⟩) i I.bare
def za.call{t':Nat}{d':Drawn}{ch:db}(I:za X ba σ H s)(u:Un (Dk X.stack) ch H H' s.heap h')(q:Je X.prog X.w H' h')(k:AllBare g')
  (h:∀b∈ch,(b∈X.ex\/X.Ca.heap.objs.size<=b)/\b≠X.env.locals/\(∀x c,X.env.cells.lookup x=some c->c≠b)/\∀p∈X.pn++ba,p.1≠b) :
  za X ba σ H' {s with heap:=h',gens:=g',drawn:=d',toks:=t'}:=by
 obtain⟨m,⟨o,B,C,f,r⟩,_⟩:=id I.loc;obtain⟨w,d⟩:=u.any f I.free λz=>(h _ z).2.1 rfl
 exact I.step h (λb o d l a e n=>u.keep b o e n (λz=>(Pb.mp<|I.Ri b z).elim d l) a) (λb o _ _ a e n=>u.any e n a) (λb o a e n=>u.free b o e n a) (λb o a e=>u.there b o e a) u.Kf u.rf u.Jf (λA j=>by
  obtain⟨y,t,v,g,i⟩:=j;rw[f]at g;cases g;exact⟨_,t,v,d,i⟩) q k
def za.turned{t':Nat}{a:Addr}(I:za X ba σ H s)(k:∀b o,b≠a->s.heap.get? b=some o->h'.get? b=some o)(h:H a=none)(d:a≠X.env.locals)
  (l:a∈X.ex\/X.Ca.heap.objs.size<=a) (j:∀x c,X.env.cells.lookup x=some c->c≠a) (i:∀p∈X.pn++ba,p.1≠a):za X ba σ H {s with heap:=h',toks:=t'}:=by
 have f:∀b u,H b=some u->b≠a:=λb u e z=>by rw[z,h]at e;cases e
 refine I.step (ch:=[a]) (λb hb=>?_) (λb o _ _ hc e _=>k b o (λz=>hc<|by simp[z]) e) (λb o _ _ hc e _=>⟨o.slots,k b o (λz=>hc<|by simp[z]) e⟩) (λ_ _ _ _ n=>n)
  (λb o hc e=>⟨o,k b o (λz=>hc<|by simp[z]) e⟩) (λ_ _ e=>e) (λ_ _ _ e=>e) (λb y e=>⟨#[],by rw[e];simp⟩) (λm hm=>?_) (λb u e=>?_) I.bare
 .have e:=by simpa using hb
  subst e;exact⟨l,d,j,i⟩
 .obtain⟨o,t,w,g,r⟩:=hm;exact⟨o,t,w,k _ o (Qg d) g,r⟩
 refine(I.Xa b u e).ug (λc v hc q=>k c v ?_ q) (λ_ q=>q) λ_ _ q=>q
 rcases hc with z|z
 .rw[z];exact f b u e
 exact f c _ z
def za.tok(I:za X ba σ H s)(t:Nat):za X ba σ H {s with toks:=t}:=I.un Un.refl I.Xa
theorem za.kept{t':Nat}(I:za X ba σ H s)(k:∀b u,s.heap.get? b=some u->h'.get? b=some u):za X ba σ H {s with heap:=h',toks:=t'}:=I.un (Un.kept k)<|I.Xa.kept k
theorem za.laid{a:Addr}{t':Nat}(I:za X ba σ H s)(k:∀b u,s.heap.get? b=some u->h'.get? b=some u)(d:s.heap.objs.size<=a)(c:oW X.prog X.w (Ua H a o) h' a o) :
  za X ba σ (Ua H a o) {s with heap:=h',toks:=t'}:=I.un (Un.laid k d<|I.Xa.fresh d)<|I.Xa.laid k d c
theorem za.write{e:Addr}{t':Nat}(I:za X ba σ H s)(c:mi (H x))(he:e=x\/H e=some (.own x))(k:∀b u,b≠e->s.heap.get? b=some u->h'.get? b=some u)(d:∃u,h'.get? e=some u)
  (a:oW X.prog X.w (Ua H x o) h' x o):za X ba σ (Ua H x o) {s with heap:=h',toks:=t'}:=I.un (Un.write c he k d)<|I.Xa.write c he k d a
def za.fh{a:f8}(I:za X ba σ H s)(h:∀p∈a,s.heap.get? p.1=some p.2/\H p.1=none/\p.1≠X.env.locals/\p.1∉X.fs/\∀v,p.2.data≠.cell v):za X a σ H s:=
 ⟨I.ok,I.os,I.bare,I.base,I.loc,I.cell,I.free,I.Jd,λp b=>(wg.mp b).elim (λz=>I.pin p<|Ke _ z)<|h p,I.Xa,I.len⟩
def EV{N:sB}(c:N.Nodup){i j:Nat}{x:Str}(a:N[i]?=some x)(b:N[j]?=some x):i=j:=by
 obtain⟨e,e1⟩:=pe.mp a;obtain⟨d,e2⟩:=pe.mp b;exact(List.getElem_inj c).mp (e1.trans e2.symm)
def UT{E:bv}{i:Nat}{Q:wE}(I:za X ba σ H s)(W:X.N.Nodup)(hi:X.N[i]?=some x)(l:Loc X.env.scope x)(r:RelV v u)
  (h:∀K,za X ba (σ.set i<|some v) H K->(∃a,Heap.SameBut a s.heap K.heap/\(a=X.env.locals\/X.env.cells.lookup x=some a))->Q () K) (hf:X.fn x=true\/X.env.scope.names.lookup x=some .local:=by first|exact .inl rfl|exact .inr rfl|assumption):wpAny M A (storeName X.env x u) Q E s:=by
 obtain⟨m,R,V⟩:=id I.loc;have T:i<σ.length:=by rw[I.len];exact(pe.mp hi).1
 have nr:=I.nr;have g:∀{a:Addr}{h':Heap},(∃o,s.heap.get? a=some o/\H a=none)->Heap.SameBut a s.heap h'->Je X.prog X.w H h':=λ{a h'} ha f b ob e=>by
  obtain⟨_,_,Z⟩:=ha;refine(I.Xa b ob e).ug (λc C hc q=>(f.2 c ?_).trans q) (λ_ q=>q) λ_ _ q=>q
  rintro rfl;rcases hc with rfl|hc
  .rw[Z]at e;cases e
  rw[Z]at hc;cases hc
 rcases l with t|t
 .refine wpAny_storeName_local t R (λh' RO f=>?_) (by rw[I.ok.kind];rfl)
  obtain⟨oL,_,_,P,_⟩:=id R;refine h _ ⟨I.ok,I.os,I.bare,⟨λb o e n hb l=>?_,λb o e n hb l=>?_,I.base.free,λb o e l=>?_,I.base.Kf,I.base.rf,I.base.Jf⟩,⟨_,RO,λj y v' e1 e2 e3=>?_⟩,λy c e=>?_,I.free,I.Jd,λp hp=>?_,g ⟨oL,P,I.free⟩ f,by simpa using I.len⟩ ⟨_,f,.inl rfl⟩
  .exact(f.2 b<|Bf<|We (Uc e) I.ok.above).trans (I.base.keep b o e n hb l)
  .obtain⟨J,e1⟩:=I.base.slot b o e n hb l;exact⟨J,(f.2 b<|Bf<|We (Uc e) I.ok.above).trans e1⟩
  .obtain⟨N,e1⟩:=I.base.there b o e l;exact⟨N,(f.2 b<|Bf<|We (Uc e) I.ok.above).trans e1⟩
  .by_cases w:j=i
   .subst w;rw[hi]at e1;cases e1;rw[P6 T]at e2;cases e2;exact⟨u,r,.inl ⟨t,by simp⟩⟩
   rw[d7<|Qg w]at e2;obtain⟨G,L,q⟩:=V j y v' e1 e2 e3;refine⟨G,L,?_⟩;rcases q with ⟨k,e⟩|⟨k,c,e,z⟩
   .refine .inl ⟨k,?_⟩;have:y≠x:=λe=>w (EV W e1<|e ▸ hi)
    simp[this,e]
   exact .inr ⟨k,c,e,z.sameBut f<|nr y c e⟩
  .obtain⟨C,z⟩:=I.cell y c e;exact⟨C,z.sameBut f<|nr y c e⟩
  obtain⟨e,n,D,O,d⟩:=I.pin p hp;exact⟨(f.2 p.1 D).trans e,n,D,O,d⟩
 have S:X.fn x=true:=by
  rcases hf with z|z
  .exact z
  rw[z]at t;cases t
 obtain⟨c,hc⟩:=I.ok.has x<|.inl t;obtain⟨C,z⟩:=I.cell x c hc;refine wpAny_storeName_cell I.ok.kind t hc z<|λh' Ll f=>?_
 obtain⟨oc,Y,U⟩:=id z;refine h {s with heap:=h'} ⟨I.ok,I.os,I.bare,⟨λb o e n hb l=>?_,λb o e n hb l=>?_,I.base.free,λb o e l=>?_,I.base.Kf,I.base.rf,I.base.Jf⟩,⟨m,R.sameBut f<|Qg<|nr x c hc,λj y v' e1 e2 e3=>?_⟩,λy F e=>?_,I.free,I.Jd,λp hp=>?_,g ⟨oc,Y,I.Jd x c hc⟩ f,by simpa using I.len⟩ ⟨c,f,.inr hc⟩
 .exact(f.2 b<|Bf<|We (Uc e)<|I.ok.Px x c S hc).trans (I.base.keep b o e n hb l)
 .obtain⟨J,e1⟩:=I.base.slot b o e n hb l;exact⟨J,(f.2 b<|Bf<|We (Uc e)<|I.ok.Px x c S hc).trans e1⟩
 .obtain⟨N,e1⟩:=I.base.there b o e l;exact⟨N,(f.2 b<|Bf<|We (Uc e)<|I.ok.Px x c S hc).trans e1⟩
 .by_cases w:j=i
  .subst w;rw[hi]at e1;cases e1;rw[P6 T]at e2;cases e2;exact⟨u,r,.inr ⟨.inl t,c,hc,Ll⟩⟩
  rw[d7<|Qg w]at e2;obtain⟨G,L,q⟩:=V j y v' e1 e2 e3;refine⟨G,L,?_⟩;rcases q with q|⟨k,F,e,z'⟩
  .exact .inl q
  refine .inr ⟨k,F,e,z'.sameBut f ?_⟩;rintro rfl;exact w<|EV W e1<|I.ok.inj _ _ _ e hc ▸ hi
 .by_cases B:F=c
  .subst B;exact⟨_,Ll⟩
  obtain⟨w2,z2⟩:=I.cell y F e;exact⟨w2,z2.sameBut f B⟩
 obtain⟨e,n,D,O,d⟩:=I.pin p hp;refine⟨(f.2 p.1 ?_).trans e,n,D,O,d⟩;intro q;rw[q,Y]at e;exact d C (by rwa [<-(Te e)])
def FV{E:bv}{i:Nat}{Q:wE}(I:za X ba σ H s)(d:X.N.Nodup)(hi:X.N[i]?=some x)(b:Loc X.env.scope x)(r:RelV v u)
  (h:∀a,za X ba (σ.set i<|some v) H a->Q () a) (c:X.fn x=true\/X.env.scope.names.lookup x=some .local:=by first|exact .inl rfl|exact .inr rfl|assumption):wpAny M A (storeName X.env x u) Q E s:=
 UT I d hi b r (λa e _=>h a e) c
end
abbrev XK:=Value->Option Addr->Hp->Prop
abbrev St:=List<|Option V
abbrev VK:=V->v6
abbrev _root_.o0:=V->List V->Hp->VK->Prop
abbrev _root_.re:=V->Option Int->Option Int->Hp->VK->Prop
abbrev _root_.FM:=List V->Hp->VK->Prop
abbrev _root_.FS:=V->Hp->VK->Prop
abbrev TE:=St->Hp->VK->Prop
abbrev TT:=St->Hp->(Bool->Hp->Prop)->Prop
abbrev TA:=St->Hp->(List V->Hp->Prop)->Prop
structure Ends where
 nx:St->v6
 rt:VK
 bk:St->v6:=λ_ _=>False
 ct:St->v6:=λ_ _=>False
abbrev TS:=Ends->St->v6
def EP(X:Cx)(d:f8)(b:St)(Q:VK)(u:Value)(c:Shared):Prop:=∃v a,za X d b a c/\RelV v u/\Q v a
def TP(X:Cx)(e:f8)(c:St)(Q:KB)(b:Bool)(d:Shared):Prop:=∃a,za X e c a d/\Q b a
def AP(X:Cx)(f:f8)(c:St)(Q:GE)(d:jp)(e:Shared):Prop:=∃a b,za X f c b e/\Ha a d/\Q a b
def SP(X:Cx)(d:f8)(D:Ends)(f:Flow)(c:Shared):Prop:=
 match f with
 |.next=>∃b a,za X d b a c/\D.nx b a
 |.brk=>∃b a,za X d b a c/\D.bk b a
 |.cont=>∃b a,za X d b a c/\D.ct b a
 |.ret u=>∃v b a,za X d b a c/\RelV v u/\D.rt v a
def PE(X:Cx)(e:Expr)(t:TE):Prop:=
 ∀(b:f8) (s:Shared) (a:St) (H:Hp) (Q:VK),za X b a H s->t a H Q->wpAny (model X.prog X.w) X.A (eval e X.env) (EP X b a Q) X.xe s
def PT(X:Cx)(e:Expr)(t:TT):Prop:=
 ∀(b:f8) (s:Shared) (a:St) (H:Hp) (Q:KB),za X b a H s->t a H Q->wpAny (model X.prog X.w) X.A (isTrue e X.env<|eval e X.env) (TP X b a Q) X.xe s
def PW(X:Cx)(e:Expr)(t:TT):Prop:=
 ∀(whole:Sem Value) (b:f8) (s:Shared) (a:St) (H:Hp) (Q:KB),za X b a H s->t a H Q->wpAny (model X.prog X.w) X.A (isTrue e X.env whole) (TP X b a Q) X.xe s
def PW.pt{X:Cx}{t:TT}(h:PW X e t):PT X e t:=h _
def PA(X:Cx)(d:List Expr)(t:TA):Prop:=
 ∀(b:Pos) (c:f8) (s:Shared) (a:St) (H:Hp) (Q:GE),za X c a H s->t a H Q->wpAny (model X.prog X.w) X.A (spliced<|backTo b<|starEach d X.env) (AP X c a Q) X.xe s
def PS(X:Cx)(st:Stmt)(t:TS):Prop:=
 ∀(b:f8) (s:Shared) (a:St) (H:Hp) (D:Ends),za X b a H s->t D a H->wpAny (model X.prog X.w) X.A (exec st X.env) (SP X b D) X.xe s
def Pc(X:Cx)(st:List Stmt)(t:TS):Prop:=
 ∀(b:f8) (s:Shared) (a:St) (H:Hp) (D:Ends),za X b a H s->t D a H->wpAny (model X.prog X.w) X.A (execs st X.env) (SP X b D) X.xe s
def Kb{b:Type}{t:Sem b}{Q c:b->u8}{E:bv}(h:wpAny M A t Q E s)(d:∀a s,Q a s->c a s):wpAny M A t c E s:=zi h d λ_ _ x=>x
section
variable{X:Cx}
def Ij(i:Nat):TE:=λa H Q=>∃v,a[i]?=some (some v)/\Q v H
def tC(v:V):TE:=λ_ H Q=>Q v H
def jR{i:Nat}(q:X.N[i]?=some x)(k:Dg X.env.scope x)(d:(x==("__debug__":Str))=false:=by decide)(w:(x==("__classdict__":Str))=false:=by decide):PE X (.Name x pos) (Ij i):=by
 intro t s j H Q I h;obtain⟨v,e,h⟩:=h;obtain⟨m,n,p⟩:=I.loc;obtain⟨u,r,l⟩:=p i x v q e k;have b:EP X t j Q u s:=⟨v,H,I,r,h⟩;rcases l with ⟨a,o⟩|⟨a,c,f,g⟩
 .exact wpAny_Name (wpAny_loadName_local I.ok.kind a n o b) d
 rcases a with a|a
 .exact wpAny_Name (wpAny_loadName_cell I.ok.kind a f g b) d
 exact wpAny_Name (wpAny_loadName_free I.ok.kind a f g b w) d
def xt{i j pos}:PE X (.Constant (.int i) j pos) (tC<|.int i):=λ_ _ _ H _ I h=>wpAny_Constant_int ⟨.int i,H,I.tok _,⟨_,rfl⟩,h⟩
def bOg{b j pos}:PE X (.Constant (.bool b) j pos) (tC<|.bl b):=λ_ _ _ H _ I h=>Constant_bool ⟨.bl b,H,I,rfl,h⟩
def bKm{j pos}:PE X (.Constant .none j pos) (tC .Bb):=λ_ _ _ H _ I h=>Constant_none ⟨.Bb,H,I,rfl,h⟩
def bKn{x j pos}:PE X (.Constant (.str x) j pos) (tC<|.str x):=λ_ _ _ H _ I h=>Calls.Constant_str ⟨.str x,H,I.tok _,⟨_,rfl⟩,h⟩
def Gl(X:Cx)(x:Str):Prop:=X.env.kindOf x=some .globalImplicit
abbrev Yd(x:Str):Prop:=(x==("__debug__":Str))=false
abbrev Th(x:Str):Prop:=(x==("__classdict__":Str))=false
theorem Vh{a:Scope}(h:(match a.names.lookup x with|some .local|some .cell|some .free=>true|_=>false)=true):Dg a x:=by
 unfold Dg;split at h<;>simp_all
theorem zj{a:Scope}(h:(match a.names.lookup x with|some .local|some .cell=>true|_=>false)=true):Loc a x:=by
 unfold Loc;split at h<;>simp_all
abbrev Sh(X:Cx)(x:Str):Prop:=X.fn x=true\/X.env.scope.names.lookup x=some .local
abbrev Cd(e:Expr)(a:List Expr)(E:Env):Prop:=starEach (e::a) E=(false,eval e E)::starEach a E
abbrev Lg(p:Pos)(a:List Expr)(E:Env):Prop:=(backTo p<|starEach a E).any (·.1)=false
abbrev Oi(p:Pos)(a:List Expr)(E:Env):Prop:=((backTo p<|starEach a E).all (λx=>!x.1)&&(backToKw p<|keywordEach [] E).all (λx=>x.1.isSome)
 && decide (a.length+([]:List Keyword).length+(if ([]:List Keyword).isEmpty then 0 else 1)<30))=true
abbrev Nf(o:Expr)(m:Str)(E:Env):Prop:=attributeBase o m E (eval o E)=eval o E
abbrev Gg(a c:Pos):Prop:=(a.endLine==c.line)=true
abbrev Uh(e:Expr)(t:Option Expr)(l:Nat)(E:Env):Prop:=swapsWith e t l E=pure false
def zI{E:bv}{Q:bv}(I:za X ba σ H s)(b:Gl X x)(a:X.mg x=some u)(h:Q u s)
  (c:Yd x:=by decide):wpAny (model X.prog X.w) X.A (eval (.Name x pos) X.env) Q E s:=
 j6 I.ok.kind b (Calls.loadGlobal_global (by rw[I.ok.glob];exact I.mod.glob.keeps I.bk) a h) c
def Bo{E:bv}{Q:bv}(I:za X ba σ H s)(d:Gl X x)(c:X.mg x=none)(a:bootBuiltins x=some u)(h:Q u s)
  (b:x≠"__name__":=by decide) (e:Yd x:=by decide):wpAny (model X.prog X.w) X.A (eval (.Name x pos) X.env) Q E s:=by
 obtain⟨i,g,f⟩:=I.mod.blt;exact j6 I.ok.kind d (Calls.loadGlobal_builtin (by rw[I.ok.glob];exact I.mod.glob.keeps I.bk) c (by rw[I.ok.blt];exact g.keeps I.bk) ((f x b).trans a) h) e
def AI(b:Gl X x)(a:X.mg x=some u)(r:RelV v u)(c:Yd x:=by decide):PE X (.Name x pos) (tC v):=
 λ_ _ _ H _ I h=>zI I b a ⟨v,H,I,r,h⟩ c
def bG7(d:Gl X x)(c:X.mg x=none)(a:bootBuiltins x=some u)(r:RelV v u)(b:x≠"__name__":=by decide)(e:Yd x:=by decide):PE X (.Name x pos) (tC v):=
 λ_ _ _ H _ I h=>Bo I d c a ⟨v,H,I,r,h⟩ b e
variable{a b:Expr}{ta tb:TE}{pos:Pos}
def Ű(b:Expr){op:CmpOp}(h:op≠.In)(a:op≠.NotIn):behindInMarks op b=false:=by
 have e1:(op==CmpOp.In)=false:=by cases op<;>first|rfl|exact absurd rfl h
 have e2:(op==CmpOp.NotIn)=false:=by cases op<;>first|rfl|exact absurd rfl a
 cases b<;>simp[behindInMarks,e1,e2]
def tB(t:TE):TT:=λa H Q=>t a H λx b=>∃c,x=.bl c/\Q c b
def bKo{t:TE}(h:PE X e t)(he:∀whole,isTrue e X.env whole=(do let v <- whole;standAt e.pos;holding [v] (truthy v)):=by intro _;rfl):PT X e (tB t):=by
 intro c s a H Q I b;refine isTrue_plain (Kb (h c s a H _ I b) λv f ⟨x,H1,I1,r1,q1⟩=>?_)<|he _
 obtain⟨d,rfl,q⟩:=q1;cases r1;exact Qq ⟨H1,I1,q⟩
variable{tA vF:TT}{rest:List Expr}
def BL(t u:TT):TT:=λa H Q=>t a H λc b=>if c=true then u a b Q else Q false b
def tOr(t u:TT):TT:=λa H Q=>t a H λc b=>if c=true then Q true b else u a b Q
def bRr(t:TT):TT:=λa H Q=>t a H λc b=>Q (!c) b
def UX(d:PT X a tA):PW X (.BoolOp .And [a] pos) tA:=by
 intro g f s b H Q I h;refine isTrue_and<|Kb (d f s b H Q I h) λc i e=>?_
 cases c with
 |true=>exact isTrue_and_nil e
 |false=>exact e
def bKq(d:PT X a tA):PW X (.BoolOp .Or [a] pos) tA:=by
 intro g f s b H Q I h;refine isTrue_or<|Kb (d f s b H Q I h) λc i e=>?_
 cases c with
 |false=>exact isTrue_or_nil e
 |true=>exact e
def MJ(m:PT X a tA)(l:PW X (.BoolOp .And (b::rest) pos) vF):PW X (.BoolOp .And (a::b::rest) pos) (BL tA vF):=by
 intro j f s d H Q I h;refine isTrue_and<|Kb (m f s d H _ I h) λc k ⟨i,g,e⟩=>?_
 cases c with
 |true=>exact l j f k d i Q g e
 |false=>exact⟨i,g,e⟩
def bOh(m:PT X a tA)(l:PW X (.BoolOp .Or (b::rest) pos) vF):PW X (.BoolOp .Or (a::b::rest) pos) (tOr tA vF):=by
 intro j f s d H Q I h;refine isTrue_or<|Kb (m f s d H _ I h) λc k ⟨i,g,e⟩=>?_
 cases c with
 |true=>exact⟨i,g,e⟩
 |false=>exact l j f k d i Q g e
def bKr(c:PT X a tA):PT X (.UnaryOp .Not a pos) (bRr tA):=by
 intro d s b H Q I h;exact isTrue_not<|c d s b H _ I h
def bOi(e d:TE):TE:=λa H Q=>e a H λx b=>∃c,x=.bl c/\if c=true then d a b Q else Q (.bl false) b
def bRs(e d:TE):TE:=λa H Q=>e a H λx b=>∃c,x=.bl c/\if c=true then Q (.bl true) b else d a b Q
def bOj(b:TE):TE:=λa H Q=>b a H λx d=>∃c,x=.bl c/\Q (.bl<|!c) d
def J1{op}{t:TE}(h:PE X a t):PE X (.BoolOp op [a] pos) t:=λd s b H Q I c=>BoolOp_one<|h d s b H Q I c
def bKs(m:PE X a ta)(l:PE X (.BoolOp .And (b::rest) pos) tb):PE X (.BoolOp .And (a::b::rest) pos) (bOi ta tb):=by
 intro f s e H Q I h;refine BoolOp_and<|Kb (m f s e H _ I h) λv j ⟨x,i,g,k,d⟩=>?_
 obtain⟨c,rfl,d⟩:=d;cases k;refine Qq ?_
 cases c with
 |true=>exact l f j e i Q g d
 |false=>exact⟨.bl false,i,g,rfl,d⟩
def bOk(m:PE X a ta)(l:PE X (.BoolOp .Or (b::rest) pos) tb):PE X (.BoolOp .Or (a::b::rest) pos) (bRs ta tb):=by
 intro f s e H Q I h;refine BoolOp_or<|Kb (m f s e H _ I h) λv j ⟨x,i,g,k,d⟩=>?_
 obtain⟨c,rfl,d⟩:=d;cases k;refine Qq ?_
 cases c with
 |false=>exact l f j e i Q g d
 |true=>exact⟨.bl true,i,g,rfl,d⟩
def bKt(f:PE X a ta):PE X (.UnaryOp .Not a pos) (bOj ta):=by
 intro g s d H Q I h;refine UnaryOp_<|Kb (f g s d H _ I h) λv k ⟨x,j,i,e,b⟩=>?_
 obtain⟨c,rfl,b⟩:=b;cases e;exact not_of<|Qq ⟨.bl<|!c,j,i,rfl,b⟩
def tIf(t:TT)(e d:TE):TE:=λa H Q=>t a H λc b=>if c=true then e a b Q else d a b Q
def ű(l:PT X c tA)(n:PE X a ta)(m:PE X b tb):PE X (.IfExp c a b pos) (tIf tA ta tb):=by
 intro f s e H Q I h;refine wpAny_IfExp<|Kb (l f s e H _ I h) λd g ⟨k,j,i⟩=>?_
 cases d with
 |true=>exact n f g e k Q j i
 |false=>exact m f g e k Q j i
end
def Dc(K:PySem.W.Frag)(H:Hp)(a:Addr)(xs:nw):Prop:=
 Rd H a (.lst xs)\/
  ∃(o:Obj)(b:xL)(n:Nat),K.lookup a=some o/\o.cls=.type "list"/\o.dict=none/\o.data=.seq b n/\b.size<=sizeLine/\Ha xs b.toList
def pf(K:PySem.W.Frag)(H:Hp)(a:Addr)(xs:nw):Prop:=
 Rd H a (.tup xs)\/
  ∃(o:Obj)(b:xL)(n:Nat),K.lookup a=some o/\o.cls=.type "tuple"/\o.data=.seq b n/\b.size<=sizeLine/\Ha xs b.toList
noncomputable def bRt:Value->Option V
 |.none=>some .Bb
 |.bool b=>some<|.bl b
 |.int i _=>some<|.int i
 |.str x _=>some<|.str x
 |.bytes b _=>some<|.cE b
 |.float b _=>some<|.Lu b
 |.ref a=>some<|.ref a
 |.type n=>some<|.ty n
 |_=>none
def RelV.abs(r:RelV x u):bRt u=some x:=by
 cases x with
 |Bb=>cases r;rfl
 |bl _=>cases r;rfl
 |int _=>obtain⟨t,rfl⟩:=r;rfl
 |str _=>obtain⟨t,rfl⟩:=r;rfl
 |cE _=>obtain⟨t,rfl⟩:=r;rfl
 |Lu _=>obtain⟨t,rfl⟩:=r;rfl
 |ref _=>cases r;rfl
 |ty _=>cases r;rfl
def RelV.inj{x y:V}{u:Value}(r:RelV x u)(q:RelV y u):x=y:=Te<|r.abs.symm.trans q.abs
theorem Ha.inj:∀{xs ys:nw}{a:jp},Ha xs a->Ha ys a->xs=ys
 |_,_,_,.nil,.nil=>rfl
 |_,_,_,.cons r t,.cons c b=>by rw[r.inj c,Ha.inj t b]
section
variable{X:Cx}{ba:f8}{σ:St}{H:Hp}{s:Shared}{a:Addr}{xs ys:nw}
def Dc.of{K:PySem.W.Frag}(h:H a=some (.lst xs)):Dc K H a xs:=.inl<|.inl h
def pf.of{K:PySem.W.Frag}(h:H a=some (.tup xs)):pf K H a xs:=.inl<|.inl h
theorem za.list(I:za X ba σ H s)(h:Dc X.K H a xs):∃b:jp,Ha xs b/\PlainL s.heap a b.toArray/\xs.length<=sizeLine:=by
 rcases h with h|⟨o,b,n,d,g,f,c,i,r⟩
 .obtain⟨z,b,n,r,e⟩:=h.ok I.Xa;exact⟨b,r,⟨_,n,e,rfl,rfl,rfl⟩,z⟩
 refine⟨b.toList,r,⟨o,n,I.Fg a o d,g,f,by simpa using c⟩,?_⟩
 have e:=r.length;simp at e;lia
def za.tuple(I:za X ba σ H s)(h:pf X.K H a xs):∃b:jp,Ha xs b/\IsTup s.heap a b.toArray/\xs.length<=sizeLine:=by
 rcases h with h|⟨o,b,n,d,f,c,g,r⟩
 .obtain⟨z,b,r,p⟩:=h.ok I.Xa;exact⟨b,r,p,z⟩
 refine⟨b.toList,r,⟨o,I.Fg a o d,f,n,by simpa using c⟩,?_⟩
 have e:=r.length;simp at e;omega
def za.lg(I:za X ba σ H s)(h:Dc X.K H a xs)(i:Dc X.K H a ys):xs=ys:=by
 obtain⟨m,r,⟨o,n,e,_,_,d⟩,_⟩:=I.list h;obtain⟨b,g,⟨k,l,c,_,_,f⟩,_⟩:=I.list i;rw[e]at c;cases c;rw[d]at f;injection f with j _
 have:=by simpa using congrArg Array.toList j
 subst this;exact r.inj g
def za.yf(I:za X ba σ H s)(h:pf X.K H a xs)(i:pf X.K H a ys):xs=ys:=by
 obtain⟨m,r,⟨o,e,_,n,d⟩,_⟩:=I.tuple h;obtain⟨b,g,⟨k,c,_,l,f⟩,_⟩:=I.tuple i;rw[e]at c;cases c;rw[d]at f;injection f with j _
 have:=by simpa using congrArg Array.toList j
 subst this;exact r.inj g
end
abbrev Cx.Hg(X:Cx)(E:bv):Cx:={X with xe:=E}
abbrev Cx.Zj(X:Cx):Cx:=X.Hg λ_ _=>False
theorem Cx.Ok.Hg{X:Cx}(ok:X.Ok)(E:bv):(X.Hg E).Ok:=
 ⟨ok.mod,ok.kind,ok.glob,ok.blt,ok.above,ok.inj,ok.has,ok.Px,ok.hd,ok.frames,ok.fF,ok.nE,ok.bs,ok.Pm,ok.fm,ok.El,ok.sf,ok.yp⟩
def Cx.Ok.Ce{X:Cx}{E:bv}(ok:(X.Hg E).Ok):X.Ok:=
 ⟨ok.mod,ok.kind,ok.glob,ok.blt,ok.above,ok.inj,ok.has,ok.Px,ok.hd,ok.frames,ok.fF,ok.nE,ok.bs,ok.Pm,ok.fm,ok.El,ok.sf,ok.yp⟩
section
variable{X:Cx}{ba:f8}{σ:St}{H:Hp}{s:Shared}{E:bv}
theorem za.Hg(I:za X ba σ H s)(E:bv):za (X.Hg E) ba σ H s:=⟨I.ok.Hg E,I.os,I.bare,I.base,I.loc,I.cell,I.free,I.Jd,I.pin,I.Xa,I.len⟩
theorem za.Ce(I:za (X.Hg E) ba σ H s):za X ba σ H s:=⟨I.ok.Ce,I.os,I.bare,I.base,I.loc,I.cell,I.free,I.Jd,I.pin,I.Xa,I.len⟩
theorem SP.Ce{D:Ends}(h:SP (X.Hg E) ba D f s'):SP X ba D f s':=by
 cases f with
 |next=>obtain⟨a,b,I,q⟩:=h;exact⟨a,b,I.Ce,q⟩
 |brk=>obtain⟨a,b,I,q⟩:=h;exact⟨a,b,I.Ce,q⟩
 |cont=>obtain⟨a,b,I,q⟩:=h;exact⟨a,b,I.Ce,q⟩
 |ret u=>obtain⟨v,a,b,I,r,q⟩:=h;exact⟨v,a,b,I.Ce,r,q⟩
theorem Pc.Zj{st:List Stmt}{t:TS}(h:Pc X.Zj st t):Pc X st t:=λba s σ H D I a=>
 zi (h ba s σ H D (I.Hg _) a) (λ_ _ q=>q.Ce) λ_ _ z=>False.elim z
end
section
variable{X:Cx}{st:Stmt}{rest:List Stmt}{t u:TS}{e:Expr}{te:TE}{pos:Pos}
def u4:TS:=λD a H=>D.nx a H
def bRu(t u:TS):TS:=λD a H=>t {D with nx:=u D} a H
def BI:Pc X [] u4:=λ_ _ a H _ I h=>OD ⟨a,H,I,h⟩
def lG(g:PS X st t)(e:Pc X rest u):Pc X (st::rest) (bRu t u):=by
 intro a s b H D I h;refine wpAny_execs_cons<|Kb (g a s b H {D with nx:=u D} I h) λf c q=>?_
 cases f with
 |next=>
  obtain⟨d,j,i,q⟩:=q;exact e a c d j D i q
 |ret v=>exact q
 |brk=>exact q
 |cont=>exact q
def vO(b:PS X st t):Pc X [st] t:=by
 intro c s a H D I h;refine wpAny_execs_cons<|Kb (b c s a H D I h) λf d q=>?_
 cases f with
 |next=>exact OD q
 |ret v=>exact q
 |brk=>exact q
 |cont=>exact q
def za.quiet(I:za X ba σ H s):interactive X.env=false:=by simp[interactive,I.ok.kind]
def RK(te:TE):TS:=λD a H=>te a H λ_ b=>D.nx a b
def vP(he:PE X e te)(hs:Uh e none pos.line X.env:=by rfl):PS X (.Expr e pos) (RK te):=by
 intro c s a H D I h;exact wpAny_Expr_any (Kb (he c s a H _ I h) λv g ⟨x,f,d,i,b⟩=>⟨a,f,d,b⟩) I.quiet hs
def bRv(te:TE):TS:=λD a H=>te a H D.rt
def Zv(he:PE X e te):PS X (.Return (some e) pos) (bRv te):=by
 intro d s a H D I h;exact wpAny_Return_some<|Kb (he d s a H _ I h) λv i ⟨x,g,f,b,c⟩=>⟨x,a,g,f,b,c⟩
def d5(c:TT)(t u:TS):TS:=λD a H=>c a H λb d=>if b=true then t D a d else u D a d
def SK(l:PT X c tc)(n:Pc X a t)(m:Pc X b u):PS X (.If c a b pos) (d5 tc t u):=by
 intro f s e H D I h;refine wpAny_If<|Kb (l f s e H _ I h) λd g ⟨k,j,i⟩=>?_
 cases d with
 |true=>exact n f g e k D j i
 |false=>exact m f g e k D j i
end
abbrev TG:=V->St->Hp->(St->v6)->Prop
abbrev Am:=List V->St->Hp->(St->v6)->Prop
def PG(X:Cx)(a:Expr)(t:TG):Prop:=
 ∀(d:f8) (s:Shared) (b:St) (H:Hp) (v:V) (u:Value) (Q:St->v6),za X d b H s->RelV v u->t v b H Q->
  wpAny (model X.prog X.w) X.A (assign a X.env u) (λ_ f=>∃c e,za X d c e f/\Q c e) X.xe s
def Rk(X:Cx)(g:List Expr)(t:Am):Prop:=
 ∀(e:f8) (s:Shared) (a:St) (H:Hp) (b:nw) (c:jp) (Q:St->v6),za X e a H s->Ha b c->t b a H Q->
  wpAny (model X.prog X.w) X.A (assignInOrder ((assignEach g X.env).map (·.2)) c) (λ_ h=>∃d f,za X e d f h/\Q d f) X.xe s
abbrev CL:=V->V->V->Hp->(Hp->Prop)->Prop
def DL(X:Cx)(t:CL):Prop:=
 ∀(d:f8) (s:Shared) (a:St) (H:Hp) (o i v:V) (b c u:Value) (Q:v6),za X d a H s->RelV o b->RelV i c->RelV v u->t o i v H Q->
  wpAny (model X.prog X.w) X.A (setItem b c u) (λ_ f=>∃e,za X d a e f/\Q e) X.xe s
section
variable{X:Cx}{pos:Pos}
def TK(i:Nat):TG:=λv a H Q=>Q (a.set i<|some v) H
def CA{i:Nat}(c:X.N.Nodup)(hi:X.N[i]?=some x)(a:Loc X.env.scope x)(b:Sh X x:=by first|exact .inl rfl|exact .inr rfl|assumption):PG X (.Name x pos) (TK i):=by
 intro g s e H v u Q I r h;exact wpAny_assign_Name<|FV I c hi a r (λf d=>⟨_,H,d,h⟩) b
def bRw:Am:=λb a H Q=>b=[]/\Q a H
def bOm(t:TG)(u:Am):Am:=λb a H Q=>∃v r,b=v::r/\t v a H λc d=>u r c d Q
def VX:Rk X [] bRw:=by
 intro d s a H b c Q I r h;obtain⟨e,h⟩:=h;exact assignInOrder_nil ⟨a,H,I,h⟩
def IH{e:Expr}{t:TG}(i:PG X e t)(g:Rk X es u)
  (hs:(assignEach (e::es) X.env).map (·.2)=assign e X.env::(assignEach es X.env).map (·.2):=by rfl):Rk X (e::es) (bOm t u):=by
 intro a s b H m o Q I r h;obtain⟨v,n,e1,h⟩:=h;subst e1;cases r with
 |cons r d=>
  rw[hs];exact assignInOrder_cons<|Kb (i a s b H _ _ _ I r h) λ_ c ⟨j,l,k,f⟩=>g a c j l _ _ Q k d f
def bRx(K:PySem.W.Frag)(n:Nat)(t:Am):TG:=λv c H Q=>∃a b,v=.ref a/\pf K H a b/\b.length=n/\t b c H Q
def K1{k:Nat}{t:Am}{n:Nat}(q:X.calm=true)(h:Rk X es t)
  (m:(assignEach es X.env).length=n:=by rfl) (x:(assignEach es X.env).findIdx? (·.1)=none:=by rfl):PG X (.Tuple es k pos) (bRx X.K n t):=by
 intro w s f H v u Q I r c;obtain⟨a,g,e1,l,p,c⟩:=c;subst e1;cases r;obtain⟨A,d,j,y⟩:=I.tuple l;exact assign_Tuple_tuple (I.ok.hd q) j (by simp[m,<-p,d.length]) x λz i=>h w _ f H g _ Q (I.kept λb o e=>i b o (Bf<|Uc e) e) (by simpa using d) c
def bRy(b c:TE)(t:CL):TG:=λv a H Q=>b a H λo f=>c a f λi e=>t o i v e λd=>Q a d
def L1{t:CL}(n:PE X o to)(hi:PE X i ti)(hs:DL X t)
  (p:∀v,assign (.Subscript o i pos) X.env v=(do
   let a <- holding [v] (eval o X.env)
   let b <- holding [v,a] (eval i X.env)
   standAt pos
   holding [v,a,b] (setItem a b v)
   release [v,a,b] []):=by intro _;rfl):PG X (.Subscript o i pos) (bRy to ti t):=by
 intro d s c H v u Q I r h;rw[p];refine Oa<|Oj<|Kb (n d s c H _ I h) λa f ⟨x,C,z,j,m⟩=>?_
 refine Oa<|Oj<|Kb (hi d f c C _ z m) λb e ⟨y,B,w,g,l⟩=>?_
 exact Oa<|Eu<|Oa<|Oj<|Kb (hs d e c B x y v a b u _ w j g r l) λ_ D ⟨A,q,k⟩=>wpAny_release ⟨c,A,q,k⟩
def EL(te:TE)(g:TG):TS:=λD a H=>te a H λx b=>g x a b D.nx
def YA(he:PE X e te)(d:PG X tg g)(hs:swapsWithSole [tg] e pos.line X.env=pure false:=by rfl)(c:swappedStores [tg] e X.env=pure none:=by rfl)
  (f:(assignEach [tg] X.env).map (·.2)=[assign tg X.env]:=by rfl):PS X (.Assign [tg] e pos) (EL te g):=by
 intro b s a H D I h;refine wpAny_Assign_stores (Kb (he b s a H _ I h) λv s1 ⟨x,H1,I1,r1,q1⟩=>?_) hs c
 rw[f];exact Kb (d b s1 a H1 x v _ I1 r1 q1) λ_ i q=>q
def iq{i:Nat}(g:X.N.Nodup)(hi:X.N[i]?=some x)(d:Loc X.env.scope x)(he:PE X e te)(hs:Uh e (some<|.Name x pos') pos.line X.env:=by rfl)(f:Sh X x:=by first|exact .inl rfl|exact .inr rfl|assumption) :
  PS X (.Assign [.Name x pos'] e pos) (EL te<|TK i):=by
 intro j s a H D I h;exact wpAny_Assign_Name (Kb (he j s a H _ I h) λv o ⟨y,m,l,b,c⟩=>FV l g hi d b (λn k=>⟨_,m,k,c⟩) f) hs
def bKx(c:TT)(h:TS):TS:=λD a H=>∃W:Nat->St->v6,(∃m,W m a H)/\∀m a H,W m a H->
 c a H λb f=>if b=true then ∃N:St->v6,(∀e g,N e g->∃d,d < m/\W d e g)/\h {D with nx:=N,ct:=N,bk:=D.nx} a f else D.nx a f
def Ų(r:PassesOwn (model X.prog X.w) X.A X.env X.xe)(J:PT X c tc)(K:Pc X body tb):PS X (.While c body [] pos) (bKx tc tb):=by
 intro o s z H D I h;obtain⟨W,⟨G,B⟩,turn⟩:=h;refine wpAny_While<|codeAny_whileLoop (λn F=>∃q y,za X o q y F/\W n q y) ?_ G ⟨z,H,I,B⟩
 rintro n E ⟨i,x,L,A⟩;refine Tq r<|Kb (J o E i x _ L<|turn n i x A) λb C ⟨w,u,g⟩=>?_
 cases b with
 |true=>
  obtain⟨N,t,g⟩:=g;refine Tq r<|Kb (K o C i w _ u g) λf M e=>?_
  cases f with
  |next=>
   obtain⟨d,a,p,k⟩:=e;obtain⟨l,m,j⟩:=t d a k;exact⟨l,m,d,a,p,j⟩
  |cont=>
   obtain⟨d,a,p,k⟩:=e;obtain⟨l,m,j⟩:=t d a k;exact⟨l,m,d,a,p,j⟩
  |brk=>exact e
  |ret v=>exact e
 |false=>
  exact OD ⟨i,w,u,g⟩
end
structure It where
 go:Nat->Hp->Prop
 av:Nat->Hp->V->Hp->Prop
 stop:Nat->Hp->Prop
def Jj(X:Cx)(a:f8)(H:Hp)(b:Addr):Prop:=
 H b=none/\b≠X.env.locals/\b∉X.fs/\(b∈X.ex\/X.Ca.heap.objs.size<=b)/\(∀x c,X.env.cells.lookup x=some c->c≠b)/\∀p∈X.pn++a,p.1≠b
def za.Ci{X:Cx}{d:Hp}{b:Addr}(I:za X ba σ H s)(a:s.heap.objs.size<=b)(f:d b=none):Jj X ba d b:=by
 refine⟨f,CN<|We I.lt a,I.Uy a,.inr<|Vc I.sz a,λx c e z=>?_,λp hp z=>?_⟩
 .obtain⟨v,q⟩:=I.cell x c e;exact absurd (We q.lt<|by rwa [z])<|Pg _
 exact absurd (We (Uc (I.pin p hp).1)<|by rwa [z])<|Pg _
structure Turn(P:Program)(w:World)(K:PySem.W.Frag)(tg:Expr)(J:It)(fp:db)(it:Addr)(tn:zn):Prop where
 mem:it∈fp
 obj:∀i h,tn i h->∀b∈fp,∃o,h.get? b=some o/\∀v,o.data≠.cell v
 keep:∀i h h',tn i h->(∀b∈fp,∀o,h.get? b=some o->h'.get? b=some o)->tn i h'
 item:∀(X:Cx),X.prog=P->X.w=w->X.K=K->X.calm=true->∀(i:Nat) (ba:f8) (s:Shared) (σ:St) (H:Hp) (E:bv),za X ba σ H s->(∀b∈fp,Jj X ba H b)->tn i s.heap->J.go i H->
  wpAny (model P w) X.A (pyNext<|.ref it) (λr s1=>∃u,r=some u/\
   wpAny (model P w) X.A (letOwnedTupleGo tg (.ref it) u) (λ_ s2=>∃x H',za X ba σ H' s2/\RelV x u/\J.av i H x H'/\tn (i+1) s2.heap/\∀b∈fp,H' b=none) E s1) E s
 done:∀(X:Cx),X.prog=P->X.w=w->X.K=K->X.calm=true->∀(i:Nat) (ba:f8) (s:Shared) (σ:St) (H:Hp) (E:bv),za X ba σ H s->(∀b∈fp,Jj X ba H b)->tn i s.heap->J.stop i H->
  wpAny (model P w) X.A (pyNext<|.ref it) (λr s1=>r=none/\za X ba σ H s1) E s
 self:∀(A:Around)(i:Nat)(s:Shared)(Q:bv)(E:bv),tn i s.heap->Q (.ref it) s->wpAny (model P w) A (pyIter<|.ref it) Q E s
abbrev TI:=St->Hp->(It->v6)->Prop
def NR(X:Cx)(f:f8)(g:St)(tg:Expr)(R:It->v6)(h:Value)(s2:Shared):Prop:=
 ∃(d:Addr)(e:db)(c:zn)(J:It)(a:Hp),h=.ref d/\za X f g a s2/\Turn X.prog X.w X.K tg J e d c/\c 0 s2.heap/\(∀b∈e,Jj X f a b)/\R J a
def PI(X:Cx)(tg a:Expr)(d:TI):Prop:=
 ∀(c:f8) (s:Shared) (b:St) (H:Hp) (R:It->v6),za X c b H s->d b H R->
  wpAny (model X.prog X.w) X.A (eval a X.env) (λv e=>wpAny (model X.prog X.w) X.A (pyIter v) (NR X c b tg R) X.xe e) X.xe s
def Bw{E:bv}{s:Shared}{Q:wE}(b:s.heap.get? it=some o)(e:o.cls=.type n)(d:o.data=.fields vs)
  (c:["enumerate","zip","dict_itemiterator","dict_reverseitemiterator","odict_iterator","itertools.zip_longest","itertools.pairwise"].contains n=false) (a:Q () s):wpAny M A (letOwnedTupleGo tg (.ref it) u) Q E s:=by
 cases tg<;>first
  |exact vc a
  |(cases u<;>first
    |exact vc a
    | (refine Oa (wpAny_load b ?_)
       rw[e,d];show wpAny M A (if (["enumerate","zip","dict_itemiterator","dict_reverseitemiterator","odict_iterator","itertools.zip_longest","itertools.pairwise"].contains n&&vs[0]?==some _)=true then _ else _) Q E s
       rw[Ea (by intro h;rw[c]at h;cases h)]
       exact vc a))
def Ez(K:PySem.W.Frag)(a:Addr):It:=
 ⟨λi H=>∃b x,Dc K H a b/\b[i]?=some x,λi H x c=>c=H/\∀b,Dc K H a b->b[i]?=some x,λi H=>∃b,Dc K H a b/\b.length<=i⟩
def MF(K:PySem.W.Frag)(a:Addr):It:=
 ⟨λi H=>∃b x,pf K H a b/\b[i]?=some x,λi H x c=>c=H/\∀b,pf K H a b->b[i]?=some x,λi H=>∃b,pf K H a b/\b.length<=i⟩
def jv(lo:Int)(n:Nat):It:=⟨λi _=>i<n,λi H x a=>a=H/\x=.int (lo+i),λi _=>n<=i⟩
theorem VT{K:PySem.W.Frag}(a g:Addr):Turn P w K tg (Ez K a) [g] g (λi h=>h.IsListIter g a i) where
 mem:=by simp
 obj:=λi h st b f=>by
  have e:=by simpa using f
  subst e;obtain⟨o,e,c,d⟩:=st;exact⟨o,e,λv z=>by rw[d]at z;cases z⟩
 keep:=λi h L st k=>st.at λo e=>k g (by simp) o e
 item:=by
  intro X t q y J i W s M H E I m st r;subst t q y;obtain⟨N,x,l,G⟩:=r;obtain⟨Y,n,p,R⟩:=I.list l;obtain⟨u,T,Q⟩:=n.get G;obtain⟨F,D,U,C,B,A⟩:=m g (by simp)
  refine wpAny_pyNext_list_item st p.isList (by simpa using T) λL j O=>?_
  obtain⟨o,e,c,d⟩:=id j;exact⟨u,rfl,Bw e c d rfl ⟨x,H,(I.turned (λb o f e=>(O.2 b f).trans e) F D C B A),Q,⟨rfl,λZ S=>by rwa [I.lg S l]⟩,j,λb f=>(m b f).1⟩⟩
 done:=by
  intro X t q y J i W s M H E I m st r;subst t q y;obtain⟨N,l,G⟩:=r;obtain⟨Y,n,p,R⟩:=I.list l;obtain⟨F,D,U,C,B,A⟩:=m g (by simp)
  have hl:=n.length;exact wpAny_pyNext_list_end (I.ok.hd J) st p.isList (by simp;lia) λL V=>⟨rfl,I.turned (λb o f e=>V b o f e) F D C B A⟩
 self:=λ_ _ _ _ _ st h=>wpAny_pyIter_listiter st h
def â{K:PySem.W.Frag}(a g:Addr):Turn P w K tg (MF K a) [g] g (λi h=>h.IsTupleIter g a i) where
 mem:=by simp
 obj:=λi h st b f=>by
  have e:=by simpa using f
  subst e;obtain⟨o,e,c,d⟩:=st;exact⟨o,e,λv z=>by rw[d]at z;cases z⟩
 keep:=λi h L st k=>st.at λo e=>k g (by simp) o e
 item:=by
  intro X t q y J i W s M H E I m st r;subst t q y;obtain⟨N,x,l,G⟩:=r;obtain⟨Y,n,p,R⟩:=I.tuple l;obtain⟨u,T,Q⟩:=n.get G;obtain⟨F,D,U,C,B,A⟩:=m g (by simp)
  refine wpAny_pyNext_tuple_item st (p) (by simpa using T) λL j O=>?_
  obtain⟨o,e,c,d⟩:=id j;exact⟨u,rfl,Bw e c d rfl ⟨x,H,(I.turned (λb o f e=>(O.2 b f).trans e) F D C B A),Q,⟨rfl,λZ S=>by rwa [I.yf S l]⟩,j,λb f=>(m b f).1⟩⟩
 done:=by
  intro X t q y J i W s M H E I m st r;subst t q y;obtain⟨N,l,G⟩:=r;obtain⟨Y,n,p,R⟩:=I.tuple l;obtain⟨F,D,U,C,B,A⟩:=m g (by simp)
  have hl:=n.length;exact wpAny_pyNext_tuple_end (I.ok.hd J) st (p) (by simp;omega) λL V=>⟨rfl,I.turned (λb o f e=>V b o f e) F D C B A⟩
 self:=λ_ _ _ _ _ st h=>wpAny_pyIter_tupleiter st h
theorem ã{K:PySem.W.Frag}(a:Addr)(lo:Int)(n:Nat):Turn P w K tg (jv lo n) [a] a (λi h=>IsRangeIter h a (lo+(i:Nat)*1) ((n:Int)-(i:Nat)) 1) where
 mem:=by simp
 obj:=λi h st b c=>by
  have e:=by simpa using c
  subst e;exact⟨_,st,λv z=>by
   cases z⟩
 keep:=λi h A st k=>k a (by simp) _ st
 item:=by
  intro X x u y j i J s B H E I f st g;subst x u y;obtain⟨r,q,F,p,m,l⟩:=f a (by simp)
  refine(Walks.range (prog:=X.prog) (w:=X.w) (I.ok.hd j) a lo 1 n).item i s _ _ g st λv A L D d C=>?_
  obtain⟨t,rfl⟩:=D;refine⟨_,rfl,Bw d rfl rfl rfl ⟨.int _,H,(I.turned (λb o c e=>C b o (by simpa using c) e) r q p m l),⟨t,?_⟩,⟨rfl,rfl⟩,d,λb c=>(f b c).1⟩⟩
  rw[Int.mul_one]
 done:=by
  intro X x u y j i J s B H E I f st g;obtain⟨r,q,F,p,m,l⟩:=f a (by simp)
  exact wpAny_pyNext_range_end (I.ok.hd j) st (by have:n<=i:=g;lia) λA G=>⟨rfl,I.turned (λb o c e=>G b o c e) r q p m l⟩
 self:=λ_ _ _ _ _ st h=>wpAny_pyIter_rangeiter st h
section
variable{X:Cx}{tg:Expr}
def bOn(K:PySem.W.Frag)(e:TE):TI:=λc H R=>e c H λx b=>∃a,x=.ref a/\(∃d,Dc K b a d)/\R (Ez K a) b
def bG8(k:PE X l tl):PI X tg l (bOn X.K tl):=by
 intro m s f H R I h;refine Kb (k m s f H _ I h) λv d ⟨x,n,c,g,i⟩=>?_
 obtain⟨a,e,⟨r,j⟩,q⟩:=i;subst e;cases g;obtain⟨w,t,p,u⟩:=c.list j;refine xx p.isList<|⟨d.heap.objs.size,[d.heap.objs.size],_,_,n,rfl,c.kept λb o e=>Lc _ e,VT a _,⟨_,Ve _ rfl,rfl,rfl⟩,λb hb=>?_,q⟩
 have e:=by simpa using hb
 subst e;exact c.Ci (Cb _)<|c.Xa.fresh<|Cb _
theorem GV{R:It->v6}{E:bv}{lo hi:Int}{t:Tok}{c:Nat}(I:za X ba σ H s)(h : -(2^62)<=lo)(g:lo<2^62)(f : -(2^62)<=hi)(d:hi<2^62)
  (q:R (jv lo (hi-lo).toNat) H):wpAny (model X.prog X.w) X.A (pyIter<|.ref s.heap.objs.size) (NR X ba σ tg R) E {s with heap:=s.heap.push {cls:=.type "range",data:=.fields #[.int lo t,.int hi u,.int 1 v]},toks:=c}:=by
 refine wpAny_pyIter_range (IsRange.new ..) (small_one h g f d) ?_
 have a:za X ba σ H {s with heap:=s.heap.push {cls:=.type "range",data:=.fields #[.int lo t,.int hi u,.int 1 v]},toks:=c}:=I.kept λb o e=>Lc _ e
 refine⟨(s.heap.push {cls:=.type "range",data:=.fields #[.int lo t,.int hi u,.int 1 v]}).objs.size,[(s.heap.push {cls:=.type "range",data:=.fields #[.int lo t,.int hi u,.int 1 v]}).objs.size],_,_,H,rfl,
  a.kept λb o e=>Lc _ e,ã _ lo (hi-lo).toNat,?_,λb hb=>?_,q⟩
 .have e1:lo+((0:Nat))*1=lo:=by simp
  have e2:(((hi-lo).toNat):Int)-((0:Nat))=Builtin.Range.rangeSize lo hi 1:=by rw[rangeSize_one];split<;>lia
  rw[e1,e2];exact Ve _ rfl
 have e:b=(s.heap.push {cls:=.type "range",data:=.fields #[.int lo t,.int hi u,.int 1 v]}).objs.size:=by simpa using hb
 subst e;exact a.Ci (Cb _)<|a.Xa.fresh<|Cb _
def bOo(c:TA):TI:=λa H R=>c a H λb d=>∃j:Int,b=[.int j]/\-(2^62)<=j/\j<2^62/\R (jv 0 j.toNat) d
def bOp(c:TA):TI:=λa H R=>c a H λb d=>∃i j:Int,b=[.int i,.int j]/\(-(2^62)<=i/\i<2^62/\-(2^62)<=j/\j<2^62)/\R (jv i (j-i).toNat) d
theorem Ġ{a:Expr}(i:Gl X "range")(g:X.mg "range"=none)(k:PA X [a] ta)(hs:starEach [a] X.env=[(false,eval a X.env)]:=by rfl):PI X tg (.Call (.Name "range" p) [a] [] pos) (bOo ta):=by
 intro l s c H R I h;refine Call_<|Bo I i g boot_range<|kx (Kb (k pos l s c H _ I h) λn o ⟨m,u,I1,r1,b⟩=>?_) hs rfl
 obtain⟨j,e,b,f,q⟩:=b;subst e;cases r1 with
 |cons r d=>
  cases d;obtain⟨t,rfl⟩:=r;exact call_range_1<|GV I1 (by lia) (by lia) b f<|by simpa using q
def ġ{a b:Expr}(u:Gl X "range")(o:X.mg "range"=none)(v:PA X [a,b] ta)(hs:starEach [a,b] X.env=[(false,eval a X.env),(false,eval b X.env)]:=by rfl)(f:starEach [b] X.env=[(false,eval b X.env)]:=by rfl) :
  PI X tg (.Call (.Name "range" p) [a,b] [] pos) (bOp ta):=by
 intro w s g H R I h;refine Call_<|Bo I u o boot_range<|kx (Kb (v pos w s g H _ I h) λy A ⟨x,B,I1,r1,d⟩=>?_) (by rw[hs,f])<|by rw[f];rfl
 obtain⟨i,j,e,⟨d,n,m,l⟩,q⟩:=d;subst e;cases r1 with
 |cons r c=>
  cases c with
  |cons k c=>
   cases c;obtain⟨t,rfl⟩:=r;obtain⟨z,rfl⟩:=k;exact call_range_2<|GV I1 d n m l q
def bRz(e:TI)(g:TG)(f:TS):TS:=λD a H=>e a H λJ j=>∃W:Nat->Nat->St->v6,(∃m,W 0 m a j)/\∀i m a H,W i m a H->
 (J.stop i H/\D.nx a H)\/(J.go i H/\∃N:St->v6,(∀d b,N d b->∃c,c < m/\W (i+1) c d b)/\∀x b,J.av i H x b->g x a b λk h=>f {D with nx:=N,ct:=N,bk:=D.nx} k h)
def NJ(a:db)(h:Heap):f8:=a.filterMap λb=>(h.get? b).map λo=>(b,o)
def yH{a:db}{h:Heap}{b:Addr}(c:b∈a)(e:h.get? b=some o):(b,o)∈NJ a h:=List.mem_filterMap.mpr ⟨b,c,by rw[e];rfl⟩
def Ģ{p:Addr×Obj}(a:p∈NJ fp h):p.1∈fp/\h.get? p.1=some p.2:=by
 obtain⟨b,c,e⟩:=List.mem_filterMap.mp a;cases q:h.get? b with
 |none=>rw[q]at e;cases e
 |some o=>
  rw[q]at e;have d:=Te e;subst d;exact⟨c,q⟩
def za.pinned{a:db}(I:za X ba σ H s)(i:∀b∈a,Jj X ba H b)(h:∀b∈a,∃o,s.heap.get? b=some o/\∀v,o.data≠.cell v):za X (ba++NJ a s.heap) σ H s:=
 I.fh λp g=>(wg.mp g).elim (λz=>I.pin p<|se _ z) λz=>by
  obtain⟨c,e⟩:=Ģ z;obtain⟨l,k,j,_⟩:=i p.1 c;obtain⟨o,f,d⟩:=h p.1 c;rw[e]at f;cases f;exact⟨e,l,k,j,d⟩
def za.Be{a pl:f8}(I:za X (a++pl) σ H s):za X a σ H s:=I.fh λp b=>I.pin p<|se _<|Ke _ b
def OJ(B:PassesOwn (model X.prog X.w) X.A X.env X.xe)(S:X.calm=true)(hi:PI X tg iter wi)(hg:PG X tg g)(c:Pc X body tb)
  (hs:∀x,foldedSetIterable iter X.env x=pure x:=by intro _;rfl):PS X (.For tg iter body [] pos) (bRz wi g tb):=by
 intro t s O H D I h;refine wpAny_For (Kb (hi t s O H _ I h) λv s1 h1=>Kb h1 λJP s2 h2=>?_) hs
 obtain⟨it,E,P,J,H2,e,I2,T,Rc,U,W,⟨m0,w0⟩,turn⟩:=h2;subst e;have M:∀{l:Hp},(∀b∈E,l b=none)->∀b∈E,Jj X t l b:=λhn b c=>⟨hn b c,(U b c).2⟩
 refine codeAny_forLoop_any (λn R=>∃i A l,za X t A l R/\P i R.heap/\(∀b∈E,l b=none)/\W i n A l) ?_ m0 ⟨0,O,H2,I2,Rc,λb c=>(U b c).1,w0⟩
 rintro n Q ⟨i,C,F,Y,y,V,w3⟩;rcases turn i n C F w3 with ⟨w,qn⟩|⟨go,N,hN,step⟩
 .refine Tq B (Kb (T.done X rfl rfl rfl S i t Q C F X.xe Y (M V) y w) λr s4 ⟨hr,I4⟩=>?_)
  subst hr;exact OD ⟨C,F,I4,qn⟩
 refine Tq B<|Kb (T.item X rfl rfl rfl S i t Q C F X.xe Y (M V) y go) λr s4 ⟨u,hr,h4⟩=>?_
 subst hr;refine Tq B<|Kb h4 λ_ s5 ⟨x,Z,I5,r5,y5,q,L⟩=>?_
 refine Tq B<|Kb (hg _ s5 C Z x u _ (I5.pinned (M L)<|T.obj _ _ q) r5<|step x Z y5) λ_ s6 ⟨G,H6,I6,q6⟩=>Tq B<|Kb (c _ s6 G H6 _ I6 q6) λf K p=>?_
 have again:∀{a:St}{k:Hp},za X _ a k K->N a k->∃m,m<n/\∃i A l,za X t A l K/\P i K.heap/\(∀b∈E,l b=none)/\W i m A l:=λ{a k} j z=>by
  obtain⟨m',hm,w7⟩:=hN a k z;refine⟨m',hm,i+1,a,k,j.Be,T.keep _ _ _ q λb c o e=>(j.pin (b,o)<|se _<|se _<|yH c e).1,λb c=>?_,w7⟩
  obtain⟨o,e,d⟩:=T.obj _ _ q b c;exact(j.pin (b,o)<|se _<|se _<|yH c e).2.1
 cases f with
 |next=>obtain⟨a,k,j,z⟩:=p;exact again j z
 |cont=>obtain⟨a,k,j,z⟩:=p;exact again j z
 |brk=>obtain⟨a,k,j,p⟩:=p;exact⟨a,k,j.Be,p⟩
 |ret v=>obtain⟨x7,a,k,j,r7,p⟩:=p;exact⟨x7,a,k,j.Be,r7,p⟩
end
abbrev R2:=V->FS
def Zd(X:Cx)(f:Value->Value->Sem Value)(r:R2):Prop:=
 ∀(b:f8) (s:Shared) (a:St) (H:Hp) (x y:V) (v u:Value) (Q:VK),za X b a H s->RelV x v->RelV y u->r x y H Q->
  wpAny (model X.prog X.w) X.A (f v u) (EP X b a Q) X.xe s
def PF(X:Cx)(f:Value->Sem Value)(r:FS):Prop:=
 ∀(b:f8) (s:Shared) (a:St) (H:Hp) (x:V) (v:Value) (Q:VK),za X b a H s->RelV x v->r x H Q->
  wpAny (model X.prog X.w) X.A (f v) (EP X b a Q) X.xe s
def nJ(X:Cx)(f:Value)(r:FM):Prop:=
 ∀(d:f8) (s:Shared) (a:St) (H:Hp) (b:nw) (c:jp) (Q:VK),za X d a H s->Ha b c->r b H Q->
  wpAny (model X.prog X.w) X.A (call f c) (EP X d a Q) X.xe s
def qo(r:R2)(c b:TE):TE:=λa H Q=>c a H λx e=>b a e λy d=>r x y d Q
def tUn(r:FS)(b:TE):TE:=λa H Q=>b a H λx c=>r x c Q
def rI(C:Int->Int->Prop)(g:Int->Int->V):R2:=λx y H Q=>∃i j,x=.int i/\y=.int j/\C i j/\Q (g i j) H
def Wh(g:Int->Int->V):R2:=λx y H Q=>∃i j,x=.int i/\y=.int j/\Q (g i j) H
def rU(g:Int->V):FS:=λx H Q=>∃i,x=.int i/\Q (g i) H
section
variable{X:Cx}{a b c:Expr}{ta tb tc:TE}{pos:Pos}
def FL(p:PE X a ta)(o:PE X b tb){e:f8}{s:Shared}{c:St}{H:Hp}{R:V->V->Hp->Prop}(I:za X e c H s)
  (h:ta c H λx g=>tb c g λy d=>R x y d) {Q:bv} {f:Value->Value->Sem Value}
  (n:∀v u s2 x y d,za X e c d s2->RelV x v->RelV y u->R x y d->wpAny (model X.prog X.w) X.A (f v u) Q X.xe s2) :
  wpAny (model X.prog X.w) X.A (eval a X.env) (λv w=>wpAny (model X.prog X.w) X.A (eval b X.env) (λu q=>wpAny (model X.prog X.w) X.A (f v u) Q X.xe q) X.xe w) X.xe s:=by
 exact Kb (p e s c H _ I h) λv i ⟨x,g,t,k,m⟩=>Kb (o e i c g _ t m) λu s2 ⟨y,d,r,j,l⟩=>n v u s2 x y d r k j l
def w4(g:Zd X (binaryOp op) r)(j:PE X a ta)(i:PE X b tb):PE X (.BinOp a op b pos) (qo r ta tb):=by
 intro k s c H Q I h;exact wpAny_BinOp<|FL j i I h λv u d x y m l f e q=>g k d c m x y v u Q l f e q
def bOq{r:FS}(g:PF X (unaryOp op) r)(i:PE X a ta):PE X (.UnaryOp op a pos) (tUn r ta):=by
 intro c s b H Q I h;exact UnaryOp_<|Kb (i c s b H _ I h) λv d ⟨x,k,j,e,f⟩=>g c d b k x v Q j e f
def Vu{f:Value->Value->Sem Value}{C:Int->Int->Prop}{g:Int->Int->Int}
  (rule:∀(i j:Int)(t u:Tok)(s:Shared)(Q:bv)(E:bv),C i j->Q (.int (g i j) s.toks) {s with toks:=s.toks+1}->wpAny (model X.prog X.w) X.A (f (.int i t)<|.int j u) Q E s) :
  Zd X f (rI C λi j=>.int<|g i j):=by
 intro k s e H x y v u Q I c b h;obtain⟨i,j,rfl,rfl,d,q⟩:=h;obtain⟨t,rfl⟩:=c;obtain⟨a,rfl⟩:=b;exact rule i j t a s _ _ d ⟨.int<|g i j,H,I.tok _,⟨_,rfl⟩,q⟩
def HC{f:Value->Value->Sem Value}{g:Int->Int->Int}
  (rule:∀(i j:Int)(t u:Tok)(s:Shared)(Q:bv)(E:bv),Q (.int (g i j) s.toks) {s with toks:=s.toks+1}->wpAny (model X.prog X.w) X.A (f (.int i t)<|.int j u) Q E s) :
  Zd X f (Wh λi j=>.int<|g i j):=by
 intro e s d H x y v u Q I c b h;obtain⟨i,j,rfl,rfl,q⟩:=h;obtain⟨t,rfl⟩:=c;obtain⟨a,rfl⟩:=b;exact rule i j t a s _ _ ⟨.int<|g i j,H,I.tok _,⟨_,rfl⟩,q⟩
def IC{f:Value->Value->Sem Value}{g:Int->Int->Bool}
  (rule:∀(i j:Int)(t u:Tok)(s:Shared)(Q:bv)(E:bv),Q (.bool<|g i j) s->wpAny (model X.prog X.w) X.A (f (.int i t)<|.int j u) Q E s) :
  Zd X f (Wh λi j=>.bl<|g i j):=by
 intro e s d H x y v u Q I c b h;obtain⟨i,j,rfl,rfl,q⟩:=h;obtain⟨t,rfl⟩:=c;obtain⟨a,rfl⟩:=b;exact rule i j t a s _ _ ⟨.bl<|g i j,H,I,rfl,q⟩
def bS0(i j:Int):Prop:=0<j/\j<1073741824
def n5(i j:Int):Prop:=0<=j/\j<=1000000/\i.natAbs<2^64
def Tw(i j:Int):Prop:=(-(2^64)<i/\i<2^64)\/(-(2^64)<j/\j<2^64)
def Tw.ok(h:Tw i j):IntMulOk i j:=by
 rcases h with ⟨b,a⟩|⟨b,a⟩
 .exact .of_left (intBits_le_64 b a)
 exact .of_right<|intBits_le_64 b a
def ä(k:Nat):(0:Int)<=2^k:=by
 exact MM _
def N1:Zd X (binaryOp .Add) (Wh λi j=>.int<|i+j):=HC λ_ _ _ _ _ _ _ q=>add_int q
def bKz:Zd X (binaryOp .Sub) (Wh λi j=>.int<|i-j):=HC λ_ _ _ _ _ _ _ q=>sub_int q
def bL0:Zd X (binaryOp .Mult) (rI Tw λi j=>.int<|i*j):=Vu λ_ _ _ _ _ _ _ a q=>mul_int q a.ok
theorem bGb:Zd X (binaryOp .FloorDiv) (rI bS0 λi j=>.int<|i/j):=Vu λi j _ _ _ _ _ a q=>by
 have c:=a.1;have b:=a.2;exact floordiv_int (by lia) (by rwa [m6 i (by lia)])<|.inl<|PyProof.noPylong_small<|by lia
theorem bL1:Zd X (binaryOp .Mod) (rI (λ_ j=>0<j) λi j=>.int<|i%j):=Vu λi j _ _ _ _ _ a q=>by
 exact mod_int' (by lia) (by rwa [Int.fmod_eq_emod_of_nonneg i (by lia)])
def bL2:Zd X (binaryOp .Pow) (rI n5 λi j=>.int<|i^j.toNat):=Vu λ_ _ _ _ _ _ _ a q=>pow_int_small a.1 a.2.1 a.2.2 q
def bL3:Zd X (binaryOp .LShift) (rI n5 λi j=>.int<|i*2^j.toNat):=Vu λ_ _ _ _ _ _ _ a q=>lshift_int_small a.1 a.2.1 a.2.2 q
def bL4:Zd X (binaryOp .RShift) (rI (λ_ j=>0<=j) λi j=>.int<|i/2^j.toNat):=Vu λi j _ _ _ _ _ a q=>
 rshift_int a (by rwa [m6 i<|ä _])
def bL5:Zd X (binaryOp .BitAnd) (Wh λi j=>.int<|Builtin.bitAnd i j):=HC λ_ _ _ _ _ _ _ q=>and_int q
def bOs:Zd X (binaryOp .BitOr) (Wh λi j=>.int<|Builtin.bitOr i j):=HC λ_ _ _ _ _ _ _ q=>or_int q
def unI{f:Value->Sem Value}{g:Int->Int}
  (rule:∀(i:Int)(t:Tok)(s:Shared)(Q:bv)(E:bv),Q (.int (g i) s.toks) {s with toks:=s.toks+1}->wpAny (model X.prog X.w) X.A (f<|.int i t) Q E s) :
  PF X f (rU λi=>.int<|g i):=by
 intro c s b H x v Q I a h;obtain⟨i,rfl,q⟩:=h;obtain⟨t,rfl⟩:=a;exact rule i t s _ _ ⟨.int<|g i,H,I.tok _,⟨_,rfl⟩,q⟩
def bL6:PF X (unaryOp .USub) (rU λi=>.int<|-i):=unI λ_ _ _ _ _ q=>neg_int q
def PJ{Q:VK}{k a:Bool}(I:za X ba σ H s)(q:Q (.bl k) H)(e:k=a):EP X ba σ Q (.bool a) s:=by
 subst e;exact⟨.bl k,H,I,rfl,q⟩
def Cw:Zd X (compareOp .Lt) (Wh λi j=>.bl<|decide (i<j)):=IC λ_ _ _ _ _ _ _ q=>lt_int q
def bOt:Zd X (compareOp .LtE) (Wh λi j=>.bl<|decide (i<=j)):=IC λ_ _ _ _ _ _ _ q=>le_int q
def Vm:Zd X (compareOp .Gt) (Wh λi j=>.bl<|decide (j<i)):=IC λ_ _ _ _ _ _ _ q=>gt_int q
def RB:Zd X (compareOp .GtE) (Wh λi j=>.bl<|decide (j<=i)):=IC λ_ _ _ _ _ _ _ q=>ge_int q
def ģ:Zd X (compareOp .In) (λx y H Q=>∃i j,x=.str i/\y=.str j/\Q (.bl<|!(Builtin.Str.occurrences j i 0 j.length 1).isEmpty) H):=by
 intro e s c H x y v u Q I b a h;obtain⟨i,j,rfl,rfl,q⟩:=h;obtain⟨t,rfl⟩:=b;obtain⟨d,rfl⟩:=a;exact in_str<|PJ I q rfl
def bL7:Zd X (compareOp .Is) (λx y H Q=>y=.Bb/\Q (.bl<|decide (x=.Bb)) H):=by
 intro d s c H x y v u Q I b a h;obtain⟨rfl,q⟩:=h;cases a;refine is_none_gen<|PJ I q ?_;cases x<;>first
  |(rfl)
  |(obtain⟨t,rfl⟩:=b;rfl)
def ύ:Zd X (compareOp .NotIn) (λx y H Q=>∃i j,x=.str i/\y=.str j/\Q (.bl<|!(!(Builtin.Str.occurrences j i 0 j.length 1).isEmpty)) H):=by
 intro e s c H x y v u Q I b a h;obtain⟨i,j,rfl,rfl,q⟩:=h;obtain⟨t,rfl⟩:=b;obtain⟨d,rfl⟩:=a;exact notIn_str<|PJ I q rfl
def Zd.or{f:Value->Value->Sem Value}(h:Zd X f r)(e:Zd X f r'):Zd X f (λx y H Q=>r x y H Q\/r' x y H Q):=by
 intro d s a H x y v u Q I c b q;rcases q with q|q
 .exact h d s a H x y v u Q I c b q
 exact e d s a H x y v u Q I c b q
def O1(b:Expr){op:CmpOp}(h:op≠.In:=by decide)(a:op≠.NotIn:=by decide):behindInMarks op b=false:=by
 have e1:(op==CmpOp.In)=false:=by cases op<;>first|rfl|exact absurd rfl h
 have e2:(op==CmpOp.NotIn)=false:=by cases op<;>first|rfl|exact absurd rfl a
 cases b<;>simp[behindInMarks,e1,e2]
def bGc(g:Zd X (compareOp op) r)(k:PE X a ta)(j:PE X b tb)(i:behindInMarks op b=false):PE X (.Compare a [op] [b] pos) (qo r ta tb):=by
 intro l s c H Q I h;exact wpAny_Compare1 (FL k j I h λv u d x y n m f e q=>g l d c n x y v u Q m f e q) i
def B4(t:TE):TT:=λa H Q=>t a H λx b=>∃k,x=.bl k/\Q k b
def WX(o:Zd X (compareOp op) r)(t:PE X a ta)(q:PE X b tb)(p:behindInMarks op b=false):PT X (.Compare a [op] [b] pos) (B4<|qo r ta tb):=by
 intro f s d H Q I h;refine wpAny_isTrue_Compare1 (Kb (t f s d H _ I h) λv i ⟨x,C,A,l,n⟩=>Kb (q f i d C _ A n) λu g ⟨y,B,w,j,m⟩=>
  Kb (o f g d B x y v u _ w l j m) λc D ⟨z,H3,I3,r3,k,e,q3⟩=>?_) p
 subst e;cases r3;exact Qq ⟨H3,I3,q3⟩
def yt:(sizeLine:Nat)<2^63:=by decide
def å:Zd X (binaryOp .Add) (λx y H Q=>∃i j,x=.str i/\y=.str j/\i.length+j.length<=sizeLine/\Q (.str<|i++j) H):=by
 intro g s e H x y v u Q I c b h;obtain⟨i,j,rfl,rfl,d,q⟩:=h;obtain⟨t,rfl⟩:=c;obtain⟨a,rfl⟩:=b;exact add_str (λa f=>⟨.str _,H,I.tok _,⟨_,rfl⟩,q⟩) d
def vals1{x:V}(r:Ha [x] us):∃u,us=[u]/\RelV x u:=by
 cases r with
 |cons b a=>cases a;exact⟨_,rfl,b⟩
def vals2{x y:V}(r:Ha [x,y] us):∃u a,us=[u,a]/\RelV x u/\RelV y a:=by
 cases r with
 |cons e d=>
  cases d with
  |cons c b=>cases b;exact⟨_,_,rfl,e,c⟩
def WT(b:X.calm=true):nJ X (.builtin "max") (λxs H Q=>∃i j,xs=[.int i,.int j]/\Q (.int<|if j>i then j else i) H):=by
 intro m s c H xs e Q I r h;obtain⟨i,j,rfl,q⟩:=h;obtain⟨u,d,rfl,⟨t,rfl⟩,⟨g,rfl⟩⟩:=vals2 r;refine max_two_ints (I.ok.hd b) λl f k=>⟨_,H,I.kept k,?_,q⟩
 by_cases a:j>i
 .rw[Ka a,Ka a];exact⟨_,rfl⟩
 rw[Ea a,Ea a];exact⟨_,rfl⟩
def Ĥ:nJ X (.type "int") (λxs H Q=>(∃i,xs=[.int i]/\Q (.int i) H)\/∃k,xs=[.bl k]/\Q (.int<|if k then 1 else 0) H):=by
 intro d s b H xs c Q I r h;rcases h with ⟨i,rfl,q⟩|⟨k,rfl,q⟩
 .obtain⟨u,rfl,t,rfl⟩:=vals1 r;exact call_int_int ⟨.int i,H,I,⟨_,rfl⟩,q⟩
 obtain⟨u,rfl,a⟩:=vals1 r;cases a;exact call_int_bool ⟨.int _,H,I.tok _,⟨_,rfl⟩,q⟩
end
structure oi(h:Heap)(x dx C:Addr)(mA:kt):Prop where
 obj:h.get? x=some (PySem.W.instObj C dx)
 ns:h.Ns1 dx mA
 ne:dx≠x
def ĥ{h:Heap}{d:kt}(n:h.Ns1 dx d):∃c,h.get? dx=some c/\∀b,PySem.W.lookIn b c=some (d b):=by
 obtain⟨o,l,p,g,k,j,_,i⟩:=n;refine⟨o,g,λb=>?_⟩
 have e:=i b;unfold nsFind findBy at e;rw[<-Array.find?_toList]at e;unfold PySem.W.lookIn;rw[k];dsimp only;split
 .rename_i y q;rw[q]at e;exact congrArg some e
 rename_i q;rw[q]at e;have a:l.toList.any (·.refKey)=false:=by
  rw[ID];intro y f;obtain⟨z,t,m⟩:=j y<|Array.mem_toList_iff.mp f;simp[DictEntry.refKey,m]
 rw[Ea (by rw[a];exact zk)]
 exact congrArg some e
def oi.look{c:kt}(I:oi h x dx C c):∃b,PySem.W.InstAt h x (PySem.W.instObj C dx) C (some b)/\∀a,PySem.W.lookIn a b=some (c a):=
 let ⟨b,d,e⟩:=ĥ I.ns
 ⟨b,⟨I.obj,rfl,rfl,d⟩,e⟩
section
variable{prog:Program}{w:World}{A:Around}{E:bv}{s:Shared}{K:PySem.W.Frag}{x dx C f:Addr}{mA:kt}{name:Str}{v:Value}
def bGd{Q:bv}(X:K.In s.heap)(I:oi s.heap x dx C mA)(d:PySem.W.plainGet K C name=true)(c:PySem.W.hasDictIn K C=true)
  (e:PySem.W.findIn K (.ref C) name=some none) (a:mA name=some v) (f:PySem.W.handedIn v=true) (h:Q v {s with toks:=s.toks+1}) :
  wpAny (model prog w) A (getAttr (.ref x) name expr) Q E s:=by
 obtain⟨g,J,b⟩:=I.look;exact PySem.W.get_value X J (IM d).1 (PySem.W.findObj_own c e rfl<|by rw[b,a]) f h
def ų{Q:Value×List Value->Shared->Prop}(X:K.In s.heap)(I:oi s.heap x dx C mA)(a:PySem.W.plainGet K C name=true)
  (g:PySem.W.findIn K (.ref C) name=some (some<|.ref f)) (d:PySem.W.isFn K (.ref f)=true) (c:mA name=none) (h:Q (.ref f,[.ref x]) s) :
  wpAny (model prog w) A (getMethod (.ref x) name pl) Q E s:=by
 obtain⟨b,J,e⟩:=I.look;exact PySem.W.method_fn X J (IM a).1 (IM a).2 g (Ih.mp d) (by show (PySem.W.lookIn name b).map _=some false;rw[e,c];rfl) h
theorem bGe{Q:wE}(X:K.In s.heap)(I:oi s.heap x dx C mA)
  (hs:PySem.W.findIn K (.ref C) "__setattr__"=some (some<|.builtin "object.__setattr__")) (l:PySem.W.plainOver K C=true) (k:PySem.W.takerIn K C name=some none) (m:PySem.W.hasDictIn K C=true)
  (j:PySem.Within mA ns) (q:ns.length<=sizeLine)
  (h:∀a,oi a x dx C (λy=>if y=name then some v else mA y)->Heap.SameBut dx s.heap a->Q () {s with heap:=a,toks:=s.toks+2}) :
  wpAny (model prog w) A (setAttr (.ref x) name v) Q E s:=by
 obtain⟨r,J,u⟩:=I.look;refine PySem.W.set_plain X J hs<|PySem.W.osa_open X J l k λb=>?_
 obtain⟨z,n,e⟩:=PySem.W.any_some m;refine Oa<|vc<|Oa<|Oa<|wpAny_loadPart I.obj<|Oa<|PySem.W.Looks.here (PySem.W.looks_clsIn X n) ?_;rw[e];refine vc<|Oa<|vc<|Oa<|wpAny_nsSet1 I.ns λa g i=>?_
 obtain⟨t,o,p,c,d,f⟩:=g.count<|PySem.Within.cons name v j;exact Oa<|wpAny_lookBehind c (by rw[d];exact pastItsLine_dict<|Vc f<|by rw[ie];lia)<|vc<|h _ ⟨(i.2 _<|Qg I.ne).trans I.obj,g,I.ne⟩ i
def Ŵ{R:Result->u8}{vs:jp}{b:wv}(X:K.In s.heap)(c:PySem.W.makesIn K C=true)
  (hi:PySem.W.findIn K (.ref C) "__init__"=some (some<|.ref f)) (d:PySem.W.typeIn K (.ref f)=some (.type "function"))
  (h:codeAny (model prog w) (A.under<|.builtin "type.__call__" ⟨.ref C::vs,b⟩) (.call (.ref f) ⟨.ref (s.heap.objs.size+1)::vs,b⟩) (PySem.W.InitBack (s.heap.objs.size+1) R)
   {s with heap:=(s.heap.push PySem.W.emptyDict).push (PySem.W.instObj C s.heap.objs.size)}) :
  codeAny (model prog w) A (.call (.ref C) ⟨vs,b⟩) R s:=by
 exact PySem.W.make_core (PySem.W.makes_of X c) (PySem.W.looks_findIn X hi) (λa=>PySem.W.bind_fn X a d) (.inl rfl) h
end
noncomputable def xh(f:Str)(v:V):List (Str×V)->List (Str×V)
 |[]=>[(f,v)]
 |(g,x)::r=>if g=f then (g,v)::r else (g,x)::xh f v r
theorem AS(f g:Str)(v:V):∀fs:wn,(xh f v fs).lookup g=if g=f then some v else fs.lookup g
 |[]=>by
  show List.lookup g [(f,v)]=_
  by_cases h:g=f
  .simp[List.lookup,(beq_iff_eq.mpr h),if_pos h]
  simp only[List.lookup,(beq_eq_false_iff_ne.mpr h),if_neg h]
 |(k,x)::r=>by
  rw[show xh f v _=(if k=f then (k,v)::r else (k,x)::xh f v r) from rfl]
  by_cases a:k=f
  .rw[Ka a]
   by_cases h:g=k
   .simp[List.lookup,(beq_iff_eq.mpr h),if_pos<|h.trans a]
   simp[List.lookup,(beq_eq_false_iff_ne.mpr h),if_neg (λe:g=f=>h<|e.trans a.symm)]
  rw[Ea a]
  by_cases h:g=k
  .simp only[List.lookup,(beq_iff_eq.mpr h),if_neg (λe:g=f=>a<|h.symm.trans e)]
  simp[List.lookup,(beq_eq_false_iff_ne.mpr h)];exact AS f g v r
theorem SG(f:Str)(v:V):∀fs:wn,f∈(xh f v fs).map (·.1)/\∀g,g∈fs.map (·.1)->g∈(xh f v fs).map (·.1)
 |[]=>⟨by simp[xh],λg h=>by simp at h⟩
 |(k,x)::r=>by
  obtain⟨c,b⟩:=SG f v r;rw[show xh f v _=(if k=f then (k,v)::r else (k,x)::xh f v r) from rfl]
  by_cases a:k=f
  .subst a;exact⟨by simp,λg h=>by simpa using h⟩
  rw[Ea a];refine⟨?_,λg h=>?_⟩
  .exact Ab _ c
  rcases Pb.mp h with e|e
  .exact Pb.mpr (.inl e)
  exact Ab _<|b g e
theorem BS(f:Str)(v:V):∀fs:wn,(xh f v fs).length<=fs.length+1
 |[]=>by simp[xh]
 |(k,x)::r=>by
  have b:=BS f v r;rw[show xh f v _=(if k=f then (k,v)::r else (k,x)::xh f v r) from rfl]
  by_cases a:k=f
  .rw[Ka a,ie,ie];lia
  rw[Ea a,ie,ie];lia
def lh.some_of(r:lh (some v) o):∃u,o=some u/\RelV v u:=by
 cases o with
 |none=>exact(r).elim
 |some u=>exact⟨u,rfl,r⟩
def lh.none_of(r:lh none o):o=none:=by
 cases o with
 |none=>rfl
 |some u=>exact(r).elim
def Ħ(r:RelV v u):PySem.W.handedIn u=true:=by
 cases v with
 |Bb=>cases (r);rfl
 |bl b=>cases (r);rfl
 |int i=>obtain⟨t,e⟩:=(r);cases e;rfl
 |str x=>obtain⟨t,e⟩:=(r);cases e;rfl
 |cE b=>obtain⟨t,e⟩:=(r);cases e;rfl
 |Lu b=>obtain⟨t,e⟩:=(r);cases e;rfl
 |ref a=>cases (r);rfl
 |ty n=>cases (r);rfl
section
variable{P:Program}{w:World}{H H':Hp}{h h':Heap}{a C dx:Addr}{fs fs':wn}
def CI(i:Je P w H h)(e:H a=some (.ins C dx fs)):∃b,oi h a dx C b/\(∀f,lh (fs.lookup f)<|b f)/\PySem.Within b (fs.map (·.1))/\fs.length<=1000/\H dx=some (.own a):=by
 obtain⟨d,z,g,c,b,n,r,q⟩:=((i a _ e));exact⟨b,⟨c,n,g⟩,r,q,z,d⟩
end
structure wm(K:PySem.W.Frag)(C:Addr):Prop where
 pg:PySem.W.plainGet K C Str.empty=true
 hd:PySem.W.hasDictIn K C=true
 po:PySem.W.plainOver K C=true
 sa:PySem.W.findIn K (.ref C) "__setattr__"=some (some<|.builtin "object.__setattr__")
def wm.get{K:PySem.W.Frag}(c:wm K C)(f:Str):PySem.W.plainGet K C f=true:=c.pg
def mZ(K:PySem.W.Frag)(C:Addr)(f:Str):Prop:=PySem.W.findIn K (.ref C) f=some none
def mZ.jz{K:PySem.W.Frag}(n:mZ K C f):PySem.W.takerIn K C f=some none:=by
 unfold PySem.W.takerIn;rw[n];rfl
structure Meth(K:PySem.W.Frag)(C:Addr)(m:Str)(f:Addr):Prop where
 at_:PySem.W.findIn K (.ref C) m=some (some<|.ref f)
 fn:PySem.W.isFn K (.ref f)=true
 kp:PySem.W.keepIn K (.ref f)=true
section
variable{X:Cx}{ba:f8}{σ:St}{H:Hp}{s:Shared}{a C dx:Addr}{fs:wn}{f:Str}{v:V}{A:Around}{E:bv}
def æ{Q:bv}(I:za X ba σ H s)(e:H a=some (.ins C dx fs))(c:wm X.K C)(n:mZ X.K C f)(l:fs.lookup f=some v)
  (h:∀u d,za X ba σ H d->RelV v u->Q u d):wpAny (model X.prog X.w) A (getAttr (.ref a) f b) Q E s:=by
 obtain⟨j,O,r,_,_,_⟩:=CI I.Xa e;obtain⟨u,i,g⟩:=lh.some_of (by rw[<-l];exact r f)
 exact bGd I.Fg O (c.get f) c.hd n i (Ħ g)<|h u _ (I.tok _) g
def ç{Q:Value×List Value->Shared->Prop}(I:za X ba σ H s)(e:H a=some (.ins C dx fs))(c:wm X.K C)(k:Meth X.K C m g)(l:fs.lookup m=none)
  (h:Q (.ref g,[.ref a]) s):wpAny (model X.prog X.w) A (getMethod (.ref a) m pl) Q E s:=by
 obtain⟨b,O,r,_,_,_⟩:=CI I.Xa e;exact ų I.Fg O (c.get m) k.at_ k.fn (lh.none_of<|by rw[<-l];exact r m) h
theorem è{Q:wE}(I:za X ba σ H s)(e:H a=some (.ins C dx fs))(c:wm X.K C)(n:mZ X.K C f)(w:fs.length<1000)(v:RelV y u)
  (h:∀j,za X ba σ (Ua H a<|.ins C dx<|xh f y fs) j->Q () j):wpAny (model X.prog X.w) A (setAttr (.ref a) f u) Q E s:=by
 obtain⟨l,O,r,i,_,m⟩:=CI I.Xa e;refine bGe I.Fg O c.sa c.po n.jz c.hd i (by rw[lc,Km];lia) λx d k=>h _<|I.write (by rw[e];exact True.intro) (.inr m) (λb q p z=>(k.2 b p).trans z) (let ⟨o,_,_,t,_⟩:=d.ns;⟨o,t⟩)<|⟨by rwa [bA O.ne],?_,O.ne,d.obj,_,d.ns,λg=>?_,λg hg=>?_⟩
 .have:=BS f y fs;lia
 .rw[AS]
  by_cases q:g=f
  .rwa [Ka q,Ka q]
  rw[Ea q,Ea q];exact r g
 by_cases q:g=f
 .rw[q];exact(SG f y fs).1
 refine(SG f y fs).2 g (i g λz=>hg ?_)
 show (if g=f then some u else l g)=none
 rwa [Ea q]
def za.made(I:za X ba σ H s):za X ba σ (Ua (Ua H s.heap.objs.size<|.own<|s.heap.objs.size+1) (s.heap.objs.size+1)<|.ins C s.heap.objs.size [])
  {s with heap:=(s.heap.push PySem.W.emptyDict).push (PySem.W.instObj C s.heap.objs.size)}:=by
 have e1:(s.heap.push PySem.W.emptyDict).get? s.heap.objs.size=some PySem.W.emptyDict:=Ve s.heap rfl;refine(I.laid (o:=.own _) (t':=s.toks) (λb u q=>Lc _ q) (Cb _) ⟨_,e1⟩).laid (λb u q=>Lc _ q) (Nat.le_of_eq<|oh _ _) ?_
 have a:s.heap.objs.size≠s.heap.objs.size+1:=Bf<|Uq _;refine⟨by rw[bA a,bG],He _,a,(by
  have:=Ve (s.heap.push PySem.W.emptyDict) (o:=PySem.W.instObj C s.heap.objs.size) rfl
  rwa [oh]at this),λ_=>none,(Heap.Ns1.of_empty<|⟨PySem.W.emptyDict, #[],_,e1,rfl,(λe d=>absurd d<|by simp),λ_=>rfl⟩).at λo q=>Lc _ q,λ_=>True.intro,λy c=>absurd rfl c⟩
def bGf{f:Str}{s:Shared}{Q:bv}(a:Nf e f env)
  (h:wpAny (model prog w) A (eval e env) (λo b=>wpAny (model prog w) A (getAttr o f true) Q E b) E s):wpAny (model prog w) A (eval (.Attribute e f pos) env) Q E s:=
 Attribute_any_ h (by rw[arm_eval_Attribute,a])
end
def bS1(K:PySem.W.Frag)(d:TE)(f:Str):TE:=λc H Q=>d c H λx b=>∃a C e fs v,x=.ref a/\b a=some (.ins C e fs)/\wm K C/\mZ K C f/\fs.lookup f=some v/\Q v b
def bS2(K:PySem.W.Frag)(g e:TE)(f:Str):TS:=λD b H=>e b H λy h=>g b h λx d=>∃a C c fs,x=.ref a/\d a=some (.ins C c fs)/\wm K C/\mZ K C f/\fs.length<1000/\
 D.nx b (Ua d a<|.ins C c<|xh f y fs)
section
variable{X:Cx}{o e value:Expr}{f:Str}{pos pos' sR:Pos}{ta tv:TE}
def bL8(he:PE X e ta)(i:Nf e f X.env):PE X (.Attribute e f pos) (bS1 X.K ta f):=by
 intro m s b H Q I h;refine bGf i<|Kb (he m s b H _ I h) λu y ⟨x,r,p,d,a,C,z,fs,v,j,k,c,n,l,q⟩=>?_
 subst j;obtain rfl:u=Value.ref a:=d;exact æ p k c n l λt w o g=>⟨v,r,o,g,q⟩
def bL9(i:PE X o ta)(g:PE X value tv)(hs:Uh value (some<|.Attribute o f pos') pos.line X.env):PS X (.Assign [.Attribute o f pos'] value pos) (bS2 X.K ta tv f):=by
 intro d s b H D I h;refine plainObj_wpAny_Assign_Attribute (Kb (g d s b H _ I h) λu e ⟨y,m,k,ry,q⟩=>Kb (i d e b m _ k q) λov r ⟨x,v,I2,rx,a,C,t,fs,ex,ea,c,n,l,q2⟩=>?_) hs
 subst ex;obtain rfl:ov=Value.ref a:=rx;exact è I2 ea c n l ry λp j=>⟨b,_,j,q2⟩
end
section
variable{X:Cx}{ba:f8}{σ:St}{H:Hp}{s:Shared}{A:Around}{E:bv}{Q:bv}{c:Value}{b:Bool}
inductive Pf (K:PySem.W.Frag) (H:Hp):V->Value->Prop where
 |Bb:Pf K H .Bb (.type "NoneType")
 |bl (x:Bool):Pf K H (.bl x) (.type "bool")
 |int (i:Int):Pf K H (.int i) (.type "int")
 |str (x:Str):Pf K H (.str x) (.type "str")
 |Lu (x:UInt64):Pf K H (.Lu x) (.type "float")
 |lst {a:Addr} {xs:nw} (e:H a=some (.lst xs)):Pf K H (.ref a) (.type "list")
 |Mf {a:Addr} {o:Obj} {xs:nw} (e:H a=some (.Mf o<|.lst xs)):Pf K H (.ref a) (.type "list")
 |tup {a:Addr} {xs:nw} (e:H a=some (.tup xs)):Pf K H (.ref a) (.type "tuple")
 |dK {a:Addr} {ka:ls} (e:H a=some (.dK ka)):Pf K H (.ref a) (.type "dict")
 |dT {a:Addr} {ka:FB} (e:H a=some (.dT ka)):Pf K H (.ref a) (.type "dict")
 |ins {a C dx:Addr} {fs:wn} (e:H a=some (.ins C dx fs)) (cl:wm K C) (ha:PySem.W.findIn K (.ref C) "__class__"=some (some<|.builtin "object.__class__"))
   (hn:PySem.W.specialIn K (.builtin "object.__class__") "__get__"=some (some<|.builtin "getset_descriptor.__get__")) (htk:PySem.W.takesIn K (.builtin "object.__class__")=some true)
   (hm:PySem.W.mroIn K C (.type "object")=some true):Pf K H (.ref a) (.ref C)
end
structure gb(k:Nat)(A:Around):Prop where
 hd:A.handled=none
 dp:A.depth+3*k+5<recursionLimit
 un:A.units+16*k+200<cLine
theorem gb.mono{j k:Nat}(r:gb k A)(h:j<=k):gb j A:=⟨r.hd,by have:=r.dp;lia,by have:=r.un;lia⟩
theorem gb.deeper{k:Nat}(r:gb (k+1) A)(env:Env):gb k (A.deeper env):=
 ⟨r.hd,by have:=r.dp;show A.depth+1+3*k+5<_;lia,by have:=r.un;show A.units+3+16*k+200<_;lia⟩
theorem gb.in1{k:Nat}(r:gb (k+1) A):gb k A.in1:=
 ⟨r.hd,by have:=r.dp;lia,by have:=r.un;lia⟩
def é{A:Around}{C:Addr}{a:jp}{b:wv}:(A.under<|.builtin "type.__call__" ⟨.ref C::a,b⟩).depth=A.depth+1:=by
 first|rfl|simp
def ê{A:Around}{C:Addr}{a:jp}{b:wv}:(A.under<|.builtin "type.__call__" ⟨.ref C::a,b⟩).units=A.units+1:=by
 first|rfl|simp
theorem gb.make{k:Nat}{A:Around}(r:gb (k+1) A)(C:Addr)(a:jp)(b:wv):gb k (A.under<|.builtin "type.__call__" ⟨.ref C::a,b⟩):=
 ⟨r.hd,by have:=r.dp;rw[é];lia,by have:=r.un;rw[ê];lia⟩
theorem gb.depth{k:Nat}(r:gb k A):A.depth<recursionLimit:=by have:=r.dp;lia
theorem gb.units{k:Nat}(r:gb k A):A.units+64<cLine:=by have:=r.un;lia
def o5:TA:=λ_ H Q=>Q [] H
def UK(d:TE)(c:TA):TA:=λa H Q=>d a H λx f=>c a f λb e=>Q (x::b) e
section
variable{X:Cx}{e:Expr}{es:List Expr}{te:TE}{t:TA}{pos:Pos}
def eV:PA X [] o5:=λ_ _ _ _ H Q I h=>UM ⟨[],H,I,.nil,h⟩
def cF(l:PE X e te)(k:PA X es t)(hs:Cd e es X.env:=by rfl):PA X (e::es) (UK te t):=by
 intro pos b s a H Q I h;rw[hs];refine HD<|Kb (l b s a H _ I h) λu d ⟨x,p,n,g,j⟩=>?_
 exact Kb (k pos b d a p _ n j) λq r ⟨c,o,m,f,i⟩=>⟨x::c,o,m,.cons g f,i⟩
def bS3(t:TA):TE:=λc H Q=>t c H λa b=>a.length<=sizeLine/\∀p,b p=none->Q (.ref p) (Ua b p<|.tup a)
def bS4(t:TA):TE:=λc H Q=>t c H λa b=>a.length<=sizeLine/\∀p,b p=none->Q (.ref p) (Ua b p<|.lst a)
def QJ{x1}(h:PA X es t):PE X (.Tuple es x1 pos) (bS3 t):=by
 intro j s d H Q I i;exact wpAny_Tuple_spliced<|Kb (h pos j s d H _ I i) λg a ⟨f,k,c,r,z,q⟩=>⟨by rwa [<-r.length],(⟨.ref a.heap.objs.size,Ua k a.heap.objs.size<|.tup f,c.laid (λb u e=>Lc _ e) (Cb _)<|⟨z,g,r,⟨_,Ve _ rfl,rfl,_,rfl⟩⟩,rfl,q _<|c.Xa.fresh<|Cb _⟩)⟩
def P1(h:PA X es t):PE X (.List es pos) (bS4 t):=by
 intro j s d H Q I i;exact wpAny_List_spliced<|Kb (h pos j s d H _ I i) λg a ⟨f,k,c,r,z,q⟩=>⟨by rwa [<-r.length],(⟨.ref a.heap.objs.size,Ua k a.heap.objs.size<|.lst f,c.laid (λb u e=>Lc _ e) (Cb _)<|⟨z,g,0,r,Ve _ rfl⟩,rfl,q _<|c.Xa.fresh<|Cb _⟩)⟩
end
abbrev Sp:=List V->Hp->VK->XK->Prop
abbrev Zp:=List Env->Hp->Shared->XK->bv
structure Ng(P:Program)(w:World)(K:PySem.W.Frag)(mg:kt)(base:Heap)(A:Around)(outer:v4)(s:Shared)(H:Hp):Prop where
 frames:A.frames=some outer
 mod:Mod K mg base
 bs:∀b o,base.get? b=some o->s.heap.get? b=some o/\H b=none
 Pm:base.objs.size<=s.heap.objs.size
 sf:s.heap.FunFrames base outer
 yp:∀b∈Dk outer,H b=none
 Xa:Je P w H s.heap
 bare:AllBare s.gens
def CE(a:v4)(P:Program)(w:World)(H:Hp)(s:Shared)(Q:VK)(u:Value)(b:Shared):Prop:=
 ∃v c,b.os=s.os/\AllBare b.gens/\Un (Dk a) [] H c s.heap b.heap/\Je P w c b.heap/\RelV v u/\Q v c
def CR(CX:Zp)(a:v4)(P:Program)(w:World)(H:Hp)(s:Shared)(Q:VK)(E:XK)(r:Result)(b:Shared):Prop:=
 match r with
 |.ok (.ret u)=>CE a P w H s Q u b
 |.ok _=>False
 |.error e=>CX a H s E e b
structure Aa(P:Program)(w:World)(K:PySem.W.Frag)(mg:kt)(base:Heap)(CX:Zp)(k:Nat)(f:Addr)(fd:FuncData)(ps:sB)(sp:Sp):Prop where
 len:∀vs H Q E,sp vs H Q E->vs.length=ps.length
 run:∀(A:Around)(outer:v4)(s:Shared)(H:Hp)(args:Args)(us:jp)(vs:nw)(Q:VK)(E:XK),gb k A->Ng P w K mg base A outer s H->BindsTo s fd args (ps.zip us)->Ha vs us->sp vs H Q E->
  codeAny (model P w) A (.call (.ref f) args) (CR CX outer P w H s Q E) s
def Aa.imp{K:PySem.W.Frag}{mg:kt}{k:Nat}{c:Sp}(F:Aa P w K mg base CX k f fd ps sp)
  (h:∀vs H Q E,c vs H Q E->sp vs H Q E):Aa P w K mg base CX k f fd ps c:=
 ⟨λvs H Q E q=>F.len vs H Q E<|h _ _ _ _ q,λA a s H b d vs Q E i j l e g=>F.run A a s H b d vs Q E i j l e<|h _ _ _ _ g⟩
def Ng.make{K:PySem.W.Frag}{mg:kt}{A:Around}(e:Ng P w K mg base A outer s H)(C:Addr)(a:jp)(b:wv) :
  Ng P w K mg base (A.under<|.builtin "type.__call__" ⟨.ref C::a,b⟩) outer s H:=⟨by first|exact e.frames|(simpa [Around.under,Code.envs,Code.isFrame,pushEnvs] using e.frames),e.mod,e.bs,e.Pm,e.sf,e.yp,e.Xa,e.bare⟩
theorem Ng.in1{K:PySem.W.Frag}{mg:kt}(e:Ng P w K mg base A outer s H) :
  Ng P w K mg base A.in1 outer s H:=⟨e.frames,e.mod,e.bs,e.Pm,e.sf,e.yp,e.Xa,e.bare⟩
section
variable{X:Cx}{ba:f8}{σ:St}{H:Hp}{s s':Shared}
def za.qr(I:za X ba σ H s):Ng X.prog X.w X.K X.mg X.base X.A X.stack s H:=
 ⟨I.ok.frames,I.ok.mod,I.bs,Vc I.ok.Pm I.sz,I.stack,I.Bj,I.Xa,I.bare⟩
def za.after(I:za X ba σ H s)(h:CE X.stack X.prog X.w H s Q u s'):EP X ba σ Q u s':=by
 obtain⟨v,f,os,a,un,e,r,q⟩:=h;obtain⟨i,g,d,t,c⟩:=s';obtain rfl:c=s.os:=os;exact⟨v,f,I.call un e a<|λb z=>absurd z<|by simp,r,q⟩
end
def bOv(sp:Sp)(ae:nw)(E:XK)(t:TA):TE:=λa H Q=>t a H λb c=>sp (b++ae) c Q E
def bOw(C:Addr)(m:Str)(sp:Sp)(ae:nw)(E:XK)(e:TE)(t:TA):TE:=λb H Q=>e b H λx c=>∃a f fs,x=.ref a/\c a=some (.ins C f fs)/\fs.lookup m=none/\
 t b c λd g=>sp (x::(d++ae)) g Q E
def bOx(C:Addr)(sp:Sp)(ae:nw)(E:XK)(t:TA):TE:=λc H Q=>t c H λd b=>∀x a,b x=none->b a=none->a≠x->
 sp (.ref x::(d++ae)) (Ua (Ua b a<|.own x) x<|.ins C a []) (λv e=>v=.Bb/\Q (.ref x) e) E
def Binds(K:PySem.W.Frag)(b:FuncData)(ps:sB)(ds:jp):Prop:=
 ∀(s:Shared)(a:jp),K.In s.heap->(a++ds).length=ps.length->BindsTo s b ⟨a,[]⟩ (ps.zip<|a++ds)
def Binds.all{K:PySem.W.Frag}{ps:sB}(h:∀a:jp,a.length=ps.length->bindArgs fd ⟨a,[]⟩=pure (ps.zip a)):Binds K fd ps []:=λs a _ b=>by
 rw[Hh]at b ⊢;exact .of_eq<|h a b
def zt(CX:Zp)(X:Cx)(E:XK):Prop:=∀(c:f8) (b:St) (H:Hp) (s:Shared) (e:Value) (a:Shared),za X c b H s->CX X.stack H s E e a->X.xe e a
section
variable{X:Cx}{CX:Zp}{k:Nat}{f C:Addr}{fd:FuncData}{ps:sB}{sp:Sp}{ae:nw}{ds:jp}{E:XK}{x m:Str}{p pos Pa:Pos}{e o:Expr}{es:List Expr}{ta:TE}{t:TA}
def Q1(F:Aa X.prog X.w X.K X.mg X.base CX k f fd ps sp)(g:gb k X.A)(j:Binds X.K fd ps ds)(i:Ha ae ds)(d:zt CX X E)
  (I:za X ba σ H s) (r:Ha vs us) (h:sp (vs++ae) H Q E):wpAny (model X.prog X.w) X.A (call (.ref f) us) (EP X ba σ Q) X.xe s:=by
 have b:=r.append i;refine wpAny_call<|Gx (F.run X.A X.stack s H _ _ _ Q E g I.qr (j s us I.Fg<|by rw[<-b.length];exact F.len _ _ _ _ h) b h) λr c a=>?_
 cases r with
 |error e=>exact d ba σ H s e c I a
 |ok l=>
  cases l with
  |ret u=>exact I.after a
  |next=>exact False.elim a
  |brk=>exact False.elim a
  |cont=>exact False.elim a
def Iv(F:Aa X.prog X.w X.K X.mg X.base CX k f fd ps sp)(d:gb k X.A)(j:Gl X x)(g:X.mg x=some (.ref f))(i:PySem.W.keepIn X.K (.ref f)=true)(m:Binds X.K fd ps ds)(l:Ha ae ds)(c:zt CX X E)
  (n:PA X (e::es) t) (u:Yd x:=by decide) (he:Cd e es X.env:=by rfl) (je:Lg pos es X.env:=by rfl) :
  PE X (.Call (.Name x p) (e::es) [] pos) (bOv sp ae E t):=by
 intro o s b H Q I h;exact wx<|zI I j g (NM I.ok.mod.My i (Kb (n pos o s b H _ I h) λw y ⟨v,z,a,r,q⟩=>⟨a.Fg,(Q1 F d m l c a r q)⟩) he je) u
def XX(he:PE X o ta)(c:wm X.K C)(g:Meth X.K C m f)(F:Aa X.prog X.w X.K X.mg X.base CX k f fd ps sp)(y:gb k X.A)(A:Binds X.K fd ps ds)(z:Ha ae ds)(v:zt CX X E)(B:PA X (e::es) t)
  (D:Cd e es X.env:=by rfl) (je:Lg pos es X.env:=by rfl)
  (w:eval (.Call (.Attribute o m Pa) (e::es) [] pos) X.env=(do
   let d <- eval o X.env
   standAt Pa.atName
   let (f,first) <- holding [d] (getMethod d m pl)
   callWith pos f first (backTo pos<|starEach (e::es) X.env) (backToKw pos<|keywordEach [] X.env)):=by rfl) :
  PE X (.Call (.Attribute o m Pa) (e::es) [] pos) (bOw C m sp ae E ta t):=by
 intro i s b H Q I h;refine PySem.W.methodCall_KW (Kb (he i s b H _ I h) λu s1 ⟨x,H1,I1,rx,a,K,fs,ex,ea,l,q⟩=>?_) w
 subst ex;obtain rfl:u=Value.ref a:=rx;exact ç I1 ea c g l<|NM I.ok.mod.My g.kp (Kb (B pos i s1 b H1 _ I1 q) λG J ⟨n,L,j,r,p⟩=>⟨j.Fg,(Q1 (vs:=.ref a::n) F y A z v j (.cons rfl r) p)⟩) D je
structure Mk(K:PySem.W.Frag)(C f:Addr):Prop where
 makes:PySem.W.makesIn K C=true
 init:PySem.W.findIn K (.ref C) "__init__"=some (some<|.ref f)
 fn:PySem.W.isFn K (.ref f)=true
 kp:PySem.W.keepIn K (.ref C)=true
def ŵ{Q:VK}(M:Mk X.K C f)(F:Aa X.prog X.w X.K X.mg X.base CX k f fd ps sp)(n:gb (k+1) X.A)(p:Binds X.K fd ps ds)(o:Ha ae ds)
  (m:zt CX X E) (I:za X ba σ H s) (r:Ha vs us)
  (h:∀x b,H x=none->H b=none->b≠x->sp (.ref x::(vs++ae)) (Ua (Ua H b<|.own x) x<|.ins C b []) (λv y=>v=.Bb/\Q (.ref x) y) E) :
  wpAny (model X.prog X.w) X.A (call (.ref C) us) (EP X ba σ Q) X.xe s:=by
 have g:=h _ s.heap.objs.size (I.Xa.fresh<|Nat.le_succ _) (I.Xa.fresh<|Cb _)<|Bf<|Uq _;have c:=za.made (C:=C) I;have d:Ha (V.ref (s.heap.objs.size+1)::(vs++ae)) _:=.cons rfl<|r.append o;refine wpAny_call<|Ŵ I.Fg M.makes M.init (Ih.mp M.fn)<|Gx (F.run _ X.stack _ _ _ _ _ _ E (n.make C us [])
  (c.qr.make C us []) (p _ _ c.Fg (by
  have e:=d.length;rw[F.len _ _ _ _ g]at e;exact e.symm)) d g) λr i a=>?_
 cases r with
 |error e=>exact m ba σ _ _ e i c a
 |ok q=>
  cases q with
  |ret u=>
   obtain⟨v,z,w,j,t,l⟩:=c.after a;subst t;exact⟨j,⟨V.ref _,z,w,rfl,l⟩⟩
  |next=>exact False.elim a
  |brk=>exact False.elim a
  |cont=>exact False.elim a
def bGg(M:Mk X.K C f)(F:Aa X.prog X.w X.K X.mg X.base CX k f fd ps sp)(d:gb (k+1) X.A)(i:Gl X x)(g:X.mg x=some (.ref C))(l:Binds X.K fd ps ds)(j:Ha ae ds)(c:zt CX X E)
  (m:PA X (e::es) t) (o:Yd x:=by decide) (he:Cd e es X.env:=by rfl) (je:Lg pos es X.env:=by rfl) :
  PE X (.Call (.Name x p) (e::es) [] pos) (bOx C sp ae E t):=by
 intro n s b H Q I h;exact wx<|zI I i g (NM I.ok.mod.My M.kp (Kb (m pos n s b H _ I h) λv w ⟨u,y,a,r,q⟩=>⟨a.Fg,(ŵ M F d l j c a r q)⟩) he je) o
end
structure Tb(N P:sB)(sc:Scope):Prop where
 kind:sc.kind=.function
 co:sc.isCoroutine=false
 gen:sc.isGenerator=false
 nd:N.Nodup
 pre:N.take P.length=P
 ak:∀x∈P,sc.names.lookup x=some .local\/sc.names.lookup x=some .cell
 Vr:∀y∈sc.names,y.2≠.free
theorem XT{kindOf:Str->Option NameKind}{x:Str}:∀{binds:wv} {m:kt},(∀v,(x,v)∉binds)->bindL kindOf binds m x=m x
 |[],_,_=>rfl
 |(n,v)::r,m,h=>by
  unfold bindL;rw[XT λw a=>h w<|Ab _ a]
  split
  .have:x≠n:=by rintro rfl;exact h v zb
   simp[this]
  rfl
theorem YT{kindOf:Str->Option NameKind}{x:Str}:∀{binds:wv} {m:kt},(∀v,(x,v)∉binds)->bindC kindOf binds m x=m x
 |[],_,_=>rfl
 |(n,v)::r,m,h=>by
  unfold bindC;rw[YT λw a=>h w<|Ab _ a]
  split
  .rfl
  have:x≠n:=by rintro rfl;exact h v zb
  simp[this]
theorem ZT{kindOf:Str->Option NameKind}:∀{P:sB}{vs:jp}{i:Nat}{m:kt},P.Nodup->P[i]?=some x->vs[i]?=some v->kindOf x=some .local->
  bindL kindOf (P.zip vs) m x=some v
 |[],_,_,_,_,h,_,_=>by simp at h
 |_::_,[],_,_,_,_,h,_=>by simp at h
 |p::P,w::vs,0,m,c,b,a,d=>by
  simp at b a;subst b;subst a;show bindL kindOf ((p,w)::P.zip vs) m p=_;unfold bindL;rw[XT λv e=>(aj.mp c).1 (fN e).1,Ka d]
  simp
 |p::P,w::vs,i+1,m,c,b,a,d=>by
  unfold bindL;exact ZT (aj.mp c).2 (by simpa using b) (by simpa using a) d
theorem hU{kindOf:Str->Option NameKind}:∀{P:sB}{vs:jp}{i:Nat}{m:kt},P.Nodup->P[i]?=some x->vs[i]?=some v->kindOf x≠some .local->
  bindC kindOf (P.zip vs) m x=some v
 |[],_,_,_,_,h,_,_=>by simp at h
 |_::_,[],_,_,_,_,h,_=>by simp at h
 |p::P,w::vs,0,m,c,b,a,d=>by
  simp at b a;subst b;subst a;show bindC kindOf ((p,w)::P.zip vs) m p=_;unfold bindC;rw[YT λv e=>(aj.mp c).1 (fN e).1,Ea d]
  simp
 |p::P,w::vs,i+1,m,c,b,a,d=>by
  unfold bindC;exact hU (aj.mp c).2 (by simpa using b) (by simpa using a) d
noncomputable def start(N:sB)(vs:nw):St:=vs.map some++List.replicate (N.length-vs.length) none
noncomputable def Kj(CX:Zp)(P:Program)(w:World)(K:PySem.W.Frag)(mg:kt)(base:Heap)(N:sB)(b:Str)(a:Scope)(f:Addr)(c:Value)(A:Around)(outer:v4)(s:Shared)(H:Hp)(E:XK):Cx where
 prog:=P
 w:=w
 K:=K
 mg:=mg
 base:=base
 A:=A.deeper<|envOfC b a s.heap.objs.size f c
 N:=N
 Ca:=s
 Ja:=H
 env:=envOfC b a s.heap.objs.size f c
 outer:=outer
 stack:=envOfC b a s.heap.objs.size f c::outer
 ex:=[]
 calm:=true
 fn:=λ_=>true
 pn:=[]
 xe:=λe g=>wpAny (model P w) (A.deeper<|envOfC b a s.heap.objs.size f c) (leaving (envOfC b a s.heap.objs.size f c) e) (λ_ d=>CX outer H s E e d) (λh d=>CX outer H s E h d) g
def HV{a:Scope}(h:a.names.lookup x=some .cell):∃c,(cellsFrom n a.names []).lookup x=some c:=by
 exact E6.mp<|Q6 a.names n []<|.inl h
theorem ħ{K:PySem.W.Frag}{mg:kt}{A:Around}{vs:nw}
  (S:Tb N ps scope) (C:A.handled=none) (d:Ng P w K mg base A outer s H) (G:vs.length=ps.length) (r:Ha vs us)
  (x:InCallC s s.heap.objs.size (bindL (envOfC qual scope s.heap.objs.size f cd).kindOf (ps.zip us) λ_=>none) (cellsFrom (s.heap.objs.size+1) scope.names []) (bindC (envOfC qual scope s.heap.objs.size f cd).kindOf (ps.zip us) λ_=>none) s1) :
  za (Kj CX P w K mg base N qual scope f cd A outer s H E) [] (start N vs) H s1:=by
 have F:ps.length<=N.length:=by have:=congrArg List.length S.pre;rw[List.length_take]at this;lia
 obtain⟨m,D,rfl,o⟩:=x.done;have g:∀b:Addr,b∉(Kj CX P w K mg base N qual scope f cd A outer s H E).ex:=λb z=>absurd (show b∈([]) from z) (by simp)
 refine⟨⟨d.mod,S.kind,rfl,rfl,Cb _,λy z c m h2=>?_,λy hy=>?_,λy c _ h=>?_,λ_=>C,Around.frames_deeper d.frames,.inr ⟨rfl,rfl⟩,λb z=>absurd z<|g b,d.bs,d.Pm,λb _ _=>g b,λb z=>absurd z<|g b,d.sf,d.yp⟩,
  rfl,d.bare,Un.kept o,⟨_,x.toInCall.ns,λi y v m h2 I=>?_⟩,λy c h=>⟨_,x.cell y c h⟩,d.Xa.fresh<|Cb _,λy c h=>?_,λp j=>absurd (show p∈([]) from j) (by simp),d.Xa.kept o,?_⟩
 .exact name_of_addr x.apart (Mj m) (Mj h2)
 .rcases hy with hy|hy
  .exact HV hy
  exact absurd rfl<|S.Vr _<|Mj hy
 .exact Pj (x.above y c<|Mj h)
 .have l:i<vs.length:=by
   unfold start at h2
   by_cases l:i<vs.length
   .exact l
   rw[Lq (by simpa using l),List.getElem?_replicate]at h2
   split at h2<;>cases h2
  obtain⟨u,n,B⟩:=r.get (by
   unfold start at h2;rw[Yk (by simpa using l),List.getElem?_map]at h2
   cases e:vs[i]? with
   |none=>rw[e]at h2;cases h2
   |some a=>rw[e]at h2;cases h2;rfl)
  have j:ps[i]?=some y:=by
   rwa [<-S.pre,List.getElem?_take_of_lt (by lia)]
  have t:ps.Nodup:=by rw[<-S.pre];exact S.nd.sublist<|List.take_sublist _ _
  refine⟨u,B,?_⟩;rcases S.ak y (xi j) with k|k
  .exact .inl ⟨k,ZT t j n k⟩
  obtain⟨c,e⟩:=HV k;refine .inr ⟨.inl k,c,e,?_⟩;have q:=x.cell y c e
  rwa [hU t j n (by show scope.names.lookup y≠_;rw[k];decide)]at q
 .exact d.Xa.fresh (Pj<|x.above y c<|Mj h)
 unfold start;show _=N.length;rw[ef,lc,List.length_replicate];lia
def C4{K:PySem.W.Frag}{mg:kt}{k:Nat}{kV z:Value}{y:pi}
  {p:pp} {sp:Sp} (lk:K.lookup f=some ⟨z,y,.func<|PySem.W.fnOf name qual params body scope dV kV doc pm an Hb ct,p⟩) (L:PySem.W.codeIn K Hb qual=true) (S:Tb N ps scope)
  (len:∀vs H Q E,sp vs H Q E->vs.length=ps.length)
  (I:∀(A:Around)(outer:v4)(s:Shared)(H:Hp)(vs:nw)(Q:VK)(E:XK),gb k (A.deeper<|envOfC qual scope s.heap.objs.size f Hb)->sp vs H Q E->
   ∃t,Pc (Kj CX P w K mg base N qual scope f Hb A outer s H E) body t/\t {nx:=λ_ a=>Q .Bb a,rt:=Q} (start N vs) H) :
  Aa P w K mg base CX (k+1) f (PySem.W.fnOf name qual params body scope dV kV doc pm an Hb ct) ps sp:=by
 refine⟨len,λA outer s H j M vs Q E hr e0 hb r hsp=>?_⟩
 have l:=e0.mod.My.keeps λb o e=>(e0.bs b o e).1
 refine codeAny_call_function hr.depth (l _ _ lk) rfl S.co S.gen rfl (PySem.W.codeRec_of l L)<|hb _ _ _ _<|wpAny_newFunctionEnv_cells S.kind (λ⟨n,v⟩ B=>by
  rcases S.ak n (fN B).1 with q|q
  .exact .inl q
  exact .inr ⟨q,Q6 _ _ _<|.inl q⟩) λG F m x=>?_
 subst F;refine⟨(e0.mod.nolimit.keeps λb o e=>(e0.bs b o e).1).keeps x.toInCall.keep,codeAny_func ?_⟩
 obtain⟨t,C,D⟩:=I A outer s H vs Q E (hr.deeper _) hsp;refine zi (C [] m _ H _ (ħ S hr.hd e0 (len _ _ _ _ hsp) r x) D) (λfl h c=>?_) λe h c=>c
 have d:∀{g:St}{a:Hp}{v:V}{u:Value},za (Kj CX P w K mg base N qual scope f Hb A outer s H E) [] g a h->RelV v u->Q v a->CE outer P w H s Q u h:=
  λ{g a v u} J i q=>⟨v,a,J.os,J.bare,J.base,J.Xa,i,q⟩
 cases fl with
 |ret u=>
  obtain⟨v,g,a,J,i,q⟩:=c;exact d J i q
 |next=>
  obtain⟨g,a,J,q⟩:=c;exact d (v:=V.Bb) J rfl q
 |brk=>
  obtain⟨_,_,_,q⟩:=c;exact False.elim q
 |cont=>
  obtain⟨_,_,_,q⟩:=c;exact False.elim q
section
variable{X:Cx}{x:Str}{p pos:Pos}{e:Expr}{es:List Expr}{t:TA}{id T:String}{r:FM}
def XQ(r:FM)(t:TA):TE:=λa H Q=>t a H λb c=>r b c Q
def pG(n:nJ X (.builtin id) r)(m:Gl X x)(l:X.mg x=none)(j:bootBuiltins x=some (.builtin id))(o:PA X (e::es) t)(k:x≠"__name__":=by decide)(v:Yd x:=by decide)
  (he:Cd e es X.env:=by rfl) (je:Lg pos es X.env:=by rfl):PE X (.Call (.Name x p) (e::es) [] pos) (XQ r t):=by
 intro b s a H Q I h;exact wx<|Bo I m l j (PyProof.Rows.callWith_builtin1 (Kb (o pos b s a H _ I h) λd f ⟨c,u,q,g,i⟩=>n b f a u c d Q q g i) he je) k v
def uK(n:nJ X (.type T) r)(m:Gl X x)(l:X.mg x=none)(j:bootBuiltins x=some (.type T))(o:PA X (e::es) t)(k:x≠"__name__":=by decide)(v:Yd x:=by decide)
  (he:Cd e es X.env:=by rfl) (je:Lg pos es X.env:=by rfl):PE X (.Call (.Name x p) (e::es) [] pos) (XQ r t):=by
 intro b s a H Q I h;exact wx<|Bo I m l j (kx (Kb (o pos b s a H _ I h) λd f ⟨c,u,q,g,i⟩=>n b f a u c d Q q g i) he je) k v
end
end L2
namespace HT
open PySem PyProof.Rows
section
open PySem.SeqAt
open PySem.AutoSeq1 (wpAny_loadPart')
open PySem.MeetsSeq PySem.MeetsSeq2 PySem.MeetsSeq3
end
section
variable{prog:Program}{w:World}{A:Around}{E:bv}{s:Shared}
noncomputable def Ud(n d:Nat):Option Int->Nat
 |none=>d
 |some v=>if v<0 then (v+(n:Int)).toNat else min v.toNat n
def qg(n d:Nat):Ud n d none=d:=rfl
def jh(n d k:Nat):Ud n d (some (k:Int))=min k n:=by
 show (if (k:Int)<0 then ((k:Int)+(n:Int)).toNat else min (k:Int).toNat n)=min k n
 rw[Ea (by omega),Du]
end
end HT
namespace L2
open PySem PySem.Spec PyProof.Rows
abbrev TO:=St->Hp->(Option Int->Hp->Prop)->Prop
def PO(X:Cx)(e:Option Expr)(t:TO):Prop:=
 ∀(b:f8) (s:Shared) (a:St) (H:Hp) (Q:Option Int->Hp->Prop),za X b a H s->t a H Q->
  wpAny (model X.prog X.w) X.A (evalPart e X.env) (λu d=>∃o c,za X b a c d/\IsPart u o/\Q o c) X.xe s
def bGh:TO:=λ_ H Q=>Q none H
def bOy(t:TE):TO:=λa H Q=>t a H λx b=>∃i,x=.int i/\Q (some i) b
section
variable{X:Cx}{e:Expr}{te:TE}{lo hi:Option Expr}{tl th:TO}{pos p2:Pos}
def bGi:PO X none bGh:=by
 intro b s a H Q I h;exact vc ⟨none,H,I,.none,h⟩
def bGj(h:PE X e te):PO X (some e) (bOy te):=by
 intro f s a H Q I d;refine Kb (h f s a H _ I d) λu k ⟨x,j,g,b,c⟩=>?_
 obtain⟨i,rfl,q⟩:=c;obtain⟨t,rfl⟩:=b;exact⟨some i,j,g,.int i t,q⟩
def fq(X:Cx)(r:re):Prop:=
 ∀(e:f8) (s:Shared) (a:St) (H:Hp) (x:V) (v c b:Value) (lo hi:wP) (d:Addr) (Q:VK),za X e a H s->RelV x v->s.heap.IsSliceOf d c b .none->IsPart c lo->IsPart b hi->r x lo hi H Q->
  ∃T id,typeLookup (.type T) "__getitem__"=pure (some<|.builtin id)/\s.TypeIs v T/\wpAny (model X.prog X.w) X.A (getItem v<|.ref d) (EP X e a Q) X.xe s
def fq.or{r f:re}(h:fq X r)(l:fq X f):fq X (λx lo hi H Q=>r x lo hi H Q\/f x lo hi H Q):=by
 intro k s a H x v c b lo hi d Q I e j i g q;rcases q with q|q
 .exact h k s a H x v c b lo hi d Q I e j i g q
 exact l k s a H x v c b lo hi d Q I e j i g q
def tSl(r:re)(te:TE)(b c:TO):TE:=λa H Q=>te a H λx f=>b a f λl e=>c a e λu d=>r x l u d Q
def IV{r:re}(z:fq X r)(he:PE X e te)(A:PO X lo tl)(w:PO X hi th):PE X (.Subscript e (.Slice lo hi none p2) pos) (tSl r te tl th):=by
 intro c s a H Q I h;refine Subscript_<|Kb (he c s a H _ I h) λv j ⟨x,K,F,k,o⟩=>?_
 refine wpAny_Slice<|Kb (A c j a K _ F o) λg i ⟨l,J,E,t,n⟩=>Kb (w c i a J _ E n) λf d ⟨u,G,D,p,m⟩=>vc ?_
 obtain⟨T,id,C,y,B⟩:=z c {d with heap:=d.heap.push {cls:=.type "slice",data:=.fields #[g,f,.none]} } a G x v g f l u d.heap.objs.size Q (D.kept λb L q=>Lc _ q) k (Heap.IsSliceOf.new ..) t p m
 exact tail_any y C B (by with_unfolding_all rfl)
def Uw(xs:nw)(lo hi:wP):nw:=(xs.drop<|HT.Ud xs.length 0 lo).take<|HT.Ud xs.length xs.length hi-HT.Ud xs.length 0 lo
theorem ϲ(xs:nw)(lo hi:wP):(Uw xs lo hi).length<=xs.length:=by
 unfold Uw;rw[List.length_take,List.length_drop];lia
end
noncomputable def kg(n:Nat)(i:Int):wS:=if 0<=i then (if i<n then some i.toNat else none) else if -(n:Int)<=i then some (i+n).toNat else none
def Tc{a:Type}(xs:List a)(i:Int):Option a:=(kg xs.length i).bind λj=>xs[j]?
theorem YX{n:Nat}(h:kg n i=some j):seqIndex? i n=some j/\j<n/\-(n:Int)<=i/\i<n:=by
 unfold kg at h
 by_cases b:0<=i
 .rw[Ka b]at h
  by_cases a:i<n
  .rw[Ka a]at h;exact⟨by rw[seqIndex_of b a,(Te h)],by lia,by lia,a⟩
  rw[Ea a]at h;cases h
 rw[Ea b]at h
 by_cases a : -n<=i
 .rw[Ka a]at h;exact⟨by rw[seqIndex_neg (by lia) a,(Te h)],by lia,a,by lia⟩
 rw[Ea a]at h;cases h
def DI{a:Type}{xs:List a}{v:a}(h:Tc xs i=some v):∃j,seqIndex? i xs.length=some j/\xs[j]?=some v/\j<xs.length/\-(xs.length:Int)<=i/\i<xs.length:=by
 unfold Tc at h;cases e:kg xs.length i with
 |none=>rw[e]at h;cases h
 |some j=>
  rw[e]at h;obtain⟨f,d,c,b⟩:=YX e;exact⟨j,f,h,d,c,b⟩
theorem Jb{a:Type}{xs:List a}{j:Nat}{v:a}(h:xs[j]?=some v):Tc xs (j:Int)=some v:=by
 have b:=(pe.mp h).1;have e:kg xs.length j=some j:=by
  unfold kg;rw[Ka (by lia),Ka (by lia)];simp
 unfold Tc;rwa [e]
def Dh{a:Type}(xs:List a)(v:a):Tc (xs++[v]) (-1)=some v:=by
 have b:(xs++[v]).length=xs.length+1:=by simp
 have e:kg (xs++[v]).length (-1)=some xs.length:=by
  unfold kg;rw[b,Ea (by decide),Ka (by omega)]
  congr 1;omega
 unfold Tc;rw[e];show (xs++[v])[xs.length]?=some v;simp
def ZX(b:Expr):Prop:=∀o i,subscripted b false o i=operate [o,i] (getItem o i)
def ym(X:Cx)(r:R2):Prop:=
 ∀(b a:Expr) (d:f8) (s:Shared) (c:St) (H:Hp) (x y:V) (v u:Value) (Q:VK),za X d c H s->RelV x v->RelV y u->r x y H Q->
  subscripted a false v u=operate [v,u] (getItem v u)->wpAny (model X.prog X.w) X.A (subscriptTail b a v u) (EP X d c Q) X.xe s
def Hj(X:Cx)(id:String)(r:o0):Prop:=
 ∀(d:f8) (s:Shared) (a:St) (H:Hp) (x:V) (b:nw) (v:Value) (c:jp) (Q:VK),za X d a H s->RelV x v->Ha b c->r x b H Q->
  wpAny (model X.prog X.w) X.A (call (.builtin id)<|v::c) (EP X d a Q) X.xe s
section
variable{X:Cx}{a b:Expr}{ta tb:TE}{pos:Pos}
def ym.or(h:ym X r)(i:ym X r'):ym X (λx y H Q=>r x y H Q\/r' x y H Q):=by
 intro a b g s c H x y v u Q I e d q f;rcases q with q|q
 .exact h a b g s c H x y v u Q I e d q f
 exact i a b g s c H x y v u Q I e d q f
def WK(g:ym X r)(j:PE X a ta)(i:PE X b tb)(hs:ZX b):PE X (.Subscript a b pos) (qo r ta tb):=by
 intro k s c H Q I h;exact Subscript_<|FL j i I h λv u d x y m l f e q=>g a b k d c m x y v u Q l f e q<|hs _ _
def t5(K:PySem.W.Frag):R2:=λx y H Q=>∃p a i v,x=.ref p/\y=.int i/\Dc K H p a/\Tc a i=some v/\Q v H
def u5(K:PySem.W.Frag):R2:=λx y H Q=>∃p a i v,x=.ref p/\y=.int i/\pf K H p a/\Tc a i=some v/\Q v H
def v5:R2:=λx y H Q=>∃z i c,x=.str z/\y=.int i/\z.length<=sizeLine/\Tc z.cps.toList i=some c/\Q (.str ⟨#[c]⟩) H
theorem bGk:ym X (t5 X.K):=by
 intro c d J s m H x y v u Q I o n h g;obtain⟨p,L,i,z,rfl,rfl,B,D,q⟩:=h;cases o;obtain⟨t,rfl⟩:=n;obtain⟨K,r,e,M⟩:=I.list B;obtain⟨j,b,G,O,F,E⟩:=DI D;obtain⟨w,l,A⟩:=r.get G;have C:=r.length;have N:=yt;have a:EP X J m Q w s:=⟨z,H,I,A,q⟩
 by_cases k:0<=i
 .have f:=by
   rw[seqIndex_of k E]at b;exact Te b
  exact item_listR e.isList k (by lia) (by rw[f];simpa using l) a g
 have f:(i+K.toArray.size).toNat=j:=by
  rw[seqIndex_neg (by lia) F]at b
  rw[cf,<-C];exact Te b
 exact subscriptTail_builtinR e.isList.typeIs slot_list_getitem.lookup
  (wpAny_getItem_list_neg e.isList (by lia) (by rw[cf] <;> lia) (by lia) (by rw[f];simpa using l) ⟨rfl,a⟩) g
theorem bLa:ym X (u5 X.K):=by
 intro a b J s o H x y v u Q I e d h g;obtain⟨p,A,i,z,rfl,rfl,k,l,q⟩:=h;cases e;obtain⟨t,rfl⟩:=d;obtain⟨K,r,c,B⟩:=I.tuple k;obtain⟨j,G,m,F,E,D⟩:=DI l;obtain⟨w,n,f⟩:=r.get m;have C:=yt;exact subscriptTail_builtinR c.typeIs slot_tuple_getitem.lookup
  (getItem_tuple c (by lia) (by lia) (by rwa [cf,<-(r.length)]) (by simpa using n) ⟨rfl,(⟨z,H,I,f,q⟩)⟩) g
theorem bLb:ym X v5:=by
 intro a b C s p H x y v u Q I f e h g;obtain⟨z,i,c,rfl,rfl,w,l,q⟩:=h;obtain⟨t,rfl⟩:=f;obtain⟨r,rfl⟩:=e;obtain⟨j,d,o,B,n,m⟩:=DI l;have k:z.cps.toList.length=z.length:=by simp[Str.length]
 rw[k]at d n m;have A:=yt;exact tail_any (typeIs_str s z t) slot_str_getitem.lookup (getItem_str (by
  rw[(Qc<|by lia),(Qc<|by lia),Bool.or_false]) (by rw[d];simpa using o) ⟨.str _,H,I.tok _,⟨_,rfl⟩,q⟩) g
def Xy(K:PySem.W.Frag):R2:=λx y H Q=>t5 K x y H Q\/u5 K x y H Q\/v5 x y H Q
def RJ:ym X (Xy X.K):=bGk.or<|bLa.or bLb
def ë(a:jp)(n j:Nat)(u:Value):Obj.mapSeq (·.setIfInBounds j u) {cls:=.type "list",data:=.seq a.toArray n}={cls:=.type "list",data:=.seq (a.set j u).toArray n}:=by
 simp[Obj.mapSeq]
theorem za.lst(I:za X ba σ H s)(h:H p=some (.lst xs)) :
  ∃(a:jp)(n:Nat),Ha xs a/\s.heap.get? p=some {cls:=.type "list",data:=.seq a.toArray n}/\xs.length<=sizeLine:=by
 obtain⟨z,a,n,r,e⟩:=I.Xa p _ h;exact⟨a,n,r,e,z⟩
def za.Tr{c its':jp}{f:Obj->Obj}(I:za X ba σ H s)(h:H p=some (.lst xs))
  (g:s.heap.get? p=some {cls:=.type "list",data:=.seq c.toArray n}) (a:f {cls:=.type "list",data:=.seq c.toArray n}={cls:=.type "list",data:=.seq its'.toArray n'}) (r:Ha ys its') (d:ys.length<=sizeLine) (t:Nat) :
  za X ba σ (Ua H p<|.lst ys) {s with heap:=s.heap.update p f,toks:=t}:=by
 have e:(s.heap.update p f).get? p=some {cls:=.type "list",data:=.seq its'.toArray n'}:=by
  rw[AD f g (by rw[a] <;> rfl),a]
 exact I.write (by rw[h];trivial) (.inl rfl) (λb u i q=>(sD _ _<|Qg i).trans q) ⟨_,e⟩<|⟨d,its',n',r,e⟩
def bP2:V->V->V->Hp->(Hp->Prop)->Prop:=λo i v H Q=>∃p a k j,o=.ref p/\i=.int k/\H p=some (.lst a)/\kg a.length k=some j/\Q (Ua H p<|.lst<|a.set j v)
theorem set_list:DL X bP2:=by
 intro K s B H o i v D E u Q I w x m h;obtain⟨p,C,k,j,rfl,rfl,e,y,q⟩:=h;cases w;obtain⟨t,rfl⟩:=x;obtain⟨g,n,r,b,F⟩:=I.lst e;obtain⟨a,J,A,z⟩:=YX y;have c:=r.length;have G:=yt;have l:=
  I.Tr e b (ë g n j u) (r.set m j) (by rwa [yg]) s.toks
 by_cases f:0<=k
 .have d:=by
   rw[seqIndex_of f z]at a;exact Te a
  exact PySem.W.ki_setAt b f (by lia) (by rwa [cf,<-c]) (by rw[d];exact⟨_,l,q⟩)
 have d:(k+g.toArray.size).toNat=j:=by
  rw[seqIndex_neg (by lia) A]at a
  rw[cf,<-c];exact Te a
 exact PySem.W.ki_setBack b (by lia) (by rwa [cf,<-c]) (by lia) (by rw[d];exact⟨_,l,q⟩)
theorem ώ(lo hi:wP)(n:Nat):(sliceBounds lo hi none n).1=((HT.Ud n 0 lo:Nat):Int)/\(sliceBounds lo hi none n).2.1=((HT.Ud n n hi:Nat):Int)/\(sliceBounds lo hi none n).2.2=1:=by
 refine⟨?_,?_,rfl⟩
 .cases lo with
  |none=>simp[sliceBounds,HT.Ud]
  |some i=>
   simp only[sliceBounds,HT.Ud,Option.getD_none]
   by_cases h:i<0
   .simp only[h,if_true] <;> lia
   simp only[h,if_false] <;> lia
 cases hi with
 |none=>simp[sliceBounds,HT.Ud]
 |some i=>
  simp only[sliceBounds,HT.Ud,Option.getD_none]
  by_cases h:i<0
  .simp only[h,if_true] <;> lia
  simp only[h,if_false] <;> lia
def Α(a:jp)(lo hi:wP):slicePick a.toArray lo hi none=((a.drop<|HT.Ud a.length 0 lo).take<|HT.Ud a.length a.length hi-HT.Ud a.length 0 lo).toArray:=by
 obtain⟨d,c,b⟩:=ώ lo hi a.toArray.size;unfold slicePick;rw[d,c,b];simp only[sliceRange_one,pick_run] <;> rfl
def bS5(K:PySem.W.Frag):re:=λx lo c H Q=>∃a b,x=.ref a/\Dc K H a b/\∀p,H p=none->Q (.ref p) (Ua H p<|.lst<|Uw b lo c)
theorem yY:fq X (bS5 X.K):=by
 intro w s n H x v p o lo l t Q I e k g f h;obtain⟨a,d,rfl,j,q⟩:=h;cases e;obtain⟨y,r,c,i⟩:=I.list j;have m:=r.length;refine⟨"list",_,slot_list_getitem.lookup,c.isList.typeIs,(wpAny_getItem_list_slice c.isList k g f .none (by simp) ?_<|by rw[cf] <;> lia)⟩
 rw[Α,<-m];refine⟨.ref s.heap.objs.size,_,I.laid (λb u q=>Lc _ q) (Cb _) ?_,rfl,q _<|I.Xa.fresh<|Cb _⟩
 exact⟨Vc (ϲ d lo l) i,_,0,(r.drop _).take _,Ve _ rfl⟩
theorem Ϗ:nJ X (.builtin "len") (λxs H Q=>∃p ys,xs=[.ref p]/\(Dc X.K H p ys\/pf X.K H p ys)/\Q (.int ys.length) H):=by
 intro l s i H xs j Q I r h;obtain⟨p,ys,rfl,a,q⟩:=h;obtain⟨u,rfl,e⟩:=vals1 r;cases e;have k:=yt;rcases a with a|a
 .obtain⟨g,b,c,f⟩:=I.list a;have d:=b.length;exact Calls.call_len_list c.isList (by simp only[List.size_toArray] <;> lia) ⟨.int ys.length,H,I.tok _,⟨s.toks+1,by rw[cf,d]⟩,q⟩
 obtain⟨g,b,c,f⟩:=I.tuple a;have d:=b.length;exact len_tuple c (by simp only[List.size_toArray] <;> lia) ⟨.int ys.length,H,I.tok _,⟨s.toks+1,by rw[cf,d]⟩,q⟩
theorem ϐ:nJ X (.builtin "len") (λxs H Q=>∃z,xs=[.str z]/\z.length<=sizeLine/\Q (.int z.length) H):=by
 intro e s a H xs b Q I r h;obtain⟨z,rfl,c,q⟩:=h;obtain⟨u,rfl,t,rfl⟩:=vals1 r;have d:=yt;exact len_str (by lia) ⟨.int z.length,H,I.tok _,⟨_,rfl⟩,q⟩
def nJ.or{r d:FM}(h:nJ X f r)(g:nJ X f d):nJ X f (λxs H Q=>r xs H Q\/d xs H Q):=by
 intro e s a H xs b Q I c q;rcases q with q|q
 .exact h e s a H xs b Q I c q
 exact g e s a H xs b Q I c q
def AR(K:PySem.W.Frag)(T:String)(x:V)(H:Hp):Prop:=match x with
 |.str _=>T="str"
 |.int _=>T="int"
 |.ref p=>(T="list"/\∃b,Dc K H p b)\/(T="tuple"/\∃o,K.lookup p=some o/\o.cls=.type "tuple"/\o.dict=none)\/
   (T="dict"/\((∃a,H p=some (.dK a))\/∃a,H p=some (.dT a)))\/(T="set"/\∃S n,H p=some (.set S n))
 |_=>False
def R1(I:za X ba σ H s)(r:RelV x v)(f:AR X.K T x H) :
  s.TypeIs v T/\∀a,v=.ref a->∃j,s.heap.get? a=some j/\j.dict=none:=by
 cases x with
 |str z=>
  obtain⟨t,rfl⟩:=r;cases (f);exact⟨typeIs_str s z t,λ_ e=>nomatch e⟩
 |int i=>
  obtain⟨t,rfl⟩:=r;cases (f);exact⟨typeIs_int s i t,λ_ e=>nomatch e⟩
 |ref p=>
  cases r;rcases f with ⟨rfl,q,l⟩|⟨rfl,o,b,m,g⟩|⟨rfl,b⟩|⟨rfl,S,n,b⟩
  .obtain⟨u,_,h,_⟩:=I.list l;refine⟨h.isList.typeIs,λa e=>?_⟩
   cases e;obtain⟨o,n,e,c,g,_⟩:=h;exact⟨o,e,g⟩
  .refine⟨⟨o,I.Fg p o b,m⟩,λa e=>?_⟩
   cases e;exact⟨o,I.Fg _ o b,g⟩
  .have z:∃o,s.heap.get? p=some o/\o.ExactDict:=by
    rcases b with ⟨k,b⟩|⟨k,b⟩
    .obtain⟨_,_,_,_,o,_,_,e,d,_⟩:=I.Xa p _ b;exact⟨o,e,d⟩
    obtain⟨_,_,_,_,o,_,_,e,d,_⟩:=I.Xa p _ b;exact⟨o,e,d⟩
   obtain⟨o,e,d⟩:=z;refine⟨⟨o,e,d.1⟩,λa e2=>?_⟩
   cases e2;exact⟨o,e,d.2.1⟩
  obtain⟨o,_,_,_,e,d,_⟩:=I.Xa p _ b;refine⟨⟨o,e,d.1⟩,λa e2=>?_⟩
  cases e2;exact⟨o,e,d.2.1⟩
 |_=>exact False.elim f
def GL(K:PySem.W.Frag)(T:String)(r:o0)(c:TE):TE:=λb H Q=>c b H λx a=>AR K T x a/\r x [] a Q
def tBM(K:PySem.W.Frag)(T:String)(r:o0)(d:TE)(t:TA):TE:=λa H Q=>d a H λx b=>AR K T x b/\t a b λc e=>r x c e Q
variable{o e:Expr}{es:List Expr}{to:TE}{t:TA}{name:Str}{Pa Ga:Pos}{T id:String}{r:o0}
def jq(l:PlainAttrs T)(a:Slot T name id)(u:typeOf (.builtin id)=pure (.type "method_descriptor"))(n:Hj X id r)(m:PE X o to)
  (j:Nf o name X.env:=by rfl) (f:Gg Pa Ga:=by rfl):PE X (.Call (.Attribute o name Pa) [] [] Ga) (GL X.K T r to):=by
 intro d s b H Q I h;refine wpAny_Call_method0_late j f<|Kb (m d s b H _ I h) λv i ⟨x,t,e,c,g,k⟩=>?_
 obtain⟨q,p⟩:=R1 e c g;exact⟨T,id,l,a,u,q,p,xD rfl<|PySem.evalArgs_none<|n d i b t x [] v [] Q e c .nil k⟩
def Mt(y:PlainAttrs T)(a:Slot T name id)(J:typeOf (.builtin id)=pure (.type "method_descriptor"))(A:Hj X id r)(z:PE X o to)(B:PA X (e::es) t)
  (q:Nf o name X.env:=by rfl)
  (K:Oi Ga (e::es) X.env:=by rfl)
  (k:Gg Pa Ga:=by rfl) (hs:Cd e es X.env:=by rfl) (hplain:Lg Ga es X.env:=by rfl) :
  PE X (.Call (.Attribute o name Pa) (e::es) [] Ga) (tBM X.K T r to t):=by
 intro c s b H Q I h;refine wpAny_Call_method_late q K k rfl<|Kb (z c s b H _ I h) λv n ⟨x,G,g,d,l,w⟩=>?_
 obtain⟨D,C⟩:=R1 g d l;refine⟨T,id,y,a,J,D,C,?_⟩;have f:=B Ga c n b G _ g w;rw[hs]at f ⊢;exact xD (by show (false||(backTo Ga _).any (·.1))=false;rw[hplain] <;> rfl)<|DM<|Kb f λj m ⟨i,F,E,p,u⟩=>A c m b F x i v j Q E d p u
end
def pv(X:Cx)(id:String)(r:o0):Prop:=
 ∀(d:f8) (s:Shared) (a:St) (H:Hp) (x:V) (b:nw) (v:Value) (c:jp) (Q:VK),za X d a H s->RelV x v->Ha b c->r x b H Q->
  wpAny (model X.prog X.w) X.A (call (.builtin id)<|v::c) (EP X d a Q) X.xe s
def Ha.one:∀{x:V}{a:jp},Ha [x] a->∃u,a=[u]/\RelV x u
 |_,_,.cons r .nil=>⟨_,rfl,r⟩
def Ha.two:∀{x y:V}{a:jp},Ha [x,y] a->∃u v,a=[u,v]/\RelV x u/\RelV y v
 |_,_,_,.cons r (.cons q .nil)=>⟨_,_,rfl,r,q⟩
def Ha.zero:∀{a:jp},Ha [] a->a=[]
 |_,.nil=>rfl
theorem Ha.dropLast(h:Ha xs us):Ha xs.dropLast us.dropLast:=by
 induction h with
 |nil=>exact .nil
 |cons r t a=>
  cases t with
  |nil=>exact .nil
  |cons q b=>exact .cons r a
theorem Ha.reverse(h:Ha xs us):Ha xs.reverse us.reverse:=by
 induction h with
 |nil=>exact .nil
 |cons r t a=>rw[List.reverse_cons,List.reverse_cons];exact Ha.append a<|.cons r .nil
theorem ì{c:Type}(l:List c):l.eraseIdx (l.length-1)=l.dropLast:=by
 induction l with
 |nil=>rfl
 |cons a r d=>
  cases r with
  |nil=>rfl
  |cons b r=>
   have e:(a::b::r).length-1=((b::r).length-1)+1:=by
    have g:(a::b::r).length=r.length+2:=rfl;have f:(b::r).length=r.length+1:=rfl;lia
   rw[e,List.eraseIdx_cons_succ,d]
   all_goals rfl
section
variable{X:Cx}{ba:f8}{σ:St}{H:Hp}{s:Shared}{l b:Addr}{xs ys zs:nw}
def za.bh{a its':jp}{f:Array Value->Array Value}{t':Nat}(I:za X ba σ H s)(i:H l=some (.lst xs))
  (e:s.heap.get? l=some {cls:=.type "list",data:=.seq a.toArray n}) (g:f a.toArray=its'.toArray) (c:Ha ys its') (b:ys.length<=sizeLine) :
  za X ba σ (Ua H l<|.lst ys) {s with heap:=s.heap.update l<|Obj.mapSeq f,toks:=t'}:=by
 have q:=PySem.IsL.update e f;rw[g]at q;exact I.write (by rw[i];exact trivial) (.inl rfl) (λj u h d=>(sD s.heap _<|Qg h).trans d) ⟨_,q⟩<|⟨b,its',_,c,q⟩
def za.Py{t':Nat}(I:za X ba σ H s)(b:Ha ys Ia)(a:ys.length<=sizeLine) :
  za X ba σ (Ua H s.heap.objs.size<|.lst ys) {s with heap:=s.heap.push {cls:=.type "list",data:=.seq Ia.toArray},toks:=t'}:=
 I.laid (λ_ _ q=>Lc _ q) (Cb _) ⟨a,Ia,0,b,Ve _ rfl⟩
theorem za.fresh(I:za X ba σ H s):H s.heap.objs.size=none:=I.Xa.fresh<|Cb _
def za.dh(I:za X ba σ H s)(b:H l=some (.lst xs)):xs.length<=sizeLine/\∃(a:jp)(n:Nat),Ha xs a/\xs.length=a.length/\s.heap.get? l=some {cls:=.type "list",data:=.seq a.toArray n}:=by
 obtain⟨z,a,n,r,e⟩:=I.Xa l _ b;exact⟨z,a,n,r,r.length,e⟩
theorem Ŷ{n:Nat}(h:n<=sizeLine):Builtin.List.listTooLong n=false:=by
 exact Qc (by lia)
end
section
variable{X:Cx}
def bGl:o0:=λx b H Q=>∃l a y,x=.ref l/\b=[y]/\H l=some (.lst a)/\a.length<sizeLine/\Q .Bb (Ua H l<|.lst<|a++[y])
theorem Ĩ:pv X "list.append" bGl:=by
 intro p s g H x j v k Q I b c h;obtain⟨l,i,y,rfl,rfl,a,m,q⟩:=h;cases b;obtain⟨u,rfl,d⟩:=c.one;obtain⟨z,f,n,r,o,e⟩:=I.dh a;refine Yq mM ⟨_,e,rfl⟩ F.entry_list_append (J6 _ _) (PySem.list_append l f.toArray n u<|by rw[cf];lia) ⟨e,(⟨.Bb,_,I.bh a e (by simp) (r.append<|.cons d .nil) ?_,rfl,q⟩)⟩
 rw[ef,Yi];lia
def bGm:o0:=λx d H Q=>∃l b c a,x=.ref l/\d=[.ref b]/\H l=some (.lst c)/\H b=some (.lst a)/\c.length+a.length<=sizeLine/\Q .Bb (Ua H l<|.lst<|c++a)
theorem ĩ:pv X "list.extend" bGm:=by
 intro G s t H x B v C Q I g i h;obtain⟨l,b,A,w,rfl,rfl,a,p,D,q⟩:=h;cases g;obtain⟨u,rfl,j⟩:=i.one;cases j;obtain⟨z,d,n,r,E,e⟩:=I.dh a;obtain⟨y,c,m,k,o,e2⟩:=I.dh p;have f:d.toArray.size+c.toArray.size<=sizeLine:=by rw[cf,cf];lia
 refine Yq F.slot_list_extend ⟨_,e,rfl⟩ F.entry_list_extend (F.args_list_extend_2 _ _)
  (AutoSeq1.list_extend_list_list_0 l d.toArray n b c.toArray m (by
  rw[Ŷ f,Bool.and_false];exact zk) (by lia)<|by lia) ⟨e,e2,(⟨.Bb,_,I.bh a e (by simp) (r.append k) ?_,rfl,q⟩)⟩
 rw[ef];lia
def bS6:o0:=λx b H Q=>∃l a y,x=.ref l/\b=[]/\H l=some (.lst a)/\a[a.length-1]?=some y/\Q y (Ua H l<|.lst a.dropLast)
theorem bLd:pv X "list.pop" bS6:=by
 intro w s k H x o v p Q I c d h;obtain⟨l,m,y,rfl,rfl,b,g,q⟩:=h;cases c;have j:=d.zero;subst j;obtain⟨z,a,n,r,i,e⟩:=I.dh b;obtain⟨u,t,f⟩:=r.get g;refine Yq F.slot_list_pop ⟨_,e,rfl⟩ F.entry_list_pop (F.args_list_pop_1 _) (MeetsSeq.list_pop_last l a.toArray n u (by
  show a.toArray[a.length-1]?=some u
  rwa [<-nh,<-i])<|by rw[cf];lia) ⟨e,(⟨y,_,I.bh b e ?_ r.dropLast ?_,f,q⟩)⟩
 .rw[cf,List.eraseIdxIfInBounds_toArray,ì]
 rw[List.length_dropLast];lia
def og:o0:=λx b H Q=>∃l a,x=.ref l/\b=[]/\H l=some (.lst a)/\Q .Bb (Ua H l<|.lst [])
def bf:pv X "list.clear" og:=by
 intro o s g H x j v k Q I b c h;obtain⟨l,i,rfl,rfl,a,q⟩:=h;cases b;have d:=c.zero;subst d;obtain⟨z,f,n,r,m,e⟩:=I.dh a;refine Yq qx ⟨_,e,rfl⟩ F.entry_list_clear (F.args_list_clear_1 _) (d6 l f.toArray n<|by rw[cf];omega) ⟨e,?_⟩
 exact⟨.Bb,_,I.bh (its':=[]) (ys:=[]) a e rfl .nil<|He _,rfl,q⟩
end
end L2
namespace Att
open PySem PySem.W PySem.Calls PyProof.Rows
def J_:∀(c:lv)(vs:jp),WellAll P h vs (c.map WData.int)->IntsAre vs c:=by
 intro c
 induction c with
 |nil=>
  intro vs w;cases w;exact .nil
 |cons n c d=>
  intro vs w;cases w with
  |cons a b=>
   cases a;exact .cons _ _<|d _ b
theorem Ī{l:OpenLaw}(o:l.most=some n){P:Params}{h:Heap}{b:List WData}{c:jp}
  (i:l.row.toRowW.claim.pre b=true) (v:WellAll P h c b) :
  ∃a vs e,c=[Value.ref a]/\b=[WData.list<|e.map WData.int]/\h.get? a=some {cls:=.type "list",data:=.seq vs.toArray}/\IntsAre vs e/\e.length<=n:=by
 obtain⟨d,r,rfl,u,t⟩:=hasAllW_cons<|(pre_splitW i).1;obtain rfl:=hasAllW_nil t;obtain⟨w,rfl,s⟩:=hasW_list u;obtain⟨e,rfl⟩:=items_int s;cases v with
 |cons k j=>
  cases j;cases k with
  |list m f=>exact⟨_,_,e,rfl,rfl,m,J_ e _ f,(by
  have g:=condW_of (by
   have p:=(holds_andW<|(pre_splitW i).2).1
   rwa [o]at p) (w_not<|w_lt w_lit<|w_len_list<|w_arg rfl)
  rw[lc]at g;refine Fu λq=>?_
  first
   |(exact absurd g rfl)
   |(lia))⟩
def ī(l:OpenLaw)(a:List WData):l.row.toRowW.claim.post a (.bool true) a=true:=
 postW_of
  ((by first|rfl|decide|simp))
  ((w_eq_bool (w_res rfl) w_lit)) rfl
def Eh{l:OpenLaw}{z:(kt)->Heap->Prop}{y:IR}{d:DefRec}
  (E:l.most=some n) (A:d.params.defaults=[])
  (call:∀(w:World)(s b:Shared)(mg m:kt)(g:Addr)(o:Obj)(k j e:Value)(a:Addr)(vs:jp)(i:lv),
   Ground q loose [] z w s mg m b.heap->y w b.heap->
   b.heap.get? g=some o->o.data=.func (docDef d.name d.params d.body d.scope k j e)->b.heap.CodeRec j d.name->mg d.name=some (.ref g)->
   b.heap.get? a=some {cls:=.type "list",data:=.seq vs.toArray}->IntsAre vs i->i.length<=n->b.gens = #[]->
   codeAny (model l.prog w) callerA (.call (.ref g) ⟨[.ref a],[]⟩) (λr h=>r=.ok (.ret<|.bool true)/\OldK b.heap h.heap/\h.os=b.os/\AllBare h.gens) b) :
  WalkO q loose z y l.row.toRowW d [] (λf vs=>PySem.call f vs):=by
 intro w s b mg m G Y g o k j e M kV D I O v p H x t S N u B R T;obtain rfl:M=.none:=Dflts.none v A;obtain rfl:kV=.none:=Dflts.noKw v;obtain⟨a,vs,i,rfl,rfl,P,c,Q⟩:=Ī E N R;refine enter_call<|Gx (call w s b mg m g o k j e a vs i G Y D (fd_plain I) O p P c Q H) λr h C=>?_
 obtain⟨rfl,L,K,J⟩:=C;exact⟨.inl ⟨.bool true,.bool true,[],rfl,λ_=>rfl,.bool true,ī l _,λ_=>⟨List.Pairwise.nil,λ_ F=>(nomatch F)⟩⟩,L,K,J⟩
end Att
namespace L2
open PySem PySem.Spec PyProof.Rows
theorem gc:∀{vs:jp}{a:lv},IntsAre vs a->Ha (a.map V.int) vs
 |_,_,.nil=>.nil
 |_,_,.cons n t h=>.cons ⟨t,rfl⟩<|gc h
def dq(H:Hp):Prop:=∀b,H b=none\/∃o a,H b=some (.Mf o<|.lst a)
def ŷ{K:PySem.W.Frag}{mg B:kt}{k:Nat}{x:Str}{c:Shared}{vs:jp}
  (Q:K.In c.heap) (R:c.heap.Ns mainGlobals mg) (f:c.heap.Ns builtinsNs B) (E:∀x:Str,x≠"__name__"->B x=bootBuiltins x) (MO:c.heap.NoLimit) (Y:c.gens = #[])
  (p:c.heap.get? a=some {cls:=.type "list",data:=.seq vs.toArray}) (hi:IntsAre vs ns) (hl:ns.length<=sizeLine) (X:gb k callerA)
  (F:∀base:Heap,K.In base->base.Ns mainGlobals mg->Aa P w K mg base CX k fa fd [x] sp) (W:∀(s:Shared)(u:Value),BindsTo s fd ⟨[u],[]⟩ [(x,u)])
  (C:∀H:Hp,dq H->Dc K H a (ns.map V.int)->sp [.ref a] H (λv _=>v=.bl true) λ_ _ _=>False)
  (WN:∀H e g,CX [] H c (λ_ _ _=>False) e g->False) :
  codeAny (model P w) callerA (.call (.ref fa) ⟨[.ref a],[]⟩) (λr g=>r=.ok (.ret<|.bool true)/\OldK c.heap g.heap/\g.os=c.os/\AllBare g.gens) c:=by
 have I:=gc hi;have j:∀H:Hp,dq H->Dc K H a (ns.map V.int)->Je P w H c.heap->(∀b,H b≠none->b=a)->(H a≠none->K.lookup a=none)->
   codeAny (model P w) callerA (.call (.ref fa) ⟨[.ref a],[]⟩) (λr g=>r=.ok (.ret<|.bool true)/\OldK c.heap g.heap/\g.os=c.os/\AllBare g.gens) c:=by
  intro H L Z N M hK;have J:∀{b:Addr}{o:Obj},c.heap.get? b=some o->H b=none->(gu c.heap H).get? b=some o:=λe n=>ů e n
  have A:∀{b:Addr}{o:Obj}{t:Array DictEntry}{y:Nat},c.heap.get? b=some o->o.data=.dict t y->H b=none:=λ{b o t y} e d=>by
   cases q:H b with
   |none=>rfl
   |some u=>
    have G:=M b (by rw[q];simp)
    subst G;rw[p]at e;cases e;cases d
  have i:∀{b:Addr}{m:kt},c.heap.Ns b m->(gu c.heap H).Ns b m:=λ{b m} ⟨o,t,y,e,d,r⟩=>⟨o,t,y,J e<|A e d,d,r⟩
  have O:=λb o e=>J (Q b o e) (by
   cases q:H b with
   |none=>rfl
   |some u=>
    have G:=M b (by rw[q];simp)
    subst G;rw[hK (by rw[q];simp)]at e;cases e)
  refine Gx ((F _ O<|i R).run callerA [] c H _ [.ref a] [.ref a] _ _ X (⟨rfl,(⟨O,i R,⟨B,i f,E⟩,let ⟨U,h1,h2⟩:=MO;⟨U,i h1,h2⟩⟩),λb o e=>bG5 e,Nat.le_of_eq<|ğ _ _,trivial,λb f=>absurd (show b∈([]) from f) (by simp),N,.of_eq Y⟩) (W c<|.ref a) (.cons rfl .nil)<|C H L Z) λr g h=>?_
  cases r with
  |error e=>exact(WN H e g h).elim
  |ok fl=>
   cases fl with
   |next=>exact False.elim h
   |brk=>exact False.elim h
   |cont=>exact False.elim h
   |ret u=>
    obtain⟨v,H',os,l,un,UO,S,q⟩:=h;subst q;obtain rfl:u=Value.bool true:=S;refine⟨rfl,OldK.of_keep λb o e=>?_,os,l⟩
    cases q:H b with
    |none=>exact un.keep b o e q (by intro z;exact absurd (show b∈([]) from z)<|by simp) (by simp)
    |some u=>
     rcases L b with z|⟨T,xs,z⟩
     .rw[q]at z;cases z
     obtain⟨e1,_⟩:=N b _ z;obtain⟨e2,_⟩:=UO b _<|un.rf b T _ z;rw[e]at e1;cases e1;exact e2
 cases D:K.lookup a with
 |some o=>
  have e:=Q a o D;rw[p]at e;cases e;refine j _ (λ_=>.inl rfl) (.inr ⟨_,vs.toArray,_,D,rfl,rfl,rfl,by rwa [cf,(hi.length)],by simpa using I⟩) (λb u z=>by cases z) (λb z=>absurd rfl z) λz=>absurd rfl z
 |none=>
  refine j (λb=>if b=a then some _ else none) (λb=>?_) (.inl<|.inr ⟨{cls:=.type "list",data:=.seq vs.toArray},Ka rfl⟩) (λb u z=>?_) (λb z=>?_) λ_=>D
  .by_cases f:b=a
   .exact .inr ⟨_,_,Ka f⟩
   exact .inl<|Ea f
  .by_cases f:b=a
   .cases ((Ka f).symm.trans z);subst f;exact⟨p,by rwa [lc],vs,_,I,p⟩
   cases ((Ea f).symm.trans z)
  by_cases f:b=a
  .exact f
  exact absurd (Ea f) z
def wo{l:PySem.W.OpenLaw}{k:Nat}{N:(kt)->Heap->Prop}{r:IR}{d:DefRec}{K:Params->PySem.W.Frag}{CX:World->Zp}{sp:World->Sp}{x:Str}
  (B:l.most=some n) (Q:n<=sizeLine) (z:d.params.defaults=[]) (A:gb k callerA)
  (E:∀(w:World)(h:Heap),r w h->(K w.params).In h)
  (F:∀(w:World)(mg:kt)(g:Addr)(h:Heap),(K w.params).In h->h.Ns mainGlobals mg->mg d.name=some (.ref g)->
   ∃p:FuncData,(∀(s:Shared)(u:Value),BindsTo s p ⟨[u],[]⟩ [(x,u)])/\
    ∀base:Heap,(K w.params).In base->base.Ns mainGlobals mg->Aa l.prog w (K w.params) mg base (CX w) k g p [x] (sp w))
  (j:∀(w:World)(H:Hp)(a:Addr)(c:lv),c.length<=n->dq H->Dc (K w.params) H a (c.map V.int)->sp w [.ref a] H (λv _=>v=.bl true) λ_ _ _=>False)
  (O:∀(w:World)(H:Hp)(s:Shared)(e:Value)(i:Shared),CX w [] H s (λ_ _ _=>False) e i->False) :
  PySem.W.WalkO q loose N r l.row.toRowW d [] (λf vs=>PySem.call f vs):=by
 refine Att.Eh B z λw Ca R mg T g o S X M a vs c G Y U W Z m P b y C=>?_
 have t:=E w _ Y;obtain⟨p,D,L⟩:=F w mg g _ t G.T.g m;exact ŷ t G.T.g G.T.b G.T.builtins G.T.nolimit C P b (Vc y Q) A L D (λH J I=>j w H a c y J I) λH e i=>O w H R e i
def gK(s:Stmt):Arguments:=match s with
 |.FunctionDef _ a _ _ _ _ _ _ _ _=>a
 |_=>{posonlyargs:=[],args:=[],vararg:=none,kwonlyargs:=[],kw_defaults:=[],kwarg:=none,defaults:=[]}
def dH(s:Stmt):List Stmt:=match s with
 |.FunctionDef _ _ b _ _ _ _ _ _ _=>b
 |_=>[]
def bK(s:Stmt):Scope:=match s with
 |.FunctionDef _ _ _ _ _ _ a _ _ _=>a
 |_=>{kind:=.function,names:=[],isGenerator:=false,isCoroutine:=false}
abbrev bb:Zp:=λ_ _ _ _ _ _=>False
abbrev E0:XK:=λ_ _ _=>False
def Mo{X:Cx}:zt bb X E0:=λ_ _ _ _ _ _ _ h=>h.elim
structure bq(K:PySem.W.Frag)(x qual:Str)(st:Stmt)(f:Addr)(fd:FuncData):Prop where
 ex:∃(oc:Value)(od:pi)(kV doc pm:Value)(an:pi)(Hb ct:Value) (rh:pp),
  fd=PySem.W.fnOf x qual (gK st) (dH st) (bK st) .none kV doc pm an Hb ct/\K.lookup f=some ⟨oc,od,.func fd,rh⟩/\PySem.W.codeIn K Hb qual=true
 kp:PySem.W.keepIn K (.ref f)=true
section
variable{P:Program}{w:World}{K:PySem.W.Frag}{mg:kt}{base:Heap}
def bq.ok{st:Stmt}{k:Nat}{sp:Sp}(F:bq K x qual st f fd)(S:Tb N ps (bK st))(len:∀vs H Q E,sp vs H Q E->vs.length=ps.length)
  (g:∀(b:Value)(A:Around)(a:v4)(s:Shared)(H:Hp)(vs:nw)(Q:VK)(E:XK),gb k (A.deeper<|envOfC qual (bK st) s.heap.objs.size f b)->sp vs H Q E->
   ∃t,Pc (Kj bb P w K mg base N qual (bK st) f b A a s H E).Zj (dH st) t/\t {nx:=λ_ j=>Q .Bb j,rt:=Q} (start N vs) H):Aa P w K mg base bb (k+1) f fd ps sp:=by
 obtain⟨o,n,kV,e,m,r,b,p,l,rfl,lk,i⟩:=F.ex;refine C4 lk i S len λA a s H vs Q E d c=>?_
 obtain⟨t,h,q⟩:=g b A a s H vs Q E d c;exact⟨t,h.Zj,q⟩
def bq.binds{st:Stmt}{ps:sB}(F:bq K x qual st f fd)
  (h:∀(kV a c:Value)(e:pi)(g d:Value)(b:jp),b.length=ps.length->bindArgs (PySem.W.fnOf x qual (gK st) (dH st) (bK st) .none kV a c e g d) ⟨b,[]⟩=pure (ps.zip b)):Binds K fd ps []:=by
 obtain⟨k,j,kV,a,c,e,g,d,i,rfl,lk,l⟩:=F.ex;exact .all<|h kV a c e g d
def bLe{st:Stmt}{d:Value}{b:pi}{a:pp}{kV:Value}(l:K.lookup f=some ⟨d,b,.func<|PySem.W.fnOf x qual (gK st) (dH st) (bK st) .none kV doc pm an Hb ct,a⟩)
  (c:PySem.W.codeIn K Hb qual=true) (k:PySem.W.keepIn K (.ref f)=true):bq K x qual st f (PySem.W.fnOf x qual (gK st) (dH st) (bK st) .none kV doc pm an Hb ct):=⟨⟨d,b,kV,doc,pm,an,Hb,ct,a,rfl,l,c⟩,k⟩
end
def bF(H a:Hp):Prop:=∀b o,H b=some o->a b=some o
def bF.refl(H:Hp):bF H H:=λ_ _ h=>h
def bF.trans{H e d:Hp}(a:bF H e)(b:bF e d):bF H d:=λc o h=>b c o<|a c o h
def bF.free(e:bF H H'){l:Addr}(h:H' l=Option.none):H l=Option.none:=by
 cases q:H l with
 |none=>rfl
 |some o=>
  rw[e l o q]at h;cases h
def bF.seq{K:PySem.W.Frag}(e:bF H H')(h:Dc K H a xs):Dc K H' a xs:=by
 rcases h with (h|⟨o,h⟩)|h
 .exact .inl (.inl<|e _ _ h)
 .exact .inl (.inr ⟨o,e _ _ h⟩)
 exact .inr h
section
variable{κ:Type}[DecidableEq κ]
noncomputable def sI(b:List (κ×V))(k:κ):Option V:=(b.find? λa=>decide (a.1=k)).map (·.2)
noncomputable def Xc(b:List (κ×V))(k:κ)(v:V):List (κ×V):=
 if (b.any λa=>decide (a.1=k))=true then b.map (λa=>if a.1=k then (a.1,v) else a) else b++[(k,v)]
def E4(b:List (κ×V))(k:κ):List (κ×V):=b.filter λa=>decide (a.1≠k)
def uv{p:κ×V}{r:List (κ×V)}{k:κ}(e:p.1=k):sI (p::r) k=some p.2:=by simp[sI,e]
def vv{p:κ×V}{r:List (κ×V)}{k:κ}(e:¬ p.1=k):sI (p::r) k=sI r k:=by simp[sI,e]
theorem KH(k:κ):∀a:List (κ×V),(a.any λb=>decide (b.1=k))=(sI a k).isSome
 |[]=>rfl
 |p::r=>by
  rw[Xq]
  by_cases e:p.1=k
  .simp[uv e,decide_eq_true e]
  rw[vv e,Qc e];exact KH k r
theorem rM(a:List (κ×V))(k:κ)(v:V):(Xc a k v).length<=a.length+1:=by
 unfold Xc;split
 .rw[lc];lia
 rw[ef,ie,Hx];lia
def lh.Ld(r:lh o u):o.isSome=u.isSome:=by
 cases o with
 |none=>cases u with
  |none=>rfl
  |some _=>exact(r).elim
 |some _=>cases u with
  |none=>exact(r).elim
  |some _=>rfl
theorem lh.getD(r:lh o u)(a:RelV d d'):RelV (o.getD d) (u.getD d'):=by
 cases o with
 |none=>cases u with
  |none=>exact a
  |some _=>exact(r).elim
 |some _=>cases u with
  |none=>exact(r).elim
  |some _=>exact r
def KV.val(r:KV ka vs)(k:κ):lh (sI ka k) (valueAt vs k):=by
 induction r with
 |nil=>exact True.intro
 |@cons p q f a h t g=>
  obtain⟨c,i⟩:=h
  by_cases e:p.1=k
  .have b:valueAt (q::a) k=some q.2:=by simp[valueAt,List.find?_cons,(c.symm.trans e)]
   rwa [uv e,b]
  have d:¬ q.1=k:=λz=>e<|c.trans z
  have b:valueAt (q::a) k=valueAt a k:=by simp[valueAt,d]
  rwa [vv e,b]
theorem KV.any(r:KV ka vs)(k:κ):(ka.any λa=>decide (a.1=k))=vs.any λa=>decide (a.1=k):=by
 induction r with
 |nil=>rfl
 |cons h t b=>rw[Xq,Xq,b,h.1]
def KV.Bs(r:KV ka vs)(k:κ){y:V}{u:Value}(c:RelV y u) :
  KV (ka.map λa=>if a.1=k then (a.1,y) else a) (vs.map λa=>if a.1=k then (a.1,u) else a):=by
 induction r with
 |nil=>exact .nil
 |@cons p q i g h t d=>
  rw[Ge,Ge];refine .cons ?_ d;obtain⟨b,f⟩:=h
  by_cases e:p.1=k
  .rw[Ka e,Ka<|b.symm.trans e];exact⟨b,c⟩
  rw[Ea e,Ea<|λz=>e<|b.trans z];exact⟨b,f⟩
def KV.put(r:KV ka vs)(k:κ){y:V}{u:Value}(a:RelV y u):KV (Xc ka k y) (stored vs k u):=by
 unfold Xc stored;rw[r.any k]
 by_cases e:(vs.any λb=>decide (b.1=k))=true
 .rw[Ka e,Ka e];exact r.Bs k a
 rw[Ea e,Ea e];exact Paired.snoc r ⟨rfl,a⟩
def KV.drop(r:KV ka vs)(k:κ):KV (E4 ka k) (without vs k):=by
 unfold KV at r ⊢;unfold E4 without
 induction r with
 |nil=>exact .nil
 |@cons p q j i h t d=>
  obtain⟨c,f⟩:=h;rw[List.filter_cons,List.filter_cons]
  by_cases e:p.1=k
  .have a:¬ decide (p.1≠k)=true:=by simp[e]
   have b:¬ decide (q.1≠k)=true:=by simp[c.symm.trans e]
   rw[Ea a,Ea b];exact d
  .have g:¬ q.1=k:=λz=>e (c.trans z)
   have a:decide (p.1≠k)=true:=by simp[e]
   have b:decide (q.1≠k)=true:=by simp[g]
   rw[Ka a,Ka b];exact .cons ⟨c,f⟩ d
theorem KV.length(r:KV ka vs):ka.length=vs.length:=Paired.length r
end
def Wm{k:Key}(r:RelV (kV k) u):(gH P w).is k u=true:=by
 cases k with
 |inl i=>obtain⟨t,e⟩:=(r);subst e;exact ϰ P w i t
 |inr x=>obtain⟨t,e⟩:=(r);subst e;exact ϱ P w x t
theorem kU:∀{a:Fk}{b:jp},Ha (a.map kV) b->ItemsAre (gH P w) a b
 |[],_,r=>by cases r;exact .nil
 |k::a,_,r=>by
  cases r with
  |cons h t=>exact .cons (Wm h)<|kU t
abbrev KT(H:Hp):List (List Key×V)->List (List Key×Addr×Value)->Prop:=Paired λp q=>p.1=q.1/\H q.2.1=some (.tup<|p.1.map kV)/\RelV p.2 q.2.2
def KT.val(r:KT H ka xs)(k:Fk):lh (sI ka k) ((atKey xs k).map (·.2)):=by
 induction r with
 |nil=>exact True.intro
 |@cons p q f a h t g=>
  obtain⟨c,_,i⟩:=h
  by_cases e:p.1=k
  .have b:atKey (q::a) k=some q.2:=by simp[atKey,List.find?_cons,(c.symm.trans e)]
   rwa [uv e,b]
  have d:¬ q.1=k:=λz=>e<|c.trans z
  have b:atKey (q::a) k=atKey a k:=by simp[atKey,d]
  rwa [vv e,b]
def KT.Bs(r:KT H ka xs)(k:Fk){y:V}{u:Value}(d:RelV y u) :
  KT H (ka.map λb=>if b.1=k then (b.1,y) else b) (xs.map<|putAt k u):=by
 induction r with
 |nil=>exact .nil
 |@cons p q j i h t f=>
  rw[Ge];refine .cons ?_ f;obtain⟨a,c,g⟩:=h;unfold putAt
  by_cases e:p.1=k
  .rw[Ka e,Ka<|a.symm.trans e];exact⟨a,c,d⟩
  rw[Ea e,Ea<|λz=>e<|a.trans z];exact⟨a,c,g⟩
def KT.put(r:KT H ka xs)(k:Fk){b:Addr}{y:V}{u:Value}(d:H b=some (.tup<|k.map kV))(a:RelV y u) :
  KT H (Xc ka k y) (storedH xs k b u):=by
 have e:(ka.any λc=>decide (c.1=k))=(atKey xs k).isSome:=by
  rw[KH,(r.val k).Ld,VM]
 unfold Xc storedH;rw[e]
 by_cases q:(atKey xs k).isSome=true
 .rw[Ka q,Ka q];exact r.Bs k a
 rw[Ea q,Ea q];exact Paired.snoc r ⟨rfl,d,a⟩
def KT.keeps{a:Hp}(r:KT H ka xs)(c:∀b ys,H b=some (.tup ys)->a b=some (.tup ys)):KT a ka xs:=
 Paired.Ur r λ_ _ z=>⟨z.1,c _ _ z.2.1,z.2.2⟩
section
variable{P:Program}{w:World}{H:Hp}{h:Heap}{a:Addr}
def F4(ok:Je P w H h)(e:Rd H a u):oW P w H h a u:=e.ok ok
def Xm(ok:Je P w H h)(e:Rd H a (.dK ka)):ka.length<=sizeLine/\(a==sysModules)=false/\∃vs,KV ka vs/\h.DictOf (gH P w) a vs:=
 (F4 ok e)
def Ym(ok:Je P w H h)(e:H a=some (.dK ka)):ka.length<=sizeLine/\(a==sysModules)=false/\∃vs,KV ka vs/\h.DictOf (gH P w) a vs:=Xm ok<|.inl e
def kq{b:Fk}(ok:Je P w H h)(e:H a=some (.tup<|b.map kV)):(tupleKind<|gH P w).is h b a:=by
 obtain⟨_,g,r,o,f,d,n,c⟩:=((ok a _ e));exact⟨o,g.toArray,n,f,d,c,by simpa using kU r⟩
def Oo(ok:Je P w H h)(e:Rd H a (.dT ka)):ka.length<=sizeLine/\(a==sysModules)=false/\
  ∃xs,KT H ka xs/\h.DictOfH (tupleKind<|gH P w) a xs:=by
 obtain⟨z,y,xs,r,o,n,s,k,j,i,g,f⟩:=((F4 ok e));refine⟨z,y,xs,r,o,n,s,k,j,i,g,λx b=>?_,f⟩
 have all:∀{l:List _}{m:List _},KT H l m->∀x∈m,(tupleKind<|gH P w).is h x.1 x.2.1:=by
  intro l m q
  induction q with
  |nil=>intro x b;exact nomatch b
  |@cons p q v u c t d=>
   intro x b;rcases Pb.mp b with e|b
   .subst e;exact kq ok (by rw[<-c.1];exact c.2.1)
   exact d x b
 exact all r x b
def bP3(ok:Je P w H h)(e:H a=some (.dT ka)):ka.length<=sizeLine/\(a==sysModules)=false/\
  ∃xs,KT H ka xs/\h.DictOfH (tupleKind<|gH P w) a xs:=Oo ok<|.inl e
end
def yI(H:Hp)(a:Addr)(y:V)(r:Option V):Prop:=
 (∃c k,Rd H a (.dK c)/\y=kV k/\r=sI c k)\/∃c k b,Rd H a (.dT c)/\y=.ref b/\H b=some (.tup<|k.map kV)/\r=sI c k
def An(H:Hp)(a:Addr)(y v:V)(d:Hp):Prop:=
 (∃c k,H a=some (.dK c)/\y=kV k/\c.length<sizeLine/\d=Ua H a (.dK<|Xc c k v))\/
 ∃c k b,H a=some (.dT c)/\y=.ref b/\H b=some (.tup<|k.map kV)/\c.length<sizeLine/\d=Ua H a (.dT<|Xc c k v)
theorem yI.k{H:Hp}{k:Key}(e:H a=some (.dK ka)):yI H a (kV k) (sI ka k):=.inl ⟨ka,k,.inl e,rfl,rfl⟩
def yI.t{H:Hp}{k:Fk}(e:H a=some (.dT ka))(c:H b=some (.tup<|k.map kV)):yI H a (.ref b) (sI ka k):=.inr ⟨ka,k,b,.inl e,rfl,c,rfl⟩
theorem An.k{H:Hp}{k:Key}(e:H a=some (.dK ka))(b:ka.length<sizeLine):An H a (kV k) v (Ua H a<|.dK<|Xc ka k v):=.inl ⟨ka,k,e,rfl,b,rfl⟩
def An.t{H:Hp}{k:Fk}(e:H a=some (.dT ka))(d:H b=some (.tup<|k.map kV))(c:ka.length<sizeLine) :
  An H a (.ref b) v (Ua H a<|.dT<|Xc ka k v):=.inr ⟨ka,k,b,e,rfl,d,c,rfl⟩
section
variable{X:Cx}{ba:f8}{σ:St}{H:Hp}{s:Shared}{a:Addr}{y v:V}{u r:Value}{o:Option V}{A:Around}{E:bv}
def za.big(I:za X ba σ H s):sysModules<s.heap.objs.size:=by
 exact Jx (by decide)<|(I.mod.glob.keeps I.bk).lt
def AU{Q:bv}(r:A.units+1<cLine)(I:za X ba σ H s)(g:yI H a y (some v))(o:RelV y u)(h:∀d n,za X ba σ H n->RelV v d->Q d n) :
  wpAny (model X.prog X.w) A (getItem (.ref a) u) Q E s:=by
 rcases g with ⟨q,k,e,j,l⟩|⟨q,k,b,e,j,x,l⟩
 .subst j;obtain⟨z,w,D,c,m⟩:=Xm I.Xa e;obtain⟨d,i,f⟩:=lh.some_of (by rw[l];exact c.val k)
  exact wpAny_getItem_of (Wm o) m.mapOf i<|h d _ (I.tok _) f
 subst j;cases (o);obtain⟨z,w,C,c,m⟩:=Oo I.Xa e;obtain⟨d,i,f⟩:=lh.some_of (by rw[l];exact c.val k)
 obtain⟨p,t,B⟩:=Option.map_eq_some_iff.mp i;refine wpAny_getItem_heap (uu r) (kq I.Xa x) m t ?_
 rw[B];exact h d _ (I.tok _) f
def bS7{Q:bv}(p:A.units+1<cLine)(I:za X ba σ H s)(g:yI H a y o)(m:RelV y u)(h:∀j,za X ba σ H j->Q (.bool o.isSome) j) :
  wpAny (model X.prog X.w) A (compareOp .In u<|.ref a) Q E s:=by
 rcases g with ⟨n,k,e,f,l⟩|⟨n,k,b,e,f,r,l⟩
 .subst f;obtain⟨z,d,v,c,i⟩:=Xm I.Xa e;refine wpAny_in_of (Wm m) d i.mapOf ?_
  rw[<-(c.val k).Ld,<-l];exact h _<|I.tok _
 subst f;cases (m);obtain⟨z,d,t,c,i⟩:=Oo I.Xa e;refine wpAny_in_heap (uu p) (kq I.Xa r) d i ?_
 have q:=(c.val k).Ld;rw[VM]at q;rw[<-q,<-l];exact h _<|I.tok _
def bGn{Q:bv}(p:A.units+1<cLine)(I:za X ba σ H s)(g:yI H a y o)(m:RelV y u)(h:∀j,za X ba σ H j->Q (.bool<|!o.isSome) j) :
  wpAny (model X.prog X.w) A (compareOp .NotIn u<|.ref a) Q E s:=by
 rcases g with ⟨n,k,e,f,l⟩|⟨n,k,b,e,f,r,l⟩
 .subst f;obtain⟨z,d,v,c,i⟩:=Xm I.Xa e;refine wpAny_notIn_of (Wm m) d i.mapOf ?_
  rw[<-(c.val k).Ld,<-l];exact h _<|I.tok _
 subst f;cases (m);obtain⟨z,d,t,c,i⟩:=Oo I.Xa e;refine wpAny_notIn_heap (uu p) (kq I.Xa r) d i ?_
 have q:=(c.val k).Ld;rw[VM]at q;rw[<-q,<-l];exact h _<|I.tok _
def Jv{t':Nat}(I:za X ba σ H s)(d:mi (H a))(hs:Heap.SameBut a s.heap h')(he:∃q,h'.get? a=some q)(c:oW X.prog X.w (Ua H a ob) h' a ob) :
  za X ba σ (Ua H a ob) {s with heap:=h',toks:=t'}:=
 I.write d (.inl rfl) (λb q e z=>(hs.2 b e).trans z) he c
def ZA{d:Heap}{c:ls}(z:c.length<=sizeLine)(e:(a==sysModules)=false)(b:KV c vs)(f:d.DictOf (gH P w) a vs) :
  oW P w H' d a (.dK c):=⟨z,e,vs,b,f⟩
theorem Ĭ{Q:wE}(J:A.units+1<cLine)(I:za X ba σ H s)(g:An H a y v H')(x:RelV y u)(B:RelV v r)(h:∀w,za X ba σ H' w->Q () w) :
  wpAny (model X.prog X.w) A (setItem (.ref a) u r) Q E s:=by
 rcases g with ⟨j,k,e,o,l,p⟩|⟨j,k,b,e,o,C,l,p⟩
 .subst o p;obtain⟨z,n,F,d,t⟩:=Ym I.Xa e;have G:F.length<=sizeLine:=by rwa [<-d.length]
  exact wpAny_setItem_pairs (Wm x) t λO i m=>h _<|Jv I (by rw[e];exact True.intro) m (let ⟨q,_,_,f,_⟩:=i;⟨q,f⟩)<|ZA (by have:=rM j k v;lia) n (d.put k B) i
 subst o p;cases (x);obtain⟨z,n,D,d,t⟩:=bP3 I.Xa e;have G:D.length<=sizeLine:=by rwa [<-Paired.length d]
 refine wpAny_setItem_heap (uu J) (kq I.Xa C) t λO i m=>h _ ?_
 obtain⟨q,P,R,f,N,M,L,_,K⟩:=i;refine Jv I (by rw[e];exact True.intro) m ⟨q,f⟩ ⟨(by have:=rM j k v;lia),n,_,(d.put k C B).keeps λc S ec=>?_,q,P,R,f,N,M,L,K⟩
 rwa [bA<|bOf ec e<|λz=>nomatch z]
end
section
variable{X:Cx}{ba:f8}{σ:St}{H:Hp}{s:Shared}{a:Addr}{ka:ls}{k:Key}{u:Value}{A:Around}{E:bv}
theorem bP4{Q:bv}(I:za X ba σ H s)(e:Rd H a (.dK ka))(h:∀t c,za X ba σ H c->Q (.int ka.length t) c):wpAny (model X.prog X.w) A (call (.builtin "len") [.ref a]) Q E s:=by
 obtain⟨z,d,g,b,f⟩:=Xm I.Xa e;refine call_len_dict d f (by rw[<-b.length];rw[Km]at z;lia) ?_
 rw[<-b.length];exact h _ _<|I.tok _
end
def JC(i:Expr):Prop:=∀a b,subscripted i false a b=operate [a,b] (getItem a b)
def bGp{E:bv}{id:String}{Q:bv}
  (e:typeLookup (.type T) "__getitem__"=pure (some<|.builtin id)) (hs:JC slice)
  (h:wpAny (model prog w) A (eval value env) (λo d=>wpAny (model prog w) A (eval slice env) (λi Si=>Si.TypeIs o T/\wpAny (model prog w) A (getItem o i) Q E Si) E d) E s) :
  wpAny (model prog w) A (eval (.Subscript value slice pos) env) Q E s:=by
 refine Subscript_<|zi h (λo d j=>zi j (λi Si b=>?_) λ_ _ x=>x) λ_ _ x=>x
 obtain⟨f,b⟩:=b;refine Oa<|Oa<|kN f e ?_;have a:wpAny (model prog w) A (subscripted slice false o i) (λr c=>wpAny (model prog w) A (letTemporaryGo value o r >>= λ_=>pure r) Q E c) E Si:=by
  rw[hs o i];exact wpAny_operating<|zi b (λr c g=>Oa<|wpAny_letTemporaryGo<|vc g) λ_ _ x=>x
 first
  |exact vc<|Oa a
  |exact Oa _
  |exact Oa a
def CS{X:Cx}(I:za X ba σ H s)(g:yI H a y o):s.TypeIs (.ref a) "dict":=by
 rcases g with ⟨d,k,e,_,_⟩|⟨d,k,b,e,_,_,_⟩
 .obtain⟨_,_,h,_,c⟩:=Xm I.Xa e;exact c.typeIs
 obtain⟨_,_,f,_,c⟩:=Oo I.Xa e;exact c.typeIs
def Dw(e d:TE):TE:=λb H Q=>e b H λx f=>d b f λy c=>∃a v,x=.ref a/\yI c a y (some v)/\Q v c
noncomputable def ze(f d e:TE):TS:=λD b H=>e b H λv i=>f b i λx h=>d b h λy g=>∃a c,x=.ref a/\An g a y v c/\D.nx b c
section
variable{X:Cx}{o i e value:Expr}{pos pos' sR:Pos}{td ty tv:TE}
def AY(n:X.A.units+1<cLine)(p:PE X o td)(hi:PE X i ty)(hs:JC i):PE X (.Subscript o i pos) (Dw td ty):=by
 intro c s b H Q I h;refine bGp A6.lookup hs<|Kb (p c s b H _ I h) λu e ⟨x,z,t,j,l⟩=>Kb (hi c e b z _ t l) λD C ⟨y,w,d,f,a,v,q,g,k⟩=>?_
 subst q;obtain rfl:u=Value.ref a:=j;exact⟨CS d g,AU n d g f λA B r m=>⟨v,w,r,m,k⟩⟩
end
def JV(h:Heap)(a:sysModules<h.objs.size):oW P w H (h.push {cls:=.type "dict",data:=.dict #[]}) h.objs.size (.dK []):=
 ⟨He _,Nq.mpr<|Qg<|Bf a,[],.nil,Heap.DictOf.new h⟩
def bLf:TE:=λ_ H Q=>∀p,H p=none->Q (.ref p) (Ua H p<|.dK [])
section
variable{X:Cx}{pos:Pos}
def Ÿ:PE X (.Dict [] [] pos) bLf:=λb s a H Q I h=>
 wpAny_Dict_empty ⟨.ref s.heap.objs.size,_,I.laid (λ_ _ q=>Lc _ q) (Cb _)<|JV s.heap I.big,rfl,h _<|I.Xa.fresh<|Cb _⟩
end
def SJ:List (TE×TE)->St->Hp->(List (V×V)->Hp->Prop)->Prop
 |[],_,H,Q=>Q [] H
 |(c,b)::r,a,H,Q=>c a H λx g=>b a g λy f=>SJ r a f λd e=>Q ((x,y)::d) e
abbrev VV:List (V×V)->List (Value×Value)->Prop:=Paired λp q=>RelV p.1 q.1/\RelV p.2 q.2
def Hz(X:Cx)(pos:Pos)(b:List (Option Expr))(a:List Expr)(i:List (TE×TE)):Prop:=
 ∀(e:f8) (s:Shared) (c:St) (H:Hp) (Q:List (V×V)->Hp->Prop),za X e c H s->SJ i c H Q->
  wpAny (model X.prog X.w) X.A (evalPairs<|pairTrees b a X.env pos) (λg h=>∃d f,za X e c f h/\VV d g/\Q d f) X.xe s
def bGq{X:Cx}:Hz X pos [] [] []:=λb s a H Q I h=>pairTrees_nil_walk ⟨[],H,I,.nil,h⟩
def Ź{X:Cx}{k v:Expr}(p:PE X k tk)(n:PE X v tv)(o:Hz X pos ks vs Gs) :
  Hz X pos (some k::ks) (v::vs) ((tk,tv)::Gs):=λc s a H Q I h=>
 pairTrees_cons_walk (Kb (p c s a H _ I h) λu e ⟨x,A,t,g,l⟩=>Kb (n c e a A _ t l) λC d ⟨y,z,r,f,j⟩=>
  Kb (o c d a z _ r j) λB D ⟨m,w,q,b,i⟩=>⟨(x,y)::m,w,q,.cons ⟨g,f⟩ b,i⟩)
noncomputable def aw(c more:ls):ls:=more.foldl (λb a=>Xc b a.1 a.2) c
def KV.merge:∀{more:ls} {b:wT} {a:ls} {vs:wT},KV more b->KV a vs->KV (aw a more) (merged vs b):=by
 intro more b a vs r
 induction r generalizing a vs with
 |nil=>intro q;exact q
 |@cons p q g f h t d=>
  intro c;have e:KV (Xc a p.1 p.2) (stored vs q.1 q.2):=by
   have:=c.put p.1 h.2
   rwa [<-h.1]
  exact d e
theorem aS:∀(more a:ls),(aw a more).length<=a.length+more.length
 |[],a=>by show a.length<=a.length+0;lia
 |p::r,a=>by
  have c:=aS r<|Xc a p.1 p.2;have b:=rM a p.1 p.2;show (aw _ r).length<=_;rw[ie];lia
theorem MS:∀{e:ls} {f:List (Value×Value)},VV (e.map λg=>(kV g.1,g.2)) f->∃d,Carries (gH P w) f d/\KV e d
 |[],_,r=>by cases r;exact⟨[],True.intro,.nil⟩
 |p::e,_,r=>by
  cases r with
  |@cons a b k bs h t=>
   obtain⟨d,c,q⟩:=MS t;obtain⟨j,i⟩:=b;exact⟨(p.1,i)::d,⟨Wm h.1,rfl,c⟩,.cons ⟨rfl,h.2⟩ q⟩
def bP5(f:List (TE×TE)):TE:=λd H Q=>∀p,H p=none->SJ f d (Ua H p<|.dK []) λe c=>c p=some (.dK [])/\∃a:ls,e=a.map (λb=>(kV b.1,b.2))/\a.length<=15/\Q (.ref p) (Ua c p<|.dK<|aw [] a)
theorem bGr{X:Cx}(h:Hz X pos keys values Gs)(hall:keys.all (·.isSome)=true)(r:keys.length=values.length)(v:keys≠[])
  (b:keys.length<=15):PE X (.Dict keys values pos) (bP5 Gs):=by
 intro y s g H Q I q;refine wpAny_Dict_walk (knd:=gH X.prog X.w) hall r v b<|Kb (h y _ g _ _ (I.laid (t':=s.toks) (λ_ _ q=>Lc _ q) (Cb _)<|JV s.heap I.big)<|q _<|I.Xa.fresh<|Cb s.heap.objs.size) λA B ⟨C,E,f,a,e,n,w,lk,m⟩=>?_
 subst w;obtain⟨j,c,k⟩:=MS a;obtain⟨z,t,i,l,x⟩:=Ym f.Xa e;cases l;exact⟨j,c,x,λD d o=>⟨.ref s.heap.objs.size,_,(Jv f (by rw[e];exact True.intro) o (let ⟨q,_,_,p,_⟩:=d;⟨q,p⟩)<|ZA (by
  have u:=aS n [];rw[Hx]at u;rw[Km];lia) t (k.merge .nil) d),rfl,m⟩⟩
structure M1(X:Cx)(o:Expr)(m:Str)(Pa:Pos)(e:Expr)(Ga:Pos):Prop where
 base:Nf o m X.env
 VN:Oi Ga [e] X.env
 line:Gg Pa Ga
 om:backTo Ga (starEach [e] X.env)=[(false,eval e X.env)]
structure M2(X:Cx)(o:Expr)(m:Str)(Pa:Pos)(e f:Expr)(Ga:Pos):Prop where
 base:Nf o m X.env
 VN:Oi Ga [e,f] X.env
 line:Gg Pa Ga
 om:backTo Ga (starEach [e,f] X.env)=[(false,eval e X.env),(false,eval f X.env)]
def Dz(H:Hp)(a:Addr):Prop:=(∃b,Rd H a<|.dK b)\/∃b,Rd H a<|.dT b
def T1{X:Cx}(I:za X ba σ H s)(d:Dz H a) :
  s.TypeIs (.ref a) "dict"/\(∀b,Value.ref a=.ref b->∃c,s.heap.get? b=some c/\c.dict=none)/\(a==sysModules)=false:=by
 rcases d with ⟨j,e⟩|⟨j,e⟩
 .obtain⟨_,g,l,_,f⟩:=Xm I.Xa e;refine⟨f.typeIs,λb q=>?_,g⟩
  cases q;obtain⟨c,_,_,i,h,_⟩:=f;exact⟨c,i,h.2.1⟩
 obtain⟨_,g,k,_,f⟩:=Oo I.Xa e;refine⟨f.typeIs,λb q=>?_,g⟩
 cases q;obtain⟨c,_,_,i,h,_⟩:=f;exact⟨c,i,h.2.1⟩
section
variable{X:Cx}{ba:f8}{σ:St}{H:Hp}{s:Shared}{a:Addr}{y d:V}{u r:Value}{o:Option V}{A:Around}{E:bv}
def bLg{Q:bv}(r:A.units+1<cLine)(I:za X ba σ H s)(g:yI H a y o)(n:RelV y u)(h:∀j m,za X ba σ H m->RelV (o.getD .Bb) j->Q j m) :
  wpAny (model X.prog X.w) A (call (.builtin "dict.get") [.ref a,u]) Q E s:=by
 rcases g with ⟨q,k,e,i,l⟩|⟨q,k,b,e,i,t,l⟩
 .subst i;obtain⟨z,f,v,c,d⟩:=Xm I.Xa e;refine qp qu d.typeIs zD (K6 _ _) (meets_dict_get _ a (Wm n) f) ⟨_,d.mapOf,h _ _ (I.tok _) ?_⟩;rw[l];exact(c.val k).getD rfl
 subst i;cases (n);obtain⟨z,f,p,c,d⟩:=Oo I.Xa e;refine qp qu d.typeIs zD (K6 _ _) (meetsH_dict_get _ a b f) ⟨uu r,k,p,kq I.Xa t,d,h _ _ (I.tok _) ?_⟩;rw[l];exact(c.val k).getD rfl
def bLh{Q:bv}(w:A.units+1<cLine)(I:za X ba σ H s)(g:yI H a y o)(p:RelV y u)(q:RelV d r)(h:∀m n,za X ba σ H n->RelV (o.getD d) m->Q m n) :
  wpAny (model X.prog X.w) A (call (.builtin "dict.get") [.ref a,u,r]) Q E s:=by
 rcases g with ⟨v,k,e,j,l⟩|⟨v,k,b,e,j,x,l⟩
 .subst j;obtain⟨z,i,B,c,f⟩:=Xm I.Xa e;refine qp qu f.typeIs zD (L6 _ _ _) (meets_dict_get_default _ a (Wm p) i r) ⟨_,f.mapOf,h _ _ (I.tok _) ?_⟩;rw[l];exact(c.val k).getD q
 subst j;cases (p);obtain⟨z,i,t,c,f⟩:=Oo I.Xa e;refine qp qu f.typeIs zD (L6 _ _ _) (meetsH_dict_get_default _ a b i r) ⟨uu w,k,t,kq I.Xa x,f,h _ _ (I.tok _) ?_⟩;rw[l];exact(c.val k).getD q
end
def bLi(f e:TE):TE:=λb H Q=>f b H λx d=>∃a,x=.ref a/\Dz d a/\e b d λy c=>∃o,yI c a y o/\Q (o.getD .Bb) c
def bLj(g e f:TE):TE:=λb H Q=>g b H λx d=>∃a,x=.ref a/\Dz d a/\e b d λy h=>f b h λz c=>∃o,yI c a y o/\Q (o.getD z) c
section
variable{X:Cx}{o e f:Expr}{Pa Ga:Pos}{td ty tx:TE}
def ź(t:X.A.units+1<cLine)(v:PE X o td)(he:PE X e ty)(m:M1 X o "get" Pa e Ga):PE X (.Call (.Attribute o "get" Pa) [e] [] Ga) (bLi td ty):=by
 intro c s b H Q I h;refine wpAny_Call_method m.base m.VN m.line ou qu X6<|Kb (v c s b H _ I h) λu k ⟨x,C,f,n,a,w,d,q⟩=>?_
 subst w;obtain rfl:u=Value.ref a:=n;obtain⟨j,i,_⟩:=T1 f d;refine⟨j,i,?_⟩;rw[m.om];exact xD rfl<|DM<|HD<|Kb (he c k b C _ f q) λJ F ⟨y,B,A,l,G,g,p⟩=>UM<|bLg t A g l λD E z r=>⟨_,B,z,r,p⟩
def Ż(B:X.A.units+1<cLine)(C:PE X o td)(he:PE X e ty)(D:PE X f tx)(m:M2 X o "get" Pa e f Ga):PE X (.Call (.Attribute o "get" Pa) [e,f] [] Ga) (bLj td ty tx):=by
 intro c s b H Q I h;refine wpAny_Call_method m.base m.VN m.line ou qu X6<|Kb (C c s b H _ I h) λu n ⟨x,M,i,r,a,E,d,w⟩=>?_
 subst E;obtain rfl:u=Value.ref a:=r;obtain⟨k,j,_⟩:=T1 i d;refine⟨k,j,?_⟩;rw[m.om];exact xD rfl<|DM<|HD (Kb (he c n b M _ i w) λS l ⟨y,L,J,q,v⟩=>
  HD (Kb (D c l b L _ J v) λT P ⟨z,K,G,p,R,g,t⟩=>UM<|bLh B G g q p λN O F A=>⟨_,K,F,A,t⟩))
end
end L2
set_option maxHeartbeats 1000000
open PySem.W (Frag findIn mroIn nsIn notCls keepIn kia_one fnOf codeIn mg_of isFn OpenLaw mg_none_of WalkO InK)
open List (foldl_cons mem_cons_self mem_cons_of_mem map_cons getD_eq_getElem?_getD length_cons length_append length_singleton sum_cons take_of_length_le pairwise_map length_nil length_map cons_append nodup_cons length_range append_nil zip_cons_cons nil_append length_filter_le length_set mem_cons not_mem_nil filter_cons_of_pos filter_cons_of_neg nodup_nil filter_nil any_cons all_cons drop_eq_getElem_cons drop_zero drop_length forIn_cons lookup_cons getElem?_toArray zipIdx_cons)
open Nat (zero_le mod_lt strongRecOn zero_testBit eq_of_testBit_eq lt_succ_self lt_or_ge le_add_right testBit_or exists_eq_add_of_le le_of_not_lt)
open Array (getElem?_toList toList_append toList_push)
open Int (toNat_of_nonneg toNat_natCast emod_nonneg emod_lt_of_pos)
open Option (map_some)
open Bool (or_eq_true and_eq_true)
variable{α β:Type}{c n np i m r j q Y Z x1 t' hi N' Zb ep:Nat}{b a tg e elt:PySem.Expr}{l z rk ks Ws row Pp:am}{x qual name:PySem.Str}{E Qf:PySem.Value->PySem.Shared->Prop}{C fa Na:PySem.Addr}{v:L2.V}{S:be}{s:PySem.Shared}{P prog:PySem.Program}{u dV oc:PySem.Value}{al:sK}{qa:lf}{w:PySem.World}{B A fp:List PySem.Addr}{W:ol}{ns:lv}{o:L2.HO}{base h' h0:PySem.Heap}{X:L2.Cx}{H H' H1 H0:L2.Hp}{vs ws ae:List L2.V}{es Kh:List PySem.Expr}{pos p0 pos' p2 p1 Pa Ga px qk tp:PySem.Pos}{Q:wS->PyProof.Rows.SortSt->Prop}{op:PySem.CmpOp}{gv:Int->Int->L2.V}{fd:PySem.FuncData}{ps N loose:List PySem.Str}{sm:PySem.Stmt}{items:Array PySem.Value}{M:PySem.Model}{env:PySem.Env}{body:List PySem.Stmt}{mg:PySem.Str->Option PySem.Value}{scope:PySem.Scope}{ba:List (PySem.Addr×PySem.Obj)}{wi:L2.TI}{te:L2.TE}{tt:L2.TT}{pl:PySem.Sem Bool}{rh:Array (Option PySem.Value)}{newId:String}{src:L2.Hp->List L2.V->Prop}{ka:List (L2.Key×L2.V)}{left:Bool}{key:PyProof.Rows.Keyed}{arr:Array PyProof.Rows.Keyed}{ρ:PyProof.Rows.Keyed->Int}{κ:PyProof.Rows.SortKind}{T:List PyProof.Rows.Keyed}{oo:PyProof.Rows.SortSt}{ob:PySem.Obj}{xf Vd Yc:PySem.Tok}{XP:(PySem.Str->Option PySem.Value)->PySem.Heap->Prop}
namespace Pu
inductive D where
 |Bb|bl (b:Bool)|int (i:Int)|str (s:am)|tup (xs:List D)|lst (xs:List D)
 |Hd (t:Bool) (ks vs:List D)
 |ins (c:String) (ns:wp) (xs:List D)
 |Bi (c:String) (ns:wp) (xs:List D)
 |fn (f:String)
abbrev _root_.im:=List D
abbrev _root_.xz:=D->Bool
inductive R (α:Type) where
 |ok (a:α)|exc (x:D)|bad
abbrev _root_.cr:=List D->R D
abbrev _root_.Da:=D->R D
@[inline] noncomputable def R.bind{c b:Type}(r:R c)(f:c->R b):R b:=match r with
 |.ok a=>f a
 |.exc x=>.exc x
 |.bad=>.bad
def R.ja{r:R α}{f:α->R β}{b:β}(h:r.bind f=.ok b):∃a,r=.ok a/\f a=.ok b:=by
 cases r with
 |ok a=>exact⟨a,rfl,h⟩
 |exc x=>exact nomatch h
 |bad=>exact nomatch h
noncomputable section
open Classical in
def aU{a:Type}(c:Prop)(r:R a):R a:=if c then r else .bad
def aD{c:Prop}{r:R α}(h:c):aU c r=r:=Ka h
def aH{c:Prop}{r:R α}{a:α}(h:aU c r=.ok a):c/\r=.ok a:=by
 unfold aU at h;split at h
 .exact⟨by assumption,h⟩
 exact nomatch h
inductive OK where
 |l|d (t:Bool) (ks:im)|i (n:Nat) (c:String) (ns:wp)
noncomputable def Jp:OK->List D->D
 |.l,a=>.lst a
 |.d t ks,a=>.Hd t ks a
 |.i _ c ns,a=>.ins c ns a
inductive Sl where
 |v (d:D)|o (k:OK) (xs:im)
abbrev _root_.li:=Option Sl
abbrev xa:=List<|Option Sl
abbrev Ex:=xa->R D
inductive Fl where
 |nx (st:xa)|rt (d:D)|bk (st:xa)|ct (st:xa)
abbrev Bd:=xa->R Fl
@[irreducible] def big:Nat:=10000000
def oH:big=10000000:=by unfold big;rfl
def dO(h:n<=10000000):n<=big:=by rwa [oH]
def Bt(h:n<10000000):n<big:=by rwa [oH]
def yJ{n:Int}(h:n<=10000000):n<=(big:Int):=by rwa [oH]
def Kv{n:Int}(h : -10000000<=n) : -(big:Int)<=n:=by rwa [oH]
noncomputable def Ud(n d:Nat):Option Int->Nat
 |none=>d
 |some v=>if v<0 then (v+(n:Int)).toNat else min v.toNat n
noncomputable def kg(n:Nat)(i:Int):wS:=if 0<=i then (if i<n then some i.toNat else none) else if -(n:Int)<=i then some (i+n).toNat else none
def Tc{a:Type}(xs:List a)(i:Int):Option a:=(kg xs.length i).bind λj=>xs[j]?
noncomputable def cut{a:Type}(xs:List a)(lo hi:wP):List a:=(xs.drop<|Ud xs.length 0 lo).take<|Ud xs.length xs.length hi-Ud xs.length 0 lo
def Jg{b:Type}:Option b->R b
 |some a=>.ok a
 |none=>.bad
abbrev mf:=D->Da
def lE:mf
 |.int i,.int j=>.ok<|.int<|i+j
 |.str x,.str y=>aU (x.length+y.length<=big)<|.ok<|.str<|x++y
 |.lst x,.lst y=>aU (x.length+y.length<=big)<|.ok<|.lst<|x++y
 |_,_=>.bad
noncomputable def wk:mf
 |.int i,.int j=>.ok<|.int<|i-j
 |_,_=>.bad
def Po:mf
 |.int i,.int j=>aU (0<j/\j<1073741824)<|.ok<|.int<|i/j
 |_,_=>.bad
def pH:mf
 |.int i,.int j=>aU (0<j)<|.ok<|.int<|i%j
 |_,_=>.bad
def KC:mf
 |.int i,.int j=>aU (0<=j/\j<=1000000/\i.natAbs<18446744073709551616)<|.ok<|.int<|i^j.toNat
 |_,_=>.bad
noncomputable def Vi:Da
 |.int i=>.ok<|.int<|-i
 |_=>.bad
noncomputable def LC:xz
 |.int _=>true
 |.str _=>true
 |_=>false
noncomputable def Lb(t:Bool)(d:D):Bool:=match d with
 |.int _=>!t
 |.str _=>!t
 |.tup a=>t&&a.all LC
 |_=>false
mutual
noncomputable def Oe:D->D->Bool
 |.int i,.int j=>i==j
 |.str x,.str y=>x==y
 |.tup x,.tup y=>Fq x y
 |_,_=>false
noncomputable def Fq:List D->List D->Bool
 |[],[]=>true
 |a::x,b::y=>Oe a b&&Fq x y
 |_,_=>false
end
noncomputable def wY(a vs:im)(k:D):Option D:=((a.zip vs).find? λp=>Oe p.1 k).map (·.2)
def qD(a:im)(k:D):Bool:=a.any λx=>Oe x k
def uP(a:im)(k:D):im:=if qD a k=true then a else a++[k]
noncomputable def uQ(a vs:im)(k v:D):im:=if qD a k=true then (a.zip vs).map (λp=>if Oe p.1 k=true then v else p.2) else vs++[v]
def Ta:mf
 |.Hd t ks vs,k=>aU (Lb t k=true)<|Jg<|wY ks vs k
 |.lst x,.int i=>Jg<|Tc x i
 |.tup x,.int i=>Jg<|Tc x i
 |.str x,.int i=>aU (x.length<=big)<|Jg<|(Tc x i).map λc=>.str [c]
 |_,_=>.bad
mutual
noncomputable def qd:D->D->Bool
 |.Bb,.Bb=>true
 |.bl a,.bl b=>a==b
 |.bl a,.int j=>(if a then (1:Int) else 0)==j
 |.int i,.bl b=>i==(if b then (1:Int) else 0)
 |.int i,.int j=>i==j
 |.str x,.str y=>x==y
 |.tup x,.tup y=>nM x y
 |.lst x,.lst y=>nM x y
 |_,_=>false
noncomputable def nM:List D->List D->Bool
 |[],[]=>true
 |a::x,b::y=>qd a b&&nM x y
 |_,_=>false
end
mutual
noncomputable def Me:D->Nat
 |.tup x=>kY x+1
 |.lst x=>kY x+1
 |.Bb=>0
 |.bl _=>0
 |.int _=>0
 |.str _=>0
 |.Hd _ _ _=>0
 |.ins _ _ _=>0
 |.Bi _ _ _=>0
 |.fn _=>0
noncomputable def kY:List D->Nat
 |[]=>0
 |a::x=>max (Me a)<|kY x
end
mutual
def plain:xz
 |.tup x=>eO x
 |.lst x=>eO x
 |.Bb=>true
 |.bl _=>true
 |.int _=>true
 |.str _=>true
 |.Hd _ _ _=>false
 |.ins _ _ _=>false
 |.Bi _ _ _=>false
 |.fn _=>false
def eO:List D->Bool
 |[]=>true
 |a::x=>plain a&&eO x
end
def wc:mf:=λa b=>aU (Me a<=64/\plain a=true/\plain b=true)<|.ok<|.bl<|qd a b
def Xd:mf:=λa b=>aU (Me a<=64/\plain a=true/\plain b=true)<|.ok<|.bl<|!qd a b
noncomputable def dE:mf
 |.int i,.int j=>.ok<|.bl<|decide (i<=j)
 |_,_=>.bad
noncomputable def Eg:mf
 |.int i,.int j=>.ok<|.bl<|decide (j<i)
 |_,_=>.bad
noncomputable def Pn:mf
 |.int i,.int j=>.ok<|.bl<|decide (j<=i)
 |_,_=>.bad
def dC:Da
 |.Hd false a _=>.ok<|.int a.length
 |.lst x=>.ok<|.int x.length
 |.tup x=>.ok<|.int x.length
 |.str x=>aU (x.length<=big)<|.ok<|.int x.length
 |_=>.bad
def Xo:xz
 |.ins _ _ _=>false
 |.Bi _ _ _=>false
 |.fn _=>false
 |_=>true
def HP:xz
 |.Bb=>true
 |_=>false
def Ww:xz
 |.str _=>true
 |_=>false
def MC:xz
 |.bl _=>true
 |_=>false
noncomputable def isIn:xz
 |.bl _=>true
 |.int _=>true
 |_=>false
def NC:xz
 |.tup _=>true
 |_=>false
def w5:xz
 |.Hd _ _ _=>true
 |_=>false
def Cn:xz
 |.lst _=>true
 |_=>false
noncomputable def nO(x y:am)(lo:Nat):wS:=(List.range' lo<|x.length+1-lo).find? λi=>decide (i+y.length<=x.length)&&((x.drop i).take y.length==y)
noncomputable def Co:Option Nat->Int
 |some i=>i
 |none=>-1
noncomputable def yK(x y:am):am:=(((x.dropWhile λc=>y.contains c).reverse).dropWhile λc=>y.contains c).reverse
abbrev zo:=D->cr
noncomputable def TB:zo
 |.str x,[.str y]=>.ok<|.int<|Co<|nO x y 0
 |.str x,[.str y,.int i]=>aU (0<=i)<|.ok<|.int<|Co<|nO x y i.toNat
 |_,_=>.bad
noncomputable def TJ:zo
 |.str x,[.str y]=>(Jg<|nO x y 0).bind λi=>.ok<|.int i
 |_,_=>.bad
def kB:zo
 |.str x,[.str y]=>aU (x.length<=big)<|.ok<|.str<|yK x y
 |_,_=>.bad
def Qo:D->D->R D
 |.int i,.int j=>.ok<|.int<|if j>i then j else i
 |_,_=>.bad
def inD(x:D)(ys:im):Bool:=ys.any λy=>qd y x
noncomputable def Qn:D->D->R D
 |k,.Hd t b _=>aU (Lb t k=true)<|.ok<|.bl<|qD b k
 |x,.lst a=>aU (kY a<=60/\plain x=true/\eO a=true)<|.ok<|.bl<|inD x a
 |x,.tup a=>aU (kY a<=60/\plain x=true/\eO a=true)<|.ok<|.bl<|inD x a
 |.str x,.str y=>.ok<|.bl (nO y x 0).isSome
 |_,_=>.bad
def jT:D->D->R D
 |k,.Hd t b _=>aU (Lb t k=true)<|.ok<|.bl<|!qD b k
 |x,.lst a=>aU (kY a<=60/\plain x=true/\eO a=true)<|.ok<|.bl<|!inD x a
 |x,.tup a=>aU (kY a<=60/\plain x=true/\eO a=true)<|.ok<|.bl<|!inD x a
 |.str x,.str y=>.ok<|.bl<|!(nO y x 0).isSome
 |_,_=>.bad
noncomputable def B7:D->D->R D
 |x,.Bb=>.ok<|.bl<|HP x
 |.bl a,.bl b=>.ok<|.bl<|a==b
 |_,_=>.bad
noncomputable def bLk:D->D->R D
 |x,.Bb=>.ok<|.bl<|!HP x
 |.bl a,.bl b=>.ok<|.bl<|!(a==b)
 |_,_=>.bad
noncomputable def aA(i:Nat):Ex:=λst=>match st[i]? with
 |some (some<|.v d)=>.ok d
 |_=>.bad
noncomputable def dX(i:Nat):Ex:=λst=>match st[i]? with
 |some (some<|.v d)=>.ok d
 |some (some<|.o k a)=>.ok<|Jp k a
 |_=>.bad
def eC(d:D):Ex:=λ_=>.ok d
def e2(op:mf)(f g:Ex):Ex:=λst=>(f st).bind λx=>(g st).bind λy=>op x y
def e1(op:Da)(f:Ex):Ex:=λst=>(f st).bind op
def eB(p:xz)(f:Ex):Ex:=λst=>(f st).bind λx=>aU (Xo x=true)<|.ok<|.bl<|p x
def qh{a:Type}(d:D)(f:Bool->R a):R a:=match d with
 |.bl b=>f b
 |_=>.bad
def qF{f:Bool->R α}{a:α}(h:qh d f=.ok a):∃b,d=.bl b/\f b=.ok a:=by
 cases d<;>first|exact⟨_,rfl,h⟩|exact nomatch h
def qG(f g:Ex):Ex:=λst=>(f st).bind λx=>qh x λb=>if b=true then g st else .ok (.bl false)
def Lf(f g:Ex):Ex:=λst=>(f st).bind λx=>qh x λb=>if b=true then .ok (.bl true) else g st
def nC(f:Ex):Ex:=λst=>(f st).bind λx=>qh x λb=>.ok<|.bl<|!b
def pj(c f g:Ex):Ex:=λst=>(c st).bind λx=>qh x λb=>if b=true then f st else g st
abbrev yd:=xa->R (List D)
def aK:yd:=λ_=>.ok []
noncomputable def aB(f:Ex)(r:yd):yd:=λst=>(f st).bind λx=>(r st).bind λa=>.ok<|x::a
def wI(r:yd):Ex:=λst=>(r st).bind λa=>aU (a.length<=big)<|.ok<|.tup a
def gD(r:yd):Ex:=λst=>(r st).bind λa=>aU (a.length<=big)<|.ok<|.lst a
def aM(p:cr)(r:yd):Ex:=λst=>(r st).bind p
noncomputable def Ai(m:zo)(f:Ex)(r:yd):Ex:=λst=>(f st).bind λx=>(r st).bind λa=>m x a
def yj(d:D){a:Type}(f:Int->R a):R a:=match d with
 |.int i=>f i
 |_=>.bad
def oq{f:Int->R α}{a:α}(h:yj d f=.ok a):∃i,d=.int i/\f i=.ok a:=by
 cases d<;>first|exact⟨_,rfl,h⟩|exact nomatch h
abbrev aq:=xa->R (Option Int)
def wq:aq:=λ_=>.ok none
noncomputable def uR(f:Ex):aq:=λst=>(f st).bind λx=>yj x λi=>.ok<|some i
def KN(x:D)(lo hi:wP):R D:=match x with
 |.lst a=>.ok<|.lst<|cut a lo hi
 |.str a=>aU (a.length<=big)<|.ok<|.str<|cut a lo hi
 |_=>.bad
def Ck(f:Ex)(lo hi:aq):Ex:=λst=>(f st).bind λx=>(lo st).bind λl=>(hi st).bind λh=>KN x l h
abbrev Qk:=xa->R (List D)
noncomputable def xc(f:Ex):Qk:=λst=>(f st).bind λx=>match x with
 |.lst a=>.ok a
 |.tup a=>.ok a
 |.str a=>aU (a.length<=big)<|.ok<|a.map λc=>.str [c]
 |_=>.bad
noncomputable def jU(lo:Int)(n:Nat):im:=(List.range n).map λ(k:Nat)=>.int<|lo+(k:Int)
def tM(f:Ex):Qk:=λst=>(f st).bind λx=>yj x λj=>aU (-(big:Int)<=j/\j<=(big:Int))<|.ok<|jU 0 j.toNat
def OC(f g:Ex):Qk:=λst=>(f st).bind λx=>(g st).bind λy=>yj x λi=>yj y λj=>aU (-(big:Int)<=i/\i<=(big:Int)/\-(big:Int)<=j/\j<=(big:Int))<|.ok<|jU i (j-i).toNat
abbrev Tg:=D->xa->R xa
def Ya(i:Nat):Tg:=λd st=>.ok<|st.set i<|some<|.v d
noncomputable def Dt:am->im->xa->R xa
 |[],[],st=>.ok st
 |i::is,d::a,st=>Dt is a<|st.set i<|some<|.v d
 |_,_,_=>.bad
def uk(is:am):Tg:=λd st=>match d with
 |.tup a=>Dt is a st
 |.lst a=>Dt is a st
 |_=>.bad
noncomputable def jC(tg:Tg)(c f:Ex)(st:xa):List D->R (List D)
 |[]=>.ok []
 |d::e=>(tg d st).bind λa=>(c a).bind λx=>qh x λb=>if b=true then (f a).bind λy=>(jC tg c f st e).bind λg=>.ok (y::g) else jC tg c f st e
def qf(is:am)(st:xa):xa:=is.foldl (λs i=>s.set i none) st
def cL(is:am)(tg:Tg)(d:Qk)(c f:Ex):Ex:=λst=>(d st).bind λa=>aU (a.length<=big)<|(jC tg c f (qf is st) a).bind λb=>.ok<|.lst b
def dG:Ex:=λ_=>.ok<|.bl true
def Fm(r:R Fl)(f:xa->R Fl):R Fl:=r.bind λx=>match x with
 |.nx st=>f st
 |.rt d=>.ok<|.rt d
 |.bk st=>.ok<|.bk st
 |.ct st=>.ok<|.ct st
def cO:Bd:=λst=>.ok<|.nx st
def bC(a b:Bd):Bd:=λst=>Fm (a st) b
noncomputable def dD(i:Nat)(f:Ex):Bd:=λst=>(f st).bind λd=>.ok<|.nx<|st.set i<|some<|.v d
noncomputable def rN(i:Nat)(f:Ex):Bd:=λst=>(f st).bind λd=>match d with
 |.lst a=>.ok<|.nx<|st.set i<|some<|.o .l a
 |_=>.bad
noncomputable def Xw(tg:Tg)(f:Ex):Bd:=λst=>(f st).bind λd=>(tg d st).bind λa=>.ok<|.nx a
noncomputable def Yh(i:Nat)(f:Ex):Bd:=λst=>(f st).bind λd=>match st[i]? with
 |some (some<|.o .l a)=>aU (a.length<big)<|.ok<|.nx<|st.set i<|some<|.o .l<|a++[d]
 |_=>.bad
noncomputable def Yw(i:Nat)(g f:Ex):Bd:=λst=>(f st).bind λd=>(g st).bind λx=>yj x λj=>match st[i]? with
 |some (some<|.o .l a)=>(Jg<|kg a.length j).bind λk=>.ok<|.nx<|st.set i<|some<|.o .l<|a.set k d
 |_=>.bad
def PC(i:Nat)(f:Ex):Bd:=λst=>(f st).bind λd=>match d with
 |.lst a=>(match st[i]? with
  |some (some<|.o .l b)=>aU (b.length+a.length<=big)<|.ok<|.nx<|st.set i<|some<|.o .l<|b++a
  |_=>.bad)
 |_=>.bad
def Ro(i:Nat)(t:Bool):Bd:=λst=>.ok<|.nx<|st.set i<|some<|.o (.d t []) []
noncomputable def ze(i:Nat)(g f:Ex):Bd:=λst=>(f st).bind λd=>(g st).bind λk=>match st[i]? with
 |some (some<|.o (.d t b) a)=>aU (Lb t k=true/\a.length<big)<|.ok<|.nx<|st.set i<|some<|.o (.d t<|uP b k)<|uQ b a k d
 |_=>.bad
noncomputable def Ot(i:Nat)(c f:String)(e:Ex):Bd:=λst=>(e st).bind λd=>match st[i]? with
 |some (some<|.o (.i n b a) g)=>aU (b=c/\f∉a/\a.length<900)<|.ok<|.nx<|st.set i<|some<|.o (.i n b<|a++[f])<|g++[d]
 |_=>.bad
def lY(c f:String):Da
 |.ins d b a=>aU (d=c)<|Jg<|(b.zip a).lookup f
 |_=>.bad
def vQ(c m:String)(p:cr)(d:im)(f:Ex)(r:yd):Ex:=λst=>(f st).bind λx=>(r st).bind λa=>match x with
 |.ins e b _=>aU (e=c/\m∉b)<|p<|x::(a++d)
 |_=>.bad
def oJ:Bd:=λ_=>.bad
noncomputable def Qm(st:xa)(i:Nat):xa:=match st[i]? with
 |some (some<|.o k a)=>st.set i<|some<|.v<|Jp k a
 |_=>st
def fk(is:am)(b:Bd):Bd:=λst=>b<|is.foldl Qm st
noncomputable def cG(f:Ex):Bd:=λst=>(f st).bind λd=>.ok<|.rt d
noncomputable def HL(f:Ex):Bd:=λst=>(f st).bind λ_=>.ok<|.nx st
noncomputable def Nc(c:Ex)(a b:Bd):Bd:=λst=>(c st).bind λx=>qh x λq=>if q=true then a st else b st
noncomputable def Eb(tg:Tg)(a:Bd):im->xa->R Fl
 |[],st=>.ok<|.nx st
 |d::c,st=>(tg d st).bind λe=>(a e).bind λx=>match x with
  |.nx b=>Eb tg a c b
  |.ct b=>Eb tg a c b
  |.bk b=>.ok<|.nx b
  |.rt v=>.ok<|.rt v
def qH(tg:Tg)(c:Qk)(a:Bd):Bd:=λst=>(c st).bind λb=>Eb tg a b st
noncomputable def lH(c:Ex)(a:Bd):Nat->xa->R Fl
 |0,_=>.bad
 |n+1,st=>(c st).bind λx=>qh x λq=>if q=true then (a st).bind λx=>(match x with
  |.nx b=>lH c a n b
  |.ct b=>lH c a n b
  |.bk b=>.ok<|.nx b
  |.rt v=>.ok<|.rt v) else .ok (.nx st)
def Et(n:Nat)(c:Ex)(a:Bd):Bd:=λst=>lH c a n st
noncomputable def cM(a n:Nat)(b:Bd)(ds:im):R D:=
 aU (ds.length=a) ((b<|ds.map (λd=>some<|.v d)++List.replicate (n-a) none).bind λx=>match x with
  |.nx _=>.ok .Bb
  |.rt d=>.ok d
  |_=>.bad)
def Pt(c:String)(a n:Nat)(b:Bd)(x:Nat)(ds:im):R D:=
 aU (ds.length=a) ((b<|some (.o (.i x c []) [])::(ds.map (λd=>some<|.v d)++List.replicate (n-a-1) none)).bind λ(g:Fl)=>match g with
  |.nx st=>(match (st[0]?:Option (Option Sl)) with
   |some (some<|.o (.i y h f) e)=>aU (y=x)<|.ok<|.ins h f e
   |_=>.bad)
  |_=>.bad)
open Classical in
def En(c:String)(a n:Nat)(b:Bd)(ds:im):R D:=if h:∃d,∀x,Pt c a n b x ds=.ok d then .ok (choose h) else .bad
def bGy{c:String} {b:Bd} (h:∀x,Pt c np n b x ds=.ok d):En c np n b ds=.ok d:=by
 unfold En;rw[dif_pos _];have:=Y6 (p:=λd=>∀x,Pt c np n b x ds=.ok d) ⟨d,h⟩ 0
 rw[h 0]at this;exact this.symm
def BY{c:String} {b:Bd} (h:En c np n b ds=.ok d) (x:Nat):Pt c np n b x ds=.ok d:=by
 unfold En at h;split at h
 .rename_i e
  rwa [(Y6 e x)]
 cases h
end
end Pu
variable{d y d0 d1:Pu.D}{ds xs ys dv:List Pu.D}{f g:Pu.Ex}{bd L mj:Pu.Bd}{bds:List Pu.D->Pu.Bd}{st' s1:Pu.xa}{p:List Pu.D->Pu.R Pu.D}{it:Pu.Qk}
namespace Pu
@[simp] theorem bg1:1<=big:=dO (by decide)
@[simp] theorem bg2:2<=big:=dO (by decide)
@[simp] theorem bg3:3<=big:=dO (by decide)
@[simp] theorem bD(a:α)(f:α->R β):(R.ok a).bind f=f a:=rfl
@[simp] theorem rq(b:Bool)(f:Bool->R α):qh (.bl b) f=f b:=rfl
@[simp] theorem bR7(i:Int)(f:Int->R α):yj (.int i) f=f i:=rfl
@[simp] theorem bR8(st:xa)(f:xa->R Fl):Fm (.ok<|.nx st) f=f st:=rfl
@[simp] theorem bR9(d:D)(f:xa->R Fl):Fm (.ok<|.rt d) f=.ok (.rt d):=rfl
@[simp] theorem EA(i:Nat)(st:xa):aA i st=(match st[i]? with|some (some<|.v d)=>R.ok d|_=>.bad):=rfl
@[simp] theorem G4(d:D)(st:xa):eC d st=.ok d:=rfl
@[simp] theorem Ew(op:mf)(f g:Ex)(st:xa):e2 op f g st=(f st).bind λx=>(g st).bind λy=>op x y:=rfl
@[simp] theorem J4(op:Da)(f:Ex)(st:xa):e1 op f st=(f st).bind op:=rfl
@[simp] theorem bSn(p:xz)(f:Ex)(st:xa):eB p f st=(f st).bind λx=>aU (Xo x=true) (.ok<|.bl<|p x):=rfl
@[simp] theorem CY(f g:Ex)(st:xa):qG f g st=(f st).bind λx=>qh x λb=>if b=true then g st else .ok (.bl false):=rfl
@[simp] theorem bLm(f g:Ex)(st:xa):Lf f g st=(f st).bind λx=>qh x λb=>if b=true then .ok (.bl true) else g st:=rfl
@[simp] theorem bGz(f:Ex)(st:xa):nC f st=(f st).bind λx=>qh x λb=>.ok (.bl<|!b):=rfl
@[simp] theorem bS8(c f g:Ex)(st:xa):pj c f g st=(c st).bind λx=>qh x λb=>if b=true then f st else g st:=rfl
@[simp] theorem bRa(st:xa):aK st=.ok []:=rfl
@[simp] theorem bP7(f:Ex)(r:yd)(st:xa):aB f r st=(f st).bind λx=>(r st).bind λxs=>.ok (x::xs):=rfl
@[simp] theorem bRb(r:yd)(st:xa):wI r st=(r st).bind λxs=>aU (xs.length<=big) (.ok<|.tup xs):=rfl
@[simp] theorem bH0(r:yd)(st:xa):gD r st=(r st).bind λxs=>aU (xs.length<=big) (.ok<|.lst xs):=rfl
@[simp] theorem bP8(p:cr)(r:yd)(st:xa):aM p r st=(r st).bind p:=rfl
@[simp] theorem bS9(m:zo)(f:Ex)(r:yd)(st:xa):Ai m f r st=(f st).bind λx=>(r st).bind λxs=>m x xs:=rfl
@[simp] theorem ż(st:xa):wq st=.ok none:=rfl
@[simp] theorem Ž(f:Ex)(st:xa):uR f st=(f st).bind λx=>yj x λi=>.ok (some i):=rfl
@[simp] theorem U1(f:Ex)(lo hi:aq)(st:xa):Ck f lo hi st=(f st).bind λx=>(lo st).bind λl=>(hi st).bind λh=>KN x l h:=rfl
@[simp] theorem bH1(f:Ex)(st:xa):tM f st=(f st).bind λx=>yj x λj=>aU (-(big:Int)<=j/\j<=(big:Int)) (.ok<|jU 0 j.toNat):=rfl
@[simp] theorem bRc(f g:Ex)(st:xa):OC f g st=(f st).bind λx=>(g st).bind λy=>yj x λi=>yj y λj=>aU (-(big:Int)<=i/\i<=(big:Int)/\-(big:Int)<=j/\j<=(big:Int)) (.ok<|jU i (j-i).toNat):=rfl
@[simp] theorem bP9(tg:Tg)(b:Bd)(st:xa):Eb tg b [] st=.ok (.nx st):=rfl
def uL(tg:Tg)(b:Bd)(d:D)(ds:im)(st:xa):Eb tg b (d::ds) st=(tg d st).bind λc=>(b c).bind λx=>match x with
  |.nx a=>Eb tg b ds a
  |.ct a=>Eb tg b ds a
  |.bk a=>.ok<|.nx a
  |.rt v=>.ok (.rt v):=rfl
def vR(c:Ex)(b:Bd)(n:Nat)(st:xa):lH c b (n+1) st=(c st).bind λx=>qh x λq=>if q=true then (b st).bind λx=>(match x with
  |.nx s2=>lH c b n s2
  |.ct s2=>lH c b n s2
  |.bk s2=>.ok<|.nx s2
  |.rt v=>.ok<|.rt v) else .ok (.nx st):=rfl
@[simp] theorem V1(f:Ex)(st:xa):xc f st=(f st).bind λx=>match x with|.lst xs=>.ok xs|.tup xs=>.ok xs|.str xs=>aU (xs.length<=big) (.ok<|xs.map λc=>.str [c])|_=>.bad:=rfl
@[simp] theorem BU(n:Nat)(c:Ex)(b:Bd)(st:xa):Et n c b st=lH c b n st:=rfl
@[simp] theorem bH2(i:Nat)(f:Ex)(st:xa):Yh i f st=(f st).bind λd=>match st[i]? with|some (some<|.o .l xs)=>aU (xs.length<big) (.ok<|.nx<|st.set i<|some<|.o .l<|xs++[d])|_=>.bad:=rfl
@[simp] theorem ž(i:Nat)(f:Ex)(st:xa):rN i f st=(f st).bind λd=>match d with|.lst xs=>.ok (.nx<|st.set i<|some<|.o .l xs)|_=>.bad:=rfl
@[simp] theorem bRd(i:Nat)(g f:Ex)(st:xa):Yw i g f st=(f st).bind λd=>(g st).bind λx=>yj x λj=>match st[i]? with|some (some<|.o .l xs)=>(Jg<|kg xs.length j).bind λk=>.ok (.nx<|st.set i<|some<|.o .l<|xs.set k d)|_=>.bad:=rfl
@[simp] theorem bH3(i:Nat)(f:Ex)(st:xa):PC i f st=(f st).bind λd=>match d with|.lst ys=>(match st[i]? with|some (some<|.o .l xs)=>aU (xs.length+ys.length<=big) (.ok<|.nx<|st.set i<|some<|.o .l<|xs++ys)|_=>.bad)|_=>.bad:=rfl
@[simp] theorem ſ(i:Nat)(c f:String)(e:Ex)(st:xa):Ot i c f e st=(e st).bind λd=>match st[i]? with|some (some<|.o (.i n b a) xs)=>aU (b=c/\f∉a/\a.length<900) (.ok<|.nx<|st.set i<|some<|.o (.i n b<|a++[f])<|xs++[d])|_=>.bad:=rfl
@[simp] theorem xv(c f b:String)(a:wp)(xs:im):lY c f (.ins b a xs)=aU (b=c) (Jg<|(a.zip xs).lookup f):=rfl
@[simp] theorem LV(c m:String)(p:cr)(a:im)(f:Ex)(r:yd)(st:xa):vQ c m p a f r st=(f st).bind λx=>(r st).bind λxs=>match x with|.ins d b _=>aU (d=c/\m∉b) (p<|x::(xs++a))|_=>.bad:=rfl
@[simp] theorem bSa(is:am)(b:Bd)(st:xa):fk is b st=b (is.foldl Qm st):=rfl
@[simp] theorem bSb(st:xa)(i:Nat):Qm st i=(match st[i]? with|some (some<|.o k xs)=>st.set i (some<|.v<|Jp k xs)|_=>st):=rfl
@[simp] theorem bRe(x y:am):TB (.str x) [.str y]=.ok (.int<|Co<|nO x y 0):=rfl
@[simp] theorem bPa(x y:am):kB (.str x) [.str y]=aU (x.length<=big) (.ok<|.str<|yK x y):=rfl
@[simp] theorem bK0(i:Nat):Co (some i)=i:=rfl
@[simp] theorem bPb(x:im):dC (.tup x)=.ok (.int x.length):=rfl
@[simp] theorem bRf(i j:Int):Pn (.int i) (.int j)=.ok (.bl<|decide (j<=i)):=rfl
@[simp] theorem bPc(b:Int):Xo (.int b)=true:=rfl
@[simp] theorem bPd(b:am):Xo (.str b)=true:=rfl
@[simp] theorem bPe(b:im):Xo (.tup b)=true:=rfl
@[simp] theorem bPf(b:im):Xo (.lst b)=true:=rfl
@[simp] theorem bSc(i:Nat)(d:D)(st:xa):Ya i d st=.ok (st.set i<|some<|.v d):=rfl
@[simp] theorem bRg(st:xa):qf [] st=st:=rfl
@[simp] theorem bPg(i:Nat)(is:am)(st:xa):qf (i::is) st=qf is (st.set i none):=rfl
def uT(tg:Tg)(c f:Ex)(st:xa)(d:D)(ds:im):jC tg c f st (d::ds)=(tg d st).bind λa=>(c a).bind λx=>qh x λb=>if b=true then (f a).bind λy=>(jC tg c f st ds).bind λys=>.ok (y::ys) else jC tg c f st ds:=rfl
@[simp] theorem yv(is:am)(tg:Tg)(a:Qk)(c f:Ex)(st:xa):cL is tg a c f st=(a st).bind λxs=>aU (xs.length<=big) ((jC tg c f (qf is st) xs).bind λys=>.ok<|.lst ys):=rfl
@[simp] theorem bPh(st:xa):cO st=.ok (.nx st):=rfl
@[simp] theorem bH4(a b:Bd)(st:xa):bC a b st=Fm (a st) b:=rfl
@[simp] theorem bH5(i:Nat)(f:Ex)(st:xa):dD i f st=(f st).bind λd=>.ok (.nx<|st.set i<|some<|.v d):=rfl
@[simp] theorem yL(f:Ex)(st:xa):cG f st=(f st).bind λd=>.ok (.rt d):=rfl
@[simp] theorem bLn(c:Ex)(a b:Bd)(st:xa):Nc c a b st=(c st).bind λx=>qh x λq=>if q=true then a st else b st:=rfl
@[simp] theorem bH6(tg:Tg)(b:Qk)(a:Bd)(st:xa):qH tg b a st=(b st).bind λxs=>Eb tg a xs st:=rfl
@[simp] theorem bPi(i j:Int):lE (.int i) (.int j)=.ok (.int<|i+j):=rfl
@[simp] theorem bPj(i j:Int):pH (.int i) (.int j)=aU (0<j) (.ok<|.int<|i%j):=rfl
@[simp] theorem bRh(i j:Int):dE (.int i) (.int j)=.ok (.bl<|decide (i<=j)):=rfl
@[simp] theorem bLo(x y:D):wc x y=aU (Me x<=64/\plain x=true/\plain y=true) (.ok<|.bl<|qd x y):=rfl
@[simp] theorem X1(x y:D):Xd x y=aU (Me x<=64/\plain x=true/\plain y=true) (.ok<|.bl<|!qd x y):=rfl
@[simp] theorem bRi(i:Int):Me (.int i)=0:=rfl
@[simp] theorem bRj(s:am):Me (.str s)=0:=rfl
@[simp] theorem bRk(x:im):Me (.tup x)=kY x+1:=by conv=>lhs;unfold Me
@[simp] theorem bH7(x:im):Me (.lst x)=kY x+1:=by conv=>lhs;unfold Me
@[simp] theorem bO5:plain .Bb=true:=by unfold plain;rfl
@[simp] theorem bPk(b:Bool):plain (.bl b)=true:=rfl
@[simp] theorem bO6(i:Int):plain (.int i)=true:=rfl
@[simp] theorem bO7(s:am):plain (.str s)=true:=rfl
@[simp] theorem bO8(x:im):plain (.tup x)=eO x:=by conv=>lhs;unfold plain
@[simp] theorem ĭ(x:im):plain (.lst x)=eO x:=by conv=>lhs;unfold plain
@[simp] theorem bO9(t:Bool)(k v:im):plain (.Hd t k v)=false:=rfl
@[simp] theorem bOa(c:String)(n:wp)(v:im):plain (.ins c n v)=false:=rfl
@[simp] theorem bOb(c:String)(n:wp)(v:im):plain (.Bi c n v)=false:=rfl
@[simp] theorem bPl(f:String):plain (.fn f)=false:=rfl
@[simp] theorem bLp:eO []=true:=by unfold eO;rfl
@[simp] theorem bK1(a:D)(x:im):eO (a::x)=(plain a&&eO x):=by conv=>lhs;unfold eO
@[simp] theorem bPm:kY []=0:=by unfold kY;rfl
@[simp] theorem Į(a:D)(x:im):kY (a::x)=max (Me a) (kY x):=by conv=>lhs;unfold kY
@[simp] theorem bRl(i j:Int):qd (.int i) (.int j)=(i==j):=by unfold qd;rfl
@[simp] theorem bRm(i j:am):qd (.str i) (.str j)=(i==j):=rfl
@[simp] theorem bOc(a:Bool)(b:Bool):qd (.bl a) (.bl b)=(a==b):=by unfold qd;rfl
@[simp] theorem bK2(x:im)(y:im):qd (.tup x) (.tup y)=nM x y:=by conv=>lhs;unfold qd
@[simp] theorem bK3(x:im)(y:im):qd (.lst x) (.lst y)=nM x y:=by conv=>lhs;unfold qd
@[simp] theorem bH8:nM [] []=true:=by unfold nM;rfl
@[simp] theorem bG2(b:D)(y:im):nM [] (b::y)=false:=rfl
@[simp] theorem bG3(b:D)(y:im):nM (b::y) []=false:=rfl
@[simp] theorem bC0(a b:D)(x y:im):nM (a::x) (b::y)=(qd a b&&nM x y):=by conv=>lhs;unfold nM
@[simp] theorem bPn(x:im):dC (.lst x)=.ok (.int x.length):=rfl
@[simp] theorem bRn(x:im)(i:Int):Ta (.tup x) (.int i)=Jg (Tc x i):=rfl
@[simp] theorem bRo(x:im)(i:Int):Ta (.lst x) (.int i)=Jg (Tc x i):=rfl
@[simp] theorem bRp(x:am)(l h:wP):KN (.str x) l h=aU (x.length<=big) (.ok<|.str<|cut x l h):=rfl
@[simp] theorem bSo(xs:im):Jp .l xs=.lst xs:=rfl
@[simp] theorem bPo(a:α):Jg (some a)=.ok a:=rfl
@[simp] theorem gR{c:Prop}{r:R α}(h:c):aU c r=r:=aD h
@[simp] theorem DY{b:Bd} (h:ds.length=np):cM np n b ds=(b<|ds.map (λd=>some<|.v d)++List.replicate (n-np) none).bind λx=>match x with
  |.nx _=>.ok .Bb
  |.rt d=>.ok d
  |_=>.bad:=aD h
def Y1{xs:List α}{i:Int}(a:0<=i)(h:i<xs.length):Tc xs i=some (xs[i.toNat]'(by omega)):=by
 unfold Tc kg;rw[Ka a,Ka h];exact md _
theorem Jb{xs:List α}{i:Nat}(h:i<xs.length):Tc xs (i:Int)=some xs[i]:=by
 rw[Y1 (by lia) (by lia)]
 simp
def bS(lo:Int)(n:Nat):(jU lo n).length=n:=by simp[jU]
def Qt:Da
 |.lst x=>.ok<|.lst x
 |.tup x=>.ok<|.lst x
 |_=>.bad
noncomputable def Ju:List D->R (List Bool)
 |[]=>.ok []
 |.bl b::r=>(Ju r).bind λx=>.ok<|b::x
 |_::_=>.bad
noncomputable def nP:List D->R (List Int)
 |[]=>.ok []
 |.int i::r=>(nP r).bind λx=>.ok<|i::x
 |_::_=>.bad
noncomputable def Rt:im->R (List<|List Nat)
 |[]=>.ok []
 |.str s::r=>(Rt r).bind λx=>.ok<|s::x
 |_::_=>.bad
noncomputable def Yo:Da
 |.lst x=>(Ju x).bind λl=>.ok<|.bl<|l.all id
 |_=>.bad
noncomputable def tQ:List Int->Int
 |[]=>0
 |i::r=>r.foldl (λa b=>if b>a then b else a) i
noncomputable def Sk:Da
 |.lst x=>(nP x).bind λl=>aU (0<l.length)<|.ok<|.int<|tQ l
 |_=>.bad
def So(a:am):List (List Nat)->List Nat
 |[]=>[]
 |[x]=>x
 |x::r=>x++a++So a r
noncomputable def Fw:zo
 |.str a,[.lst x]=>(Rt x).bind λl=>aU ((l.map List.length).sum+l.length*a.length<=big)<|.ok<|.str<|So a l
 |_,_=>.bad
theorem Z1:∀{x:im}{l:GM},Ju x=.ok l->x=l.map D.bl
 |[],l,h=>by cases h;rfl
 |d::x,l,h=>by
  cases d<;>first|(cases h)|skip
  obtain⟨c,b,a⟩:=R.ja h;cases a;rw[Z1 b];rfl
theorem uU:∀{x:im}{l:lv},nP x=.ok l->x=l.map D.int
 |[],l,h=>by cases h;rfl
 |d::x,l,h=>by
  cases d<;>first|(cases h)|skip
  obtain⟨c,b,a⟩:=R.ja h;cases a;rw[uU b];rfl
theorem MV:∀{x:im} {l:be},Rt x=.ok l->x=l.map D.str
 |[],l,h=>by cases h;rfl
 |d::x,l,h=>by
  cases d<;>first|(cases h)|skip
  obtain⟨c,b,a⟩:=R.ja h;cases a;rw[MV b];rfl
theorem EY:∀(l:GM),Ju (l.map D.bl)=.ok l
 |[]=>rfl
 |b::l=>by show (Ju _).bind _=_;rw[EY l];rfl
theorem iJ:∀(l:lv),nP (l.map D.int)=.ok l
 |[]=>rfl
 |b::l=>by show (nP _).bind _=_;rw[iJ l];rfl
theorem CU:∀(l:be),Rt (l.map D.str)=.ok l
 |[]=>rfl
 |b::l=>by show (Rt _).bind _=_;rw[CU l];rfl
theorem Jz:∀(r:lv)(a:Int),a<=r.foldl (λa b=>if b>a then b else a) a/\(∀x∈r,x<=r.foldl (λa b=>if b>a then b else a) a)/\(r.foldl (λa b=>if b>a then b else a) a=a\/r.foldl (λa b=>if b>a then b else a) a∈r)
 |[],a=>⟨Ak _,λ_ h=>(by cases h),.inl rfl⟩
 |b::r,a=>by
  obtain⟨d,e,c⟩:=Jz r _;rw[Mm];refine⟨Nn (by split<;>lia) d,λx hx=>?_,?_⟩
  .rcases Pb.mp hx with rfl|hx
   .exact Nn (by split<;>lia) d
   exact e x hx
  rcases c with c|c
  .rw[c];split
   .exact .inr zb
   exact .inl rfl
  exact .inr<|Ab _ c
theorem yM{l:lv}{m:Int}(c:m∈l)(b:∀x∈l,x<=m):tQ l=m:=by
 cases l with
 |nil=>cases c
 |cons i r=>
  obtain⟨h,d,a⟩:=Jz r i;have g:tQ (i::r)<=m:=by
   rcases a with a|a
   .exact b _ (by show r.foldl _ i∈_;rw[a];exact zb)
   exact b _<|Ab _ a
  have f:m<=tQ (i::r):=by
   rcases Pb.mp c with e|e
   .rwa [e]
   exact d _ e
  lia
inductive l_ where
 |nx (g9:List (List D)) (st:xa)|rt (d:D)
abbrev NB:=List im->xa->R l_
noncomputable def YK(i:Nat):Bd:=λst=>match st[i]? with
 |some (some<|.o .l xs)=>.ok<|.rt<|.lst xs
 |_=>.bad
noncomputable def Zm(a:Bd)(i:Nat):Bd:=λst=>match a st with
 |.ok (.nx s)=>YK i s
 |_=>.bad
noncomputable def UB:R D->Option (List D×List D)
 |.ok (.tup [.lst xs,.lst ys])=>some (xs,ys)
 |_=>none
def í{r:R D} (h:UB r=some (xs,ys)):r=.ok (.tup [.lst xs,.lst ys]):=by
 unfold UB at h;split at h
 .cases h;rfl
 cases h
noncomputable def Bm(a:Bd)(f:Ex):Bd:=λst=>match a st with
 |.ok (.nx s)=>(match UB (f s) with
  |some (xs,ys)=>.ok<|.rt<|.tup [.lst xs,.lst ys]
  |none=>.bad)
 |.exc x=>.exc x
 |_=>.bad
noncomputable def IL(i j:Nat)(f:Ex):Bd:=λst=>(f st).bind λd=>match d with
 |.tup [.lst xs,.lst ys]=>.ok<|.nx<|(st.set i<|some<|.o .l xs).set j<|some<|.o .l ys
 |_=>.bad
noncomputable def bw(p:cr)(r:yd):Ex:=λst=>(r st).bind λds=>(p ds).bind λd=>match d with
 |.bl b=>.ok<|.bl b
 |_=>.bad
noncomputable def KL(i:Nat):Bd:=λst=>match st[i]? with
 |some (some<|.o .l _)=>.ok<|.nx<|st.set i<|some<|.o .l []
 |_=>.bad
noncomputable def jn(l:lv):lv:=l.foldl (λa x=>if a.any (· == x) then a else a++[x]) []
noncomputable def Lv:Da
 |.lst x=>(nP x).bind λl=>aU (l.length<=4000)<|.ok<|.int (jn l).length
 |_=>.bad
noncomputable def atom:xz
 |.Bb=>true
 |.bl _=>true
 |.int _=>true
 |.str _=>true
 |_=>false
def bPp:xz
 |.lst xs=>xs.all atom
 |_=>false
noncomputable section
def dw:Da
 |.lst xs=>aU (xs.all atom=true)<|.ok<|.lst xs
 |_=>.bad
def bLs:Da
 |.lst xs=>aU (xs.length<=big/\xs.all bPp=true)<|.ok<|.lst xs
 |_=>.bad
def RN(f:Ex):Ex:=λst=>(f st).bind λd=>aU (atom d=true)<|.ok d
def unL:D->List D
 |.lst xs=>xs
 |_=>[]
open Classical in
def bSp(c:String)(a n:Nat)(b:Bd)(ds:im):R D:=if h:∃r,∀x,Pt c a n b x ds=r then choose h else .bad
end
noncomputable def Zw:List Nat->List D->List D
 |c::z,d::ds=>.tup [.str [c],d] :: Zw z ds
 |_,_=>[]
noncomputable def K4(f g:Ex):Qk:=λst=>(f st).bind λx=>(g st).bind λy=>match x,y with
 |.str z,.lst ds=>.ok<|Zw z ds
 |_,_=>.bad
noncomputable section
def Mv:Da
 |.int n=>aU (-(big:Int)<=n/\n<=(big:Int))<|.ok<|.lst<|jU 0 n.toNat
 |_=>.bad
def UJ(i:Nat)(g f:Ex):Bd:=λst=>(g st).bind λk=>(f st).bind λd=>aU (LC k=true/\atom d=true)<|.ok<|.nx<|st.set i<|some<|.o (.d false [k]) [d]
def Lj:mf
 |.int i,.int j=>aU (0<=j/\j<=1000000/\i.natAbs<18446744073709551616)<|.ok<|.int<|i*2^j.toNat
 |_,_=>.bad
def Wi:mf
 |.int i,.int j=>aU (0<=j)<|.ok<|.int<|i/2^j.toNat
 |_,_=>.bad
def yh:mf
 |.int i,.int j=>aU (0<=i/\0<=j)<|.ok<|.int ((i.toNat&&&j.toNat:Nat):Int)
 |_,_=>.bad
def Dl:mf
 |.int i,.int j=>aU (0<=i/\0<=j)<|.ok<|.int ((i.toNat|||j.toNat:Nat):Int)
 |_,_=>.bad
noncomputable def VB:zo
 |.lst xs,[.int k]=>(nP xs).bind λl=>(Jg<|l.findIdx? λi=>i==k).bind λn=>aU (xs.length<=big)<|.ok<|.int (n:Int)
 |_,_=>.bad
end
def vU(i:Int):Nat:=if i=0 then 0 else i.natAbs.log2+1
def FA:Da
 |.int i=>.ok<|.int (vU i:Nat)
 |_=>.bad
noncomputable def mB:Da
 |.Hd false a ds=>aU (a.length<=big)<|.ok<|.lst<|List.zipWith (λk d=>.tup [k,d]) a ds
 |_=>.bad
noncomputable def vV(a:Bd)(f:Ex):Bd:=λst=>match a st with
 |.ok (.nx s)=>(f s).bind λd=>match d with
  |.lst xs=>.ok<|.rt<|.lst xs
  |_=>.bad
 |_=>.bad
noncomputable def A5:Da
 |.lst xs=>(nP xs).bind λl=>.ok<|.int l.sum
 |_=>.bad
noncomputable def Fn:mf
 |.int i,.int j=>.ok<|.bl<|decide (i<j)
 |_,_=>.bad
noncomputable def rO:mf
 |.int i,.int j=>aU ((-18446744073709551616<i/\i<18446744073709551616)\/(-18446744073709551616<j/\j<18446744073709551616))<|.ok<|.int<|i*j
 |_,_=>.bad
@[simp] theorem bC5(i j:Int):Fn (.int i) (.int j)=.ok (.bl<|decide (i<j)):=rfl
@[simp] theorem bOd(i j:Int):rO (.int i) (.int j)=aU ((-18446744073709551616<i/\i<18446744073709551616)\/(-18446744073709551616<j/\j<18446744073709551616)) (.ok<|.int<|i*j):=rfl
end Pu
variable{nb:Pu.NB}
namespace Pu
noncomputable section
def Tt:D->D->D->R D
 |.Hd t a b,k,x=>aU (Lb t k=true)<|if qD a k=true then Jg (wY a b k) else .ok x
 |_,_,_=>.bad
def Gq(f g h:Ex):Ex:=λst=>(f st).bind λd=>(g st).bind λk=>(h st).bind λx=>Tt d k x
def WB(i j:Nat)(p:cr)(f:Ex):Bd:=λst=>(f st).bind λx=>match st[j]? with
 |some (some<|.o .l ys)=>(match ys.getLast? with
  |some d=>aU (ys.length<=big)<|(p [x,d]).bind λy=>.ok<|.nx<|(st.set j<|some<|.o .l ys.dropLast).set i<|some<|.v y
  |none=>.bad)
 |_=>.bad
noncomputable def Zo:Da
 |.int i=>.ok<|.int i
 |.bl b=>.ok<|.int<|if b then 1 else 0
 |_=>.bad
noncomputable def Gn:List D->List D->List D->List D->List D×List D
 |a,b,k::d,v::c=>Gn (uP a k) (uQ a b k v) d c
 |a,b,_,_=>(a,b)
noncomputable def ax(i:Nat)(f:Ex):Bd:=λst=>(f st).bind λd=>match d with
 |.Hd false c a=>(match st[i]? with
  |some (some<|.o (.d false e) b)=>aU (c.length=a.length/\b.length+a.length<=big)<|.ok<|.nx<|st.set i<|some<|.o (.d false (Gn e b c a).1) (Gn e b c a).2
  |_=>.bad)
 |_=>.bad
def XB(i:Nat)(g f:Ex):Bd:=λst=>(g st).bind λk=>(f st).bind λd=>match st[i]? with
 |some (some<|.o (.d false a) b)=>aU (Lb false k=true/\b.length<big)<|.ok<|.nx<|if qD a k=true then st else st.set i (some<|.o (.d false<|uP a k)<|uQ a b k d)
 |_=>.bad
end
noncomputable def YB:Da
 |.Hd false _ ds=>(nP ds).bind λl=>aU (0<l.length)<|.ok<|.int<|tQ l
 |_=>.bad
noncomputable section
noncomputable def Gw(y:Nat)(c d:Ex)(n:Int)(st:xa):R xa:=(c st).bind λx=>qh x λb=>if b=true/\0<n then (d st).bind λx=>qh x λb=>if b=true then (aA y st).bind λw=>yj w λm=>.ok (st.set y<|some<|.v<|.int<|if n+1>m then n+1 else m) else .ok st else .ok st
noncomputable def Ut(j y:Nat)(c d:Ex):im->im->xa->R xa
 |k::b,z::a,st=>yj z λn=>(Gw y c d n<|st.set j<|some<|.v k).bind<|Ut j y c d b a
 |[],[],st=>.ok st
 |_,_,_=>.bad
noncomputable def ZK(i j y:Nat)(c d:Ex):Bd:=λst=>match st[i]? with
 |some (some<|.o (.d false a) ds)=>(Ut j y c d a ds<|st.set i none).bind λs=>.ok<|.nx<|s.set i<|some<|.o (.d false a) ds
 |_=>.bad
def Hq(g:cr)(ds out:im):Prop:=out.Perm ds/\out.Pairwise λx y=>∃i j,g [x]=.ok (.int i)/\g [y]=.ok (.int j)/\i<=j
def Cm(t:Tg)(f:Ex)(g:cr)(a:Bd)(out:im):Bd:=λst=>(f st).bind λx=>match x with
 |.lst ds=>aU (ds.length<=1000/\∀d∈ds,∃n m,d=.int n/\g [d]=.ok (.int m))<|open Classical in if Hq g ds out then Eb t a out st else .ok (.bk [])
 |_=>.bad
def OV{t:Tg} {g:cr} {out ds:im} {st:xa} (c:f st=.ok (.lst ds)) (b:ds.length<=1000/\∀d∈ds,∃n m,d=.int n/\g [d]=.ok (.int m)) (a:Hq g ds out):Cm t f g bd out st=Eb t bd out st:=by
 unfold Cm;rw[c];show aU _ _=_;rw[aD b,Ka a]
def bC8{t:Tg} {g:cr} {out ds:im} {st:xa} (c:f st=.ok (.lst ds)) (b:ds.length<=1000/\∀d∈ds,∃n m,d=.int n/\g [d]=.ok (.int m)) (a:¬ Hq g ds out):Cm t f g bd out st=.ok (.bk []):=by
 unfold Cm;rw[c];show aU _ _=_;rw[aD b,Ea a]
def gw(a:im->Bd)(st:xa)(d:D):Prop:=∀out,a out st=.ok (.rt d)\/a out st=.ok (.bk [])
def pN(a:im->Bd)(st:xa):R D:=open Classical in if h:∃d,(∃out,a out st=.ok (.rt d))/\gw a st d then .ok h.choose else .bad
def bPr{st:xa} (h:pN bds st=.ok d):gw bds st d:=by
 unfold pN at h;split at h
 .rename_i q;cases h;exact q.choose_spec.2
 .cases h
def bPs{st:xa} (out:im) (h:bds out st=.ok (.rt d)) (a:gw bds st d):pN bds st=.ok d:=by
 unfold pN;have q:∃d,(∃out,bds out st=.ok (.rt d))/\gw bds st d:=⟨d,⟨out,h⟩,a⟩;rw[dif_pos q];rcases q.choose_spec.2 out with e|e
 .grind
 rw[h]at e;cases e
def B5(a:im->Bd):Bd:=λst=>(pN a st).bind λd=>.ok<|.rt d
def Hw(c:Int):Da
 |.lst ds=>(nP ds).bind λl=>.ok<|.int<|if l=[] then c else tQ l
 |_=>.bad
end
def DF:List D->Bool
 |.str _::_=>true
 |_=>false
mutual
noncomputable def Rh:xz
 |.lst ds=>!DF ds&&wZ ds
 |.tup ds=>wZ ds
 |.Hd _ _ ds=>wZ ds
 |.ins _ _ ds=>wZ ds
 |.Bi _ _ ds=>wZ ds
 |_=>true
noncomputable def wZ:List D->Bool
 |[]=>true
 |d::ds=>Rh d&&wZ ds
end
noncomputable def Vf:Option Sl->Option Sl
 |some (.v d)=>if Rh d=true then some (.v d) else none
 |some (.o k xs)=>if wZ xs=true then some (.o k xs) else none
 |none=>none
noncomputable def iw:xz
 |.Bb=>true
 |.tup [.str _,.lst x]=>DF x&&x.all atom
 |_=>false
noncomputable def kx1:D->List (List D)
 |.tup [_,.lst x]=>[x]
 |_=>[]
noncomputable def C5(a n:Nat)(c:Bd):cr:=λds=>aU (ds.length=a) ((c<|ds.map (λd=>some<|Sl.v d)++List.replicate (n-a) none).bind λb=>match b with
 |.rt d=>.ok d
 |_=>.bad)
noncomputable def oC(iP iK:Nat)(a:am)(f:Ex):Bd:=λst=>(f<|a.foldl Qm st).bind λd=>match (st[iP]?:Option (Option Sl)) with
 |some (some<|.o .l<|.tup [.str s,.lst x] :: ds)=>aU (iw (.tup [.str s,.lst x])=true)<|.ok<|.nx<|((st.map Vf).set iP<|some<|.o .l []).set iK<|some<|.v d
 |_=>.bad
noncomputable def LL:List D->List D->List D
 |c::z,d::y=>.tup [c,d] :: LL z y
 |_,_=>[]
noncomputable def nB(f g:Ex):Qk:=λst=>(f st).bind λx=>(g st).bind λy=>match x,y with
 |.tup z,.lst w=>.ok<|LL z w
 |_,_=>.bad
noncomputable section
abbrev eI(n:Int):Ex:=eC<|.int n
def ϳ:Bd:=bC (Nc (e2 Fn (aA 1)<|e1 dC<|aA 0) (cG<|e2 Ta (aA 0)<|aA 1) cO)<|bC (Nc (e2 wc (aA 0)<|gD aK) (cG<|e2 rO (eI 7919)<|aA 1) cO)<|cG<|e2 lE (e2 Po (e2 Ta (aA 0)<|e2 pH (aA 1)<|e1 dC<|aA 0)<|e2 lE (aA 1)<|eI 1)<|e2 rO (eI 7919)<|aA 1
def jO:cr:=cM 2 2 ϳ
def NS:Bd:=bC (dD 3<|e2 pH (e2 rO (e2 lE (e2 pH (aA 0)<|eI 2147483647)<|e2 rO (eI 7919)<|aA 1)<|eI 48271)<|eI 2147483629)<|bC (dD 3<|e2 pH (e2 rO (e2 pH (e2 rO (aA 3)<|aA 3)<|eI 2147483647)<|eI 69621)<|eI 2147483587)<|cG<|e2 pH (e2 pH (e2 rO (aA 3)<|aA 3)<|eI 2147483629)<|aA 2
def cH:cr:=cM 3 4 NS
def xF(st:xa):R D:=(aM cH<|aB (aA 10)<|aB (e2 lE (eI 11)<|aA 13)<|aB (aA 4) aK) st
def qI(st:xa):R D:=(e2 pH (e2 Po (aA 10)<|e2 Ta (gD<|aB (eI 1)<|aB (eI 8)<|aB (eI 64) aK)<|aA 13)<|aA 4) st
def lZ(st:xa):R Fl:=(bC (dD 10<|aM jO<|aB (aA 0)<|aB (e2 lE (e2 lE (aA 1)<|eI 2)<|aA 9) aK)<|bC (rN 11<|cL [13] (Ya 13) (tM<|aA 5) dG xF)<|bC (dD 12<|aM cH<|aB (aA 10)<|aB (eI 10)<|aB (eI 7) aK)<|bC (Nc (e2 wc (aM cH<|aB (aA 3)<|aB (eI 6)<|aB (eI 2) aK)<|eI 0) (bC (rN 11<|cL [13] (Ya 13) (tM<|aA 5) dG qI)<|dD 12<|e2 pH (e2 Po (aA 10)<|eI 512)<|eI 7)<|Nc (qG (e2 wc (aM cH<|aB (aA 3)<|aB (eI 3)<|aB (eI 2) aK)<|eI 0)<|e2 Eg (aM cH<|aB (aA 10)<|aB (eI 8)<|aB (eI 4) aK)<|eI 0) (Yw 11 (aM cH<|aB (aA 10)<|aB (eI 9)<|aB (aA 5) aK)<|e2 pH (e2 lE (aA 9)<|eI 1)<|aA 4) cO)<|bC (fk [11]<|Yh 7<|aA 11)<|Yh 8<|e2 rO (aA 12)<|aA 6) st
def W_:Bd:=bC (dD 3<|aM jO<|aB (aA 0)<|aB (aA 1) aK)<|bC (dD 4<|e2 lE (eI 1)<|aM cH<|aB (aA 3)<|aB (eI 1)<|aB (e2 Ta (gD<|aB (eI 4)<|aB (eI 5)<|aB (eI 5)<|aB (aA 2) aK)<|aM cH<|aB (aA 3)<|aB (eI 5)<|aB (eI 4) aK) aK)<|bC (dD 5<|e2 lE (eI 1)<|aM cH<|aB (aA 3)<|aB (eI 2)<|aB (eI 3) aK)<|bC (dD 6<|e2 Ta (gD<|aB (eI 1)<|aB (eI 1)<|aB (eI 1)<|aB (e2 lE (eI 1)<|e2 rO (eI 2)<|e2 pH (aM jO<|aB (aA 0)<|aB (e2 lE (aA 1)<|eI 1) aK)<|e2 KC (eI 10)<|eI 27) aK)<|aM cH<|aB (aA 3)<|aB (eI 4)<|aB (eI 4) aK)<|bC (rN 7<|gD aK)<|bC (rN 8<|gD aK)<|bC (qH (Ya 9) (tM<|aA 4) lZ)<|fk [7,8]<|cG<|wI<|aB (aA 7)<|aB (aA 8) aK
def lJ:cr:=cM 3 14 W_
def î:Bd:=cG<|e2 wc (e2 yh (e2 Wi (aA 0)<|aA 1)<|eI 1)<|eI 1
def iU:cr:=cM 2 2 î
def pS(st:xa):R D:=(aA 1) st
def qS(st:xa):R D:=(aM iU<|aB (aA 0)<|aB (aA 1) aK) st
def ï:Bd:=cG<|cL [1] (Ya 1) (tM<|e1 FA<|aA 0) qS pS
def cQ:cr:=cM 1 2 ï
def rP(st:xa):R Fl:=(dD 1<|e2 Dl (aA 1)<|e2 Lj (eI 1)<|aA 2) st
def į:Bd:=bC (dD 1<|eI 0)<|bC (qH (Ya 2) (xc<|aA 0) rP)<|cG<|aA 1
def mC:cr:=cM 1 3 į
def QR(st:xa):R Fl:=(ze 3 (aA 4)<|e2 yh (e2 Dl (aM mC<|aB (e2 Ta (aA 0)<|aA 4) aK)<|e2 Lj (eI 1)<|aA 4)<|aA 1) st
def uV(st:xa):R Fl:=(Nc (aM iU<|aB (e2 Ta (dX 3)<|aA 4)<|aB (aA 5) aK) (ze 3 (aA 4)<|e2 Dl (e2 Ta (dX 3)<|aA 4)<|e2 Ta (dX 3)<|aA 5) cO) st
def RR(st:xa):R Fl:=(qH (Ya 4) (xc<|aA 2) uV) st
def ϑ:Bd:=bC (dD 2<|aM cQ<|aB (aA 1) aK)<|bC (Ro 3 false)<|bC (qH (Ya 4) (xc<|aA 2) QR)<|bC (qH (Ya 5) (xc<|aA 2) RR)<|fk [3]<|cG<|aA 3
def mF:cr:=cM 2 6 ϑ
def ϒ:Bd:=bC (dD 2<|aM cQ<|aB (aA 1) aK)<|cG<|Lf (e2 Eg (e1 dC<|aA 2)<|eI 1)<|e2 Qn (e2 Ta (aA 2)<|eI 0)<|e2 Ta (aA 0)<|e2 Ta (aA 2)<|eI 0
def tR:cr:=cM 2 3 ϒ
def zQ(st:xa):R D:=(aA 6) st
def zR(st:xa):R D:=(aM iU<|aB (e2 Ta (aA 2)<|aA 6)<|aB (aA 4) aK) st
def sJ(st:xa):R Fl:=(bC (dD 5<|aM mC<|aB (cL [6] (Ya 6) (xc<|aM cQ<|aB (e2 Ta (aA 2)<|aA 4) aK) zR zQ) aK)<|Nc (qG (e2 jT (aA 5)<|dX 3)<|aM tR<|aB (aA 0)<|aB (aA 5) aK) (Yh 3<|aA 5) cO) st
def Β:Bd:=bC (dD 2<|aM mF<|aB (aA 0)<|aB (aA 1) aK)<|bC (rN 3<|gD aK)<|bC (qH (Ya 4) (xc<|aM cQ<|aB (aA 1) aK) sJ)<|fk [3]<|cG<|aA 3
def qY:cr:=cM 2 7 Β
def ϓ:Bd:=cG<|aM qY<|aB (e1 (lY "Machine" "steps")<|aA 0)<|aB (aA 1) aK
def mG:cr:=cM 2 2 ϓ
def ϴ:Bd:=cG<|aM mC<|aB (e1 Mv<|e1 (lY "Machine" "many")<|aA 0) aK
def rQ:cr:=cM 1 1 ϴ
def ϵ:Bd:=cG<|e2 Ta (aM mF<|aB (e1 (lY "Machine" "steps")<|aA 0)<|aB (aM rQ<|aB (aA 0) aK) aK)<|aA 1
def vW:cr:=cM 2 2 ϵ
def Γ:Bd:=cG<|aM mG<|aB (aA 0)<|aB (aM vW<|aB (aA 0)<|aB (eI 0) aK) aK
def nQ:cr:=cM 1 1 Γ
def tU(st:xa):R D:=(e2 Ta (e1 (lY "Machine" "ranks")<|aA 0)<|aA 2) st
def OS:Bd:=bC (Nc (e2 wc (aA 1)<|eI 0) oJ cO)<|cG<|e1 Sk<|cL [2] (Ya 2) (xc<|aM cQ<|aB (aA 1) aK) dG tU
def uW:cr:=cM 2 3 OS
def DU:Bd:=cG<|e2 wc (e2 pH (aM uW<|aB (aA 0)<|aB (aA 1) aK)<|eI 2)<|eI 0
def kO:cr:=cM 2 2 DU
def K_(st:xa):R D:=(aA 3) st
def L_(st:xa):R D:=(e2 Xd (e2 Ta (e1 (lY "Machine" "ranks")<|aA 0)<|aA 3)<|aA 2) st
def Δ:Bd:=bC (dD 2<|aM uW<|aB (aA 0)<|aB (aA 1) aK)<|cG<|aM mC<|aB (cL [3] (Ya 3) (xc<|aM cQ<|aB (aA 1) aK) L_ K_) aK
def qZ:cr:=cM 2 4 Δ
def zT(st:xa):R Fl:=(Nc (e2 wc (aM kO<|aB (aA 0)<|aB (aA 5) aK)<|aM kO<|aB (aA 0)<|aB (aA 1) aK) (Yh 3<|aA 5)<|Yh 2<|aA 5) st
def zU(st:xa):R Fl:=(bC (WB 4 3 qZ<|aA 0)<|qH (Ya 5) (xc<|aM mG<|aB (aA 0)<|aB (aA 4) aK) zT) st
def zV(st:xa):R D:=(e2 Xd (dX 3)<|gD aK) st
def Ε:Bd:=bC (rN 2<|gD aK)<|bC (rN 3<|gD<|aB (aA 1) aK)<|bC (Et 100000 zV zU)<|fk [2]<|cG<|aA 2
def iV:cr:=cM 2 6 Ε
def sO(a:cr)(st:xa):R Fl:=(bC (dD 5<|aM a<|aB (aA 0)<|aB (aA 4)<|aB (aA 2) aK)<|Nc (e2 Pn (e1 dC<|aA 5)<|e1 dC<|aA 3) (dD 3<|e2 lE (aA 5)<|gD<|aB (aA 1) aK) cO) st
def cS(a:cr):Bd:=bC (dD 3<|pj (e2 wc (aM kO<|aB (aA 0)<|aB (aA 1) aK)<|aA 2) (gD<|aB (aA 1) aK)<|gD aK)<|bC (qH (Ya 4) (xc<|aM iV<|aB (aA 0)<|aB (aA 1) aK)<|(sO a))<|cG<|aA 3
def pI:Nat->List D->R D
 |0=>cM 3 6 oJ
 |n+1=>cM 3 6<|cS<|pI n
def rA:cr:=pI 12
def rB(st:xa):R Fl:=(Nc (qG (e2 Qn (aA 8)<|aA 2)<|e2 jT (aA 8)<|dX 3) (bC (ze 3 (aA 8)<|e2 lE (e2 Ta (dX 3)<|aA 6)<|aA 7)<|Yh 4<|aA 8) cO) st
def dS(st:xa):R Fl:=(bC (dD 6<|e2 Ta (dX 4)<|aA 5)<|bC (qH (uk [7,8]) (K4 (eC<|.str [97,98,99])<|e2 Ta (aA 0)<|aA 6) rB)<|dD 5<|e2 lE (aA 5)<|eI 1) st
def wJ(st:xa):R D:=(e2 Fn (aA 5)<|e1 dC<|dX 4) st
def Ϸ:Bd:=bC (UJ 3 (aA 1)<|eC<|.str [])<|bC (rN 4<|gD<|aB (aA 1) aK)<|bC (dD 5<|eI 0)<|bC (Et 100000 wJ dS)<|fk [3]<|cG<|aA 3
def lK:cr:=cM 3 9 Ϸ
def mH:Bd:=bC (dD 1<|aM lK<|aB (e1 (lY "Machine" "steps")<|aA 0)<|aB (eI 0)<|aB (e1 Mv<|e1 (lY "Machine" "many")<|aA 0) aK) cO
def M_:Bd:=vV mH<|e1 mB<|aA 1
def kE:cr:=cM 1 2 M_
def EU:Bd:=cG<|e2 wc (aM mG<|aB (aA 0)<|aB (aA 1) aK)<|gD<|aB (aA 1) aK
def xG:cr:=cM 2 2 EU
def bC9:Bd:=bC (Nc (nC<|aM iU<|aB (aA 1)<|aB (aA 2) aK) (cG<|eC .Bb) cO)<|cG<|Gq (aM lK<|aB (e1 (lY "Machine" "steps")<|aA 0)<|aB (aA 2)<|aB (aM cQ<|aB (aA 1) aK) aK) (aA 3)<|eC .Bb
def rR:cr:=cM 4 4 bC9
def jE(st:xa):R Fl:=(bC (dD 1<|e2 Ta (e2 Ta (e1 (lY "Machine" "steps")<|aA 0)<|aA 1)<|Ai TB (eC<|.str [97,98,99])<|aB (aA 4) aK)<|Yh 3<|aA 1) st
def gM:Bd:=bC (rN 3<|gD<|aB (aA 1) aK)<|bC (qH (Ya 4) (xc<|aA 2) jE) cO
def m_:Bd:=Zm gM 3
def bU:cr:=cM 3 5 m_
def rS(st:xa):R Fl:=(Nc (e2 jT (aA 5)<|vQ "Machine" "rooms_along" bU [] (aA 0)<|aB (aA 2)<|aB (aA 3) aK) (bC (dD 3<|e2 lE (aA 3)<|aM rR<|aB (aA 0)<|aB (aA 1)<|aB (aA 4)<|aB (aA 5) aK)<|dD 4<|aA 5) cO) st
def ð:Bd:=bC (Nc (nC<|aM xG<|aB (aA 0)<|aB (aA 1) aK) oJ cO)<|bC (Nc (nC<|aM iU<|aB (aA 1)<|aB (aA 2) aK) oJ cO)<|bC (Nc (e2 wc (aM cQ<|aB (aA 1) aK)<|gD<|aB (aA 2) aK) (cG<|e2 Ta (eC<|.str [97,98,99])<|Ai VB (e2 Ta (e1 (lY "Machine" "steps")<|aA 0)<|aA 2)<|aB (aA 2) aK) cO)<|bC (dD 3<|eC<|.str [])<|bC (dD 4<|aA 2)<|bC (qH (Ya 5) (xc<|aM cQ<|aB (aA 1) aK) rS)<|cG<|e2 lE (aA 3)<|aM rR<|aB (aA 0)<|aB (aA 1)<|aB (aA 4)<|aB (aA 2) aK
def qJ:cr:=cM 3 6 ð
def DS(st:xa):R D:=(aA 5) st
def ES(st:xa):R D:=(aM iU<|aB (e2 Ta (aA 1)<|eI 0)<|aB (e2 Ta (aA 5)<|eI 0) aK) st
def QF(st:xa):R D:=(aM qJ<|aB (aA 0)<|aB (aA 6)<|aB (aA 3) aK) st
def İ:Bd:=bC (dD 2<|cL [5] (Ya 5) (xc<|aM kE<|aB (aA 0) aK) ES DS)<|bC (dD 3<|e2 Ta (e2 Ta (aA 2)<|eI 0)<|eI 0)<|bC (dD 4<|e2 Ta (e2 Ta (aA 2)<|eI 0)<|eI 1)<|cG<|wI<|aB (aA 4)<|aB (cL [6] (Ya 6) (xc<|aA 1) dG QF) aK
def Kz:cr:=cM 2 7 İ
def mJ(st:xa):R Fl:=(bC (dD 4<|aM rA<|aB (aA 0)<|aB (aA 3)<|aB (aA 1) aK)<|Nc (e2 Eg (e1 dC<|aA 4)<|e1 dC<|aA 2) (dD 2<|aA 4) cO) st
def X_:Bd:=bC (dD 2<|gD aK)<|bC (qH (Ya 3) (xc<|aM nQ<|aB (aA 0) aK) mJ)<|cG<|pj (e2 Xd (aA 2)<|gD aK) (aM Kz<|aB (aA 0)<|aB (aA 2) aK)<|eC .Bb
def fV:cr:=cM 2 5 X_
def bH9:Bd:=cG<|wI<|aB (aM fV<|aB (aA 0)<|aB (eC<|.bl true) aK)<|aB (aM fV<|aB (aA 0)<|aB (eC<|.bl false) aK) aK
def vX:cr:=cM 1 1 bH9
def Ζ:Bd:=cG<|pj (e2 B7 (aA 0)<|eC .Bb) (eI 0)<|e1 dC<|e2 Ta (aA 0)<|eI 1
def nR:cr:=cM 1 1 Ζ
def ϔ:Bd:=cG<|pj (e2 wc (e2 wc (e2 pH (aA 0)<|eI 2)<|eI 0)<|aA 1) (aA 0)<|e2 lE (aA 0)<|eI 1
def tV:cr:=cM 2 2 ϔ
def xH(a:cr)(st:xa):R Fl:=(bC (dD 7<|aM a<|aB (aA 0)<|aB (aA 5)<|aB (aA 2) aK)<|bC (dD 4<|e2 Qo (aA 4)<|e2 lE (e1 YB<|aA 7)<|eI 1)<|ax 3<|aA 7) st
def xJ(a:cr)(st:xa):R Fl:=(XB 3 (aA 6)<|aA 4) st
def SR(a:cr):Bd:=bC (Ro 3 false)<|bC (dD 4<|aM tV<|aB (aA 2)<|aB (aM kO<|aB (aA 0)<|aB (aA 1) aK) aK)<|bC (qH (Ya 5) (xc<|aM iV<|aB (aA 0)<|aB (aA 1) aK)<|(xH a))<|bC (qH (Ya 6) (xc<|aM cQ<|aB (aA 1) aK)<|(xJ a))<|fk [3]<|cG<|aA 3
def nZ:Nat->List D->R D
 |0=>cM 3 8 oJ
 |n+1=>cM 3 8<|SR<|nZ n
def pJ:cr:=nZ 12
def TR(st:xa):R Fl:=(ax 2<|aM pJ<|aB (aA 0)<|aB (aA 3)<|aB (aA 1) aK) st
def UR(st:xa):R D:=(Gq (dX 2) (aA 4)<|aA 1) st
def eS:Bd:=bC (Ro 2 false)<|bC (qH (Ya 3) (xc<|aM nQ<|aB (aA 0) aK) TR) cO
def ϕ:Bd:=vV eS<|cL [4] (Ya 4) (tM<|e1 (lY "Machine" "many")<|aA 0) dG UR
def eX:cr:=cM 2 5 ϕ
def sS:Bd:=bC (dD 1<|aM vX<|aB (aA 0) aK)<|bC (dD 2<|aM nR<|aB (e2 Ta (aA 1)<|eI 0) aK)<|bC (dD 3<|aM nR<|aB (e2 Ta (aA 1)<|eI 1) aK) cO
def Y_:Bd:=Bm sS<|pj (e2 Eg (aA 3)<|aA 2) (wI<|aB (aM eX<|aB (aA 0)<|aB (eI 1) aK)<|aB (gD<|aB (e2 Ta (aA 1)<|eI 1) aK) aK)<|pj (e2 Eg (aA 2)<|aA 3) (wI<|aB (aM eX<|aB (aA 0)<|aB (eI 0) aK)<|aB (gD<|aB (e2 Ta (aA 1)<|eI 0) aK) aK)<|wI<|aB (aM eX<|aB (aA 0)<|aB (eI 0) aK)<|aB (gD<|aB (e2 Ta (aA 1)<|eI 0)<|aB (e2 Ta (aA 1)<|eI 1) aK) aK
def gW:cr:=cM 1 4 Y_
def pK(st:xa):R Fl:=(Nc (qG (e2 wc (e2 yh (e2 Wi (aA 1)<|aA 5)<|eI 1)<|eI 1)<|e2 jT (aA 5)<|dX 3) (Yh 3<|aA 5) cO) st
def VR(st:xa):R Fl:=(bC (qH (Ya 5) (xc<|e2 Ta (aA 0)<|e2 Ta (dX 3)<|aA 4) pK)<|dD 4<|e2 lE (aA 4)<|eI 1) st
def uX(st:xa):R D:=(e2 Fn (aA 4)<|e1 dC<|dX 3) st
def ϖ:Bd:=bC (rN 3<|gD<|aB (aA 2) aK)<|bC (dD 4<|eI 0)<|bC (Et 100000 uX VR)<|fk [3]<|cG<|aA 3
def jV:cr:=cM 3 6 ϖ
def fS(st:xa):R D:=(e2 Lj (eI 1)<|aA 1) st
def ϸ:Bd:=cG<|e1 A5<|cL [1] (Ya 1) (xc<|aM jV<|aB (aA 0)<|aB (e2 wk (e2 Lj (eI 1)<|e1 dC<|aA 0)<|eI 1)<|aB (eI 0) aK) dG fS
def rT:cr:=cM 1 2 ϸ
def xK(st:xa):R D:=(aA 3) st
def F_(st:xa):R D:=(e2 wc (e2 yh (e2 Wi (aA 1)<|aA 3)<|eI 1)<|eI 1) st
def xM(st:xa):R Fl:=(Nc (e2 Xd (e1 dC<|aM jV<|aB (aA 0)<|aB (aA 1)<|aB (aA 3) aK)<|e1 dC<|aA 2) (cG<|eC<|.bl false) cO) st
def Z_:Bd:=bC (dD 2<|cL [3] (Ya 3) (tM<|e1 dC<|aA 0) F_ xK)<|bC (qH (Ya 3) (xc<|aA 2) xM)<|cG<|Lf (e2 Eg (e1 dC<|aA 2)<|eI 1)<|qG (e2 wc (e1 dC<|aA 2)<|eI 1)<|e2 Qn (e2 Ta (aA 2)<|eI 0)<|e2 Ta (aA 0)<|e2 Ta (aA 2)<|eI 0
def pL:cr:=cM 2 4 Z_
def WR(st:xa):R D:=(aA 1) st
def XR(st:xa):R D:=(aM pL<|aB (aA 0)<|aB (aA 1) aK) st
def uS:Bd:=cG<|cL [1] (Ya 1) (OC (eI 1)<|e2 Lj (eI 1)<|e1 dC<|aA 0) XR WR
def tW:cr:=cM 1 2 uS
def Η(st:xa):R D:=(aA 2) st
def Θ(st:xa):R D:=(e2 wc (e2 Dl (aA 2)<|aA 1)<|aA 1) st
def Ϲ:Bd:=bC (dD 1<|aM rT<|aB (aA 0) aK)<|cG<|cL [2] (Ya 2) (xc<|aM tW<|aB (aA 0) aK) Θ Η
def vY:cr:=cM 1 3 Ϲ
def rC(st:xa):R D:=(aA 1) st
def rD(st:xa):R D:=(e2 wc (e2 yh (e2 Wi (aA 0)<|aA 1)<|eI 1)<|eI 1) st
def Ϻ:Bd:=cG<|e1 dC<|cL [1] (Ya 1) (tM<|eI 8) rD rC
def jP:cr:=cM 1 2 Ϻ
def yN(st:xa):R D:=(e2 Ta (aA 0)<|aA 2) st
def yO(st:xa):R D:=(e2 wc (e2 yh (e2 Wi (aA 1)<|aA 2)<|eI 1)<|eI 1) st
def QS:Bd:=cG<|e1 Sk<|cL [2] (Ya 2) (tM<|e1 dC<|aA 0) yO yN
def lL:cr:=cM 2 3 QS
def gQ(st:xa):R D:=(e2 wc (e2 Dl (aA 7)<|aA 4)<|aA 4) st
def gU(st:xa):R D:=(e2 Xd (e2 pH (aM lL<|aB (aA 1)<|aB (aA 7) aK)<|eI 2)<|aA 5) st
def mK(st:xa):R Fl:=(bC (dD 5<|e2 pH (aM lL<|aB (aA 1)<|aB (aA 4) aK)<|eI 2)<|bC (dD 6<|e1 Zo<|e2 wc (aA 5)<|aA 2)<|bC (ZK 3 7 6 gQ gU)<|ze 3 (aA 4)<|aA 6) st
def mL(st:xa):R D:=(e2 Ta (dX 3)<|aA 4) st
def B':Bd:=B5 λout=>bC (Ro 3 false)<|bC (Cm (Ya 4) (aA 0) jP mK out)<|cG<|e1 (Hw 0)<|cL [4] (Ya 4) (xc<|aA 0) dG mL
def jF:cr:=cM 3 8 B'
def ϗ:Bd:=cG<|qG (eB isIn<|aA 0)<|nC<|eB MC<|aA 0
def tX:cr:=cM 1 1 ϗ
def sY(st:xa):R D:=(aA 10) st
def sZ(st:xa):R D:=(nC<|aM tX<|aB (aA 10) aK) st
def tE(st:xa):R Fl:=(Nc (e2 Xd (e2 pH (aM lL<|aB (aA 1)<|aB (aA 7) aK)<|eI 2)<|e2 pH (aM lL<|aB (aA 3)<|aB (aA 7) aK)<|eI 2) (cG<|eC<|.bl false) cO) st
def r_(st:xa):R D:=(aA 7) st
def s_(st:xa):R D:=(e2 wc (e2 yh (e2 Wi (aA 7)<|aA 8)<|eI 1)<|eI 1) st
def tH(st:xa):R Fl:=(bC (dD 9<|cL [7] (Ya 7) (xc<|aA 2) s_ r_)<|Nc (Lf (e2 Fn (e2 Ta (aA 3)<|aA 8)<|aA 6)<|qG (e2 wc (aA 9)<|gD aK)<|e2 Xd (e2 Ta (aA 3)<|aA 8)<|aA 6) (cG<|eC<|.bl false) cO) st
def A_:Bd:=bC (dD 6<|e1 Zo<|e2 Eg (aA 5)<|aA 4)<|bC (Nc (Lf (nC<|eB Cn<|aA 3)<|Lf (e2 Xd (e1 dC<|aA 3)<|e1 dC<|aA 0)<|e2 Xd (cL [10] (Ya 10) (xc<|aA 3) sZ sY)<|gD aK) (cG<|eC<|.bl false) cO)<|bC (qH (Ya 7) (xc<|aA 2) tE)<|bC (qH (Ya 8) (tM<|e1 dC<|aA 0) tH)<|cG<|e2 wc (e1 Sk<|aA 3)<|e2 Ta (gD<|aB (e2 Qo (e2 wk (aA 4)<|eI 1)<|aA 5)<|aB (e2 Qo (e2 lE (aA 4)<|eI 1)<|aA 5) aK)<|aA 6
def fZ:cr:=cM 6 11 A_
def G'(st:xa):R D:=(aA 3) st
def J'(st:xa):R D:=(e2 jT (aA 3)<|aA 1) st
def YR(st:xa):R Fl:=(Nc (Lf (nC<|eB Ww<|aA 2)<|Lf (e2 wc (aA 2)<|eC<|.str [])<|e2 Xd (cL [3] (Ya 3) (xc<|aA 2) J' G')<|gD aK) (cG<|eC<|.bl false) cO) st
def Ϙ:Bd:=bC (Nc (Lf (nC<|eB Cn<|aA 0)<|e2 wc (aA 0)<|gD aK) (cG<|eC<|.bl false) cO)<|bC (qH (Ya 2) (xc<|aA 0) YR)<|cG<|eC<|.bl true
def tY:cr:=cM 2 4 Ϙ
def vS(st:xa):R Fl:=(bC (dD 1<|e2 Ta (e2 Ta (aA 0)<|aA 1)<|Ai TJ (eC<|.str [97,98,99])<|aB (aA 4) aK)<|Yh 3<|aA 1) st
def ñ:Bd:=bC (rN 3<|gD aK)<|bC (qH (Ya 4) (xc<|aA 2) vS)<|fk [3]<|cG<|aA 3
def qK:cr:=cM 3 5 ñ
def u_(st:xa):R D:=(aA 9) st
def v_(st:xa):R D:=(e2 jT (aA 9)<|aA 4) st
def uY(st:xa):R D:=(aA 10) st
def uZ(st:xa):R D:=(e2 jT (aA 10)<|aA 8) st
def oK(st:xa):R D:=(e2 Ta (aA 1)<|aA 10) st
def gY(st:xa):R Fl:=(bC (dD 8<|aM qK<|aB (aA 0)<|aB (aA 5)<|aB (aA 7) aK)<|bC (Nc (Lf (e2 Xd (e2 Ta (aA 8)<|e1 Vi<|eI 1)<|aA 5)<|e2 Xd (cL [10] (Ya 10) (xc<|aA 6) uZ uY)<|gD aK) (cG<|eC<|.bl false) cO)<|bC (Nc (e2 Xd (e2 pH (e1 Sk<|cL [10] (Ya 10) (xc<|aA 8) dG oK)<|eI 2)<|aA 3) (cG<|eC<|.bl false) cO)<|bC (dD 6<|aA 8)<|dD 3<|e2 wk (eI 1)<|aA 3) st
def G_:Bd:=bC (Nc (Lf (nC<|eB NC<|aA 2)<|Lf (e2 Xd (e1 dC<|aA 2)<|eI 2)<|nC<|eB Ww<|e2 Ta (aA 2)<|eI 0) (cG<|eC<|.bl false) cO)<|bC (dD 4<|Ck (eC<|.str [97,98,99]) wq<|uR<|e1 dC<|e2 Ta (aA 0)<|eI 0)<|bC (Nc (Lf (e2 Xd (cL [9] (Ya 9) (xc<|e2 Ta (aA 2)<|eI 0) v_ u_)<|gD aK)<|nC<|aM tY<|aB (e2 Ta (aA 2)<|eI 1)<|aB (aA 4) aK) (cG<|eC<|.bl false) cO)<|bC (dD 5<|e2 Ta (e2 lE (gD<|aB (eI 0) aK)<|aM qK<|aB (aA 0)<|aB (eI 0)<|aB (e2 Ta (aA 2)<|eI 0) aK)<|e1 Vi<|eI 1)<|bC (dD 6<|gD aK)<|bC (qH (Ya 7) (xc<|e2 Ta (aA 2)<|eI 1) gY)<|cG<|eC<|.bl true
def dF:cr:=cM 4 11 G_
def w_:Bd:=bC (Nc (Lf (nC<|eB Cn<|aA 2)<|e2 jT (e1 dC<|aA 2)<|wI<|aB (eI 1)<|aB (eI 2) aK) (cG<|eC<|.bl false) cO)<|bC (Nc (e2 wc (e1 dC<|aA 2)<|eI 2) (bC (Nc (Lf (nC<|aM dF<|aB (aA 0)<|aB (aA 1)<|aB (e2 Ta (aA 2)<|eI 0)<|aB (eI 0) aK)<|nC<|aM dF<|aB (aA 0)<|aB (aA 1)<|aB (e2 Ta (aA 2)<|eI 1)<|aB (eI 1) aK) (cG<|eC<|.bl false) cO)<|cG<|qG (e2 wc (e1 dC<|e2 Ta (e2 Ta (aA 2)<|eI 0)<|eI 1)<|e2 wk (aA 3)<|eI 1)<|e2 wc (e1 dC<|e2 Ta (e2 Ta (aA 2)<|eI 1)<|eI 1)<|e2 wk (aA 3)<|eI 1) cO)<|bC (Nc (qG (nC<|aM dF<|aB (aA 0)<|aB (aA 1)<|aB (e2 Ta (aA 2)<|eI 0)<|aB (eI 0) aK)<|nC<|aM dF<|aB (aA 0)<|aB (aA 1)<|aB (e2 Ta (aA 2)<|eI 0)<|aB (eI 1) aK) (cG<|eC<|.bl false) cO)<|cG<|e2 wc (e1 dC<|e2 Ta (e2 Ta (aA 2)<|eI 0)<|eI 1)<|aA 3
def dJ:cr:=cM 4 4 w_
def xN:Bd:=cG<|qG (eB Cn<|aA 0)<|qG (e2 Pn (e1 dC<|aA 0)<|eI 1)<|e2 dE (e1 dC<|aA 0)<|aA 1
def fL:cr:=cM 2 2 xN
def SS:Bd:=cG<|qG (eB isIn<|aA 0)<|nC<|eB MC<|aA 0
def qL:cr:=cM 1 1 SS
def US:Bd:=cG<|qG (aM qL<|aB (aA 0) aK)<|qG (e2 Pn (aA 0)<|eI 0)<|e2 Fn (aA 0)<|aA 1
def qM:cr:=cM 2 2 US
def VS(st:xa):R D:=(aM qM<|aB (aA 3)<|aB (aA 2) aK) st
def bCa:Bd:=cG<|qG (e2 wc (e1 dC<|aA 0)<|aA 1)<|e1 Yo<|cL [3] (Ya 3) (xc<|aA 0) dG VS
def Uz:cr:=cM 3 4 bCa
def gS(st:xa):R D:=(aM fL<|aB (aA 1)<|aB (eI 3) aK) st
def iS(st:xa):R D:=(aM Uz<|aB (aA 1)<|aB (e1 dC<|e2 Ta (aA 0)<|eI 0)<|aB (e1 dC<|aA 0) aK) st
def ϻ:Bd:=bC (Nc (nC<|aM fL<|aB (aA 0)<|aB (eI 8) aK) (cG<|eC<|.bl false) cO)<|bC (Nc (nC<|e1 Yo<|cL [1] (Ya 1) (xc<|aA 0) dG gS) (cG<|eC<|.bl false) cO)<|cG<|e1 Yo<|cL [1] (Ya 1) (xc<|aA 0) dG iS
def vZ:cr:=cM 1 2 ϻ
def wK(st:xa):R D:=(qG (aM qL<|aB (aA 2) aK)<|e2 Pn (aA 2)<|eI 0) st
def À:Bd:=bC (Nc (Lf (nC<|eB Cn<|aA 0)<|e2 Xd (e1 dC<|aA 0)<|aA 1) (cG<|eC<|.bl false) cO)<|cG<|e1 Yo<|cL [2] (Ya 2) (xc<|aA 0) dG wK
def wA:cr:=cM 2 3 À
def rW(st:xa):R D:=(e1 Qt<|aA 3) st
def jW:Bd:=bC (Nc (nC<|aM vZ<|aB (aA 1) aK) oJ cO)<|bC (Nc (nC<|aM wA<|aB (aA 2)<|aB (e1 dC<|aA 1) aK) oJ cO)<|bC (Ot 0 "Machine" "steps"<|cL [3] (Ya 3) (xc<|aA 1) dG rW)<|bC (Ot 0 "Machine" "ranks"<|e1 Qt<|aA 2)<|bC (Ot 0 "Machine" "many"<|e1 dC<|aA 1)<|Ot 0 "Machine" "letters"<|e1 dC<|e2 Ta (aA 1)<|eI 0
def gZ:cr:=En "Machine" 2 4 jW
def ı:Bd:=cG<|aM gZ<|aB (e1 (lY "Machine" "steps")<|aA 0)<|aB (e2 Ta (aM gW<|aB (aA 0) aK)<|eI 0) aK
def Lz:cr:=cM 1 1 ı
def jS(st:xa):R D:=(e2 Ta (eC<|.str [97,98,99])<|aM cH<|aB (e2 Po (aA 0)<|e2 lE (e2 pH (aA 5)<|eI 5)<|eI 1)<|aB (e2 lE (eI 32)<|aA 5)<|aB (aA 1) aK) st
def Á:Bd:=bC (dD 4<|e2 lE (aA 2)<|aM cH<|aB (aA 0)<|aB (eI 31)<|aB (e2 lE (e2 wk (aA 3)<|aA 2)<|eI 1) aK)<|cG<|Ai Fw (eC<|.str [])<|aB (cL [5] (Ya 5) (tM<|aA 4) dG jS) aK
def rY:cr:=cM 4 6 Á
def FU:Bd:=cG<|qG (eB Ww<|aA 0)<|e2 wc (Ai kB (aA 0)<|aB (Ck (eC<|.str [97,98,99]) wq<|uR<|aA 1) aK)<|eC<|.str []
def oX:cr:=cM 2 2 FU
def xS:Bd:=bC (Nc (Lf (nC<|eB NC<|aA 0)<|e2 Xd (e1 dC<|aA 0)<|eI 2) (cG<|eC<|.bl false) cO)<|cG<|qG (aM oX<|aB (e2 Ta (aA 0)<|eI 0)<|aB (aA 1) aK)<|qG (aM oX<|aB (e2 Ta (aA 0)<|eI 1)<|aB (aA 1) aK)<|e2 Xd (e2 Ta (aA 0)<|eI 1)<|eC<|.str []
def mO:cr:=cM 2 2 xS
def p_:Bd:=Nc (nC<|aM qM<|aB (aA 1)<|aB (e1 (lY "Machine" "many")<|aA 0) aK) oJ cO
def fW:cr:=cM 2 2 p_
def qN(st:xa):R Fl:=(bC (ze 4 (e2 Ta (dX 3)<|e1 Vi<|eI 1)<|e2 wk (e1 dC<|dX 3)<|eI 1)<|PC 3<|Ck (vQ "Machine" "rooms_along" bU [] (aA 0)<|aB (e2 Ta (dX 3)<|e1 Vi<|eI 1)<|aB (e2 Ta (aA 1)<|eI 1) aK) (uR<|eI 1) wq) st
def qO(st:xa):R D:=(e2 jT (e2 Ta (dX 3)<|e1 Vi<|eI 1)<|dX 4) st
def L':Bd:=bC (HL<|vQ "Machine" "check_room" fW [] (aA 0)<|aB (aA 2) aK)<|bC (Nc (nC<|aM mO<|aB (aA 1)<|aB (e1 (lY "Machine" "letters")<|aA 0) aK) oJ cO)<|bC (rN 3<|vQ "Machine" "rooms_along" bU [] (aA 0)<|aB (aA 2)<|aB (e2 Ta (aA 1)<|eI 0) aK)<|bC (Ro 4 false)<|bC (Et 100000 qO qN)<|bC (dD 5<|e2 Ta (dX 4)<|e2 Ta (dX 3)<|e1 Vi<|eI 1)<|cG<|wI<|aB (Ck (dX 3) wq<|uR<|aA 5)<|aB (Ck (dX 3) (uR<|aA 5)<|uR<|e1 Vi<|eI 1) aK
def lM:cr:=cM 3 6 L'
def xO(st:xa):R D:=(e2 Ta (e1 (lY "Machine" "ranks")<|aA 0)<|aA 4) st
def M':Bd:=bC (dD 3<|e2 Ta (vQ "Machine" "walk" lM [] (aA 0)<|aB (aA 1)<|aB (aA 2) aK)<|eI 1)<|cG<|e2 wc (e2 pH (e1 Sk<|cL [4] (Ya 4) (xc<|aA 3) dG xO)<|eI 2)<|eI 0
def jG:cr:=cM 3 5 M'
def bHa(st:xa):R D:=(e1 Qt<|aA 17) st
def FY(st:xa):R D:=(aA 18) st
def GY(st:xa):R D:=(e2 wc (aA 6)<|e2 Qo (aA 3)<|aA 4) st
def bHb(st:xa):R D:=(e2 Ta (dX 12)<|aA 19) st
def bHc(st:xa):R D:=(e2 wc (e2 yh (e2 Wi (aA 5)<|aA 19)<|eI 1)<|eI 1) st
def bHd(st:xa):R D:=(e2 Ta (aA 14)<|aA 19) st
def bHe(st:xa):R D:=(e2 wc (e2 yh (e2 Wi (aA 5)<|aA 19)<|eI 1)<|eI 1) st
def HY(st:xa):R Fl:=(bC (dD 16<|wI<|aB (aM rY<|aB (aA 8)<|aB (e1 dC<|e2 Ta (aA 10)<|eI 0)<|aB (eI 0)<|aB (eI 9) aK)<|aB (aM rY<|aB (e2 lE (aA 8)<|eI 1)<|aB (e1 dC<|e2 Ta (aA 10)<|eI 0)<|aB (eI 1)<|aB (eI 9) aK) aK)<|Nc (e2 Xd (vQ "Machine" "lets" jG [.int 0] (aA 7)<|aB (aA 16) aK)<|vQ "Machine" "lets" jG [.int 0] (aA 1)<|aB (aA 16) aK) (cG<|eC<|.bl false) cO) st
def Nv(st:xa):R D:=(wI<|aB (RN<|aA 20)<|aB (e1 dw<|aA 21) aK) st
def sC:Bd:=bC (Xw (uk [10,11])<|aM lJ<|aB (aA 0)<|aB (eI 0)<|aB (eI 8) aK)<|bC (dD 1<|aM gZ<|aB (cL [17] (Ya 17) (xc<|aA 10) dG bHa)<|aB (e1 Qt<|aA 11) aK)<|bC (IL 12 13<|aM gW<|aB (aA 1) aK)<|bC (dD 2<|aM vY<|aB (aA 10) aK)<|bC (dD 3<|aM jF<|aB (aA 2)<|aB (aA 11)<|aB (eI 0) aK)<|bC (dD 4<|aM jF<|aB (aA 2)<|aB (aA 11)<|aB (eI 1) aK)<|bC (Nc (Lf (nC<|bw fZ<|aB (aA 10)<|aB (aA 11)<|aB (aA 2)<|aB (dX 12)<|aB (aA 3)<|aB (aA 4) aK)<|e2 Xd (dX 12)<|aM eX<|aB (aA 1)<|aB (e1 Zo<|e2 Eg (aA 4)<|aA 3) aK) (cG<|eC<|.bl false) cO)<|bC (Nc (e2 Xd (dX 13)<|cL [18,6] (uk [18,6]) (nB (aM vX<|aB (aA 1) aK)<|gD<|aB (aA 3)<|aB (aA 4) aK) GY FY) (cG<|eC<|.bl false) cO)<|bC (dD 5<|aM rT<|aB (aA 10) aK)<|bC (dD 6<|e1 Lv<|cL [19] (Ya 19) (tM<|e1 dC<|aA 10) bHc bHb)<|bC (Nc (nC<|bw dJ<|aB (aA 10)<|aB (aA 11)<|aB (dX 13)<|aB (aA 6) aK) (cG<|eC<|.bl false) cO)<|bC (dD 7<|aM Lz<|aB (aA 1) aK)<|bC (Xw (uk [14,15])<|aM gW<|aB (aA 7) aK)<|bC (Nc (Lf (e2 Xd (e1 (lY "Machine" "steps")<|aA 7)<|aA 10)<|Lf (e2 Xd (e1 (lY "Machine" "ranks")<|aA 7)<|dX 12)<|e2 Xd (e1 dC<|aA 15)<|e1 dC<|dX 13) (cG<|eC<|.bl false) cO)<|bC (Nc (e2 Xd (e1 Lv<|cL [19] (Ya 19) (tM<|e1 dC<|aA 10) bHe bHd)<|aA 6) (cG<|eC<|.bl false) cO)<|bC (qH (Ya 8) (xc<|Ck (aA 0) (uR<|eI 10)<|uR<|eI 20) HY)<|bC (oC 13 9 [12,13]<|wI<|aB (e1 dw<|aA 12)<|aB (cL [20,21] (uk [20,21]) (xc<|aA 13) dG Nv) aK)<|bC (KL 12)<|cG<|qG (e2 wc (aM gW<|aB (aA 1) aK)<|aA 9)<|qG (e2 wc (e1 (lY "Machine" "steps")<|aA 1)<|aA 10)<|e2 wc (e1 (lY "Machine" "ranks")<|aA 1)<|aA 11
def Vt:cr:=C5 1 22 sC
end
instance:Coe D Sl:=⟨.v⟩
instance:Coe Int D:=⟨.int⟩
instance:Coe Nat D:=⟨λn=>.int n⟩
@[simp] theorem bCb(x:im):Yo (.lst x)=(Ju x).bind λl=>.ok (.bl<|l.all id):=rfl
@[simp] theorem bOe(x:im):Qt (.lst x)=.ok (.lst x):=rfl
theorem bCc{x:im}{l:GM}(h:x=l.map D.bl)(a:∀b∈l,b=true):Yo (.lst x)=.ok (.bl true):=by
 subst h;rw[bCb,EY];simp_all
def Ue(m:Int)(x:am):Prop:=∀c∈x,97<=c/\(c:Int)<97+m
theorem aL{a b:Bd}{st:xa}{r:R Fl}(h:a st=.ok (.nx st'))(c:b st'=r):bC a b st=r:=by
 simp_all
def cX{a b:Bd}{st:xa}{r:R Fl}(h:a st=.ok (.nx st))(c:b st=r):bC a b st=r:=aL h c
def Eo{a b:Bd}{st:xa} (h:a st=.ok (.rt d)):bC a b st=.ok (.rt d):=by
 rw[bH4,h];rfl
def bV{b:Bd} {d:D} (h:ds.length=np) (a:b (ds.map (λd=>some<|.v d)++List.replicate (n-np) none)=.ok (.rt d)):cM np n b ds=.ok d:=by
 rw[DY h,a];rfl
def bLu{b:Bd} {st:xa} (h:ds.length=np) (a:b (ds.map (λd=>some<|.v d)++List.replicate (n-np) none)=.ok (.nx st)):cM np n b ds=.ok .Bb:=by
 rw[DY h,a];rfl
def RF(n:Nat):jU 0 n=(List.range n).map λ(k:Nat)=>D.int (k:Int):=by
 refine yk λk _=>?_
 rw[DN]
theorem WS{L:Bd}{j:Nat}(S:li->xa)(g:∀x d,(S x).set j d=S d)(p:sK)(r:Nat->D):∀(a:am),(∀k∈a,L (S (k:Int))=if p k=true then .ok (.rt<|r k) else .ok (.nx<|S (k:Int)))->
  ∀x,∃b,Eb (Ya j) L (a.map λ(k:Nat)=>D.int (k:Int)) (S x)=match a.find? p with|some k=>.ok (.rt<|r k)|none=>.ok<|.nx<|S b
 |[],_,x=>⟨x,rfl⟩
 |k::a,f,x=>by
  rw[Ge,uL];simp[g,(f k mem_cons_self)]
  by_cases c:p k=true
  .simp_all
  obtain⟨b,e⟩:=WS S g p r a (λk h=>f k<|Ab _ h) _
  refine⟨b,?_⟩
  rwa [Ea c,sM c]
theorem uM{tg:Tg}{c f:Ex}{st:xa}(g:D->D):∀(ds:im),(∀d∈ds,∃a,tg d st=.ok a/\c a=.ok (.bl true)/\f a=.ok (g d))->jC tg c f st ds=.ok (ds.map g)
 |[],_=>rfl
 |d::ds,h=>by
  obtain⟨a,e1,e2,e⟩:=h d zb;rw[uT,e1];simp[e2,e,uM g ds λd b=>h d<|mem_cons_of_mem _ b]
theorem PV{L:Bd}{j:Nat}(S:li->xa)(f:∀x d,(S x).set j d=S d):∀(a:im),(∀d∈a,L (S d)=.ok (.nx<|S d))->∀x,∃b,Eb (Ya j) L a (S x)=.ok (.nx<|S b)
 |[],_,x=>⟨x,rfl⟩
 |d::a,c,x=>by
  obtain⟨b,e⟩:=PV S f a (λd g=>c d<|Ab _ g) _
  refine⟨b,?_⟩;rw[uL];simp[f,c d mem_cons_self];exact e
theorem bT{st:xa} (h:f st=.ok d):dD i f st=.ok (.nx<|st.set i d):=by simp_all
def uA{st:xa} (h:f st=.ok (.lst xs)):rN i f st=.ok (.nx<|st.set i<|some<|.o .l xs):=by rw[ž,h,bD]
theorem aO{r:yd}{st:xa} {x:R D} (h:r st=.ok ds) (a:p ds=x):aM p r st=x:=by simp_all
theorem aG{op:mf} {st:xa} {x:D} {z:R D} (b:f st=.ok x) (a:g st=.ok y) (h:op x y=z):e2 op f g st=z:=by simp_all
theorem zh{c:Ex}{a b:Bd}{st:xa}{r:R Fl}(h:c st=.ok (.bl true))(d:a st=r):Nc c a b st=r:=by simp_all
theorem jH{c:Ex}{a b:Bd}{st:xa}{r:R Fl}(h:c st=.ok (.bl false))(d:b st=r):Nc c a b st=r:=by simp_all
def sU{st:xa}{p q:Bool}(b:f st=.ok (.bl p))(a:p=true->g st=.ok (.bl q)):qG f g st=.ok (.bl<|p&&q):=by
 rw[CY,b];cases p with
 |true=>rw[a rfl];rfl
 |false=>rfl
def oY{st:xa}{p q:Bool}(b:f st=.ok (.bl p))(a:p=false->g st=.ok (.bl q)):Lf f g st=.ok (.bl<|p||q):=by
 rw[bLm,b];cases p with
 |true=>rfl
 |false=>rw[a rfl];rfl
theorem iH{st:xa}{p:Bool}(a:f st=.ok (.bl p)):nC f st=.ok (.bl<|!p):=by simp_all
theorem cT{st:xa} (h:f st=.ok d):cG f st=.ok (.rt d):=by simp_all
theorem iB{tg:Tg} {st:xa} {r:R Fl} (h:it st=.ok xs) (a:Eb tg L xs st=r):qH tg it L st=r:=by simp_all
theorem aV{r:yd}{st:xa}{d:D} (h:f st=.ok d) (a:r st=.ok ds):aB f r st=.ok (d::ds):=by simp_all
def dZ{r:yd}{st:xa} (h:r st=.ok ds) (a:ds.length<=1000:=by exact gi rfl):gD r st=.ok (.lst ds):=by rw[bH0,h,bD,aD<|dO<|Vc a<|by decide]
def vA{i j:Int}(h:0<j):pH (.int i) (.int j)=.ok (.int<|i%j):=aD h
def GA{i j:Int}(h:0<j/\j<1073741824):Po (.int i) (.int j)=.ok (.int<|i/j):=aD h
def oM(i j:Int):wc (.int i) (.int j)=.ok (.bl<|decide (i=j)):=by
 exact aD ⟨He 64,rfl,rfl⟩
def qP(i j:Int):Xd (.int i) (.int j)=.ok (.bl<|!decide (i=j)):=by
 exact aD ⟨He 64,rfl,rfl⟩
def Fo{st:xa} (h:f st=.ok d) (hs:st[i]?=some (some<|.o .l xs)) (a:xs.length<1000000):Yh i f st=.ok (.nx<|st.set i<|some<|.o .l<|xs++[d]):=by
 rw[bH2,h,hs];exact aD<|Bt<|Jx a<|by decide
theorem xq{st:xa} (h:f st=.ok (.int n)) (a:n<=1000000):tM f st=.ok ((List.range n).map λ(k:Nat)=>D.int (k:Int)):=by
 rw[bH1,h,<-RF];exact aD ⟨Kv (by lia),yJ<|by lia⟩
def fH{E C:Ex}{is:am}{tg:Tg} {st:xa} (h:it st=.ok xs) (a:xs.length<=1000000) (b:jC tg C E (qf is st) xs=.ok ys):cL is tg it C E st=.ok (.lst ys):=by
 rw[yv,h,bD,aD<|dO<|Vc a<|by decide,b,bD]
def LH{c:Ex}{b:Bd}{st:xa} {r:R Fl} (a:c st=.ok (.bl true)) (d:b st=.ok (.nx st')) (e:lH c b n st'=r):lH c b (n+1) st=r:=by
 rwa [vR,a,bD,d]
def Mz{c:Ex}{b:Bd}{st:xa} (a:c st=.ok (.bl false)):lH c b (n+1) st=.ok (.nx st):=by rw[vR,a,bD,rq,Ea zk]
def lN{tg:Tg} {d:D}{st:xa} {r:R Fl} (a:tg d st=.ok s1) (b:L s1=.ok (.nx s2)) (c:Eb tg L ds s2=r):Eb tg L (d::ds) st=r:=by
 rwa [uL,a,bD,b]
theorem iC{i:Int} (h:Tc xs i=some d):Ta (.lst xs) (.int i)=.ok d:=by
 simp_all
theorem ML{p q:Nat}(h:p<q):decide ((p:Int)<(q:Int))=true:=Cc (by lia)
theorem NL{p q:Nat}(h:¬ p<q):decide ((p:Int)<(q:Int))=false:=Qc (by lia)
def oZ{r:R D}{p q:Bool}(h:r=.ok (.bl p))(e:p=q):r=.ok (.bl q):=by rw[h,e]
def mX{st:xa} (h:f st=.ok (.lst xs)):xc f st=.ok xs:=by rw[V1,h,bD]
def bLx{st:xa} (h:f st=.ok (.lst ys)) (hs:st[i]?=some (some<|.o .l xs)) (a:xs.length+ys.length<=big):PC i f st=.ok (.nx<|st.set i<|some<|.o .l<|xs++ys):=by
 rw[bH3,h,hs];exact aD a
noncomputable def good(m:Int)(x:am):Bool:=x.all λc=>decide (97<=c/\(c:Int)<97+m)
def NH{m:Int}{x:am}:good m x=true↔Ue m x:=by
 unfold good Ue;simp
theorem IY{m:Int}(b:1<=m)(d:m<=3){c:Nat}:c∈cut [97,98,99] none (some m)↔97<=c/\(c:Int)<97+m:=by
 have a:m=1\/m=2\/m=3:=by lia
 rcases a with rfl|rfl|rfl
 .show c∈[97]↔_;simp;lia
 .show c∈[97,98]↔_;simp;lia
 show c∈[97,98,99]↔_;simp;lia
theorem lS{b:Type}(p:b->Bool):∀x:List b,x.dropWhile p=[]↔∀c∈x,p c=true
 |[]=>by simp
 |a::x=>by
  cases h:p a with
  |true=>rw[n6 h,lS p x];simp[h]
  |false=>simp[h]
theorem takeWhile_all{b:Type}(p:b->Bool):∀(x:List b)(c:b),c∈x.takeWhile p->p c=true
 |[],c,h=>by simp at h
 |a::x,c,h=>by
  cases d:p a with
  |true=>
   rw[o6 d]at h;rcases Pb.mp h with rfl|h
   .exact d
   exact takeWhile_all p x c h
  |false=>simp_all
theorem strip_nil(x y:am):yK x y=[]↔∀c∈x,c∈y:=by
 unfold yK;rw[List.reverse_eq_nil_iff,lS];constructor
 .intro h;have d:∀c∈x.dropWhile (λc=>y.contains c),c∈y:=λc a=>by simp_all
  have b:=λc a=>by
   simpa using takeWhile_all (λc=>y.contains c) x c a
  intro c a;rw[<-b6 (l:=x)]at a;exact(wg.mp a).elim (b c) (d c)
 intro h c a;rw[yx]at a;simpa using h c (List.IsSuffix.subset (List.dropWhile_suffix _) a)
theorem XS(x:am)(m:Int)(b:1<=m)(d:m<=3)(h:x.length<=1000000):oX [.str x,.int m]=.ok (.bl<|good m x):=by
 unfold oX FU;have e:(yK x (cut [97,98,99] none<|some m)==[])=good m x:=by
  rw[Dx,Ih,strip_nil,NH];exact⟨λz c a=>(IY b d).mp<|z c a,λz c a=>(IY b d).mpr<|z c a⟩
 simp[Ww,show x.length<=big from dO (by lia),e]
def Ι(x y:D)(m:Int)(p q:Bool)(c:oX [x,.int m]=.ok (.bl p))(b:oX [y,.int m]=.ok (.bl q))(a:plain y=true)(d:Me y<=64):mO [.tup [x,y],.int m]=.ok (.bl<|p&&(q && !qd y (.str []))):=by
 unfold mO xS;have f:Tc [x,y] 0=some x:=rfl;have e:Tc [x,y] 1=some y:=rfl;cases p<;>cases q<;>simp[NC,f,e,c,b,a,d]
noncomputable def da(l:am):im:=l.map λ(x:Nat)=>D.int (x:Int)
structure La(S:be)(rk:am)(c:Nat):Prop where
 one:1<=S.length
 most:S.length<=8
 c1:1<=c
 c3:c<=3
 row:∀r∈S,r.length=c/\∀x∈r,x<S.length
 Qp:rk.length=S.length
noncomputable def Va(S:be):im:=S.map λr=>D.lst<|da r
theorem QV{tg:Tg}{c f:Ex}{st:xa}{P:D->D->Prop}:∀(ds:im),(∀d∈ds,∃a y,tg d st=.ok a/\c a=.ok (.bl true)/\f a=.ok y/\P d y)->∃ys,jC tg c f st ds=.ok ys/\ys.length=ds.length/\∀y∈ys,∃d∈ds,P d y
 |[],_=>⟨[],rfl,rfl,λ_ h=>nomatch h⟩
 |d::ds,h=>by
  obtain⟨a,y,e1,e2,i,l⟩:=h d zb;obtain⟨ys,g,e,k⟩:=QV ds λd b=>h d<|Ab _ b
  refine⟨y::ys,?_,by simp[e],λz j=>?_⟩
  .rw[uT,e1];simp[e2,i,g]
  grind
def ò{lo:Int} (h:d∈jU lo n):∃k:Nat,k<n/\d=.int (lo+k):=by
 obtain⟨k,b,a⟩:=Zc.mp h;exact⟨k,Ff.mp b,a.symm⟩
theorem JY:∀(ys:im)(n:Int),(∀y∈ys,∃i:Int,y=.int i/\0<=i/\i<n)->∃r:am,ys=da r/\∀x∈r,(x:Int)<n
 |[],_,_=>⟨[],rfl,λ_ h=>nomatch h⟩
 |y::ys,n,h=>by
  obtain⟨i,rfl,a,d⟩:=h y zb;obtain⟨r,rfl,c⟩:=JY ys n λy b=>h y<|Ab _ b
  refine⟨i.toNat::r,?_,λx hx=>?_⟩
  .unfold da;rw[Ge,Au a]
  rcases Pb.mp hx with rfl|hx
  .rwa [Au a]
  exact c x hx
theorem bCd{E:Ex}{st:xa}{v:Nat}{P:D->Prop}(b:st[v]?=some (some<|.v<|.int n))(m:n<=100000)(f:∀k:Nat,k<n->∃y,E ((st.set j none).set j k)=.ok y/\P y) :
  ∃ys,cL [j] (Ya j) (tM<|aA v) dG E st=.ok (.lst ys)/\ys.length=n/\∀y∈ys,P y:=by
 obtain⟨ys,e1,e2,l⟩:=QV (tg:=Ya j) (c:=dG) (P:=λ_ y=>P y) _ (λd e=>by
  obtain⟨k,c,rfl⟩:=ò e;obtain⟨y,i,g⟩:=f k c;rw[DN];exact⟨_,y,rfl,rfl,i,g⟩)
 rw[bS]at e2;refine⟨ys,?_,e2,λy a=>let ⟨_,_,h⟩:=l y a;h⟩
 simp[b,bS,show n<=big from dO (by lia),e1]
def GU{E:Ex}{st:xa}{v:Nat}{m:Int}(a:st[v]?=some (some<|.v<|.int n))(b:n<=100000)(d:∀k:Nat,k<n->∃i,E ((st.set j none).set j k)=.ok (.int i)/\0<=i/\i<m) :
  ∃r,cL [j] (Ya j) (tM<|aA v) dG E st=.ok (.lst<|da r)/\r.length=n/\∀x∈r,(x:Int)<m:=by
 obtain⟨ys,e1,e2,g⟩:=bCd (P:=λy=>∃i:Int,y=.int i/\0<=i/\i<m) a b λk c=>let ⟨i,f,e⟩:=d k c;⟨_,f,i,rfl,e⟩
 obtain⟨r,rfl,h⟩:=JY ys m g;exact⟨r,e1,by rw[<-e2];unfold da;simp,h⟩
theorem EI{tg:Tg}{L:Bd}(P:xa->Prop):∀(a:im),(∀d∈a,∀st,P st->∃b st',tg d st=.ok b/\L b=.ok (.nx st')/\P st')->∀st,P st->∃st',P st'/\Eb tg L a st=.ok (.nx st')
 |[],_,st,p=>⟨st,p,rfl⟩
 |d::a,h,st,p=>by
  obtain⟨b,st',e1,e2,e⟩:=h d zb st p;obtain⟨i,c,g⟩:=EI P a (λd f=>h d<|Ab _ f) st' e
  refine⟨i,c,?_⟩;rw[uL,e1];simp[e2];exact g
def bHf{xs:List α}{i:Int}(b:0<=i)(h:i<xs.length):∃a∈xs,Tc xs i=some a:=⟨_,Fh _,Y1 b h⟩
theorem Vz{E:Ex}{st:xa}{v:Nat}{xs:im}(a:st[v]?=some (some<|.v<|.lst xs))(e:xs.length<=100000)(h:∀d∈xs,E ((st.set j none).set j d)=.ok (.bl true)):e1 Yo (cL [j] (Ya j) (xc<|aA v) dG E) st=.ok (.bl true):=by
 have e2:xs.map (λ_=>D.bl true)=(xs.map λ_=>true).map D.bl:=by simp
 simp[a,show xs.length<=big from dO (by lia),(uM (tg:=Ya j) (c:=dG) _ xs λd c=>⟨_,rfl,rfl,h d c⟩)]
 rw[e2];exact bCc rfl λb f=>by simp_all
theorem HU{E:Ex}{st:xa}{v:Nat}{xs:im}(a:st[v]?=some (some<|.v<|.lst xs))(c:xs.length<=100000)(h:∀d∈xs,E ((st.set j none).set j d)=.ok d):cL [j] (Ya j) (xc<|aA v) dG E st=.ok (.lst xs):=by
 simp[a,show xs.length<=big from dO (by lia),(uM (tg:=Ya j) (c:=dG) id xs λd b=>⟨_,rfl,rfl,h d b⟩)]
def IU(i:Int):qL [.int i]=.ok (.bl true):=by
 unfold qL SS;simp[isIn,MC]
def JU{x:Nat}(h:x<n):qM [.int x,.int n]=.ok (.bl true):=by
 unfold qM US;simp[(IU x),h]
theorem KU(xs:im)(m:Int):fL [.lst xs,.int m]=.ok (.bl<|decide (1<=(xs.length:Int))&&decide ((xs.length:Int)<=m)):=by
 unfold fL xN
 by_cases h:1<=xs.length
 .have a:(1:Int)<=xs.length:=by lia
  simp[Cn,h,a]
 have a:¬ (1:Int)<=xs.length:=by lia
 simp[Cn,a]
def aY(r:am):(da r).length=r.length:=by unfold da;simp
def jX(S:be):(Va S).length=S.length:=by unfold Va;simp
def pM{r:am} (h:d∈da r):∃x∈r,d=.int (x:Nat):=by
 obtain⟨x,b,a⟩:=Zc.mp h;exact⟨x,b,a.symm⟩
def HA{S:be} (h:d∈Va S):∃r∈S,d=.lst (da r):=by
 obtain⟨x,b,a⟩:=Zc.mp h;exact⟨x,b,a.symm⟩
theorem bLy(r:am)(n:Nat)(h:∀x∈r,x<n)(e:r.length<=1000):Uz [.lst<|da r,.int r.length,.int n]=.ok (.bl true):=by
 refine bV rfl ?_
 have c:e2 wc (e1 dC<|aA 0) (aA 1) [D.lst<|da r,r.length,n,none]=.ok (.bl true):=by simp[aY]
 show cG _ [some _,some _,some _,none]=_;rw[yL,CY,c,(Vz rfl (by rw[aY];lia) (λd b=>by
  obtain⟨x,a,rfl⟩:=pM b;simp[VS,JU<|h x a]))]
 rfl
noncomputable def mD(S:be)(rk:am)(c:Nat):D:=.ins "Machine" ["steps","ranks","many","letters"] [.lst<|Va S,.lst<|da rk,.int S.length,.int c]
section
def La.LQ(M:La S rk c):∃r T,S=r::T/\r.length=c:=by
 cases S with
 |nil=>exact absurd M.one (by simp)
 |cons r T=>exact⟨r,T,rfl,(M.row r zb).1⟩
def La.Z0(M:La S rk c):∃r,r∈S/\Tc (Va S) 0=some (.lst<|da r)/\r.length=c:=by
 obtain⟨r,T,rfl,h⟩:=M.LQ;refine⟨r,zb,?_,h⟩;simpa [Va] using (Jb (xs:=Va<|r::T) (i:=0)<|by simp[Va])
theorem bCe(M:La S rk c):vZ [.lst<|Va S]=.ok (.bl true):=by
 obtain⟨h,p,l,i⟩:=M.Z0;have n:=M.one;have m:=M.most;have g:=KU (Va S) 8;rw[jX]at g;have e:fL [.lst<|Va S,.int 8]=.ok (.bl true):=by rw[g];congr 2;simp;lia
 refine bV rfl<|cX (by simp[e])<|cX ?_ ?_
 .rw[bLn,bGz,(Vz rfl (by rw[jX];lia) (λd b=>by
  obtain⟨r,a,rfl⟩:=HA b;have f:=KU (da r) 3;rw[aY,(M.row r a).1]at f;have j:=M.c3;have o:=M.c1;simp[gS,f];lia))];rfl
 rw[yL,(Vz rfl (by rw[jX];lia) (λd b=>by
  obtain⟨r,a,rfl⟩:=HA b;have j:=M.c3;have k:(da h).length=r.length:=by rw[aY,i,(M.row r a).1]
  simp[iS,l,k,jX,(bLy r S.length (M.row r a).2<|by rw[(M.row r a).1];lia)]))];rfl
theorem bCf(M:La S rk c):wA [.lst<|da rk,.int S.length]=.ok (.bl true):=by
 have e:=M.most;have f:=Vz (E:=wK) (st:=[some _,S.length,none]) (j:=2) (v:=0) rfl (by rw[aY,M.Qp];lia) (λd a=>by
  obtain⟨x,b,rfl⟩:=pM a;simp[wK,IU])
 refine bV rfl<|cX (by simp[Cn,aY,M.Qp]) ?_
 simp_all
def Wz:lY "Machine" "many" (mD S rk c)=.ok (.int S.length):=by unfold mD;rw[xv,aD rfl];rfl
def Â:lY "Machine" "letters" (mD S rk c)=.ok (.int c):=by unfold mD;rw[xv,aD rfl];rfl
def mQ:lY "Machine" "steps" (mD S rk c)=.ok (.lst<|Va S):=by unfold mD;rw[xv,aD rfl];rfl
theorem KY(M:La S rk c):gZ [.lst<|Va S,.lst<|da rk]=.ok (mD S rk c):=by
 obtain⟨g,j,f,b⟩:=M.Z0;have i:=M.most;refine bGy λx=>?_
 unfold Pt;rw[aD<|show ([D.lst<|Va S,D.lst<|da rk]).length=2 from rfl]
 have a:jW [some<|.o (.i x "Machine" []) [],D.lst<|Va S,D.lst<|da rk,none]=.ok (.nx [some<|.o (.i x "Machine" ["steps","ranks","many","letters"]) [.lst<|Va S,.lst<|da rk,.int S.length,.int c],D.lst<|Va S,D.lst<|da rk,none]):=by
  refine cX (by simp[(bCe M)])<|cX (by simp[jX,(bCf M)])<|aL (st':=[some<|.o (.i x "Machine" ["steps"]) [.lst<|Va S],D.lst<|Va S,D.lst<|da rk,none]) ?_ ?_
  .rw[ſ,(HU rfl (by rw[jX];lia) (λd e=>by
  obtain⟨r,h,rfl⟩:=HA e;simp[rW]))]
   simp
  refine aL (st':=[some<|.o (.i x "Machine" ["steps","ranks"]) [.lst<|Va S,.lst<|da rk],D.lst<|Va S,D.lst<|da rk,none]) (by simp)<|aL (st':=[some<|.o (.i x "Machine" ["steps","ranks","many"]) [.lst<|Va S,.lst<|da rk,.int S.length],D.lst<|Va S,D.lst<|da rk,none]) (by simp[jX]) ?_
  simp[f,aY,b]
 show (jW [some<|.o (.i x "Machine" []) [],D.lst<|Va S,D.lst<|da rk,none]).bind _=_;rw[a];simp[mD]
end
def UG(x:Nat)(l:am):da (x::l)=.int (x:Nat)::da l:=rfl
def bCg(r:am)(S:be):Va (r::S)=.lst (da r)::Va S:=rfl
theorem eY:∀l:am,eO (da l)=true/\kY (da l)=0/\nM (da l) (da l)=true
 |[]=>⟨rfl,by unfold da;simp,by unfold da;simp[nM]⟩
 |x::l=>by
  obtain⟨c,b,a⟩:=eY l;rw[UG];simp_all
theorem LU:∀S:be,eO (Va S)=true/\kY (Va S)<=1/\nM (Va S) (Va S)=true
 |[]=>⟨rfl,by unfold Va;simp,by unfold Va;simp⟩
 |r::S=>by
  obtain⟨f,e,d⟩:=LU S;obtain⟨c,b,a⟩:=eY r;rw[bCg];simp_all
theorem FI(l:am):Xd (.lst<|da l) (.lst<|da l)=.ok (.bl false)/\wc (.lst<|da l) (.lst<|da l)=.ok (.bl true):=by
 obtain⟨c,b,a⟩:=eY l;simp_all
theorem B2(S:be):Xd (.lst<|Va S) (.lst<|Va S)=.ok (.bl false)/\wc (.lst<|Va S) (.lst<|Va S)=.ok (.bl true):=by
 obtain⟨d,f,c⟩:=LU S;have e:Me (.lst<|Va S)<=2:=by unfold Me;lia
 have b:qd (.lst<|Va S) (.lst<|Va S)=true:=by exact c
 have a:=by exact d
 rw[X1,bLo,aD ⟨by lia,a,a⟩,aD ⟨by lia,a,a⟩,b]
 exact⟨rfl,rfl⟩
section
variable{S:be}{rk:am}{c:Nat}
def Bc(S:be)(q a:Nat):Nat:=(S.getD q []).getD a 0
def VJ(M:La S rk c){q a:Nat}(d:q<S.length)(g:a<c):∃r,Tc (Va S) (q:Int)=some (.lst<|da r)/\Tc (da r) (a:Int)=some (.int<|Bc S q a)/\Bc S q a<S.length:=by
 have f:=M.row S[q] (Fh d);have b:a<S[q].length:=by rw[f.1];exact g
 have e:Bc S q a=S[q][a]:=by
  simp[Bc,getD_eq_getElem?_getD,List.getElem?_eq_getElem d,List.getElem?_eq_getElem b]
 refine⟨S[q],?_,?_,?_⟩
 .rw[Jb (by rw[jX];exact d)];simp[Va]
 .rw[Jb (by rw[aY];exact b),e];simp[da]
 .rw[e];exact f.2 _<|Fh b
theorem RV(h:m<=3){ch:Nat}(b:97<=ch)(a:(ch:Int)<97+m):nO [97,98,99] [ch] 0=some (ch-97):=by
 have:ch=97\/ch=98\/ch=99:=by lia
 rcases this with rfl|rfl|rfl<;>rfl
def GI(M:La S rk c){q ch:Nat}(a:q<S.length)(d:97<=ch)(b:(ch:Int)<97+c):∃r,Tc (Va S) (q:Int)=some (.lst<|da r)/\Tc (da r) (((ch-97:Nat)):Int)=some (.int<|Bc S q<|ch-97)/\Bc S q (ch-97)<S.length:=VJ M a (by omega)
noncomputable def runs(S:be):Nat->List Nat->List Nat
 |_,[]=>[]
 |q,ch::x=>Bc S q (ch-97)::runs S (Bc S q<|ch-97) x
def pO(S:be):Nat->List Nat->Nat
 |q,[]=>q
 |q,ch::x=>pO S (Bc S q<|ch-97) x
end
theorem kI:∀(n:Nat)(l:am),l.Nodup->(∀x∈l,x<n)->l.length<=n
 |0,l,_,h=>by
  cases l with
  |nil=>exact Cb _
  |cons x l=>exact absurd (h x zb) (by lia)
 |n+1,l,a,h=>by
  have b:=kI n _ (a.erase n) λx c=>by
   grind
  grind
theorem yP(g:Nat)(l:am):inD (.int g) (da l)=decide (g∈l):=by
 unfold inD da;rw[Kx]
 by_cases h:g∈l
 .rw[Cc h,zu];exact⟨g,h,by simp⟩
 rw[Qc h,ID];intro x a;have:¬ (x:Int)=g:=λz=>h (by grind)
 simp[qd,this]
def Ho{q:Nat}(a:q<S.length):Tc (Va S) (q:Int)=some (.lst<|da S[q]):=by
 rw[Jb (by rwa [jX])]
 unfold Va;rw[ZM]
section
def xP{m:String} {r:yd} {st:xa} (d:f st=.ok (mD S rk c)) (a:r st=.ok xs) (b:m∉["steps","ranks","many","letters"]):vQ "Machine" m p dv f r st=p (mD S rk c::(xs++dv)):=by
 rw[LV,d,a];exact aD ⟨rfl,b⟩
theorem YS(M:La S rk c)(a t:li)(i:a=some (.v<|mD S rk c)):∀(x:am)(q:Nat)(b:am)(l:li),q<S.length->Ue c x->b.length+x.length<=1000000->∃d,Eb (Ya 4) jE (x.map λch=>D.str [ch]) [a,q,t,some<|.o .l<|da b,l] =
  .ok (.nx [a,pO S q x,t,some<|.o .l<|da<|b++runs S q x,d])
 |[],q,b,l,_,_,_=>⟨l,by simp[pO,runs]⟩
 |ch::x,q,b,l,h,g,n=>by
  rw[ie]at n;obtain⟨k,j⟩:=g ch zb;obtain⟨r,e1,e2,o⟩:=GI M h k j;obtain⟨d,e⟩:=YS M a t i x (Bc S q<|ch-97) (b++[Bc S q<|ch-97]) (D.str [ch]) o (λz m=>g z<|Ab _ m) (by rw[ef,Yi];omega)
  refine⟨d,?_⟩;have f:=RV M.c3 k j;have p:da (b++[Bc S q<|ch-97])=da b++[D.int<|Bc S q<|ch-97]:=by unfold da;simp
  rw[p]at e;rw[Ge,uL,show runs S q (ch::x)=Bc S q (ch-97)::runs S (Bc S q<|ch-97) x from rfl,show b++Bc S q (ch-97)::runs S (Bc S q<|ch-97) x=b++[Bc S q<|ch-97]++runs S (Bc S q<|ch-97) x by simp,show pO S q (ch::x)=pO S (Bc S q<|ch-97) x from rfl,<-e]
  subst i;simp[jE,mQ,e1,f,e2,aY,show b.length<big from Bt (by omega)]
theorem SV(M:La S rk c){q:Nat}(d:q<S.length)(x:am)(b:Ue c x)(g:x.length<=500000):bU [mD S rk c,.int q,.str x]=.ok (.lst<|da<|q::runs S q x):=by
 obtain⟨a,e⟩:=YS M _ _ rfl x q [q] none d b (by simp;lia)
 refine bV rfl ?_
 have f:gM [mD S rk c,q,D.str x,none,none]=.ok (.nx [mD S rk c,pO S q x,D.str x,some<|.o .l<|da<|[q]++runs S q x,a]):=by
  refine aL (st':=[mD S rk c,q,D.str x,some<|.o .l<|da [q],none]) (by simp[da])<|aL (by
   simp[show x.length<=big from dO (by lia)]
   exact e) rfl
 show Zm gM 3 [some _,some _,some _,none,none]=_;unfold Zm;rw[f];rfl
theorem Dh{xs:List α}{a:α}(h:xs.getLast?=some a):Tc xs (-1)=some a:=by
 have b:xs≠[]:=λz=>by rw[z]at h;cases h
 have c:=Oq.mpr b;rw[VL]at h;unfold Tc kg
 rwa [Ea (by decide),Ka (by lia),show ((-1:Int)+xs.length).toNat=xs.length-1 by lia]
def Ĳ{r:am}{a:Nat}(h:r.getLast?=some a):(da r).getLast?=some (.int a):=by
 unfold da;rw[List.getLast?_map,h];rfl
end
def join_one(l:am):So [] (l.map λc=>[c])=l:=by
 induction l with
 |nil=>rfl
 |cons a l d=>
  cases l with
  |nil=>rfl
  |cons b l=>
   show [a]++[]++So [] _=_;rw[d];rfl
theorem bHg(l:am)(h:l.length<=1000000):Fw (.str []) [.lst<|l.map λc=>D.str [c]]=.ok (.str l):=by
 have e:(l.map λc=>D.str [c])=(l.map λc=>[c]).map D.str:=by simp
 have d:((l.map λc=>[c]).map List.length).sum=l.length:=by
  rw[xg]
  induction l with
  |nil=>rfl
  |cons a l b=>rw[Ge,sum_cons,b (by simp at h;lia) (by simp)];simp;lia
 show (Rt _).bind _=_;rw[e,CU];simp only[bD];rw[aD (by rw[d];simp;exact dO<|by lia),join_one]
def cy(c:am)(i:Nat):Nat:=c.getD (i%c.length) 0
def lt(b c:am)(i:Nat):Nat:=if i<b.length then b.getD i 0 else cy c (i-b.length)
def bPv{c:am} (h:i<c.length):cy c i=c.getD i 0:=by unfold cy;rw[Nat.mod_eq_of_lt h]
def bLz(c:am)(i:Nat):cy c (i+c.length)=cy c i:=by unfold cy;rw[Nat.add_mod_right]
def qg(n d:Nat):Ud n d none=d:=rfl
theorem jh(n d k:Nat):Ud n d (some (k:Int))=min k n:=by
 show (if k<0 then ((k:Int)+n).toNat else min (k:Int).toNat n)=_
 rw[Ea (by lia),Du]
theorem bM0(x:List α)(n:Nat):cut x none (some (n:Int))=x.take n:=by
 unfold cut;rw[qg,jh];grind
def bM1(x:List α)(n:Nat)(h:n<=x.length):cut x (some (n:Int)) none=x.drop n:=by
 unfold cut;rw[qg,jh,Nat.min_eq_left h,yu (by simp)]
theorem HI{b t:am}{n:Nat}(h:b.length<=n):∀k,lt b t (n+k*t.length)=lt b t n
 |0=>by simp
 |k+1=>by
  rw[EN,<-Nat.add_assoc,<-HI h k];unfold lt;rw[Ea (by lia),Ea (by lia),show n+k*t.length+t.length-b.length=n+k*t.length-b.length+t.length by lia,bLz]
theorem oB{c:Int}{b t:am}(g:Ue c b)(f:Ue c t)(j:1<=t.length)(n:Nat):97<=lt b t n/\(lt b t n:Int)<97+c:=by
 have a:∀(x:am)(i:Nat),i<x.length->Ue c x->97<=x.getD i 0/\(x.getD i 0)<97+c:=λx i h d=>by
  have e:x.getD i 0=x[i]:=by simp_all
  rw[e];exact d _<|Fh h
 unfold lt;split
 .exact a _ _ (by assumption) g
 exact a _ _ (mod_lt _ j) f
def fw(S:be)(f:ol)(q:Nat):ol
 |0=>q
 |n+1=>Bc S (fw S f q n)<|f n-97
structure Lp(S:be)(f:ol)(q s e:Nat):Prop where
 lt:s<e
 per:∀n,s<=n->f (n+(e-s))=f n
 eq:fw S f q s=fw S f q e
section
variable{f:ol}{s e s2 e2:Nat}
theorem Lp.step(L:Lp S f q s e):∀k,fw S f q (s+k+(e-s))=fw S f q (s+k)
 |0=>by
  have:=L.lt;rw[XD,show s+(e-s)=e by lia]
  exact L.eq.symm
 |k+1=>by
  rw[show s+(k+1)+(e-s)=(s+k+(e-s))+1 by lia]
  show Bc S _ _=Bc S (fw S f q<|s+k) (f (s+k)-97);rw[(L.step k),(L.per (s+k)<|by lia)]
theorem Lp.at(L:Lp S f q s e)(n:Nat)(h:s<=n):fw S f q (n+(e-s))=fw S f q n:=by
 have:=L.step<|n-s
 rwa [show s+(n-s)=n by lia]at this
theorem Lp.mul(L:Lp S f q s e):∀(k n:Nat),s<=n->fw S f q (n+k*(e-s))=fw S f q n
 |0,n,_=>by simp
 |k+1,n,h=>by
  rw[EN,<-Nat.add_assoc,L.at _ (by lia),L.mul k n h]
theorem Lp.into(L:Lp S f q s e)(n:Nat)(h:s<=n):∃m,s<=m/\m<e/\fw S f q n=fw S f q m:=by
 have a:=L.lt;have c:=mod_lt (n-s) (show 0<e-s by lia)
 have:=L.mul ((n-s)/(e-s)) (s+(n-s)%(e-s)) (by lia)
 have b:=Nat.mod_add_div (n-s)<|e-s;grind
theorem Lp.sub(L:Lp S f q s e)(d:Lp S f q s2 e2)(n:Nat)(h:s<=n):∃m,s2<=m/\m<e2/\fw S f q n=fw S f q m:=by
 have g:=L.lt;have i:s2*1<=s2*(e-s):=Nat.mul_le_mul_left _ (by lia)
 obtain⟨m,a,b,c⟩:=d.into (n+s2*(e-s)) (by lia)
 exact⟨m,a,b,by rw[<-c,L.mul s2 n h]⟩
end
noncomputable def Dd(S:be)(f:ol)(q s e:Nat):am:=(List.range' s<|e-s).map<|fw S f q
theorem uB{f:ol}{s e:Nat}:r∈Dd S f q s e↔∃n,s<=n/\n<e/\fw S f q n=r:=by
 unfold Dd;grind
noncomputable def mx(rk l:am):Int:=tQ<|l.map λr=>((rk.getD r 0:Nat):Int)
def bHh{l:lv}(h:l≠[]):tQ l∈l/\∀x∈l,x<=tQ l:=by
 cases l with
 |nil=>exact(h rfl).elim
 |cons i r=>
  obtain⟨c,b,a⟩:=Jz r i;refine⟨?_,λx hx=>?_⟩
  .rcases a with a|a
   .show r.foldl _ i∈_;rw[a];exact zb
   exact Ab _ a
  rcases Pb.mp hx with rfl|hx
  .exact c
  exact b x hx
def LY{c:am}(g:l≠[])(h:∀r,r∈l↔r∈c):mx rk l=mx rk c:=by
 obtain⟨a,b⟩:=bHh (l:=c.map λr=>((rk.getD r 0))) (by simpa using (λz=>by
  cases l with
  |nil=>exact g rfl
  |cons a l=>have:=(h a).mp zb;rw[z]at this;cases this))
 refine yM ?_ λx f=>?_
 .obtain⟨r,e,d⟩:=Zc.mp a;rw[mx,<-d];exact Zc.mpr ⟨r,(h r).mpr e,rfl⟩
 obtain⟨r,e,d⟩:=Zc.mp f;exact b x<|Zc.mpr ⟨r,(h r).mp e,d⟩
def Ev(S:be)(rk:am)(f:ol)(q:Nat)(v:Bool):Prop:=∃s e,Lp S f q s e/\v=decide (mx rk (Dd S f q s e)%2=0)
def qB{f:ol}{s e:Nat}(h:s<e):Dd S f q s e≠[]:=λz=>by
 have:fw S f q s∈Dd S f q s e:=uB.mpr ⟨s,Cb _,h,rfl⟩;rw[z]at this;cases this
def Ev.alone{f:ol}{v:Bool} (h:Ev S rk f q v) (j:Ev S rk f q v'):v=v':=by
 obtain⟨s,e,L,rfl⟩:=h;obtain⟨k,e2,g,rfl⟩:=j;rw[LY (qB L.lt) λr=>?_]
 rw[uB,uB];constructor
 .rintro⟨n,d,i,rfl⟩;obtain⟨m,a,b,c⟩:=L.sub g n d;exact⟨m,a,b,c.symm⟩
 rintro⟨n,d,i,rfl⟩;obtain⟨m,a,b,c⟩:=g.sub L n d;exact⟨m,a,b,c.symm⟩
theorem GS:∀(n:Nat)(l:am),l.Nodup->(∀x∈l,x<n)->l.length<=n
 |0,l,_,h=>by
  cases l with
  |nil=>simp
  |cons a l=>exact absurd (h a zb) (by lia)
 |n+1,l,b,h=>by
  have d:=GS n _ (b.erase n) (λx c=>by
   grind)
  grind
theorem least{P:Go}:∀n,P n->∃m,m<=n/\P m/\∀k,k<m->¬ P k:=by
 intro n
 induction n using strongRecOn with
 |ind n g=>
  intro h
  by_cases f:∃k,k<n/\P k
  .obtain⟨k,e,d⟩:=f;obtain⟨m,a,b,c⟩:=g k e d;exact⟨m,by lia,b,c⟩
  exact⟨n,Cb _,h,λk e d=>f ⟨k,e,d⟩⟩
theorem Ã(g:ol)(n:Nat)(h:∀i,g i<n):∃J,J<=n/\(∃i,i<J/\g i=g J)/\∀j,j<J->∀i,i<j->g i≠g j:=by
 have p:∃J,J<=n/\∃i,i<J/\g i=g J:=by
  by_cases d:∃J,J<=n/\∃i,i<J/\g i=g J
  .exact d
  have k:((List.range<|n+1).map g).Nodup:=by
   rw[List.nodup_iff_pairwise_ne,Lx];refine List.Pairwise.imp_of_mem ?_ List.pairwise_lt_range;intro a b r o q;exact(λi j f e z=>d ⟨j,e,i,f,z⟩) a b q (by have:=Ff.mp o;lia)
  have:=GS n _ k (λx d=>by obtain⟨i,_,rfl⟩:=Zc.mp d;exact h i)
  simp at this;lia
 obtain⟨J,s,l⟩:=p;obtain⟨m,a,b,c⟩:=least (P:=λJ=>∃i,i<J/\g i=g J) J l
 exact⟨m,by lia,b,λj e i f z=>c j e ⟨i,f,z⟩⟩
theorem MU{C:Ex}{L:Bd}(st:Nat->xa)(J:Nat)(c:∀j,j<J->C (st j)=.ok (.bl true)/\L (st j)=.ok (.nx<|st<|j+1))(b:C (st J)=.ok (.bl false)):∀(k a:Nat),k<=J->k<a->lH C L a (st<|J-k)=.ok (.nx<|st J)
 |0,a,_,d=>by
  obtain⟨m,rfl⟩:∃m,a=m+1:=⟨a-1,by lia⟩
  rw[vR,Nat.sub_zero,b];rfl
 |k+1,a,h,d=>by
  obtain⟨m,rfl⟩:∃m,a=m+1:=⟨a-1,by lia⟩
  obtain⟨f,e⟩:=c (J-(k+1)) (by lia)
  have g:=MU st J c b k m (by lia) (by lia)
  rw[vR,f];simp[e]
  rwa [show J-(k+1)+1=J-k by lia]
section
variable {f:ol}
def MY{s:Nat}:Dd S f q s s=[]:=by unfold Dd;rw[YD];rfl
theorem Xz{s e:Nat}(h:s<e):Dd S f q s e=fw S f q s::Dd S f q (s+1) e:=by
 unfold Dd;rw[show e-s=(e-(s+1))+1 by lia,List.range'_succ,Ge]
theorem JA{s e:Nat}(b:s<=m)(a:m<=e):Dd S f q s m++Dd S f q m e=Dd S f q s e:=by
 unfold Dd;have:=List.range'_append_1 (s:=s) (m:=m-s) (n:=e-m);rw[show s+(m-s)=m by lia,show m-s+(e-m)=e-s by lia]at this
 rw[<-Zi,this]
theorem bHi{s:Nat}:Dd S f q s (s+1)=[fw S f q s]:=by rw[Xz (by lia),MY]
def Ov{s e:Nat}:(Dd S f q s e).length=e-s:=by unfold Dd;simp
theorem TV{s e:Nat}(h:s<=e):Dd S f q s (e+1)=Dd S f q s e++[fw S f q e]:=by rw[<-bHi,JA h (by lia)]
def bCi{s e:Nat}(h:s<=e):(Dd S f q s<|e+1).getLast?=some (fw S f q e):=by rw[TV h,i7];rfl
theorem WV:∀(x:am)(n:Nat),(∀i,i<x.length->x.getD i 0=f (n+i))->runs S (fw S f q n) x=Dd S f q (n+1) (n+1+x.length)
 |[],n,_=>by rw[Hx,MY];rfl
 |ch::x,n,h=>by
  have a:=by simpa using (h 0<|by simp)
  have e:Bc S (fw S f q n) (ch-97)=fw S f q (n+1):=by rw[a];rfl
  rw[ie,Xz (by lia),show n+1+(x.length+1)=n+1+1+x.length by lia,<-WV x (n+1) (λi b=>by
   rw[show n+1+i=n+(i+1) by lia,<-(h (i+1)<|by simp;lia)]
   simp),<-e]
  rfl
theorem To(M:La S rk c)(a:∀n,97<=f n/\(f n:Int)<97+c)(b:q<S.length):∀n,fw S f q n<S.length
 |0=>b
 |n+1=>by
  obtain⟨_,_,_,h⟩:=GI M (To M a b n) (a n).1 (a n).2;exact h
end
section
variable{K V:Nat->D}{g:ol}(hK:∀i j,Oe (K i) (K j)=decide (g i=g j))
include hK
theorem bHj(h:∀i,i<j->g i≠g m):qD ((List.range j).map K) (K m)=false:=by
 unfold qD;simp_all
def bCj(h:i<j)(e:g i=g m):qD ((List.range j).map K) (K m)=true:=by
 unfold qD;rw[Kx,zu];exact⟨i,Ff.mpr h,by simp[hK,e]⟩
theorem bCk(h:i<j)(e:g i=g m)(b:∀a,a<i->g a≠g m):wY ((List.range j).map K) ((List.range j).map V) (K m)=some (V i):=by
 unfold wY;rw[BN,List.find?_map];have:(List.range j).find? ((λp:D×D=>Oe p.1<|K m) ∘ λa=>(K a,V a))=some i:=by
  simp_all
 rw[this];rfl
end
def YV(F:Nat->D)(j:Nat):(List.range j).map F++[F j]=(List.range<|j+1).map F:=by rw[nN,Zi];rfl
def Yz(a b:am):da a++da b=da (a++b):=by unfold da;rw[Zi]
def bCl(a:α)(x:List α):cut (a::x) (some 1) none=x:=by
 simpa using (bM1 (a::x) 1<|by simp)
theorem bHk(x y:List α)(a:α)(n:Nat)(h:x.length=n):cut (x++y++[a]) (some (n:Int)) (some<|-1)=y:=by
 subst h;have l:(x++y++[a]).length=x.length+y.length+1:=by simp;lia
 unfold cut;have e1:Ud (x++y++[a]).length 0 (some x.length)=x.length:=by
  rw[l];show (if (x.length<0) then ((x.length:Int)+((x.length+y.length+1))).toNat else min (x.length:Int).toNat _)=_;lia
 have e2:Ud (x++y++[a]).length (x++y++[a]).length (some<|-1)=x.length+y.length:=by
  rw[l];unfold Ud;simp;lia
 rw[e1,e2,Zk,List.drop_left,show x.length+y.length-x.length=y.length by lia,List.take_left]
section
theorem ó(M:La S rk c){b t:am}(a:Ue c b)(d:Ue c t)(f:1<=t.length)(e:t.length<=10000)(bl:b.length<=10000):mO [.tup [.str b,.str t],.int c]=.ok (.bl true):=by
 have h:=M.c1;have g:=M.c3;rw[Ι _ _ c true true (by rw[XS b c (by lia) (by lia) (by lia),NH.mpr a]) (by rw[XS t c (by lia) (by lia) (by lia),NH.mpr d]) rfl (by simp)]
 have:t≠[]:=λz=>by simp_all
 simp[this]
theorem NU(M:La S rk c){f:ol}(d:∀n,97<=f n/\(f n:Int)<97+c)(b:q<S.length)(x:am)(e:x.length<=10000)(a:Ue c x)(n:Nat)(h:∀i,i<x.length->x.getD i 0=f (n+i)):bU [mD S rk c,.int<|fw S f q n,.str x]=.ok (.lst<|da<|Dd S f q n<|n+x.length+1):=by
 rw[SV M (To M d b n) x a (by lia),WV x n h,Xz (s:=n) (by lia),show n+x.length+1=n+1+x.length by lia]
def bM2{b t:am} (h:i<b.length):b.getD i 0=lt b t (0+i):=by unfold lt;rw[rp,Ka h]
theorem bM3{b t:am} (j:Nat) (h:i<t.length):t.getD i 0=lt b t (b.length+j*t.length+i):=by
 rw[show b.length+j*t.length+i=b.length+i+j*t.length by lia,HI (by lia),<-bPv h]
 unfold lt;rw[Ea (by lia),show b.length+i-b.length=i by lia]
theorem ĳ(M:La S rk c)(w:q<S.length){b t:am}(H:Ue c b)(I:Ue c t)(V:1<=t.length)(G:t.length<=10000)(bl:b.length<=10000):∃i J,i<J/\J<=S.length/\fw S (lt b t) q (b.length+i*t.length)=fw S (lt b t) q (b.length+J*t.length)/\(∀j,j<J->∀i,i<j->fw S (lt b t) q (b.length+i*t.length)≠fw S (lt b t) q (b.length+j*t.length))/\
  ∃(P u Q T:im)(O:Nat),bU [mD S rk c,.int q,.str b]=.ok (.lst P)/\
   lH qO qN 100000 [mD S rk c,D.tup [.str b,.str t],q,some<|.o .l P,some<|.o (.d false []) [],none]=.ok (.nx [mD S rk c,D.tup [.str b,.str t],q,some<|.o .l u,some<|.o (.d false Q) T,none])/\
   Tc u (-1)=some (.int O)/\wY Q T (.int O)=some (.int ((b.length+i*t.length:Nat):Int))/\cut u none (some ((b.length+i*t.length:Nat):Int))=da (Dd S (lt b t) q 0<|b.length+i*t.length)/\
   cut u (some ((b.length+i*t.length:Nat):Int)) (some<|-1)=da (Dd S (lt b t) q (b.length+i*t.length)<|b.length+J*t.length):=by
 have B:=oB H I V;have h8:=M.most;generalize N:(λi=>fw S (lt b t) q<|b.length+i*t.length)=g
 obtain⟨J,hJ,⟨i,l,e⟩,y⟩:=Ã g S.length (λi=>by rw[<-N];exact To M B w _)
 have r:∀i,fw S (lt b t) q (b.length+i*t.length)=g i:=λi=>by rw[<-N]
 refine⟨i,J,l,hJ,by rw[r,r,e],λj A i l=>by rw[r,r];exact y j A i l,?_⟩
 have C:∀i j,Oe (.int<|g i) (.int<|g j)=decide (g i=g j):=λi j=>by
  rw[Dx];unfold Oe;simp;lia
 have K7:J*t.length<=8*10000:=Bu (by lia) G
 obtain⟨h,p⟩:∃h:Nat->List D,∀j,h j=(List.range j).map λi=>D.int (g i):=⟨_,λ_=>rfl⟩
 obtain⟨k,s⟩:∃k:Nat->List D,∀j,k j=(List.range j).map λi=>D.int ((b.length+i*t.length:Nat):Int):=⟨_,λ_=>rfl⟩
 have BP:∀j,(k j).length=j:=λj=>by rw[s];simp
 obtain⟨f,m⟩:∃f:Nat->List D,∀j,f j=da (Dd S (lt b t) q 0<|b.length+j*t.length+1):=⟨_,λ_=>rfl⟩
 have U:∀j,((f j).length:Int)-1=((b.length+j*t.length:Nat):Int):=λj=>by rw[m,aY,Ov];lia
 have d:∀j,Tc (f j) (-1)=some (.int<|g j):=λj=>by
  rw[<-r,m];exact Dh<|Ĳ<|bCi<|by lia
 have Ou:∀j,j<J->qO [mD S rk c,D.tup [.str b,.str t],q,some<|.o .l<|f j,some<|.o (.d false<|h j)<|k j,none]=.ok (.bl true)/\qN [mD S rk c,D.tup [.str b,.str t],q,some<|.o .l<|f j,some<|.o (.d false<|h j)<|k j,none]=.ok (.nx [mD S rk c,D.tup [.str b,.str t],q,some<|.o .l<|f<|j+1,some<|.o (.d false<|h<|j+1)<|k<|j+1,none]):=λj A=>by
  have o:=bHj C<|λi l=>y j A i l
  have hjt:j*t.length<=8*10000:=Vc (EM _<|by lia) K7
  rw[<-p]at o;have L:e2 Ta (dX 3) (e1 Vi<|eI 1) [mD S rk c,D.tup [.str b,.str t],q,some<|.o .l<|f j,some<|.o (.d false<|h j)<|k j,none]=.ok (.int<|g j):=aG rfl rfl<|iC<|d j;refine⟨aG L rfl (by
   show aU (Lb false (.int<|g j)=true) (R.ok<|D.bl<|!qD (h j) (.int<|g j))=_;rw[aD (c:=Lb false (.int<|g j)=true) rfl,o];rfl),?_⟩
  have YN:=NU M B w t G I (b.length+j*t.length)<|λi l=>bM3 j l
  rw[r]at YN;have X:uP (h j) (.int<|g j)=h (j+1):=by
   unfold uP;rw[Ea (by rw[o];decide),p,p]
   exact YV (λi=>D.int<|g i) j
  have W:uQ (h j) (k j) (.int<|g j) (.int ((b.length+j*t.length:Nat):Int))=k (j+1):=by
   unfold uQ;rw[Ea (by rw[o];decide),s,s]
   exact YV (λi=>D.int ((b.length+i*t.length:Nat):Int)) j
  refine aL (st':=[mD S rk c,D.tup [.str b,.str t],q,some<|.o .l<|f j,some<|.o (.d false<|h<|j+1)<|k<|j+1,none]) ?_ ?_
  .have Y:e2 wk (e1 dC<|dX 3) (eI 1) [mD S rk c,D.tup [.str b,.str t],q,some<|.o .l<|f j,some<|.o (.d false<|h j)<|k j,none]=.ok (.int ((b.length+j*t.length:Nat):Int)):=by
    rw[<-U j];exact aG rfl rfl rfl
   unfold ze;rw[Y,bD,L,bD,<-X,<-W];exact aD ⟨rfl,Bt<|by rw[BP];lia⟩
  have Z:vQ "Machine" "rooms_along" bU [] (aA 0) (aB (e2 Ta (dX 3)<|e1 Vi<|eI 1)<|aB (e2 Ta (aA 1)<|eI 1) aK) [mD S rk c,D.tup [.str b,.str t],q,some<|.o .l<|f j,some<|.o (.d false<|h<|j+1)<|k<|j+1,none]=.ok (.lst<|da<|Dd S (lt b t) q (b.length+j*t.length)<|b.length+j*t.length+t.length+1):=by
   rwa [xP rfl (aV (aG rfl rfl<|iC<|d j)<|aV (aG rfl rfl rfl) rfl) (by decide)]
  have hc:cut (da<|Dd S (lt b t) q (b.length+j*t.length)<|b.length+j*t.length+t.length+1) (some 1) none=da (Dd S (lt b t) q (b.length+j*t.length+1)<|b.length+j*t.length+t.length+1):=by
   rw[Xz (by lia)];exact bCl _ _
  have ZO:f (j+1)=f j++da (Dd S (lt b t) q (b.length+j*t.length+1)<|b.length+j*t.length+t.length+1):=by
   rw[m,m,Yz,JA (by lia) (by lia),show b.length+(j+1)*t.length+1=b.length+j*t.length+t.length+1 by rw[EN];lia]
  rw[ZO];refine bLx ?_ rfl<|dO (by
   have:=U j;rw[aY,Ov];lia)
  rw[U1,Z,<-hc];rfl
 have o:=bCj C l e;rw[<-p]at o;have F:=bCk (V:=λi=>D.int ((b.length+i*t.length:Nat):Int)) C l e (λa ha=>by rw[<-e];exact y i l a ha)
 rw[<-p,<-s]at F;have Sd:i*t.length<=J*t.length:=EM _ (by lia)
 obtain⟨n,x⟩:∃n,n=b.length+i*t.length:=⟨_,rfl⟩;rw[<-x]at F ⊢;have K:=MU (λj=>[mD S rk c,D.tup [.str b,.str t],q,some<|.o .l<|f j,some<|.o (.d false<|h j)<|k j,none]) J Ou (by
  refine aG (aG rfl rfl<|iC<|d J) rfl ?_
  show aU (Lb false (.int<|g J)=true) (R.ok<|D.bl<|!qD (h J) (.int<|g J))=_;rw[aD (c:=Lb false (.int<|g J)=true) rfl,o];rfl) J 100000 (Cb _) (by lia)
 rw[YD]at K;have E:=NU M B w b bl H 0<|λi l=>bM2 l
 rw[rp]at E;have YO:f 0=da (Dd S (lt b t) q 0<|b.length+1):=by rw[m,Nat.zero_mul,XD]
 rw[<-YO]at E;have z:h 0=[]:=by rw[p];rfl
 have v:k 0=[]:=by rw[s];rfl
 refine⟨f 0,f J,h J,k J,g J,E,?_,d J,F,(by
  rw[bM0,m,<-JA (m:=n) (by lia) (by lia),<-Yz,List.take_left' (by rw[aY,Ov];lia)]),(by
  rw[m,TV (by lia),<-JA (m:=n) (by lia) (by lia),<-Yz,<-Yz]
  exact bHk _ _ _ _<|by rw[aY,Ov];lia)⟩
 rwa [z,v]at K
end
section
variable{S:be}{rk:am}{c:Nat}{q:Nat}
def Ĵ:lY "Machine" "ranks" (mD S rk c)=.ok (.lst<|da rk):=by unfold mD;rw[xv,aD rfl];rfl
def bPw{r:Nat}(h:r<rk.length):Tc (da rk) (r:Int)=some (.int<|rk.getD r 0):=by
 rw[Jb (by rwa [aY])]
 simp[da,List.getElem?_eq_getElem h]
def XE(rk:am):D->D
 |.int i=>.int<|rk.getD i.toNat 0
 |d=>d
def bM4(l:am):(da l).map (XE rk)=(l.map λr=>((rk.getD r 0:Nat):Int)).map D.int:=by
 unfold da;simp[XE]
def bM5(h:l≠[]):Sk (.lst<|(da l).map<|XE rk)=.ok (.int<|mx rk l):=by
 rw[bM4];unfold Sk;simp only[iJ,bD];rw[aD (by rw[lc];exact Oq.mpr h)]
 rfl
theorem bHl{b t:am}{J:Nat}(a:1<=t.length)(hi:i<J)(e:fw S (lt b t) q (b.length+i*t.length)=fw S (lt b t) q (b.length+J*t.length)):Lp S (lt b t) q (b.length+i*t.length) (b.length+J*t.length):=by
 have f:i*t.length+(J-i)*t.length=J*t.length:=by rw[<-Nat.add_mul];congr 1;lia
 have d:1*1<=(J-i)*t.length:=Bu (by lia) a
 refine⟨by lia,λn c=>?_,e⟩
 rw[show b.length+J*t.length-(b.length+i*t.length)=(J-i)*t.length by lia]
 exact HI (by lia) _
end
section
def bHm(a:q<S.length):fW [mD S rk c,.int q]=.ok .Bb:=by
 exact bLu rfl<|jH (iH<|aO (aV rfl<|aV Wz rfl)<|JU a) rfl
theorem bHn(M:La S rk c)(p:q<S.length){b t:am}(m:Ue c b)(o:Ue c t)(l:1<=t.length)(k:t.length<=10000)(bl:b.length<=10000):∃i J,i<J/\J<=S.length/\fw S (lt b t) q (b.length+i*t.length)=fw S (lt b t) q (b.length+J*t.length)/\(∀j,j<J->∀i,i<j->fw S (lt b t) q (b.length+i*t.length)≠fw S (lt b t) q (b.length+j*t.length))/\
  lM [mD S rk c,.tup [.str b,.str t],.int q]=.ok (.tup [.lst<|da<|Dd S (lt b t) q 0<|b.length+i*t.length,.lst<|da<|Dd S (lt b t) q (b.length+i*t.length)<|b.length+J*t.length]):=by
 obtain⟨i,J,y,z,e,x,B,h,d,f,g,A,w,a,u,s,r⟩:=ĳ M p m o l k bl;refine⟨i,J,y,z,e,x,?_⟩;generalize b.length+i*t.length=n at u s r ⊢;refine bV rfl<|cX (by
  unfold HL;rw[xP rfl rfl (by decide)]
  show (fW [mD S rk c,.int q]).bind _=_;rw[bHm p];rfl)<|cX (jH (iH<|aO (aV rfl<|aV Â rfl)<|ó M m o l k bl) rfl)<|aL (uA (by
  rwa [xP rfl (aV rfl<|aV (aG rfl rfl rfl) rfl) (by decide)]))<|aL rfl<|aL w<|aL (st':=[mD S rk c,D.tup [.str b,.str t],q,some<|.o .l h,some<|.o (.d false d) f,n]) (bT<|aG rfl (aG rfl rfl<|iC a) (by
  show aU (Lb false (.int g)=true) (Jg<|wY d f<|.int g)=_;rw[aD (c:=Lb false (.int g)=true) rfl,u];rfl))<|cT ?_
 have s1:Ck (dX 3) wq (uR<|aA 5) [mD S rk c,D.tup [.str b,.str t],q,some<|.o .l h,some<|.o (.d false d) f,n]=.ok (.lst<|da<|Dd S (lt b t) q 0 n):=by rw[<-s];rfl
 have v:Ck (dX 3) (uR<|aA 5) (uR<|e1 Vi<|eI 1) [mD S rk c,D.tup [.str b,.str t],q,some<|.o .l h,some<|.o (.d false d) f,n]=.ok (.lst<|da<|Dd S (lt b t) q n<|b.length+J*t.length):=by rw[<-r];rfl
 show R.bind (aB _ (aB _ aK) _) _=_;rw[aV s1<|aV v rfl,bD];exact aD<|dO<|by show 2<=_;lia
theorem II(M:La S rk c)(o:q<S.length){b t:am}(j:Ue c b)(k:Ue c t)(f:1<=t.length)(h:t.length<=10000)(bl:b.length<=10000):∃v,Ev S rk (lt b t) q v/\jG [mD S rk c,.tup [.str b,.str t],.int q]=.ok (.bl v):=by
 obtain⟨i,J,s,x,e,_,m⟩:=bHn M o j k f h bl;have L:=bHl f s e;have y:=M.most;have z:J*t.length<=8*10000:=Bu (by lia) h
 have w:(Dd S (lt b t) q (b.length+i*t.length)<|b.length+J*t.length).length<=1000000:=by rw[Ov];omega
 have a:∀r∈Dd S (lt b t) q (b.length+i*t.length) (b.length+J*t.length),r<rk.length:=λr g=>by
  obtain⟨n,_,_,rfl⟩:=uB.mp g;rw[M.Qp];exact(To M (oB j k f) o) n
 have p:=qB (S:=S) (f:=lt b t) (q:=q) L.lt;refine⟨decide (mx rk (Dd S (lt b t) q (b.length+i*t.length)<|b.length+J*t.length)%2=0),⟨_,_,L,rfl⟩,?_⟩;generalize Dd S (lt b t) q (b.length+i*t.length) (b.length+J*t.length)=l at m w a p;exact bV rfl<|aL (bT<|aG ((xP rfl rfl<|by decide).trans m) rfl rfl)<|cT<|aG (aG (by
  show R.bind (cL [4] (Ya 4) (xc<|aA 3) dG xO [mD S rk c,D.tup [.str b,.str t],q,D.lst<|da l,none]) _=_;rw[fH (mX rfl) (by rwa [aY]) (uM (XE rk) _ λd u=>by
   obtain⟨r,g,rfl⟩:=pM u;exact⟨_,rfl,rfl,aG Ĵ rfl<|iC<|bPw<|a r g⟩)]
  exact bM5 p) rfl<|vA<|by decide) rfl<|oM _ _
end
def jk(u v:am):Prop:=u.length<v.length\/(u.length=v.length/\u<v)
theorem C2:∀{u v:am}(a b:Nat),u.length=v.length->u<v->u++[a] < v++[b]
 |[],[],_,_,_,h=>absurd h<|List.lt_irrefl _
 |[],_::_,_,_,h,_=>by simp at h
 |_::_,[],_,_,h,_=>by simp at h
 |x::u,y::v,a,b,h,e=>by
  rw[Hu,Hu,BD];rcases BD.mp e with c|⟨c,d⟩
  .exact .inl c
  exact .inr ⟨c,C2 a b (by simpa using h) d⟩
theorem NY:∀(u:am){a b:Nat},a<b->u++[a] < u++[b]
 |[],a,b,h=>by
  show [a] < [b];rw[BD];exact .inl h
 |x::u,a,b,h=>by
  rw[Hu,Hu,BD];exact .inr ⟨rfl,NY u h⟩
theorem OY{u v:am}(a b:Nat)(h:jk u v):jk (u++[a]) (v++[b]):=by
 rcases h with h|⟨d,c⟩
 .exact .inl (by simp_all)
 exact .inr ⟨by simp_all,C2 a b d c⟩
def bCn(u:am){a b:Nat}(h:a<b):jk (u++[a]) (u++[b]):=.inr ⟨by simp,NY u h⟩
def bHo(u:am)(a:Nat):jk [] (u++[a]):=.inl (by simp)
theorem Nz(S:be):∀(x:am)(q ch:Nat),pO S q (x++[ch])=Bc S (pO S q x) (ch-97)
 |[],_,_=>rfl
 |y::x,q,ch=>Nz S x _ ch
def xp(al:sK)(a:lf)(g:Nat)(w:am):lf:=if al g=true/\g∉a.map (·.1) then a++[(g,w)] else a
structure BM(S:be)(s c:Nat)(al:sK)(p j:Nat)(qa:lf):Prop where
 nd:(qa.map (·.1)).Nodup
 hd:qa[0]?=some (s,[])
 lt:∀x∈qa,x.1<S.length/\pO S s x.2=x.1/\Ue c x.2
 ak:∀(k:Nat)(x:sw),qa[k]?=some x->1<=k->al x.1=true/\∃q y ch,qa[q]?=some y/\x.2=y.2++[ch]/\(q<p\/(q=p/\ch<97+j))
 ord:∀(i k:Nat)(x y:sw),qa[i]?=some x->qa[k]?=some y->i<k->jk x.2 y.2
 cls:∀(i:Nat)(x:sw)(l:Nat),qa[i]?=some x->l<c->(i<p\/(i=p/\l<j))->al (Bc S x.1 l)=true->∃y∈qa,y.1=Bc S x.1 l/\(y.2=x.2++[97+l]\/jk y.2 (x.2++[97+l]))
section
variable{S:be}{rk:am}{s c p j:Nat}{al:sK}{qa:lf}
theorem BM.start(hs:s<S.length):BM S s c al 0 0 [(s,[])] where
 nd:=by simp
 hd:=rfl
 lt:=λx a=>by rw[Fe.mp a];exact⟨hs,rfl,λ_ h=>nomatch h⟩
 ak:=λk x e h=>by
  have:k<1:=(pe.mp e).1;lia
 ord:=λi k x y e1 e2 h=>by
  have:k<1:=(pe.mp e2).1;lia
 cls:=λi x l _ _ h=>by lia
theorem BM.next(b:BM S s c al p c qa):BM S s c al (p+1) 0 qa where
 nd:=b.nd
 hd:=b.hd
 lt:=b.lt
 ak:=λk x e h=>by
  obtain⟨j,q,y,ch,g,f,m⟩:=b.ak k x e h;exact⟨j,q,y,ch,g,f,.inl<|by lia⟩
 ord:=b.ord
 cls:=λi x l e a h d=>b.cls i x l e a (by lia) d
theorem BM.below(b:BM S s c al p j qa){x y:sw}{k:Nat}(f:qa[p]?=some x)(d:qa[k]?=some y):jk y.2 (x.2++[97+j]):=by
 by_cases g:k=0
 .subst g;rw[b.hd]at d;cases d;exact bHo _ _
 obtain⟨_,q,z,ch,e,h,a⟩:=b.ak k y d (by lia)
 rw[h];rcases a with a|⟨rfl,a⟩
 .exact OY _ _ (b.ord q p z x e f a)
 rw[f]at e;cases e;exact bCn _ a
theorem BM.turn(M:La S rk c)(b:BM S s c al p j qa){x:sw}(g:qa[p]?=some x)(F:j<c):BM S s c al p (j+1) (xp al qa (Bc S x.1 j)<|x.2++[97+j]):=by
 obtain⟨E,D,C⟩:=b.lt x<|xi g;unfold xp
 by_cases n:al (Bc S x.1 j)=true/\Bc S x.1 j∉qa.map (·.1)
 .rw[Ka n];have f:∀{k:Nat}{y:sw},qa[k]?=some y->(qa++[(Bc S x.1 j,x.2++[97+j])])[k]?=some y:=λ{k y} e=>by
   rwa [Yk (pe.mp e).1]
  have d:∀{k:Nat}{y:sw},(qa++[(Bc S x.1 j,x.2++[97+j])])[k]?=some y->qa[k]?=some y\/(k=qa.length/\y=(Bc S x.1 j,x.2++[97+j])):=λ{k y} e=>by
   by_cases u:k<qa.length
   .rw[Yk u]at e;exact .inl e
   have t:=(pe.mp e).1;rw[ef,Yi]at t;have:k=qa.length:=by lia
   subst this;simp at e;exact .inr ⟨rfl,e.symm⟩
  have B:∀{k:Nat}{y:sw},qa[k]?=some y->k<qa.length:=λe=>(pe.mp e).1
  refine⟨?_,f b.hd,λy hy=>?_,λk y e h=>?_,λi k y z e1 e2 h=>?_,λi y l e hl h ha=>?_⟩
  .rw[Zi,Im];refine⟨b.nd,by simp,λa ha H hb=>?_⟩
   rw[OM,Fe]at hb;rw[hb];show a≠Bc S x.1 j;exact λz=>n.2 (by rwa [<-z])
  .rcases wg.mp hy with hy|hy
   .exact b.lt y hy
   rw[Fe.mp hy];refine⟨(by obtain⟨_,_,_,h⟩:=VJ M E F;exact h),?_,λch Gi=>?_⟩
   .show pO S s (x.2++[97+j])=_;rw[Nz,D,show 97+j-97=j by lia]
   rcases wg.mp Gi with h|h
   .exact C ch h
   rw[Fe.mp h];constructor<;>lia
  .rcases d e with e|⟨rfl,rfl⟩
   .obtain⟨w,q,z,ch,r,o,v⟩:=b.ak k y e h;exact⟨w,q,z,ch,f r,o,v.imp id λh=>⟨h.1,by lia⟩⟩
   exact⟨n.1,p,x,97+j,f g,rfl,.inr ⟨rfl,by lia⟩⟩
  .rcases d e2 with e2|⟨rfl,rfl⟩
   .rcases d e1 with e1|⟨rfl,_⟩
    .exact b.ord i k y z e1 e2 h
    have:=B e2;lia
   rcases d e1 with e1|⟨rfl,_⟩
   .exact b.below g e1
   lia
  rcases d e with A|⟨rfl,rfl⟩
  .by_cases m:i=p/\l=j
   .obtain⟨rfl,rfl⟩:=m;rw[g]at A;cases A;exact⟨_,se _<|Fe.mpr rfl,rfl,.inl rfl⟩
   obtain⟨z,r,o⟩:=b.cls i y l A hl (by lia) ha
   exact⟨z,Ke _ r,o⟩
  have:=B g;lia
 rw[Ea n];refine⟨b.nd,b.hd,b.lt,λk y e h=>?_,b.ord,λi y l e hl h ha=>?_⟩
 .obtain⟨w,q,z,ch,r,o,v⟩:=b.ak k y e h;exact⟨w,q,z,ch,r,o,v.imp id λh=>⟨h.1,by lia⟩⟩
 by_cases m:i=p/\l=j
 .obtain⟨rfl,rfl⟩:=m;rw[g]at e;cases e;obtain⟨y,hy,G⟩:=Zc.mp (si λz=>n ⟨ha,z⟩)
  obtain⟨k,u⟩:=xk.mp hy;exact⟨y,hy,G,.inr<|b.below g u⟩
 exact b.cls i y l e hl (by lia) ha
def BM.len(b:BM S s c al p j qa):qa.length<=S.length:=by
 have a:∀x∈qa.map (·.1),x∈List.range S.length:=λx d=>by
  obtain⟨y,e,rfl⟩:=Zc.mp d;exact Ff.mpr (b.lt y e).1
 have:=kI S.length _ b.nd λx d=>Ff.mp<|a x d
 rwa [lc]at this
noncomputable def kD(a:lf):im:=a.map λx=>D.int (x.1:Nat)
def Ft(a:lf):(kD a).length=a.length:=by unfold kD;simp
def WJ(a:lf)(g:Nat)(w:am):kD (a++[(g,w)])=kD a++[.int g]:=by unfold kD;simp
def L4{k:Nat}{x:sw}(h:qa[k]?=some x):Tc (kD qa) (k:Int)=some (.int x.1):=by
 have a:=(pe.mp h).1;rw[Jb (by rwa [Ft])]
 unfold kD;rw[ZM,(pe.mp h).2]
def E2{g:Nat}{w:am}{k:Nat}{x:sw}(h:qa[k]?=some x):(xp al qa g w)[k]?=some x:=by
 unfold xp;split
 .rwa [Yk (pe.mp h).1]
 exact h
theorem XJ(g:Nat)(a:lf):qD (kD a) (.int g)=decide (g∈a.map (·.1)):=by
 unfold qD kD;rw[Kx]
 by_cases h:g∈a.map (·.1)
 .rw[Cc h,zu];obtain⟨x,b,e⟩:=Zc.mp h;exact⟨x,b,by simp[Oe,e]⟩
 rw[Qc h,ID];intro x b;have:¬ (x.1)=(g:Int):=λz=>h<|Zc.mpr ⟨x,b,by lia⟩
 simp[Oe,this]
def PY(a:lf):kD a=da (a.map (·.1)):=by
 unfold kD da;rw[xg];rfl
end
noncomputable def wD(a:lf):im:=a.map λx=>D.str x.2
theorem F2(c:(qa.map (·.1)).Nodup){x:sw}(b:x∈qa):wY (kD qa) (wD qa) (.int x.1)=some (.str x.2):=by
 unfold wY kD wD;rw[BN,List.find?_map];have:qa.find? ((λp:D×D=>Oe p.1<|.int x.1) ∘ λa=>(D.int a.1,D.str a.2))=some x:=by
  induction qa with
  |nil=>cases b
  |cons y qa d=>
   rw[Ge,aj]at c;rcases Pb.mp b with rfl|b
   .simp[Oe]
   have:¬ (y.1:Int)=(x.1):=λz=>c.1<|Zc.mpr ⟨x,b,by lia⟩
   simp[Oe,beq_eq_false_iff_ne.mpr this];exact d c.2 b
 rw[this];rfl
section
variable{S:be}{rk:am}{s c p j:Nat}{al:sK}{qa:lf}
theorem BM.Js(b:BM S s c al p j qa):∀(k:Nat)(x:sw),qa[k]?=some x->x.2.length<=k:=by
 intro k
 induction k using strongRecOn with
 |ind k e=>
  intro x a
  by_cases g:k=0
  .subst g;rw[b.hd]at a;cases a;exact Cb _
  obtain⟨_,q,y,ch,d,l,_⟩:=b.ak k x a (by lia)
  have m:x.2.length=y.2.length+1:=by rw[l];simp
  have f:q<k:=by
   rcases WM q k with h|h|h
   .exact h
   .simp_all
   rcases b.ord k q x y a d h with i|⟨i,_⟩ <;> lia
  have:=e q f y d;lia
noncomputable def Ui(S:be)(s:Nat)(e:am)(a:lf)(p:Nat)(d c b:li):xa:=
 [some<|.v<|.lst<|Va S,some<|.v<|.int s,some<|.v<|.lst<|da e,some<|.o (.d false<|kD a)<|wD a,some<|.o .l<|kD a,some<|.v<|.int p,d,c,b]
def bM6(a:lf):(wD a).length=a.length:=by unfold wD;simp
def bM7(a:lf)(g:Nat)(w:am):wD (a++[(g,w)])=wD a++[.str w]:=by unfold wD;simp
theorem ĵ(M:La S rk c)(a:am)(b:BM S s c (λg=>decide (g∈a)) p j qa){x:sw}(d:qa[p]?=some x)(ch g:Nat) :
  rB (Ui S s a qa p x.1 (D.str [ch]) g)=.ok (.nx<|Ui S s a (xp (λg=>decide (g∈a)) qa g<|x.2++[ch]) p x.1 (D.str [ch]) g):=by
 have r:=M.most;have w:=b.len;have u:=b.Js p x d;have v:=(pe.mp d).1;obtain⟨m,l,_⟩:=eY a;have k:e2 Qn (aA 8) (aA 2) (Ui S s a qa p x.1 (D.str [ch]) g)=.ok (.bl<|decide (g∈a)):=aG rfl rfl (by rw[<-yP];exact aD ⟨by rw[l];decide,rfl,m⟩)
 have i:e2 jT (aA 8) (dX 3) (Ui S s a qa p x.1 (D.str [ch]) g)=.ok (.bl (!decide (g∈qa.map (·.1)))):=aG rfl rfl (by rw[<-XJ];exact aD rfl)
 have t:=sU k λ_=>i
 unfold xp
 by_cases h:decide (g∈a)=true/\g∉qa.map (·.1)
 .rw[Ka h];rw[h.1,Qc h.2]at t;have f:qD (kD qa) (.int g)=false:=by rw[XJ,Qc h.2]
  have q:uP (kD qa) (.int g)=kD (qa++[(g,x.2++[ch])]):=by
   unfold uP;rw[f,WJ];rfl
  have o:uQ (kD qa) (wD qa) (.int g) (.str<|x.2++[ch])=wD (qa++[(g,x.2++[ch])]):=by
   unfold uQ;rw[f,bM7];rfl
  refine zh t<|aL (st':=[D.lst<|Va S,s,D.lst<|da a,some<|.o (.d false<|kD<|qa++[(g,x.2++[ch])])<|wD<|qa++[(g,x.2++[ch])],some<|.o .l<|kD qa,p,x.1,D.str [ch],g]) ?_ ?_
  .have e:e2 lE (e2 Ta (dX 3)<|aA 6) (aA 7) (Ui S s a qa p x.1 (D.str [ch]) g)=.ok (.str<|x.2++[ch]):=by
    refine aG (x:=.str x.2) (aG rfl rfl ?_) rfl<|aD<|dO<|by show x.2.length+1<=_;lia
    show aU (Lb false (.int x.1)=true) (Jg<|wY (kD qa) (wD qa)<|.int x.1)=_;rw[aD (c:=Lb false (.int x.1)=true) rfl,F2 b.nd<|xi d];rfl
   unfold ze;rw[e,<-q,<-o];exact aD ⟨rfl,Bt<|by rw[bM6];lia⟩
  rw[Fo rfl rfl (by rw[Ft];lia),<-WJ qa g (x.2++[ch])]
  rfl
 rw[Ea h];refine jH (oZ t ?_) rfl;cases n:decide (g∈a) with
 |false=>rfl
 |true=>rw[Cc<|si λz=>h ⟨n,z⟩];rfl
theorem ZS(M:La S rk c)(d:am):∀(m j:Nat) (a:lf) (k i:li) (x:sw),j+m=c->BM S s c (λg=>decide (g∈d)) p j a->a[p]?=some x->
  ∃h o n,Eb (uk [7,8]) rB ((List.range' j m).map λl=>D.tup [.str [97+l],.int<|Bc S x.1 l]) (Ui S s d a p x.1 k i)=.ok (.nx<|Ui S s d h p x.1 o n)/\BM S s c (λg=>decide (g∈d)) p c h/\h[p]?=some x
 |0,j,a,k,i,x,q,b,f=>⟨a,k,i,rfl,by simp_all,f⟩
 |m+1,j,a,k,i,x,q,b,f=>by
  obtain⟨h,o,n,e,r,t⟩:=ZS M d m (j+1) _ _ _ x (by lia) (b.turn M f<|by lia)<|E2 f
  refine⟨h,o,n,?_,r,t⟩;show (rB<|Ui S s d a p _ _ _).bind _=_
  rwa [ĵ M d b f]
theorem bHp(M:La S rk c){h:Nat}(g:h<S.length):Zw [97,98,99] (da S[h])=(List.range' 0 c).map λl=>D.tup [.str [97+l],.int<|Bc S h l]:=by
 have f:=(M.row S[h] (Fh g)).1;have e:∀l,Bc S h l=S[h].getD l 0:=λl=>by simp[Bc,List.getElem?_eq_getElem g]
 have j:=M.c1;have i:=M.c3;simp only[e];generalize S[h]=r at f
 match r,f with
 |[],f=>simp at f;lia
 |[a],f=>subst f;rfl
 |[a,b],f=>subst f;rfl
 |[a,b,d],f=>subst f;rfl
 |_::_::_::_::r,f=>simp at f;lia
theorem aT(M:La S rk c)(i:am):∀(m p:Nat) (d:lf) (n l k:li) (f:Nat),S.length+1<=m+p->m<=f->BM S s c (λg=>decide (g∈i)) p 0 d->p<=d.length->
  ∃j t r q,lH wJ dS f (Ui S s i d p n l k)=.ok (.nx<|Ui S s i j j.length t r q)/\BM S s c (λg=>decide (g∈i)) j.length 0 j
 |0,p,d,n,l,k,f,A,B,b,z=>by have:=b.len;lia
 |m+1,p,d,n,l,k,f,A,B,b,z=>by
  obtain⟨f,rfl⟩:∃g,f=g+1:=⟨f-1,by lia⟩
  have a:wJ (Ui S s i d p n l k)=.ok _:=aG rfl rfl rfl;rw[Ft]at a
  by_cases h:p<d.length
  .have o:=md h;generalize d[p]=x at o;obtain⟨u,_,_⟩:=b.lt x<|xi o;obtain⟨j,r,q,e,E,F⟩:=ZS M i c 0 d l k x (by lia) b o
   have H:=(pe.mp F).1;obtain⟨G,y,w,v,C,D⟩:=aT M i m (p+1) j _ r q f (by lia) (by lia) E.next (by lia)
   refine⟨G,y,w,v,LH (oZ a<|ML h) (aL (bT<|aG rfl rfl<|iC<|L4 o)<|aL (st':=Ui S s i j p x.1 r q) (iB (xs:=Zw [97,98,99]<|da S[x.1]) ?_ ?_)<|bT rfl) C,D⟩
   .show ((e2 Ta (aA 0)<|aA 6) _).bind _=_;rw[aG rfl rfl<|iC<|Ho u];rfl
   rwa [bHp M u]
  have:p=d.length:=by lia
  subst this;exact⟨d,n,l,k,Mz<|oZ a<|NL h,b⟩
theorem QY(M:La S rk c){s:Nat}(hs:s<S.length)(d:am):∃a,lK [.lst<|Va S,.int s,.lst<|da d]=.ok (.Hd false (kD a)<|wD a)/\BM S s c (λg=>decide (g∈d)) a.length 0 a:=by
 have j:=M.most;obtain⟨a,i,h,f,e,b⟩:=aT M d (S.length+1) 0 [(s,[])] none none none 100000 (by lia) (by lia) (BM.start hs) (by simp)
 refine⟨a,bV rfl<|aL (st':=[D.lst<|Va S,s,D.lst<|da d,some<|.o (.d false<|kD [(s,[])])<|wD [(s,[])],none,none,none,none,none]) (by simp[UJ,LC,atom,kD,wD])<|aL (st':=[D.lst<|Va S,s,D.lst<|da d,some<|.o (.d false<|kD [(s,[])])<|wD [(s,[])],some<|.o .l<|kD [(s,[])],none,none,none,none]) (by simp[kD])<|aL (st':=Ui S s d [(s,[])] 0 none none none) (by simp[Ui])<|aL (by rwa [BU]) ?_,b⟩
 simp[Ui,Jp]
end
noncomputable def As(a:lf):im:=a.map λx=>D.tup [.int (x.1:Nat),.str x.2]
theorem G2:∀a:lf,List.zipWith (λk d=>D.tup [k,d]) (kD a) (wD a)=As a
 |[]=>rfl
 |x::l=>congrArg _<|G2 l
def bHq(a:lf):(As a).length=a.length:=by unfold As;rw[lc]
section
variable{S:be}{rk:am}{c:Nat}{qa:lf}
abbrev OL(S:be)(c:Nat)(a:lf):Prop:=BM S 0 c (λg=>decide (g∈List.range S.length)) a.length 0 a
theorem ô(M:La S rk c):∃a,kE [mD S rk c]=.ok (.lst<|As a)/\OL S c a:=by
 have f:=M.most;obtain⟨a,e,b⟩:=QY M ((M.one)) _;have g:=b.len;refine⟨a,bV rfl ?_,b⟩;have d:mH [mD S rk c,none]=.ok (.nx [mD S rk c,D.Hd false (kD a)<|wD a]):=by
  refine aL (bT<|aO (aV (mQ)<|aV rfl<|aV ?_ rfl) e) rfl;show R.bind (lY "Machine" "many"<|mD S rk c) Mv=_;rw[Wz,<-(show jU 0 S.length=da _ by rw[RF];rfl)]
  exact aD ⟨Kv (by lia),yJ<|by lia⟩
 show vV mH _ [some _,none]=_;unfold vV;rw[d];show R.bind (aU _ _) _=_;rw[aD<|dO<|by rw[Ft];lia,G2]
 rfl
theorem OL.wl(M:La S rk c)(b:OL S c qa){x:sw}(d:x∈qa):x.2.length<=8:=by
 obtain⟨k,a⟩:=xk.mp d;have h:=b.Js k x a;have g:=(pe.mp a).1;have f:=b.len;have e:=M.most;lia
end
def Wu(l:am):ol:=λb=>l.foldl (λb r=>b|||2^r) b
theorem RY(r:Nat):∀(l:am)(b:Nat),(Wu l b).testBit r=(b.testBit r||decide (r∈l))
 |[],b=>by simp[Wu]
 |x::l,b=>by
  show (Wu l _).testBit r=_;rw[RY r l];grind
def iW(l:am):Nat:=Wu l 0
def jJ(l:am)(r:Nat):(iW l).testBit r=decide (r∈l):=by
 unfold iW;rw[RY,Mx,Bool.false_or]
def SY{a:am}(h:∀r,r∈l↔r∈a):iW l=iW a:=ip λr=>by
 rw[jJ,jJ,Sq.mpr<|h r]
noncomputable def aQ(n:Nat):am:=(List.range<|vU n).filter λr=>n.testBit r
def ZV(h:vU n<=r):n.testBit r=false:=by
 unfold vU at h
 by_cases a:(n:Int)=0
 .simp_all
 rw[Ea a]at h;exact R6<|We ((Nat.log2_lt<|λz=>a<|by rw[z];rfl).mp<|Uq _)<|FD (by decide)<|by simpa using h
def aX:r∈aQ n↔n.testBit r=true:=by
 unfold aQ;rw[df,Ff];refine⟨λh=>h.2,λh=>⟨?_,h⟩⟩
 rcases Iu r _ with a|a
 .exact a
 rw[ZV a]at h;cases h
def jK(n:Nat):iW (aQ n)=n:=ip λr=>by
 rw[jJ];cases h:n.testBit r with
 |true=>exact Cc<|aX.mpr h
 |false=>exact Qc λz=>by rw[aX.mp z]at h;cases h
def uN:r∈aQ (iW l)↔r∈l:=by
 rw[aX,jJ,ii]
def cB{k:Nat}(h:n<2^k)(a:r∈aQ n):r<k:=by
 rw[aX]at a;rcases Iu r k with b|b
 .exact b
 rw[R6<|We h<|FD (by decide) b]at a
 cases a
theorem AW{k:Nat}(h:n<2^k):vU n<=k:=by
 unfold vU
 by_cases a:(n:Int)=0
 .simp_all
 rw[Ea a];have:=(Nat.log2_lt<|λz=>a<|by rw[z];rfl).mpr h
 rw[Int.natAbs_natCast];lia
@[simp] theorem bCr(i j:Int):Lj (.int i) (.int j)=aU (0<=j/\j<=1000000/\i.natAbs<18446744073709551616) (.ok<|.int<|i*2^j.toNat):=rfl
@[simp] theorem bPx(i j:Int):Wi (.int i) (.int j)=aU (0<=j) (.ok<|.int<|i/2^j.toNat):=rfl
@[simp] theorem bPy(i j:Int):yh (.int i) (.int j)=aU (0<=i/\0<=j) (.ok<|.int ((i.toNat&&&j.toNat:Nat):Int)):=rfl
@[simp] theorem bHr(i j:Int):Dl (.int i) (.int j)=aU (0<=i/\0<=j) (.ok<|.int ((i.toNat|||j.toNat:Nat):Int)):=rfl
@[simp] theorem bK6(i:Int):FA (.int i)=.ok (.int (vU i:Nat)):=rfl
theorem BW(n r:Nat):(((n:Int)/2^r).toNat&&&(1:Int).toNat)=if n.testBit r=true then 1 else 0:=by
 grind
theorem sq(n r:Nat):iU [.int n,.int r]=.ok (.bl<|n.testBit r):=by
 have b:=BW n r;have c:0<=(n:Int)/2^r:=Int.ediv_nonneg (by lia)<|Int.pow_nonneg<|by decide
 refine bV rfl ?_
 show cG _ [some _,some _]=_;have a:e2 yh (e2 Wi (aA 0)<|aA 1) (eI 1) [n,r]=.ok (.int<|(if n.testBit r=true then 1 else 0:Nat)):=by
  simp_all
 rw[yL,Ew,a];cases n.testBit r<;>simp
theorem fK{tg:Tg}{C E:Ex}{st:xa}{q:sK}{G:Nat->D}:∀(a:am),(∀k∈a,∃b,tg (.int k) st=.ok b/\C b=.ok (.bl<|q k)/\E b=.ok (G k))->jC tg C E st (da a)=.ok ((a.filter q).map G)
 |[],_=>rfl
 |k::a,h=>by
  obtain⟨b,e1,e2,f⟩:=h k zb;have d:=fK a λk c=>h k<|Ab _ c
  show jC tg C E st (.int k::da a)=_;rw[uT];cases e:q k with
  |true=>
   simp_all
  |false=>
   simp_all
def SF(n:Nat):jU 0 n=da (List.range n):=by
 rw[RF];rfl
theorem rZ{k:Nat}(h:n<2^k)(b:k<=2000):cQ [.int n]=.ok (.lst<|da<|aQ n):=by
 have c:=AW h;refine bV rfl ?_
 show cG _ [some _,none]=_;have a:tM (e1 FA<|aA 0) [some<|.v<|.int n,none]=.ok (da<|List.range<|vU n):=by
  simp[show ((vU n))<=(big:Int) from yJ (by lia)]
  exact SF _
 rw[yL,yv,a];simp only[bD,aY,length_range];rw[aD<|dO<|by lia,(fK (q:=λr=>n.testBit r) (G:=λr=>.int r) _<|λr _=>⟨_,rfl,by
  simp[qS,sq n r],by simp[pS]⟩)]
 rfl
theorem OU(a:li):∀(l:am)(b:Nat)(c:li),(∀r∈l,r<=1000000)->∃d,Eb (Ya 2) rP (da l) [a,b,c]=.ok (.nx [a,Wu l b,d])
 |[],b,c,_=>⟨c,rfl⟩
 |r::l,b,c,h=>by
  obtain⟨d,e⟩:=OU a l (b|||2^r) r λr f=>h r<|Ab _ f
  refine⟨d,?_⟩;have f:=h r zb;have i:((1:Int)*2^(r:Int).toNat)=((2^r:Nat)):=by simp
  have t:rP [a,b,r]=.ok (.nx [a,((b|||2^r:Nat)),r]):=by
   have g:e2 Lj (eC<|.int 1) (aA 2) [a,b,r]=.ok (.int<|(2^r:Nat)):=by
    simp only[Ew,G4,EA,bD,List.getElem?_cons_succ,List.getElem?_cons_zero];rw[bCr,aD ⟨by lia,(by lia),by decide⟩,i]
   unfold rP;rw[bH5,Ew,g];simp only[EA,bD,List.getElem?_cons_succ,List.getElem?_cons_zero];rw[bHr,aD ⟨MM _,MM _⟩,Du];rfl
  show (rP [a,b,r]).bind _=_
  rwa [t]
def KA{l:am}(h:∀r∈l,r<=1000000)(b:l.length<=1000000):mC [.lst<|da l]=.ok (.int<|iW l):=by
 obtain⟨a,e⟩:=OU _ l 0 none h;refine bV rfl<|aL (st':=[some _,some _,none]) rfl<|aL (st':=[some<|.v<|.lst<|da l,some<|.v _,a]) ?_ rfl
 rwa [bH6]
theorem FG{k:Nat}(h:n<2^k):(List.range k).filter (λr=>n.testBit r)=aQ n:=by
 have c:=AW h;unfold aQ;obtain⟨d,rfl⟩:∃d,k=vU n+d:=⟨k-vU n,by lia⟩
 have b:((List.range d).map (vU n + ·)).filter (λr=>n.testBit r)=[]:=ox.mpr λx a=>by
  obtain⟨y,_,rfl⟩:=Zc.mp a;rw[ZV<|il _ _];decide
 rw[List.range_add,List.filter_append,b,Hh]
inductive Fd (S:be) (c:Nat) (al:sK) (s:Nat):Nat->Prop where
 |here:Fd S c al s s
 |on {r l:Nat}:Fd S c al s r->l<c->al (Bc S r l)=true->Fd S c al s (Bc S r l)
def dR(n:Nat):(aQ n).Nodup:=List.nodup_range.filter _
theorem uC{l:am}{k:Nat}(h:∀r∈l,r<k):iW l<2^k:=Nat.lt_pow_two_of_testBit _ λr a=>by
 rw[jJ];exact Qc λz=>by have:=h r z;lia
open Classical in
noncomputable def iM(S:be)(c n r:Nat):Nat:=iW<|(List.range S.length).filter λg=>decide (Fd S c (λg=>n.testBit g) r g)
section
def Ht(M:La S rk c) {s g:Nat} (hs:s<S.length) (h:Fd S c al s g):g<S.length:=by
 induction h with
 |here=>exact hs
 |on _ b _ a=>obtain⟨_,_,_,h⟩:=VJ M a b;exact h
def jw{s g:Nat}(hs:al s=true)(h:Fd S c al s g):al g=true:=by
 cases h with
 |here=>exact hs
 |on _ _ a=>exact a
open Classical in
def kW(M:La S rk c){r:Nat}(a:r<S.length)(g:Nat):(iM S c n r).testBit g=true↔Fd S c (λg=>n.testBit g) r g:=by
 unfold iM;rw[jJ,ii,df,Ff,ii];exact⟨λh=>h.2,λh=>⟨Ht M a h,h⟩⟩
def zv:iM S c n r<2^S.length:=uC λg a=>Ff.mp (df.mp a).1
def OH(M:La S rk c){a b:Nat}(g:a<S.length):b∈S.getD a []↔∃l,l<c/\Bc S a l=b:=by
 have j:=(M.row S[a] (Fh g)).1;have f:S.getD a []=S[a]:=by rw[Xi,md g];rfl
 have e:∀l,Bc S a l=S[a].getD l 0:=λl=>by unfold Bc;rw[f]
 rw[f];constructor
 .intro h;obtain⟨l,d,rfl⟩:=su.mp h;exact⟨l,by omega,by rw[e,Xi,md d];rfl⟩
 .rintro⟨l,d,rfl⟩;have i:l<S[a].length:=by omega
  rw[e,Xi,md i];exact Fh i
def Fd.trans{a b d:Nat}(i:Fd S c al a b)(h:Fd S c al b d):Fd S c al a d:=by
 induction h with
 |here=>exact i
 |on _ f g e=>exact .on e f g
end
theorem J2(g:Nat)(l:am):Qn (.int g) (.lst<|da l)=.ok (.bl<|decide (g∈l)):=by
 obtain⟨a,b,_⟩:=eY l;rw[<-yP];exact aD ⟨by simp_all,rfl,a⟩
theorem YJ(h:n<=1000000):Lj (.int 1) (.int n)=.ok (.int ((2^n:Nat):Int)):=by
 have e:((2^n:Nat))=1*2^(n:Int).toNat:=by simp
 rw[e];exact aD ⟨by lia,by lia,by decide⟩
def bHs(a b:Nat):yh (.int a) (.int b)=.ok (.int ((a&&&b:Nat):Int)):=by
 simp
theorem Zz(g:Nat)(l:am):qD (da l) (.int g)=decide (g∈l):=by
 unfold qD da;rw[Kx]
 by_cases h:g∈l
 .rw[Cc h,zu];exact⟨g,h,by simp[Oe]⟩
 rw[Qc h,ID];intro x a;have:¬ (x:Int)=g:=λz=>h (by grind)
 simp[Oe,this]
theorem vB(V:Nat->D){g:Nat}:∀{l:am},g∈l->wY (da l) (l.map V) (.int g)=some (V g)
 |[],h=>nomatch h
 |x::l,h=>by
  show wY (.int x::da l) (V x::l.map V) _=_;unfold wY;rw[Fx,List.find?_cons]
  by_cases e:x=g
  .simp[Oe,e]
  have:¬ (x:Int)=g:=by lia
  simp only[Oe,beq_eq_false_iff_ne.mpr this];exact vB V<|(Pb.mp h).resolve_left λz=>e z.symm
def xQ(l:am)(x:Nat):da (l++[x])=da l++[.int x]:=by unfold da;simp
def Vs{a vs:im}{g:Nat} (h:wY a vs (.int g)=some d):Ta (.Hd false a vs) (.int g)=.ok d:=by
 show aU _ _=_;rw[aD (c:=Lb false _=true) rfl,h];rfl
section
variable {s p:Nat}
theorem BM.sound(b:BM S s c al p j qa):∀(k:Nat)(x:sw),qa[k]?=some x->Fd S c al s x.1:=by
 intro k
 induction k using strongRecOn with
 |ind k n=>
  intro x a
  by_cases o:k=0
  .subst o;rw[b.hd]at a;cases a;exact .here
  obtain⟨g,q,y,ch,f,d,_⟩:=b.ak k x a (by lia)
  have t:x.2.length=y.2.length+1:=by rw[d];simp
  obtain⟨_,m,l⟩:=b.lt x<|xi a;obtain⟨_,i,_⟩:=b.lt y<|xi f;have u:=l ch (by rw[d];simp)
  have e:x.1=Bc S y.1 (ch-97):=by rw[<-m,d,Nz,i]
  rw[e]at g ⊢;exact .on (n q (by
   rcases WM q k with h|h|h
   .exact h
   .lia
   rcases b.ord k q x y a f h with r|⟨r,_⟩ <;> lia) y f) (by lia) g
def BM.whole(b:BM S s c al qa.length 0 qa){g:Nat}:g∈qa.map (·.1)↔Fd S c al s g:=by
 constructor
 .intro h;obtain⟨x,d,rfl⟩:=Zc.mp h;obtain⟨k,a⟩:=xk.mp d;exact b.sound k x a
 intro h
 induction h with
 |here=>exact Zc.mpr ⟨_,xi b.hd,rfl⟩
 |on _ f i e=>
  obtain⟨x,d,rfl⟩:=Zc.mp e;obtain⟨k,a⟩:=xk.mp d;obtain⟨y,l,j,_⟩:=b.cls k x _ a f (.inl (pe.mp a).1) i;exact Zc.mpr ⟨y,l,j⟩
end
inductive Pw (B:At) (K:Go):Nat->Nat->Prop where
 |one {a b:Nat}:B a b->Pw B K a b
 |mid {a m b:Nat}:K m->Pw B K a m->Pw B K m b->Pw B K a b
theorem Pw.cut{B:At}{K g:Go}{k a b:Nat}(n:∀m,g m->K m\/m=k)(h:Pw B g a b):Pw B K a b\/(Pw B K a k/\Pw B K k b):=by
 induction h with
 |one h=>exact .inl<|.one h
 |mid c _ _ l f=>
  rename_i a m b _ _;rcases n m c with c|rfl
  .rcases l with x|⟨j,i⟩
   .rcases f with y|⟨e,d⟩
    .exact .inl (.mid c x y)
    exact .inr ⟨.mid c x e,d⟩
   rcases f with y|⟨e,d⟩
   .exact .inr ⟨j,.mid c i y⟩
   simp_all
  grind
def Pw.mono{B:At}{K c:Go}{a b:Nat}(g:∀m,K m->c m)(h:Pw B K a b):Pw B c a b:=by
 induction h with
 |one h=>exact .one h
 |mid f _ _ e d=>exact .mid (g _ f) e d
def pP(V:ol)(m:Nat):ol:=λr=>if (V r).testBit m=true then V r|||V m else V r
theorem TY{B:At}{R:Go}(o:∀a b,R a->B a b->R b):∀(d ds:am)(V:ol),(∀k∈d,R k)->(∀r,R r->∀g,(V r).testBit g=true↔Pw B (· ∈ ds) r g)->∀r,R r->∀g,((d.foldl pP V) r).testBit g=true↔Pw B (· ∈ ds++d) r g
 |[],ds,V,_,h,r,c,g=>by rw[Hh];exact h r c g
 |k::d,ds,V,l,h,r,c,g=>by
  have e:ds++k::d=(ds++[k])++d:=by simp
  rw[e];refine TY o d _ _ (λx n=>l x<|Ab _ n) (λr c g=>?_) r c g
  have i:∀{a b:Nat},Pw B _ a b->Pw B (· ∈ ds++[k]) a b:=λz=>z.mono λm f=>Ke _ f
  unfold pP
  by_cases j:(V r).testBit k=true
  .rw[Ka j,bE,or_eq_true,h r c g,h k (l k zb) g];constructor
   .rintro(z|z)
    .exact i z
    exact .mid (by simp) (i<|(h r c k).mp j)<|i z
   intro z;rcases z.cut (λm f=>by simpa using f) with y|⟨_,y⟩
   .exact .inl y
   exact .inr y
  rw[Ea j,h r c g];constructor
  .exact i
  intro z;rcases z.cut (λm f=>by simpa using f) with y|⟨y,_⟩
  .exact y
  exact absurd ((h r c k).mpr y) j
section
variable{S:be}{rk:am}{c n:Nat}
def tK(S:be)(n:Nat):ol:=λr=>(iW (S.getD r [])|||2^r)&&&n
def bCt{g:Nat}:(tK S n r).testBit g=true↔(r=g\/g∈S.getD r [])/\n.testBit g=true:=by
 unfold tK;rw[Nat.testBit_and,bE,jJ,Nat.testBit_two_pow,Lm,or_eq_true,ii,ii];exact⟨λh=>⟨h.1.symm,h.2⟩,λh=>⟨h.1.symm,h.2⟩⟩
def Ķ(M:La S rk c)(o:n<2^S.length) (e:r∈aQ n) (g:Nat):(((aQ n).foldl pP<|tK S n) r).testBit g=true↔Fd S c (λg=>n.testBit g) r g:=by
 have m:=TY (B:=λa b=>(a=b\/b∈S.getD a [])/\n.testBit b=true) (R:=(· ∈ aQ n)) (λa b _ h=>aX.mpr h.2) (aQ n) [] (tK S n) (λk u=>u) (λr _ g=>by
  rw[bCt];constructor
  .exact λh=>.one h
  .intro h;cases h with
   |one h=>exact h
   |mid h _ _=>cases h) r e g
 rw[m,Zq];clear m;constructor
 .intro h;have v:∀{a b:Nat},Pw (λa b=>(a=b\/b∈S.getD a [])/\n.testBit b=true) (· ∈ aQ n) a b->a∈aQ n->Fd S c (λg=>n.testBit g) a b:=by
   intro a b h
   induction h with
   |one h=>
    intro d;obtain⟨rfl|i,w⟩:=h
    .exact .here
    .obtain⟨l,f,rfl⟩:=(OH M<|cB o d).mp i;exact .on .here f w
   |mid t _ _ s q=>exact λd=>Fd.trans (s d)<|q t
  exact v h e
 .intro h
  induction h with
  |here=>exact .one ⟨.inl rfl,aX.mp e⟩
  |on i f d p=>
   have j:_∈aQ n:=aX.mpr<|jw (al:=λg=>n.testBit g) (aX.mp e) i
   exact .mid j p<|.one ⟨.inr<|(OH M<|cB o j).mpr ⟨_,f,rfl⟩,d⟩
def bCu(M:La S rk c)(d:n<2^S.length) (b:r∈aQ n):((aQ n).foldl pP<|tK S n) r=iM S c n r:=ip λg=>by
 have e:=(Ķ M d b g).trans (kW M (cB d b) g).symm;cases a:(((aQ n).foldl pP<|tK S n) r).testBit g with
 |true=>exact(e.mp a).symm
 |false=>
  cases f:(iM S c n r).testBit g with
  |true=>rw[e.mpr f]at a;cases a
  |false=>rfl
def UY(a b:Nat):Dl (.int a) (.int b)=.ok (.int ((a|||b:Nat):Int)):=by
 simp
noncomputable def Zh(S:be)(n:Nat)(a:am)(V:ol)(c b:li):xa:=[some<|.v<|.lst<|Va S,some<|.v<|.int n,some<|.v<|.lst<|da<|aQ n,some<|.o (.d false<|da a)<|a.map λr=>D.int (V r:Nat),c,b]
def JI{V:ol}{r:Nat}{x:D}(a:r∉ks):uP (da ks) (.int r)=da (ks++[r])/\uQ (da ks) (ks.map λr=>D.int (V r:Nat)) (.int r) x=(ks.map λr=>D.int (V r:Nat))++[x]:=by
 have b:qD (da ks) (.int r)=false:=by rw[Zz,Qc a]
 unfold uP uQ;rw[b,xQ];exact⟨rfl,rfl⟩
theorem VY{V:ol}{r x:Nat}(a:r∈ks):uP (da ks) (.int r)=da ks/\uQ (da ks) (ks.map λr=>D.int (V r:Nat)) (.int r) (.int x)=ks.map λk=>D.int ((if k=r then x else V k:Nat):Int):=by
 have b:qD (da ks) (.int r)=true:=by rw[Zz,Cc a]
 unfold uP uQ;rw[b];refine⟨rfl,?_⟩;unfold da;rw[BN,xg];refine yk λk _=>?_
 show (if Oe _ _=true then D.int x else D.int _)=_
 by_cases e:k=r
 .rw[Ka e,Ka (by rw[e];simp[Oe])]
 have:¬ (k:Int)=r:=by lia
 rw[Ea e,Ea (by simp[Oe,this])]
theorem KI{st:xa}{k:D}{a vs:im}(e:f st=.ok d)(c:g st=.ok k)(hs:st[i]?=some (some<|.o (.d false a) vs))(b:Lb false k=true)(h:vs.length<1000):ze i g f st=.ok (.nx<|st.set i<|some<|.o (.d false<|uP a k)<|uQ a vs k d):=by
 unfold ze;rw[e,c,hs];exact aD ⟨b,Bt<|by lia⟩
theorem PU(M:La S rk c):∀(b a:am)(d:li),(a++b).Nodup->(∀r∈a++b,r<S.length)->∃h,Eb (Ya 4) QR (da b) (Zh S n a (tK S n) d none)=.ok (.nx<|Zh S n (a++b) (tK S n) h none)
 |[],a,d,_,_=>⟨d,by rw[Hh];rfl⟩
 |r::b,a,d,f,g=>by
  have u:=M.most;have k:a++r::b=(a++[r])++b:=by simp
  rw[k]at f g;obtain⟨h,e⟩:=PU M b (a++[r]) r f g;refine⟨h,?_⟩;rw[k];have q:r∉a:=λz=>(Im.mp (Im.mp f).1).2.2 r z r (Fe.mpr rfl) rfl
  have j:r<S.length:=g r (by simp)
  have w:a.length<=S.length:=kI S.length a (Im.mp (Im.mp f).1).1 λx i=>g x (by simp[i])
  have s:S.getD r []=S[r]:=by rw[Xi,md j];rfl
  have l:=M.row S[r] (Fh j);have v:=M.c3;have t:=KA (l:=S[r]) (λx i=>by have:=l.2 x i;omega) (by rw[l.1];omega)
  obtain⟨o,m⟩:=JI (V:=tK S n) (x:=.int (tK S n r:Nat)) q;refine lN rfl (s2:=Zh S n (a++[r]) (tK S n) r none) ?_ e;have p:e2 yh (e2 Dl (aM mC<|aB (e2 Ta (aA 0)<|aA 4) aK)<|e2 Lj (eI 1)<|aA 4) (aA 1) (Zh S n a (tK S n) r none)=.ok (.int (tK S n r:Nat)):=by
   unfold tK;rw[s];exact aG (aG (aO (aV (aG rfl rfl<|iC<|Ho j) rfl) t) (aG rfl rfl<|YJ<|by omega)<|UY _ _) rfl<|bHs _ _
  refine(KI p rfl rfl rfl<|by rw[lc];omega).trans ?_
  rw[o,m];unfold Zh;rw[Zi];rfl
def ķ{V:ol} (h:ks.length<1000) (b:r∈ks) (g:m∈ks):uV (Zh S n ks V (some<|.v<|.int r)<|some<|.v<|.int m)=.ok (.nx<|Zh S n ks (λk=>if k=r then pP V m r else V k) (some<|.v<|.int r)<|some<|.v<|.int m):=by
 have c:e2 Ta (dX 3) (aA 4) (Zh S n ks V (some<|.v _)<|some<|.v<|.int m)=.ok _:=aG rfl rfl<|Vs<|vB _ b;have t:=aO (aV c<|show aB (aA 5) aK _=.ok [.int m] from rfl)<|sq (V r) m
 by_cases a:(V r).testBit m=true
 .rw[a]at t;obtain⟨f,d⟩:=VY b;refine zh t ((KI (aG c (aG rfl rfl<|Vs<|vB _ g)<|UY _ _) rfl rfl rfl<|by rw[lc];omega).trans ?_)
  rw[f,d];unfold pP;rw[Ka a];rfl
 rw[Bool.eq_false_iff.mpr a]at t;refine jH t ?_
 have:(λk=>if k=r then pP V m r else V k)=V:=funext λk=>by
  by_cases e:k=r
  .rw[Ka e,e];unfold pP;rw[Ea a]
  rw[Ea e]
 rw[this];rfl
theorem QU{c:am}{V:ol}{m:Nat}(t:c.length<1000)(s:m∈c):∀(b:am)(W:ol)(d:li),(∀r∈b,r∈c)->W m=V m->(∀r∈b,W r=V r\/W r=pP V m r)->∃f g,Eb (Ya 4) uV (da b) (Zh S n c W d m)=.ok (.nx<|Zh S n c f g m)/\∀r,f r=if r∈b then pP V m r else W r
 |[],W,d,_,_,_=>⟨W,d,rfl,λr=>by rw[Ea (by simp)]⟩
 |r::b,W,d,q,i,p=>by
  have l:pP W m r=pP V m r:=by
   rcases p r zb with h|h
   .unfold pP;rw[h,i]
   unfold pP at h ⊢;rw[h,i]
   by_cases o:(V r).testBit m=true
   .rw[Ka o]
    by_cases u:(V r|||V m).testBit m=true
    .rw[Ka u,Nat.or_assoc,Nat.or_self]
    rw[Ea u]
   rw[Ea o,Ea o]
  have j:pP V m m=V m:=by
   unfold pP;split
   .exact Nat.or_self _
   rfl
  obtain⟨f,g,e,h⟩:=QU t s b (λk=>if k=r then pP W m r else W k) r (λx a=>q x<|Ab _ a) (by
   by_cases e:m=r
   .rw[Ka e,l,<-e,j]
   rw[Ea e,i]) (λx a=>by
   by_cases e:x=r
   .rw[Ka e,l,e];exact .inr rfl
   rw[Ea e];exact p x<|Ab _ a)
  refine⟨f,g,lN rfl (ķ t (q r zb) s) e,λx=>?_⟩
  rw[h x]
  by_cases a:x∈b
  .rw[Ka a,Ka<|Ab _ a]
  rw[Ea a]
  by_cases e:x=r
  .rw[Ka e,Ka (by rw[e];exact zb),l,e]
  rw[Ea e,Ea (by simp[e,a])]
def fT{a:am}{V:ol}(h:∀k∈a,V k=W k):Zh S n a V x4 x5=Zh S n a W x4 x5:=by
 unfold Zh;rw[yk λk b=>congrArg (λx:Nat=>D.int x)<|h k b]
theorem RU(f:(aQ n).length<1000):∀(b:am)(V:ol)(a c:li),(∀m∈b,m∈aQ n)->∃o l,Eb (Ya 5) RR (da b) (Zh S n (aQ n) V a c)=.ok (.nx<|Zh S n (aQ n) (b.foldl pP V) o l)
 |[],V,a,c,_=>⟨a,c,rfl⟩
 |m::b,V,a,c,d=>by
  obtain⟨W,j,e,h⟩:=QU f (d m zb) _ V a (λr q=>q) rfl λr _=>.inl rfl
  obtain⟨i,g,t⟩:=RU f b _ j _ λx p=>d x<|Ab _ p
  refine⟨i,g,lN rfl (iB rfl e) ?_⟩
  rwa [fT λk s=>by rw[h k,Ka s]]
def CW(M:La S rk c)(a:n<2^S.length):mF [.lst<|Va S,.int n]=.ok (.Hd false (da<|aQ n)<|(aQ n).map λr=>D.int (iM S c n r:Nat)):=by
 have l:=M.most;have h:=rZ a (by omega)
 have o:(aQ n).length<=S.length:=kI S.length _ (dR _) λx d=>cB a d
 obtain⟨b,e1⟩:=PU (n:=n) M (aQ n) [] none (dR n) λr e=>cB a e
 obtain⟨j,i,e2⟩:=RU (S:=S) (n:=n) (by omega) (aQ n) (tK S n) b none λm f=>f
 refine bV rfl<|aL (st':=[D.lst<|Va S,n,D.lst<|da<|aQ n,none,none,none]) (bT<|aO rfl h)<|aL (st':=Zh S n [] (tK S n) none none) rfl<|aL (iB rfl e1)<|aL (iB rfl e2) ?_;rw[fT λk g=>bCu M a g]
 rfl
end
noncomputable def iG(S:be)(c n r:Nat):Nat:=iW<|(aQ<|iM S c n r).filter λg=>(iM S c n g).testBit r
def Ib(S:be)(m:Nat):Bool:=decide (1<(aQ m).length)||decide ((aQ m).headD 0∈S.getD ((aQ m).headD 0) [])
noncomputable def fX(S:be)(c n:Nat):am:=(aQ n).foldl (λa r=>if iG S c n r∉a/\Ib S (iG S c n r)=true then a++[iG S c n r] else a) []
section
variable{S:be}{rk:am}{c n:Nat}
def WY{n:Nat}:iG S c n r<2^S.length:=uC λg a=>cB zv (df.mp a).1
def bCv(M:La S rk c) (e:m<2^S.length) (j:m≠0):tR [.lst<|Va S,.int m]=.ok (.bl<|Ib S m):=by
 have k:=M.most;have f:=rZ e (by omega)
 obtain⟨r,T,a⟩:∃r T,aQ m=r::T:=by
  cases h:aQ m with
  |nil=>
   refine absurd ?_ j;have:=jK m;rw[h]at this;exact this.symm
  |cons r T=>exact⟨r,T,rfl⟩
 rw[a]at f;have d:r<S.length:=cB e (by rw[a];exact zb)
 refine bV rfl<|aL (st':=[D.lst<|Va S,m,D.lst<|da<|r::T]) (bT<|aO rfl f)<|cT ?_;have g:e1 dC (aA 2) [D.lst<|Va S,m,D.lst<|da<|r::T]=.ok (.int ((T.length+1:Nat):Int)):=by
  show R.ok (D.int (((da<|r::T).length:Nat):Int))=_;rw[aY];rfl
 have b:e2 Ta (aA 2) (eI 0) [D.lst<|Va S,m,D.lst<|da<|r::T]=.ok (.int r):=aG rfl rfl<|iC<|Jb (i:=0)<|by rw[aY];exact Nat.succ_pos _
 have i:S.getD r []=S[r]:=by rw[Xi,md d];rfl
 have t:=oY (aG g (rfl:eC (.int 1) _=_) (rfl:Eg _ _=_)) λ_=>aG b (aG (rfl:aA 0 _=.ok (.lst<|Va S)) b<|iC<|Ho d)<|J2 r S[r]
 refine oZ t ?_
 unfold Ib;rw[a];show (decide ((1:Int)<((T.length+1:Nat):Int))||decide (r∈S[r]))=(decide (1<T.length+1)||decide (r∈S.getD r []))
 rw[i];congr 1;exact Sq.mpr (by omega)
noncomputable def io(S:be)(c n:Nat)(ps:am)(b a:li):xa:=[some<|.v<|.lst<|Va S,some<|.v<|.int n,some<|.v<|.Hd false (da<|aQ n)<|(aQ n).map λr=>D.int (iM S c n r:Nat),some<|.o .l<|da ps,b,a,none]
def õ(M:La S rk c)(v:n<2^S.length) (e:r∈aQ n) (ps:am) (u:ps.length<=1000) (b:li):∃m,sJ (io S c n ps r b)=.ok (.nx<|io S c n (if iG S c n r∉ps/\Ib S (iG S c n r)=true then ps++[iG S c n r] else ps) r m):=by
 have F:=M.most;have l:=cB v e;have d:=aX.mp e;have C:=rZ (zv (S:=S) (c:=c) (n:=n) (r:=r)) (by omega)
 have f:∀g∈aQ (iM S c n r),g∈aQ n:=λg a=>aX.mpr<|jw (al:=λg=>n.testBit g) d<|(kW M l g).mp<|aX.mp a
 have k:∀{g:Nat},g∈aQ n->wY (da<|aQ n) ((aQ n).map λr=>D.int (iM S c n r:Nat)) (.int g)=some (.int (iM S c n g:Nat)):=λ{g} h=>vB (λr=>D.int (iM S c n r:Nat)) h
 have G:(aQ<|iM S c n r).length<=S.length:=kI S.length _ (dR _) λx s=>cB zv s
 have A:=fK (tg:=Ya 6) (C:=zR) (E:=zQ) (st:=io S c n ps r b) (q:=λg=>(iM S c n g).testBit r) (G:=λg=>.int g) (aQ<|iM S c n r)<|λg a=>⟨_,rfl,aO (aV (aG rfl rfl<|Vs<|k<|f g a) rfl)<|sq (iM S c n g) r,rfl⟩
 have w:xc (aM cQ<|aB (e2 Ta (aA 2)<|aA 4) aK) (io S c n ps r b)=.ok (da<|aQ<|iM S c n r):=mX<|aO (aV (aG rfl rfl<|Vs<|k e) rfl) C;have q:=fH (is:=[6]) w (by rw[aY];omega) A
 have i:mC [.lst<|da<|(aQ<|iM S c n r).filter λg=>(iM S c n g).testBit r]=.ok (.int<|iG S c n r):=KA (λg a=>by have:=cB zv (df.mp a).1;omega) (by have:=Ax (λg=>(iM S c n g).testBit r)<|aQ<|iM S c n r;omega)
 have B:iG S c n r≠0:=λz=>by
  have:(iG S c n r).testBit r=true:=by
   unfold iG;rw[jJ,ii,df];have j:(iM S c n r).testBit r=true:=(kW M l r).mpr .here;exact⟨aX.mpr j,j⟩
  rw[z,Mx]at this;cases this
 have E:=bCv M (WY (S:=S) (c:=c) (n:=n) (r:=r)) B;obtain⟨p,o,_⟩:=eY ps;refine⟨some<|.v<|.int<|iG S c n r,aL (st':=io S c n ps r<|iG S c n r) (bT<|aO (aV q rfl) i) ?_⟩;have t:=sU (st:=io S c n ps r<|iG S c n r) (aG (f:=aA 5) (g:=dX 3) rfl rfl<|show jT (.int<|iG S c n r) (.lst<|da ps)=.ok (.bl<|!decide (iG S c n r∈ps)) by rw[<-yP];exact aD ⟨by rw[o];exact He 60,rfl,p⟩) λ_=>aO (r:=aB (aA 0)<|aB (aA 5) aK) rfl E
 by_cases h:iG S c n r∉ps/\Ib S (iG S c n r)=true
 .rw[Ka h];refine zh (oZ t<|by rw[Qc h.1,h.2];rfl) ?_
  rw[Fo (xs:=da ps) (d:=.int<|iG S c n r) rfl rfl (by rw[aY];omega),<-xQ]
  rfl
 .rw[Ea h];refine jH (oZ t ?_) rfl;cases y:Ib S (iG S c n r) with
  |false=>rw[Bool.and_false]
  |true=>rw[Cc<|si λz=>h ⟨z,y⟩];rfl
theorem gT(M:La S rk c)(f:n<2^S.length):∀(a:am)(ps:am)(d b:li),(∀r∈a,r∈aQ n)->ps.length+a.length<=1000->∃j e,Eb (Ya 4) sJ (da a) (io S c n ps d b)=.ok (.nx<|io S c n (a.foldl (λps r=>if iG S c n r∉ps/\Ib S (iG S c n r)=true then ps++[iG S c n r] else ps) ps) j e)
 |[],ps,d,b,_,_=>⟨d,b,rfl⟩
 |r::a,ps,d,b,h,l=>by
  rw[ie]at l;obtain⟨e,e1⟩:=õ M f (h r zb) ps (by omega) b
  obtain⟨i,g,e2⟩:=gT M f a (if iG S c n r∉ps/\Ib S (iG S c n r)=true then ps++[iG S c n r] else ps) r e (λr k=>h r<|Ab _ k) (by
   split
   .rw[ef,Yi];omega
   .omega)
  exact⟨i,g,lN rfl e1 e2⟩
def Ä(M:La S rk c)(a:n<2^S.length):qY [.lst<|Va S,.int n]=.ok (.lst<|da<|fX S c n):=by
 have i:=M.most;have d:=rZ a (by omega)
 have j:(aQ n).length<=S.length:=kI S.length _ (dR _) λx b=>cB a b
 obtain⟨g,f,e⟩:=gT M a (aQ n) [] none none (λ_ h=>h) (by simp;omega)
 exact bV rfl<|aL (bT<|aO rfl<|CW M a)<|aL (st':=io S c n [] none none) (uA<|dZ rfl)<|aL (iB (mX<|aO rfl d) e) rfl
def PH(M:La S rk c)(a:n<2^S.length):mG [mD S rk c,.int n]=.ok (.lst<|da<|fX S c n):=
 bV rfl (cT<|aO (aV (mQ) rfl)<|Ä M a)
def yQ:lY "Machine" "ranks" (mD S rk c)=.ok (.lst<|da rk):=by unfold mD;rw[xv,aD rfl];rfl
theorem LA:∀(l m:am),nM (da l) (da m)=decide (l=m)
 |[],[]=>by simp[da,nM]
 |[],y::m=>by simp[da]
 |x::l,[]=>by simp[da]
 |x::l,y::m=>by
  rw[UG,UG];unfold nM;rw[LA l m]
  by_cases h:x=y
  .simp_all
  have:¬ (x:Int)=y:=by lia
  simp[qd,h,this]
def Fd.mono{d:sK}(m:∀g,al g=true->d g=true){a b:Nat}(h:Fd S c al a b):Fd S c d a b:=by
 induction h with
 |here=>exact .here
 |on _ f i e=>exact .on e f<|m _ i
def Bg(n:Nat):sK:=λg=>n.testBit g
def mi(S:be)(c n a b:Nat):Prop:=Fd S c (Bg n) a b/\Fd S c (Bg n) b a
def mR(M:La S rk c){g:Nat}(b:r<S.length):(iG S c n r).testBit g=true↔mi S c n r g:=by
 unfold iG;rw[jJ,ii,df,aX,kW M b];constructor
 .rintro⟨a,d⟩;exact⟨a,(kW M (Ht M b a) r).mp d⟩
 .rintro⟨a,d⟩;exact⟨a,(kW M (Ht M b a) r).mpr d⟩
def DW(M:La S rk c){g:Nat}(i:r<S.length)(h:Fd S c (Bg n) r g)(b:Fd S c (Bg n) g r):Fd S c (Bg<|iG S c n r) r g:=by
 induction h with
 |here=>exact .here
 |on j a d e=>
  rename_i y l;have f:Fd S c (Bg n) y r:=Fd.trans (.on .here a d) b;exact .on (e f) a<|(mR M i).mpr ⟨.on j a d,b⟩
def mi.symm{a b:Nat}(h:mi S c n a b):mi S c n b a:=⟨h.2,h.1⟩
theorem mi.trans{a b d:Nat}(f:mi S c n a b)(e:mi S c n b d):mi S c n a d:=⟨Fd.trans f.1 e.1,Fd.trans e.2 f.2⟩
def EW(M:La S rk c){g:Nat}(b:r<S.length)(h:mi S c n r g):iG S c n g=iG S c n r:=ip λx=>by
 have d:=Ht M b h.1;have e:(iG S c n g).testBit x=true↔(iG S c n r).testBit x=true:=by
  rw[mR M d,mR M b];exact⟨λz=>h.trans z,λz=>h.symm.trans z⟩
 cases a:(iG S c n g).testBit x with
 |true=>exact(e.mp a).symm
 |false=>
  cases f:(iG S c n r).testBit x with
  |true=>rw[e.mpr f]at a;cases a
  |false=>rfl
def Ec(S:be)(c n:Nat):Prop:=n≠0/\(∀a∈aQ n,∀b∈aQ n,Fd S c (Bg n) a b)/\Ib S n=true
theorem FW(f:ol)(q:sK):∀(a ps:am)(m:Nat),m∈a.foldl (λps r=>if f r∉ps/\q (f r)=true then ps++[f r] else ps) ps↔m∈ps\/∃r∈a,f r=m/\q m=true
 |[],ps,m=>by simp
 |r::a,ps,m=>by
  rw[Mm,FW f q a];grind
def xR:m∈fX S c n↔∃r∈aQ n,iG S c n r=m/\Ib S m=true:=by
 unfold fX;rw[FW (λr=>iG S c n r)<|Ib S]
 simp
theorem GW(f:ol)(q:sK)(m:Nat):∀(a:am),(∀r∈a,f r=m)->a.foldl (λps r=>if f r∉ps/\q (f r)=true then ps++[f r] else ps) [m]=[m]
 |[],_=>rfl
 |r::a,h=>by
  rw[Mm,Ea λz=>z.1 (by rw[h r zb];simp)]
  exact GW f q m a λr b=>h r<|Ab _ b
def bHt(M:La S rk c) (b:n<2^S.length) (a:r∈aQ n) {g:Nat} (d:g∈aQ (iG S c n r)):g∈aQ n:=by
 have h:=(mR M<|cB b a).mp<|aX.mp d;exact aX.mpr<|jw (al:=Bg n) (aX.mp a) h.1
def bCw(M:La S rk c) (b:n<2^S.length) (a:r∈aQ n):r∈aQ (iG S c n r):=aX.mpr<|(mR M<|cB b a).mpr ⟨.here,.here⟩
def ĸ(M:La S rk c)(k:n<2^S.length):fX S c n=[n]↔Ec S c n:=by
 constructor
 .intro h;have o:n∈fX S c n:=by rw[h];simp
  obtain⟨r,d,e,j⟩:=xR.mp o;have m:=cB k d;exact⟨(λz=>by rw[z]at d;cases d),λa q b p=>Fd.trans ((mR M m).mp<|by rw[e];exact aX.mp q).2 ((mR M m).mp<|by rw[e];exact aX.mp p).1,j⟩
 rintro⟨t,i,j⟩;have all:∀r∈aQ n,iG S c n r=n:=λr d=>ip λg=>by
  have e:(iG S c n r).testBit g=true↔n.testBit g=true:=by
   rw[mR M<|cB k d];constructor
   .exact λz=>jw (aX.mp d) z.1
   exact λz=>⟨i r d g<|aX.mpr z,i g (aX.mpr z) r d⟩
  cases f:(iG S c n r).testBit g with
  |true=>exact(e.mp f).symm
  |false=>
   cases s:n.testBit g with
   |true=>rw[e.mpr s]at f;cases f
   |false=>rfl
 unfold fX;cases h:aQ n with
 |nil=>
  refine absurd ?_ t;have:=jK n;rw[h]at this;exact this.symm
 |cons r T=>
  rw[h]at all;have l:=all r zb;rw[Mm,Ka ⟨by simp,by rwa [l]⟩,l,Zq]
  exact GW (λr=>iG S c n r) (Ib S) n T λr d=>all r<|Ab _ d
def Ĺ(M:La S rk c) (g:n<2^S.length) (f:r∈aQ n) (j:Ib S (iG S c n r)=true):Ec S c (iG S c n r):=by
 have d:=cB g f;refine⟨(λz=>by have:=bCw M g f;rw[z,aX,Mx]at this;cases this),λa ha b hb=>?_,j⟩
 have e:=(mR M d).mp<|aX.mp ha;have i:=(mR M d).mp<|aX.mp hb;have k:=Ht M d e.1;have h:=DW (n:=n) M k e.2 e.1;rw[EW M d e]at h;exact Fd.trans h<|DW M d i.1 i.2
def bHu(M:La S rk c){m:Nat}(j:n<2^S.length)(i:Ec S c m)(hs:∀g∈aQ m,g∈aQ n)(e:r∈aQ m):∀g∈aQ m,g∈aQ (iG S c n r):=λg d=>by
 have f:∀{a b:Nat},Fd S c (Bg m) a b->Fd S c (Bg n) a b:=λh=>Fd.mono (λg d=>aX.mp<|hs g<|aX.mpr d) h
 exact aX.mpr<|(mR M<|cB j<|hs r e).mpr ⟨f<|i.2.1 r e g d,f<|i.2.1 g d r e⟩
end
def LI{l:lv}(h:l≠[]):tQ l∈l/\∀x∈l,x<=tQ l:=by
 cases l with
 |nil=>exact(h rfl).elim
 |cons i r=>
  obtain⟨c,b,a⟩:=Jz r i;refine⟨?_,λx hx=>?_⟩
  .rcases a with a|a
   .show r.foldl _ i∈_;rw[a];exact zb
   exact Ab _ a
  rcases Pb.mp hx with rfl|hx
  .exact c
  exact b x hx
section
variable{S:be}{rk:am}{c n:Nat}
def fY(rk:am)(n:Nat):Int:=tQ<|(aQ n).map λr=>(rk.getD r 0:Int)
theorem K2(M:La S rk c)(a:n<2^S.length)(e:n≠0):uW [mD S rk c,.int n]=.ok (.int<|fY rk n):=by
 have t:=M.most;have v:=kI S.length _ (dR _) λx g=>cB a g
 have u:0<(aQ n).length:=by
  cases h:aQ n with
  |nil=>
   refine absurd ?_ e;have:=jK n;rw[h]at this;exact this.symm
  |cons r T=>simp
 have f:=uM (tg:=Ya 2) (c:=dG) (f:=tU) (st:=[some<|.v<|mD S rk c,some<|.v<|.int n,none]) (λd=>match d with|.int i=>.int (rk.getD i.toNat 0)|d=>d) (da<|aQ n) λd m=>by
  obtain⟨r,j,rfl⟩:=pM m;have p:r<rk.length:=by rw[M.Qp];exact cB a j
  have s:Tc (da rk) r=some (.int<|rk.getD r 0):=by
   rw[Jb (by rwa [aY])]
   simp[da,getD_eq_getElem?_getD,List.getElem?_eq_getElem p]
  refine⟨_,rfl,rfl,?_⟩;simp[tU,yQ,s]
 have q:(da<|aQ n).map (λd=>match d with|.int i=>D.int (rk.getD i.toNat 0)|d=>d)=((aQ n).map λr=>(rk.getD r 0:Int)).map D.int:=by
  unfold da;simp
 rw[q]at f;have o:cL [2] (Ya 2) (xc<|aM cQ<|aB (aA 1) aK) dG tU [some<|.v<|mD S rk c,some<|.v<|.int n,none]=.ok (.lst<|((aQ n).map λr=>(rk.getD r 0:Int)).map D.int):=by
  have l:xc (aM cQ<|aB (aA 1) aK) [some<|.v<|mD S rk c,some<|.v<|.int n,none]=.ok (da<|aQ n):=by simp[(rZ a<|by lia)]
  rw[yv,l];simp only[bD,aY];rw[aD<|dO<|by lia,show qf [2] [some<|Sl.v<|mD S rk c,some<|.v<|.int n,none]=[some<|.v<|mD S rk c,some<|.v<|.int n,none] from rfl,f]
  rfl
 refine bV rfl ?_
 unfold OS;have b:¬ n=0:=by lia
 refine cX (by simp[b,e]) ?_
 show cG _ [some<|.v<|mD S rk c,some<|.v<|.int n,none]=_;rw[yL,J4,o];have k:Sk (.lst<|((aQ n).map λr=>(rk.getD r 0:Int)).map D.int)=.ok (.int<|fY rk n):=by
  show (nP _).bind _=_;rw[iJ,bD,aD (by rwa [lc])]
  rfl
 rw[bD,k];rfl
end
section
def ö(M:La S rk c)(d:n<2^S.length):xG [mD S rk c,.int n]=.ok (.bl<|decide (fX S c n=[n])):=by
 obtain⟨b,a,_⟩:=eY<|fX S c n;refine bV rfl ?_
 unfold EU;have e1:[D.int n]=da [n]:=rfl;simp[(PH M d),b,a];rw[e1,(LA _ [n])]
def bHv(M:La S rk c)(a:n<2^S.length)(b:n≠0):kO [mD S rk c,.int n]=.ok (.bl<|decide (fY rk n%2=0)):=by
 have e:=K2 M a b;refine bV rfl ?_
 unfold DU
 by_cases h:fY rk n%2=0
 .simp[e,h]
 simp[e,h]
end
noncomputable def Ku(a:lv)(k:Nat):Int:=if k<a.length then a.getD k 0 else if a.length=0 then 7919*(k:Int) else a.getD (k%a.length) 0/((k:Int)+1)+7919*(k:Int)
def XY{k:Nat}(h:k<ns.length):Tc (ns.map D.int) (k:Int)=some (.int<|ns.getD k 0):=by
 rw[Jb (by simpa using h)]
 simp[List.getElem?_eq_getElem h]
theorem lT:∀a:lv,eO (a.map D.int)=true/\kY (a.map D.int)=0
 |[]=>⟨rfl,rfl⟩
 |x::a=>by
  obtain⟨c,b⟩:=lT a;simp_all
def bCy(a:lv):nM (a.map D.int) []=decide (a.length=0):=by
 cases a<;>simp
theorem bCz(a:lv)(k:Nat)(n:k<=100000):jO [.lst<|a.map D.int,.int k]=.ok (.int<|Ku a k):=by
 have c:e1 dC (aA 0) [D.lst<|a.map D.int,k]=.ok (.int a.length):=by
  show R.ok (D.int<|((a.map D.int).length))=_;rw[lc]
 have f:∀i:Int,rO (.int 7919) (.int i)=.ok (.int<|7919*i):=λi=>aD<|.inl<|by decide
 refine bV rfl ?_
 unfold Ku
 by_cases h:k<a.length
 .rw[Ka h];exact Eo<|zh (aG rfl c<|by show R.ok (D.bl<|decide ((k:Int)<a.length))=_;rw[ML h])<|cT<|aG rfl rfl<|iC<|XY h
 rw[Ea h];obtain⟨j,g⟩:=lT a;have d:e2 wc (aA 0) (gD aK) [D.lst<|a.map D.int,k]=.ok (.bl<|decide (a.length=0)):=aG rfl (dZ rfl) (by
  rw[<-bCy];exact aD ⟨by show kY (a.map D.int)+1<=64;rw[g];decide,j,rfl⟩)
 refine aL (jH (aG rfl c<|by show R.ok (D.bl<|decide ((k:Int)<a.length))=_;rw[NL h]) rfl) ?_
 by_cases b:a.length=0
 .rw[Ka b];exact Eo<|zh (oZ d<|Cc b)<|cT<|aG rfl rfl<|f _
 rw[Ea b];have l:k%a.length<a.length:=mod_lt _<|PM b;have m:((k%a.length))=k%a.length:=by push_cast;rfl
 have e:=XY l;rw[m]at e;exact aL (jH (oZ d<|Qc b) rfl)<|cT<|aG (aG (aG rfl (aG rfl c<|vA<|by lia)<|iC e) (aG rfl rfl rfl)<|GA ⟨by lia,by lia⟩) (aG rfl rfl<|f _) rfl
theorem VG(a:lv)(i:Int)(h:0<=i)(hi:i<=100000):jO [.lst<|a.map D.int,.int i]=.ok (.int<|Ku a i.toNat):=by
 have:=bCz a i.toNat (by lia)
 rwa [Au h]at this
noncomputable def xT(c k m:Int):Int:=
 let a:=(c%2147483647+7919*k)*48271%2147483629
 let b:=a*a%2147483647*69621%2147483587
 b*b%2147483629%m
theorem uD(c k:Int){m:Int}(h:0<m):0<=xT c k m/\xT c k m<m:=⟨Wq _ (by lia),Cu _ h⟩
theorem oA(c k m:Int)(h:0<m):cH [.int c,.int k,.int m]=.ok (.int<|xT c k m):=by
 unfold cH NS xT;have p:∀x:Int,0<=x%2147483629:=λx=>Wq _ (by decide)
 have o:∀x:Int,x%2147483629<2147483629:=λx=>Cu _ (by decide)
 have n:∀x:Int,0<=x%2147483587:=λx=>Wq _ (by decide)
 have l:∀x:Int,x%2147483587<2147483587:=λx=>Cu _ (by decide)
 generalize e:(c%2147483647+7919*k)*48271%2147483629=a;generalize d:a*a%2147483647*69621%2147483587=b;have j : -18446744073709551616<a:=by lia
 have i:a<18446744073709551616:=by lia
 have g : -18446744073709551616<b:=by lia
 have f:b<18446744073709551616:=by lia
 simp[e,j,i,d,g,f,h]
section
variable{ns:lv}{cl f:Int}{n c:Nat}
noncomputable def ki(e:lv)(mo g f:Int)(n c:Nat)(S rk:im)(a h d b:li):xa:=
 [some<|.v<|.lst<|e.map D.int,some<|.v<|.int 0,some<|.v<|.int mo,some<|.v<|.int g,some<|.v<|.int n,some<|.v<|.int c,some<|.v<|.int f,some<|.o .l S,some<|.o .l rk,a,h,d,b,none]
def bD0(r:am)(k v:Nat):(da r).set k (.int (v:Int))=da (r.set k v):=by
 unfold da;rw[List.map_set]
def bHw(S:be)(r:am):Va (S++[r])=Va S++[.lst<|da r]:=by unfold Va;simp
def ĺ(rk:am){v:Int}(h:0<=v):da (rk++[v.toNat])=da rk++[.int v]:=by
 unfold da;rw[Zi,OM,Au h]
theorem bHx{v f:Int}(b:0<=v)(a:v<7):rO (.int v) (.int f)=.ok (.int<|v*f):=aD<|.inl ⟨by lia,by lia⟩
theorem bM9{e:Ex}{st:xa} {j:Int} (he:e st=.ok d) (c:g st=.ok (.int j)) (hs:st[i]?=some (some<|.o .l xs)) (b:0<=j) (a:j<xs.length):Yw i g e st=.ok (.nx<|st.set i<|some<|.o .l<|xs.set j.toNat d):=by
 have:kg xs.length j=some j.toNat:=by
  unfold kg;rw[Ka b,Ka a]
 simp_all
theorem ø(mo:Int)(V:0<=f)(hn:1<=n/\n<=8)(hc:1<=c/\c<=3)(S:be)(rk:am)(hS:S.length<=1000)(NE:rk.length<=1000)(x:Nat)(hx:x<n)(Sm G F:li) :
  ∃r v j g e,lZ (ki ns mo cl f n c (Va S) (da rk) x Sm G F)=.ok (.nx<|ki ns mo cl f n c (Va<|S++[r]) (da<|rk++[v]) x j g e)/\r.length=c/\∀z∈r,z<n:=by
 have O:=VG ns (0+2+x) (by lia) (by lia)
 generalize Ku ns (0+2+(x:Int)).toNat=one at O;have m:(0:Int)<n:=by lia
 have M:(0:Int)<c:=by lia
 obtain⟨a,Z,I,N⟩:=GU (E:=xF) (st:=ki ns mo cl f n c (Va S) (da rk) x one G F) (j:=13) (v:=5) rfl (by lia)<|λk C=>⟨xT one (11+k) n,aO rfl<|oA _ _ _ m,uD _ _ m⟩
 have H:=oA one 10 7 (by decide)
 obtain⟨u,t⟩:=uD one 10 (m:=7) (by decide)
 generalize xT one 10 7=rv at H u t;obtain⟨r1,Y,Q,b1⟩:=GU (v:=5) (n:=c) rfl (by lia) (λk C=>by
  have E:∀w:Int,0<w/\w<1073741824->Tc [D.int 1,.int 8,.int 64] (k:Int)=some (.int w)->∃i,qI (((ki ns mo cl f n c (Va S) (da rk) x one (some<|.o .l<|da a) rv).set 13 none).set 13 k)=.ok (.int i)/\0<=i/\i<n:=λw T W=>by
   refine⟨one/w%n,aG (aG rfl (aG (dZ rfl) rfl (?_:_=R.ok (D.int w)))<|GA T) rfl<|vA m,Wq _ (by lia),Cu _ m⟩
   show Jg (Tc [D.int 1,.int 8,.int 64] (k:Int))=_;rw[W];rfl
  have p:k=0\/k=1\/k=2:=by lia
  rcases p with rfl|rfl|rfl
  .exact E 1 (by decide) rfl
  .exact E 8 (by decide) rfl
  exact E 64 (by decide) rfl)
 obtain⟨s,P⟩:=uD one 9 M;have q:∀{r:am}{v:Int}(b:Bd),0<=v->v<7->r.length=c->(∀z∈r,z<n)->b (ki ns mo cl f n c (Va S) (da rk) x one (some<|.o .l<|da a) rv)=.ok (.nx<|ki ns mo cl f n c (Va S) (da rk) x one (some<|.o .l<|da r) v)->
   ∃r v j g e,(bC b<|bC (fk [11]<|Yh 7<|aA 11)<|Yh 8<|e2 rO (aA 12)<|aA 6) (ki ns mo cl f n c (Va S) (da rk) x one (some<|.o .l<|da a) rv)=.ok (.nx<|ki ns mo cl f n c (Va<|S++[r]) (da<|rk++[v]) x j g e)/\r.length=c/\∀z∈r,z<n:=λ{r v} b L X B A h=>by
  refine⟨r,(v*f).toNat,one,D.lst<|da r,v,aL h ?_,B,A⟩;rw[bHw,ĺ rk<|Int.mul_nonneg L V];refine aL (st':=ki ns mo cl f n c (Va S++[.lst<|da r]) (da rk) x one (D.lst<|da r) v) ?_ ?_
  .exact Fo rfl rfl (by rw[jX];lia)
  exact Fo (aG rfl rfl<|bHx L X) rfl (by rw[aY];lia)
 have y:∃r v j g e,(bC (Nc (e2 wc (aM cH<|aB (aA 3)<|aB (eI 6)<|aB (eI 2) aK)<|eI 0) (bC (rN 11<|cL [13] (Ya 13) (tM<|aA 5) dG qI)<|dD 12<|e2 pH (e2 Po (aA 10)<|eI 512)<|eI 7)<|Nc (qG (e2 wc (aM cH<|aB (aA 3)<|aB (eI 3)<|aB (eI 2) aK)<|eI 0)<|e2 Eg (aM cH<|aB (aA 10)<|aB (eI 8)<|aB (eI 4) aK)<|eI 0) (Yw 11 (aM cH<|aB (aA 10)<|aB (eI 9)<|aB (aA 5) aK)<|e2 pH (e2 lE (aA 9)<|eI 1)<|aA 4) cO)<|bC (fk [11]<|Yh 7<|aA 11)<|Yh 8<|e2 rO (aA 12)<|aA 6) (ki ns mo cl f n c (Va S) (da rk) x one (some<|.o .l<|da a) rv)=.ok (.nx<|ki ns mo cl f n c (Va<|S++[r]) (da<|rk++[v]) x j g e)/\r.length=c/\∀z∈r,z<n:=by
  have l:=aG (f:=aM cH<|aB (aA 3)<|aB (eI 6)<|aB (eI 2) aK) (g:=eC<|.int 0) (st:=ki ns mo cl f n c (Va S) (da rk) x one (some<|.o .l<|da a) rv) (aO rfl<|oA cl 6 2<|by decide) rfl<|oM _ _
  by_cases K:xT cl 6 2=0
  .rw[Cc K]at l;exact q _ (Wq _<|by decide) (Cu _<|by decide) Q (λz d=>by have:=b1 z d;lia)<|zh l<|aL (uA Y)<|bT<|aG (aG rfl rfl<|GA<|by decide) rfl<|vA<|by decide
  rw[Qc K]at l;have o:=sU (st:=ki ns mo cl f n c (Va S) (da rk) x one (some<|.o .l<|da a) rv) (aG (aO (r:=aB (aA 3)<|aB (eI 3)<|aB (eI 2) aK) rfl<|oA cl 3 2<|by decide) (rfl:eC (.int 0) _=_)<|oM _ _)<|λ_=>aG (op:=Eg) (aO (r:=aB (aA 10)<|aB (eI 8)<|aB (eI 4) aK) rfl<|oA one 8 4<|by decide) (rfl:eC (.int 0) _=_) rfl
  cases p:decide (xT cl 3 2=0)&&decide (0<xT one 8 4) with
  |true=>
   rw[p]at o;have U:((x:Int)+1)%n=(((x+1)%n:Nat):Int):=by push_cast;rfl
   have J:=bD0 a (xT one 9 c).toNat<|(x+1)%n;rw[<-U]at J;refine q (r:=a.set (xT one 9 c).toNat<|(x+1)%n) _ u t (by rwa [yg]) (λz d=>by
    rcases List.mem_or_eq_of_mem_set d with d|rfl
    .have:=N z d;lia
    exact mod_lt _<|by lia) (jH l<|zh o ?_)
   rw[<-J];exact bM9 (aG (aG rfl rfl rfl) rfl<|vA m) (aO rfl<|oA one 9 c M) rfl s (by rwa [aY,I])
  |false=>
   rw[p]at o;exact q _ u t I (λz d=>by have:=N z d;lia)<|jH l<|jH o rfl
 obtain⟨r,v,j,g,e,C,B,A⟩:=y;exact⟨r,v,j,g,e,(aL (bT<|aO rfl O)<|aL (uA Z)<|aL (bT<|aO rfl H) C),B,A⟩
theorem mT(mo:Int)(C:0<=f)(A:1<=n/\n<=8)(E:1<=c/\c<=3):∀(d:am) (S:be) (rk:am) (j g b a:li),(∀x∈d,x<n)->S.length+d.length<=1000->rk.length=S.length->(∀r∈S,r.length=c/\∀z∈r,z<n)->
  ∃i l G y w u,Eb (Ya 9) lZ (d.map λ(k:Nat)=>D.int (k:Int)) (ki ns mo cl f n c (Va S) (da rk) j g b a)=.ok (.nx<|ki ns mo cl f n c (Va i) (da l) G y w u)/\i.length=S.length+d.length/\l.length=i.length/\∀r∈i,r.length=c/\∀z∈r,z<n
 |[],S,rk,j,g,b,a,_,_,s,q=>⟨S,rk,j,g,b,a,rfl,rfl,s,q⟩
 |x::d,S,rk,j,g,b,a,B,L,s,q=>by
  rw[ie]at L;obtain⟨r,v,y,w,u,t,I,H⟩:=ø mo C A E S rk (by lia) (by lia) x (B x zb) g b a
  obtain⟨i,l,F,p,o,m,e,O,N,M⟩:=mT mo C A E d (S++[r]) (rk++[v]) x y w u (λx K=>B x<|Ab _ K) (by rw[ef,Yi];lia) (by rw[ef,ef,Yi,Yi,s]) (λJ P=>by
   rcases wg.mp P with h|h
   .exact q J h
   rw[Fe.mp h];exact⟨I,H⟩)
  refine⟨i,l,F,p,o,m,?_,by rw[O,ef,Yi,ie];lia,N,M⟩
  rw[<-e];show (lZ<|ki ns mo cl f n c (Va S) (da rk) x g b a).bind _=_;rw[t];rfl
end
theorem M4{xs:im}{a:Int}(h:xs.length=4)(c:0<=a)(f:a<4):∃d∈xs,Ta (.lst xs) (.int a)=.ok d:=by
 obtain⟨d,b,e⟩:=bHf c (show a<xs.length by lia)
 exact⟨d,b,by simp_all⟩
theorem bD1(a:lv){mo:Int}(H:1<=mo)(G:mo<=8):∃S rk c,lJ [.lst<|a.map D.int,.int 0,.int mo]=.ok (.tup [.lst<|Va S,.lst<|da rk])/\La S rk c:=by
 have l:=VG a 0 (by decide) (by decide)
 have m:=VG a (0+1) (by decide) (by decide)
 generalize Ku a (0:Int).toNat=cl at l;generalize Ku a (0+1:Int).toNat=Vf at m
 let st (t s r q p o:li):=[some<|.v<|.lst<|a.map D.int,some<|.v<|.int 0,some<|.v<|.int mo,t,s,r,q,p,o,none,none,none,none,none]
 obtain⟨w,b,L,K⟩:∃w:Int,e2 Ta (gD<|aB (eI 4)<|aB (eI 5)<|aB (eI 5)<|aB (aA 2) aK) (aM cH<|aB (aA 3)<|aB (eI 5)<|aB (eI 4) aK) (st (some<|.v<|.int cl) none none none none none)=.ok (.int w)/\1<=w/\w<=8:=by
  obtain⟨j,i⟩:=uD cl 5 (m:=4) (by decide)
  obtain⟨d,g,e⟩:=M4 (xs:=[.int 4,.int 5,.int 5,.int mo]) rfl j i;have:∃w:Int,d=.int w/\1<=w/\w<=8:=by
   simp only[mem_cons,not_mem_nil,or_false]at g;rcases g with rfl|rfl|rfl|rfl
   .exact⟨4,rfl,by decide,by decide⟩
   .exact⟨5,rfl,by decide,by decide⟩
   .exact⟨5,rfl,by decide,by decide⟩
   exact⟨mo,rfl,H,G⟩
  obtain⟨w,rfl,b⟩:=this;exact⟨w,aG (dZ rfl) (aO rfl<|oA cl 5 4<|by decide) e,b⟩
 obtain⟨z,y⟩:=uD cl 1 (m:=w) (by lia)
 obtain⟨v,u⟩:=uD cl 2 (m:=3) (by decide)
 obtain⟨n,C⟩:∃n:Nat,1+xT cl 1 w=n:=⟨(1+xT cl 1 w).toNat,by lia⟩
 obtain⟨c,F⟩:∃c:Nat,1+xT cl 2 3=c:=⟨(1+xT cl 2 3).toNat,by lia⟩
 obtain⟨f,E,I⟩:∃f:Int,e2 Ta (gD<|aB (eI 1)<|aB (eI 1)<|aB (eI 1)<|aB (e2 lE (eI 1)<|e2 rO (eI 2)<|e2 pH (aM jO<|aB (aA 0)<|aB (e2 lE (aA 1)<|eI 1) aK)<|e2 KC (eI 10)<|eI 27) aK) (aM cH<|aB (aA 3)<|aB (eI 4)<|aB (eI 4) aK) (st (some<|.v<|.int cl) (some<|.v<|.int n) (some<|.v<|.int c) none none none)=.ok (.int f)/\0<=f:=by
  obtain⟨j,i⟩:=uD cl 4 (m:=4) (by decide)
  have N:0<=Vf%10^27:=Wq _ (by decide)
  obtain⟨d,g,e⟩:=M4 (xs:=[.int 1,.int 1,.int 1,.int<|1+2*(Vf%10^27)]) rfl j i;have:∃w:Int,d=.int w/\0<=w:=by
   simp only[mem_cons,not_mem_nil,or_false]at g;rcases g with rfl|rfl|rfl|rfl
   .exact⟨1,rfl,by decide⟩
   .exact⟨1,rfl,by decide⟩
   .exact⟨1,rfl,by decide⟩
   exact⟨_,rfl,by lia⟩
  obtain⟨w,rfl,b⟩:=this;refine⟨w,aG (dZ<|aV rfl<|aV rfl<|aV rfl<|aV (aG rfl (aG rfl (aG (aO rfl m) (aG rfl rfl (?_:_=R.ok (D.int<|10^27)))<|vA<|by decide) (?_:_=R.ok (D.int<|2*(Vf%10^27)))) rfl) rfl) (aO rfl<|oA cl 4 4<|by decide) e,b⟩
  .exact aD ⟨by decide,by decide,by decide⟩
  exact aD<|.inl<|by decide
 obtain⟨S,rk,J,Q,P,O,e,k,A,M⟩:=mT (c:=c) mo I (by lia) (by lia) (List.range n) [] [] none none none none (λx B=>Ff.mp B) (by simp;lia) rfl (λ_ h=>nomatch h)
 rw[Gu,Hx,rp]at k;exact⟨S,rk,c,bV rfl<|aL (bT<|aO rfl l)<|aL (bT<|aG rfl (aO (aV rfl<|aV rfl<|aV b rfl)<|oA cl 1 w<|by lia)<|by rw[<-C];rfl)<|aL (bT<|aG rfl (aO rfl<|oA cl 2 3<|by decide)<|by rw[<-F];rfl)<|aL (bT E)<|aL (uA<|dZ rfl)<|aL (uA<|dZ rfl)<|aL (iB (xq rfl<|by lia) e)<|cT<|aD<|dO<|by show 2<=_;decide,⟨by lia,by lia,by lia,by lia,by rwa [k],A⟩⟩
theorem Iq{a b n r:Nat}{st:xa}(f:st[a]?=some (some<|.v<|.int (n:Int)))(e:st[b]?=some (some<|.v<|.int (r:Int))):(e2 wc (e2 yh (e2 Wi (aA a)<|aA b)<|eI 1)<|eI 1) st=.ok (.bl<|n.testBit r):=by
 have d:=BW n r;have g:0<=(n:Int)/2^r:=Int.ediv_nonneg (by lia)<|Int.pow_nonneg<|by decide
 have c:e2 yh (e2 Wi (aA a)<|aA b) (eI 1) st=.ok (.int<|(if n.testBit r=true then 1 else 0:Nat)):=by
  simp_all
 rw[Ew,c];cases n.testBit r<;>simp
section
variable{S:be}{rk:am}{s c p j n:Nat}{qa:lf}
noncomputable def ast(S:be)(n s:Nat)(b:lf)(p:Nat)(a:li):xa:=
 [some<|.v<|.lst<|Va S,some<|.v<|.int n,some<|.v<|.int s,some<|.o .l<|kD b,some<|.v<|.int p,a]
theorem ù(M:La S rk c)(b:BM S s c (Bg n) p j qa)(g:Nat)(w:am):pK (ast S n s qa p g)=.ok (.nx<|ast S n s (xp (Bg n) qa g w) p g):=by
 have i:=M.most;have k:=b.len;obtain⟨e,d,_⟩:=eY _;have a:e2 jT (aA 5) (dX 3) (ast S n s qa p g)=.ok (.bl<|!decide _):=aG rfl rfl (by
  rw[<-yP,PY];exact aD ⟨by rw[d];decide,rfl,e⟩)
 have t:=sU (Iq (a:=1) (b:=5) rfl rfl) λ_=>a
 unfold xp
 by_cases h:Bg n g=true/\g∉qa.map (·.1)
 .rw[Ka h];rw[show n.testBit g=true from h.1,Qc h.2]at t
  refine zh t ?_
  rw[Fo rfl rfl (by rw[Ft];lia),<-WJ qa g w]
  rfl
 rw[Ea h];refine jH (oZ t ?_) rfl;cases f:n.testBit g with
 |false=>rfl
 |true=>rw[Cc<|si λz=>h ⟨f,z⟩];rfl
theorem HS(M:La S rk c):∀(m j:Nat) (a:lf) (f:li) (x:sw),j+m=c->BM S s c (Bg n) p j a->a[p]?=some x->
  ∃d h,Eb (Ya 5) pK ((List.range' j m).map λl=>D.int (Bc S x.1 l:Nat)) (ast S n s a p f)=.ok (.nx<|ast S n s d p h)/\BM S s c (Bg n) p c d/\d[p]?=some x
 |0,j,a,f,x,i,b,g=>⟨a,f,rfl,by simp_all,g⟩
 |m+1,j,a,f,x,i,b,g=>by
  obtain⟨d,h,e,k,o⟩:=HS M m (j+1) _ _ x (by lia) (b.turn M g<|by lia)<|E2 g
  refine⟨d,h,?_,k,o⟩;show (pK<|ast S n s a p _).bind _=_
  rwa [ù M b _ _]
theorem bD2(M:La S rk c){h:Nat}(g:h<S.length):da S[h]=(List.range' 0 c).map λl=>D.int (Bc S h l:Nat):=by
 have f:=(M.row S[h] (Fh g)).1;have e:∀l,Bc S h l=S[h].getD l 0:=λl=>by simp[Bc,List.getElem?_eq_getElem g]
 have j:=M.c1;have i:=M.c3;simp[e];generalize S[h]=r at f
 match r,f with
 |[],f=>simp at f;lia
 |[a],f=>subst f;rfl
 |[a,b],f=>subst f;rfl
 |[a,b,d],f=>subst f;rfl
 |_::_::_::_::r,f=>simp at f;lia
theorem IS(M:La S rk c):∀(m p:Nat) (d:lf) (j:li) (f:Nat),S.length+1<=m+p->m<=f->BM S s c (Bg n) p 0 d->p<=d.length->
  ∃i k,lH uX VR f (ast S n s d p j)=.ok (.nx<|ast S n s i i.length k)/\BM S s c (Bg n) i.length 0 i
 |0,p,d,j,f,t,u,b,r=>by have:=b.len;lia
 |m+1,p,d,j,f,t,u,b,r=>by
  obtain⟨f,rfl⟩:∃g,f=g+1:=⟨f-1,by lia⟩
  have a:uX (ast S n s d p j)=.ok _:=aG rfl rfl rfl;rw[Ft]at a
  by_cases h:p<d.length
  .have l:=md h;generalize d[p]=x at l;obtain⟨o,_,_⟩:=b.lt x<|xi l;obtain⟨i,k,e,y,z⟩:=HS M c 0 d j x (by lia) b l
   have B:=(pe.mp z).1;obtain⟨A,q,v,w⟩:=IS M m (p+1) i k f (by lia) (by lia) y.next (by lia)
   refine⟨A,q,LH (oZ a<|ML h) (aL (st':=ast S n s i p k) (iB (xs:=da S[x.1]) ?_ ?_)<|bT rfl) v,w⟩
   .show ((e2 Ta (aA 0) _) _).bind _=_;rw[aG rfl (aG rfl rfl<|iC<|L4 l)<|iC<|Ho o];rfl
   rwa [bD2 M o]
  have:p=d.length:=by lia
  subst this;exact⟨d,j,Mz<|oZ a<|NL h,b⟩
theorem HW(M:La S rk c){s:Nat}(hs:s<S.length)(n:Nat):∃l:am,jV [.lst<|Va S,.int n,.int s]=.ok (.lst<|da l)/\l.Nodup/\∀g,g∈l↔Fd S c (Bg n) s g:=by
 have d:=M.most;obtain⟨qa,a,e,b⟩:=IS M (S.length+1) 0 [(s,[])] none 100000 (by lia) (by lia) (BM.start hs) (by simp)
 refine⟨qa.map (·.1),bV rfl<|aL (st':=[D.lst<|Va S,n,s,some<|.o .l<|kD [(s,[])],none,none]) (by simp[kD])<|aL (st':=ast S n s [(s,[])] 0 none) (by simp[ast])<|aL (by rwa [BU]) ?_,b.nd,λg=>b.whole⟩
 simp[ast,PY]
theorem sub_len{l m:am}(d:l.Nodup)(hs:∀x∈l,x∈m)(he:l.length=m.length){x:Nat}(b:x∈m):x∈l:=by
 refine si λc=>?_
 have:=jx (aj.mpr ⟨c,d⟩) λy a=>by
  rcases Pb.mp a with rfl|a
  .exact b
  exact hs y a
 rw[ie]at this;lia
theorem Ļ(M:La S rk c){r:Nat}{T:am}(f:r<S.length){x0:D}{e:Ex}{st:xa}(k:aQ n=r::T)(j:st[2]?=some (some<|.v<|.lst<|da<|r::T))(he:e st=.ok (.lst<|Va S)):(Lf (e2 Eg (e1 dC<|aA 2)<|eI 1)<|qG (e2 wc (e1 dC<|aA 2)<|eI 1)<|e2 Qn (e2 Ta (aA 2)<|eI 0)<|e2 Ta e<|e2 Ta (aA 2)<|eI 0) st=.ok (.bl<|Ib S n):=by
 have a:aA 2 st=.ok (.lst<|da<|r::T):=by unfold aA;rw[j]
 have d:e1 dC (aA 2) st=.ok (.int<|(T.length+1)):=by
  show (aA 2 st).bind dC=_;rw[a];show R.ok _=_;rw[aY];rfl
 have b:e2 Ta (aA 2) (eI 0) st=.ok (.int r):=aG a rfl<|iC<|Jb<|by exact Nat.succ_pos _
 have l:S.getD r []=S[r]:=by rw[Xi,md f];rfl
 obtain⟨h,g,_⟩:=eY S[r];have i:e2 Qn (e2 Ta (aA 2)<|eI 0) _ st=.ok (.bl<|decide (r∈S[r])):=aG b (aG he b<|iC<|Ho f) (by rw[<-yP];exact aD ⟨by rw[g];exact He 60,rfl,h⟩)
 refine oZ (oY (aG d rfl rfl) λ_=>sU (aG d rfl<|oM _ _) λ_=>i) ?_
 unfold Ib;rw[k];show (decide ((1:Int)<((T.length+1)))||(decide (((T.length+1):Int)=1)&&decide (r∈S[r])))=(decide (1<T.length+1)||decide (r∈S.getD r []))
 lia
open Classical in
theorem ú(M:La S rk c)(j:n<2^S.length):pL [.lst<|Va S,.int n]=.ok (.bl<|decide (Ec S c n)):=by
 have C:=M.most;have s:=fK (tg:=Ya 3) (E:=xK) (st:=[D.lst<|Va S,n,none,none]) (List.range S.length)<|λr _=>⟨_,rfl,Iq (a:=1) (b:=3) rfl rfl,rfl⟩
 rw[FG j]at s;have u:tM (e1 dC<|aA 0) [D.lst<|Va S,n,none,none]=.ok (da<|List.range S.length):=xq (by rw[<-jX S];rfl) (by lia)
 refine bV rfl<|aL (bT<|fH u (by rw[aY,Gu];lia) s) ?_
 obtain⟨B,look⟩:=WS (L:=xM) (j:=3) (λx=>[D.lst<|Va S,n,D.lst<|da<|aQ n,x]) (λ_ _=>rfl) (λr=>!decide (∀b∈aQ n,Fd S c (Bg n) r b)) (λ_=>.bl false) (aQ n) (λr p=>by
  obtain⟨l,e,o,m⟩:=HW M (cB j p) n;have d:=λx i=>aX.mpr<|jw (aX.mp p)<|(m x).mp i
  have t:=aG (f:=e1 dC<|aM jV<|aB (aA 0)<|aB (aA 1)<|aB (aA 3) aK) (g:=e1 dC<|aA 2) (st:=[D.lst<|Va S,n,D.lst<|da<|aQ n,r]) (x:=.int l.length) (y:=.int<|(aQ n).length) (by rw[<-aY l];show R.bind (jV [.lst<|Va S,.int n,.int r]) _=_;rw[e];rfl) (by rw[<-aY (aQ n)];rfl)<|qP _ _
  by_cases h:∀b∈aQ n,Fd S c (Bg n) r b
  .have v:=sN (jx o d) (jx (dR n) λx i=>(m x).mpr<|h x i)
   rw[Ea (by rw[Cc h];decide)]
   exact jH (oZ t<|by rw[Cc (by lia)];rfl) rfl
  have v:=λz=>h λb y=>(m b).mp<|sub_len o d z y
  rw[Ka (by rw[Qc h];rfl)]
  exact zh (oZ t<|by rw[Qc (by lia)];rfl) rfl) none
 cases f:(aQ n).find? (λr=>!decide (∀b∈aQ n,Fd S c (Bg n) r b)) with
 |some k=>
  rw[f]at look;have q:=PD f;rw[Qc (λz=>by
   rw[Cc<|z.2.1 k<|lx f]at q;cases q)]
  exact Eo<|iB rfl look
 |none=>
  rw[f]at look;refine aL (iB rfl look)<|cT ?_;cases g:aQ n with
  |nil=>
   rw[Qc λz=>z.1 (by
    have:=jK n;rw[g]at this;exact this.symm)]
   exact oY (p:=false) (aG rfl rfl rfl) λ_=>sU (p:=false) (q:=false) (aG rfl rfl<|oM 0 1) λh=>nomatch h
  |cons r T=>
   have w:decide (Ec S c n)=Ib S n:=by
    by_cases h:Ib S n=true
    .rw[h,Cc ⟨(λz=>by
    have:r∈aQ n:=by rw[g];exact zb
    rw[z,aX,Mx]at this;cases this),(λa A=>by
   exact si λz=>(QM.mp f a A)<|by rw[Qc z];rfl),h⟩]
    rw[Qc λz=>h z.2.2];simpa using h
   rw[w];exact Ļ M (x0:=.Bb) (cB j<|by rw[g];exact zb) g rfl rfl
open Classical in
noncomputable def tq(S:be)(c:Nat):am:=(List.range' 1<|2^S.length-1).filter λm=>decide (Ec S c m)
open Classical in
theorem ļ{m:Nat}:m∈tq S c↔m<2^S.length/\Ec S c m:=by
 unfold tq;rw[df,XM,ii];constructor
 .rintro⟨b,a⟩;exact⟨by omega,a⟩
 rintro⟨b,a⟩;have:=a.1;exact⟨by lia,a⟩
def Å:(tq S c).Nodup:=List.Pairwise.filter _ List.nodup_range'
def û(n:Nat):jU 1 n=da (List.range' 1 n):=by
 unfold jU da;rw[List.range'_eq_map_range,xg];rfl
def NI(M:La S rk c):2^S.length<=256:=by
 have:2^S.length<=2^8:=FD (by decide) M.most
 omega
theorem Ľ(M:La S rk c):tW [.lst<|Va S]=.ok (.lst<|da<|tq S c):=by
 have l:=M.most;have n:=NI M;have o:1<=2^S.length:=Nat.one_le_two_pow;refine bV rfl ?_
 unfold uS;show cG _ [some<|.v<|.lst<|Va S,none]=_;have e:OC (eI 1) (e2 Lj (eI 1)<|e1 dC<|aA 0) [some<|.v<|.lst<|Va S,none]=.ok (da<|List.range' 1<|2^S.length-1):=by
  rw[<-û];have k:(S.length:Int)<=1000000:=by lia
  have b:(2:Int)^S.length=((2^S.length)):=by push_cast;rfl
  have j:(2:Int)^S.length<=big:=by rw[b];exact yJ (by lia)
  have i : -big<=(2:Int)^S.length:=by rw[b];exact Kv (by lia)
  have h : -(big:Int)<=1:=Kv (by decide)
  have g:(1:Int)<=big:=yJ (by decide)
  have f:((2:Int)^S.length-1).toNat=2^S.length-1:=by rw[b];lia
  simp[jX,k,j,i,h,g,f]
 rw[yL,yv,e];simp only[bD,aY,List.length_range'];rw[aD<|dO<|by lia,show qf [1] [some<|Sl.v<|.lst<|Va S,none]=[some<|.v<|.lst<|Va S,none] from rfl,(fK (q:=λm=>@decide (Ec S c m)<|Classical.propDecidable _) (G:=λr=>.int r) (List.range' 1<|2^S.length-1)<|λm d=>⟨_,rfl,by
  have a:m<2^S.length:=by have:=(XM.mp d).2;lia
  simp[XR,(ú M a)],by simp[WR]⟩)]
 rfl
end
section
theorem bHy(M:La S rk c)(d:n<2^S.length)(g:n≠0):lL [.lst<|da rk,.int n]=.ok (.int<|fY rk n):=by
 have l:=M.most;have m:0<(aQ n).length:=by
  cases h:aQ n with
  |nil=>
   refine absurd ?_ g;have:=jK n;rw[h]at this;exact this.symm
  |cons r T=>simp
 have a:=fK (tg:=Ya 2) (C:=yO) (E:=yN) (st:=[some<|.v<|.lst<|da rk,some<|.v<|.int n,none]) (G:=λr=>.int<|rk.getD r 0) (List.range rk.length)<|λr b=>⟨_,rfl,by
  unfold yO;exact Iq rfl rfl,by
  have i:=Ff.mp b;have k:Tc (da rk) r=some (.int<|rk.getD r 0):=by
   rw[Jb (by rwa [aY])]
   simp[da,getD_eq_getElem?_getD,List.getElem?_eq_getElem i]
  simp[yN,k]⟩
 rw[M.Qp,FG d]at a;have j:(aQ n).map (λr=>D.int<|rk.getD r 0)=((aQ n).map λr=>(rk.getD r 0:Int)).map D.int:=by simp
 rw[j]at a;refine bV rfl ?_
 unfold QS;show cG _ [some<|.v<|.lst<|da rk,some<|.v<|.int n,none]=_;have f:tM (e1 dC<|aA 0) [some<|.v<|.lst<|da rk,some<|.v<|.int n,none]=.ok (da<|List.range S.length):=by
  rw[<-SF];simp[aY,M.Qp,show S.length<=(big:Int) from yJ (by lia)]
 have e:Sk (.lst<|((aQ n).map λr=>(rk.getD r 0:Int)).map D.int)=.ok (.int<|fY rk n):=by
  show (nP _).bind _=_;rw[iJ,bD,aD (by rwa [lc])]
  rfl
 rw[yL,J4,yv,f];simp only[bD,aY,length_range];rw[aD<|dO<|by lia,show qf [2] [some<|Sl.v<|.lst<|da rk,some<|.v<|.int n,none]=[some<|.v<|.lst<|da rk,some<|.v<|.int n,none] from rfl,a,bD,bD,e]
 rfl
def ZJ{m o:Nat}:o|||m=o↔∀g∈aQ m,g∈aQ o:=by
 constructor
 .intro h g a;rw[aX]at a ⊢;rw[<-h,bE,a,Bool.or_true]
 intro h;refine ip λg=>?_
 rw[bE];cases b:m.testBit g with
 |false=>rw[Bool.or_false]
 |true=>rw[aX.mp<|h g<|aX.mpr b];rfl
def N2{m o:Nat}(b:∀g∈aQ m,g∈aQ o)(a:∀g∈aQ o,g∈aQ m):m=o:=by
 rw[<-jK m,<-jK o];exact SY λr=>⟨b r,a r⟩
theorem bD4{m o:Nat}(a:Ec S c m)(hs:∀g∈aQ m,g∈aQ o):Ib S o=true:=by
 have e:=a.2.2;have j:∃r,r∈aQ m:=by
  cases h:aQ m with
  |nil=>
   refine absurd ?_ a.1;have:=jK m;rw[h]at this;exact this.symm
  |cons r T=>simp
 obtain⟨r,d⟩:=j;have k:=jx (dR m) λx b=>hs x b
 unfold Ib at e ⊢
 by_cases i:1<(aQ o).length
 .rw[Cc i];rfl
 rwa [<-(N2 hs λg f=>sub_len (dR m) hs (by
  have:=S6 d;lia) f)]
def P8{a b m o:Nat}{st:xa}(d:st[a]?=some (some<|.v<|.int (m:Int)))(c:st[b]?=some (some<|.v<|.int (o:Int))):e2 Dl (aA a) (aA b) st=.ok (.int ((m|||o:Nat):Int)):=by
 simp[d,c]
theorem E7{a b:Ex}{m o:Nat}{st:xa}(d:a st=.ok (.int (m:Int)))(c:b st=.ok (.int (o:Int))):e2 wc a b st=.ok (.bl<|decide (m=o)):=by
 rw[Ew,d,c]
 by_cases h:m=o
 .subst h;simp
 have:¬ (m:Int)=o:=by lia
 simp[h,this]
def Qv{a m:Nat}{st:xa}(b:st[a]?=some (some<|.v<|.int (m:Int))):aA a st=.ok (.int (m:Int)):=by simp[b]
theorem SU:(tq S c).length<=2^S.length:=by
 refine Vc (Ax _ _) ?_
 simp_all
def bMa:iW (List.range n)<2^n:=uC λr a=>Ff.mp a
theorem bHz(M:La S rk c):rQ [mD S rk c]=.ok (.int<|iW<|List.range S.length):=by
 have b:=M.most;refine bV rfl<|cT<|aO (aV ?_ rfl)<|KA (λr a=>by have:=Ff.mp a;lia)<|by rw[Gu];lia
 show R.bind (lY "Machine" "many"<|mD S rk c) Mv=_;rw[Wz,<-SF];exact aD ⟨Kv (by lia),yJ<|by lia⟩
def bI0(M:La S rk c){st:xa}(h:st[0]?=some (some<|.v<|mD S rk c)):aM mF (aB (e1 (lY "Machine" "steps")<|aA 0)<|aB (aM rQ<|aB (aA 0) aK) aK) st=.ok (.Hd false (da<|aQ<|iW<|List.range S.length)<|(aQ<|iW<|List.range S.length).map λr=>D.int (iM S c (iW<|List.range S.length) r:Nat)):=by
 have e:aA 0 st=.ok (mD S rk c):=by unfold aA;rw[h]
 exact aO (aV (show R.bind _ _=_ by rw[e,bD,mQ])<|aV (aO (aV e rfl)<|bHz M) rfl)<|CW M bMa
def bI1{r:Nat}(a:r<S.length):Ta (.Hd false (da<|aQ<|iW<|List.range S.length)<|(aQ<|iW<|List.range S.length).map λr=>D.int (iM S c (iW<|List.range S.length) r:Nat)) (.int r)=.ok (.int (iM S c (iW<|List.range S.length) r:Nat)):=Vs<|vB _<|uN.mpr<|Ff.mpr a
def bD5(M:La S rk c) (a:r<S.length):vW [mD S rk c,.int r]=.ok (.int<|iM S c (iW<|List.range S.length) r):=
 bV rfl (cT<|aG (bI0 M rfl) rfl<|bI1 a)
end
section
variable{S:be}{rk:am}{c n s g:Nat}{al:sK}{qa:lf}
def Cg(S:be)(c:Nat)(al:sK):List Nat->Nat->Nat->Prop
 |[],s,g=>s=g
 |ch::u,s,g=>∃l,l<c/\ch=97+l/\al (Bc S s l)=true/\Cg S c al u (Bc S s l) g
theorem Zs:∀{u v:am}{s r g:Nat},Cg S c al u s r->Cg S c al v r g->Cg S c al (u++v) s g
 |[],v,s,r,g,f,h=>by
  rwa [f]
 |ch::u,v,s,r,g,f,h=>by
  obtain⟨l,a,b,d,e⟩:=f;exact⟨l,a,b,d,Zs e h⟩
theorem YY:∀{u v:am}{s g:Nat},Cg S c al (u++v) s g->∃r,Cg S c al u s r/\Cg S c al v r g
 |[],v,s,g,h=>⟨s,rfl,h⟩
 |ch::u,v,s,g,h=>by
  obtain⟨l,a,b,d,e⟩:=h;obtain⟨r,i,f⟩:=YY e;exact⟨r,⟨l,a,b,d,i⟩,f⟩
theorem ľ{u v w:am}(b:jk u v)(a:jk v w):jk u w:=by
 rcases b with b|⟨b,d⟩
 .rcases a with a|⟨a,_⟩
  .exact .inl (by lia)
  exact .inl (by lia)
 rcases a with a|⟨a,c⟩
 .exact .inl (by lia)
 exact .inr ⟨by lia,List.lt_trans d c⟩
theorem snoc_ind{P:List Nat->Prop}(c:P [])(b:∀u a,P u->P (u++[a])):∀(k:Nat)(u:am),u.length=k->P u
 |0,u,h=>by simp_all
 |k+1,u,h=>by
  rcases CD u with e|⟨v,a,e⟩
  .grind
  rw[DD]at e;rw[e]at h ⊢;exact b v a<|snoc_ind c b k v<|by simpa using h
def BM.least(b:BM S s c al qa.length 0 qa):∀(u:am)(g:Nat),Cg S c al u s g->∃y∈qa,y.1=g/\(y.2=u\/jk y.2 u):=λu=>
 snoc_ind (P:=λu=>∀g,Cg S c al u s g->∃y∈qa,y.1=g/\(y.2=u\/jk y.2 u)) (λg h=>⟨(s,[]),xi b.hd,h,.inl rfl⟩) (λu a k g h=>by
  obtain⟨r,q,l,o,v,p,e⟩:=YY h;obtain⟨y,n,rfl,f⟩:=k r q;obtain⟨i,j⟩:=xk.mp n;obtain⟨z,m,t,d⟩:=b.cls i y l j o (.inl (pe.mp j).1) p;refine⟨z,m,t.trans e,?_⟩;rw[v];rcases f with rfl|f
  .exact d
  have:=OY (97+l) (97+l) f;rcases d with d|d
  .simp_all
  exact .inr<|ľ d this) u.length u rfl
theorem BM.path(b:BM S s c al qa.length 0 qa):∀(k:Nat)(x:sw),qa[k]?=some x->Cg S c al x.2 s x.1:=by
 intro k
 induction k using strongRecOn with
 |ind k l=>
  intro x a
  by_cases m:k=0
  .subst m;rw[b.hd]at a;cases a;exact rfl
  obtain⟨p,q,y,ch,f,d,_⟩:=b.ak k x a (by lia)
  have o:x.2.length=y.2.length+1:=by rw[d];simp
  obtain⟨_,j,i⟩:=b.lt x<|xi a;obtain⟨_,g,_⟩:=b.lt y<|xi f;have r:=i ch (by rw[d];simp)
  have e:x.1=Bc S y.1 (ch-97):=by rw[<-j,d,Nz,g]
  rw[d];exact Zs (l q (by
   rcases WM q k with h|h|h
   .exact h
   .lia
   rcases b.ord k q x y a f h with n|⟨n,_⟩ <;> lia) y f) ⟨ch-97,by lia,by lia,by rwa [<-e],e.symm⟩
def j_(S:be)(c:Nat)(al:sK)(s g:Nat)(u:am):Prop:=Cg S c al u s g/\∀v,Cg S c al v s g->u=v\/jk u v
def bMb(n:Nat):(λg=>decide (g∈aQ n))=λg=>n.testBit g:=funext λg=>by
 cases h:n.testBit g with
 |true=>exact Cc<|aX.mpr h
 |false=>exact Qc λz=>by rw[aX.mp z]at h;cases h
theorem bMc(M:La S rk c)(H:n<2^S.length)(hs:s<S.length)(g:Nat):(rR [mD S rk c,.int n,.int s,.int g]=.ok .Bb/\¬ (n.testBit s=true/\∃u,Cg S c (λg=>n.testBit g) u s g))\/∃u,rR [mD S rk c,.int n,.int s,.int g]=.ok (.str u)/\n.testBit s=true/\j_ S c (λg=>n.testBit g) s g u/\Ue c u/\u.length+1<=(aQ n).length:=by
 have N:=M.most;cases t:n.testBit s with
 |false=>exact .inl ⟨bV rfl<|Eo<|zh (iH (p:=false)<|aO rfl<|by rw[sq,t])<|cT rfl,λz=>nomatch z.1⟩
 |true=>
  obtain⟨qa,e,b⟩:=QY M hs<|aQ n;rw[bMb]at b;have B:∀{d:D},Gq (aM lK<|aB (e1 (lY "Machine" "steps")<|aA 0)<|aB (aA 2)<|aB (aM cQ<|aB (aA 1) aK) aK) (aA 3) (eC .Bb) [mD S rk c,n,s,g]=.ok d->rR [mD S rk c,.int n,.int s,.int g]=.ok d:=λJ=>bV rfl<|cX (jH (iH (p:=true)<|aO rfl<|by rw[sq,t]) rfl)<|cT J
  have C:∀{r:R D},Tt (.Hd false (kD qa)<|wD qa) (.int g) .Bb=r->Gq (aM lK<|aB (e1 (lY "Machine" "steps")<|aA 0)<|aB (aA 2)<|aB (aM cQ<|aB (aA 1) aK) aK) (aA 3) (eC .Bb) [mD S rk c,n,s,g]=r:=λh=>by
   unfold Gq
   rwa [aO (aV (mQ)<|aV rfl<|aV (aO rfl<|rZ H<|by lia) rfl) e]
  have m:=XJ g qa
  by_cases l:g∈qa.map (·.1)
  .rw[Cc l]at m;obtain⟨x,o,rfl⟩:=Zc.mp l;obtain⟨k,i⟩:=xk.mp o;have I:=(pe.mp i).1;refine .inr ⟨x.2,B<|C ?_,rfl,⟨b.path k x i,λv hv=>?_⟩,(b.lt x o).2.2,?_⟩
   .show aU (Lb false (.int x.1)=true) _=_;rw[aD (c:=Lb false (.int x.1)=true) rfl,Ka m,F2 b.nd o];rfl
   .obtain⟨y,f,A,G⟩:=b.least v x.1 hv;obtain⟨j,a⟩:=xk.mp f;have:=by
     have p:j=k:=by
      have E:(qa.map (·.1))[j]?=some x.1:=by rw[Nj,a,<-A];rfl
      have w:(qa.map (·.1))[k]?=some x.1:=by rw[Nj,i];rfl
      obtain⟨P,L⟩:=pe.mp E;obtain⟨O,K⟩:=pe.mp w;exact(List.getElem_inj b.nd).mp (L.trans K.symm)
     rw[p,i]at a;exact(Te a).symm
    rwa [this]at G
   have E:=b.Js k x i;have w:=jx b.nd λy f=>by
    obtain⟨z,F,rfl⟩:=Zc.mp f;obtain⟨j,a⟩:=xk.mp F
    by_cases q:j=0
    .subst q;rw[b.hd]at a;cases a;exact aX.mpr t
    exact aX.mpr (b.ak j z a<|by omega).1
   rw[lc]at w;lia
  rw[Qc l]at m;refine .inl ⟨B<|C ?_,λ⟨_,u,hu⟩=>?_⟩
  .show aU (Lb false (.int g)=true) _=_;rw[aD (c:=Lb false (.int g)=true) rfl,Ea (by rw[m];decide)]
  obtain⟨y,f,A,_⟩:=b.least u g hu;exact l<|Zc.mpr ⟨y,f,A⟩
end
theorem ZY{l:Nat}(h:l<3):Ta (.str [97,98,99]) (.int l)=.ok (.str [97+l]):=by
 show aU _ _=_;rw[aD<|dO<|by show 3<=_;lia]
 have:l=0\/l=1\/l=2:=by lia
 rcases this with rfl|rfl|rfl<;>rfl
def O2(l m:am):wc (.lst<|da l) (.lst<|da m)=.ok (.bl<|decide (l=m)):=by
 obtain⟨c,b,_⟩:=eY l;obtain⟨a,_,_⟩:=eY m;simp[c,b,a,(LA l m)]
theorem bMd{m ch:Nat}(f:1<=m)(e:m<=3)(a:97<=ch)(b:ch<97+m):(nO (cut [97,98,99] none<|some (m:Int)) [ch] 0).isSome=true:=by
 have c:m=1\/m=2\/m=3:=by lia
 have d:ch=97\/ch=98\/ch=99:=by lia
 rcases c with rfl|rfl|rfl<;>rcases d with rfl|rfl|rfl<;>first|rfl|lia
section
variable{S:be}{rk:am}{c n s g r:Nat}{al:sK}
theorem Rv:∀{u:am}{s g:Nat},Cg S c al u s g->Ue c u
 |[],_,_,_=>λ_ h=>nomatch h
 |ch::u,s,g,⟨l,a,b,_,e⟩=>λx d=>by
  rcases Pb.mp d with rfl|d
  .lia
  exact Rv e x d
theorem Av:∀{u:am}{s g:Nat},Cg S c al u s g->pO S s u=g
 |[],_,_,h=>h
 |ch::u,s,g,⟨l,a,b,_,e⟩=>by
  show pO S _ u=g;rw[b,show 97+l-97=l by lia]
  exact Av e
theorem QH:∀{u:am}{s g:Nat},Cg S c al u s g->∀y∈runs S s u,al y=true
 |[],_,_,_=>λ_ h=>nomatch h
 |ch::u,s,g,⟨l,a,b,d,e⟩=>λy i=>by
  have f:y∈Bc S s _::runs S _ u:=i;rw[b,show 97+l-97=l by lia]at f
  rcases Pb.mp f with rfl|f
  .exact d
  exact QH e y f
theorem RH:∀(x y:am)(q:Nat),runs S q (x++y)=runs S q x++runs S (pO S q x) y
 |[],_,_=>rfl
 |ch::x,y,q=>congrArg _<|RH x y _
theorem OI:∀(x:am)(q:Nat),pO S q x∈q::runs S q x
 |[],_=>zb
 |ch::x,q=>Ab _<|OI x _
def bD7{x:am}(h:x≠[])(q:Nat):pO S q x∈runs S q x:=by
 cases x with
 |nil=>exact absurd rfl h
 |cons ch x=>exact OI x _
theorem dA:∀(x:am)(q:Nat),(runs S q x).length=x.length
 |[],_=>rfl
 |_::x,_=>congrArg (· + 1)<|dA x _
def bI2{s g:Nat}(h:Fd S c al s g):∃u,Cg S c al u s g:=by
 induction h with
 |here=>exact⟨[],rfl⟩
 |on _ d e a=>
  obtain⟨u,b⟩:=a;exact⟨u++[97+_],Zs b ⟨_,d,rfl,e,rfl⟩⟩
structure Iz(S:be)(c n r:Nat)(u:am):Prop where
 js:Cg S c (λg=>n.testBit g) u r r
 ne:u≠[]
 len:u.length<=(aQ n).length*(aQ n).length
 all:∀g∈aQ n,g∈runs S r u
noncomputable def PL(S:be)(rk:am)(c n r:Nat)(x:am)(h:Nat)(a:li):xa:=[some<|.v<|mD S rk c,some<|.v<|.int n,some<|.v<|.int r,some<|.v<|.str x,some<|.v<|.int h,a]
def ü{e:yd}{st:xa}(b:f st=.ok (mD S rk c))(a:e st=.ok xs):vQ "Machine" "rooms_along" p [] f e st=p (mD S rk c::xs):=by
 rw[LV,b,a];show aU _ _=_;rw[Hh];exact aD ⟨rfl,by decide⟩
def IW(M:La S rk c)(e:n<2^S.length)(h:Ec S c n){a b:Nat}(d:a∈aQ n)(f:b∈aQ n):∃u,rR [mD S rk c,.int n,.int a,.int b]=.ok (.str u)/\Cg S c (λg=>n.testBit g) u a b/\u.length+1<=(aQ n).length:=by
 rcases bMc M e (cB e d) b with ⟨_,k⟩|⟨u,l,_,j,_,i⟩
 .exact absurd ⟨aX.mp d,bI2<|h.2.1 a d b f⟩ k
 exact⟨u,l,j.1,i⟩
theorem GG(M:La S rk c)(m:n<2^S.length)(E:Ec S c n)(D:r∈aQ n):∀(b:am)(x:am)(h j:Nat)(o:li),(∀g∈b,g∈aQ n)->Cg S c (λg=>n.testBit g) x r h->h∈aQ n->x.length<=j*((aQ n).length-1)->j+b.length<=8->
  ∃a d f k,Eb (Ya 5) rS (da b) (PL S rk c n r x h o)=.ok (.nx<|PL S rk c n r a d k)/\Cg S c (λg=>n.testBit g) a r d/\d∈aQ n/\a.length<=f * ((aQ n).length-1)/\f<=j+(b.filter λg=>!decide (g=r)).length/\(∀g∈b,g∈r::runs S r a)/\∀g∈r::runs S r x,g∈r::runs S r a
 |[],x,h,j,o,_,i,s,F,_=>⟨x,h,j,o,rfl,i,s,F,il _ _,λ_ z=>(nomatch z),λ_ z=>z⟩
 |g::b,x,h,j,o,q,i,s,F,L=>by
  rw[ie]at L;have P:=Vc (kI S.length _ (dR _) λy hy=>cB m hy) M.most
  have O:x.length<=100:=by
   have:j*((aQ n).length-1)<=8*7:=Bu (by lia) (by lia)
   lia
  obtain⟨K,J,_⟩:=eY<|r::runs S r x;have t:e2 jT (aA 5) (vQ "Machine" "rooms_along" bU [] (aA 0)<|aB (aA 2)<|aB (aA 3) aK) (PL S rk c n r x h g)=.ok (.bl<|!decide (g∈r::runs S r x)):=aG rfl ((ü rfl rfl).trans<|SV M (cB m D) x (Rv i)<|by lia) (by
   rw[<-yP];exact aD ⟨by rw[J];exact He 60,rfl,K⟩)
  by_cases p:g∈r::runs S r x
  .rw[Cc p]at t;obtain⟨a,d,f,k,e,C,B,A,w,v,l⟩:=GG M m E D b x h j g (λy hy=>q y<|Ab _ hy) i s F (by lia)
   refine⟨a,d,f,k,lN rfl (jH t rfl) e,C,B,A,Vc w ?_,λy hy=>?_,l⟩
   .by_cases z:(!decide (g=r))=true
    .rw[Mn (p:=λg=>!decide (g=r)) z,ie];lia
    rw[Pq (p:=λg=>!decide (g=r)) z];exact Cb _
   rcases Pb.mp hy with rfl|hy
   .exact l _ p
   exact v y hy
  rw[Qc p]at t;obtain⟨u,H,G,N⟩:=IW M m E s<|q g zb;obtain⟨a,d,f,k,e,C,B,A,w,v,l⟩:=GG M m E D b (x++u) g (j+1) g (λy hy=>q y<|Ab _ hy) (Zs i G) (q g zb) (by
   rw[ef,Nat.add_mul,Nat.one_mul];lia) (by lia)
  have I:∀y∈r::runs S r x,y∈r::runs S r (x++u):=λy hy=>by
   rw[RH];rcases Pb.mp hy with rfl|hy
   .exact zb
   exact Ab _<|Ke _ hy
  refine⟨a,d,f,k,lN rfl (zh t<|aL (bT<|aG rfl (aO rfl H)<|aD<|dO<|by lia)<|bT rfl) e,C,B,A,Vc w ?_,λy hy=>?_,λy hy=>l y<|I y hy⟩
  .rw[Mn (by rw[Qc<|λz=>p<|by rw[z];exact zb];rfl),ie];lia
  rcases Pb.mp hy with rfl|hy
  .refine l _ ?_
   have:=OI (S:=S) (x++u) r
   rwa [Av<|Zs i G]at this
  exact v y hy
theorem bMf(a:l.Nodup)(b:r∈l):(l.filter λg=>!decide (g=r)).length+1<=l.length:=by
 have c:(l.filter λg=>!decide (g=r)).length<l.length:=by
  simp_all
 lia
theorem ý(M:La S rk c)(f:n<2^S.length)(s:Ec S c n)(d:r∈aQ n):∃u,qJ [mD S rk c,.int n,.int r]=.ok (.str u)/\Iz S c n r u:=by
 have n8:=M.most;have c3:=M.c3;have I:=cB f d;have X:=rZ f (by lia)
 have P:=Vc (kI S.length _ (dR _) λy A=>cB f A) n8
 have V:Nc (nC<|aM xG<|aB (aA 0)<|aB (aA 1) aK) oJ cO [mD S rk c,n,r,none,none,none]=.ok (.nx [mD S rk c,n,r,none,none,none]):=jH ((iH (p:=true)<|aO rfl<|by rw[ö M f,Cc<|(ĸ M f).mpr s])) rfl
 have U:Nc (nC<|aM iU<|aB (aA 1)<|aB (aA 2) aK) oJ cO [mD S rk c,n,r,none,none,none]=.ok (.nx [mD S rk c,n,r,none,none,none]):=jH ((iH (p:=true)<|aO rfl<|by rw[sq,aX.mp d])) rfl
 have o:=aG (f:=aM cQ<|aB (aA 1) aK) (g:=gD<|aB (aA 2) aK) (st:=[mD S rk c,n,r,none,none,none]) (aO rfl X) (dZ rfl)<|O2 (aQ n) [r]
 by_cases m:aQ n=[r]
 .rw[Cc m]at o;have C:=s.2.2;unfold Ib at C;rw[m]at C;have Y:=by
   exact gi<|show decide (r∈S.getD r [])=true from C
  have l:S.getD r []=S[r]:=by rw[Xi,md I];rfl
  rw[l]at Y;have Xj:=(M.row S[r] (Fh I)).1;have hs:((S[r].map λ(x:Nat)=>(x:Int)).findIdx? λi=>i==(r:Int)).isSome=true:=by
   rw[List.findIdx?_isSome,zu];exact⟨r,Zc.mpr ⟨r,Y,rfl⟩,by simp⟩
  obtain⟨k,L⟩:=E6.mp hs;obtain⟨q,p,_⟩:=W5.mp L;rw[lc]at q;have hkr:S[r][k]=r:=by
   rw[ZM,Ih]at p;exact Int.ofNat_inj.mp p
  have H:Bc S r k=r:=by
   unfold Bc
   rwa [l,Xi,md q]
  have E:Ai VB (e2 Ta (e1 (lY "Machine" "steps")<|aA 0)<|aA 2) (aB (aA 2) aK) [mD S rk c,n,r,none,none,none]=.ok (.int k):=by
   unfold Ai;rw[aG (show e1 (lY "Machine" "steps") (aA 0) [mD S rk c,n,r,none,none,none]=_ from mQ) rfl<|iC<|Ho I]
   show (nP<|da S[r]).bind _=_;rw[show da S[r]=(S[r].map λ(x:Nat)=>(x:Int)).map D.int by rw[xg];rfl,iJ,bD,L]
   show R.bind (.ok k) _=_;rw[bD];exact aD<|dO<|by rw[lc,lc];lia
  refine⟨[97+k],bV rfl<|cX V (cX U<|Eo<|(zh o<|cT<|aG rfl E<|ZY<|by lia)) ,⟨⟨k,by lia,rfl,by rw[H];exact aX.mp d,H⟩,by simp,by rw[m];exact Cb _,λg l=>?_⟩⟩
  rw[m,Fe]at l;show g∈Bc S r (97+k-97)::[];rw[show 97+k-97=k by lia,H,l]
  exact zb
 rw[Qc m]at o;obtain⟨G,F,Ze⟩:∃G∈aQ n,G≠r:=si λz=>m (by
  have all:=λy A=>si λw=>z ⟨y,A,w⟩
  have K:=dR n;cases O:aQ n with
  |nil=>rw[O]at d;cases d
  |cons a T=>
   rw[O]at all K;have Q:=all a zb;cases T with
   |nil=>rw[Q]
   |cons b T=>
    exact absurd (by simp[Q,(all b<|by simp)]) (aj.mp K).1)
 obtain⟨x,h,j,x5,e,q,p,k3,k4,v,_⟩:=GG M f s d (aQ n) [] r 0 none (λ_ z=>z) rfl d (He _) (by lia)
 obtain⟨y,w1,w2,w3⟩:=IW M f s p d;have hc:=bMf (dR n) d;have B:x.length<=((aQ n).length-1)*((aQ n).length-1):=Vc k3<|EM _<|by lia
 have N:=Zs q w2;have J:x++y≠[]:=λz=>(λz=>by
  rw[z]at v;rcases Pb.mp (v G F) with t|t
  .exact Ze t
  cases t) (List.append_eq_nil_iff.mp z).1
 have Z:(x++y).length<=(aQ n).length*(aQ n).length:=by
  obtain⟨k,W⟩:∃k,(aQ n).length=k+1:=⟨(aQ n).length-1,by lia⟩
  rw[W,Nat.add_sub_cancel]at B;rw[ef,W,Nat.add_mul,Nat.mul_add,Nat.one_mul];lia
 have h64:=Bu P P;refine⟨x++y,bV rfl<|cX V<|cX U<|cX ((jH o rfl))<|aL ((bT rfl))<|aL ((bT rfl))<|aL ((iB (mX<|aO rfl X) e))<|(cT<|aG rfl (aO rfl w1)<|aD<|dO<|by rw[ef]at Z;lia),⟨N,J,Z,λg l=>?_⟩⟩
 rcases Pb.mp (v g l) with rfl|z
 .have:=bD7 (S:=S) J g
  rwa [Av N]at this
 rw[RH];exact Ke _ z
end
section
variable{S:be}{rk:am}{c n:Nat}
abbrev nU(m n:Nat):Prop:=∀g∈aQ m,g∈aQ n
def Bv(a:n≠0):aQ n≠[]:=λz=>a (by
 have:=jK n;rw[z]at this;exact this.symm)
def xU(d:n≠0):(∃r∈aQ n,(rk.getD r 0:Int)=fY rk n)/\∀r∈aQ n,(rk.getD r 0:Int)<=fY rk n:=by
 obtain⟨c,b⟩:=LI (l:=(aQ n).map λr=>(rk.getD r 0)) (by simpa using Bv d)
 obtain⟨r,a,e⟩:=Zc.mp c;exact⟨⟨r,a,e⟩,λr a=>b _<|Zc.mpr ⟨r,a,rfl⟩⟩
def Za(rk:am)(m:Nat):Bool:=decide (fY rk m%2=0)
def Oc(m:Nat):Nat:=(aQ m).length
noncomputable def kh(rk:am)(m:Nat):Nat:=iW<|(aQ m).filter λr=>!decide ((rk.getD r 0:Int)=fY rk m)
def kZ:r∈aQ (kh rk m)↔r∈aQ m/\(rk.getD r 0:Int)≠fY rk m:=by
 unfold kh;rw[uN];simp
def pA{k:Nat}(h:m<2^k):kh rk m<2^k:=uC λr a=>cB h (df.mp a).1
def dU(M:La S rk c) (b:m<2^S.length) (h:q∈fX S c m):Ec S c q/\nU q m/\q<2^S.length:=by
 obtain⟨r,a,rfl,d⟩:=xR.mp h;exact⟨Ĺ M b a d,λg e=>bHt M b a e,WY⟩
def AZ(M:La S rk c){m z:Nat}(e:m<2^S.length)(b:Ec S c z)(hs:nU z m):∃q∈fX S c m,nU z q:=by
 obtain⟨r,d⟩:=B6 _<|Bv b.1;have a:=bHu M e b hs d;exact⟨_,xR.mpr ⟨r,hs r d,rfl,bD4 b a⟩,a⟩
def wB(M:La S rk c){p g:Nat}(e:m<2^S.length)(h:p∈fX S c m)(f:q∈fX S c m)(l:g∈aQ p)(k:g∈aQ q):p=q:=by
 obtain⟨a,j,rfl,_⟩:=xR.mp h;obtain⟨b,i,rfl,_⟩:=xR.mp f;have d:=cB e i;exact EW M d<|((mR M d).mp<|aX.mp k).trans ((mR M<|cB e j).mp<|aX.mp l).symm
def eL{p:Nat}(h:nU m p)(c:r∈aQ p)(b:r∉aQ m):Oc m<Oc p:=by
 have:=(aj.mpr ⟨b,dR m⟩).length_le_of_subset λx a=>by
  rcases Pb.mp a with z|z
  .rwa [z]
  exact h x z
 rwa [ie]at this
def QI(M:La S rk c){p:Nat}(i:p≠0)(f:p<2^S.length)(h:q∈fX S c (kh rk p)):Oc q<Oc p/\nU q p:=by
 obtain⟨⟨r,d,e⟩,_⟩:=xU i;obtain⟨_,b,_⟩:=dU M (pA f) h;exact⟨eL (λg a=>(kZ.mp<|b g a).1) d λz=>(kZ.mp<|b r z).2 e,λg a=>(kZ.mp<|b g a).1⟩
inductive Af (S:be) (c:Nat) (rk:am) (w:Bool):At
 |out {P Y:Nat}:Y∈fX S c (kh rk P)->Za rk Y≠w->Af S c rk w P Y
 |go {P Q Y:Nat}:Q∈fX S c (kh rk P)->Za rk Q=w->Af S c rk w Q Y->Af S c rk w P Y
theorem fB(M:La S rk c){w:Bool}{P:Nat}(h:Af S c rk w P Y):P≠0->P<2^S.length->Ec S c Y/\nU Y (kh rk P)/\Y<2^S.length/\Oc Y<Oc P/\Za rk Y≠w:=by
 induction h with
 |out f j=>
  intro i e;obtain⟨a,b,d⟩:=dU M (pA e) f;exact⟨a,b,d,(QI M i e f).1,j⟩
 |go f j _ k=>
  intro i e;obtain⟨a,b,d⟩:=dU M (pA e) f;obtain⟨o,n,m,q,l⟩:=k a.1 d;have r:=QI M i e f;exact⟨o,λg p=>b g (kZ.mp<|n g p).1,m,by lia,l⟩
theorem bMg(M:La S rk c){w:Bool}{P:Nat}(h:Af S c rk w P Y):P≠0->P<2^S.length->∀{Z g:Nat},Af S c rk w P Z->g∈aQ Y->g∈aQ Z->Y=Z:=by
 induction h with
 |out i s=>
  intro t b Z g m k j;cases m with
  |out f e=>exact wB M (pA b) i f k j
  |go f e n=>
   obtain⟨a,_,d⟩:=dU M (pA b) f;obtain⟨_,l,_⟩:=fB M n a.1 d;have:=wB M (pA b) i f k (kZ.mp<|l g j).1;grind
 |go i s f r=>
  intro t b Z g m k j;obtain⟨a,_,d⟩:=dU M (pA b) i;obtain⟨_,l,_⟩:=fB M f a.1 d;have p:=(kZ.mp<|l g k).1;cases m with
  |out e n=>
   have:=wB M (pA b) i e p j;simp_all
  |go e n o=>
   obtain⟨v,_,u⟩:=dU M (pA b) e;obtain⟨_,q,_⟩:=fB M o v.1 u;have:=wB M (pA b) i e p (kZ.mp<|q g j).1;subst this;exact r a.1 d o k j
theorem bI3{z p:Nat}(h:z≠0)(hs:nU z p) (c:r∈aQ z) (e:(rk.getD r 0:Int)=fY rk p):fY rk z=fY rk p:=by
 obtain⟨⟨b,i,l⟩,g⟩:=xU (rk:=rk) h;have a:p≠0:=λd=>by
  have:=hs r c;rw[d]at this;exact absurd (aX.mp this) (by simp)
 obtain⟨_,f⟩:=xU (rk:=rk) a;have k:=g r c;have j:=f b<|hs b i;lia
theorem qQ(M:La S rk c){w:Bool}:∀(k P:Nat),Oc P<=k->P≠0->P<2^S.length->Za rk P=w->∀{Z:Nat},Ec S c Z->nU Z P->(∃Y,Af S c rk w P Y/\nU Z Y)\/(Za rk Z=w/\∃r∈aQ Z,∀Y,Af S c rk w P Y->r∉aQ Y)
 |0,P,u,l,_,_,_,_,_=>absurd (Kn.mp<|Nat.le_zero.mp u)<|Bv l
 |k+1,P,u,l,b,B,Z,p,t=>by
  by_cases s:∃r∈aQ Z,(rk.getD r 0)=fY rk P
  .obtain⟨r,h,e⟩:=s;refine .inr ⟨?_,r,h,λY hy zy=>?_⟩
   .unfold Za at B ⊢
    rwa [bI3 p.1 t h e]
   obtain⟨_,n,_⟩:=fB M hy l b;exact(kZ.mp<|n r zy).2 e
  obtain⟨Q,f,m⟩:=AZ M (pA b) p λg v=>kZ.mpr ⟨t g v,λe=>s ⟨g,v,e⟩⟩
  obtain⟨A,E,z⟩:=dU M (pA b) f;have D:=QI M l b f
  by_cases i:Za rk Q=w
  .rcases qQ M k Q (by lia) A.1 z i p m with ⟨Y,hy,o⟩|⟨e1,r,h,C⟩
   .exact .inl ⟨Y,.go f i hy,o⟩
   refine .inr ⟨e1,r,h,λY hy zy=>?_⟩
   have y:=m r h;cases hy with
   |out j q=>
    rw[<-(wB M (pA b) f j y zy)]at q;exact q i
   |go j q x=>
    obtain⟨a,_,d⟩:=dU M (pA b) j;obtain⟨_,n,_⟩:=fB M x a.1 d;have:=wB M (pA b) f j y (kZ.mp<|n r zy).1;subst this;exact C Y x zy
  exact .inl ⟨Q,.out f i,m⟩
def dM(base:Nat)(good:Bool):Nat:=if (decide (base%2=0))==good then base else base+1
theorem TU(base:Nat)(good:Bool):(dM base good%2=0↔good=true)/\base<=dM base good:=by
 unfold dM;grind
def Uo(f:ol)(a:Nat)(l:am):Nat:=l.foldl (λa y=>max a<|f y+1) a
theorem Oz(f:ol):∀(l:am)(a:Nat),a<=Uo f a l/\(∀y∈l,f y+1<=Uo f a l)/\(Uo f a l=a\/∃y∈l,Uo f a l=f y+1)
 |[],a=>⟨Cb _,λ_ h=>(nomatch h),.inl rfl⟩
 |y::l,a=>by
  obtain⟨g,d,c⟩:=Oz f l<|max a<|f y+1;have e:Uo f a (y::l)=Uo f _ l:=rfl;rw[e];refine⟨by lia,λz hz=>?_,?_⟩
  .rcases Pb.mp hz with q|q
   .rw[q];lia
   exact d z q
  rcases c with q|⟨z,hz,q⟩
  .by_cases b:f y+1<=a
   .exact .inl (by lia)
   exact .inr ⟨y,zb,by lia⟩
  exact .inr ⟨z,Ab _ hz,q⟩
def xm(S:be)(c:Nat)(rk:am)(L:GT):Prop:=∀X,X≠0->X<2^S.length->∀Y,Y∈L X↔Af S c rk (Za rk X) X Y
noncomputable def gh(rk:am)(L:GT)(base:Nat):Nat->Nat->Nat
 |0,_=>0
 |k+1,X=>Uo (gh rk L base k) (dM base<|Za rk X)<|L X
noncomputable def Aj(rk:am)(L:GT)(base:Nat):Nat->Nat->Nat->Nat
 |0,_,_=>0
 |k+1,X,g=>match (L X).find? λY=>Y.testBit g with
  |some Y=>Aj rk L base k Y g
  |none=>gh rk L base (k+1) X
section
variable{L:GT}{base:Nat}
def nD{X:Nat}(h:X≠0):1<=Oc X:=Oq.mpr<|Bv h
def NA{k X:Nat}:dM base (Za rk X)<=gh rk L base (k+1) X:=(Oz _ _ _).1
def xC(b:xm S c rk L){k X:Nat}(d:X≠0)(a:X<2^S.length)(h:Af S c rk (Za rk X) X Y):gh rk L base k Y<gh rk L base (k+1) X:=(Oz _ (L X) _).2.1 Y<|(b X d a Y).mpr h
def Wt(d:xm S c rk L){k X:Nat}(e:X≠0)(b:X<2^S.length):gh rk L base (k+1) X=dM base (Za rk X)\/∃Y,Af S c rk (Za rk X) X Y/\gh rk L base (k+1) X=gh rk L base k Y+1:=by
 rcases (Oz _ (L X) _).2.2 with h|⟨Y,a,h⟩
 .exact .inl h
 exact .inr ⟨Y,(d X e b Y).mp a,h⟩
theorem Q2(M:La S rk c)(f:xm S c rk L):∀(k X:Nat),Oc X<=k->X≠0->X<2^S.length->(gh rk L base k X%2=0↔Za rk X=true)
 |0,X,l,a,_=>by have:=nD a;lia
 |k+1,X,l,a,d=>by
  rcases Wt f a d with e|⟨Y,m,e⟩
  .rw[e];exact(TU base _).1
  obtain⟨h,_,g,o,b⟩:=fB M m a d;have n:=Q2 M f k Y (by lia) h.1 g
  cases j:Za rk X<;>cases i:Za rk Y<;>rw[j,i]at b<;>first|exact(b rfl).elim|skip
  .constructor
   .lia
   intro z;cases z
  constructor
  .intro _;rfl
  lia
def Xt(M:La S rk c)(h:xm S c rk L){k X g:Nat}(d:X≠0)(b:X<2^S.length)(f:Af S c rk (Za rk X) X Y)(e:g∈aQ Y):Aj rk L base (k+1) X g=Aj rk L base k Y g:=by
 show (match (L X).find? λY=>Y.testBit g with|some Y=>Aj rk L base k Y g|none=>gh rk L base (k+1) X)=_
 cases a:(L X).find? λY=>Y.testBit g with
 |none=>
  exact((QM.mp a Y<|(h X d b Y).mpr f)<|aX.mp e).elim
 |some Z=>
  have i:=PD a;rw[bMg M f d b ((h X d b Z).mp<|lx a) e<|aX.mpr i]
def xB(d:xm S c rk L){k X g:Nat}(f:X≠0)(b:X<2^S.length)(h:∀Y,Af S c rk (Za rk X) X Y->g∉aQ Y):Aj rk L base (k+1) X g=gh rk L base (k+1) X:=by
 show (match (L X).find? λY=>Y.testBit g with|some Y=>Aj rk L base k Y g|none=>gh rk L base (k+1) X)=_
 cases a:(L X).find? λY=>Y.testBit g with
 |none=>rfl
 |some Z=>
  have e:=PD a;exact(h Z ((d X f b Z).mp<|lx a)<|aX.mpr e).elim
theorem Yt(M:La S rk c)(e:xm S c rk L):∀(k X:Nat),Oc X<=k->X≠0->X<2^S.length->∀g,base<=Aj rk L base k X g/\Aj rk L base k X g<=gh rk L base k X
 |0,X,l,a,_,_=>by have:=nD a;lia
 |k+1,X,l,a,d,g=>by
  have p:=(TU base<|Za rk X).2;have q:=NA (rk:=rk) (L:=L) (base:=base) (k:=k) (X:=X)
  by_cases h:∃Y,Af S c rk (Za rk X) X Y/\g∈aQ Y
  .obtain⟨Y,b,f⟩:=h;obtain⟨j,_,i,n,_⟩:=fB M b a d;have m:=Yt M e k Y (by lia) j.1 i g
   have o:=xC (base:=base) e (k:=k) a d b;rw[Xt M e a d b f];lia
  rw[xB e a d λY b f=>h ⟨Y,b,f⟩]
  lia
theorem S2(M:La S rk c)(f:xm S c rk L):∀(k X:Nat),Oc X<=k->X≠0->X<2^S.length->∀{Z:Nat},Ec S c Z->nU Z X->∃T,(∃g∈aQ Z,Aj rk L base k X g=T)/\(∀g∈aQ Z,Aj rk L base k X g<=T)/\(T%2=0↔Za rk Z=true)
 |0,X,i,a,_,_,_,_=>by have:=nD a;lia
 |k+1,X,i,a,d,Z,l,o=>by
  rcases qQ M (k+1) X i a d rfl l o with ⟨Y,j,b⟩|⟨e,r,p,q⟩
  .obtain⟨n,_,m,u,_⟩:=fB M j a d;obtain⟨T,⟨g,h,v⟩,t,s⟩:=S2 M f k Y (by lia) n.1 m l b
   exact⟨T,⟨g,h,by rwa [Xt M f a d j<|b g h]⟩,λg h=>by rw[Xt M f a d j<|b g h];exact t g h,s⟩
  refine⟨gh rk L base (k+1) X,⟨r,p,xB f a d q⟩,λg _=>(Yt M f (k+1) X i a d g).2,?_⟩
  rw[e];exact Q2 M f (k+1) X i a d
inductive Row (S:be) (c:Nat) (rk:am) (base:Nat):At
 |one {Z:Nat}:Ec S c Z->Row S c rk base Z (dM base<|Za rk Z)
 |up {Y Z v:Nat}:Row S c rk base Y v->Ec S c Z->nU Y Z->Za rk Y≠Za rk Z->Row S c rk base Z (v+1)
def Row.lp{v:Nat}(h:Row S c rk base Z v):Ec S c Z:=by
 cases h with
 |one h=>exact h
 |up _ h _ _=>exact h
theorem cK(M:La S rk c)(m:xm S c rk L):∀(k X:Nat),Oc X<=k->X≠0->X<2^S.length->∀{Z v:Nat},Row S c rk base Z v->nU Z X->v<=gh rk L base k X/\(Za rk Z≠Za rk X->v<gh rk L base k X)
 |0,X,j,d,_,_,_,_,_=>by have:=nD d;lia
 |k+1,X,j,d,i,Z,v,f,l=>by
  have p:∀{Z v:Nat},Row S c rk base Z v->∀Y,Af S c rk (Za rk X) X Y->nU Z Y->v<gh rk L base (k+1) X:=λ{Z v} f Y b a=>by
   obtain⟨r,_,q,x,_⟩:=fB M b d i;have w:=(cK M m k Y (by lia) r.1 q f a).1
   have y:=xC (base:=base) m (k:=k) d i b;lia
  rcases qQ M (k+1) X j d i rfl f.lp l with ⟨Y,b,a⟩|⟨e,_⟩
  .have:=p f Y b a;exact⟨by lia,λ_=>this⟩
  refine⟨?_,λh=>(h e).elim⟩
  cases f with
  |one _=>rw[e];exact NA
  |up o _ t n=>
   rcases qQ M (k+1) X j d i rfl o.lp (λg s=>l g<|t g s) with ⟨Y,b,a⟩|⟨u,_⟩
   .have:=p o Y b a;lia
   rw[e,u]at n;exact(n rfl).elim
theorem eK(M:La S rk c)(d:xm S c rk L):∀(k X:Nat),Oc X<=k->Ec S c X->X<2^S.length->Row S c rk base X (gh rk L base k X)
 |0,X,l,a,_=>by have:=nD a.1;lia
 |k+1,X,l,a,b=>by
  rcases Wt d a.1 b with e|⟨Y,n,e⟩
  .rw[e];exact .one a
  obtain⟨j,i,h,o,f⟩:=fB M n a.1 b;rw[e];exact .up (eK M d k Y (by lia) j h) a (λg m=>(kZ.mp<|i g m).1) f
end
theorem Vk(M:La S rk c)(b:n<2^S.length):(aQ n).length<=8:=by
 have:=kI S.length _ (dR n) λx a=>cB b a
 have:=M.most;lia
theorem JW(M:La S rk c)(b:n<2^S.length){a:Nat}{st:xa}(h:st[a]?=some (some<|.v<|.int (n:Int))):aM cQ (aB (aA a) aK) st=.ok (.lst<|da<|aQ n):=
 aO (aV (Qv h) rfl) (rZ b (by have:=M.most;lia))
theorem þ(M:La S rk c)(a:n<2^S.length)(d:n≠0):qZ [mD S rk c,.int n]=.ok (.int<|kh rk n):=by
 have f:=Vk M a;exact bV rfl<|aL (bT<|aO rfl<|K2 M a d)<|cT<|aO (aV (fH (mX<|JW M a rfl) (by rw[aY];lia) (fK (aQ n) λr b=>by
  have e:r<rk.length:=by rw[M.Qp];exact cB a b
  exact⟨_,rfl,(aG (aG (yQ) rfl<|iC (by
   rw[Jb (by rwa [aY])]
   simp[da,List.getElem?_eq_getElem e])) rfl<|qP _ _),rfl⟩)) rfl)<|KA (λr b=>by have:=cB a (df.mp b).1;have:=M.most;lia) (by have:=Ax (λr=>!decide ((rk.getD r 0)=fY rk n))<|aQ n;lia)
theorem pT(f:ol)(q:sK):∀(c ps:am),ps.Nodup->(c.foldl (λps r=>if f r∉ps/\q (f r)=true then ps++[f r] else ps) ps).Nodup
 |[],_,h=>h
 |r::c,ps,h=>by
  rw[Mm];refine pT f q c _ ?_
  split
  .refine Im.mpr ⟨h,aj.mpr ⟨not_mem_nil,ar⟩,λa g b d e=>?_⟩
   simp_all
  exact h
def Æ:(fX S c m).Nodup:=pT _ _ _ _ ar
noncomputable def kf(l:am):Nat:=(l.map Oc).sum
def SI(l m:am):kf (l++m)=kf l+kf m:=by unfold kf;simp
def bMh{l:am}(f:l.Nodup)(hs:∀q∈l,nU q m)(d:∀p∈l,∀q∈l,∀g,g∈aQ p->g∈aQ q->p=q):kf l<=Oc m:=by
 have h:∀l:am,l.Nodup->(∀p∈l,∀q∈l,∀g,g∈aQ p->g∈aQ q->p=q)->(l.flatMap aQ).Nodup/\(l.flatMap aQ).length=kf l:=λl=>by
  induction l with
  |nil=>exact λ_ _=>⟨ar,rfl⟩
  |cons p l s=>
   intro f d;obtain⟨k,n⟩:=aj.mp f;obtain⟨t,v⟩:=s n λp u q c=>d p (Ab _ u) q<|Ab _ c
   refine⟨Im.mpr ⟨dR p,t,λa ha b j e=>?_⟩,?_⟩
   .obtain⟨q,c,j⟩:=List.mem_flatMap.mp j;subst e;rw[d p zb q (Ab _ c) a ha j]at k;exact k c
   unfold kf Oc;simp
 obtain⟨r,o⟩:=h l f d;rw[<-o];exact r.length_le_of_subset λg i=>by
  obtain⟨q,c,i⟩:=List.mem_flatMap.mp i;exact hs q c g i
theorem Ŀ(M:La S rk c){p:Nat}(n:p≠0)(d:p<2^S.length):kf (fX S c<|kh rk p)<Oc p:=by
 obtain⟨⟨r,i,e⟩,_⟩:=xU n;have h:=bMh (m:=kh rk p) Æ (λq j=>(dU M (pA d) j).2.1) λa m b l g h f=>wB M (pA d) m l h f
 have f:Oc (kh rk p)<Oc p:=eL (λg k=>(kZ.mp k).1) i λz=>(kZ.mp z).2 e
 lia
theorem UU(q:sK):∀(l:am),(∀x∈l,1<=Oc x)->(l.filter λx=>!q x).length+kf (l.filter q)<=kf l
 |[],_=>Cb _
 |x::l,h=>by
  have c:=UU q l λx b=>h x<|Ab _ b
  have e:kf (x::l)=Oc x+kf l:=by unfold kf;simp
  cases a:q x
  .grind
  rw[Pq (by simp[a]),Mn (by simp[a])]
  have e2:kf (x::l.filter q)=Oc x+kf (l.filter q):=by unfold kf;simp
  lia
abbrev Jy(S:be)(rk:am)(c n:Nat)(F T:am)(b a:li):xa:=[some<|.v<|mD S rk c,some<|.v<|.int n,some<|.o .l<|da F,some<|.o .l<|da T,b,a]
def OA(M:La S rk c)(b:n<2^S.length)(e:n≠0){a:Nat}{st:xa}(h:st[a]?=some (some<|.v<|.int (n:Int)))(d:st[0]?=some (some<|.v<|mD S rk c)):aM kO (aB (aA 0)<|aB (aA a) aK) st=.ok (.bl<|Za rk n):=
 aO (aV (by simp[d])<|aV (Qv h) rfl) (bHv M b e)
def UI(p q:Bool):wc (.bl p) (.bl q)=.ok (.bl<|p==q):=aD ⟨He 64,rfl,rfl⟩
theorem WG(M:La S rk c)(i:n<2^S.length)(j:n≠0){g:li}:∀(l F T:am)(f:li),(∀q∈l,q≠0/\q<2^S.length)->F.length+l.length<=1000->T.length+l.length<=1000->
  ∃d,Eb (Ya 5) zT (da l) (Jy S rk c n F T g f)=.ok (.nx<|Jy S rk c n (F++l.filter λq=>!(Za rk q==Za rk n)) (T++l.filter λq=>Za rk q==Za rk n) g d)
 |[],F,T,f,_,_,_=>⟨f,by rw[filter_nil,filter_nil,Hh,Hh];rfl⟩
 |q::l,F,T,f,h,p,o=>by
  rw[ie]at p o;obtain⟨m,k⟩:=h q zb;have b:(e2 wc (aM kO<|aB (aA 0)<|aB (aA 5) aK)<|aM kO<|aB (aA 0)<|aB (aA 1) aK) (Jy S rk c n F T g q)=.ok (.bl<|Za rk q==Za rk n):=aG (OA M k m rfl rfl) (OA M i j rfl rfl)<|UI _ _;cases a:Za rk q==Za rk n
  .obtain⟨d,e⟩:=WG M i j l (F++[q]) T q (λq a=>h q<|Ab _ a) (by simp;lia) (by lia)
   refine⟨d,lN rfl (jH (b.trans<|by rw[a])<|Fo rfl rfl<|by rw[aY];lia) ?_⟩
   rw[Mn (by simp[a]),Pq (by simp[a])]
   rw[Zk]at e
   rwa [<-xQ]
  obtain⟨d,e⟩:=WG M i j l F (T++[q]) q (λq a=>h q<|Ab _ a) (by lia) (by simp;lia)
  refine⟨d,lN rfl (zh (b.trans<|by rw[a])<|Fo rfl rfl<|by rw[aY];lia) ?_⟩
  rw[Pq (by simp[a]),Mn (by simp[a])]
  rw[Zk]at e
  rwa [<-xQ]
def SH{w:Bool}{P:Nat}:Af S c rk w P Y↔(Y∈fX S c (kh rk P)/\Za rk Y≠w)\/∃Q∈fX S c (kh rk P),Za rk Q=w/\Af S c rk w Q Y:=by
 constructor
 .intro h;cases h with
  |out b a=>exact .inl ⟨b,a⟩
  |go b a d=>exact .inr ⟨_,b,a,d⟩
 rintro(⟨b,a⟩|⟨Q,b,a,d⟩)
 .exact .out b a
 exact .go b a d
theorem Io(T:am):Xd (.lst<|da T) (.lst [])=.ok (.bl<|!decide (T=[])):=by
 obtain⟨c,b,_⟩:=eY T;have d:Me (.lst<|da T)=1:=by unfold Me;rw[b]
 have a:qd (.lst<|da T) (.lst [])=decide (T=[]):=by exact LA T []
 rw[X1,aD ⟨by lia,(by exact c),rfl⟩,a]
theorem bI4{st:xa}{x:D} (b:f st=.ok x) (hs:st[j]?=some (some<|.o .l<|ys++[d])) (c:ys.length<1000) (a:p [x,d]=.ok y):WB i j p f st=.ok (.nx<|(st.set j<|some<|.o .l ys).set i y):=by
 unfold WB;rw[b,bD,hs];dsimp only;rw[i7,List.getLast?_singleton,Option.some_or];dsimp only;rw[aD<|dO<|by rw[ef,Yi];lia,a,bD,List.dropLast_concat]
theorem ÿ(M:La S rk c)(N:n<2^S.length)(W:n≠0):∀(k f:Nat)(F T:am)(r o:li),kf T<=k->k<f->(∀q∈T,q≠0/\q<2^S.length)->F.length+kf T<=100->
  ∃u G w,lH zV zU f (Jy S rk c n F T r o)=.ok (.nx<|Jy S rk c n u [] G w)/\u.length<=100/\∀Y,Y∈u↔Y∈F\/∃P∈T,Af S c rk (Za rk n) P Y:=by
 intro k
 induction k with
 |zero=>
  intro f F T r o A U t v;obtain⟨f,rfl⟩:∃g,f=g+1:=⟨f-1,by lia⟩
  cases T with
  |nil=>exact⟨F,r,o,Mz<|aG rfl (dZ rfl)<|Io [],by lia,λY=>⟨.inl,λz=>z.elim id λ⟨_,h,_⟩=>nomatch h⟩⟩
  |cons p T=>
   have:=nD (t p zb).1;unfold kf at A;simp at A;lia
 |succ k y=>
  intro f F T r o A U t v;obtain⟨f,rfl⟩:∃g,f=g+1:=⟨f-1,by lia⟩
  rcases CD T with rfl|⟨m,p,rfl⟩
  .exact⟨F,r,o,Mz<|aG rfl (dZ rfl)<|Io [],by lia,λY=>⟨.inl,λz=>z.elim id λ⟨_,h,_⟩=>nomatch h⟩⟩
  rw[DD]at *;obtain⟨x,s⟩:=t p<|se _ zb;have K:=nD x;have Z:kf (m++[p])=kf m+Oc p:=by rw[SI];unfold kf;simp
  have L:=Ŀ M x s;have a:∀q∈fX S c (kh rk p),q≠0/\q<2^S.length:=λq b=>⟨(dU M (pA s) b).1.1,(dU M (pA s) b).2.2⟩
  have J:=UU (λq=>Za rk q==Za rk n) (fX S c<|kh rk p) λq b=>nD (a q b).1
  have C:∀l:am,(∀q∈l,q≠0)->l.length<=kf l:=λl v=>by
   induction l with
   |nil=>exact Cb _
   |cons q l y=>
    have e:kf (q::l)=Oc q+kf l:=by unfold kf;simp
    have:=nD<|v q zb;have:=y λq b=>v q<|Ab _ b
    rw[ie];lia
  have O:=C _ λq b=>(a q b).1
  have R:=C m λq b=>(t q<|Ke _ b).1
  obtain⟨w,e1⟩:=WG M N W (fX S c<|kh rk p) F m o a (by lia) (by lia)
  obtain⟨u,E,D,X,H,I⟩:=y f (F++(fX S c<|kh rk p).filter λq=>!(Za rk q==Za rk n)) (m++(fX S c<|kh rk p).filter λq=>Za rk q==Za rk n) (kh rk p) w (by rw[SI];lia) (by lia) (λq b=>by
   rcases wg.mp b with h|h
   .exact t q (Ke _ h)
   exact a q (df.mp h).1) (by rw[SI,ef];lia)
  refine⟨u,E,D,LH (aG rfl (dZ rfl) ?_) (aL ?_<|iB (mX<|aO rfl<|PH M<|pA s) e1) X,H,λY=>?_⟩
  .rw[show Jp .l (da<|m++[p])=.lst (da<|m++[p]) from rfl,Io]
   simp
  .exact bI4 rfl (by rw[<-xQ];rfl) (by rw[aY];lia) (þ M s x)
  rw[I Y];constructor
  .rintro(h|⟨P,B,h⟩)
   .rcases wg.mp h with h|h
    .exact .inl h
    obtain⟨i,d⟩:=df.mp h;exact .inr ⟨p,se _ zb,SH.mpr<|.inl ⟨i,by simpa using d⟩⟩
   rcases wg.mp B with j|j
   .exact .inr ⟨P,Ke _ j,h⟩
   obtain⟨i,d⟩:=df.mp j;exact .inr ⟨p,se _ zb,SH.mpr<|.inr ⟨P,i,by simpa using d,h⟩⟩
  rintro(h|⟨P,B,h⟩)
  .exact .inl (Ke _ h)
  rcases wg.mp B with j|j
  .exact .inr ⟨P,Ke _ j,h⟩
  rw[Fe.mp j]at h;rcases SH.mp h with ⟨i,d⟩|⟨Q,i,d,V⟩
  .exact .inl (se _<|df.mpr ⟨i,by simpa using d⟩)
  exact .inr ⟨Q,se _<|df.mpr ⟨i,by simpa using d⟩,V⟩
theorem bDb(M:La S rk c)(a:n<2^S.length)(b:n≠0):∃F,iV [mD S rk c,.int n]=.ok (.lst<|da F)/\F.length<=100/\∀Y,Y∈F↔Af S c rk (Za rk n) n Y:=by
 have e1:kf [n]=Oc n:=by unfold kf;simp
 have g:Oc n<=8:=Vk M a;obtain⟨F,f,d,e,l,i⟩:=ÿ M a b 8 100000 [] [n] none none (by lia) (by lia) (λq h=>by simp_all) (by simp;lia)
 refine⟨F,bV rfl ?_,l,λY=>?_⟩
 .exact aL (uA<|dZ rfl) (aL (uA<|dZ rfl)<|aL e<|cT rfl)
 grind
end
section
variable{S:be}{rk:am}{c n base:Nat}
open Classical in
noncomputable def Wk(S:be)(rk:am)(c X:Nat):am:=if h:∃F,iV [mD S rk c,.int X]=.ok (.lst<|da F)/\F.length<=100/\∀Y,Y∈F↔Af S c rk (Za rk X) X Y then h.choose else []
def VI(M:La S rk c)(a:n<2^S.length)(b:n≠0):iV [mD S rk c,.int n]=.ok (.lst<|da<|Wk S rk c n)/\(Wk S rk c n).length<=100/\∀Y,Y∈Wk S rk c n↔Af S c rk (Za rk n) n Y:=by
 have h:=bDb M a b;unfold Wk;rw[dif_pos h];exact h.choose_spec
def gC(M:La S rk c):xm S c rk (Wk S rk c):=λX b a Y=>(VI M a b).2.2 Y
noncomputable def vN(S:be)(c:Nat):Nat:=iM S c (iW<|List.range S.length) 0
def uE:vN S c<2^S.length:=zv
noncomputable def sH(S:be)(c:Nat):am:=fX S c<|vN S c
theorem KW(M:La S rk c):nQ [mD S rk c]=.ok (.lst<|da<|sH S c):=
 bV rfl (cT<|aO (aV rfl<|aV (aO rfl<|bD5 M (by have:=M.one;lia)) rfl)<|PH M uE)
abbrev dW(W:ol)(l:am):im:=l.map λg=>D.int (W g:Nat)
theorem T2{W:ol} {g:Nat} (d:l.Nodup):∃c,uP (da l) (.int g)=da c/\uQ (da l) (dW W l) (.int g) (.int (W g:Nat))=dW W c/\c.Nodup/\c.length<=l.length+1/\∀x,x∈c↔x∈l\/x=g:=by
 by_cases h:g∈l
 .obtain⟨e1,e2⟩:=VY h;refine⟨l,e1,e2.trans<|yk λk _=>?_,d,by lia,λx=>⟨.inl,λz=>z.elim id λz=>z ▸ h⟩⟩
  grind
 obtain⟨e1,e2⟩:=JI h;refine⟨l++[g],e1,e2.trans (by simp),Im.mpr ⟨d,aj.mpr ⟨not_mem_nil,ar⟩,λa i b f e=>?_⟩,by simp,λx=>by simp⟩
 simp_all
noncomputable abbrev Xh(S:be)(rk:am)(c base k X g:Nat):Nat:=Aj rk (Wk S rk c) base k X g
noncomputable abbrev De(S:be)(rk:am)(c base k X:Nat):Nat:=gh rk (Wk S rk c) base k X
theorem yB(M:La S rk c){k X:Nat}(i:Oc X<=k)(b:X<2^S.length)(a:Ec S c X):∃r∈aQ X,Xh S rk c base k X r=De S rk c base k X:=by
 have m:=nD a.1;obtain⟨k,rfl⟩:∃j,k=j+1:=⟨k-1,by lia⟩
 rcases qQ M (k+1) X i a.1 b rfl a (λ_ h=>h) with ⟨Y,l,e⟩|⟨_,r,f,g⟩
 .obtain⟨_,_,_,d,_⟩:=fB M l a.1 b;have:=(dR X).length_le_of_subset e;unfold Oc at d;lia
 exact⟨r,f,xB (gC M) a.1 b g⟩
theorem U2{W:ol}:∀(m l:am),l.Nodup->∃a,Gn (da l) (dW W l) (da m) (dW W m)=(da a,dW W a)/\a.Nodup/\∀x,x∈a↔x∈l\/x∈m
 |[],l,b=>⟨l,by cases h:da l<;>rfl,b,λx=>by simp⟩
 |g::m,l,b=>by
  obtain⟨f,e1,e2,d,_,k⟩:=T2 b;obtain⟨e,i,c,j⟩:=U2 m f d;refine⟨e,?_,c,λx=>?_⟩
  .show Gn _ _ (da m) _=_;rw[e1,e2,i]
  grind
theorem V2{st:xa}{m:am}(g:f st=.ok (.Hd false (da m)<|dW W m))(hs:st[i]?=some (some<|.o (.d false<|da l)<|dW W l))(b:l.Nodup)(j:l.length<=1000)(h:m.length<=1000):∃a,ax i f st=.ok (.nx<|st.set i<|some<|.o (.d false<|da a)<|dW W a)/\a.Nodup/\∀x,x∈a↔x∈l\/x∈m:=by
 obtain⟨a,e,c,d⟩:=U2 m l b;refine⟨a,?_,c,d⟩;unfold ax;rw[g,bD,hs];dsimp only;rw[aD ⟨by rw[aY,lc],dO<|by rw[lc,lc];lia⟩,e]
theorem bI5{st:xa} {v:Nat} (m:g st=.ok (.int r)) (n:f st=.ok (.int v)) (hs:st[i]?=some (some<|.o (.d false<|da l)<|dW W l)) (b:l.Nodup) (p:l.length<1000) (k:r∉l->W r=v):∃a,XB i g f st=.ok (.nx<|st.set i<|some<|.o (.d false<|da a)<|dW W a)/\a.Nodup/\∀x,x∈a↔x∈l\/x=r:=by
 have o:st.set i (some<|.o (.d false<|da l)<|dW W l)=st:=by
  refine List.ext_getElem? λj=>?_
  rw[jd]
  by_cases e:i=j
  .subst e;rw[Ka rfl,Ka<|(pe.mp hs).1,hs]
  rw[Ea e]
 unfold XB;rw[m,bD,n,bD,hs];dsimp only;rw[aD ⟨rfl,Bt<|by rw[lc];lia⟩,Zz]
 by_cases h:r∈l
 .exact⟨l,by rw[Cc h,Ka rfl,o],b,λx=>⟨.inl,λz=>z.elim id λz=>z ▸ h⟩⟩
 obtain⟨a,e1,e2,c,_,d⟩:=T2 b;refine⟨a,?_,c,d⟩;rw[Qc h,Ea zk,e1,<-k h,e2]
theorem bDf(base:Nat)(b:Bool):tV [.int base,.bl b]=.ok (.int<|dM base b):=by
 have t:(e2 wc (e2 wc (e2 pH (aA 0)<|eI 2)<|eI 0)<|aA 1) [base,D.bl b]=.ok (.bl<|decide (base%2=0)==b):=by
  refine aG (aG (aG rfl rfl<|vA<|by lia) rfl<|oM _ _) rfl<|(UI _ _).trans ?_
  have:decide ((base:Int)%2=0)=decide (base%2=0):=Sq.mpr (by lia)
  rw[this]
 refine bV rfl<|cT ?_;show (e2 wc _ _ [some _,some _]).bind _=_;rw[t,bD,rq];unfold dM;cases h:decide (base%2=0)==b
 .exact aG rfl rfl (by rfl)
 rfl
abbrev Zt(S:be)(rk:am)(c X base:Nat)(W:ol)(l:am)(r:Nat)(d b a:li):xa:=[some<|.v<|mD S rk c,some<|.v<|.int X,some<|.v<|.int base,some<|.o (.d false<|da l)<|dW W l,some<|.v<|.int r,d,b,a]
def Gives(S:be)(rk:am)(c base k X:Nat)(p:cr):Prop:=∃l,p [mD S rk c,.int X,.int base]=.ok (.Hd false (da l)<|dW (Xh S rk c base k X) l)/\l.Nodup/\∀g,g∈l↔g∈aQ X
def bI6(M:La S rk c){k:Nat}(d:Oc Y<=k)(f:Y<2^S.length)(b:Ec S c Y) (j:∀g,g∈l↔g∈aQ Y):YB (.Hd false (da l)<|dW (Xh S rk c base k Y) l)=.ok (.int<|De S rk c base k Y):=by
 obtain⟨r,i,m⟩:=yB M d f b;show (nP _).bind _=_;have e:dW (Xh S rk c base k Y) l=(l.map λg=>((Xh S rk c base k Y g):Int)).map D.int:=by simp
 have a:=(j r).mpr i;rw[e,iJ,bD,aD (by rw[lc];exact S6 a)]
 congr 2;refine yM (Zc.mpr ⟨r,a,by rw[m]⟩) λx h=>?_
 obtain⟨g,_,rfl⟩:=Zc.mp h;exact Int.ofNat_le.mpr (Yt M (gC M) k Y d b.1 f g).2
theorem JS(M:La S rk c){k X:Nat}(P:Oc X<=k+1)(x:X≠0)(s:X<2^S.length){d:cr}(B:∀Y,Oc Y<=k->Ec S c Y->Y<2^S.length->Gives S rk c base k Y d){v:li}:∀(b l:am)(r:Nat)(n j:li),(∀Y∈b,Af S c rk (Za rk X) X Y)->l.Nodup->(∀g∈l,g∈aQ X)->
  ∃a u t,Eb (Ya 5) (xH d) (da b) (Zt S rk c X base (Xh S rk c base (k+1) X) l r n v j)=.ok (.nx<|Zt S rk c X base (Xh S rk c base (k+1) X) a (Uo (De S rk c base k) r b) u v t)/\a.Nodup/\(∀g∈a,g∈aQ X)/\∀g,g∈a↔g∈l\/∃Y∈b,g∈aQ Y
 |[],l,r,n,j,_,o,p=>⟨l,n,j,rfl,o,p,λg=>⟨.inl,λz=>z.elim id λ⟨_,h,_⟩=>nomatch h⟩⟩
 |Y::b,l,r,n,j,h,o,p=>by
  have q:=h Y zb;obtain⟨A,L,w,R,_⟩:=fB M q x s;obtain⟨m,e1,H,e⟩:=B Y (by lia) A w
  have Q:dW (Xh S rk c base k Y) m=dW (Xh S rk c base (k+1) X) m:=yk λg f=>by
   show D.int ((Aj rk (Wk S rk c) base k Y g))=D.int ((Aj rk (Wk S rk c) base (k+1) X g));rw[Xt M (gC M) x s q<|(e g).mp f]
  have N:=Vc (H.length_le_of_subset λg f=>(e g).mp f)<|Vk M w
  have O:=Vc (o.length_le_of_subset p)<|Vk M s;obtain⟨K,C,G,y⟩:=V2 (i:=3) (f:=aA 7) (st:=Zt S rk c X base (Xh S rk c base (k+1) X) l (max r<|De S rk c base k Y+1) Y v<|D.Hd false (da m)<|dW (Xh S rk c base k Y) m) (by rw[<-Q];rfl) rfl o (by lia) (by lia)
  obtain⟨a,u,t,E,F,J,I⟩:=JS M P x s B b K (max r<|De S rk c base k Y+1) Y (D.Hd false (da m)<|dW (Xh S rk c base k Y) m) (λY q=>h Y<|Ab _ q) G<|λg f=>((y g).mp f).elim (p g) λz=>(kZ.mp<|L g<|(e g).mp z).1
  refine⟨a,u,t,lN rfl (aL (bT<|aO rfl e1)<|aL (bT<|aG rfl (aG (bI6 M (by lia) w A e) rfl rfl) rfl) ?_) E,F,J,λg=>?_⟩
  .refine Ox ?_ C;have:(if (((De S rk c base k Y))+1)>(r:Int) then (((De S rk c base k Y):Int)+1) else r)=((max r<|De S rk c base k Y+1)):=by
    split<;>lia
   rw[this];rfl
  rw[I g,y g,e g];constructor
  .rintro((h|h)|⟨Z,i,h⟩)
   .exact .inl h
   .exact .inr ⟨Y,zb,h⟩
   exact .inr ⟨Z,Ab _ i,h⟩
  rintro(h|⟨Z,i,h⟩)
  .exact .inl (.inl h)
  rcases Pb.mp i with z|i
  .exact .inl (.inr<|z ▸ h)
  exact .inr ⟨Z,i,h⟩
theorem sT{f:cr}{X:Nat}{W:ol}{r:Nat}:∀(a l:am)(d:li),l.Nodup->l.length+a.length<=100->(∀g∈a,g∉l->W g=r)->∃b e,Eb (Ya 6) (xJ f) (da a) (Zt S rk c X base W l r x5 d x7)=.ok (.nx<|Zt S rk c X base W b r x5 e x7)/\b.Nodup/\∀g,g∈b↔g∈l\/g∈a
 |[],l,d,i,_,_=>⟨l,d,rfl,i,λg=>by simp⟩
 |g::a,l,d,i,u,h=>by
  rw[ie]at u;obtain⟨q,e1,m,j⟩:=bI5 (i:=3) (g:=aA 6) (f:=aA 4) (st:=Zt S rk c X base W l r x5 (some<|.v _) x7) rfl rfl rfl i (by lia)<|h g zb
  have t:=by
   have:=m.length_le_of_subset (l₂:=g::l) λx k=>by
    rcases (j x).mp k with z|z
    .exact Ab _ z
    rw[z];exact zb
   rwa [ie]at this
  obtain⟨b,e,n,o,p⟩:=sT a q _ m (by lia) λx k s=>h x (Ab _ k) λz=>s<|(j x).mpr<|.inl z
  refine⟨b,e,lN rfl e1 n,o,λx=>?_⟩
  rw[p x,j x,Pb];constructor
  .rintro((h|h)|h)
   .exact .inl h
   .exact .inr (.inl h)
   exact .inr<|.inr h
  rintro(h|h|h)
  .exact .inl (.inl h)
  .exact .inl (.inr h)
  exact .inr h
theorem LW(M:La S rk c):∀(k X:Nat),Oc X<=k->Ec S c X->X<2^S.length->Gives S rk c base k X (nZ k)
 |0,X,l,x,_=>by have:=nD x.1;lia
 |k+1,X,l,b,a=>by
  have t:=Vk M a;obtain⟨y,_,e⟩:=VI M a b.1;obtain⟨q,B,z,e1,i,s1,j⟩:=JS M l b.1 a (λY w v u=>LW M k Y w v u) (Wk S rk c X) [] _ none none (λY d=>(e Y).mp d) ar (λ_ h=>nomatch h)
  have s:=Vc (i.length_le_of_subset s1) t;obtain⟨p,A,m,n,o⟩:=sT (aQ X) q none i (by lia) λg C r=>xB (gC M) b.1 a λY d f=>r<|(j g).mpr<|.inr ⟨Y,(e Y).mpr d,f⟩
  refine⟨p,bV rfl ?_,n,λg=>?_⟩
  .exact aL rfl (aL (bT<|aO (aV rfl<|aV (OA M a b.1 rfl rfl) rfl)<|bDf _ _)<|aL (iB (mX<|aO rfl y) e1)<|aL (iB (mX<|JW M a rfl) m)<|cT rfl)
  rw[o g,j g];constructor
  .rintro((h|⟨Y,d,h⟩)|h)
   .exact nomatch h
   .exact(kZ.mp<|(fB M ((e Y).mp d) b.1 a).2.1 g h).1
   exact h
  exact .inr
noncomputable def wL(S:be)(rk:am)(c base g:Nat):Nat:=match (sH S c).find? λX=>X.testBit g with
 |some X=>Xh S rk c base 12 X g
 |none=>base
def wC(M:La S rk c){X g:Nat}(d:X∈sH S c)(b:g∈aQ X):wL S rk c base g=Xh S rk c base 12 X g:=by
 unfold wL;cases a:(sH S c).find? λX=>X.testBit g with
 |none=>exact(QM.mp a X d<|aX.mp b).elim
 |some Z=>
  have e:=PD a;rw[wB M uE d (lx a) b<|aX.mpr e]
def xV{g:Nat}(h:∀X∈sH S c,g∉aQ X):wL S rk c base g=base:=by
 unfold wL;cases a:(sH S c).find? λX=>X.testBit g with
 |none=>rfl
 |some Z=>exact(h Z (lx a)<|aX.mpr<|by simpa using List.find?_some a).elim
noncomputable abbrev gL(S:be)(rk:am)(c base:Nat)(l:am)(a:li):xa:=[some<|.v<|mD S rk c,some<|.v<|.int base,some<|.o (.d false<|da l)<|dW (wL S rk c base) l,a,none]
theorem vT(M:La S rk c):∀(e l:am)(f:li),(∀X∈e,X∈sH S c)->l.Nodup->(∀g∈l,g<S.length)->∃a p,Eb (Ya 3) TR (da e) (gL S rk c base l f)=.ok (.nx<|gL S rk c base a p)/\a.Nodup/\(∀g∈a,g<S.length)/\∀g,g∈a↔g∈l\/∃X∈e,g∈aQ X
 |[],l,f,_,i,k=>⟨l,f,rfl,i,k,λg=>⟨.inl,λz=>z.elim id λ⟨_,h,_⟩=>nomatch h⟩⟩
 |X::e,l,f,h,i,k=>by
  have n:=h X zb;obtain⟨C,F,o⟩:=dU M uE n;have E:=M.most;obtain⟨m,e1,w,j⟩:=LW M 12 X (Vc (Vk M o)<|by lia) C o
  have D:dW (Xh S rk c base 12 X) m=dW (wL S rk c base) m:=yk λg b=>by rw[wC M n<|(j g).mp b]
  have A:=Vc (w.length_le_of_subset λg b=>(j g).mp b)<|Vk M o
  have B:=kI _ _ i k;rw[D]at e1;obtain⟨y,r,v,q⟩:=V2 (i:=2) (f:=aM pJ<|aB (aA 0)<|aB (aA 3)<|aB (aA 1) aK) (st:=gL S rk c base l X) (aO rfl e1) rfl i (by lia) (by lia)
  obtain⟨a,p,t,u,s,x⟩:=vT M e y X (λX n=>h X<|Ab _ n) v<|λg b=>((q g).mp b).elim (k g) λz=>cB o<|(j g).mp z
  refine⟨a,p,lN rfl r t,u,s,λg=>?_⟩
  rw[x g,q g,j g];constructor
  .rintro((h|h)|⟨Z,d,h⟩)
   .exact .inl h
   .exact .inr ⟨X,zb,h⟩
   exact .inr ⟨Z,Ab _ d,h⟩
  rintro(h|⟨Z,d,h⟩)
  .exact .inl (.inl h)
  rcases Pb.mp d with z|d
  .exact .inl (.inr<|z ▸ h)
  exact .inr ⟨Z,d,h⟩
def bDh{b:Bd} {st s:xa} (h:b st=.ok (.nx s)) (a:f s=.ok (.lst xs)):vV b f st=.ok (.rt<|.lst xs):=by
 unfold vV;rw[h];dsimp only;rw[a,bD]
noncomputable def eU(S:be)(rk:am)(c base:Nat):am:=(List.range S.length).map<|wL S rk c base
theorem WI(M:La S rk c)(base:Nat):eX [mD S rk c,.int base]=.ok (.lst<|da<|eU S rk c base):=by
 obtain⟨l,d,e,f,j,m⟩:=vT M _ [] none (λ_ h=>h) ar (λ_ h=>nomatch h)
 have i:=M.most;refine bV rfl<|bDh (aL rfl<|aL (iB (mX<|aO rfl<|KW M) e) rfl)<|fH (xq Wz<|by lia) (by simp;lia)<|Ox (fK _ λg k=>⟨_,rfl,rfl,by
  show aU _ _=_;rw[aD<|show Lb false _=true from rfl,Zz]
  by_cases h:g∈l
  .rw[Cc h,vB _ h];rfl
  rw[Qc h,Ea zk,xV λX a b=>h<|(m g).mpr<|.inr ⟨X,a,b⟩]⟩) ?_
 rw[tu.mpr<|λ_ _=>rfl]
 unfold eU da;rw[xg];rfl
end
section
variable{S:be}{rk:am}{c n:Nat}
inductive Ch (S:be) (c:Nat) (rk:am) (g:Bool):At
 |one {Z:Nat}:Ec S c Z->Za rk Z=g->Ch S c rk g Z 1
 |up {Y Z m:Nat}:Ch S c rk g Y m->Ec S c Z->nU Y Z->Za rk Y≠Za rk Z->Ch S c rk g Z (m+1)
def Ch.lp{g:Bool} (h:Ch S c rk g Z m):Ec S c Z:=by
 cases h with
 |one h _=>exact h
 |up _ h _ _=>exact h
def W2(hs:nU Y Z)(c:Y≠Z):Oc Y<Oc Z:=by
 by_cases h:∀r∈aQ Z,r∈aQ Y
 .exact(c<|N2 hs h).elim
 obtain⟨r,a⟩:=Classical.not_forall.mp h;obtain⟨a,b⟩:=Classical.not_imp.mp a;exact eL hs a b
theorem yq{g:Bool} (h:Ch S c rk g Z m):1<=m/\m<=Oc Z:=by
 induction h with
 |one h _=>exact⟨Cb _,nD h.1⟩
 |up _ _ b d a=>exact⟨by lia,Nat.lt_of_le_of_lt a.2<|W2 b λz=>d<|by rw[z]⟩
theorem kK{P:Go}:∀B:Nat,(∀m,P m->m<=B)->∃v,(v=0\/P v)/\∀m,P m->m<=v
 |0,h=>⟨0,.inl rfl,h⟩
 |B+1,h=>by
  by_cases a:P (B+1)
  .exact⟨B+1,.inr a,h⟩
  exact kK B λm b=>by
   grind
noncomputable def Ie(S:be)(c:Nat)(rk:am)(g:Bool)(Z:Nat):Nat:=(kK (P:=Ch S c rk g Z) (Oc Z) λm a=>(yq a).2).choose
def Sv(g:Bool)(Z:Nat):(Ie S c rk g Z=0\/Ch S c rk g Z (Ie S c rk g Z))/\∀m,Ch S c rk g Z m->m<=Ie S c rk g Z:=(kK (Oc Z) λm a=>(yq a).2).choose_spec
theorem bPz{g:Bool}{v:Nat}(d:v=0\/Ch S c rk g Z v)(b:∀m,Ch S c rk g Z m->m<=v):v=Ie S c rk g Z:=by
 obtain⟨s1,a⟩:=Sv (S:=S) (c:=c) (rk:=rk) g Z;grind
theorem X2:fY rk Y%2=fY rk Z%2↔Za rk Y=Za rk Z:=by
 unfold Za;lia
noncomputable def ai(rk:am)(V:ol)(Z b Y:Nat):Nat:=if Y|||Z=Z/\0<V Y/\Za rk Y≠Za rk Z then max b (V Y+1) else b
theorem VU{V:ol}{Z:Nat}:∀(p:am)(b:Nat),b<=p.foldl (ai rk V Z) b/\(∀Y∈p,Y|||Z=Z->0<V Y->Za rk Y≠Za rk Z->V Y+1<=p.foldl (ai rk V Z) b)/\(p.foldl (ai rk V Z) b=b\/∃Y∈p,Y|||Z=Z/\0<V Y/\Za rk Y≠Za rk Z/\p.foldl (ai rk V Z) b=V Y+1)
 |[],b=>⟨Cb _,λ_ h=>(nomatch h),.inl rfl⟩
 |Y::p,b=>by
  obtain⟨g,f,d⟩:=VU (V:=V) (Z:=Z) p<|ai rk V Z b Y;rw[Mm];have j:b<=ai rk V Z b Y:=by unfold ai;split<;>lia
  refine⟨by lia,λX hX h1 h2 h3=>?_,?_⟩
  .rcases Pb.mp hX with e|hX
   .have:ai rk V Z b X=max b (V X+1):=Ka ⟨h1,h2,h3⟩;lia
   exact f X hX h1 h2 h3
  rcases d with e|⟨X,hX,h⟩
  .by_cases a:Y|||Z=Z/\0<V Y/\Za rk Y≠Za rk Z
   .have c:ai rk V Z b Y=max b _:=Ka a
    by_cases i:V Y+1<=b
    .exact .inl (by lia)
    exact .inr ⟨Y,zb,a.1,a.2.1,a.2.2,by lia⟩
   have c:ai rk V Z b Y=b:=Ea a;exact .inl (by lia)
  exact .inr ⟨X,Ab _ hX,h⟩
abbrev Dm(d:am)(rk:am)(o:Nat)(c:li)(Z:Nat)(e:Int)(b:Nat)(a:li):xa:=[some<|.v<|.lst<|da d,some<|.v<|.lst<|da rk,some<|.v<|.int o,c,some<|.v<|.int Z,some<|.v<|.int e,some<|.v<|.int b,a]
theorem AB(M:La S rk c)(d:n<2^S.length)(e:n≠0){a:Nat}{st:xa}(h:st[a]?=some (some<|.v<|.int (n:Int)))(b:st[r]?=some (some<|.v<|.lst<|da rk)):e2 pH (aM lL<|aB (aA r)<|aB (aA a) aK) (eI 2) st=.ok (.int<|fY rk n%2):=
 aG (aO (aV (by simp[b])<|aV (Qv h) rfl)<|bHy M d e) rfl (vA<|by lia)
theorem bDk(M:La S rk c) {o:Nat} {V:ol} {Y b:Nat} (k:Z<2^S.length) (d:Y<2^S.length) (f:Y≠0):Gw 6 gQ gU (V Y:Nat) (Dm Ws rk o none Z (fY rk Z%2) b Y)=.ok (Dm Ws rk o none Z (fY rk Z%2) (ai rk V Z b Y) Y):=by
 have j:gQ (Dm Ws rk o none Z (fY rk Z%2) b Y)=.ok (.bl<|decide (Y|||Z=Z)):=E7 (P8 rfl rfl)<|Qv rfl
 have i:gU (Dm Ws rk o none Z (fY rk Z%2) b Y)=.ok (.bl<|!decide (fY rk Y%2=fY rk Z%2)):=aG (AB M d f rfl rfl) rfl<|qP _ _;unfold Gw;rw[j,bD,rq]
 by_cases h:Y|||Z=Z/\0<V Y
 .rw[Ka ⟨Cc h.1,by lia⟩,i,bD,rq]
  by_cases a:fY rk Y%2=fY rk Z%2
  .rw[Cc a,Ea (by decide)]
   have e:ai rk V Z b Y=b:=Ea λz=>z.2.2<|X2.mp a
   rw[e]
  rw[Qc a,Ka (by decide)]
  have e:ai rk V Z b Y=max b (V Y+1):=Ka ⟨h.1,h.2,λz=>a<|X2.mpr z⟩
  show Pu.R.ok _=_;have g:(if (V Y)+1>(b:Int) then (V Y:Int)+1 else b)=((max b<|V Y+1)):=by split<;>lia
  rw[g,e];rfl
 rw[Ea λz=>h ⟨gi z.1,by lia⟩]
 have e:ai rk V Z b Y=b:=Ea λz=>h ⟨z.1,z.2.1⟩
 rw[e]
theorem BZ(M:La S rk c){f:am}{o:Nat}{V:ol}{Z:Nat}(g:Z<2^S.length):∀(p:am)(b:Nat)(a:li),(∀Y∈p,Y<2^S.length/\Y≠0)->∃d,Ut 7 6 gQ gU (da p) (dW V p) (Dm f rk o none Z (fY rk Z%2) b a)=.ok (Dm f rk o none Z (fY rk Z%2) (p.foldl (ai rk V Z) b) d)
 |[],b,a,_=>⟨a,rfl⟩
 |Y::p,b,a,h=>by
  obtain⟨d,e⟩:=BZ M g p _ _ λY i=>h Y<|Ab _ i
  refine⟨d,?_⟩;show (Gw 6 gQ gU _<|Dm f rk o none Z _ b _).bind _=_
  rwa [bDk M g (h Y zb).1 (h Y zb).2]
theorem ŀ(M:La S rk c) {o:Nat} {g:Bool} (A:∀n,fY rk n%2=(o:Int)↔Za rk n=g) (u:Z<2^S.length) (k:Ec S c Z) {p:am} (t:∀Y∈p,Y<2^S.length/\Ec S c Y) (E:∀Y,Ec S c Y->nU Y Z->Y≠Z->Y∈p) (B:Z∉p) (K:p.length<1000) {s q d:li} :
  ∃x w h,mK [some<|.v<|.lst<|da Ws,some<|.v<|.lst<|da rk,some<|.v<|.int o,some<|.o (.d false<|da p)<|dW (Ie S c rk g) p,some<|.v<|.int Z,s,q,d]=.ok (.nx [some<|.v<|.lst<|da Ws,some<|.v<|.lst<|da rk,some<|.v<|.int o,some<|.o (.d false<|da<|p++[Z])<|dW (Ie S c rk g)<|p++[Z],some<|.v<|.int Z,x,w,h]):=by
 obtain⟨h,e⟩:=BZ M u p (if Za rk Z=g then 1 else 0) d λY l=>⟨(t Y l).1,(t Y l).2.1⟩
 have f:p.foldl (ai rk (Ie S c rk g) Z) (if Za rk Z=g then 1 else 0)=Ie S c rk g Z:=by
  obtain⟨H,G,b⟩:=VU p<|if Za rk Z=g then 1 else 0
  refine bPz ?_ λm C=>?_
  .rcases b with b|⟨Y,l,j,F,i,b⟩
   .by_cases a:Za rk Z=g
    .rw[b,Ka a];exact .inr<|.one k a
    rw[b,Ea a];exact .inl rfl
   rw[b];refine .inr<|.up ?_ k (ZJ.mp<|by rwa [ZD]) i
   rcases (Sv (S:=S) (c:=c) (rk:=rk) g Y).1 with z|z
   .lia
   exact z
  cases C with
  |one _ a=>rwa [Ka a]at H ⊢
  |up j F i v=>
   rename_i Y I;have J:=(Sv g Y).2 _ j;have:=(yq j).1;have:=G Y (E Y j.lp i λz=>v<|by rw[z]) (by rw[ZD];exact ZJ.mpr i) (by lia) v
   lia
 rw[f]at e;obtain⟨e1,y⟩:=JI B;refine⟨some<|.v<|.int<|fY rk Z%2,some<|.v<|.int<|Ie S c rk g Z,h,aL (bT<|AB M u k.1 rfl rfl)<|aL (st':=Dm Ws rk o (some<|.o (.d false<|da p)<|dW (Ie S c rk g) p) Z (fY rk Z%2) (if Za rk Z=g then 1 else 0) d) ?_<|aL (st':=Dm Ws rk o (some<|.o (.d false<|da p)<|dW (Ie S c rk g) p) Z (fY rk Z%2) (Ie S c rk g Z) h) ?_ ?_⟩
 .refine bT ?_
  show ((e2 wc (aA 5)<|aA 2) _).bind Zo=_;rw[show (e2 wc (aA 5)<|aA 2) (List.set [some<|Sl.v<|.lst<|da Ws,some<|.v<|.lst<|da rk,some<|.v<|.int o,some<|.o (.d false<|da p)<|dW (Ie S c rk g) p,some<|.v<|.int Z,s,q,d] 5<|some<|.v<|.int<|fY rk Z%2)=.ok (.bl<|decide (fY rk Z%2=o)) from aG rfl rfl<|oM _ _,bD,(Sq.mpr<|A Z)]
  by_cases a:Za rk Z=g
  .rw[Cc a,Ka a];rfl
  rw[Qc a,Ea a];rfl
 .show (Ut 7 6 gQ gU (da p) (dW (Ie S c rk g) p)<|Dm Ws rk o none Z (fY rk Z%2) (if Za rk Z=g then 1 else 0) d).bind _=_
  rw[e,bD];rfl
 refine(KI rfl rfl rfl rfl<|by rwa [lc]).trans ?_
 rw[e1,y];have:dW (Ie S c rk g) (p++[Z])=(p.map λr=>D.int<|Ie S c rk g r)++[.int<|Ie S c rk g Z]:=by simp
 rw[this];rfl
theorem WU(M:La S rk c){B:am}{o:Nat}{g:Bool}(u:∀n,fY rk n%2=(o:Int)↔Za rk n=g):∀(q p:am)(f d b a:li),(p++q).Nodup->(p++q).Pairwise (λx y=>Oc x<=Oc y)->(p++q).length<1000->(∀Y∈p++q,Y<2^S.length/\Ec S c Y)->(∀Z∈p++q,∀Y,Ec S c Y->nU Y Z->Y∈p++q)->
  ∃m l k j,Eb (Ya 4) mK (da q) [D.lst<|da B,D.lst<|da rk,o,some<|.o (.d false<|da p)<|dW (Ie S c rk g) p,f,d,b,a]=.ok (.nx [D.lst<|da B,D.lst<|da rk,o,some<|.o (.d false<|da<|p++q)<|dW (Ie S c rk g)<|p++q,m,l,k,j])
 |[],p,f,d,b,a,_,_,_,_,_=>⟨f,d,b,a,by rw[Hh];rfl⟩
 |Z::q,p,f,d,b,a,r,pw,s,i,t=>by
  have v:=i Z<|se _ zb;obtain⟨P,O,H⟩:=Im.mp r;obtain⟨N,G,L⟩:=sx.mp pw;obtain⟨F,E,C,e1⟩:=ŀ M u v.1 v.2 (λY I=>i Y<|Ke _ I) (λY J A w=>by
   rcases wg.mp (t Z (se _ zb) Y J A) with h|h
   .exact h
   rcases Pb.mp h with h|h
   .exact(w h).elim
   have:=List.rel_of_pairwise_cons G h;have:=W2 A w;lia) (λz=>H Z z Z zb rfl) (by rw[ef]at s;lia)
  have K:p++Z::q=p++[Z]++q:=by simp
  rw[K]at r pw s i t ⊢;obtain⟨m,l,k,j,e⟩:=WU M u q _ _ F E C r pw s i t;exact⟨m,l,k,j,lN rfl e1 e⟩
theorem Tv(h:Z<2^8):jP [.int Z]=.ok (.int<|Oc Z):=by
 have a:jC (Ya 1) rD rC [Z,none] _=.ok _:=fK (List.range 8) λr _=>⟨_,rfl,Iq rfl rfl,rfl⟩
 rw[FG h]at a;refine bV rfl<|cT ?_;have b:cL [1] (Ya 1) (tM<|eI 8) rD rC [some _,none]=.ok (.lst<|da _):=fH (xq rfl<|by lia) (by simp) a
 show (cL [1] (Ya 1) _ rD rC [some _,none]).bind dC=_;rw[b];show Pu.R.ok _=_;rw[aY];rfl
def Ł{out:im} (h:out.Perm (da l)):∃q:am,out=da q/\q.Perm l:=by
 have a:=h.map λd=>match d with|.int i=>i.toNat|_=>0
 have e:(da l).map (λd=>match d with|.int i=>i.toNat|_=>0)=l:=by
  unfold da;rw[xg];exact(yk λx _=>rfl).trans (List.map_id _)
 rw[e]at a;refine⟨_,?_,a⟩;unfold da;rw[xg];refine((yk λd hd=>?_).trans<|List.map_id _).symm
 obtain⟨x,_,rfl⟩:=pM<|h.mem_iff.mp hd;simp
theorem bI7(M:La S rk c){f:am}{o:Nat}{g:Bool}(K:∀n,fY rk n%2=(o:Int)↔Za rk n=g)(J:f.Nodup)(P:f.length<1000)(C:∀Y∈f,Y<2^S.length/\Ec S c Y)(u:∀Z∈f,∀Y,Ec S c Y->nU Y Z->Y∈f) :
  jF [.lst<|da f,.lst<|da rk,.int o]=.ok (.int<|if f.map (λZ=>((Ie S c rk g Z:Nat):Int))=[] then 0 else tQ (f.map λZ=>((Ie S c rk g Z:Nat):Int))):=by
 have s:=λY w=>We (C Y w).1<|FD (by decide) M.most
 have F:(da f).length<=1000/\∀d∈da f,∃n m,d=.int n/\jP [d]=.ok (.int m):=⟨by rw[aY];lia,λd u=>by
  obtain⟨x,r,rfl⟩:=pM u;exact⟨_,_,rfl,Tv<|s x r⟩⟩
 have good:∀q:am,q.Perm f->q.Pairwise (λx y=>Oc x<=Oc y)->(bC (Ro 3 false)<|bC (Cm (Ya 4) (aA 0) jP mK<|da q)<|cG<|e1 (Hw 0)<|cL [4] (Ya 4) (xc<|aA 0) dG mL) [D.lst<|da f,D.lst<|da rk,o,none,none,none,none,none]=.ok (.rt<|.int<|if f.map (λZ=>((Ie S c rk g Z):Int))=[] then 0 else tQ (f.map λZ=>((Ie S c rk g Z)))):=λq k E=>by
  obtain⟨H,B,A,z,e⟩:=WU M K q [] none none none none (by rw[Zq];exact k.nodup_iff.mpr J) E (by rwa [Zq,k.length_eq]) (λY w=>C Y<|k.mem_iff.mp w) λZ v Y p l=>k.mem_iff.mpr<|u Z (k.mem_iff.mp v) Y p l
  rw[Zq]at e;have I:Hq jP (da f) (da q):=⟨k.map _,by
   unfold da;rw[Lx];exact E.imp_of_mem λ{x y} r t h=>⟨_,_,Tv<|s x<|k.mem_iff.mp r,Tv<|s y<|k.mem_iff.mp t,by lia⟩⟩
  refine aL rfl<|aL ((OV rfl F I).trans e)<|cT ?_;have G:jC (Ya 4) dG mL [D.lst<|da f,D.lst<|da rk,o,some<|.o (.d false<|da q)<|dW (Ie S c rk g) q,none,B,A,z] (da f)=.ok ((f.filter λ_=>true).map λZ=>D.int<|Ie S c rk g Z):=fK f λZ v=>⟨_,rfl,rfl,aG rfl rfl<|Vs<|vB (λL=>D.int<|Ie S c rk g L)<|k.mem_iff.mpr v⟩
  rw[tu.mpr<|λ_ _=>rfl]at G
  show (cL [4] (Ya 4) (xc<|aA 0) dG mL [D.lst<|da f,D.lst<|da rk,o,some<|.o (.d false<|da q)<|dW (Ie S c rk g) q,H,B,A,z]).bind (Hw 0)=_;rw[(fH rfl (by rw[aY];lia) G),bD]
  show (nP<|f.map λZ=>D.int<|Ie S c rk g Z).bind _=_
  have N:(f.map λZ=>D.int<|Ie S c rk g Z)=(f.map λZ=>((Ie S c rk g Z):Int)).map D.int:=by rw[xg];rfl
  rw[N,iJ,bD]
 refine bV rfl ?_
 show (pN _ [D.lst<|da f,D.lst<|da rk,o,none,none,none,none,none]).bind _=_;rw[bPs _ (good _ (List.mergeSort_perm _ _)<|(List.pairwise_mergeSort (le:=λx y=>decide (Oc x<=Oc y)) (λa b c p l=>Cc<|Vc (gi p)<|gi l) (λa b=>by rcases Nat.le_total (Oc a) (Oc b) with h|h<;>simp[h]) f).imp λh=>gi h) (λout=>by
  by_cases ok:Hq jP (da f) out
  .obtain⟨q,rfl,k⟩:=Ł ok.1;refine .inl<|good q k ?_;have:=ok.2;unfold da at this;rw[Lx]at this;exact this.imp_of_mem λ{x y} r t ⟨i,j,p,l,O⟩=>by
    rw[Tv<|s x<|k.mem_iff.mp r]at p;rw[Tv<|s y<|k.mem_iff.mp t]at l;cases p;cases l;lia
  refine .inr<|aL rfl ?_;show Fm (Cm _ _ _ _ _ _) _=_;rw[bC8 rfl F ok];rfl)]
 rfl
end
theorem uF{op:Da} {st:xa} {x:D} {z:R D} (h:f st=.ok x) (a:op x=z):e1 op f st=z:=by
 simp_all
def ł(l:am)(k:Nat):iW (l++[k])=iW l|||2^k:=by
 unfold iW Wu;rw[List.foldl_append];rfl
theorem MW(p:sK):∀k,(((List.range k).filter p).map λr=>2^r).sum=iW ((List.range k).filter p)
 |0=>rfl
 |k+1=>by
  rw[nN,List.filter_append];have b:=MW p k;have a:iW ((List.range k).filter p)<2^k:=uC λr d=>Ff.mp (df.mp d).1
  cases c:p k with
  |true=>
   rw[Mn c,filter_nil,ł,Zi,List.sum_append,b,OM,List.sum_singleton,ZD];have:=Nat.two_pow_add_eq_or_of_lt a 1;rw[Nat.mul_one]at this;rw[<-this,Nat.add_comm]
  |false=>rw[Pq (by rw[c];decide),filter_nil,Hh,b]
theorem NW:∀a:am,(a.map λr=>((2^r:Nat):Int)).sum=(((a.map λr=>2^r).sum:Nat):Int)
 |[]=>rfl
 |k::a=>by rw[Ge,Ge,sum_cons,sum_cons,NW a,Int.natCast_add]
def bI8(n:Nat):iW (List.range n)=2^n-1:=ip λr=>by
 rw[jJ,Nat.testBit_two_pow_sub_one,Sq.mpr Ff]
theorem bI9{st:xa} (h:f st=.ok (.int n)) (a:n<=8):e2 wk (e2 Lj (eI 1) f) (eI 1) st=.ok (.int (iW (List.range n):Nat)):=by
 refine aG (aG rfl h<|YJ<|by lia) rfl ?_
 rw[bI8,Int.natCast_sub Nat.one_le_two_pow];rfl
theorem sum_set{l:am}(c:l.Nodup)(h:∀g∈l,g<n):(l.map λr=>2^r).sum=iW l:=by
 have b:l.Perm ((List.range n).filter λg=>decide (g∈l)):=(u6 c<|List.nodup_range.filter _).mpr λa=>by
  simp_all
 rw[(b.map λr=>2^r).sum_nat,MW]
 exact SY λr=>b.mem_iff.symm
section
variable{S:be}{rk:am}{c n base:Nat}
theorem OW(M:La S rk c):rT [.lst<|Va S]=.ok (.int<|vN S c):=by
 have o:=M.one;have j:=M.most;obtain⟨l,e,b,d⟩:=HW M (s:=0) (by lia)<|iW<|List.range S.length
 have lt:=λg n=>Ht M (by lia)<|(d g).mp n
 have p:=kI _ _ b lt;have k:iW l=vN S c:=ip λg=>by
  have h:=d g;have f:=kW (n:=iW<|List.range S.length) M (r:=0) (by lia) g
  rw[jJ];cases a:(vN S c).testBit g
  .exact Qc λz=>by
    have:=f.mpr<|h.mp z;unfold vN at a;rw[a]at this;cases this
  exact Cc<|h.mpr<|f.mp a
 have i:jC (Ya 1) dG fS [D.lst<|Va S,none] (da l)=.ok ((l.filter λ_=>true).map λr=>D.int<|(2^r)):=fK l λr m=>⟨_,rfl,rfl,aG rfl rfl<|YJ (by have:=lt r m;lia)⟩
 rw[tu.mpr<|λ_ _=>rfl]at i
 refine bV rfl<|cT<|uF (fH (mX<|aO (aV rfl<|aV (bI9 ?_ j) rfl) e) (by rw[aY];lia) i) ?_
 .show R.ok (D.int<|(Va S).length)=_;rw[jX]
 show (nP _).bind _=_;rw[show (l.map λr=>D.int<|(2^r))=(l.map λr=>((2^r:Nat):Int)).map D.int by rw[xg];rfl,iJ,bD,NW,sum_set b lt,k]
noncomputable def fQ(S:be)(c:Nat):am:=(tq S c).filter λm=>decide (m|||vN S c=vN S c)
def nW:m∈fQ S c↔m<2^S.length/\Ec S c m/\nU m (vN S c):=by
 unfold fQ;rw[df,ļ,ii,ZD,ZJ];exact⟨λh=>⟨h.1.1,h.1.2,h.2⟩,λh=>⟨⟨h.1,h.2.1⟩,h.2.2⟩⟩
def XU(h:Z∈fQ S c)(i:Ec S c Y)(d:nU Y Z):Y∈fQ S c:=by
 obtain⟨a,_,b⟩:=nW.mp h;refine nW.mpr ⟨?_,i,λg f=>b g<|d g f⟩
 rw[<-jK Y];exact uC λr e=>cB a<|d r e
def Ā:(fQ S c).Nodup:=Å.filter _
theorem QW(M:La S rk c):(fQ S c).length<=256:=by
 have d:=Ax (λm=>decide (m|||vN S c=vN S c))<|tq S c
 have b:=SU (S:=S) (c:=c);have a:=NI M;unfold fQ;lia
theorem bDl(M:La S rk c):vY [.lst<|Va S]=.ok (.lst<|da<|fQ S c):=by
 have b:=SU (S:=S) (c:=c);have a:=NI M;exact bV rfl<|aL (bT<|aO rfl<|OW M)<|cT<|fH (mX<|aO rfl<|Ľ M) (by rw[aY];lia)<|fK _ λm _=>⟨_,rfl,E7 (P8 rfl rfl)<|Qv rfl,rfl⟩
def xW(M:La S rk c){X:Nat}(h:X∈sH S c):X∈fQ S c:=by
 obtain⟨a,b,d⟩:=dU M uE h;exact nW.mpr ⟨d,a,b⟩
def eA(M:La S rk c) (h:Z∈fQ S c):∃X∈sH S c,nU Z X:=by
 obtain⟨_,b,d⟩:=nW.mp h;exact AZ M uE b d
theorem sV(M:La S rk c){X:Nat}(h:X∈sH S c):Oc X<=12/\Ec S c X/\X<2^S.length:=by
 obtain⟨a,_,d⟩:=dU M uE h;exact⟨Vc (Vk M d) (by lia),a,d⟩
noncomputable def bO(S:be)(c:Nat)(rk:am)(g:Bool):Int:=if (fQ S c).map (λZ=>((Ie S c rk g Z:Nat):Int))=[] then 0 else tQ ((fQ S c).map λZ=>((Ie S c rk g Z:Nat):Int))
theorem iD(g:Bool):0<=bO S c rk g/\(∀Z∈fQ S c,∀m:Nat,Ch S c rk g Z m->(m:Int)<=bO S c rk g)/\(bO S c rk g=0\/∃Z∈fQ S c,∃m:Nat,Ch S c rk g Z m/\(m:Int)=bO S c rk g):=by
 unfold bO;split
 .rename_i h;rw[(List.map_eq_nil_iff.mp h)];exact⟨by lia,λ_ z=>(nomatch z),.inl rfl⟩
 rename_i h;obtain⟨i,f⟩:=LI h;obtain⟨Z,d,e⟩:=Zc.mp i;obtain⟨s1,j⟩:=Sv (S:=S) (c:=c) (rk:=rk) g Z;rw[<-e];refine⟨by lia,λY hY m hm=>?_,?_⟩
 .have a:=f _<|Zc.mpr ⟨Y,hY,rfl⟩;have b:=(Sv g Y).2 m hm;lia
 rcases s1 with s1|s1
 .exact .inl (by lia)
 exact .inr ⟨Z,d,_,s1,rfl⟩
def bDm(g:Nat)(l:am):jT (.int g) (.lst<|da l)=.ok (.bl<|!decide (g∈l)):=by
 show aU _ _=_;rw[aD (aH<|J2 g l).1,yP]
def Pz:(eU S rk c base).length=S.length:=by unfold eU;simp
def QA(M:La S rk c):La S (eU S rk c base) c:=⟨M.one,M.most,M.c1,M.c3,M.row,Pz⟩
theorem bDn(h:r<S.length):(eU S rk c base).getD r 0=wL S rk c base r:=by
 unfold eU;simp_all
theorem XI(M:La S rk c) (h:Z∈fQ S c):fY (eU S rk c base) Z%2=fY rk Z%2:=by
 obtain⟨X,i,d⟩:=eA M h;obtain⟨k,j,_⟩:=nW.mp h;obtain⟨n,m,l⟩:=sV M i;obtain⟨T,⟨g,f,q⟩,p,s⟩:=S2 M (gC M) 12 X n m.1 l j d;have b:∀r∈aQ Z,((eU S rk c base).getD r 0)=((Aj rk _ base 12 X r)):=λr a=>by
  rw[bDn<|cB k a,wC M i<|d r a]
 have e:fY (eU S rk c base) Z=T:=by
  refine yM (Zc.mpr ⟨g,f,by rw[b g f,q]⟩) λx o=>?_
  obtain⟨r,a,rfl⟩:=Zc.mp o;simp_all
 rw[e];unfold Za at s;lia
theorem nK{v:Nat}(h:Row S c rk base Z v):∃g m,Ch S c rk g Z m/\v+1=dM base g+m:=by
 induction h with
 |one h=>exact⟨_,1,.one h rfl,rfl⟩
 |up _ i f d a=>
  obtain⟨g,m,b,e⟩:=a;exact⟨g,m+1,.up b i f d,by lia⟩
theorem mw{g:Bool} (h:Ch S c rk g Z m):∃v,Row S c rk base Z v/\v+1=dM base g+m:=by
 induction h with
 |one h d=>exact⟨_,.one h,by rw[d]⟩
 |up _ j i f a=>
  obtain⟨v,b,e⟩:=a;exact⟨v+1,.up b j i f,by lia⟩
def YI(M:La S rk c)(g:Nat):base<=wL S rk c base g:=by
 by_cases h:∃X∈sH S c,g∈aQ X
 .obtain⟨X,a,b⟩:=h;obtain⟨f,e,d⟩:=sV M a;rw[wC M a b];exact(Yt M (gC M) 12 X f e.1 d g).1
 rw[xV λX a b=>h ⟨X,a,b⟩]
 exact Cb _
theorem CZ(M:La S rk c):∃t:Nat,tQ ((eU S rk c base).map λ(x:Nat)=>(x:Int))=(t:Int)/\base<=t/\(∀Z∈fQ S c,∀v,Row S c rk base Z v->v<=t)/\(t=base\/∃Z∈fQ S c,Row S c rk base Z t):=by
 have s:=M.one;have q:(eU S rk c base).map (λ(x:Nat)=>(x:Int))≠[]:=λz=>by
  have:=congrArg List.length z;rw[lc,Pz,Hx]at this;lia
 obtain⟨o,n⟩:=LI q;obtain⟨x,l,e⟩:=Zc.mp o;obtain⟨r,k,rfl⟩:=Zc.mp l;have top:∀X∈sH S c,De S rk c base 12 X<=wL S rk c base r:=λX b=>by
  obtain⟨i,f,d⟩:=sV M b;obtain⟨g,j,p⟩:=yB M i d f;have:=(λr k=>n _<|Zc.mpr ⟨wL S rk c base r,Zc.mpr ⟨r,Ff.mpr k,rfl⟩,rfl⟩) g<|cB d j
  rw[wC M b j,p,<-e]at this;exact Int.ofNat_le.mp this
 refine⟨wL S rk c base r,e.symm,YI M r,λZ hZ v hv=>?_,?_⟩
 .obtain⟨X,b,m⟩:=eA M hZ;obtain⟨i,f,d⟩:=sV M b;exact Vc (cK M (gC M) 12 X i f.1 d hv m).1<|top X b
 by_cases h:∃X∈sH S c,r∈aQ X
 .obtain⟨X,b,j⟩:=h;obtain⟨i,f,d⟩:=sV M b;have a:=(Yt (base:=base) M (gC M) 12 X i f.1 d r).2;rw[(sN (by rwa [(wC M b j)])<|top X b)]
  exact .inr ⟨X,xW M b,eK M (gC M) 12 X i f d⟩
 exact .inl<|xV λX b j=>h ⟨X,b,j⟩
noncomputable def ap(S:be)(c:Nat)(rk:am)(d:Int):Int:=if bO S c rk false>bO S c rk true+d then bO S c rk false else bO S c rk true+d
theorem bDo(M:La S rk c):tQ ((eU S rk c 0).map λ(x:Nat)=>(x:Int))=ap S c rk (-1):=by
 obtain⟨t,e,y,h,j⟩:=CZ M;obtain⟨A,l,k⟩:=iD (S:=S) (c:=c) (rk:=rk) true;obtain⟨C,p,o⟩:=iD (S:=S) (c:=c) (rk:=rk) false;have r:dM 0 true=0:=rfl;have q:dM 0 false=1:=rfl;rw[e];have u:bO S c rk true-1<=t:=by
  rcases k with z|⟨Z,a,m,d,z⟩
  .lia
  obtain⟨v,b,n⟩:=mw d;have:=h Z a v b;lia
 have w:bO S c rk false<=t:=by
  rcases o with z|⟨Z,a,m,d,z⟩
  .lia
  obtain⟨v,b,n⟩:=mw d;have:=h Z a v b;lia
 have s:t<=bO S c rk true-1\/t<=bO S c rk false:=by
  rcases j with z|⟨Z,a,i⟩
  .exact .inr (by lia)
  obtain⟨g,m,f,B⟩:=nK i;cases g
  .have:=p Z a m f;exact .inr (by lia)
  have:=l Z a m f;exact .inl (by lia)
 unfold ap;split<;>lia
theorem bIa(M:La S rk c):tQ ((eU S rk c 1).map λ(x:Nat)=>(x:Int))=ap S c rk 1:=by
 obtain⟨t,e,y,h,j⟩:=CZ M;obtain⟨A,l,k⟩:=iD (S:=S) (c:=c) (rk:=rk) true;obtain⟨C,p,o⟩:=iD (S:=S) (c:=c) (rk:=rk) false;have r:dM 1 true=2:=rfl;have q:dM 1 false=1:=rfl;rw[e];have u:bO S c rk true+1<=t:=by
  rcases k with z|⟨Z,a,m,d,z⟩
  .lia
  obtain⟨v,b,n⟩:=mw d;have:=h Z a v b;lia
 have w:bO S c rk false<=t:=by
  rcases o with z|⟨Z,a,m,d,z⟩
  .lia
  obtain⟨v,b,n⟩:=mw d;have:=h Z a v b;lia
 have s:t<=bO S c rk true+1\/t<=bO S c rk false:=by
  rcases j with z|⟨Z,a,i⟩
  .exact .inl (by lia)
  obtain⟨g,m,f,B⟩:=nK i;cases g
  .have:=p Z a m f;exact .inr (by lia)
  have:=l Z a m f;exact .inl (by lia)
 unfold ap;split<;>lia
end
theorem xX{c:Type}{tg:Tg}{C E:Ex}{st:xa}{F G:c->D}{q:c->Bool}:∀(a:List c),(∀k∈a,∃b,tg (F k) st=.ok b/\C b=.ok (.bl<|q k)/\(q k=true->E b=.ok (G k)))->jC tg C E st (a.map F)=.ok ((a.filter q).map G)
 |[],_=>rfl
 |k::a,h=>by
  obtain⟨b,f,e,j⟩:=h k zb;have g:=xX a λk d=>h k<|Ab _ d
  rw[Ge,uT,f,bD,e,bD,rq];cases i:q k with
  |true=>simp_all
  |false=>grind
section
variable{S:be}{rk:am}{c n:Nat}{g:Bool}
inductive Gd (S:be) (c:Nat) (rk:am) (g:Bool):List Nat->Nat->Prop
 |one {Z:Nat}:Ec S c Z->Za rk Z=g->Gd S c rk g [Z] Z
 |up {Y Z:Nat} {l:am}:Gd S c rk g l Y->Ec S c Z->nU Y Z->Za rk Y≠Za rk Z->Gd S c rk g (l++[Z]) Z
def Gd.ch(h:Gd S c rk g l Z):Ch S c rk g Z l.length:=by
 induction h with
 |one h e=>exact .one h e
 |up _ f d b a=>rw[ef];exact .up a f d b
def Alt(S:be)(c:Nat)(rk:am):Bool->List Nat->Prop
 |_,[]=>True
 |g,x::l=>Ec S c x/\Za rk x=g/\(∀y∈l.head?,nU x y)/\Alt S c rk (!g) l
theorem RW{Y Z:Nat}(a:Ec S c Z)(hs:nU Y Z)(he:Za rk Y≠Za rk Z):∀{g:Bool}{l:am},Alt S c rk g l->l.getLast?=some Y->Alt S c rk g (l++[Z])
 |_,[],_,h=>nomatch h
 |g,[x],h,e=>by
  have e:=by simpa using e
  subst e;refine⟨h.1,h.2.1,λy hy=>?_,a,?_,(λy hy=>nomatch hy),trivial⟩
  .cases hy;exact hs
  rw[h.2.1]at he;cases g<;>cases b:Za rk Z<;>first|rfl|simp_all
 |g,x::y::l,h,e=>⟨h.1,h.2.1,h.2.2.1,RW a hs he h.2.2.2<|by simp_all⟩
def Gd.alt(h:Gd S c rk g l Z):Alt S c rk g l/\l.getLast?=some Z:=by
 induction h with
 |one h e=>exact⟨⟨h,e,(λy b=>nomatch b),trivial⟩,rfl⟩
 |up _ i f d a=>exact⟨RW i f d a.1 a.2,by simp⟩
theorem Gd.sub{l:am} (h:Gd S c rk g l Z):∀x∈l,Ec S c x/\nU x Z:=by
 induction h with
 |one h _=>grind
 |up _ d b _ a=>
  grind
def zC(S:be)(rk:am)(c:Nat)(g:Bool)(X:Nat)(l:am):Prop:=(l=[]\/Gd S c rk g l X)/\∀Z m,Ch S c rk g Z m->nU Z X->m<=l.length
def zC.len(M:La S rk c){X:Nat} (a:X<2^S.length) (h:zC S rk c g X l):l.length<=8:=by
 rcases h.1 with h|h
 .simp_all
 exact Vc (yq h.ch).2<|Vk M a
noncomputable abbrev mn(S:be)(rk:am)(c X:Nat)(g:Bool)(l:am)(b a:li):xa:=[some<|.v<|mD S rk c,some<|.v<|.int X,some<|.v<|.bl g,some<|.v<|.lst<|da l,b,a]
def Ń(l:am)(x:Nat):da l++[D.int x]=da (l++[x]):=by unfold da;rw[Zi];rfl
def DZ(h:xs.length+ys.length<=1000):lE (.lst xs) (.lst ys)=.ok (.lst<|xs++ys):=aD<|dO<|Vc h<|by decide
def RA{st:xa} (h:st[i]?=some (some<|.v<|.lst<|da l)):e1 dC (aA i) st=.ok (.int (l.length:Nat)):=uF (by unfold aA;rw[h]) (by show R.ok _=_;rw[aY])
theorem YU(M:La S rk c){k X:Nat}(K:Oc X<=k+1)(w:Ec S c X)(B:X<2^S.length){d:cr}(G:∀Y,Oc Y<=k->Ec S c Y->Y<2^S.length->∃l,d [mD S rk c,.int Y,.bl g]=.ok (.lst<|da l)/\zC S rk c g Y l) :
  ∀(j l:am)(p i:li),(∀Y∈j,Af S c rk (Za rk X) X Y)->(l=[]\/Gd S c rk g l X)->(Za rk X=g->l≠[])->∃a o n,Eb (Ya 4) (sO d) (da j) (mn S rk c X g l p i)=.ok (.nx<|mn S rk c X g a o n)/\(a=[]\/Gd S c rk g a X)/\(Za rk X=g->a≠[])/\l.length<=a.length/\∀Y∈j,∀Z m,Ch S c rk g Z m->nU Z Y->m+1<=a.length
 |[],l,p,i,_,v,t=>⟨l,p,i,rfl,v,t,Cb _,λ_ z=>nomatch z⟩
 |Y::j,l,p,i,s,v,t=>by
  obtain⟨A,I,y,i4,H⟩:=fB M (s Y zb) w.1 B;obtain⟨r,e,q⟩:=G Y (by lia) A y
  have W:=q.len M y;have u:l.length<=r.length->r≠[]:=λb z=>by
   rw[z]at b q
   by_cases L:Za rk X=g
   .exact t L (Kn.mp<|Nat.le_zero.mp b)
   exact absurd (q.2 Y 1 (.one A (by cases hx:Za rk X<;>cases hy:Za rk Y<;>cases g<;>simp_all)) λ_ z=>z) (by decide)
  have C:∀h,(bC (dD 5<|aM d<|aB (aA 0)<|aB (aA 4)<|aB (aA 2) aK)<|Nc (e2 Pn (e1 dC<|aA 5)<|e1 dC<|aA 3) (dD 3<|e2 lE (aA 5)<|gD<|aB (aA 1) aK) cO) (mn S rk c X g l Y i)=.ok (.nx<|mn S rk c X g h Y<|D.lst<|da r)->(h=[]\/Gd S c rk g h X)->(Za rk X=g->h≠[])->l.length<=h.length->r.length+1<=h.length->∃a o n,Eb (Ya 4) (sO d) (da<|Y::j) (mn S rk c X g l p i)=.ok (.nx<|mn S rk c X g a o n)/\(a=[]\/Gd S c rk g a X)/\(Za rk X=g->a≠[])/\l.length<=a.length/\∀x∈Y::j,∀Z m,Ch S c rk g Z m->nU Z x->m+1<=a.length:=λh N V U a3 a4=>by
   obtain⟨a,o,n,f,T,Q,b3,P⟩:=YU M K w B G j h Y (D.lst<|da r) (λY O=>s Y<|Ab _ O) V U
   refine⟨a,o,n,lN rfl N f,T,Q,by lia,λx hY' Z m hc hs=>?_⟩
   rcases Pb.mp hY' with rfl|hY'
   .have:=q.2 Z m hc hs;lia
   exact P x hY' Z m hc hs
  have E:dD 5 (aM d<|aB (aA 0)<|aB (aA 4)<|aB (aA 2) aK) (mn S rk c X g l Y i)=.ok (.nx<|mn S rk c X g l Y<|D.lst<|da r):=bT<|aO rfl e;have F:e2 Pn (e1 dC<|aA 5) (e1 dC<|aA 3) (mn S rk c X g l Y<|D.lst<|da r)=.ok (.bl<|decide (l.length<=r.length)):=aG (RA rfl) (RA rfl) (by
   show R.ok (D.bl<|decide ((r.length:Int) ≥ l.length))=_;congr 2;exact Sq.mpr<|by lia)
  by_cases b:l.length<=r.length
  .refine C (r++[X]) (aL E<|zh (oZ F<|Cc b) ?_) (.inr ?_) (λ_ z=>by simp at z) (by rw[ef];lia) (by rw[ef];exact Cb _)
   .refine(bT<|aG rfl (dZ rfl)<|DZ<|by rw[aY,Yi];lia).trans ?_
    rw[Ń];rfl
   exact .up (q.1.resolve_left<|u b) w (λz J=>(kZ.mp<|I z J).1) H
  exact C l (aL E<|jH (oZ F<|Qc b) rfl) v t (Cb _) (by lia)
theorem SW(M:La S rk c):∀(k X:Nat),Oc X<=k->Ec S c X->X<2^S.length->∃l,pI k [mD S rk c,.int X,.bl g]=.ok (.lst<|da l)/\zC S rk c g X l
 |0,X,j,b,_=>by have:=nD b.1;lia
 |k+1,X,j,b,i=>by
  obtain⟨u,C,o⟩:=VI M i b.1
  let f:=if Za rk X=g then [X] else []
  obtain⟨l,B,A,e,z,y,_,t⟩:=YU M j b i (λY n w p=>SW M k Y n w p) (Wk S rk c X) f none none (λY h=>(o Y).mp h) (by
   by_cases a:Za rk X=g
   .rw[show f=[X] from Ka a];exact .inr<|.one b a
   exact .inl<|Ea a) (λa=>by rw[show f=[X] from Ka a];simp)
  refine⟨l,bV rfl<|aL (by
   refine bT ?_
   show (e2 wc _ _ _).bind _=_;rw[(aG (OA M i b.1 rfl rfl) rfl<|UI _ _),bD]
   by_cases a:Za rk X=g
   .rw[show f=[X] from Ka a,a,beq_self_eq_true,rq,Ka rfl]
    exact dZ rfl
   rw[show f=[] from Ea a,Nq.mpr a,rq,Ea zk]
   exact dZ rfl)<|aL (iB (mX<|aO rfl u) e)<|cT rfl,z,λZ m hc hs=>?_⟩
  rcases qQ M (k+1) X j b.1 i rfl hc.lp hs with ⟨Y,h,d⟩|⟨s,_⟩
  .have:=t Y ((o Y).mpr h) Z m hc d;lia
  cases hc with
  |one _ a=>exact Oq.mpr<|y<|by rwa [<-s]
  |up n _ p q=>
   rcases qQ M (k+1) X j b.1 i rfl n.lp (λr v=>hs r<|p r v) with ⟨Y,h,d⟩|⟨x,_⟩
   .exact t Y ((o Y).mpr h) _ _ n d
   rw[s,x]at q;exact(q rfl).elim
noncomputable abbrev Uk(S:be)(rk:am)(c:Nat)(g:Bool)(l:am)(b a:li):xa:=[some<|.v<|mD S rk c,some<|.v<|.bl g,some<|.v<|.lst<|da l,b,a]
theorem yT(M:La S rk c):∀(i l:am)(o d:li),(∀X∈i,X∈sH S c)->(l=[]\/∃X∈sH S c,Gd S c rk g l X)->∃a n k,Eb (Ya 3) mJ (da i) (Uk S rk c g l o d)=.ok (.nx<|Uk S rk c g a n k)/\(a=[]\/∃X∈sH S c,Gd S c rk g a X)/\l.length<=a.length/\∀X∈i,∀Z m,Ch S c rk g Z m->nU Z X->m<=a.length
 |[],l,o,d,_,h=>⟨l,o,d,rfl,h,Cb _,λ_ z=>nomatch z⟩
 |X::i,l,o,d,p,h=>by
  have q:=p X zb;obtain⟨s1,y,x⟩:=sV M q;obtain⟨r,e,t⟩:=SW M 12 X s1 y x;have v:dD 4 (aM rA<|aB (aA 0)<|aB (aA 3)<|aB (aA 1) aK) (Uk S rk c g l X d)=.ok _:=bT<|aO rfl e;have w:e2 Eg (e1 dC<|aA 4) (e1 dC<|aA 2) (Uk S rk c g l X<|D.lst<|da r)=.ok (.bl<|decide (l.length<r.length)):=aG (RA rfl) (RA rfl) (by
   show R.ok _=_;congr 2;exact Sq.mpr<|by lia)
  have u:∀j,(bC _ _) (Uk S rk c g l X d)=.ok _->(j=[]\/∃X∈sH S c,Gd S c rk g j X)->l.length<=j.length->r.length<=j.length->∃a n k,Eb (Ya 3) mJ (da<|X::i) (Uk S rk c g l o d)=.ok (.nx<|Uk S rk c g a n k)/\(a=[]\/∃X∈sH S c,Gd S c rk g a X)/\l.length<=a.length/\∀s∈X::i,∀Z m,Ch S c rk g Z m->nU Z s->m<=a.length:=λj A E H G=>by
   obtain⟨a,n,k,f,C,F,B⟩:=yT M i j X (D.lst<|da r) (λX q=>p X<|Ab _ q) E
   refine⟨a,n,k,lN rfl A f,C,by lia,λs hX' Z m hc hs=>?_⟩
   rcases Pb.mp hX' with rfl|hX'
   .exact Vc (t.2 Z m hc hs) (by lia)
   exact B s hX' Z m hc hs
  by_cases b:l.length<r.length
  .exact u r (aL v<|zh (oZ w<|Cc b)<|bT rfl) (.inr ⟨X,q,t.1.resolve_left λz=>by rw[z]at b;exact absurd b<|tN _⟩) (by lia) (Cb _)
  exact u l (aL v<|jH (oZ w<|Qc b) rfl) h (Cb _) (by lia)
theorem N_(M:La S rk c):∃l d b,Eb (Ya 3) mJ (da<|sH S c) (Uk S rk c g [] none none)=.ok (.nx<|Uk S rk c g l d b)/\(l=[]\/∃X∈sH S c,Gd S c rk g l X)/\(l.length:Int)=bO S c rk g:=by
 obtain⟨l,d,b,e,a,_,o⟩:=yT M _ [] none none (λ_ h=>h)<|.inl rfl
 refine⟨l,d,b,e,a,?_⟩;obtain⟨s,p,i⟩:=iD (S:=S) (c:=c) (rk:=rk) g;have q:l.length<=bO S c rk g:=by
  rcases a with a|⟨X,f,a⟩
  .rwa [a]
  exact p X (xW M f) _ a.ch
 rcases i with i|⟨Z,n,m,k,r⟩
 .lia
 obtain⟨X,f,j⟩:=eA M n;have:=o X f Z m k j;lia
open Classical in
noncomputable def mh(S:be)(rk:am)(c r x:Nat):am:=if h:∃u,qJ [mD S rk c,.int x,.int r]=.ok (.str u)/\Iz S c x r u then h.choose else []
def SA(M:La S rk c){x:Nat}(a:x<2^S.length)(d:Ec S c x)(b:r∈aQ x):qJ [mD S rk c,.int x,.int r]=.ok (.str<|mh S rk c r x)/\Iz S c x r (mh S rk c r x):=by
 have h:=ý M a d b;unfold mh;rw[dif_pos h];exact h.choose_spec
theorem KP(d:D)(ds:im):Ta (.lst<|d::ds) (.int 0)=.ok d:=iC (by
 unfold Tc;rw[show kg (d::ds).length 0=some 0 by unfold kg;simp_all]
 rfl)
theorem ā(M:La S rk c){l:am}{X:Nat}(T:X∈sH S c)(h:Gd S c rk g l X):∃r w,Kz [mD S rk c,.lst<|da l]=.ok (.tup [.str w,.lst<|l.map λx=>D.str<|mh S rk c r x])/\(∀x∈l,r∈aQ x/\x<2^S.length/\Ec S c x)/\pO S 0 w=r/\Ue c w/\w.length<=8/\r<S.length:=by
 obtain⟨Y,H,u⟩:=dU M uE T;have f:=h.sub;have E:∀x∈l,x<2^S.length:=λx k=>by
  rw[<-jK x];exact uC λr n=>cB u<|(f x k).2 r n
 obtain⟨i,j,rfl⟩:∃a j,l=a::j:=by
  cases l with
  |nil=>exact absurd ((yq h.ch).1) (by decide)
  |cons a j=>exact⟨a,j,rfl⟩
 have B:=f i zb;have V:∀(l:am)(g:Bool),Alt S c rk g l->∀a∈l.head?,∀x∈l,nU a x:=by
  intro l
  induction l with
  |nil=>intro _ _ _ h;cases h
  |cons b l L=>
   intro g C a Q x k;cases Q;rcases Pb.mp k with rfl|k
   .exact λ_ z=>z
   cases l with
   |nil=>cases k
   |cons d l=>exact λr n=>L _ C.2.2.2 d rfl x k r<|C.2.2.1 d rfl r n
 obtain⟨o,e,b⟩:=ô M;have W:=b.len;obtain⟨q,v⟩:=B6 _<|Bv B.1.1;have t:=(kW M (((M.one))) q).mp<|aX.mp<|H q<|B.2 q v;have s:(λg=>(iW<|List.range S.length).testBit g)=λg=>decide (g∈List.range S.length):=funext λg=>by rw[jJ]
 rw[s]at t;obtain⟨y,N,p⟩:=Zc.mp<|b.whole.mpr t;have U:(o.filter λx=>i.testBit x.1)≠[]:=λz=>by
  have:=ox.mp z y N;rw[p]at this;exact this<|aX.mp v
 obtain⟨x,rest,A⟩:∃x rest,(o.filter λx=>i.testBit x.1)=x::rest:=by
  cases P:o.filter λx=>i.testBit x.1 with
  |nil=>exact(U P).elim
  |cons x rest=>exact⟨x,rest,rfl⟩
 have k:=df.mp (by rw[A];exact zb)
 obtain⟨K,J,I⟩:=b.lt x k.1;have n:=λz m=>(V _ g h.alt.1 i rfl) z m _<|aX.mpr k.2
 refine⟨x.1,x.2,?_,λz m=>⟨n z m,E z m,(f z m).1⟩,J,I,b.wl M k.1,K⟩
 let G:xa:=[mD S rk c,D.lst<|da<|i::j,none,none,none,none,none]
 have e1:cL [5] (Ya 5) (xc<|aM kE<|aB (aA 0) aK) ES DS G=.ok (.lst<|As<|x::rest):=by
  rw[<-A];exact fH (mX<|aO rfl e) (by rw[bHq];have:=M.most;lia)<|xX o λz _=>⟨_,rfl,(aO (aV (aG rfl rfl<|KP _ _)<|aV (aG rfl rfl rfl) rfl)<|sq i z.1),λ_=>rfl⟩
 refine bV rfl<|aL (bT e1)<|aL (bT<|aG (aG rfl rfl<|KP _ _) rfl rfl)<|aL (bT<|aG (aG rfl rfl<|KP _ _) rfl rfl)<|cT ?_;show R.bind (aB (aA 4) (aB (cL [6] (Ya 6) (xc<|aA 1) dG QF) aK) [mD S rk c,D.lst<|da<|i::j,D.lst<|As<|x::rest,x.1,D.str x.2,none,none]) _=_;rw[aV rfl<|aV (by
  have F:jC (Ya 6) dG QF [mD S rk c,D.lst<|da<|i::j,D.lst<|As<|x::rest,x.1,D.str x.2,none,none] (da<|i::j)=.ok (((i::j).filter λ_=>true).map λz=>D.str<|mh S rk c x.1 z):=fK (i::j) λz m=>⟨_,rfl,rfl,aO rfl (SA M (E z m) (f z m).1<|n z m).1⟩
  rw[tu.mpr<|λ_ _=>rfl]at F
  have O:=(yq h.ch).2;have:=Vk M u;unfold Oc at O;exact fH rfl (by rw[aY];lia) F) rfl,bD]
 exact aD<|dO<|gi rfl
structure Ts(S:be)(rk:am)(c:Nat)(g:Bool)(l:am)(r:Nat)(w:am):Prop where
 alt:Alt S c rk g l
 ne:l≠[]
 len:(l.length:Int)=bO S c rk g
 GP:∀x∈l,r∈aQ x/\x<2^S.length/\Ec S c x
 last:pO S 0 w=r
 H8:Ue c w
 wl:w.length<=8
 lt:r<S.length
noncomputable abbrev Hn(S:be)(rk:am)(c:Nat)(l:am)(r:Nat)(w:am):D:=.tup [.str w,.lst<|l.map λx=>D.str<|mh S rk c r x]
def bDp(M:La S rk c)(g:Bool):(bO S c rk g=0/\fV [mD S rk c,.bl g]=.ok .Bb)\/∃l r w,Ts S rk c g l r w/\fV [mD S rk c,.bl g]=.ok (Hn S rk c l r w):=by
 obtain⟨l,f,b,e,n,i⟩:=N_ M;have j:e2 Xd (aA 2) (gD aK) (Uk S rk c g l f b)=.ok _:=aG rfl (dZ rfl)<|Io l;have run:∀{d},pj _ _ _ _=.ok d->fV [mD S rk c,.bl g]=.ok d:=λh=>bV rfl<|aL (bT<|dZ rfl)<|aL (iB (mX<|aO rfl<|KW M) e)<|cT h
 rcases n with rfl|⟨X,m,a⟩
 .refine .inl ⟨by rw[<-i];rfl,run ?_⟩
  show (e2 Xd _ _ _).bind _=_;rw[j];rfl
 have k:l≠[]:=λz=>by
  have:=(yq a.ch).1;rw[z]at this;exact absurd this (by decide)
 obtain⟨r,w,e1,t,s,q,p,o⟩:=ā M m a;refine .inr ⟨l,r,w,⟨a.alt.1,k,i,t,s,q,p,o⟩,run ?_⟩;show (e2 Xd _ _ _).bind _=_;rw[j,Qc k];exact aO (r:=aB (aA 0)<|aB (aA 2) aK) (st:=Uk S rk c g l f b) rfl e1
end
section
variable {k:Nat}
theorem UW(M:La S rk c)(t:li):∀(x:am)(q:Nat)(a:am)(l:li),q<S.length->Ue c x->a.length+x.length<=1000->∃b,Eb (Ya 4) vS (x.map λch=>D.str [ch]) [D.lst<|Va S,q,t,some<|.o .l<|da a,l]=.ok (.nx [D.lst<|Va S,pO S q x,t,some<|.o .l<|da<|a++runs S q x,b])
 |[],q,a,l,_,_,_=>⟨l,by rw[show runs S q []=[] from rfl,Hh];rfl⟩
 |ch::x,q,a,l,j,d,k=>by
  rw[ie]at k;obtain⟨g,f⟩:=d ch<|.head _;obtain⟨h,o,n,m⟩:=GI M j g f;obtain⟨b,e⟩:=UW M t x (Bc S q<|ch-97) (a++[Bc S q<|ch-97]) (D.str [ch]) m (λy i=>d y<|.tail _ i) (by rw[ef,Yi];lia)
  rw[Zk]at e;refine⟨b,lN rfl (aL (bT<|aG (aG rfl rfl<|iC o) (by
   show (Jg _).bind _=_;rw[RV M.c3 g f];rfl)<|iC n)<|(Fo rfl rfl<|by rw[aY];lia).trans ?_) e⟩
  rw[<-xQ];rfl
theorem AK(M:La S rk c)(b:r<S.length){u:am}(a:Ue c u)(f:u.length<=500):qK [.lst<|Va S,.int r,.str u]=.ok (.lst<|da<|runs S r u):=by
 obtain⟨d,e⟩:=UW M _ u r [] none b a (by grind)
 exact bV rfl<|aL (uA<|dZ rfl)<|aL (iB (aD<|dO<|by lia) e) rfl
theorem ZI(M:La S rk c)(a:n<2^S.length){u:am}(Q:Iz S c n r u):u.length<=64:=by
 have b:=Vk M a;have:=Q.len;have d:(aQ n).length*(aQ n).length<=8*8:=Bu (by lia) (by lia)
 lia
end
section
variable{S:be}{rk:am}{c n r:Nat}
theorem fA:∀(x:am)(q:Nat),(q::runs S q x).getLast?=some (pO S q x)
 |[],_=>rfl
 |ch::x,q=>by
  rw[show runs S q _=Bc S q _::runs S _ x from rfl,ZL,(fA x _)]
  rfl
theorem BK{x:Nat}(h:l.getLast?=some x):Ta (.lst<|da l) (.int<|-1)=.ok (.int x):=iC (by
 have a:l≠[]:=λz=>by rw[z]at h;cases h
 have b:=Oq.mpr a;rw[VL]at h;unfold Tc kg;rw[Ea (by decide),aY,Ka (by lia)]
 show (da l)[((-1:Int)+l.length).toNat]?=some _;rw[show ((-1:Int)+l.length).toNat=l.length-1 by lia]
 unfold da;rw[Nj,h];rfl)
theorem Y2:∀a:be,kY (a.map D.str)=0/\eO (a.map D.str)=true/\nM (a.map D.str) (a.map D.str)=true
 |[]=>⟨by rfl,by rfl,by rfl⟩
 |u::a=>by
  obtain⟨d,c,b⟩:=Y2 a;simp_all
abbrev Jq(c:Nat):am:=cut [97,98,99] none<|some (c:Int)
theorem ń(M:La S rk c){ch:Nat}(h:97<=ch/\(ch:Int)<97+(c:Int)):jT (.str [ch]) (.str<|Jq c)=.ok (.bl false):=by
 have b:=M.c1;have a:=M.c3;show R.ok _=_;rw[bMd (by omega) (by omega) h.1 (by lia)]
 rfl
theorem ZU(M:La S rk c){u:am}(h:Ue c u)(l:u.length<=500){C E:Ex} {st:xa} (i:f st=.ok (.str u)) (k:∀ch∈u,∃d,Ya j (.str [ch]) (qf [j] st)=.ok d/\C d=jT (.str [ch]) (.str<|Jq c)):e2 Xd (cL [j] (Ya j) (xc f) C E) (gD aK) st=.ok (.bl false):=by
 have e:jC (Ya j) C E _ _=.ok ((u.filter λ_=>false).map λch=>D.str [ch]):=xX u λch g=>by
  obtain⟨d,a,b⟩:=k ch g;exact⟨d,a,b.trans<|ń M<|h ch g,λz=>nomatch z⟩
 rw[ox.mpr (λ_ _=>by decide)]at e
 exact aG (fH (by
  rw[V1,i];exact aD<|dO<|by lia) (by rw[lc];lia) e) (dZ rfl) ((Io []).trans rfl)
theorem CT(M:La S rk c){x0:li}:∀(d:be) (b:li),(∀u∈d,u≠[]/\Ue c u/\u.length<=500)->∃f,Eb (Ya 2) YR (d.map D.str) [x0,D.str<|Jq c,b,none]=.ok (.nx [x0,D.str<|Jq c,f,none])
 |[],b,_=>⟨b,rfl⟩
 |u::d,b,h=>by
  obtain⟨k,j,i⟩:=h u zb;obtain⟨f,e⟩:=CT M d _ λu g=>h u<|Ab _ g
  refine⟨f,lN rfl (jH (oY (iH (p:=true)<|aD rfl) λ_=>oY (p:=false) (aG rfl rfl ?_) λ_=>ZU M j i rfl λch _=>⟨_,rfl,rfl⟩) rfl) e⟩
  cases u with
  |nil=>exact(k rfl).elim
  |cons a u=>exact aD ⟨He 64,rfl,rfl⟩
def bDr(M:La S rk c){a:be}(d:a≠[])(h:∀u∈a,u≠[]/\Ue c u/\u.length<=500):tY [.lst<|a.map D.str,.str<|Jq c]=.ok (.bl true):=by
 obtain⟨f,e⟩:=CT M a none h;refine bV rfl<|aL (jH (oY (iH (p:=true)<|aD rfl) λ_=>aG rfl (dZ rfl) ?_) rfl)<|aL (iB rfl e)<|cT rfl
 cases a with
 |nil=>exact(d rfl).elim
 |cons u a=>
  obtain⟨b,g,_⟩:=Y2 _;exact(aD ⟨by rw[bH7,b];decide,by rwa [ĭ],by simp⟩).trans (by rfl)
def Ah(g:Bool):Nat:=if g=true then 0 else 1
theorem Z2{n:Nat}{g:Bool}(h:Za rk n=g):fY rk n%2=(Ah g:Int):=by
 unfold Za at h;unfold Ah;cases g with
 |true=>simp_all
 |false=>
  lia
def EZ(M:La S rk c){r:Nat}(b:r<S.length):Ta (.lst<|da rk) (.int r)=.ok (.int (rk.getD r 0:Nat)):=iC (by
 have a:r<rk.length:=by rwa [M.Qp]
 rw[Jb (by rwa [aY])]
 simp[da,List.getElem?_eq_getElem a])
def VW(h:n≠0){l:am}(g:∀y∈l,y∈aQ n)(f:∀y∈aQ n,y∈l):tQ (l.map λy=>((rk.getD y 0:Nat):Int))=fY rk n:=by
 obtain⟨⟨r,c,e⟩,d⟩:=xU h;refine yM ?_ λx b=>?_
 .rw[<-e];exact Zc.mpr ⟨r,f r c,rfl⟩
 obtain⟨y,a,rfl⟩:=Zc.mp b;exact d y<|g y a
noncomputable abbrev zq(S:be)(rk:am)(c:Nat)(d:D)(r o:Nat)(e:am)(b a:li):xa:=[some<|.v<|.lst<|Va S,some<|.v<|.lst<|da rk,some<|.v d,some<|.v<|.int o,some<|.v<|.str<|Jq c,some<|.v<|.int r,some<|.v<|.lst<|da e,b,a,none,none]
theorem DT(M:La S rk c){d:D}{r:Nat}(A:r<S.length):∀(l f:am)(g:Bool)(n m:li),Alt S c rk g l->(∀x∈l,r∈aQ x/\x<2^S.length/\Ec S c x)->(∀y∈l.head?,∀z∈f,z∈aQ y)->f.length<=64->∃o' v q p,Eb (Ya 7) gY (l.map λx=>D.str<|mh S rk c r x) (zq S rk c d r (Ah g) f n m)=.ok (.nx<|zq S rk c d r o' v q p)
 |[],f,g,n,m,_,_,_,_=>⟨Ah g,f,n,m,rfl⟩
 |x::l,f,g,n,m,H,w,G,P=>by
  obtain⟨R,N,L,K⟩:=H;obtain⟨J,t,C⟩:=w x zb;obtain⟨_,Q⟩:=SA M t C J;generalize E:mh S rk c r x=u at Q;have O:=ZI M t Q;have inR:=λy i=>aX.mpr<|QH Q.js y i
  have o:(runs S r u).length=u.length:=dA u r;have j:runs S r u≠[]:=λz=>by
   rw[z]at o;exact Q.ne<|Kn.mp o.symm
  have lst:(runs S r u).getLast?=some r:=by
   have:=fA (S:=S) u r;rw[Av Q.js]at this;cases B:runs S r u with
   |nil=>exact(j B).elim
   |cons a b=>rwa [B,ZL]at this
  obtain⟨o',v,q,p,e⟩:=DT M A l (runs S r u) (!g) (D.str u) (D.lst<|da<|runs S r u) K (λz s=>w z<|Ab _ s) (λy i z s=>L y i z<|inR z s) (by rwa [o])
  let h:=zq S rk c d r (Ah g) f (D.str u)<|D.lst<|da<|runs S r u
  have I:e2 Xd (e2 Ta (aA 8)<|e1 Vi<|eI 1) (aA 5) h=.ok (.bl false):=aG (aG rfl rfl<|BK lst) rfl<|(qP _ _).trans<|by rw[Cc rfl];rfl
  refine⟨o',v,q,p,?_⟩;rw[Ge,E];refine lN rfl (aL (bT<|aO rfl<|AK M A (Rv Q.js)<|by lia)<|aL (jH (oY I λ_=>(by
   have k:jC (Ya 10) uZ uY (qf [10] h) (da f)=.ok ((f.filter λ_=>false).map λy=>D.int (y:Nat)):=xX f λy i=>⟨_,rfl,aG rfl rfl<|(bDm y _).trans<|by rw[Cc<|Q.all y<|G x rfl y i];rfl,λz=>nomatch z⟩
   rw[ox.mpr (λ_ _=>by decide)]at k
   exact aG (fH rfl (by rw[aY];lia) k) (dZ rfl)<|(Io []).trans rfl)) rfl)<|aL (jH (by
   have k:jC (Ya 10) dG oK (qf [10] h) (da<|runs S r u)=.ok (((runs S r u).filter λ_=>true).map λy=>D.int<|rk.getD y 0):=fK (runs S r u) λy i=>⟨_,rfl,rfl,aG rfl rfl<|EZ M<|cB t<|inR y i⟩
   rw[tu.mpr<|λ_ _=>rfl]at k
   exact aG (aG (uF (fH (mX rfl) (by rw[aY,o];lia) k) (by
    show (nP _).bind _=_;rw[show ((runs S r u).map λy=>D.int<|rk.getD y 0)=((runs S r u).map λy=>((rk.getD y 0):Int)).map D.int by rw[xg];rfl,iJ,bD,aD (by rw[lc];exact Oq.mpr j),VW C.1 inR Q.all])) rfl<|vA<|by decide) rfl<|(qP _ _).trans<|by rw[Z2 N,Cc rfl];rfl) rfl)<|aL (bT rfl)<|bT<|aG rfl rfl rfl) (Ox ?_ e)
  have F:(1:Int)-(Ah g)=(Ah<|!g):=by cases g<;>rfl
  rw[F];rfl
end
section
variable{S:be}{rk:am}{c n r:Nat}{g:Bool}
theorem WW(M:La S rk c){w:am}(N:Ts S rk c g l r w)(o:Nat){v:Bool}(n:bC (qH (Ya 7) (xc<|e2 Ta (aA 2)<|eC<|.int 1) gY) (cG<|eC<|.bl true) (zq S rk c (Hn S rk c l r w) r o [] none none)=.ok (.rt<|.bl v)):dF [.lst<|Va S,.lst<|da rk,Hn S rk c l r w,.int o]=.ok (.bl v):=by
 have b:=M.one;have y:=M.c3;have t:=N.wl
 let d:=Hn S rk c l r w
 let h:=l.map λx=>mh S rk c r x
 have i:(l.map λx=>D.str<|mh S rk c r x)=h.map D.str:=by rw[xg];rfl
 let s:xa:=[D.lst<|Va S,D.lst<|da rk,d,o,none,none,none,none,none,none,none]
 let a:xa:=[D.lst<|Va S,D.lst<|da rk,d,o,D.str<|Jq c,none,none,none,none,none,none]
 have e:e2 Ta (aA 2) (eC<|.int 0) a=.ok (.str w):=aG (x:=d) rfl rfl rfl;have m:dD 5 (e2 Ta (e2 lE (gD<|aB (eC<|.int 0) aK)<|aM qK<|aB (aA 0)<|aB (eC<|.int 0)<|aB (e2 Ta (aA 2)<|eC<|.int 0) aK)<|e1 Vi<|eC<|.int 1) a=.ok (.nx<|a.set 5 r):=by
  refine bT<|aG (x:=.lst<|da<|0::runs S 0 w) (aG (dZ rfl) (aO (aV rfl<|aV rfl<|aV e rfl)<|AK M b N.H8<|by lia)<|DZ<|by rw[aY,dA];show 1+_<=_;lia) rfl<|BK ?_
  have:=fA (S:=S) w 0
  rwa [N.last]at this
 refine bV rfl<|aL (jH (oY (iH (p:=true)<|aD rfl) λ_=>oY (p:=false) (aG (uF rfl rfl) rfl<|(qP _ _).trans rfl) λ_=>iH (p:=true)<|aD rfl) rfl)<|aL (by
  refine bT ?_
  rw[U1,G4,bD];simp only[ż,Ž,bD];rw[(uF (aG rfl rfl<|iC<|Ho b) (by
   show R.ok (D.int ((da S[0]).length:Nat))=_;rw[aY,(M.row S[0] (Fh b)).1]))]
  exact aD<|dO<|by show 3<=_;lia)<|aL (jH (oY (ZU M N.H8 (by lia) e λch _=>⟨_,rfl,rfl⟩) λ_=>iH<|aO (aV (aG rfl rfl<|by rw[<-i];rfl) rfl)<|bDr M (λz=>N.ne<|List.map_eq_nil_iff.mp z) (λu k=>by
  obtain⟨x,j,rfl⟩:=Zc.mp k;obtain⟨q,f,p⟩:=N.GP x j;obtain⟨_,Q⟩:=SA M f p q;exact⟨Q.ne,Rv Q.js,by have:=ZI M f Q;lia⟩)) rfl)<|aL m<|aL (bT<|dZ rfl) n
def ϙ(M:La S rk c){w:am}(N:Ts S rk c g l r w):dF [.lst<|Va S,.lst<|da rk,Hn S rk c l r w,.int<|Ah g]=.ok (.bl true):=by
 obtain⟨d,f,b,a,e⟩:=DT M N.lt l [] g none none N.alt N.GP (λ_ _ _ h=>nomatch h)<|He _
 exact WW M N _<|aL (iB (mX<|aG rfl rfl rfl) e)<|cT rfl
theorem Ă(M:La S rk c){w:am}(N:Ts S rk c g l r w):dF [.lst<|Va S,.lst<|da rk,Hn S rk c l r w,.int<|Ah<|!g]=.ok (.bl false):=by
 refine WW M N (Ah<|!g)<|Eo<|iB (mX<|aG rfl rfl rfl) ?_;obtain⟨q,o,p,s⟩:=And.intro N.alt<|And.intro N.ne<|And.intro N.GP N.lt;generalize C:Hn S rk c l r w=d;cases l with
 |nil=>exact(o rfl).elim
 |cons x l=>
  obtain⟨G,A,F,E⟩:=q;obtain⟨v,j,n⟩:=p x zb;obtain⟨_,Q⟩:=SA M j n v;rw[Ge];generalize mh S rk c r x=u at Q;have B:=ZI M j Q;have inR:=λy i=>aX.mpr<|QH Q.js y i
  have h:(runs S r u).length=u.length:=dA u r;have f:runs S r u≠[]:=λz=>by
   rw[z]at h;exact Q.ne<|Kn.mp h.symm
  have lst:(runs S r u).getLast?=some r:=by
   have:=fA (S:=S) u r;rw[Av Q.js]at this;cases k:runs S r u with
   |nil=>exact(f k).elim
   |cons a b=>rwa [k,ZL]at this
  let e:=zq S rk c d r (Ah<|!g) [] (D.str u)<|D.lst<|da<|runs S r u
  have t:e2 Xd (e2 Ta (aA 8)<|e1 Vi<|eI 1) (aA 5) e=.ok (.bl false):=aG (aG rfl rfl<|BK lst) rfl<|(qP _ _).trans<|by rw[Cc rfl];rfl
  rw[uL];show R.bind (gY<|zq S rk c d r (Ah<|!g) [] (D.str u) none) _=_;rw[show gY (zq S rk c d r (Ah<|!g) [] (D.str u) none)=.ok (.rt<|.bl false) from aL (bT<|aO rfl<|AK M s (Rv Q.js)<|by lia)<|aL (jH (oY t λ_=>(aG (fH rfl (He _) rfl) (dZ rfl)<|(Io []).trans rfl)) rfl)<|Eo<|zh (by
   have m:jC (Ya 10) dG oK (qf [10] e) (da<|runs S r u)=.ok (((runs S r u).filter λ_=>true).map λy=>D.int<|rk.getD y 0):=fK (runs S r u) λy i=>⟨_,rfl,rfl,aG rfl rfl<|EZ M<|cB j<|inR y i⟩
   rw[tu.mpr<|λ_ _=>rfl]at m
   exact aG (aG (uF (fH (mX rfl) (by rw[aY,h];lia) m) (by
    show (nP _).bind _=_;rw[show ((runs S r u).map λy=>D.int<|rk.getD y 0)=((runs S r u).map λy=>((rk.getD y 0):Int)).map D.int by rw[xg];rfl,iJ,bD,aD (by rw[lc];exact Oq.mpr f),VW n.1 inR Q.all])) rfl<|vA<|by decide) rfl<|(qP _ _).trans<|by rw[Z2 A,Qc (by cases g<;>decide)];rfl)<|cT rfl]
  rfl
def NV(S:be)(rk:am)(c:Nat)(g:Bool)(d:D):Prop:=(bO S c rk g=0/\d=.Bb)\/∃l r w,Ts S rk c g l r w/\d=Hn S rk c l r w
theorem TH(M:La S rk c):∃b a,vX [mD S rk c]=.ok (.tup [b,a])/\NV S rk c true b/\NV S rk c false a:=by
 have one:∀g,∃d,fV [mD S rk c,.bl g]=.ok d/\NV S rk c g d:=λg=>by
  rcases bDp M g with ⟨h,e⟩|⟨l,r,w,h,e⟩
  .exact⟨_,e,.inl ⟨h,rfl⟩⟩
  exact⟨_,e,.inr ⟨l,r,w,h,rfl⟩⟩
 obtain⟨b,k,i⟩:=one true;obtain⟨a,j,f⟩:=one false;refine⟨b,a,bV rfl<|cT ?_,i,f⟩;simp_all
def iL:xz
 |.Bb=>false
 |_=>true
def E5:D->D
 |.tup [_,y]=>y
 |_=>.Bb
def bIb(h:NV S rk c g d):∃xs:List (List<|List Nat),kx1 d=xs.map (λa=>a.map D.str)/\(([d].filter iL).map E5)=xs.map (λa=>D.lst<|a.map D.str)/\iw d=true/\bLk d .Bb=.ok (.bl<|iL d)/\(iL d=true->Ta d (.int 1)=.ok (E5 d)):=by
 rcases h with ⟨_,rfl⟩|⟨l,r,w,N,rfl⟩
 .exact⟨[],rfl,rfl,rfl,rfl,λz=>nomatch z⟩
 have b:(l.map λx=>D.str<|mh S rk c r x)=(l.map λx=>mh S rk c r x).map D.str:=by rw[xg];rfl
 refine⟨[l.map λx=>mh S rk c r x],?_,?_,?_,rfl,λ_=>rfl⟩
 .show [_]=[_];rw[b]
 .show [D.lst _]=[_];rw[b]
 show (DF _&&List.all _ _)=true;cases l with
 |nil=>exact((N.ne) rfl).elim
 |cons x l=>
  rw[Lm];refine⟨rfl,Bx.mpr λy hy=>?_⟩
  obtain⟨_,_,rfl⟩:=Zc.mp hy;rfl
def u3(M:La S rk c)(g:Bool):jF [.lst<|da<|fQ S c,.lst<|da rk,.int<|Ah g]=.ok (.int<|bO S c rk g):=by
 have h:=QW M;have b:∀Y∈fQ S c,Y<2^S.length/\Ec S c Y:=λY a=>⟨(nW.mp a).1,(nW.mp a).2.1⟩
 refine bI7 M (o:=Ah g) (g:=g) (λn=>?_) Ā (by omega) b λZ d Y f e=>XU d f e
 unfold Za Ah;cases g with
 |true=>rw[Ka rfl,ii];rfl
 |false=>rw[Ea zk,eM];omega
def iA(l:am):Rh (.lst<|da l)=true:=by
 have h:∀l:am,wZ (da l)=true:=λl=>by
  induction l with
  |nil=>rfl
  |cons a l b=>show wZ (.int a::da l)=true;unfold wZ;rw[b];rfl
 unfold Rh;rw[h l];cases l<;>rfl
def FZ(S:be):Rh (.lst<|Va S)=true:=by
 have h:∀S:List _,wZ (Va S)=true:=λS=>by
  induction S with
  |nil=>rfl
  |cons a l b=>show wZ (.lst _::Va l)=true;unfold wZ;rw[b,iA];rfl
 unfold Rh;rw[h S];cases S<;>rfl
def XG(d:D)(ds:im):wZ (d::ds)=(Rh d&&wZ ds):=by conv=>lhs;unfold wZ
def bQ1:Vf (mD S rk c)=some (.v<|mD S rk c):=by
 show (if Rh _=true then _ else _)=_
 rw[Ka (by
  show Rh (.ins _ _ [.lst<|Va S,.lst _,.int _,.int _])=true;unfold Rh;rw[XG,FZ,XG,iA,XG];rfl)]
end
section
variable {f:ol} {s e:Nat}
theorem CK(a:∀n,97<=f n/\(f n:Int)<97+c){al:sK}{m:Nat}:∀k,(∀j,m<j->j<=m+k->al (fw S f q j)=true)->Fd S c al (fw S f q m) (fw S f q<|m+k)
 |0,_=>.here
 |k+1,h=>by
  have d:=a<|m+k;exact Fd.on (CK a k λj b e=>h j b<|by lia) (by lia)<|h (m+k+1) (by lia)<|by lia
theorem gV(M:La S rk c)(l:∀n,97<=f n/\(f n:Int)<97+c)(v:q<S.length)(L:Lp S f q s e):Ec S c (iW<|Dd S f q s e):=by
 have d:∀{x},x∈aQ (iW<|Dd S f q s e)↔∃n,s<=n/\n<e/\fw S f q n=x:=λ{x}=>by rw[uN,uB]
 have t:∀j,s<=j->Bg (iW<|Dd S f q s e) (fw S f q j)=true:=λj w=>by
  obtain⟨m,E,D,C⟩:=L.into j w;exact aX.mp<|d.mpr ⟨m,E,D,C.symm⟩
 have g:=d.mpr ⟨s,Cb _,(L.lt),rfl⟩;refine⟨λz=>?_,λa ha b hb=>?_,?_⟩
 .rw[z,aX,Mx]at g;cases g
 .obtain⟨i,H,G,rfl⟩:=d.mp ha;obtain⟨j,u,F,rfl⟩:=d.mp hb;have:=CK l (m:=i) (j+(e-s)-i) λk h o=>t k (by lia)
  rwa [show i+(j+(e-s)-i)=j+(e-s) by lia,L.at j u]at this
 unfold Ib
 by_cases h:1<(aQ<|iW<|Dd S f q s e).length
 .rw[Cc h];rfl
 have o:=aX.mpr<|t (s+1)<|by lia
 have:=l s;cases p:aQ (iW<|Dd S f q s e) with
 |nil=>rw[p]at g;cases g
 |cons x T=>
  rw[p]at g h o;have A:T=[]:=by
   cases T with
   |nil=>rfl
   |cons y T=>simp at h
  subst A;have r:=Fe.mp g;rw[or_eq_true];exact .inr<|Cc<|(OH M<|by rw[<-r];exact To M l v s).mpr ⟨f s-97,by lia,by
   have B:Bc S (fw S f q s) (f s-97)=fw S f q (s+1):=rfl
   rwa [r,(Fe.mp o)]at B⟩
def hV(M:La S rk c)(b:∀n,97<=f n/\(f n:Int)<97+c)(a:q<S.length)(n:Nat):fw S f q n∈aQ (iM S c (iW<|List.range S.length) q):=by
 refine aX.mpr<|(kW M a _).mpr ?_;have:=CK b (m:=0) n λj _ _=>by
  show (iW<|List.range S.length).testBit _=true;rw[jJ];exact Cc<|Ff.mpr<|To M b a j
 rwa [rp]at this
end
section
variable{S:be}{rk:am}{c base:Nat}
theorem nV(M:La S rk c):∀(k X:Nat),Oc X<=k->Ec S c X->X<2^S.length->∀v,base<v->v<=De S rk c base k X->∃r∈aQ X,Xh S rk c base k X r=v
 |0,X,f,a,_,_,_,_=>by have:=nD a.1;lia
 |k+1,X,f,a,b,v,m,q=>by
  by_cases l:v=De S rk c base (k+1) X
  .rw[l];exact yB M f b a
  rcases Wt (gC M) a.1 b with e|⟨Y,g,e⟩
  .have:dM base (Za rk X)<=base+1:=by unfold dM;split<;>lia
   have s:De S rk c base (k+1) X=dM base _:=e;lia
  obtain⟨j,i,h,p,o⟩:=fB M g a.1 b;obtain⟨r,d,n⟩:=nV M k Y (by lia) j h v m (by lia)
  exact⟨r,(kZ.mp<|i r d).1,by rw[<-n];exact Xt M (gC M) a.1 b g d⟩
theorem GZ(M:La S rk c):∀(k X:Nat),Oc X<=k->Ec S c X->X<2^S.length->(∀r∈aQ X,Xh S rk c base k X r≠base)->De S rk c base k X=De S rk c (base+1) k X
 |0,X,q,f,_,_=>by have:=nD f.1;lia
 |k+1,X,q,f,g,p=>by
  have n:∀Y,Af S c rk (Za rk X) X Y->De S rk c base k Y=De S rk c (base+1) k Y/\Ec S c Y/\Oc Y<=k/\Za rk Y≠Za rk X/\dM base (Za rk Y)<=De S rk c base k Y:=λY d=>by
   obtain⟨m,y,x,B,w⟩:=fB M d f.1 g;refine⟨GZ M k Y (by lia) m x λr hr z=>p r (kZ.mp<|y r hr).1 ?_,m,by lia,w,?_⟩
   .exact(Xt M (gC M) f.1 g d hr).trans z
   have:=nD m.1;obtain⟨j,rfl⟩:∃j,k=j+1:=⟨k-1,by lia⟩
   exact NA
  obtain⟨r,hr,A⟩:=yB M q g f;have o:=p r hr;rw[A]at o;have t:dM (base+1) (Za rk X)<=De S rk c (base+1) (k+1) X:=NA;have up1:∀Y,Af S c rk (Za rk X) X Y->De S rk c base k Y<De S rk c base (k+1) X:=λY d=>xC (gC M) f.1 g d
  have l:∀Y,Af S c rk (Za rk X) X Y->De S rk c (base+1) k Y<De S rk c (base+1) (k+1) X:=λY d=>xC (gC M) f.1 g d
  have s:dM (base+1) (Za rk X)<=De S rk c base (k+1) X:=by
   rcases Wt (gC M) f.1 g with e|⟨Y,d,e⟩
   .have i:De S rk c base (k+1) X=dM base (Za rk X):=e;revert i o;unfold dM;cases Za rk X<;>rcases XC base with h|h<;>simp[h] <;> (try rw[show (base+1)%2=0 by lia]) <;> (try rw[show (base+1)%2=1 by lia]) <;> simp<;>lia
   have i:=e;obtain⟨_,_,_,v,u⟩:=n Y d;revert v u;unfold dM;cases Za rk X<;>cases Za rk Y<;>rcases XC base with h|h<;>simp[h] <;> (try rw[show (base+1)%2=0 by lia]) <;> (try rw[show (base+1)%2=1 by lia]) <;> simp<;>lia
  have a:De S rk c base (k+1) X<=De S rk c (base+1) (k+1) X:=by
   rcases Wt (gC M) f.1 g with e|⟨Y,d,e⟩
   .have i:De S rk c base (k+1) X=dM base (Za rk X):=e;have:dM base (Za rk X)<=dM (base+1) (Za rk X):=by
     unfold dM;cases Za rk X<;>rcases XC base with h|h<;>simp[h] <;> (try rw[show (base+1)%2=0 by lia]) <;> (try rw[show (base+1)%2=1 by lia]) <;> simp<;>lia
    lia
   have i:=e;have:=(n Y d).1;have:=l Y d;lia
  have b:De S rk c (base+1) (k+1) X<=De S rk c base (k+1) X:=by
   rcases Wt (gC M) f.1 g with e|⟨Y,d,e⟩
   .have i:De S rk c (base+1) (k+1) X=dM (base+1) (Za rk X):=e;lia
   have i:=e;have:=(n Y d).1;have:=up1 Y d;lia
  lia
def qA(base:Nat)(g:Bool):dM base g=if g=decide (base%2=0) then base else base+1:=by
 unfold dM;cases g<;>rcases XC base with h|h<;>simp
abbrev nF(base:Nat):Bool:=decide (base%2=0)
theorem bDv:dM (base+1) (nF base)=base+2:=by
 rw[qA,Ea];grind
noncomputable def bi(S:be)(c:Nat)(rk:am)(base:Nat):Int:=if bO S c rk (!nF base)<bO S c rk (nF base) then bO S c rk (nF base)-1 else bO S c rk (nF base)
theorem v3(M:La S rk c){X:Nat}(b:X∈sH S c):(De S rk c base 12 X:Int)<=base+bO S c rk (nF base)-1\/(De S rk c base 12 X:Int)<=base+bO S c rk (!nF base):=by
 obtain⟨h,f,d⟩:=sV M b;obtain⟨g,m,i,e⟩:=nK<|eK M (gC M) 12 X h f d;have j:=(iD g).2.1 X (xW M b) m i;rw[qA]at e
 by_cases a:g=nF base
 .subst a;rw[Ka rfl]at e;left;lia
 rw[Ea a]at e;have:g=!nF base:=by revert a;cases g<;>cases nF base<;>simp
 right;lia
theorem VH(M:La S rk c) {g:Bool} (k:Z∈fQ S c) (j:Ch S c rk g Z m):∃X∈sH S c,dM base g+m<=De S rk c base 12 X+1:=by
 obtain⟨X,a,h⟩:=eA M k;obtain⟨f,d,b⟩:=sV M a;obtain⟨v,i,e⟩:=mw (base:=base) j;have:=(cK M (gC M) 12 X f d.1 b i h).1;refine⟨X,a,?_⟩;lia
def HZ(M:La S rk c){X:Nat}(b:X∈sH S c)(a:r∈aQ X):r∈aQ (vN S c):=(dU M uE b).2.1 r a
theorem bIc(M:La S rk c)(o:bO S c rk (!nF base)<=bO S c rk (nF base)):∃r∈aQ (vN S c),wL S rk c base r=base:=by
 obtain⟨u,k,j⟩:=iD<|nF base;obtain⟨t,i,s⟩:=iD (S:=S) (c:=c) (rk:=rk)<|!nF base;rcases j with e|⟨Z,q,m,n,e⟩
 .refine⟨0,(aX.mpr<|(kW M M.one 0).mpr .here),xV λX hX _=>?_⟩
  obtain⟨d,a,b⟩:=sV M hX
  by_cases g:Za rk X=nF base
  .have:=k X (xW M hX) 1<|.one a g;lia
  have:=i X (xW M hX) 1<|.one a<|by revert g;cases Za rk X<;>cases nF base<;>simp
  lia
 obtain⟨X,hX,p⟩:=VH M q n;obtain⟨d,a,b⟩:=sV M hX;refine si λl=>?_
 rw[bDv,<-(GZ M 12 X d a b λr f z=>l ⟨r,HZ M hX f,by rwa [wC M hX f]⟩)]at p
 rcases v3 (base:=base) M hX with h|h<;>lia
theorem bId(M:La S rk c)(g:bO S c rk (!nF base)<=bO S c rk (nF base))(r:Nat):(wL S rk c base r:Int)<=base+bi S c rk base:=by
 have i:=(iD (S:=S) (c:=c) (rk:=rk)<|!nF base).1;unfold bi
 by_cases h:∃X∈sH S c,r∈aQ X
 .obtain⟨X,a,b⟩:=h;obtain⟨f,e,d⟩:=sV M a;rw[wC M a b];have:=(Yt (base:=base) M (gC M) 12 X f e.1 d r).2;rcases v3 (base:=base) M a with h|h<;>split<;>lia
 rw[xV λX a b=>h ⟨X,a,b⟩]
 split<;>lia
theorem bIe(M:La S rk c)(f:bO S c rk (!nF base)<=bO S c rk (nF base)){v:Nat}(t:base<=v)(l:(v:Int)<=base+bi S c rk base):∃r∈aQ (vN S c),wL S rk c base r=v:=by
 by_cases j:v=base
 .rw[j];exact bIc M f
 obtain⟨y,x,s⟩:=iD (S:=S) (c:=c) (rk:=rk)<|nF base;obtain⟨w,u,q⟩:=iD (S:=S) (c:=c) (rk:=rk)<|!nF base;have A:dM base (nF base)=base:=by rw[qA,Ka rfl]
 have B:dM base (!nF base)=base+1:=by
  rw[qA,Ea λz=>?_]
  have i:(!nF base)=nF base:=z;generalize nF base=b at i;cases b<;>cases i
 obtain⟨X,a,g⟩:∃X∈sH S c,v<=De S rk c base 12 X:=by
  unfold bi at l;split at l
  .rcases s with e|⟨Z,h,m,d,e⟩
   .lia
   obtain⟨X,a,g⟩:=VH (base:=base) M h d;exact⟨X,a,by lia⟩
  rcases q with e|⟨Z,h,m,d,e⟩
  .lia
  obtain⟨X,a,g⟩:=VH (base:=base) M h d;exact⟨X,a,by lia⟩
 obtain⟨p,o,n⟩:=sV M a;obtain⟨r,k,e⟩:=nV M 12 X p o n v (wu t<|Qg j) g;exact⟨r,HZ M a k,by rwa [wC M a k]⟩
theorem Ņ(M:La S rk c)(a:bO S c rk (!nF base)<=bO S c rk (nF base)) (d:l.Nodup) (g:∀v,v∈l↔∃r∈aQ (vN S c),wL S rk c base r=v):(l.length:Int)=bi S c rk base+1:=by
 have i:=(iD (S:=S) (c:=c) (rk:=rk)<|!nF base).1;have b:0<=bi S c rk base:=by unfold bi;split<;>lia
 obtain⟨t,e⟩:=Int.eq_ofNat_of_zero_le b;have f:l.Perm (List.range' base<|t+1):=(u6 d List.nodup_range').mpr λv=>by
  rw[g,XM];constructor
  .rintro⟨r,_,rfl⟩;have:=YI (base:=base) M r;have:=bId M a r;lia
  intro h;exact bIe M a h.1 (by lia)
 rw[f.length_eq,List.length_range',e];lia
end
section
variable{T:be}{Zy:am}{od mo base:Nat}{π:ol}{f:ol}
def A3(h:l≠[]):mx rk l=fY rk (iW l):=by
 rw[LY h λr=>by rw[uN]]
 rfl
def bMi(M:La S rk c)(a:∀n,97<=f n/\(f n:Int)<97+c){v b:Bool}(h:Ev S rk f 0 v)(d:Ev S (eU S rk c base) f 0 b):v=b:=by
 obtain⟨s,e,L,rfl⟩:=h;rw[(Ev.alone d ⟨s,e,L,rfl⟩),A3<|qB L.lt,A3<|qB L.lt,XI M<|nW.mpr ⟨uC λr hr=>?_,gV M a M.one L,λr hr=>?_⟩]
 .obtain⟨n,_,_,rfl⟩:=uB.mp hr;exact To M a M.one n
 rw[uN]at hr;obtain⟨n,_,_,rfl⟩:=uB.mp hr;exact hV M a M.one n
end
theorem YW{k:Nat}{tg:Tg}{C f:Ex}{st:xa}:∀ds:im,(∀d∈ds,∃a c,tg d st=.ok a/\C a=.ok (.bl true)/\f a=.ok (.str [c])/\97<=c/\c<97+k)->∃l:am,jC tg C f st ds=.ok (l.map λc=>D.str [c])/\l.length=ds.length/\Ue (k:Int) l
 |[],_=>⟨[],rfl,rfl,λ_ h=>nomatch h⟩
 |d::ds,h=>by
  obtain⟨a,c,n,b,o,m,p⟩:=h d zb;obtain⟨l,e,i,g⟩:=YW ds λd j=>h d<|Ab _ j
  refine⟨c::l,?_,by simp[i],λz hz=>?_⟩
  .rw[uT,n,bD,b,o,e];rfl
  rcases Pb.mp hz with rfl|hz
  .exact⟨m,by lia⟩
  exact g z hz
def bDy{st:xa} (h:f st=.ok (.lst<|l.map λc=>D.str [c])) (a:l.length<=1000000):Ai Fw (eC<|.str []) (aB f aK) st=.ok (.str l):=by
 show ((aB f aK) st).bind _=_;rw[aV h rfl];exact bHg l a
theorem IZ{k:Nat}(t:1<=k)(o:k<=3)(a:Int){lo mo:Nat}(h:lo<=mo)(s:mo<=1000):∃w:am,rY [.int a,.int k,.int lo,.int mo]=.ok (.str w)/\lo<=w.length/\w.length<=mo/\Ue (k:Int) w:=by
 obtain⟨y,x⟩:=uD a 31 (m:=mo-lo+1) (by lia)
 obtain⟨n,j⟩:∃n:Nat,lo+xT a 31 (mo-lo+1)=n:=⟨(lo+xT a 31 (mo-lo+1)).toNat,by lia⟩
 obtain⟨l,e,m,f⟩:=YW (k:=k) (tg:=Ya 5) (C:=dG) (f:=jS) (st:=[a,k,lo,mo,n,none]) ((List.range n).map λ(i:Nat)=>D.int i) (λd q=>by
  obtain⟨i,_,rfl⟩:=Zc.mp q;have v:=Wq i (show (5)≠0 by decide)
  have u:=Cu i (show (0)<5 by decide)
  have b:=oA (a/(i%5+1)) (32+i) k (by lia)
  obtain⟨r,c⟩:=uD (a/(i%5+1)) (32+i) (m:=k) (by lia)
  obtain⟨p,g⟩:∃p:Nat,xT (a/(i%5+1)) (32+i) k=p:=⟨(xT (a/(i%5+1)) (32+i) k).toNat,by lia⟩
  rw[g]at b c;exact⟨_,97+p,rfl,rfl,aG rfl (aO (aV (aG rfl (aG (aG rfl rfl<|vA<|by decide) rfl rfl)<|GA ⟨by lia,by lia⟩)<|aV (aG rfl rfl rfl)<|aV rfl rfl) b)<|ZY<|by lia,by lia,by lia⟩)
 rw[lc,Gu]at m;refine⟨l,bV rfl<|aL (bT<|aG rfl (aO (aV rfl<|aV rfl<|aV (aG (aG rfl rfl rfl) rfl rfl) rfl)<|oA a 31 (mo-lo+1)<|by lia) rfl) ?_,by lia,by lia,f⟩
 rw[show (D.int<|lo+xT a 31 (mo-lo+1))=D.int n by rw[j]]
 exact cT<|bDy (fH (xq rfl<|by lia) (by simp;lia) e)<|by lia
theorem JZ{x:Int}:∀(l a:lv),x∈l.foldl (λa x=>if a.any (· == x) then a else a++[x]) a↔x∈a\/x∈l
 |[],a=>by simp
 |y::l,a=>by
  rw[Mm,JZ l]
  by_cases h:a.any (· == y)=true
  .rw[Ka h];have c:y∈a:=by
    obtain⟨z,b,e⟩:=zu.mp h;rw[<-eq_of_beq e];exact b
   constructor
   .rintro(z|z)
    .exact .inl z
    .exact .inr (Ab _ z)
   .rintro(z|z)
    .exact .inl z
    .rcases Pb.mp z with rfl|z
     .exact .inl c
     .exact .inr z
  .rw[Ea h,wg,Fe,Pb,or_assoc]
theorem B3:∀(l c:lv),c.Nodup->(l.foldl (λc x=>if c.any (· == x) then c else c++[x]) c).Nodup
 |[],c,h=>h
 |y::l,c,h=>by
  rw[Mm];refine B3 l _ ?_
  split
  .exact h
  rename_i d;refine Im.mpr ⟨h,by simp,λa g b f e=>d ?_⟩
  simp_all
theorem bMj{l:lv}(e:l.Nodup)(h:∀x∈l,0<=x):∃q:am,l.map D.int=da q/\q.Nodup/\q.length=l.length/\∀x:Nat,x∈q↔(x:Int)∈l:=by
 refine⟨l.map Int.toNat,?_,?_,lc ..,λx=>?_⟩
 .unfold da;rw[xg];refine yk λx c=>?_
  show D.int x=D.int _;rw[Au<|h x c]
 .exact List.Pairwise.map Int.toNat (R:=λa b=>a≠b/\0<=a/\0<=b) (λa b g z=>g.1<|by lia) (Y5.mpr λ{a b} d=>⟨(Y5.mp e) d,h a<|d.subset<|by simp,h b<|d.subset<|by simp⟩)
 rw[Zc];constructor
 .rintro⟨y,f,rfl⟩
  rwa [Au<|h y f]
 intro c;exact⟨_,c,Du x⟩
def bMk(a:am):(jn<|a.map λ(x:Nat)=>(x:Int)).Nodup/\∀y,y∈jn (a.map λ(x:Nat)=>(x:Int))↔∃x∈a,(x:Int)=y:=by
 unfold jn;refine⟨B3 _ _ ar,λy=>?_⟩
 rw[JZ];simp
def bMl(a:am):nP (da a)=.ok (a.map λ(x:Nat)=>(x:Int)):=by
 rw[show da a=(a.map λ(x:Nat)=>(x:Int)).map D.int by rw[xg];rfl,iJ]
theorem bE0(j:row.length<=60):∃q:am,Lv (.lst<|da row)=.ok (.int (q.length:Nat))/\q.Nodup/\∀x,x∈q↔x∈row:=by
 obtain⟨c,a⟩:=bMk row;obtain⟨q,e,b,f,d⟩:=bMj c λx g=>by
  obtain⟨y,_,rfl⟩:=(a x).mp g;lia
 refine⟨q,?_,b,λx=>?_⟩
 .show (nP _).bind _=_;rw[bMl,f];exact aD (by rw[lc];lia)
 rw[d,a];exact⟨λ⟨y,i,e⟩=>by rwa [<-Int.ofNat_inj.mp e],λh=>⟨x,h,rfl⟩⟩
def bIf{s:xa} (h:ds.length=np) (b:bd (ds.map (λd=>some<|.v d)++List.replicate (n-np) none)=.ok (.nx s)) (a:f s=.ok (.tup [.lst xs,.lst ys])):cM np n (Bm bd f) ds=.ok (.tup [.lst xs,.lst ys]):=by
 refine bV h ?_
 unfold Bm;rw[b];show (match UB (f s) with|some (xs,ys)=>R.ok _|none=>.bad)=_
 rw[a];rfl
theorem N4{c:Ex}{st:xa}{r:R D}(h:c st=.ok (.bl true))(a:f st=r):pj c f g st=r:=by simp_all
theorem BC{c:Ex}{st:xa}{r:R D}(h:c st=.ok (.bl false))(a:g st=r):pj c f g st=r:=by simp_all
theorem Vo{r:yd}{st:xa}{a b:D}(h:r st=.ok [a,b]):wI r st=.ok (.tup [a,b]):=by
 simp_all
def Qr(a b:D):Ta (.tup [a,b]) (.int 0)=.ok a/\Ta (.tup [a,b]) (.int 1)=.ok b:=⟨rfl,rfl⟩
section
variable{S:be}{rk:am}{c:Nat}{g:Bool}
theorem KZ(h:NV S rk c g d):nR [d]=.ok (.int<|bO S c rk g):=by
 rcases h with ⟨z,rfl⟩|⟨l,r,w,N,rfl⟩
 .rw[z];exact bV rfl<|cT rfl
 rw[<-N.len];refine bV rfl<|cT<|BC rfl<|uF (aG rfl rfl rfl) ?_;simp_all
noncomputable def eE(S:be)(c:Nat)(rk:am):Nat:=if bO S c rk true<bO S c rk false then 1 else 0
noncomputable def qi(S:be)(c:Nat)(rk:am)(b a:D):im:=if bO S c rk true<bO S c rk false then [a] else if bO S c rk false<bO S c rk true then [b] else [b,a]
def bE1:bO S c rk (!nF (eE S c rk))<=bO S c rk (nF<|eE S c rk):=by
 unfold eE;split
 .rename_i h;exact Int.le_of_lt h
 rename_i h;exact Int.not_lt.mp h
def YG(M:La S rk c) (e:vX [mD S rk c]=.ok (.tup [d0,d1])) (k:NV S rk c true d0) (j:NV S rk c false d1):gW [mD S rk c]=.ok (.tup [.lst<|da<|eU S rk c<|eE S c rk,.lst<|qi S c rk d0 d1]):=by
 let st:xa:=[mD S rk c,D.tup [d0,d1],bO S c rk true,bO S c rk false]
 have i:aM eX (aB (aA 0)<|aB (eI 0) aK) st=.ok (.lst<|da<|eU S rk c 0):=aO rfl<|WI M 0;have run:∀{f:Ex}{xs ys:im},f st=.ok (.tup [.lst xs,.lst ys])->cM 1 4 (Bm sS f) [mD S rk c]=.ok (.tup [.lst xs,.lst ys]):=λh=>bIf rfl (aL (bT<|aO rfl e)<|aL (bT<|aO (aV (aG rfl rfl (Qr d0 d1).1) rfl)<|KZ k)<|aL (bT<|aO (aV (aG rfl rfl (Qr d0 d1).2) rfl)<|KZ j) rfl) h
 have b:e2 Eg (aA 3) (aA 2) st=.ok (.bl<|decide (bO S c rk true<bO S c rk false)):=rfl;have g:e2 Eg (aA 2) (aA 3) st=.ok (.bl<|decide (bO S c rk false<bO S c rk true)):=rfl;unfold eE qi
 by_cases a:bO S c rk true<bO S c rk false
 .rw[Cc a]at b;rw[Ka a,Ka a];exact run<|N4 b<|Vo<|aV (aO rfl<|WI M 1)<|aV (dZ<|aV (aG rfl rfl (Qr d0 d1).2) rfl) rfl
 rw[Qc a]at b;rw[Ea a,Ea a]
 by_cases d:bO S c rk false<bO S c rk true
 .rw[Cc d]at g;rw[Ka d];exact run<|BC b<|N4 g<|Vo<|aV i<|aV (dZ<|aV (aG rfl rfl (Qr d0 d1).1) rfl) rfl
 rw[Qc d]at g;rw[Ea d];exact run<|BC b<|BC g<|Vo<|aV i<|aV (dZ<|aV (aG rfl rfl (Qr d0 d1).1)<|aV (aG rfl rfl (Qr d0 d1).2) rfl) rfl
def ă(M:La S rk c):Lz [mD S rk c]=.ok (mD S (eU S rk c<|eE S c rk) c):=by
 obtain⟨d0,d1,e,b,a⟩:=TH M;exact bV rfl<|cT<|aO (aV (uF rfl mQ)<|aV (aG (aO rfl<|YG M e b a) rfl (Qr _ _).1) rfl)<|KY<|QA M
theorem bE2(h:∀Z∈fQ S c,fY Pp Z%2=fY rk Z%2)(g:Bool):bO S c Pp g=bO S c rk g:=by
 have i:∀{b a:am},(∀Z∈fQ S c,fY b Z%2=fY a Z%2)->∀Z∈fQ S c,Za b Z=Za a Z:=λh Z d=>by unfold Za;rw[h Z d]
 have ch:∀{b a:am},(∀Z∈fQ S c,fY b Z%2=fY a Z%2)->∀{Z m:Nat},Ch S c b g Z m->Z∈fQ S c->Ch S c a g Z m:=λ{b a} h {Z m} k=>by
  induction k with
  |one f e=>exact λd=>.one f (by rwa [<-i h _ d])
  |up k f e q l=>
   intro d;have j:=XU d k.lp e;exact .up (l j) f e (by rwa [<-i h _ j,<-i h _ d])
 have le:∀{b a:am},(∀Z∈fQ S c,fY b Z%2=fY a Z%2)->bO S c b g<=bO S c a g:=λ{b a} h=>by
  obtain⟨s,_,p⟩:=iD (S:=S) (c:=c) (rk:=b) g;obtain⟨r,o,_⟩:=iD (S:=S) (c:=c) (rk:=a) g;rcases p with z|⟨Z,d,m,n,z⟩
  .lia
  have:=o Z d m<|ch h n d;lia
 exact Int.le_antisymm (le h)<|le λZ d=>(h Z d).symm
def eJ(M:La S rk c)(base:Nat)(g:Bool):bO S c (eU S rk c base) g=bO S c rk g:=bE2 (λZ a=>XI M a) g
theorem ņ(M:La S rk c):∃g,1<=bO S c rk g:=by
 have j:=M.c1;have d:Ue c [97]:=λx f=>by rw[Fe.mp f];lia
 obtain⟨v,⟨s,e,L,_⟩,_⟩:=II M M.one (b:=[]) (λ_ h=>nomatch h) d (by decide) (by decide) (by decide)
 have b:=oB (b:=[]) (λ_ h=>nomatch h) d (by decide)
 have lp:=gV M b M.one L;obtain⟨_,i,_⟩:=iD _;exact⟨_,i _ (nW.mpr ⟨uC λr a=>by
  obtain⟨n,_,_,rfl⟩:=uB.mp a;exact To M b M.one n,lp,λr a=>by
  rw[uN]at a;obtain⟨n,_,_,rfl⟩:=uB.mp a;exact hV M b M.one n⟩) 1<|.one lp rfl⟩
end
def bE3(l:am):da l=(l.map λ(x:Nat)=>(x:Int)).map D.int:=by rw[xg];rfl
def Ň(i:Int):tX [.int i]=.ok (.bl true):=bV rfl<|cT<|sU (p:=true) (aD rfl) λ_=>iH (p:=false)<|aD rfl
section
variable{S:be}{rk:am}{c:Nat}{g:Bool}
def Qz{st:xa}(h:f st=.ok (.lst<|Va S)):e1 dC f st=.ok (.int (S.length:Nat)):=uF h (by show R.ok _=_;rw[jX])
theorem CC(base:Nat){r:Nat}(a:r<S.length):Tc (da<|eU S rk c base) (r:Int)=some (.int (wL S rk c base r:Nat)):=by
 rw[Jb (by rwa [aY,Pz])]
 unfold da eU;simp_all
def bE4(M:La S rk c){base:Nat}(h:(fQ S c).filter (λZ=>Z.testBit r)=[]):wL S rk c base r=base:=xV λX a b=>by
 have:X∈(fQ S c).filter (λZ=>Z.testBit r):=df.mpr ⟨xW M a,aX.mp b⟩
 rw[h]at this;cases this
noncomputable abbrev Aq(S:be)(rk:am)(c b:Nat)(e d a:li):xa:=[some<|.v<|.lst<|Va S,some<|.v<|.lst<|da rk,some<|.v<|.lst<|da<|fQ S c,some<|.v<|.lst<|da<|eU S rk c b,some<|.v<|.int<|bO S c rk true,some<|.v<|.int<|bO S c rk false,some<|.v<|.int b,e,d,a,none]
theorem Ą(M:La S rk c):fZ [.lst<|Va S,.lst<|da rk,.lst<|da<|fQ S c,.lst<|da<|eU S rk c<|eE S c rk,.int<|bO S c rk true,.int<|bO S c rk false]=.ok (.bl true):=by
 have A:=M.most;have B:=QW M;have e:=Pz (S:=S) (rk:=rk) (c:=c) (base:=eE S c rk);have g:tQ ((eU S rk c<|eE S c rk).map λ(x:Nat)=>(x:Int))=(if eE S c rk=0 then ap S c rk (-1) else ap S c rk 1)/\(eE S c rk=0\/eE S c rk=1):=by
  unfold eE;split
  .exact⟨by rw[Ea (by decide)];exact bIa M,.inr rfl⟩
  exact⟨by rw[Ka rfl];exact bDo M,.inl rfl⟩
 have u:e1 Zo (e2 Eg (aA 5)<|aA 4) [D.lst<|Va S,D.lst<|da rk,D.lst<|da<|fQ S c,D.lst<|da<|eU S rk c<|eE S c rk,bO S c rk true,bO S c rk false,none,none,none,none,none]=.ok (.int<|eE S c rk):=uF rfl (by
  unfold eE
  by_cases h:bO S c rk true<bO S c rk false
  .rw[Cc h,Ka h];rfl
  rw[Qc h,Ea h];rfl)
 generalize eE S c rk=b at e g u;obtain⟨a,z⟩:=PV (L:=tE) (j:=7) (λx=>Aq S rk c b x none none) (λ_ _=>rfl) (da<|fQ S c) (λd i=>by
  obtain⟨Z,j,rfl⟩:=pM i;obtain⟨m,l,_⟩:=nW.mp j;refine jH (aG (AB M m l.1 rfl rfl) (AB (QA M) m l.1 rfl rfl)<|(qP _ _).trans ?_) rfl;rw[XI M j,Cc rfl];rfl) none
 obtain⟨st',⟨o,n,rfl⟩,y⟩:=EI (tg:=Ya 8) (L:=tH) (λst=>∃q p,st=Aq S rk c b a q p) (da<|List.range S.length) (λd i st ⟨q,p,w⟩=>by
  obtain⟨r,f,rfl⟩:=pM i;have f:=Ff.mp f;subst w
  let T:=(fQ S c).filter λZ=>Z.testBit r
  have lt:e2 Fn (e2 Ta (aA 3)<|aA 8) (aA 6) (Aq S rk c b a r<|D.lst<|da T)=.ok (.bl false):=aG (aG rfl rfl<|iC<|CC b f) rfl (by
   rw[bC5,Qc];have:=YI (base:=b) M r;lia)
  refine⟨_,_,rfl,aL (bT<|fH (mX rfl) (by rw[aY];lia)<|fK (fQ S c) λZ j=>⟨_,rfl,Iq rfl rfl,rfl⟩)<|jH (oY lt λ_=>oZ (sU (aG rfl (dZ rfl)<|O2 T []) λ_=>(aG (aG rfl rfl<|iC<|CC b f) rfl<|qP _ _)) ?_) rfl,r,D.lst<|da T,rfl⟩
  by_cases k:T=[]
  .rw[Cc k,bE4 M k,Cc rfl];rfl
  rw[Qc k];rfl) (Aq S rk c b a none none) ⟨none,none,rfl⟩
 have v:jC (Ya 10) sZ sY (qf [10]<|Aq S rk c b none none none) (da<|eU S rk c b)=.ok (((eU S rk c b).filter λ_=>false).map λ(x:Nat)=>D.int x):=fK (eU S rk c b) λx _=>⟨_,rfl,iH<|aO rfl<|Ň x,rfl⟩
 rw[ox.mpr λ_ _=>zk]at v
 have s:e1 Sk (aA 3) (Aq S rk c b a o n)=.ok (.int<|tQ<|(eU S rk c b).map λ(x:Nat)=>x):=uF rfl (by
  rw[bE3];show (nP _).bind _=_;rw[iJ,bD,aD (by rw[lc,e];exact M.one)])
 have t:gD (aB (e2 Qo (e2 wk (aA 4)<|eI 1)<|aA 5)<|aB (e2 Qo (e2 lE (aA 4)<|eI 1)<|aA 5) aK) (Aq S rk c b a o n)=.ok (.lst [.int<|ap S c rk<|-1,.int<|ap S c rk 1]):=dZ<|aV (aG (aG rfl rfl rfl) rfl rfl)<|aV (aG (aG rfl rfl rfl) rfl rfl) rfl;refine bV rfl<|aL (bT u)<|cX (jH (oY (iH (p:=true)<|aD rfl) λ_=>oY (p:=false) (aG (uF rfl rfl) (Qz rfl)<|(qP _ _).trans<|by rw[aY,e,Cc rfl];rfl) λ_=>aG (fH (mX rfl) (by rw[aY,e];lia) v) (dZ rfl)<|(Io []).trans rfl) rfl)<|aL (iB (mX rfl) z)<|aL (iB (xq (Qz rfl)<|by lia) y)<|cT ?_
 rcases g.2 with rfl|rfl
 .refine aG s (aG t rfl<|iC rfl) ((oM _ _).trans ?_);rw[g.1,Ka rfl,Cc rfl]
 refine aG s (aG t rfl<|iC rfl)<|(oM _ _).trans ?_;rw[g.1,Ea (by decide),Cc rfl]
theorem LZ(M:La S rk c) (b:row=((List.range S.length).filter λr=>(vN S c).testBit r).map (wL S rk c<|eE S c rk)):Lv (.lst<|da row)=.ok (.int<|bi S c rk (eE S c rk)+1):=by
 have h:=M.most;have g:row.length<=60:=by
  rw[b,lc];have:=Ax (λr=>(vN S c).testBit r)<|List.range S.length
  rw[Gu]at this;lia
 obtain⟨q,e,d,f⟩:=bE0 g;rw[e,Ņ M bE1 d λv=>by
  rw[f,b,Zc];constructor
  .rintro⟨r,a,rfl⟩;exact⟨r,aX.mpr (df.mp a).2,rfl⟩
  rintro⟨r,a,rfl⟩;exact⟨r,df.mpr ⟨Ff.mpr<|cB uE a,aX.mp a⟩,rfl⟩]
def NT(S:be)(rk:am)(c:Nat)(g:Bool)(d:D):Prop:=∃l r w,Ts S rk c g l r w/\d=Hn S rk c l r w
def NV.told(h:NV S rk c g d)(a:1<=bO S c rk g):NT S rk c g d:=by
 rcases h with ⟨z,_⟩|h
 .lia
 exact h
theorem NT.len{d:D}(h:NT S rk c g d){f:Ex}{st:xa}(a:f st=.ok d):e1 dC (e2 Ta f<|eI 1) st=.ok (.int<|bO S c rk g):=by
 obtain⟨l,r,w,N,rfl⟩:=h;refine uF (aG a rfl rfl) ?_
 show R.ok _=_;rw[lc,<-N.len]
theorem NT.same(h:NT S rk c g d):plain d=true/\Me d<=2/\qd d d=true:=by
 obtain⟨l,r,w,_,rfl⟩:=h;have b:∀l:am,eO (l.map λx=>D.str<|mh S rk c r x)=true/\kY (l.map λx=>D.str<|mh S rk c r x)=0/\nM (l.map λx=>D.str<|mh S rk c r x) (l.map λx=>D.str<|mh S rk c r x)=true:=λl=>by
  induction l with
  |nil=>simp
  |cons x l a=>exact⟨by simp[a.1],by simp[kY,Me,a.2.1],by simp_all⟩
 simp_all
def NT.ok(h:NT S rk c g d):iw d=true:=by
 obtain⟨_,_,_,a,_⟩:=bIb<|.inr h;exact a
theorem WH:∀{ds:im},(∀d∈ds,∃g,NT S rk c g d)->eO ds=true/\kY ds<=2/\nM ds ds=true
 |[],_=>⟨rfl,by simp,by simp⟩
 |d::ds,h=>by
  obtain⟨g,a⟩:=h d zb;obtain⟨j,l,i⟩:=a.same;obtain⟨f,k,e⟩:=WH λd b=>h d<|Ab _ b
  exact⟨by simp[j,f],by simp[kY];lia,by simp[i,e]⟩
theorem MZ(M:La S rk c){f e:D}(l:NV S rk c true f)(k:NV S rk c false e):(∀d∈qi S c rk f e,∃g,NT S rk c g d)/\((qi S c rk f e=[f]/\bO S c rk false<bO S c rk true/\NT S rk c true f)\/(qi S c rk f e=[e]/\bO S c rk true<bO S c rk false/\NT S rk c false e)\/(qi S c rk f e=[f,e]/\bO S c rk true=bO S c rk false/\NT S rk c true f/\NT S rk c false e)):=by
 have m:1<=bO S c rk true\/1<=bO S c rk false:=by
  obtain⟨g,j⟩:=ņ M;cases g
  .exact .inr j
  exact .inl j
 unfold qi
 by_cases a:bO S c rk true<bO S c rk false
 .rw[Ka a];have t:=k.told (by lia)
  exact⟨λd hd=>by rw[Fe.mp hd];exact⟨_,t⟩,.inr<|.inl ⟨rfl,a,t⟩⟩
 rw[Ea a]
 by_cases b:bO S c rk false<bO S c rk true
 .rw[Ka b];have t:=l.told (by lia)
  exact⟨λd hd=>by rw[Fe.mp hd];exact⟨_,t⟩,.inl ⟨rfl,b,t⟩⟩
 rw[Ea b];have i:=l.told (by lia)
 have h:=k.told (by lia)
 refine⟨λd hd=>?_,.inr<|.inr ⟨rfl,by lia,i,h⟩⟩
 rcases Pb.mp hd with rfl|hd
 .exact⟨_,i⟩
 rw[Fe.mp hd];exact⟨_,h⟩
def F5(n:Nat)(h:n=1\/n=2):jT (.int n) (.tup [.int 1,.int 2])=.ok (.bl false):=by
 refine(aD ⟨by simp[kY,Me],rfl,rfl⟩).trans ?_
 rcases h with rfl|rfl<;>rfl
def Rz(M:La S rk c) (h:NT S rk c g d) {st:xa} (i:aA 0 st=.ok (.lst<|Va S)) (b:aA 1 st=.ok (.lst<|da rk)) (a:f st=.ok d) (o:Bool):aM dF (aB (aA 0)<|aB (aA 1)<|aB f<|aB (eC<|.int<|Ah o) aK) st=.ok (.bl<|o==g):=aO (aV i<|aV b<|aV a<|aV rfl rfl) (by
 obtain⟨l,r,w,N,rfl⟩:=h
 by_cases e:o=g
 .rw[e,ϙ M N];cases g<;>rfl
 rw[show o=!g by cases o<;>cases g<;>first|rfl|exact(e rfl).elim,Ă M N];cases g<;>rfl)
def C3(M:La S rk c) (h:NT S rk c g d):dJ [.lst<|Va S,.lst<|da rk,.lst [d],.int<|bO S c rk g]=.ok (.bl true):=by
 let st:xa:=[D.lst<|Va S,D.lst<|da rk,D.lst [d],bO S c rk g]
 have a:e2 Ta (aA 2) (eI 0) st=.ok d:=aG rfl rfl rfl;refine bV rfl<|cX (jH (oY (iH (p:=true)<|aD rfl) λ_=>aG rfl (Vo rfl)<|F5 1<|.inl rfl) rfl)<|cX (jH (aG rfl rfl<|(oM _ _).trans rfl) rfl)<|cX (jH (oZ (sU (iH<|Rz M h rfl rfl a true) λ_=>iH<|Rz M h rfl rfl a false) ?_) rfl)<|cT<|aG (h.len a) rfl<|(oM _ _).trans<|by simp
 cases g<;>rfl
theorem bMm(M:La S rk c) (f:NT S rk c true d0) (d:NT S rk c false d1) (e:bO S c rk true=bO S c rk false):dJ [.lst<|Va S,.lst<|da rk,.lst [d0,d1],.int<|bO S c rk true+1]=.ok (.bl true):=by
 let st:xa:=[some<|.v<|.lst<|Va S,some<|.v<|.lst<|da rk,some<|.v<|.lst [d0,d1],some<|.v<|.int<|bO S c rk true+1]
 have b:e2 Ta (aA 2) (eI 0) st=.ok d0:=aG rfl rfl rfl;have a:e2 Ta (aA 2) (eI 1) st=.ok d1:=aG rfl rfl rfl;refine bV rfl<|cX (jH (oY (iH (p:=true)<|aD rfl) λ_=>aG rfl (Vo rfl)<|F5 2<|.inr rfl) rfl)<|Eo<|zh (aG rfl rfl<|(oM _ _).trans rfl)<|cX (jH (oY (iH<|Rz M f rfl rfl b true) λ_=>iH<|Rz M d rfl rfl a false) rfl)<|cT<|sU (p:=true) (aG (f.len b) (aG rfl rfl rfl)<|(oM _ _).trans ?_) λ_=>aG (d.len a) (aG rfl rfl rfl)<|(oM _ _).trans ?_
 .simp
 grind
theorem Ç(M:La S rk c) (g:NV S rk c true d0) (f:NV S rk c false d1):dJ [.lst<|Va S,.lst<|da rk,.lst<|qi S c rk d0 d1,.int<|bi S c rk (eE S c rk)+1]=.ok (.bl true):=by
 rcases (MZ M g f).2 with ⟨e,a,t⟩|⟨e,a,t⟩|⟨e,a,t,d⟩
 .have b:eE S c rk=0:=by unfold eE;rw[Ea (by lia)]
  have:bi S c rk (eE S c rk)+1=bO S c rk true:=by
   rw[b];show (if bO S c rk false<bO S c rk true then bO S c rk true-1 else bO S c rk true)+1=_
   rw[Ka a];lia
  rw[e,this];exact C3 M t
 .have b:eE S c rk=1:=by unfold eE;rw[Ka a]
  have:bi S c rk (eE S c rk)+1=bO S c rk false:=by
   rw[b];show (if bO S c rk true<bO S c rk false then bO S c rk false-1 else bO S c rk false)+1=_
   rw[Ka a];lia
  rw[e,this];exact C3 M t
 have b:eE S c rk=0:=by unfold eE;rw[Ea (by lia)]
 have:bi S c rk (eE S c rk)=bO S c rk true:=by
  rw[b];show (if bO S c rk false<bO S c rk true then bO S c rk true-1 else bO S c rk true)=_
  rw[Ea (by lia)]
 rw[e,this];exact bMm M t d a
end
section
variable{S:be}{rk:am}{c:Nat}
noncomputable abbrev au(h:lv)(S:be)(rk:am)(c:Nat)(f e d b a i g k j l:li):xa:=[some<|.v<|.lst<|h.map D.int,some<|.v<|mD S rk c,some<|.v<|.lst<|da<|fQ S c,some<|.v<|.int<|bO S c rk true,some<|.v<|.int<|bO S c rk false,f,e,d,b,a,some<|.v<|.lst<|Va S,some<|.v<|.lst<|da rk,i,g,k,j,l,none,none,none,none,none]
theorem bMn(M:La S rk c) (e:vX [mD S rk c]=.ok (.tup [d0,d1])) (g:lv) (h f:li):cL [18,6] (uk [18,6]) (nB (aM vX<|aB (aA 1) aK)<|gD<|aB (aA 3)<|aB (aA 4) aK) GY FY (au g S rk c none none none none none h f none none none)=.ok (.lst<|qi S c rk d0 d1):=by
 let F (x:D×Int):D:=.tup [x.1,.int x.2]
 let m:=if bO S c rk false>bO S c rk true then bO S c rk false else bO S c rk true
 refine(fH (by
  unfold nB;rw[aO rfl e,bD,dZ rfl];rfl) (gi rfl)<|xX (F:=F) (q:=λx=>decide (x.2=m)) [(d0,bO S c rk true),(d1,bO S c rk false)] λx _=>⟨_,rfl,aG rfl (aG rfl rfl rfl)<|oM _ _,λ_=>rfl⟩).trans ?_
 unfold qi
 by_cases a:bO S c rk true<bO S c rk false
 .have d:m=bO S c rk false:=Ka a;rw[Ka a,Pq (by simp[d];lia),Mn (by simp[d])]
  rfl
 have d:m=bO S c rk true:=Ea a;rw[Ea a,Mn (by simp[d])]
 by_cases b:bO S c rk false<bO S c rk true
 .rw[Ka b,Pq (by simp[d];lia)]
  rfl
 rw[Ea b,Mn (by simp[d];lia)]
 rfl
theorem bMo{ds:im}(h:∀d∈ds,∃g,NT S rk c g d):Xd (.lst ds) (.lst ds)=.ok (.bl false):=by
 obtain⟨a,e,b⟩:=WH h;exact(aD ⟨by show kY ds+1<=64;lia,a,a⟩).trans (by simp_all)
theorem ZW(M:La S rk c){E C:Ex}{st:xa}{base:Nat}{d:am}(e:e1 dC (aA 10) st=.ok (.int (S.length:Nat)))(b:∀r:Nat,r<S.length->C ((st.set 19 none).set 19 (r:Nat))=.ok (.bl<|(vN S c).testBit r)/\E ((st.set 19 none).set 19 (r:Nat))=.ok (.int (wL S d c base r:Nat))):cL [19] (Ya 19) (tM<|e1 dC<|aA 10) C E st=.ok (.lst<|da<|((List.range S.length).filter λr=>(vN S c).testBit r).map<|wL S d c base):=by
 have f:=M.most;refine(fH (xq e<|by lia) (by simp;lia)<|fK _ λr a=>⟨_,rfl,(b r<|Ff.mp a).1,(b r<|Ff.mp a).2⟩).trans ?_
 unfold da;rw[xg];rfl
def ň(M:La S rk c)(i:lv)(a:Int){base:Nat}(g f e m h p o d:li):∃A,HY (au i S rk c g f (mD S (eU S rk c base) c) a e m h p o d)=.ok (.nx<|au i S rk c g f (mD S (eU S rk c base) c) a e m h p o A):=by
 have u:=M.c1;have s:=M.c3;have q:=M.one;obtain⟨b,z,_,E,l⟩:=IZ u s a (lo:=0) (mo:=9) (by decide) (by decide)
 obtain⟨t,y,j,lt',k⟩:=IZ u s (a+1) (lo:=1) (mo:=9) (by decide) (by decide)
 obtain⟨v,w,x⟩:=II M M.one l k j (by omega) (by omega)
 obtain⟨C,B,n⟩:=II (QA (base:=base) M) M.one l k j (by omega) (by omega)
 have same:=bMi M (oB l k j) w B;subst same;have r:∀d,e1 dC (e2 Ta (aA 10)<|eI 0) (au i S rk c g f (mD S (eU S rk c base) c) a e m h p o d)=.ok (.int (c:Nat)):=λd=>uF (x:=.lst<|da S[0]) (aG (x:=.lst<|Va S) (y:=.int 0) rfl rfl<|iC<|Ho (q:=0) q) (by
  show R.ok (D.int ((da S[0]).length:Nat))=_;rw[aY,(M.row S[0] (Fh q)).1])
 refine⟨some<|.v<|.tup [.str b,.str t],aL (bT<|Vo<|aV (aO (aV rfl<|aV (r _)<|aV rfl<|aV rfl rfl) z)<|aV (aO (aV (aG rfl rfl rfl)<|aV (r _)<|aV rfl<|aV rfl rfl) y) rfl)<|jH (aG (x:=.bl v) (y:=.bl v) ?_ ?_ ?_) rfl⟩
 .rw[xP (S:=S) (rk:=eU S rk c base) (c:=c) (xs:=[.tup [.str b,.str t]]) rfl rfl (by decide)]
  exact n
 .rw[xP (S:=S) (rk:=rk) (c:=c) (xs:=[.tup [.str b,.str t]]) rfl rfl (by decide)]
  exact x
 .exact(aD ⟨by simp[Me],by simp,by simp⟩).trans (by cases v<;>rfl)
theorem bE6{ds:im}(h:∀d∈ds,∃g,NT S rk c g d){st:xa}(e:st.length=22):jC (uk [20,21]) dG Nv st ds=.ok ds:=by
 have:=uM (tg:=uk [20,21]) (c:=dG) (f:=Nv) (λd=>d) ds λd b=>by
  obtain⟨g,l,r,w,N,rfl⟩:=h d b;refine⟨_,rfl,rfl,Vo<|aV ?_<|aV ?_ rfl⟩
  .unfold RN;rw[EA,show ((st.set 20 _).set 21 _)[20]?=some _ by rw[jd,Ea (by decide),jd,Ka rfl,Ka (by lia)]]
   exact aD rfl
  refine uF (x:=.lst _) ?_<|aD<|Bx.mpr λy a=>?_
  .rw[EA,show ((st.set 20 _).set 21 _)[21]?=some _ by rw[jd,Ka rfl,Ka (by rw[yg];lia)]]
  obtain⟨_,_,rfl⟩:=Zc.mp a;rfl
 rwa [List.map_id']at this
theorem bIg(l:am){ds:im}(h:∀d∈ds,∃g,NT S rk c g d):wc (.tup [.lst<|da l,.lst ds]) (.tup [.lst<|da l,.lst ds])=.ok (.bl true):=by
 obtain⟨b,m,k⟩:=WH h;obtain⟨a,j,i⟩:=eY l;have e:=by
  show (eO (da l)&&(eO ds&&true))=true;rw[b,a];rfl
 have f:=by
  show max (kY (da l)+1) (max (kY ds+1) 0)+1<=64;lia
 simp_all
def bMp{tg:Tg} {st:xa} (b:f st=.ok d) (a:tg d st=.ok s1):Xw tg f st=.ok (.nx s1):=by
 unfold Xw;rw[b,bD,a];rfl
theorem law_true(i:lv)(hn:i.length<=63):Vt [.lst<|i.map D.int]=.ok (.bl true):=by
 obtain⟨S,rk,c,em,M⟩:=bD1 i (mo:=8) (by decide) (by decide)
 have n8:=M.most;obtain⟨d0,d1,O,G,F⟩:=TH M;obtain⟨q,J⟩:=MZ M G F;have lo:=YG M O G F;have lw:=ă M;have M2:=QA (base:=eE S c rk) M;obtain⟨T,Q,H,h2,h3⟩:=TH M2;have Sr:=YG M2 H h2 h3;have bk:∀g,bO S c (eU S rk c<|eE S c rk) g=bO S c rk g:=λg=>eJ M _ g
 have V:eE S c (eU S rk c<|eE S c rk)=eE S c rk:=by
  unfold eE;rw[eJ M,eJ M]
 have E:bi S c (eU S rk c<|eE S c rk) (eE S c rk)=bi S c rk (eE S c rk):=by
  unfold bi;rw[bk,bk]
 have X:(qi S c (eU S rk c<|eE S c rk) T Q).length=(qi S c rk d0 d1).length:=by
  unfold qi;rw[bk,bk];split
  .rfl
  split<;>rfl
 rw[V]at Sr;have mo:=LZ M rfl;have W:=LZ M2 rfl;rw[V,E]at W;have rg:=Ą M;have pg:=Ç M G F;have fr:=WI M<|eE S c rk;have hint:∀b q,e1 Zo (e2 Eg (aA 4)<|aA 3) (au i S rk c none none none none none b q none none none)=.ok (.int<|eE S c rk):=λb q=>uF rfl (by
  unfold eE
  by_cases h:bO S c rk true<bO S c rk false
  .rw[Cc h,Ka h];rfl
  rw[Qc h,Ea h];rfl)
 generalize hB:eE S c rk=B at *;generalize hP:qi S c rk d0 d1=P at *;generalize L:eU S rk c B=N at *;generalize qi S c N T Q=P2 at Sr X
 let I (x5 x6 Z p Ks Ls n:li):=au i S rk c x5 x6 Z p none (some<|.o .l<|da N) (some<|.o .l P) Ks Ls n
 let m:=bi S c rk B+1
 let j (p n:li):=I (some<|.v<|.int<|vN S c) (some<|.v<|.int m) (some<|.v<|mD S N c) p (some<|.v<|.lst<|da<|eU S N c B) (some<|.v<|.lst P2) n
 have iO:∃xs:lv,xc (Ck (aA 0) (uR<|eI 10)<|uR<|eI 20) (j none none)=.ok (xs.map D.int):=⟨cut i (some 10)<|some 20,by
  show R.ok (cut (i.map D.int) (some 10)<|some 20)=_;unfold cut;rw[lc,List.map_take,List.map_drop]⟩
 obtain⟨xs,hx⟩:=iO;obtain⟨st',⟨o,k,rfl⟩,ew⟩:=EI (tg:=Ya 8) (λst=>∃p n,st=j p n) (xs.map D.int) (λd hd st ⟨p,n,hs⟩=>by
  obtain⟨v,_,rfl⟩:=Zc.mp hd;subst hs;obtain⟨k,e⟩:=ň M i v (some<|.v<|.int<|vN S c) (some<|.v<|.int m) none (some<|.o .l<|da N) (some<|.o .l P) (some<|.v<|.lst<|da<|eU S N c B) (some<|.v<|.lst P2) n;rw[L]at e;exact⟨_,_,rfl,e,some<|.v<|.int v,k,rfl⟩) (j none none) ⟨none,none,rfl⟩
 let u:D:=.tup [.lst<|da N,.lst P]
 have ek:(wI<|aB (e1 dw<|aA 12)<|aB (cL [20,21] (uk [20,21]) (xc<|aA 13) dG Nv) aK) ([12,13].foldl Qm (j o k))=.ok u:=by
  have pl:P.length<=2:=by
   rcases J with ⟨e,_⟩|⟨e,_⟩|⟨e,_⟩ <;> rw[e] <;> exact gi rfl
  refine Vo<|aV (uF rfl<|aD<|Bx.mpr λd hd=>?_)<|aV (fH (mX rfl) (by lia)<|bE6 q rfl) rfl
  obtain⟨x,_,rfl⟩:=pM hd;rfl
 obtain⟨d,U,eP,hd⟩:∃d U,P=d::U/\∃g,NT S rk c g d:=by
  rcases J with ⟨e,_,t⟩|⟨e,_,t⟩|⟨e,_,t,_⟩
  .exact⟨_,_,e,_,t⟩
  .exact⟨_,_,e,_,t⟩
  exact⟨_,_,e,_,t⟩
 let a (b:li):=(((j o k).map Vf).set 13<|some<|.o .l []).set 9 (some<|.v u) |>.set 12 b
 have nn:Vf (some<|.o .l<|da N)=some (.o .l<|da N):=by
  have:=iA N;unfold Rh at this;rw[Lm]at this;show (if wZ (da N)=true then _ else _)=_
  rw[Ka this.2]
 have es:oC 13 9 [12,13] (wI<|aB (e1 dw<|aA 12)<|aB (cL [20,21] (uk [20,21]) (xc<|aA 13) dG Nv) aK) (j o k)=.ok (.nx<|a<|some<|.o .l<|da N):=by
  obtain⟨g,K⟩:=hd;have ho:=K.ok;obtain⟨l,r,w,Nt,rfl⟩:=K;unfold oC;rw[ek,bD,show (j o k)[13]?=some (some<|.o .l P) from rfl,eP]
  refine(aD ho).trans ?_
  show R.ok (Fl.nx<|(((j o k).map Vf).set 13<|some<|.o .l []).set 9<|some<|.v u)=_;congr 2;show _=((((j o k).map Vf).set 13<|some<|.o .l []).set 9<|some<|.v u).set 12 (some<|.o .l<|da N);rw[<-nn];rfl
 have C:∀b,aA 1 (a b)=.ok (mD S rk c):=λb=>by
  unfold aA;rw[show (a b)[1]?=some (Vf<|some<|.v<|mD S rk c) from rfl,bQ1]
 have Y:∀{d:D},Rh d=true->Vf (some<|.v d)=some (.v d):=λ{d} h=>by
  show (if Rh d=true then _ else _)=_
  rw[Ka h]
 have A:∀b,aA 10 (a b)=.ok (.lst<|Va S):=λb=>by
  unfold aA;rw[show (a b)[10]?=some (Vf<|some<|.v<|.lst<|Va S) from rfl,Y<|FZ S]
 have z:∀b,aA 11 (a b)=.ok (.lst<|da rk):=λb=>by
  unfold aA;rw[show (a b)[11]?=some (Vf<|some<|.v<|.lst<|da rk) from rfl,Y<|iA rk]
 have s:sC [some<|.v<|.lst<|i.map D.int,none,none,none,none,none,none,none,none,none,none,none,none,none,none,none,none,none,none,none,none,none]=.ok (.rt<|.bl true):=by
  refine aL ?_<|aL (bT<|aO (aV (HU (st:=[some<|.v<|.lst<|i.map D.int,none,none,none,none,none,none,none,none,none,some<|.v<|.lst<|Va S,some<|.v<|.lst<|da rk,none,none,none,none,none,none,none,none,none,none]) rfl (by rw[jX];lia) (λd hd=>by
  obtain⟨r,y,rfl⟩:=HA hd;rfl)) rfl)<|KY M)<|aL (st':=[some<|.v<|.lst<|i.map D.int,some<|.v<|mD S rk c,none,none,none,none,none,none,none,none,some<|.v<|.lst<|Va S,some<|.v<|.lst<|da rk,some<|.o .l<|da N,some<|.o .l P,none,none,none,none,none,none,none,none]) ?_<|aL (bT<|aO rfl<|bDl M)<|aL (bT<|aO rfl<|u3 M true)<|aL (bT<|aO rfl<|u3 M false) ?_
  .show R.bind (lJ [.lst<|i.map D.int,.int 0,.int 8]) _=_;rw[em];rfl
  .unfold IL;rw[aO rfl lo];rfl
  have gB:bw fZ (aB (aA 10)<|aB (aA 11)<|aB (aA 2)<|aB (dX 12)<|aB (aA 3)<|aB (aA 4) aK) (I none none none none none none none)=.ok (.bl true):=by
   show (fZ [.lst<|Va S,.lst<|da rk,.lst<|da<|fQ S c,.lst<|da N,.int<|bO S c rk true,.int<|bO S c rk false]).bind _=_;rw[rg];rfl
  refine cX (jH (oY (iH gB) λ_=>aG rfl (aO (aV rfl<|aV (hint _ _) rfl) fr) (FI N).1) rfl)<|cX (jH (aG rfl ((bMn M O i _ _).trans<|by rw[hP])<|bMo q) rfl)<|aL (bT<|aO rfl<|OW M)<|aL (bT<|uF (ZW M (Qz rfl) λr y=>⟨Iq rfl rfl,aG rfl rfl<|iC<|by rw[<-L];exact CC B y⟩) mo) ?_
  have pB:bw dJ (aB (aA 10)<|aB (aA 11)<|aB (dX 13)<|aB (aA 6) aK) (I (some<|.v<|.int<|vN S c) (some<|.v<|.int m) none none none none none)=.ok (.bl true):=by
   show (dJ [.lst<|Va S,.lst<|da rk,.lst P,.int m]).bind _=_;rw[pg];rfl
  refine cX (jH (iH pB) rfl)<|aL (bT<|aO rfl lw)<|aL (bMp (aO rfl Sr) rfl) ?_;have len:∀{f:Ex}{xs:im},f (j none none)=.ok (.lst xs)->e1 dC f (j none none)=.ok (.int xs.length):=λh=>uF h rfl
  refine cX (jH (oY (aG (uF rfl mQ) rfl (B2 S).1) λ_=>oY (aG (uF rfl yQ) rfl (FI N).1) λ_=>aG (len rfl) (len rfl)<|(qP _ _).trans<|by rw[X,Cc rfl];rfl) rfl)<|cX (jH (aG (uF (ZW M (Qz rfl) λr y=>⟨Iq rfl rfl,aG rfl rfl<|iC<|CC B y⟩) W) rfl<|(qP _ _).trans<|by rw[Cc rfl];rfl) rfl)<|aL (iB hx ew)<|aL es<|aL (st':=a<|some<|.o .l []) ?_<|cT ?_
  .rfl
  refine sU (aG (aO (aV (C _) rfl) lo) rfl<|bIg N q) λ_=>sU (aG (uF (C _) mQ) (A _) (B2 S).2) λ_=>aG (uF (C _) yQ) (z _) (FI rk).2
 show aU _ (R.bind (sC [some<|.v<|.lst<|i.map D.int,none,none,none,none,none,none,none,none,none,none,none,none,none,none,none,none,none,none,none,none,none]) _)=_;rw[s];exact aD rfl
end
end Pu
namespace Pu
open PySem PySem.Spec PyProof.Rows L2
abbrev vh:=L2.St
noncomputable def lO:Key->D
 |.inl i=>.int i
 |.inr x=>.str x.cps.toList
structure xo(K:Frag)(C:Addr):Prop where
 ga:findIn K (.ref C) "__getattribute__"=some (some<|.builtin "BaseException.__getattribute__")
 gn:findIn K (.ref C) "__getattr__"=some none
 mb:mroIn K C (.type "BaseException")=some true
 cl:(PySem.W.clsIn K C).isSome=true
 fd:findIn K (.ref C) "__class__"=some (some<|.builtin "object.__class__")
 sp:PySem.W.specialIn K (.builtin "object.__class__") "__get__"=some (some<|.builtin "getset_descriptor.__get__")
 tk:PySem.W.takesIn K (.builtin "object.__class__")=some true
 mr:mroIn K C (.type "object")=some true
structure ExcAt(K:Frag)(c:String)(C:Addr)(bm:jp):Prop where
 ns:nsIn K mainGlobals (ofString c)=some (some<|.ref C)
 ob:∃(B newId Pr:String)(v7:jp),ExcBaseFacts B newId Pr v7/\∀h,K.In h->∃N nm q bs BO sn sub ab col dd k0 k1 k2 k3 k5 mN,
  h.get? C=some (excClassObj nm q C N bs bm BO sn sub ab col dd k0 k1 k2 k3 k5 newId)/\h.Ns N mN/\mN "__init__"=none/\OwnTail h v7 bm
 ic:xo K C
def O4(a C:Addr)(h:Heap):Prop:=∃o,h.get? a=some o/\o.cls=.ref C/\notCls o=true
structure Pk(K:Frag)(c:String)(C:Addr):Prop where
 ns:nsIn K mainGlobals (ofString c)=some (some<|.ref C)
 ic:xo K C
def ExcAt.is{K:Frag}{c:String} (h:ExcAt K c C bm):Pk K c C:=⟨h.ns,h.ic⟩
def e9(x C:Addr)(d:pi)(h:Heap):Prop:=∃o,h.get? x=some o/\o.cls=.ref C/\notCls o=true/\o.dict=d
def d9(b:Addr)(fs:wn)(h:Heap):Prop:=∃a,h.Ns1 b a/\(∀f,lh (fs.lookup f)<|a f)/\PySem.Within a (fs.map (·.1))
def EF:List D->Bool
 |.str _::_=>true
 |_=>false
mutual
noncomputable def jb(K:Frag)(H:Hp):D->V->Prop
 |.Bb,v=>v=V.Bb
 |.bl b,v=>v=V.bl b
 |.int i,v=>v=V.int i
 |.str s,v=>v=V.str ⟨s.toArray⟩
 |.tup ds,v=>∃a d,v=V.ref a/\H a=some (.tup d)/\bI K H ds d
 |.lst ds,v=>∃a d,v=V.ref a/\Dc K H a d/\bI K H ds d/\(EF ds=true->H a=some (.lst d))
 |.Hd t l ds,v=>∃a d,v=V.ref a/\((t=false/\∃e:ls,H a=some (.dK e)/\e.map (λp=>lO p.1)=l/\d=e.map (·.2))\/(t=true/\∃e:FB,H a=some (.dT e)/\e.map (λp=>D.tup<|p.1.map lO)=l/\d=e.map (·.2)))/\bI K H ds d
 |.ins c j ds,v=>∃a C g fs d,v=V.ref a/\H a=some (.ins C g fs)/\nsIn K mainGlobals (ofString c)=some (some<|.ref C)/\fs.map (·.1)=j.map ofString/\d=fs.map (·.2)/\bI K H ds d
 |.Bi c j ds,v=>∃a k C,v=V.ref a/\H a=some (.ext k)/\(∀h,k h->O4 a C h)/\Pk K c C/\∃g fs d,((j=[]/\d=[])\/(k=e9 a C (some g)/\g≠a/\H g=some (.ext<|d9 g fs)/\fs.map (·.1)=j.map ofString/\d=fs.map (·.2)))/\bI K H ds d
 |.fn f,v=>∃a,v=V.ref a/\nsIn K mainGlobals (ofString f)=some (some<|.ref a)
noncomputable def bI(K:Frag)(H:Hp):List D->List V->Prop
 |[],a=>a=[]
 |d::ds,a=>∃v r,a=v::r/\jb K H d v/\bI K H ds r
end
def Cv{K:Frag} {a:Addr} {xs:nw} (e:bF H H') (h:pf K H a xs):pf K H' a xs:=by
 rcases h with (h|⟨o,h⟩)|h
 .exact .inl (.inl<|e _ _ h)
 .exact .inl (.inr ⟨o,e _ _ h⟩)
 exact .inr h
mutual
theorem jb.mono{K:Frag}{H l:Hp}(s:bF H l):∀{d:D}{v:V},jb K H d v->jb K l d v
 |.Bb,_,h=>h
 |.bl _,_,h=>h
 |.int _,_,h=>h
 |.str _,_,h=>by unfold jb at h ⊢; exact h
 |.tup _,_,h=>by
  unfold jb at h ⊢;obtain⟨a,b,e,q,r⟩:=h;exact⟨a,b,e,s _ _ q,bI.mono s r⟩
 |.lst _,_,h=>by
  obtain⟨a,b,e,q,r,t⟩:=h;exact⟨a,b,e,s.seq q,bI.mono s r,λz=>s _ _<|t z⟩
 |.Hd _ _ _,_,h=>by
  obtain⟨a,b,e,q,r⟩:=h;refine⟨a,b,e,?_,bI.mono s r⟩;rcases q with ⟨i,j,f,c⟩|⟨i,j,f,c⟩
  .exact .inl ⟨i,j,s _ _ f,c⟩
  exact .inr ⟨i,j,s _ _ f,c⟩
 |.ins _ _ _,_,h=>by
  unfold jb at h ⊢;obtain⟨a,C,k,fs,b,e,f,c,o,n,r⟩:=h;exact⟨a,C,k,fs,b,e,s _ _ f,c,o,n,bI.mono s r⟩
 |.fn _,_,h=>h
 |.Bi _ _ _,_,h=>by
  obtain⟨a,m,C,e,q,y,p,k,fs,b,g,r⟩:=h;refine⟨a,m,C,e,s _ _ q,y,p,k,fs,b,?_,bI.mono s r⟩;rcases g with g|⟨g,x,w,u⟩
  .exact .inl g
  exact .inr ⟨g,x,s _ _ w,u⟩
theorem bI.mono{K:Frag}{H a:Hp}(s:bF H a):∀{ds:im}{vs:nw},bI K H ds vs->bI K a ds vs
 |[],_,h=>by unfold bI at h ⊢; exact h
 |d::ds,_,h=>by
  obtain⟨v,r,e,q,t⟩:=h;exact⟨v,r,e,jb.mono s q,bI.mono s t⟩
end
section
variable{K:Frag}{H:Hp}
def oE:jb K H .Bb v↔v=V.Bb:=Iff.rfl
def cY{b:Bool}:jb K H (.bl b) v↔v=V.bl b:=Iff.rfl
def bJ{i:Int}:jb K H (.int i) v↔v=V.int i:=Iff.rfl
def dI{s:am}:jb K H (.str s) v↔v=V.str ⟨s.toArray⟩:=Iff.rfl
def lQ:jb K H (.tup ds) v↔∃a vs,v=V.ref a/\H a=some (.tup vs)/\bI K H ds vs:=by conv=>lhs;unfold jb
def iY(h:jb K H (.tup ds) v):∃a vs,v=V.ref a/\pf K H a vs/\bI K H ds vs:=
 let ⟨a,vs,e,q,r⟩:=lQ.mp h;⟨a,vs,e,pf.of q,r⟩
def xY:jb K H (.lst ds) v↔∃a vs,v=V.ref a/\Dc K H a vs/\bI K H ds vs/\(EF ds=true->H a=some (.lst vs)):=by conv=>lhs;unfold jb
structure OF(K:Frag)(H:Hp)(ds:im)(v:V):Prop where
 mp:jb K H (.lst ds) v->∃a vs,v=V.ref a/\Dc K H a vs/\bI K H ds vs
 mpr:(∃a vs,v=V.ref a/\H a=some (.lst vs)/\bI K H ds vs)->jb K H (.lst ds) v
def fJ:OF K H ds v:=⟨λh=>let ⟨a,b,e,q,r,_⟩:=xY.mp h;⟨a,b,e,q,r⟩,λ⟨a,b,e,h,r⟩=>xY.mpr ⟨a,b,e,Dc.of h,r,λ_=>h⟩⟩
def oF{t:Bool}{c:im}:jb K H (.Hd t c ds) v↔∃a vs,v=V.ref a/\((t=false/\∃b:ls,H a=some (.dK b)/\b.map (λp=>lO p.1)=c/\vs=b.map (·.2))\/(t=true/\∃b:FB,H a=some (.dT b)/\b.map (λp=>D.tup<|p.1.map lO)=c/\vs=b.map (·.2)))/\bI K H ds vs:=by conv=>lhs;unfold jb
def dt{c:String}{b:wp}:jb K H (.ins c b ds) v↔∃a C d fs vs,v=V.ref a/\H a=some (.ins C d fs)/\nsIn K mainGlobals (ofString c)=some (some<|.ref C)/\fs.map (·.1)=b.map ofString/\vs=fs.map (·.2)/\bI K H ds vs:=by conv=>lhs;unfold jb
def UA{c:String}{e:wp}:jb K H (.Bi c e ds) v↔∃a d C,v=V.ref a/\H a=some (.ext d)/\(∀h,d h->O4 a C h)/\Pk K c C/\∃b fs vs,((e=[]/\vs=[])\/(d=e9 a C (some b)/\b≠a/\H b=some (.ext<|d9 b fs)/\fs.map (·.1)=e.map ofString/\vs=fs.map (·.2)))/\bI K H ds vs:=by conv=>lhs;unfold jb
def BB{f:String}:jb K H (.fn f) v↔∃a,v=V.ref a/\nsIn K mainGlobals (ofString f)=some (some<|.ref a):=by conv=>lhs;unfold jb
def cU:bI K H [] vs↔vs=[]:=Iff.rfl
def bN{d:D}:bI K H (d::ds) vs↔∃v r,vs=v::r/\jb K H d v/\bI K H ds r:=by conv=>lhs;unfold bI
def bI.nil:bI K H [] []:=cU.mpr rfl
def bI.cons{d:D}{ds:im}{v:V}{vs:nw}(h:jb K H d v)(t:bI K H ds vs):bI K H (d::ds) (v::vs):=bN.mpr ⟨v,vs,rfl,h,t⟩
theorem bI.length:∀{ds:im}{vs:nw},bI K H ds vs->vs.length=ds.length
 |[],_,h=>by rw[cU.mp h];rfl
 |_::ds,_,h=>by
  obtain⟨v,r,rfl,_,t⟩:=bN.mp h;rw[ie,ie,bI.length t]
theorem bI.get:∀{ds:im}{vs:nw}{i:Nat}{d:D},bI K H ds vs->ds[i]?=some d->∃v,vs[i]?=some v/\jb K H d v
 |[],_,_,_,_,e=>by simp at e
 |_::ds,_,0,d,h,e=>by
  obtain⟨v,r,rfl,q,t⟩:=bN.mp h;simp at e;subst e;exact⟨v,rfl,q⟩
 |_::ds,_,i+1,d,h,e=>by
  obtain⟨v,r,rfl,q,t⟩:=bN.mp h;obtain⟨u,e1,e2⟩:=bI.get t (by simpa using e)
  exact⟨u,by simpa using e1,e2⟩
theorem bI.append:∀{ds b:im}{vs a:nw},bI K H ds vs->bI K H b a->bI K H (ds++b) (vs++a)
 |[],_,_,_,h,t=>by rwa [cU.mp h]
 |_::_,_,_,_,h,t=>by
  obtain⟨v,r,rfl,q,w⟩:=bN.mp h;exact .cons q<|bI.append w t
theorem bI.set{d:D}{v:V}(a:jb K H d v):∀{ds:im}{vs:nw}(i:Nat),bI K H ds vs->bI K H (ds.set i d) (vs.set i v)
 |[],_,_,h=>by rw[cU.mp h];exact .nil
 |_::_,_,0,h=>by
  obtain⟨v,r,rfl,q,w⟩:=bN.mp h;exact .cons a w
 |_::_,_,i+1,h=>by
  obtain⟨v,r,rfl,q,w⟩:=bN.mp h;exact .cons q<|bI.set a i w
theorem bI.take:∀{ds:im}{vs:nw}(n:Nat),bI K H ds vs->bI K H (ds.take n) (vs.take n)
 |_,_,0,_=>.nil
 |[],_,_+1,h=>by rw[cU.mp h];exact .nil
 |_::_,_,n+1,h=>by
  obtain⟨v,r,rfl,q,w⟩:=bN.mp h;exact .cons q<|bI.take n w
theorem bI.drop:∀{ds:im}{vs:nw}(n:Nat),bI K H ds vs->bI K H (ds.drop n) (vs.drop n)
 |_,_,0,h=>h
 |[],_,_+1,h=>by rw[cU.mp h];exact .nil
 |_::_,_,n+1,h=>by
  obtain⟨v,r,rfl,q,w⟩:=bN.mp h;exact bI.drop n w
end
def hide(A:db)(H:Hp):Hp:=λb=>if b∈A then none else H b
def cP{b:Addr}(h:b∈A):hide A H b=none:=Ka h
def bH{b:Addr}(h:b∉A):hide A H b=H b:=Ea h
def bB(A:db)(H:Hp):bF (hide A H) H:=λb o h=>by
 unfold hide at h;split at h
 .cases h
 exact h
theorem bF.hide{A:db}{H a:Hp}(s:bF H a):bF (hide A H) (hide A a):=λb o h=>by
 unfold Pu.hide at h ⊢;split at h
 .cases h
 rename_i q;rw[Ea q];exact s b o h
def fC{d:db} (h:∀a∈d,a∈A):bF (hide A H) (hide d H):=λb o q=>by
 by_cases c:b∈A
 .rw[cP c]at q;cases q
 rw[bH c]at q
 rwa [bH λz=>c<|h b z]
def bX(H:Hp):hide [] H=H:=by
 funext b;exact bH (by simp)
def nY{a:Addr} (h:a∈A):hide A (Ua H a o)=hide A H:=by
 funext b
 by_cases c:b∈A
 .rw[cP c,cP c]
 rw[bH c,bH c];exact bA λz=>c<|z ▸ h
def cI{p:Addr} (h:H p=none):bF H (Ua H p o):=λb u q=>by
 rwa [bA<|aP q h]
def nT:HO->Bool
 |.tup _=>false
 |_=>true
def kL{o:Option HO}(h:o.any nT=true):∃u,o=some u/\nT u=true:=by
 cases o with
 |none=>cases h
 |some u=>exact⟨u,rfl,h⟩
def Own(A:db)(H:Hp):Prop:=∀a∈A,(H a).any nT=true
def Own.mono(h:Own A H)(s:bF H H'):Own A H':=λa b=>by
 obtain⟨o,e,n⟩:=kL<|h a b
 rwa [s a o e]
def Own.free(h:Own A H){p:Addr}(e:H p=none):p∉A:=λz=>by
 have q:=h p z;rw[e]at q;cases q
def pC{K:Frag} {p:Addr} (w:Own A H) (e:H p=none) (h:bI K (hide A H) ds vs):jb K (hide A<|Ua H p<|.lst vs) (.lst ds) (.ref p):=
 fJ.mpr ⟨p,vs,rfl,(by rw[bH<|w.free e];exact bG),h.mono<|bF.hide<|cI e⟩
def KS{K:Frag} {p:Addr} (w:Own A H) (e:H p=none) (h:bI K (hide A H) ds vs):jb K (hide A<|Ua H p<|.tup vs) (.tup ds) (.ref p):=
 lQ.mpr ⟨p,vs,rfl,(by rw[bH<|w.free e];exact bG),h.mono<|bF.hide<|cI e⟩
def zm(K:Frag):OK->Addr->HO->List V->Prop
 |.l,_,o,d=>o=.lst d
 |.d t e,_,o,d=>(t=false/\∃b:ls,o=.dK b/\b.map (λp=>lO p.1)=e/\d=b.map (·.2))\/(t=true/\∃b:FB,o=.dT b/\b.map (λp=>D.tup<|p.1.map lO)=e/\d=b.map (·.2))
 |.i n c f,a,o,d=>a=n/\∃C g fs,o=.ins C g fs/\nsIn K mainGlobals (ofString c)=some (some<|.ref C)/\fs.map (·.1)=f.map ofString/\d=fs.map (·.2)
def zm.rep{K:Frag} {k:OK} {a:Addr} (e:zm K k a o vs) (h:H a=some o) (r:bI K H ds vs):jb K H (Jp k ds) (.ref a):=by
 cases k with
 |l=>subst e;exact fJ.mpr ⟨a,vs,rfl,h,r⟩
 |d t u=>
  refine oF.mpr ⟨a,vs,rfl,?_,r⟩;rcases e with ⟨b,f,rfl,q⟩|⟨b,f,rfl,q⟩
  .exact .inl ⟨b,f,h,q⟩
  exact .inr ⟨b,f,h,q⟩
 |i n c s=>
  obtain⟨_,C,p,fs,rfl,m,j,g⟩:=e;exact dt.mpr ⟨a,C,p,fs,vs,rfl,h,m,j,g,r⟩
def zm.nt{K:Frag}{k:OK} {a:Addr} (b:zm K k a o vs):nT o=true:=by
 cases k with
 |l=>rw[b];rfl
 |d t f=>rcases b with ⟨_,_,rfl,_⟩|⟨_,_,rfl,_⟩ <;> rfl
 |i n c e=>obtain⟨_,_,_,_,rfl,_⟩:=b;rfl
structure RS(K:Frag)(B A:db)(H:Hp)(st:xa)(σ:vh):Prop where
 len:st.length=σ.length
 own:Own (A++B) H
 Wf:∀a∈A,a∉B
 val:∀(i:Nat) d,st[i]?=some (some<|.v d)->∃v,σ[i]?=some (some v)/\jb K (hide (A++B) H) d v
 lst:∀(i:Nat) k xs,st[i]?=some (some<|.o k xs)->∃a o vs,σ[i]?=some (some<|.ref a)/\a∈A/\H a=some o/\zm K k a o vs/\bI K (hide (A++B) H) xs vs/\
  ∀(j:Nat) k' ys,st[j]?=some (some<|.o k' ys)->σ[j]?=some (some<|.ref a)->j=i
theorem RS.mono{K:Frag}{B A:db}{H b:Hp}{st:xa}(r:RS K B A H st σ)(s:bF H b):RS K B A b st σ where
 len:=r.len
 own:=r.own.mono s
 Wf:=r.Wf
 val:=λi d e=>let ⟨v,e1,q⟩:=r.val i d e;⟨v,e1,q.mono<|bF.hide s⟩
 lst:=λi k xs e=>let ⟨a,o,c,e1,m,h,f,q,u⟩:=r.lst i k xs e;⟨a,o,c,e1,m,s _ _ h,f,q.mono<|bF.hide s,u⟩
def Le(A:db)(H:Hp)(b:db)(a:Hp):Prop:=bF (hide A H)<|hide b a
theorem Le.refl{A:db}{H:Hp}:Le A H A H:=bF.refl _
def Le.of(s:bF H H'):Le A H A H':=bF.hide s
theorem Le.trans{A f e:db}{H d c:Hp}(a:Le A H f d)(b:Le f d e c):Le A H e c:=bF.trans a b
def tI(K:Frag)(B:db)(f:Ex):TE:=λb H Q=>∃A st d,RS K B A H st b/\f st=.ok d/\∀v a,bF H a->jb K (hide (A++B) a) d v->Q v a
def lF(K:Frag)(A:db)(H:Hp)(d:D)(v:V):Prop:=
 jb K (hide A H) d v\/∃a k o ds b,d=Jp k ds/\v=V.ref a/\H a=some o/\zm K k a o b/\bI K (hide A H) ds b
theorem lF.mono{K:Frag}{A:db}{H b:Hp}{d:D}{v:V}(s:bF H b)(h:lF K A H d v):lF K A b d v:=by
 rcases h with h|⟨a,k,o,ds,c,e1,e2,f,e,q⟩
 .exact .inl (h.mono<|bF.hide s)
 exact .inr ⟨a,k,o,ds,c,e1,e2,s _ _ f,e,q.mono<|bF.hide s⟩
def tP(K:Frag)(B:db)(f:Ex):TE:=λb H Q=>∃A st d,RS K B A H st b/\f st=.ok d/\∀v a,bF H a->lF K (A++B) a d v->Q v a
def tA(K:Frag)(B:db)(f:yd):TA:=λc H Q=>∃A st ds,RS K B A H st c/\f st=.ok ds/\∀b a,bF H a->bI K (hide (A++B) a) ds b->Q b a
def tT(K:Frag)(B:db)(f:Ex):TT:=λc H Q=>∃A st b,RS K B A H st c/\f st=.ok (.bl b)/\∀a,bF H a->Q b a
def tO(K:Frag)(B:db)(f:aq):TO:=λb H Q=>∃A st o,RS K B A H st b/\f st=.ok o/\∀a,bF H a->Q o a
def bx(K:Frag)(B A:db)(H:Hp)(r:Fl)(e:Ends):Prop:=match r with
 |.nx st'=>∀b c a,Le A H b a->RS K B b a st' c->e.nx c a
 |.bk st'=>∀b c a,Le A H b a->RS K B b a st' c->e.bk c a
 |.ct st'=>∀b c a,Le A H b a->RS K B b a st' c->e.ct c a
 |.rt d=>∀b v a,Le A H b a->jb K (hide (b++B) a) d v->e.rt v a
def bx.mono{K:Frag} {r:Fl} (l:Le A H A1 H1) (p:bx K B A H r Dn):bx K B A1 H1 r Dn:=by
 cases r with
 |nx st=>exact λc e b a=>p c e b<|l.trans a
 |bk st=>exact λc e b a=>p c e b<|l.trans a
 |ct st=>exact λc e b a=>p c e b<|l.trans a
 |rt d=>exact λc v b a=>p c v b<|l.trans a
def tS(K:Frag)(B:db)(b:Bd):TS:=λc a H=>∃A st r,RS K B A H st a/\b st=.ok r/\bx K B A H r c
def iu(K:Frag)(B A:db)(H:Hp)(J:It)(ds:im):Prop:=∀c a,Le A H c a->Own (c++B) a->∀(i:Nat),
 (∀d,ds[i]?=some d->J.go i a/\∀x b,J.av i a x b->bF a b/\jb K (hide (c++B) b) d x)/\(ds.length<=i->J.stop i a)
def Ti(K:Frag)(B:db)(f:Qk):TI:=λb H R=>∃A st ds,RS K B A H st b/\f st=.ok ds/\∀J a,bF H a->iu K B A a J ds->R J a
def tG(K:Frag)(B:db)(g:Tg):TG:=λv b H Q=>∃A st d s1,RS K B A H st b/\jb K (hide (A++B) H) d v/\g d st=.ok s1/\∀a,RS K B A H s1 a->Q a H
section
def cD{t t':TE}(h:PE X e t)(m:∀a H Q,t' a H Q->t a H Q):PE X e t':=λb s a H Q I q=>h b s a H Q I<|m a H Q q
def DK{t t':TT}(h:PT X e t)(m:∀a H Q,t' a H Q->t a H Q):PT X e t':=λb s a H Q I q=>h b s a H Q I<|m a H Q q
def E3{t t':TT}(h:PW X e t)(m:∀a H Q,t' a H Q->t a H Q):PW X e t':=λw b s a H Q I q=>h w b s a H Q I<|m a H Q q
def CB{t t':TA}(h:PA X es t)(m:∀a H Q,t' a H Q->t a H Q):PA X es t':=λb c s a H Q I q=>h b c s a H Q I<|m a H Q q
def F3{e:Option Expr}{t t':TO}(h:PO X e t)(m:∀a H Q,t' a H Q->t a H Q):PO X e t':=λb s a H Q I q=>h b s a H Q I<|m a H Q q
def iZ{st:Stmt}{t t':TS}(h:PS X st t)(m:∀D a H,t' D a H->t D a H):PS X st t':=λb s a H D I q=>h b s a H D I<|m D a H q
def lB{st:List Stmt}{t t':TS}(h:Pc X st t)(m:∀D a H,t' D a H->t D a H):Pc X st t':=λb s a H D I q=>h b s a H D I<|m D a H q
def G3{t t':TG}(h:PG X e t)(m:∀v a H Q,t' v a H Q->t v a H Q):PG X e t':=λb s a H v u Q I r q=>h b s a H v u Q I r<|m v a H Q q
def EK{t t':TI}(h:L2.PI X tg e t)(m:∀a H R,t' a H R->t a H R):L2.PI X tg e t':=λb s a H R I q=>h b s a H R I<|m a H R q
end
section
variable {h:Ex}
def aF(f:X.N[i]?=some x:=by rfl)(c:Dg X.env.scope x:=by exact Vh rfl)(a:Yd x:=by decide)
  (g:Th x:=by decide):PE X (.Name x pos) (tI X.K B<|aA i):=by
 refine cD (jR f c a g) ?_
 rintro h H Q ⟨A,st,d,b,a,q⟩;unfold aA at a;split at a
 .rename_i j e;cases a;obtain⟨v,e1,r⟩:=b.val i _ e;exact⟨v,e1,q v H (bF.refl _) r⟩
 cases a
end
end Pu
variable{σ τ:Pu.vh}
namespace Pu
open PySem PySem.Spec PyProof.Rows L2
section
variable{X:Cx}{B:db}{a b e:Expr}{f g:Ex}{pos:Pos}
def Su(h:PE X e (tC v))(r:∀H,jb X.K H d v):PE X e (tI X.K B<|eC d):=cD h (by
 rintro σ H Q ⟨A,st,c,b,a,q⟩;cases a;exact q v H (bF.refl _)<|r _)
def cV{i:Int}:PE X (.Constant (.int i) j pos) (tI X.K B<|eC<|.int i):=Su xt λ_=>bJ.mpr rfl
def qR{q:Bool}:PE X (.Constant (.bool q) j pos) (tI X.K B<|eC<|.bl q):=Su bOg λ_=>cY.mpr rfl
def nL:PE X (.Constant .none j pos) (tI X.K B<|eC .Bb):=Su bKm λ_=>oE.mpr rfl
def rn(s:am)(a:x=⟨s.toArray⟩:=by first|rfl|decide|decide+kernel):PE X (.Constant (.str x) j pos) (tI X.K B<|eC<|.str s):=Su bKn λ_=>dI.mpr (by rw[a])
def DB{y:Str}{t:Tok}(s:am)(b:X.mg x=some (.str y t))(c:Gl X x:=by rfl)(a:y=⟨s.toArray⟩:=by first|rfl|decide|decide+kernel)(d:Yd x:=by decide):PE X (.Name x pos) (tI X.K B<|eC<|.str s):=
 Su (AI (v:=.str y) c b ⟨t,rfl⟩ d) λ_=>dI.mpr (by rw[a])
def J3{i:Int}{t:Tok}(a:X.mg x=some (.int i t))(b:Gl X x:=by rfl)(c:Yd x:=by decide):PE X (.Name x pos) (tI X.K B<|eC<|.int i):=
 Su (AI (v:=.int i) b a ⟨t,rfl⟩ c) λ_=>bJ.mpr rfl
def ya(h:PE X e (tI X.K B f)):PE X e (tP X.K B f):=cD h (by
 rintro σ H Q ⟨A,st,d,a,b,q⟩;exact⟨A,st,d,a,b,λv c s r=>q v c s<|.inl r⟩)
def eQ(l:X.N[i]?=some x:=by rfl)(j:Dg X.env.scope x:=by exact Vh rfl)(b:Yd x:=by decide)
  (n:Th x:=by decide):PE X (.Name x pos) (tP X.K B<|dX i):=by
 refine cD (jR l j b n) ?_
 rintro σ H Q ⟨A,st,d,c,b,q⟩;unfold dX at b;split at b
 .rename_i p e;cases b;obtain⟨v,e1,r⟩:=c.val i _ e;exact⟨v,e1,q v H (bF.refl _)<|.inl r⟩
 .rename_i k xs e;cases b;obtain⟨a,o,f,e1,m,h,g,r,_⟩:=c.lst i _ _ e;exact⟨_,e1,q _ H (bF.refl _)<|.inr ⟨a,_,o,xs,f,rfl,rfl,h,g,r⟩⟩
 cases b
section
variable{K:Frag}
theorem lF.Bb(h:lF K A H .Bb v):v=V.Bb:=by
 rcases h with h|⟨_,k,_,_,_,e,_⟩
 .exact oE.mp h
 cases k<;>cases e
theorem lF.bl{q:Bool}(h:lF K A H (.bl q) v):v=V.bl q:=by
 rcases h with h|⟨_,k,_,_,_,e,_⟩
 .exact cY.mp h
 cases k<;>cases e
theorem lF.int{i:Int}(h:lF K A H (.int i) v):v=V.int i:=by
 rcases h with h|⟨_,k,_,_,_,e,_⟩
 .exact bJ.mp h
 cases k<;>cases e
theorem lF.str{s:am}(h:lF K A H (.str s) v):v=V.str ⟨s.toArray⟩:=by
 rcases h with h|⟨_,k,_,_,_,e,_⟩
 .exact dI.mp h
 cases k<;>cases e
theorem lF.tup{ds:im}(h:lF K A H (.tup ds) v):∃a vs,v=V.ref a/\pf K H a vs/\bI K (hide A H) ds vs:=by
 rcases h with h|⟨_,k,_,_,_,e,_⟩
 .obtain⟨a,vs,e,q,r⟩:=iY h;exact⟨a,vs,e,Cv (bB _ _) q,r⟩
 cases k<;>cases e
theorem lF.lst{ds:im}(h:lF K A H (.lst ds) v):∃a vs,v=V.ref a/\Dc K H a vs/\bI K (hide A H) ds vs:=by
 rcases h with h|⟨a,k,o,c,vs,e,e2,h,b,r⟩
 .obtain⟨a,vs,e,q,r⟩:=fJ.mp h;exact⟨a,vs,e,(bB _ _).seq q,r⟩
 cases k<;>cases e;subst b;exact⟨a,vs,e2,Dc.of h,r⟩
end
def fi(K:Frag)(r:R2)(o:mf):Prop:=∀(A:db)(H:Hp)(x y d:D)(v u:V)(Q:VK),Own A H->lF K A H x v->lF K A H y u->o x y=.ok d->
 (∀w a,bF H a->jb K (hide A a) d w->Q w a)->r v u H Q
def EB{r:R2}{o:mf}(k:fi X.K r o) {Q:VK} (h:tI X.K B (e2 o f g) σ H Q):qo r (tP X.K B f) (tP X.K B g) σ H Q:=by
 obtain⟨A,st,d,b,n,q⟩:=h;obtain⟨x,m,s⟩:=R.ja n;obtain⟨y,l,p⟩:=R.ja s;exact⟨A,st,x,b,m,λv C s1 i=>⟨A,st,y,b.mono s1,l,λu t a e=>k _ t x y d v u Q (b.own.mono<|s1.trans a) (i.mono a) e p λw z c j=>q w z (s1.trans<|a.trans c) j⟩⟩
def Gm{op:Operator}{r:R2}{o:mf}(d:Zd X (binaryOp op) r)(c:fi X.K r o)(i:PE X a (tP X.K B f))(e:PE X b (tP X.K B g)):PE X (.BinOp a op b pos) (tI X.K B<|e2 o f g):=
 cD (w4 d i e) λ_ _ _ h=>EB c h
def fD{r:R2}{o:mf}(d:Zd X (compareOp op) r)(c:fi X.K r o)(j:PE X a (tP X.K B f))(i:PE X b (tP X.K B g))(e:behindInMarks op b=false:=by first|exact O1 _|rfl):PE X (.Compare a [op] [b] pos) (tI X.K B<|e2 o f g):=
 cD (bGc d j i e) λ_ _ _ h=>EB c h
def G5{f:Ex} {Q:KB} (h:tT X.K B f σ H Q):tI X.K B f σ H λx a=>∃k,x=.bl k/\Q k a:=by
 obtain⟨A,st,k,b,c,q⟩:=h;exact⟨A,st,.bl k,b,c,λv a s r=>⟨k,cY.mp r,q a s⟩⟩
def bM{r:R2}{o:mf}(d:Zd X (compareOp op) r)(c:fi X.K r o)(j:PE X a (tP X.K B f))(i:PE X b (tP X.K B g))(e:behindInMarks op b=false:=by first|exact O1 _|rfl):PT X (.Compare a [op] [b] pos) (tT X.K B<|e2 o f g):=
 DK (WX d j i e) λ_ _ _ h=>EB c<|G5 h
def eN{f:Ex}(h:PE X e (tI X.K B f))(he:∀whole,isTrue e X.env whole=(do let v <- whole;standAt e.pos;holding [v] (truthy v)):=by intro _;rfl):PT X e (tT X.K B f):=
 DK (bKo h he) λ_ _ _ q=>G5 q
def yR{K:Frag}{g:Int->Int->D} {o:mf} (c:∀H i j,jb K H (g i j)<|gv i j) (f:∀x y d,o x y=.ok d->∃i j,x=.int i/\y=.int j/\d=g i j):fi K (Wh gv) o:=by
 intro A H x y d v u Q w b a e q;obtain⟨i,j,rfl,rfl,rfl⟩:=f x y d e;exact⟨i,j,b.int,a.int,q _ H (bF.refl _)<|c _ _ _⟩
def ow{K:Frag}{C:Int->Int->Prop}{g:Int->Int->D} {o:mf} (f:∀H i j,jb K H (g i j)<|gv i j) (h:∀x y d,o x y=.ok d->∃i j,x=.int i/\y=.int j/\C i j/\d=g i j):fi K (rI C gv) o:=by
 intro A H x y d v u Q w b a e q;obtain⟨i,j,rfl,rfl,c,rfl⟩:=h x y d e;exact⟨i,j,b.int,a.int,c,q _ H (bF.refl _)<|f _ _ _⟩
def Bq(h:PE X a (tP X.K B f))(c:PE X b (tP X.K B g)):PE X (.BinOp a .Sub b pos) (tI X.K B<|e2 wk f g):=
 Gm bKz (yR (λ_ _ _=>bJ.mpr rfl) λx y d e=>by
  unfold wk at e;split at e
  .cases e;exact⟨_,_,rfl,rfl,rfl⟩
  cases e) h c
def GB(i:PE X a (tP X.K B f))(h:PE X b (tP X.K B g)):PE X (.BinOp a .FloorDiv b pos) (tI X.K B<|e2 Po f g):=
 Gm bGb (ow (λ_ _ _=>bJ.mpr rfl) λx y d e=>by
  unfold Po at e;split at e
  .obtain⟨c,e⟩:=aH e;cases e;exact⟨_,_,rfl,rfl,c,rfl⟩
  cases e) i h
def pD(i:PE X a (tP X.K B f))(h:PE X b (tP X.K B g)):PE X (.BinOp a .Mod b pos) (tI X.K B<|e2 pH f g):=
 Gm bL1 (ow (λ_ _ _=>bJ.mpr rfl) λx y d e=>by
  unfold pH at e;split at e
  .obtain⟨c,e⟩:=aH e;cases e;exact⟨_,_,rfl,rfl,c,rfl⟩
  cases e) i h
def bQ4(i:PE X a (tP X.K B f))(h:PE X b (tP X.K B g)):PE X (.BinOp a .Pow b pos) (tI X.K B<|e2 KC f g):=
 Gm bL2 (ow (λ_ _ _=>bJ.mpr rfl) λx y d e=>by
  unfold KC at e;split at e
  .obtain⟨c,e⟩:=aH e;cases e;exact⟨_,_,rfl,rfl,c,rfl⟩
  cases e) i h
def bQ5(K:Frag):R2:=λx y H Q=>∃l b xs a,x=.ref l/\y=.ref b/\Dc K H l xs/\Dc K H b a/\xs.length+a.length<=sizeLine/\∀p,H p=none->Q (.ref p) (Ua H p<|.lst<|xs++a)
theorem bIh:Zd X (binaryOp .Add) (bQ5 X.K):=by
 intro P s σ H x y v u Q I p o h;obtain⟨l,b,xs,K,rfl,rfl,B,C,O,q⟩:=h;cases p;cases o;obtain⟨e,r,⟨⟨F,E,i,m⟩,n,g,A,_,w⟩,z⟩:=I.list B;obtain⟨d,f,⟨⟨j,G,data2,a⟩,t,k,J,_,c⟩,L⟩:=I.list C;subst A w J c;have N:=r.length;have M:=f.length;refine concat_meets ⟨_,g,rfl⟩ ⟨_,k,rfl⟩ noFill_list_add seq_list_add PySem.F.slot_list_add PySem.F.entry_list_add (PySem.F.args_list_add_2 _ _) (list_addW l b e.toArray d.toArray n t E G m a<|by simp;lia) ⟨g,k,?_⟩
 have D:e.toArray++d.toArray=(e++d).toArray:=by simp
 rw[D];exact⟨.ref _,_,I.Py (r.append f) (by rw[ef];omega),rfl,q _ I.fresh⟩
def bIi(x y:am):(⟨x.toArray⟩:Str)++(⟨y.toArray⟩:Str)=⟨(x++y).toArray⟩:=by
 show Str.append _ _=_;unfold Str.append;simp
def str_len(x:am):(⟨x.toArray⟩:Str).length=x.length:=by simp[Str.length]
def lim(h:n<=big):n<=sizeLine:=Vc (by rwa [oH]at h) (by decide)
def jQ(r:PE X a (tP X.K B f))(o:PE X b (tP X.K B g)):PE X (.BinOp a .Add b pos) (tI X.K B<|e2 lE f g):=by
 refine Gm (N1.or<|å.or bIh) ?_ r o;intro A H x y d v u Q w i h e q;cases x<;>cases y<;>first|(cases e;done)|skip
 .cases e;exact .inl ⟨_,_,i.int,h.int,q _ H (bF.refl _)<|bJ.mpr rfl⟩
 .obtain⟨c,e⟩:=aH e;cases e;exact .inr<|.inl ⟨_,_,i.str,h.str,lim c,q _ H (bF.refl _)<|dI.mpr<|by rw[bIi]⟩
 obtain⟨c,e⟩:=aH e;cases e;obtain⟨l,xs,e1,t,k⟩:=i.lst;obtain⟨m,ys,e2,s,j⟩:=h.lst;exact .inr<|.inr ⟨l,m,xs,ys,e1,e2,t,s,by rw[(k.length),(j.length)];exact lim c,λp n=>q _ _ (cI n)<|pC w n<|k.append j⟩
def bMq{K:Frag}:fi K (Wh λi j=>.bl<|decide (i<=j)) dE:=yR (λ_ _ _=>cY.mpr rfl) λx y d e=>by
 unfold dE at e;split at e
 .cases e;exact⟨_,_,rfl,rfl,rfl⟩
 cases e
def Jo{K:Frag}:fi K (Wh λi j=>.bl<|decide (j<i)) Eg:=yR (λ_ _ _=>cY.mpr rfl) λx y d e=>by
 unfold Eg at e;split at e
 .cases e;exact⟨_,_,rfl,rfl,rfl⟩
 cases e
def HB{K:Frag}:fi K (Wh λi j=>.bl<|decide (j<=i)) Pn:=yR (λ_ _ _=>cY.mpr rfl) λx y d e=>by
 unfold Pn at e;split at e
 .cases e;exact⟨_,_,rfl,rfl,rfl⟩
 cases e
theorem lF.ref{K:Frag}{A:db}{H:Hp}{d:D}{v:V}(h:lF K A H d v)(j:d≠.Bb)(g:∀b,d≠.bl b)(f:∀i,d≠.int i)(c:∀s,d≠.str s):∃a,v=V.ref a:=by
 rcases h with h|⟨a,_,_,_,_,_,e,_⟩
 .cases d with
  |Bb=>exact(j rfl).elim
  |bl b=>exact(g b rfl).elim
  |int i=>exact(f i rfl).elim
  |str s=>exact(c s rfl).elim
  |tup _=>obtain⟨a,_,e,_⟩:=iY h;exact⟨a,e⟩
  |lst _=>obtain⟨a,_,e,_⟩:=fJ.mp h;exact⟨a,e⟩
  |Hd _ _ _=>obtain⟨a,_,e,_⟩:=oF.mp h;exact⟨a,e⟩
  |ins _ _ _=>obtain⟨a,_,_,_,_,e,_⟩:=dt.mp h;exact⟨a,e⟩
  |Bi _ _ _=>obtain⟨a,_,_,e,_⟩:=UA.mp h;exact⟨a,e⟩
  |fn _=>obtain⟨a,e,_⟩:=BB.mp h;exact⟨a,e⟩
 exact⟨a,e⟩
def bIj{K:Frag} (h:lF K A H d v):decide (v=V.Bb)=HP d:=by
 cases d with
 |Bb=>rw[h.Bb];rfl
 |bl _=>rw[h.bl];rfl
 |int _=>rw[h.int];rfl
 |str _=>rw[h.str];rfl
 |tup _=>obtain⟨a,b,e,_⟩:=h.tup;rw[e];rfl
 |lst _=>obtain⟨a,b,e,_⟩:=h.lst;rw[e];rfl
 |Hd _ _ _=>obtain⟨a,e⟩:=h.ref (by intro z;cases z) (by intro _ z;cases z) (by intro _ z;cases z) (by intro _ z;cases z);rw[e];rfl
 |ins _ _ _=>obtain⟨a,e⟩:=h.ref (by intro z;cases z) (by intro _ z;cases z) (by intro _ z;cases z) (by intro _ z;cases z);rw[e];rfl
 |Bi _ _ _=>obtain⟨a,e⟩:=h.ref (by intro z;cases z) (by intro _ z;cases z) (by intro _ z;cases z) (by intro _ z;cases z);rw[e];rfl
 |fn _=>obtain⟨a,e⟩:=h.ref (by intro z;cases z) (by intro _ z;cases z) (by intro _ z;cases z) (by intro _ z;cases z);rw[e];rfl
def bEe(n:Nat)(i:Int):L2.kg n i=Pu.kg n i:=rfl
theorem bI.Tc{K:Frag}{H:Hp}{ds:im}{vs:nw}{i:Int}{d:D}(r:bI K H ds vs)(e:Pu.Tc ds i=some d):∃v,L2.Tc vs i=some v/\jb K H d v:=by
 unfold Pu.Tc at e;unfold L2.Tc;rw[r.length,bEe];cases h:Pu.kg ds.length i with
 |none=>rw[h]at e;cases e
 |some j=>
  rw[h]at e;exact r.get e
def Ko{o:Option α}{a:α}(h:Jg o=.ok a):o=some a:=by
 cases o with
 |none=>cases h
 |some b=>cases h;rfl
def bMr{K:Frag}{x:D}(o:w5 x=false)(A:db)(H:Hp)(p y d:D)(v u:V)(Q:VK)(w:Own A H)(b:lF K A H x v)(a:lF K A H y u)(e:Ta x y=.ok d)(q:∀w m,bF H m->jb K (hide A m) d w->Q w m):Xy K v u H Q:=by
 cases x<;>first|(cases o;done)|skip
 all_goals cases y
 all_goals first|(cases e)|skip
 .rename_i s i;obtain⟨n,e⟩:=aH e;cases h:Pu.Tc s i with
  |none=>rw[h]at e;cases e
  |some c=>
   rw[h]at e;cases e;refine .inr<|.inr ⟨_,i,c,b.str,a.int,lim n,?_,q _ H (bF.refl _)<|dI.mpr rfl⟩
   rwa [List.toList_toArray]
 .rename_i ds i;have h:=Ko<|e;obtain⟨l,xs,e1,k,g⟩:=b.tup;obtain⟨z,j,f⟩:=g.Tc h;exact .inr<|.inl ⟨l,xs,i,z,e1,a.int,k,j,q _ H (bF.refl _) f⟩
 rename_i ds i;have h:=Ko<|e;obtain⟨l,xs,e1,k,g⟩:=b.lst;obtain⟨z,j,f⟩:=g.Tc h;exact .inl ⟨l,xs,i,z,e1,a.int,k,j,q _ H (bF.refl _) f⟩
def vC(h:PE X a (tI X.K B f)):PE X (.BoolOp .And [a] pos) (tI X.K B f):=J1 h
def P4(h:PE X a (tI X.K B f)):PE X (.BoolOp .Or [a] pos) (tI X.K B f):=J1 h
def vD{rest:List Expr}(o:PE X a (tI X.K B f))(n:PE X (.BoolOp .And (b::rest) pos) (tI X.K B g)):PE X (.BoolOp .And (a::b::rest) pos) (tI X.K B<|qG f g):=by
 refine cD (bKs o n) ?_
 rintro σ H Q ⟨A,st,d,c,m,q⟩;obtain⟨x,l,p⟩:=R.ja m;obtain⟨k,rfl,e⟩:=qF p;refine⟨A,st,_,c,l,λv H1 s1 i=>⟨k,cY.mp i,?_⟩⟩
 cases k with
 |true=>exact⟨A,st,d,c.mono s1,e,λw r h j=>q w r (s1.trans h) j⟩
 |false=>cases e;exact q _ H1 s1<|cY.mpr rfl
def J5{rest:List Expr}(o:PE X a (tI X.K B f))(n:PE X (.BoolOp .Or (b::rest) pos) (tI X.K B g)):PE X (.BoolOp .Or (a::b::rest) pos) (tI X.K B<|Lf f g):=by
 refine cD (bOk o n) ?_
 rintro σ H Q ⟨A,st,d,c,m,q⟩;obtain⟨x,l,p⟩:=R.ja m;obtain⟨k,rfl,e⟩:=qF p;refine⟨A,st,_,c,l,λv H1 s1 i=>⟨k,cY.mp i,?_⟩⟩
 cases k with
 |true=>cases e;exact q _ H1 s1<|cY.mpr rfl
 |false=>exact⟨A,st,d,c.mono s1,e,λw r h j=>q w r (s1.trans h) j⟩
def Q4(h:PE X a (tI X.K B f)):PE X (.UnaryOp .Not a pos) (tI X.K B<|nC f):=by
 refine cD (bKt h) ?_
 rintro σ H Q ⟨A,st,d,b,g,q⟩;obtain⟨x,e,j⟩:=R.ja g;obtain⟨k,rfl,i⟩:=qF j;cases i;exact⟨A,st,_,b,e,λv l s1 c=>⟨k,cY.mp c,q _ l s1<|cY.mpr rfl⟩⟩
def Jt(h:PT X a (tT X.K B f)):PW X (.BoolOp .And [a] pos) (tT X.K B f):=UX h
def xZ(h:PT X a (tT X.K B f)):PW X (.BoolOp .Or [a] pos) (tT X.K B f):=bKq h
def bu{rest:List Expr}(m:PT X a (tT X.K B f))(l:PW X (.BoolOp .And (b::rest) pos) (tT X.K B g)):PW X (.BoolOp .And (a::b::rest) pos) (tT X.K B<|qG f g):=by
 refine E3 (MJ m l) ?_
 rintro σ H Q ⟨A,st,d,c,j,q⟩;obtain⟨x,i,n⟩:=R.ja j;obtain⟨k,rfl,e⟩:=qF n;refine⟨A,st,k,c,i,λH1 s1=>?_⟩
 cases k with
 |true=>exact⟨A,st,d,c.mono s1,e,λo h=>q o<|s1.trans h⟩
 |false=>cases e;exact q H1 s1
def Bh{rest:List Expr}(m:PT X a (tT X.K B f))(l:PW X (.BoolOp .Or (b::rest) pos) (tT X.K B g)):PW X (.BoolOp .Or (a::b::rest) pos) (tT X.K B<|Lf f g):=by
 refine E3 (bOh m l) ?_
 rintro σ H Q ⟨A,st,d,c,j,q⟩;obtain⟨x,i,n⟩:=R.ja j;obtain⟨k,rfl,e⟩:=qF n;refine⟨A,st,k,c,i,λH1 s1=>?_⟩
 cases k with
 |true=>cases e;exact q H1 s1
 |false=>exact⟨A,st,d,c.mono s1,e,λo h=>q o<|s1.trans h⟩
def kJ(g:PT X a (tT X.K B f)):PT X (.UnaryOp .Not a pos) (tT X.K B<|nC f):=by
 refine DK (bKr g) ?_
 rintro σ H Q ⟨A,st,d,b,e,q⟩;obtain⟨x,c,i⟩:=R.ja e;obtain⟨k,rfl,h⟩:=qF i;cases h;exact⟨A,st,k,b,c,λj s1=>q j s1⟩
def DC{c:Expr}{t:Ex}(o:PT X c (tT X.K B t))(r:PE X a (tI X.K B f))(p:PE X b (tI X.K B g)):PE X (.IfExp c a b pos) (tI X.K B<|pj t f g):=by
 refine cD (ű o r p) ?_
 rintro σ H Q ⟨A,st,d,h,n,q⟩;obtain⟨x,m,s⟩:=R.ja n;obtain⟨k,rfl,l⟩:=qF s;refine⟨A,st,k,h,m,λu s1=>?_⟩
 cases k with
 |true=>exact⟨A,st,d,h.mono s1,l,λw j e i=>q w j (s1.trans e) i⟩
 |false=>exact⟨A,st,d,h.mono s1,l,λw j e i=>q w j (s1.trans e) i⟩
def aJ:PA X [] (tA X.K B aK):=CB eV (by
 rintro σ H Q ⟨A,st,d,b,a,q⟩;cases a;exact q [] H (bF.refl _) .nil)
def aC{r:yd}(j:PE X e (tI X.K B f))(h:PA X es (tA X.K B r))(hs:Cd e es X.env:=by rfl):PA X (e::es) (tA X.K B<|aB f r):=by
 refine CB (cF j h hs) ?_
 rintro σ H Q ⟨A,st,ds,b,i,q⟩;obtain⟨x,g,l⟩:=R.ja i;obtain⟨xs,m,k⟩:=R.ja l;cases k;exact⟨A,st,x,b,g,λv p s1 d=>⟨A,st,xs,b.mono s1,m,λo n a c=>q _ n (s1.trans a)<|.cons (d.mono<|bF.hide a) c⟩⟩
def du{r:yd} (h:PA X es (tA X.K B r)):PE X (.Tuple es x1 pos) (tI X.K B<|wI r):=by
 refine cD (QJ h) ?_
 rintro σ H Q ⟨A,st,d,a,g,q⟩;obtain⟨xs,f,j⟩:=R.ja g;obtain⟨c,i⟩:=aH j;cases i;exact⟨A,st,xs,a,f,λk l s1 b=>⟨by rw[b.length];exact lim c,λp e=>q _ _ (s1.trans<|cI e)<|KS (a.own.mono s1) e b⟩⟩
def mY{r:yd}(h:PA X es (tA X.K B r)):PE X (.List es pos) (tI X.K B<|gD r):=by
 refine cD (P1 h) ?_
 rintro σ H Q ⟨A,st,d,a,g,q⟩;obtain⟨xs,f,j⟩:=R.ja g;obtain⟨c,i⟩:=aH j;cases i;exact⟨A,st,xs,a,f,λk l s1 b=>⟨by rw[b.length];exact lim c,λp e=>q _ _ (s1.trans<|cI e)<|pC (a.own.mono s1) e b⟩⟩
def Qb(K:Frag)(c:Nat)(p:cr):Sp:=λb H Q _=>∃A ds d,Own A H/\bI K (hide A H) ds b/\ds.length=c/\p ds=.ok d/\∀v a,bF H a->jb K (hide A a) d v->Q v a
def bMs{k:Nat} {r:yd} (F:Aa X.prog X.w X.K X.mg X.base bb k fa fd ps (Qb X.K np p)) (h:gb k X.A) (i:X.mg x=some (.ref fa))
  (l:keepIn X.K (.ref fa)=true) (o:Binds X.K fd ps []) (j:∀ds d,p ds=.ok d->ds.length=np) (s:PA X (e::es) (tA X.K B r)) (m:Gl X x:=by rfl) (u:Yd x:=by decide)
  (he:Cd e es X.env:=by rfl) (je:Lg pos es X.env:=by rfl) :
  PE X (.Call (.Name x p0) (e::es) [] pos) (tI X.K B<|aM p r):=by
 refine cD (Iv F h m i l o .nil Mo s u he je) ?_
 rintro σ H Q ⟨A,st,d,a,n,q⟩;obtain⟨xs,g,b⟩:=R.ja n;refine⟨A,st,xs,a,g,λv H1 s1 r1=>?_⟩
 show Qb X.K np p _ H1 Q E0;rw[Hh];exact⟨A++B,xs,d,a.own.mono s1,r1,j _ _ b,b,λw t c f=>q w t (s1.trans c) f⟩
end
def ft(a b:Key):Oe (lO a) (lO b)=decide (a=b):=by
 cases a with
 |inl i=>
  cases b with
  |inl j=>unfold lO Oe;rw[C1]
  |inr y=>unfold lO Oe;rw[F1]
 |inr x=>
  cases b with
  |inl j=>unfold lO Oe;rw[G1]
  |inr y=>
   unfold lO Oe;rw[E1,Dx,Ih,ii];constructor
   .intro h;cases x;congr 1;exact Array.ext' h
   rintro rfl;rfl
theorem gX:∀(a b:Fk),Fq (a.map lO) (b.map lO)=decide (a=b)
 |[],[]=>by unfold Fq;simp
 |[],_::_=>by unfold Fq;simp
 |_::_,[]=>by unfold Fq;simp
 |x::a,y::b=>by
  rw[Ge,Ge];unfold Fq;rw[ft,(gX a b),Dx,Lm,ii,ii,ii,List.cons.injEq]
def iX(a b:Fk):Oe (.tup<|a.map lO) (.tup<|b.map lO)=decide (a=b):=by
 rw[<-gX]
 conv=>lhs;unfold Oe
section
variable{κ:Type}[DecidableEq κ]{E:κ->D}(hE:∀a b,Oe (E a) (E b)=decide (a=b)){K:Frag}{H:Hp}
include hE
theorem tJ(k:κ):∀(b:List (κ×V)) (ds:im),bI K H ds (b.map (·.2))->(∀d,wY (b.map λp=>E p.1) ds (E k)=some d->∃v,sI b k=some v/\jb K H d v)/\(sI b k).isSome=qD (b.map λp=>E p.1) (E k)
 |[],ds,r=>⟨λd h=>by cases ds<;>simp[wY]at h,rfl⟩
 |(a,v)::b,ds,r=>by
  cases ds with
  |nil=>have:=cU.mp r;simp at this
  |cons d ds=>
   obtain⟨m,n,e,l,j⟩:=bN.mp r;injection e with e1 e2
   subst e1 e2;obtain⟨i,g⟩:=tJ k b ds j
   by_cases f:a=k
   .have c:Oe (E a) (E k)=true:=by rwa [hE,ii]
    refine⟨λd' h=>?_,?_⟩
    .unfold wY at h;rw[Ge,Fx,T6 (by simpa using c)]at h
     cases h;exact⟨v,uv f,l⟩
    rw[uv f];unfold qD;rw[Ge,Xq,c];rfl
   have c:Oe (E a) (E k)=false:=by rwa [hE,eM]
   refine⟨λd' h=>?_,?_⟩
   .rw[vv f];refine i d' ?_
    unfold wY at h ⊢
    rwa [Ge,Fx,sM (by simpa using c)]at h
   rw[vv f,g];unfold qD;rw[Ge,Xq,c];rfl
def kX(k:κ)(a:List (κ×V)):(a.any λb=>decide (b.1=k))=qD (a.map λp=>E p.1) (E k):=by
 unfold qD;rw[Kx];congr 1;funext p;simp[hE]
def VA(k:κ)(v:V)(d:D)(i:jb K H d v)(b:List (κ×V))(ds:im)(r:bI K H ds (b.map (·.2))) :
  (Xc b k v).map (λp=>E p.1)=uP (b.map λp=>E p.1) (E k)/\bI K H (uQ (b.map λp=>E p.1) ds (E k) d) ((Xc b k v).map (·.2)):=by
 unfold Xc uP uQ;rw[kX hE]
 by_cases c:qD (b.map λp=>E p.1) (E k)=true
 .rw[Ka c,Ka c,Ka c];constructor
  .rw[xg];refine yk λp _=>?_
   simp;split<;>rfl
  clear c
  induction b generalizing ds with
  |nil=>have:=r.length;cases ds with|nil=>exact .nil|cons _ _=>simp at this
  |cons p b g=>
   obtain⟨a,w⟩:=p;cases ds with
   |nil=>have:=cU.mp r;simp at this
   |cons d0 ds=>
    obtain⟨l,m,e,n,j⟩:=bN.mp r;injection e with e1 e2
    subst e1 e2;rw[Ge,Ge,Fx,Ge];refine .cons ?_<|g ds j
    by_cases f:a=k
    .rwa [Ka (by rwa [hE,ii]),Ka f]
    have h:Oe (E a) (E k)=false:=by rwa [hE,eM]
    rwa [Ea (by rw[h];exact zk),Ea f]
 rw[Ea c,Ea c,Ea c];refine⟨by rw[Zi];rfl,?_⟩
 rw[Zi];exact r.append<|.cons i .nil
end
def yS{K:Frag} (r:jb K H d v) (h:Lb false d=true):∃k:Key,d=lO k/\v=kV k:=by
 cases d<;>first|(cases h;done)|skip
 .exact⟨.inl _,rfl,bJ.mp r⟩
 exact⟨.inr _,rfl,dI.mp r⟩
theorem zS{K:Frag}{H:Hp}:∀{ds:im}{vs:nw},bI K H ds vs->ds.all LC=true->∃a:Fk,ds=a.map lO/\vs=a.map kV
 |[],vs,r,_=>⟨[],rfl,cU.mp r⟩
 |d::ds,vs,r,h=>by
  obtain⟨v,g,rfl,c,b⟩:=bN.mp r;rw[all_cons,Lm]at h;obtain⟨a,e1,e2⟩:=zS b h.2;obtain⟨k,f,e⟩:=yS c (by cases d<;>first|(cases h.1;done)|rfl)
  exact⟨k::a,by rw[e1,f];rfl,by rw[e2,e];rfl⟩
def LS{K:Frag} (r:jb K H d v) (h:Lb true d=true):∃(a:Fk)(b:Addr),d=.tup (a.map lO)/\v=.ref b/\H b=some (.tup<|a.map kV):=by
 cases d<;>first|(cases h)|skip
 obtain⟨b,f,e,g,c⟩:=lQ.mp r;obtain⟨a,e1,e2⟩:=zS c (by
  unfold Lb at h;simpa using h)
 exact⟨a,b,by rw[e1],e,by rwa [<-e2]⟩
def WA{K:Frag} {t:Bool} {l:im} {k:D} {u:V} (F:lF K A H (.Hd t l ds) v) (C:jb K H k u) (E:Lb t k=true) :
  ∃a o,v=.ref a/\yI H a u o/\o.isSome=qD l k/\∀d,wY l ds k=some d->∃w,o=some w/\jb K (hide A H) d w:=by
 have m:∃a g,v=V.ref a/\((t=false/\∃c:List _,H a=some (.dK c)/\c.map (λp=>lO p.1)=l/\g=c.map (·.2))\/(t=true/\∃c:List _,H a=some (.dT c)/\c.map (λp=>D.tup<|p.1.map lO)=l/\g=c.map (·.2)))/\bI K (hide A H) ds g:=by
  rcases F with h|⟨a,I,o,L,g,e,e2,h,G,r⟩
  .obtain⟨a,g,e,q,r⟩:=oF.mp h;refine⟨a,g,e,?_,r⟩;rcases q with ⟨j,c,f,i⟩|⟨j,c,f,i⟩
   .exact .inl ⟨j,c,bB _ _ _ _ f,i⟩
   exact .inr ⟨j,c,bB _ _ _ _ f,i⟩
  cases I<;>cases e;refine⟨a,g,e2,?_,r⟩;rcases G with ⟨j,c,f,i⟩|⟨j,c,f,i⟩
  .subst f;exact .inl ⟨j,c,h,i⟩
  subst f;exact .inr ⟨j,c,h,i⟩
 obtain⟨a,g,e,q,r⟩:=m;rcases q with ⟨rfl,c,f,rfl,rfl⟩|⟨rfl,c,f,rfl,rfl⟩
 .obtain⟨n,e1,e2⟩:=yS C E;subst e1 e2;obtain⟨x,s⟩:=tJ ft n c ds r;exact⟨a,_,e,yI.k f,s,λd y=>let ⟨w,B,z⟩:=x d y;⟨w,B,z⟩⟩
 obtain⟨n,b,e1,e2,J⟩:=LS C E;subst e1 e2;obtain⟨x,s⟩:=tJ iX n c ds r;exact⟨a,_,e,yI.t f J,s,λd y=>let ⟨w,B,z⟩:=x d y;⟨w,B,z⟩⟩
section
variable{X:Cx}{B:db}{a b e:Expr}{f g:Ex}{pos:Pos}
def K5:R2:=λx y H Q=>∃p v,x=.ref p/\yI H p y (some v)/\Q v H
theorem bIk(o:X.A.units+64<cLine):ym X K5:=by
 intro a b l s σ H x y v u Q I f e h j;obtain⟨p,z,rfl,g,q⟩:=h;cases f;refine Oa<|Oa<|kN (CS I g) A6.lookup ?_;have c:wpAny (model X.prog X.w) X.A (subscripted b false (.ref p) u) (λr d=>wpAny (model X.prog X.w) X.A (letTemporaryGo a (.ref p) r >>= λ_=>pure r) (EP X l σ Q) X.xe d) X.xe s:=by
  rw[j];exact wpAny_operating<|zi (AU (by lia) I g e λn d m i=>⟨z,H,m,i,q⟩) (λr d k=>Oa<|wpAny_letTemporaryGo<|vc k) λ_ _ x=>x
 first
  |exact vc<|Oa c
  |exact Oa _
  |exact Oa c
def bIl{K:Frag}:fi K (λx y H Q=>Xy K x y H Q\/K5 x y H Q) Ta:=by
 intro A H x y d v u Q w c b e q
 by_cases f:w5 x=true
 .cases x<;>first|(cases f)|skip
  rename_i t l j;have s:aU (Lb t y=true) (Jg<|wY l j y)=.ok d:=by cases y<;>exact e
  obtain⟨i,e2⟩:=aH s;obtain⟨a,o,r,g,_,n⟩:=WA c (by
   rcases b with h|⟨a,m,o,ds,B,e1,_⟩
   .exact h.mono (bB _ _)
   subst e1;cases m<;>cases t<;>cases i) i
  obtain⟨z,p,k⟩:=n d<|Ko e2;subst p;exact .inr ⟨a,z,r,g,q _ H (bF.refl _) k⟩
 exact .inl<|bMr (by simpa using f) A H x y d v u Q w c b e q
def cN(e:PE X a (tP X.K B f))(d:PE X b (tP X.K B g))(hs:ZX b:=by intro _ _;rfl)(c:X.A.units+64<cLine:=by exact gb.units<|by assumption):PE X (.Subscript a b pos) (tI X.K B<|e2 Ta f g):=
 cD (WK (RJ.or<|bIk c) e d hs) λ_ _ _ h=>EB bIl h
def ŉ:nJ X (.builtin "len") (λxs H Q=>∃a b,xs=[V.ref a]/\H a=some (.dK b)/\Q (.int b.length) H):=by
 intro i s σ H xs f Q I r h;obtain⟨a,b,rfl,d,q⟩:=h;obtain⟨u,rfl,c⟩:=r.one;obtain rfl:u=Value.ref a:=c;exact bP4 I (.inl d) λt g e=>⟨.int b.length,H,e,⟨t,rfl⟩,q⟩
def bIm{K:Frag} {d:im} (g:lF K A H (.Hd false d ds) v):∃a b,v=.ref a/\H a=some (.dK b)/\b.length=d.length:=by
 rcases g with h|⟨a,k,o,l,f,e,e2,h,j,r⟩
 .obtain⟨a,f,e,q,r⟩:=oF.mp h;rcases q with ⟨_,b,i,rfl,_⟩|⟨c,_⟩
  .exact⟨a,b,e,bB _ _ _ _ i,by simp⟩
  cases c
 cases k<;>cases e;rcases j with ⟨_,b,rfl,rfl,_⟩|⟨c,_⟩
 .exact⟨a,b,e2,h,by simp⟩
 cases c
end
section
variable{K:Frag} {st:xa}
def Sz{k:OK} (h:(st.set i<|some<|.v d)[j]?=some (some<|.o k xs)):j≠i/\st[j]?=some (some<|.o k xs):=by
 rw[jd]at h
 by_cases e:i=j
 .subst e;rw[Ka rfl]at h;split at h<;>simp at h
 rw[Ea e]at h;exact⟨λz=>e z.symm,h⟩
def Le.app (l:Le A H A' H'):bF (hide (A++B) H) (hide (A'++B) H'):=λb u q=>by
 have d:=bB _ _ _ _ q;have c:b∉A++B:=λz=>by rw[cP z]at q;cases q
 have a:=l b u (by rwa [bH λz=>c<|Ke _ z])
 rw[bH λz=>(wg.mp z).elim (λz=>by rw[cP z]at a;cases a) λz=>c<|se _ z]
 exact bB _ _ _ _ a
theorem RS.set(r:RS K B A H st σ){d:D}{v:V}(i:Nat)(h:jb K (hide (A++B) H) d v):RS K B A H (st.set i<|some<|.v d) (σ.set i<|some v) where
 len:=by rw[yg,yg,r.len]
 own:=r.own
 Wf:=r.Wf
 val:=λj w e=>by
  rw[jd]at e
  by_cases c:i=j
  .subst c;rw[Ka rfl]at e;split at e
   .simp at e;subst e;exact⟨v,by rw[jd,Ka rfl,Ka (by rwa [<-r.len])],h⟩
   cases e
  rw[Ea c]at e;obtain⟨u,e1,q⟩:=r.val j w e;exact⟨u,by rwa [jd,Ea c],q⟩
 lst:=λj l xs e=>by
  obtain⟨p,t⟩:=Sz e;obtain⟨a,o,f,e1,m,s,g,q,u⟩:=r.lst j l xs t;refine⟨a,o,f,by rwa [jd,Ea λz=>p z.symm],m,s,g,q,λk k' ys ek gf=>?_⟩
  obtain⟨n,b⟩:=Sz ek;rw[jd,Ea λz=>n z.symm]at gf
  exact u k k' ys b gf
def NZ{p:Addr} (n:nT o=true) (w:Own (A++B) H):Own ((p::A)++B) (Ua H p o):=λa b=>by
 by_cases e:a=p
 .subst e;rwa [bG]
 rw[bA e];exact w a<|(Pb.mp b).resolve_left e
def yC{p:Addr} (d:H p=none):bF (hide (A++B) H) (hide ((p::A)++B)<|Ua H p o):=λb u q=>by
 have c:=bB _ _ _ _ q;have e:b∉A++B:=λz=>by rw[cP z]at q;cases q
 have a:=aP c d
 rwa [bH<|show b∉(p::A)++B from λz=>(Pb.mp z).elim a e,bA a]
def qw{p:Addr} (d:H p=none):Le A H (p::A) (Ua H p o):=λb u q=>by
 have c:=bB _ _ _ _ q;have a:=aP c d
 rwa [bH λz=>(Pb.mp z).elim a (λz=>by rw[cP z]at q;cases q),bA a]
def RS.ik(r:RS K B A H st σ){p:Addr}{kk:OK} (i:Nat) (c:H p=none) (v:zm K kk p o vs) (h:bI K (hide (A++B) H) ds vs) :
  RS K B (p::A) (Ua H p o) (st.set i<|some<|.o kk ds) (σ.set i<|some<|.ref p) where
 len:=by rw[yg,yg,r.len]
 own:=NZ v.nt r.own
 Wf:=λa l w=>by
  rcases Pb.mp l with rfl|l
  .exact r.own.free c (se _ w)
  exact r.Wf a l w
 val:=λj z e=>by
  rw[jd]at e
  by_cases b:i=j
  .subst b;rw[Ka rfl]at e;split at e<;>simp at e
  rw[Ea b]at e;obtain⟨u,e1,q⟩:=r.val j z e;exact⟨u,by rwa [jd,Ea b],q.mono<|yC c⟩
 lst:=λj x xs e=>by
  rw[jd]at e
  by_cases b:i=j
  .subst b;rw[Ka rfl]at e;split at e
   .simp at e;obtain⟨y,e⟩:=e;subst y e;refine⟨p,o,vs,by rw[jd,Ka rfl,Ka (by rwa [<-r.len])],zb,bG,v,h.mono<|yC c,λk k' ys ek gf=>?_⟩
    by_cases d:i=k
    .exact d.symm
    rw[jd,Ea d]at ek gf;obtain⟨a,s,n,e1,m,f,_⟩:=r.lst k k' ys ek;rw[e1]at gf;cases gf;rw[c]at f;cases f
   cases e
  rw[Ea b]at e;obtain⟨a,s,n,e1,m,f,g,q,u⟩:=r.lst j x xs e;have t:=aP f c;refine⟨a,s,n,by rwa [jd,Ea b],Ab _ m,by rwa [bA t],g,q.mono<|yC c,λk k' ys ek gf=>?_⟩
  by_cases d:i=k
  .subst d;rw[jd,Ka rfl]at gf;split at gf
   .simp at gf;exact absurd gf.symm t
   cases gf
  rw[jd,Ea d]at ek gf;exact u k k' ys ek gf
def RS.write(r:RS K B A H st σ){a:Addr} {y k1:OK} {o':HO} {vg:nw} (hi:st[i]?=some (some<|.o y xs)) (hs:σ[i]?=some (some<|.ref a)) (x:zm K k1 a o' vg) (h:bI K (hide (A++B) H) ds vg) :
  RS K B A (Ua H a o') (st.set i<|some<|.o k1 ds) σ/\Le A H A (Ua H a o'):=by
 obtain⟨P,o,N,e1,m,O,_,q,u⟩:=r.lst i y xs hi;rw[hs]at e1;cases e1;have D:hide (A++B) (Ua H a o')=hide _ H:=nY<|Ke _ m;refine⟨⟨by rw[yg,r.len],λb hb=>?_,r.Wf,λj d e=>?_,λj kj ys e=>?_⟩,?_⟩
 .by_cases e:b=a
  .subst e;rw[bG];exact x.nt
  rw[bA e];exact r.own b hb
 .rw[D];rw[jd]at e
  by_cases l:i=j
  .subst l;rw[Ka rfl]at e;split at e<;>simp at e
  rw[Ea l]at e;exact r.val j d e
 .rw[D];have w:∀{k:Nat}{s:OK}{p:im},(st.set i<|some<|.o k1 ds)[k]?=some (some<|.o s p)->∃n f,st[k]?=some (some<|.o n f):=λ{k s p} g=>by
   rw[jd]at g
   by_cases C:i=k
   .subst C;exact⟨_,_,hi⟩
   rw[Ea C]at g;exact⟨_,_,g⟩
  rw[jd]at e
  by_cases l:i=j
  .subst l;rw[Ka rfl]at e;split at e
   .simp at e;obtain⟨I,e⟩:=e;subst I e;exact⟨a,o',vg,hs,m,bG,x,h,λk s p g t=>let ⟨n,f,v⟩:=w g;u k n f v t⟩
   cases e
  rw[Ea l]at e;obtain⟨c,F,f,E,M,ch,G,L,J⟩:=r.lst j kj ys e;exact⟨c,F,f,E,M,by rwa [bA (λz=>by subst z;exact l (u j kj ys e E).symm)],G,L,λk s p g t=>let ⟨n,f,v⟩:=w g;J k n f v t⟩
 unfold Le;rw[nY m];exact bF.refl _
theorem RS.Qm(r:RS K B A H st σ)(i:Nat):∃t,RS K B t H (Pu.Qm st i) σ/\Le A H t H:=by
 unfold Pu.Qm;split
 .rename_i F xs e;obtain⟨a,o,Q,e1,m,R,E,q,u⟩:=r.lst i F xs e;have g:∀b∈A.filter (λc=>decide (c≠a)),b∈A:=λb h=>(df.mp h).1
  have f:∀b∈A.filter _++B,b∈A++B:=λb h=>(wg.mp h).elim (λz=>Ke _<|g b z)<|se _
  have l:bF (hide _ H) _:=fC f;have P:a∉A.filter (λc=>decide (c≠a))++B:=λz=>(wg.mp z).elim (λz=>gi (df.mp z).2 rfl)<|r.Wf a m
  refine⟨A.filter λc=>decide _,⟨by rw[yg,r.len],λb h=>r.own b<|f b h,λb h=>r.Wf b<|g b h,λj d ej=>?_,λj kj ys ej=>?_⟩,fC g⟩
  .rw[jd]at ej
   by_cases p:i=j
   .subst p;rw[Ka rfl]at ej;split at ej
    .simp at ej;subst ej;exact⟨_,e1,E.rep (by rwa [bH P])<|q.mono l⟩
    cases ej
   rw[Ea p]at ej;obtain⟨v,e2,y⟩:=r.val j d ej;exact⟨v,e2,y.mono l⟩
  obtain⟨I,s⟩:=Sz ej;obtain⟨c,C,x,n,O,ch,G,N,M⟩:=r.lst j kj ys s;exact⟨c,C,x,n,df.mpr ⟨O,Cc<|λz=>by subst z;exact I<|u j kj ys s n⟩,ch,G,N.mono l,λk D w L J=>M k D w (Sz L).2 J⟩
 exact⟨A,r,Le.refl⟩
def RS.fz(is:am):∀{A:db}{st:xa},RS K B A H st σ->∃a,RS K B a H (is.foldl Pu.Qm st) σ/\Le A H a H:=by
 induction is with
 |nil=>exact λr=>⟨_,r,Le.refl⟩
 |cons i is f=>
  intro A st r;obtain⟨h,c,e⟩:=r.Qm i;obtain⟨g,b,d⟩:=f c;exact⟨g,b,e.trans d⟩
end
section
variable{X:Cx}{B:db}{a b e:Expr}{f g:Ex}{pos:Pos}{bd mj:Bd}{sm:Stmt}{rest:List Stmt}
def eF:Pc X [] (tS X.K B cO):=lB BI (by
 rintro c σ H ⟨A,st,r,a,b,p⟩;cases b;exact p A σ H Le.refl a)
def aN(h:PS X sm (tS X.K B bd))(g:Pc X rest (tS X.K B mj)):Pc X (sm::rest) (tS X.K B<|bC bd mj):=by
 refine lB (lG h g) ?_
 rintro m σ H ⟨A,st,r,c,f,p⟩;obtain⟨x,e,a⟩:=R.ja f;refine⟨A,st,x,c,e,?_⟩;cases x with
 |nx s1=>exact λi j k l b=>⟨i,s1,r,b,a,p.mono l⟩
 |rt d=>cases a;exact p
 |bk s1=>cases a;exact p
 |ct s1=>cases a;exact p
def aW(a:PS X sm (tS X.K B bd)):Pc X [sm] (tS X.K B bd):=vO a
def Jn(is:am)(h:PS X sm (tS X.K B bd)):PS X sm (tS X.K B<|fk is bd):=iZ h (by
 rintro e σ H ⟨A,st,r,b,c,p⟩;obtain⟨d,a,l⟩:=RS.fz is b;exact⟨d,_,r,a,c,p.mono l⟩)
def bQ(h:PE X e (tI X.K B f)):PS X (.Return (some e) pos) (tS X.K B<|cG f):=iZ (Zv h) (by
 rintro j σ H ⟨A,st,r,a,b,p⟩;obtain⟨d,c,g⟩:=R.ja b;cases g;exact⟨A,st,d,a,c,λv i s q=>p A v i (Le.of s) q⟩)
def bQ8(h:PE X e (tI X.K B f))(hs:Uh e none pos.line X.env:=by rfl):PS X (.Expr e pos) (tS X.K B<|HL f):=iZ (vP h hs) (by
 rintro j σ H ⟨A,st,r,a,b,p⟩;obtain⟨d,c,g⟩:=R.ja b;cases g;exact⟨A,st,d,a,c,λv i s q=>p A σ i (Le.of s)<|a.mono s⟩)
def cJ(he:PE X e (tI X.K B f))(j:X.N.Nodup:=by assumption)(hi:X.N[i]?=some x:=by rfl)(b:Loc X.env.scope x:=by exact zj rfl)(hs:Uh e (some<|.Name x pos') pos.line X.env:=by rfl)
  (g:Sh X x:=by first|exact .inl rfl|exact .inr rfl|assumption):PS X (.Assign [.Name x pos'] e pos) (tS X.K B<|dD i f):=iZ (iq j hi b he hs g) (by
 rintro m σ H ⟨A,st,r,a,c,p⟩;obtain⟨d,h,k⟩:=R.ja c;cases k;exact⟨A,st,d,a,h,λv l s q=>p A _ l (Le.of s)<|(a.mono s).set i q⟩)
def tF(K:Frag)(B:db)(f:Ex):TE:=λσ H Q=>∃A st ds,RS K B A H st σ/\f st=.ok (.lst ds)/\∀p b a,bF H a->a p=none->bI K (hide (A++B) a) ds b->Q (.ref p) (Ua a p<|.lst b)
def zW{r:yd}(h:PA X es (tA X.K B r)):PE X (.List es pos) (tF X.K B<|gD r):=by
 refine cD (P1 h) ?_
 rintro σ H Q ⟨A,st,d,e,i,q⟩;obtain⟨xs,f,k⟩:=R.ja i;obtain⟨c,j⟩:=aH k;cases j;exact⟨A,st,_,e,f,λb l s1 a=>⟨by rw[a.length];exact lim c,λp g=>q p b l s1 g a⟩⟩
def wM(he:PE X e (tF X.K B f))(m:X.N.Nodup:=by assumption)(hi:X.N[i]?=some x:=by rfl)(h:Loc X.env.scope x:=by exact zj rfl)(hs:Uh e (some<|.Name x pos') pos.line X.env:=by rfl)
  (k:Sh X x:=by first|exact .inl rfl|exact .inr rfl|assumption):PS X (.Assign [.Name x pos'] e pos) (tS X.K B<|rN i f):=iZ (iq m hi h he hs k) (by
 rintro t σ H ⟨A,st,r,b,j,p⟩;obtain⟨d,l,g⟩:=R.ja j;cases d<;>first|(cases g;done)|skip
 cases g;exact⟨A,st,_,b,l,λa n o s c q=>p _ _ _ ((Le.of s).trans<|qw c)<|(b.mono s).ik i c rfl q⟩)
def iI{c:Expr}{t:Ex}{x y:List Stmt}(g:PT X c (tT X.K B t))(i:Pc X x (tS X.K B bd))(h:Pc X y (tS X.K B mj)):PS X (.If c x y pos) (tS X.K B<|Nc t bd mj):=iZ (SK g i h) (by
 rintro m σ H ⟨A,st,r,a,e,p⟩;obtain⟨d,f,j⟩:=R.ja e;obtain⟨k,rfl,b⟩:=qF j;refine⟨A,st,k,a,f,λl s1=>?_⟩
 cases k with
 |true=>exact⟨A,st,r,a.mono s1,b,p.mono<|Le.of s1⟩
 |false=>exact⟨A,st,r,a.mono s1,b,p.mono<|Le.of s1⟩)
def bW(g:X.N.Nodup:=by assumption)(hi:X.N[i]?=some x:=by rfl)(b:Loc X.env.scope x:=by exact zj rfl)
  (f:Sh X x:=by first|exact .inl rfl|exact .inr rfl|assumption):PG X (.Name x pos) (tG X.K B<|Ya i):=G3 (CA g hi b f) (by
 rintro v σ H Q ⟨A,st,d,s1,a,c,e,q⟩;cases e;exact q _<|a.set i c)
def BF(K:Frag)(B:db)(is:am):Am:=λb σ H Q=>∃A st ds s1,RS K B A H st σ/\bI K (hide (A++B) H) ds b/\Dt is ds st=.ok s1/\∀a,RS K B A H s1 a->Q a H
def OZ{t t':Am}(h:Rk X es t)(m:∀v a H Q,t' v a H Q->t v a H Q):Rk X es t':=λb s a H v u Q I r q=>h b s a H v u Q I r<|m v a H Q q
def tw:Rk X [] (BF X.K B []):=OZ VX (by
 rintro v σ H Q ⟨A,st,ds,s1,b,c,a,q⟩;cases ds with
 |nil=>cases a;exact⟨cU.mp c,q σ b⟩
 |cons _ _=>exact nomatch a)
def rE{i:Nat}{is:am} (m:Rk X es (BF X.K B is)) (l:X.N.Nodup:=by assumption) (hi:X.N[i]?=some x:=by rfl) (h:Loc X.env.scope x:=by exact zj rfl)
  (k:Sh X x:=by first|exact .inl rfl|exact .inr rfl|assumption)
  (hs:(assignEach (.Name x pos::es) X.env).map (·.2)=assign (.Name x pos) X.env::(assignEach es X.env).map (·.2):=by rfl):Rk X (.Name x pos::es) (BF X.K B<|i::is):=OZ (IH (bW l hi h k) m hs) (by
 rintro v σ H Q ⟨A,st,ds,s1,c,j,b,q⟩;cases ds with
 |nil=>exact nomatch b
 |cons d ds=>
  obtain⟨u,r,e,g,f⟩:=bN.mp j;exact⟨u,r,e,A,st,d,st.set i _,c,g,rfl,λn a=>⟨A,_,ds,s1,a,f,b,q⟩⟩)
def ET{h:Heap}{l a:Addr} (b:h.IsList l items) (s:Heap.SameBut a h h') (c:l≠a):h'.IsList l items:=by
 obtain⟨o,e,r⟩:=b;exact⟨o,(s.2 l c).trans e,r⟩
theorem pV{M:Program}{w:World}{A:Around}{E:bv}{c t:Addr}{a:xL}(j:t≠c):∀(n i:Nat)(s:Shared)(Q:List Value->Shared->Prop),s.heap.IsListIter c t i->s.heap.IsList t a->i+n<=a.size->
  (∀g,g.IsListIter c t (i+n)->Heap.SameBut c s.heap g->Q ((a.toList.drop i).take n) {s with heap:=g})->wpAny (model M w) A (draw (.ref c) n) Q E s
 |0,i,s,Q,b,_,_,f=>by
  exact vc (by simpa using f s.heap b (Heap.SameBut.refl ..))
 |n+1,i,s,Q,b,h,k,f=>by
  have e:i<a.size:=by lia
  refine Oa<|wpAny_pyNext_list_item b h (x:=a[i]) (by simp) λr o d=>Oa<|Oj<|pV j n (i+1) _ _ o (ET h d j) (by lia) λm q p=>vc ?_
  have l:a.toList.drop i=a[i] :: a.toList.drop (i+1):=by simp[drop_eq_getElem_cons,e]
  have:=f m (by rwa [show i+(n+1)=i+1+n by lia])<|d.trans p
  rwa [l]at this
theorem B_{M:Program} {A:Around} {s:Shared} {pos:Pos} {t:Addr} {Q:wE} (n:A.handled=none) (f:s.heap.IsList t items)
  (m:(assignEach Kh env).length=items.size) (u:(assignEach Kh env).findIdx? (·.1)=none)
  (h:∀l,Heap.ExtBut s.heap.objs.size s.heap l->wpAny (model M w) A (assignInOrder ((assignEach Kh env).map (·.2)) items.toList) Q E {s with heap:=l}) :
  wpAny (model M w) A (assign (.Tuple Kh x1 pos) env<|.ref t) Q E s:=by
 have c:t≠s.heap.objs.size:=by obtain⟨o,g,_⟩:=f;exact Bf<|Uc g
 refine Oa<|Eu ?_;unfold unpack;rw[m,u];refine Oa<|Oj<|Oa<|Oa<|kN f.typeIs PySem.F.slot_list_iter.lookup<|vc<|Oa<|Oj<|xx f ?_;have j:(s.heap.push {cls:=.type "list_iterator",data:=.fields #[.ref t,rawInt 0]}).IsList t items:=by
  obtain⟨o,g,r⟩:=f;exact⟨o,Lc _ g,r⟩
 refine Oa<|Oj<|pV c items.size 0 _ _ ⟨_,Ve _ rfl,rfl,rfl⟩ j (by lia) λv q a=>?_
 have d:List.take items.size (List.drop 0 items.toList)=items.toList:=by
  exact yu (by simp)
 rw[d,Ea (by simp)]
 refine Oa<|Oj<|wpAny_pyNext_list_end n q (ET j a c) (by simp) λp i=>vc<|h p λb o k e=>i b o k<|a.extBut b o k<|Lc _ e
def bSd(K:Frag)(n:Nat)(t:Am):TG:=λv σ H Q=>∃a xs,v=.ref a/\(pf K H a xs\/Dc K H a xs)/\xs.length=n/\t xs σ H Q
def bMt{k:Nat}{t:Am} (j:X.calm=true) (h:Rk X es t)
  (g:(assignEach es X.env).length=n:=by rfl) (m:(assignEach es X.env).findIdx? (·.1)=none:=by rfl):PG X (.Tuple es k pos) (bSd X.K n t):=by
 intro l s σ H v u Q I r d;obtain⟨a,xs,e1,c,i,d⟩:=d;rcases c with c|c
 .exact K1 j h g m l s σ H v u Q I r ⟨a,xs,e1,c,i,d⟩
 subst e1;cases r;obtain⟨y,f,q,w⟩:=I.list c;exact B_ (I.ok.hd j) q.isList (by simp[g,<-i,f.length]) m λx p=>h l _ σ H xs _ Q (I.kept λb o e=>p b o (Bf<|Uc e) e) (by simpa using f) d
def FT:∀(is:am)(ds:im)(st:xa),Dt is ds st=.ok s1->ds.length=is.length:=by
 intro is
 induction is with
 |nil=>intro ds st h;cases ds with|nil=>rfl|cons _ _=>exact nomatch h
 |cons i is a=>intro ds st h;cases ds with|nil=>exact nomatch h|cons _ ds=>exact congrArg _<|a ds _ h
def Iw{is:am} {k:Nat} (m:X.calm=true) (h:Rk X es (BF X.K B is)) (l:(assignEach es X.env).length=is.length:=by rfl) (n:(assignEach es X.env).findIdx? (·.1)=none:=by rfl):PG X (.Tuple es k pos) (tG X.K B<|uk is):=G3 (bMt m h l n) (by
 rintro v σ H Q ⟨A,st,d,s1,i,j,b,q⟩;cases d<;>first|(cases b)|skip
 .rename_i ds;obtain⟨a,f,e,g,c⟩:=iY j;exact⟨a,f,e,.inl<|Cv (bB _ _) g,by rw[c.length];exact FT is ds st b,A,st,ds,s1,i,c,b,q⟩
 rename_i ds;obtain⟨a,f,e,g,c⟩:=fJ.mp j;exact⟨a,f,e,.inr<|(bB _ _).seq g,by rw[c.length];exact FT is ds st b,A,st,ds,s1,i,c,b,q⟩)
def R4{t:Tg}(he:PE X e (tI X.K B f))(j:PG X tg (tG X.K B t))(hs:swapsWithSole [tg] e pos.line X.env=pure false:=by rfl)(h:swappedStores [tg] e X.env=pure none:=by rfl)
  (n:(assignEach [tg] X.env).map (·.2)=[assign tg X.env]:=by rfl):PS X (.Assign [tg] e pos) (tS X.K B<|Xw t f):=iZ (YA he j hs h n) (by
 rintro u σ H ⟨A,st,r,c,i,p⟩;obtain⟨d,k,m⟩:=R.ja i;obtain⟨s1,b,l⟩:=R.ja m;cases l;exact⟨A,st,d,c,k,λv o s q=>⟨A,st,d,s1,c.mono s,q,b,λg a=>p A g o (Le.of s) a⟩⟩)
theorem lR {t:Tg} (hi:L2.PI X tg iter (Ti X.K B it)) (S:PG X tg (tG X.K B t)) (V:Pc X body (tS X.K B bd)) (P:PassesOwn (model X.prog X.w) X.A X.env X.xe:=by exact QD) (U:X.calm=true:=by rfl)
  (hs:∀x,foldedSetIterable iter X.env x=pure x:=by intro _;rfl):PS X (.For tg iter body [] pos) (tS X.K B<|qH t it bd):=iZ (OJ P U hi S V hs) (by
 rintro Dn σ H ⟨A,st,r,C,O,p⟩;obtain⟨ds,T,h3⟩:=R.ja O;refine⟨A,st,ds,C,T,λJ H1 s1 Ky=>⟨λi m u g=>∃c st',m=ds.length-i/\i<=ds.length/\RS X.K B c g st' u/\Eb t bd (ds.drop i) st'=.ok r/\Le A H1 c g,⟨ds.length,A,st,rfl,He _,C.mono s1,by rwa [Nx],Le.refl⟩,?_⟩⟩
 rintro i m u g ⟨c,st',rfl,Q,b,k,l⟩;obtain⟨N,M⟩:=Ky c g l b.own i
 by_cases a:i<ds.length
 .obtain⟨Y,F⟩:=N _<|md a;rw[Ln a]at k;obtain⟨z,Ed,W⟩:=R.ja k;obtain⟨D,Yb,n⟩:=R.ja W;refine .inr ⟨Y,λE f=>∃q o,i+1<=ds.length/\RS X.K B q f o E/\Eb t bd (ds.drop<|i+1) o=.ok r/\Le A H1 q f,?_,λx f y=>?_⟩
  .rintro E f ⟨q,o,Gr,L,I,K⟩;exact⟨ds.length-(i+1),by omega,q,o,rfl,Gr,L,I,K⟩
  obtain⟨sm,G⟩:=F x f y;have j:=l.trans<|Le.of sm;refine⟨c,st',ds[i],z,b.mono sm,G,Ed,λEj ck=>⟨c,z,D,ck,Yb,?_⟩⟩
  cases D with
  |nx h=>exact λw Z H4 s v=>⟨w,h,a,v,n,j.trans s⟩
  |ct h=>exact λw Z H4 s v=>⟨w,h,a,v,n,j.trans s⟩
  |bk h=>cases n;exact p.mono<|(Le.of s1).trans j
  |rt d=>cases n;exact p.mono<|(Le.of s1).trans j
 have e:i=ds.length:=by lia
 subst e;rw[aE]at k;cases k;exact .inl ⟨M<|Cb _,p c u g ((Le.of s1).trans l) b⟩)
def XA{c:Expr}{t:Ex} (J:PT X c (tT X.K B t)) (K:Pc X body (tS X.K B bd)) (G:PassesOwn (model X.prog X.w) X.A X.env X.xe:=by exact QD):PS X (.While c body [] pos) (tS X.K B<|Et n t bd):=iZ (Ų G J K) (by
 rintro P σ H ⟨A,st,r,z,F,p⟩;refine⟨λm j s=>∃b st',RS X.K B b s st' j/\lH t bd m st'=.ok r/\Le A H b s,⟨n,A,st,z,F,Le.refl⟩,?_⟩
 rintro m j s ⟨b,st',a,v,l⟩;cases m with
 |zero=>exact nomatch v
 |succ m=>
  obtain⟨d,I,L⟩:=R.ja v;obtain⟨k,rfl,w⟩:=qF L;refine⟨b,st',k,a,I,λH1 s1=>?_⟩
  cases k with
  |false=>
   cases w;exact p b j H1 (l.trans<|Le.of s1)<|a.mono s1
  |true=>
   obtain⟨x,N,f⟩:=R.ja w;refine⟨λy q=>∃h g,RS X.K B h q g y/\lH t bd m g=.ok r/\Le A H h q,?_,b,st',x,a.mono s1,N,?_⟩
   .rintro y q ⟨h,g,E,C,D⟩;exact⟨m,Uq m,h,g,E,C,D⟩
   cases x with
   |nx e=>exact λu M O i o=>⟨u,e,o,f,l.trans<|(Le.of s1).trans i⟩
   |ct e=>exact λu M O i o=>⟨u,e,o,f,l.trans<|(Le.of s1).trans i⟩
   |bk e=>cases f;exact p.mono<|l.trans<|Le.of s1
   |rt d=>cases f;exact p.mono<|l.trans<|Le.of s1)
def K3{K:Frag} {l:Addr} (g:Dc K (hide (A++B) H) l vs) (r:bI K (hide (A++B) H) ds vs):iu K B A H (Ez K l) ds:=by
 intro m k le f i;have a:=(bB _ _).seq<|(Le.app le).seq g;refine⟨λd hd=>?_,λh=>⟨vs,a,by rwa [r.length]⟩⟩
 obtain⟨v,c,e⟩:=r.get hd;refine⟨⟨vs,v,a,c⟩,λx j y=>⟨by rw[y.1];exact bF.refl _,?_⟩⟩
 have b:=y.2 vs a;rw[y.1];rw[c]at b;cases b;exact e.mono<|Le.app le
def bMu{K:Frag} {l:Addr} (g:pf K (hide (A++B) H) l vs) (r:bI K (hide (A++B) H) ds vs):iu K B A H (MF K l) ds:=by
 intro m k le f i;have a:=Cv (bB _ _)<|Cv (Le.app le) g;refine⟨λd hd=>?_,λh=>⟨vs,a,by rwa [r.length]⟩⟩
 obtain⟨v,c,e⟩:=r.get hd;refine⟨⟨vs,v,a,c⟩,λx j y=>⟨by rw[y.1];exact bF.refl _,?_⟩⟩
 have b:=y.2 vs a;rw[y.1];rw[c]at b;cases b;exact e.mono<|Le.app le
def L3{K:Frag} {lo:Int}:iu K B A H (jv lo n) (jU lo n):=by
 intro j g le c i;have a:(jU lo n).length=n:=by simp[jU]
 refine⟨λd hd=>?_,λh=>by rwa [a]at h⟩
 have b:=by
  have:=(pe.mp hd).1
  rwa [a]at this
 have e:=by
  unfold jU at hd;rw[Nj,List.getElem?_range b]at hd;exact(Te hd).symm
 subst e;exact⟨b,λx f y=>⟨by rw[y.1];exact bF.refl _,bJ.mpr y.2⟩⟩
def Fz(z:am):It:=⟨λi _=>i<z.length,λi H x a=>a=H/\∃c,z[i]?=some c/\x=.str ⟨#[c]⟩,λi _=>z.length<=i⟩
def bEh{K:Frag} {a:Addr} {n:String} {t:Tok} (y:n="str_ascii_iterator"\/n="str_iterator"):Turn P w K tg (Fz z) [a] a (λi h=>h.IsStrIter a n ⟨z.toArray⟩ t i) where
 mem:=by simp
 obj:=λi h st b g=>by
  have e:=by simpa using g
  subst e;obtain⟨o,e,c,d⟩:=st;exact⟨o,e,λv z=>by rw[d]at z;cases z⟩
 keep:=λi h f st k=>let ⟨o,e,r⟩:=st;⟨o,k a (by simp) o e,r⟩
 item:=by
  intro X R Q S p i T s σ H E I A st J;subst R Q S;obtain⟨G,F,W,D,C,B⟩:=A a (by simp)
  have q:∀v f j,SignAt ⟨z.toArray⟩ i v->Heap.IsStrIter f a n ⟨z.toArray⟩ t (i+1)->(∀b o,b∉[a]->s.heap.get? b=some o->f.get? b=some o)->
    ∃u,some v=some u/\wpAny (model X.prog X.w) X.A (letOwnedTupleGo tg (.ref a) u) (λ_ O=>∃x N,za X T σ N O/\RelV x u/\(Fz z).av i H x N/\Heap.IsStrIter O.heap a n ⟨z.toArray⟩ t (i+1)/\∀b∈[a],N b=none) E {s with heap:=f,toks:=j}:=by
   intro v f j m st' l;obtain⟨c,u,L,rfl⟩:=m;obtain⟨o,e,Y,d⟩:=id st';refine⟨_,rfl,Bw e Y d (by rcases y with rfl|rfl<;>decide) ⟨.str _,H,(I.turned (λb o g e=>l b o (by simpa using g) e) G F D C B),⟨u,rfl⟩,⟨rfl,c,?_,rfl⟩,st',λb g=>(A b g).1⟩⟩
   simpa using L
  have V:=by simpa using J
  rcases y with rfl|rfl
  .exact(Walks.strAscii (I.ok.hd p) a ⟨z.toArray⟩ t).item i s _ _ V st λv f j m st' l=>q v f j m st' l
  exact(Walks.strWide (I.ok.hd p) a ⟨z.toArray⟩ t).item i s _ _ V st λv f j m st' l=>q v f j m st' l
 done:=by
  intro X R Q S p i T s σ H E I A st J;obtain⟨G,F,W,D,C,B⟩:=A a (by simp)
  have U:z.length<=i:=J;rcases y with rfl|rfl
  .exact wpAny_pyNext_ascii_end (I.ok.hd p) st (by simpa using U) λf M=>⟨rfl,I.turned (λb o g e=>M b o g e) G F D C B⟩
  exact wpAny_pyNext_wide_end (I.ok.hd p) st (by simpa using U) λf M=>⟨rfl,I.turned (λb o g e=>M b o g e) G F D C B⟩
 self:=λ_ _ _ _ _ st h=>by
  rcases y with rfl|rfl
  .exact wpAny_pyIter_striter_ascii st h
  exact wpAny_pyIter_striter_wide st h
def bMv{K:Frag}:iu K B A H (Fz z) (z.map λc=>.str [c]):=by
 intro k j le e i;refine⟨λd hd=>?_,λh=>(by simpa using h:z.length<=i)⟩
 rw[Nj]at hd;cases a:z[i]? with
 |none=>rw[a]at hd;cases hd
 |some c=>
  rw[a]at hd;cases hd;refine⟨(pe.mp a).1,λx g y=>⟨by rw[y.1];exact bF.refl _,?_⟩⟩
  obtain⟨f,b,rfl⟩:=y.2;rw[a]at b;cases b;exact dI.mpr rfl
def bSe(K:Frag)(c:TE):TI:=λσ H R=>c σ H λx b=>(∃a,x=.ref a/\(((∃xs,Dc K b a xs)/\R (Ez K a) b)\/((∃xs,pf K b a xs)/\R (MF K a) b)))\/∃z:am,x=.str ⟨z.toArray⟩/\R (Fz z) b
def bMw{l:Expr}(m:PE X l tl):L2.PI X tg l (bSe X.K tl):=by
 intro n s σ H R I h;refine Kb (m n s σ H _ I h) λv s1 ⟨x,f,c,g,j⟩=>?_
 rcases j with ⟨a,e,q⟩|⟨z,rfl,q⟩
 rotate_left
 .obtain⟨t,rfl⟩:=g;refine wpAny_pyIter_strU (⟨s1.heap.objs.size,[s1.heap.objs.size],_,_,f,rfl,c.kept λb o e=>Lc _ e,bEh (by unfold strIterType;split<;>simp),⟨_,Ve _ rfl,rfl,rfl⟩,λb hb=>?_,q⟩)
  have e:=by simpa using hb
  subst e;exact c.Ci (Cb _)<|c.Xa.fresh<|Cb _
 subst e;cases g;rcases q with ⟨⟨xs,d⟩,q⟩|⟨⟨xs,d⟩,q⟩
 .obtain⟨r,i,p,k⟩:=c.list d;refine xx p.isList (⟨s1.heap.objs.size,[s1.heap.objs.size],_,_,f,rfl,c.kept λb o e=>Lc _ e,VT a _,⟨_,Ve _ rfl,rfl,rfl⟩,λb hb=>?_,q⟩)
  have e:=by simpa using hb
  subst e;exact c.Ci (Cb _)<|c.Xa.fresh<|Cb _
 obtain⟨r,i,p,k⟩:=c.tuple d;refine wpAny_pyIter_tuple (p)<|⟨s1.heap.objs.size,[s1.heap.objs.size],_,_,f,rfl,c.kept λb o e=>Lc _ e,â a _,⟨_,Ve _ rfl,rfl,rfl⟩,λb hb=>?_,q⟩
 have e:=by simpa using hb
 subst e;exact c.Ci (Cb _)<|c.Xa.fresh<|Cb _
def jD{l:Expr}(j:PE X l (tI X.K B f)):L2.PI X tg l (Ti X.K B<|xc f):=EK (bMw j) (by
 rintro σ H m ⟨A,st,ds,h,k,q⟩;obtain⟨x,i,b⟩:=R.ja k;refine⟨A,st,x,h,i,λv H1 s1 r1=>?_⟩
 cases x<;>first|(cases b;done)|skip
 .obtain⟨_,b⟩:=aH b;cases b;exact .inr ⟨_,dI.mp r1,q _ H1 s1 bMv⟩
 .cases b;obtain⟨a,d,e,c,g⟩:=iY r1;exact .inl ⟨a,e,.inr ⟨⟨d,Cv (bB _ _) c⟩,q _ H1 s1<|bMu c g⟩⟩
 cases b;obtain⟨a,d,e,c,g⟩:=fJ.mp r1;exact .inl ⟨a,e,.inl ⟨⟨d,(bB _ _).seq c⟩,q _ H1 s1<|K3 c g⟩⟩)
theorem zX{p:Pos}(g:X.mg "range"=none)(k:PE X a (tP X.K B f))(h:Gl X "range":=by rfl)(hs:starEach [a] X.env=[(false,eval a X.env)]:=by rfl):L2.PI X tg (.Call (.Name "range" p) [a] [] pos) (Ti X.K B<|tM f):=EK (Ġ h g (cF k eV hs) hs) (by
 rintro σ H r ⟨A,st,ds,b,i,q⟩;obtain⟨x,e,n⟩:=R.ja i;obtain⟨j,rfl,m⟩:=oq n;obtain⟨c,l⟩:=aH m;rw[oH]at c;cases l;exact⟨A,st,_,b,e,λv o s1 d=>⟨j,by rw[d.int],by lia,by lia,q _ o s1 L3⟩⟩)
def bQ9{p:Pos}(r:X.mg "range"=none)(z:PE X a (tP X.K B f))(w:PE X b (tP X.K B g))(s:Gl X "range":=by rfl)(hs:starEach [a,b] X.env=[(false,eval a X.env),(false,eval b X.env)]:=by rfl)(e:starEach [b] X.env=[(false,eval b X.env)]:=by rfl)
  (m:starEach [a,b] X.env=(false,eval a X.env)::starEach [b] X.env:=by rfl):L2.PI X tg (.Call (.Name "range" p) [a,b] [] pos) (Ti X.K B<|OC f g):=EK (ġ s r (cF z (cF w eV e) m) hs e) (by
 rintro σ H J ⟨A,st,ds,d,t,q⟩;obtain⟨x,o,G⟩:=R.ja t;obtain⟨y,n,D⟩:=R.ja G;obtain⟨i,rfl,C⟩:=oq D;obtain⟨j,rfl,F⟩:=oq C;obtain⟨c,E⟩:=aH F;rw[oH]at c;cases E;exact⟨A,st,_,d,o,λv K s1 l=>⟨A,st,_,d.mono s1,n,λu I h k=>⟨i,j,by rw[l.int,k.int],⟨by omega,by omega,by omega,by omega⟩,q _ I (s1.trans h) L3⟩⟩⟩)
end
def Dv{K:Frag} (w:Own B H) (r:bI K (hide B H) ds vs):RS K B [] H (ds.map (λd=>some<|Sl.v d)++List.replicate (N.length-ds.length) none) (L2.start N vs):=by
 have f:∀(i:Nat)(s:Sl),(ds.map (λd=>some _)++List.replicate (N.length-ds.length) none)[i]?=some (some s)->∃d,ds[i]?=some d/\s=.v d:=λi s e=>by
  by_cases b:i<ds.length
  .rw[Yk (by simpa using b),List.getElem?_map,List.getElem?_eq_getElem b]at e
   simp at e;exact⟨ds[i],md b,e.symm⟩
  rw[Lq (by simpa using b),List.getElem?_replicate]at e
  split at e<;>simp at e
 refine⟨by unfold L2.start;simp[(r.length)],by rwa [Zq],λa g=>absurd g (by simp),λi d e=>?_,λi k xs e=>?_⟩
 .obtain⟨h,e1,e2⟩:=f i _ e;cases e2;obtain⟨v,c,j⟩:=r.get e1;refine⟨v,?_,by rwa [Zq]⟩
  unfold L2.start;rw[Yk (by simpa using ((List.getElem?_eq_some_iff.mp c).1)),List.getElem?_map,c]
  rfl
 obtain⟨h,e1,e2⟩:=f i _ e;cases e2
def Fv(ds:im)(d:D)(h:cM np n bd ds=.ok d):ds.length=np:=(aH h).1
structure Ba(P:Program)(w:World)(K:Frag)(mg:kt)(base:Heap)(x:Str)(k np:Nat)(p:cr):Prop where
 ex:∃(fa:Addr)(fd:FuncData)(ps:sB),Aa P w K mg base bb k fa fd ps (Qb K np p)/\mg x=some (.ref fa)/\keepIn K (.ref fa)=true/\Binds K fd ps []
 len:∀ds d,p ds=.ok d->ds.length=np
def Ba.of{K:Frag} {k:Nat} (h:Aa P w K mg base bb k fa fd ps (Qb K np p)) (m:mg x=some (.ref fa))
  (a:keepIn K (.ref fa)=true) (b:Binds K fd ps []) (l:∀ds d,p ds=.ok d->ds.length=np):Ba P w K mg base x k np p:=⟨⟨fa,fd,ps,h,m,a,b⟩,l⟩
section
variable{X:Cx}{B:db}{a b e:Expr}{f g:Ex}{pos:Pos}
def lC{k:Nat} {r:yd} (h:Ba X.prog X.w X.K X.mg X.base x k np p) (b:gb j X.A) (c:k<=j) (f:PA X (e::es) (tA X.K B r)) (d:Gl X x:=by rfl) (g:Yd x:=by decide)
  (he:Cd e es X.env:=by rfl) (je:Lg pos es X.env:=by rfl):PE X (.Call (.Name x p0) (e::es) [] pos) (tI X.K B<|aM p r):=by
 obtain⟨n,l,i,F,m,a,bd⟩:=h.ex;exact bMs F (b.mono c) m a bd h.len f d g he je
def ą{K:Frag} {a:Addr} (b:Dc K H a (ns.map V.int)):bI K H [.lst<|ns.map D.int] [.ref a]:=by
 refine .cons (xY.mpr ⟨a,_,rfl,b,?_,λz=>by cases ns<;>cases z⟩) .nil
 clear b
 induction ns with
 |nil=>exact .nil
 |cons n ns c=>exact .cons (bJ.mpr rfl) c
def dN(n:X.mg "len"=none)(r:PE X a (tP X.K B f))(o:Gl X "len":=by rfl)(hs:Cd a [] X.env:=by rfl):PE X (.Call (.Name "len" p0) [a] [] pos) (tI X.K B<|e1 dC f):=by
 refine cD (pG (Ϗ.or<|ϐ.or ŉ) o n PySem.boot_len (cF r eV hs) (he:=hs)) ?_
 rintro σ H Q ⟨A,st,d,j,p,q⟩;obtain⟨x,m,g⟩:=R.ja p;refine⟨A,st,x,j,m,λv H1 s1 r1=>?_⟩
 cases x<;>first|(cases g;done)|skip
 .obtain⟨c,b⟩:=aH g;cases b;exact .inr<|.inl ⟨_,by rw[r1.str],by exact lim c,q _ H1 s1<|bJ.mpr rfl⟩
 .cases g;obtain⟨l,h,e,b,i⟩:=r1.tup;exact .inl ⟨l,h,by rw[e],.inr b,by rw[i.length];exact q _ H1 s1<|bJ.mpr rfl⟩
 .cases g;obtain⟨l,h,e,b,i⟩:=r1.lst;exact .inl ⟨l,h,by rw[e],.inl b,by rw[i.length];exact q _ H1 s1<|bJ.mpr rfl⟩
 rename_i t u ds;cases t<;>first|(cases g;done)|skip
 cases g;obtain⟨a,k,e,b,s⟩:=bIm r1;exact .inr<|.inr ⟨a,k,by rw[e],b,by rw[s];exact q _ H1 s1<|bJ.mpr rfl⟩
def IB:PO X none (tO X.K B wq):=F3 bGi (by
 rintro σ H Q ⟨A,st,o,b,a,q⟩;cases a;exact q H<|bF.refl _)
def Lo(h:PE X e (tP X.K B f)):PO X (some e) (tO X.K B<|uR f):=F3 (bGj h) (by
 rintro σ H Q ⟨A,st,o,a,d,q⟩;obtain⟨x,c,j⟩:=R.ja d;obtain⟨i,rfl,g⟩:=oq j;cases g;exact⟨A,st,_,a,c,λv k s1 b=>⟨i,b.int,q k s1⟩⟩)
theorem nX{c:Type}(x:List c):∀(k a:Nat),((List.range k).map (a + ·)).filterMap (x[·]?)=(x.drop a).take k
 |0,a=>rfl
 |k+1,a=>by
  rw[U6,Ge,GD,xg];have e:((λb=>a+b) ∘ Nat.succ)=λb=>(a+1)+b:=by funext b;simp;lia
  rw[e,(nX x k<|a+1)]
  by_cases h:a<x.length
  .rw[XD,md h];simp only[drop_eq_getElem_cons h,List.take_succ_cons]
  rw[XD,Z6 (by lia)]
  simp[List.drop_eq_nil_of_le (by lia:x.length<=a),List.drop_eq_nil_of_le (by lia:x.length<=a+1)]
theorem PZ(n d:Nat)(o:wP):(match o with|none=>(d:Int)|some i=>if (1:Int)>0 then max 0 (min (if i<0 then i+(n:Int) else i) (n:Int)) else max (-1) (min (if i<0 then i+(n:Int) else i)<|(n:Int)-1))=((Ud n d o:Nat):Int):=by
 cases o with
 |none=>rfl
 |some i=>
  show (if (1)>0 then _ else _)=(((if i<0 then (i+n).toNat else min i.toNat n):Nat):Int)
  rw[Ka (by decide)]
  by_cases h:i<0
  .rw[Ka h,Ka h];lia
  rw[Ea h,Ea h];lia
theorem bEi(lo hi:wP)(n:Nat):Builtin.Str.strSliceIndices lo hi 1 n=(List.range<|Ud n n hi-Ud n 0 lo).map (Ud n 0 lo + ·):=by
 refine Ox (congrArg (λz=>sliceRange z _ 1)<|((PZ n 0 lo)))<|Ox (congrArg (λz=>sliceRange _ z 1)<|((PZ n n hi))) ?_
 unfold sliceRange;simp only[show (1:Int)>0 by decide,if_true]
 have a:(if ((Ud n 0 lo):Int)<((Ud n n hi):Int) then (((Ud n n hi):Int)-((Ud n 0 lo):Int)+1-1)/1 else 0).toNat=Ud n n hi-Ud n 0 lo:=by
  by_cases h:((Ud n 0 lo):Int)<((Ud n n hi):Int)
  .rw[Ka h];lia
  rw[Ea h];lia
 rw[a];refine yk λk _=>?_
 lia
theorem bIn(n d:Nat)(b:d<=n)(o:wP):Ud n d o<=n:=by
 cases o with
 |none=>exact b
 |some v=>
  show (if v<0 then (v+n).toNat else min v.toNat n)<=n
  by_cases a:v<0
  .rw[Ka a];lia
  rw[Ea a];lia
theorem Ŋ(x:am)(lo hi:wP):Txt.slice ⟨x.toArray⟩ lo hi=⟨(cut x lo hi).toArray⟩:=by
 unfold Txt.slice cut;rw[str_len,bEi];have b:=bIn x.length x.length (Cb _) hi
 by_cases h:Ud x.length x.length hi-Ud x.length 0 lo=x.length
 .have a:Ud x.length 0 lo=0\/x.length=0:=by lia
  rw[Ka (by simp[h]),h]
  rcases a with a|a
  .rw[a,Nx,List.take_length]
  rw[Kn.mp a];simp
 rw[Ea (by simp[h])]
 have e:(λ(i:Nat)=>(⟨x.toArray⟩:Str).cps[i]?)=λi=>x[i]?:=by simp
 rw[e,nX]
def bSf:re:=λx lo a H Q=>∃z:am,x=.str ⟨z.toArray⟩/\z.length<=sizeLine/\Q (.str ⟨(cut z lo a).toArray⟩) H
def bMx:fq X bSf:=by
 intro p s σ H x v u r lo l w Q I m b n g h;obtain⟨z,rfl,o,q⟩:=h;obtain⟨t,rfl⟩:=m;refine⟨"str",_,PySem.F.slot_str_getitem.lookup,typeIs_str _ _ _,?_⟩;have c:(Txt.slice ⟨z.toArray⟩ lo l).length<=sizeLine:=Vc (Txt.slice_le _ _ _) o;have a:∀e k,EP X p σ Q (.str (Txt.slice _ lo l) e) {s with toks:=k}:=λe k=>⟨.str _,H,I.tok k,⟨e,by rw[Ŋ]⟩,q⟩
 cases n with
 |none=>
  cases g with
  |none=>exact ZC (l:=none) (u:=none) (st:=none) b rfl<|RD ⟨c,a⟩
  |int j d=>exact ZC (l:=none) (u:=some (j,d)) (st:=none) b rfl<|RD ⟨c,a⟩
 |int i f=>
  cases g with
  |none=>exact ZC (l:=some (i,f)) (u:=none) (st:=none) b rfl<|RD ⟨c,a⟩
  |int j d=>exact ZC (l:=some (i,f)) (u:=some (j,d)) (st:=none) b rfl<|RD ⟨c,a⟩
def rX{K:Frag} (lo hi:wP) (r:bI K H ds vs):bI K H (cut ds lo hi) (Uw vs lo hi):=by
 unfold cut Uw;rw[r.length];exact(r.drop _).take _
def cx{lo hi:Option Expr}{l u:aq} (y:PE X a (tP X.K B f)) (t:PO X lo (tO X.K B l)) (s:PO X hi (tO X.K B u)):PE X (.Subscript a (.Slice lo hi none p2) pos) (tI X.K B<|Ck f l u):=by
 refine cD (IV (yY.or bMx) y t s) ?_
 rintro σ H Q ⟨A,st,d,b,w,q⟩;obtain⟨x,r,E⟩:=R.ja w;obtain⟨o,G,D⟩:=R.ja E;obtain⟨k,F,g⟩:=R.ja D;refine⟨A,st,x,b,r,λv J s1 r1=>⟨A,st,o,b.mono s1,G,λI s2=>⟨A,st,k,b.mono<|s1.trans s2,F,λH3 s3=>?_⟩⟩⟩
 have h:=r1.mono<|s2.trans s3;cases x<;>first|(cases g;done)|skip
 .obtain⟨c,C⟩:=aH g;cases C;exact .inr ⟨_,h.str,lim c,q _ H3 (s1.trans<|s2.trans s3)<|dI.mpr rfl⟩
 cases g;obtain⟨p,j,e,z,m⟩:=h.lst;exact .inl ⟨p,j,e,z,λn i=>q _ _ (s1.trans<|s2.trans<|s3.trans<|cI i)<|pC (b.own.mono<|s1.trans<|s2.trans s3) i<|rX _ _ m⟩
end
noncomputable def oj(cells:wf):List (Str×NameKind)->List (Str×Addr)->List (Str×Addr)
 |[],a=>a
 |(n,k)::r,a=>if k == .free then oj cells r ((n,(cells.lookup n).getD 0)::a) else oj cells r a
theorem HG{env:Env}:∀(names:List (Str×NameKind)) (a:wf),(∀y∈names,y.2=.free->∃c,env.cells.lookup y.1=some c)->
  (forIn names a λx f=>if x.2 == .free then (do let c <- cellOf env x.1;pure (ForInStep.yield<|(x.1,c)::f)) else pure (ForInStep.yield f):Sem (List<|Str×Addr))=pure (oj env.cells names a)
 |[],a,_=>rfl
 |(n,k)::r,a,h=>by
  rw[forIn_cons];unfold oj
  by_cases d:k=.free
  .subst d;obtain⟨c,e⟩:=h (n,.free) zb rfl;have e2:cellOf env n=pure c:=by unfold cellOf;rw[e]
   simp only[e2,e];exact HG r _ λy b=>h y<|Ab _ b
  have g:(k==NameKind.free)=false:=by simpa using d
  simp only[g];exact HG r _ λy b=>h y<|Ab _ b
def Κ{a:Scope} (h:∀y∈a.names,y.2=.free->∃c,env.cells.lookup y.1=some c):closureFor a env=pure (oj env.cells a.names []):=by
 unfold closureFor;rw[<-(HG a.names [] h)];simp
theorem AJ{cells:wf}:∀(names:List (Str×NameKind)) (b:wf) (x:Str) (c:Addr),(∀y∈names,y.2=.free->∃c,cells.lookup y.1=some c)->(x,c)∈oj cells names b->((x,NameKind.free)∈names/\cells.lookup x=some c)\/(x,c)∈b
 |[],b,x,c,_,h=>.inr h
 |(n,k)::r,b,x,c,g,h=>by
  unfold oj at h;have f:=λy j=>g y<|Ab _ j
  by_cases i:k=.free
  .subst i;obtain⟨l,e⟩:=g (n,.free) zb rfl;rcases AJ r _ x c f h with ⟨a,d⟩|a
   .exact .inl ⟨Ab _ a,d⟩
   rcases Pb.mp a with a|a
   .cases a;refine .inl ⟨zb,?_⟩;rw[e];rfl
   exact .inr a
  rw[Ea (by simpa using i)]at h
  rcases AJ r _ x c f h with ⟨a,d⟩|a
  .exact .inl ⟨Ab _ a,d⟩
  exact .inr a
theorem BJ{cells:wf}:∀(names:List (Str×NameKind)) (a:wf) (x:Str),((x,NameKind.free)∈names\/∃c,(x,c)∈a)->∃c,(x,c)∈oj cells names a
 |[],a,x,h=>by
  rcases h with h|h
  .cases h
  exact h
 |(n,k)::r,a,x,h=>by
  unfold oj
  by_cases b:k=.free
  .subst b;refine BJ r _ x ?_
   rcases h with h|⟨c,h⟩
   .rcases Pb.mp h with h|h
    .cases h;exact .inr ⟨_,zb⟩
    exact .inl h
   exact .inr ⟨c,Ab _ h⟩
  rw[Ea (by simpa using b)]
  refine BJ r _ x ?_
  rcases h with h|h
  .rcases Pb.mp h with h|h
   .cases h;exact absurd rfl b
   exact .inl h
  exact .inr h
theorem wN{a:Type}:∀{l:List (Str×a)} {x:Str} {c:a},(x,c)∈l->∃d,l.lookup x=some d
 |(n,v)::r,x,c,h=>by
  rw[yi];cases b:x==n with
  |true=>exact⟨v,rfl⟩
  |false=>
   rcases Pb.mp h with h|h
   .cases h;simp at b
   exact wN h
theorem pQ{env:Env}:∀(names:List (Str×NameKind)) (x:Str),(names.map λ(n,k)=>if (k==NameKind.free&&env.scope.kind == .function&&env.kindOf n==some .cell) then (n,NameKind.cell) else (n,k)).lookup x =
  (names.lookup x).map λk=>if (k==NameKind.free&&env.scope.kind == .function&&env.kindOf x==some .cell) then NameKind.cell else k
 |[],_=>rfl
 |(n,k)::r,x=>by
  have c:=@pQ env r x;show List.lookup x ((if (k==NameKind.free&&env.scope.kind == .function&&env.kindOf n==some .cell)=true then (n,NameKind.cell) else (n,k))::_)=_
  cases b:x==n with
  |true=>
   have e:=Ih.mp b;subst e
   by_cases a:(k==NameKind.free&&env.scope.kind == .function&&env.kindOf x==some .cell)=true
   .rw[Ka a,yi,yi,b];simp only[map_some];rw[Ka a]
   rw[Ea a,yi,yi,b];simp only[map_some];rw[Ea a]
  |false=>
   by_cases a:(k==NameKind.free&&env.scope.kind == .function&&env.kindOf n==some .cell)=true
   .rwa [Ka a,yi,yi,b]
   rwa [Ea a,yi,yi,b]
theorem rF:∀(names:List (Str×NameKind)) (n:Nat) (a:wf),cellsFrom n names a=cellsFrom n names []++a
 |[],_,_=>rfl
 |(x,k)::r,n,a=>by
  unfold cellsFrom;split
  .rw[rF r (n+1) _,rF r (n+1) [(x,n)],Zk];rfl
  exact rF r n a
theorem yU:∀(names:List (Str×NameKind)) (n:Nat) (a:wf) (x:Str) (c:Addr),(x,c)∈cellsFrom n names a->(x,c)∈a\/(x,NameKind.cell)∈names
 |[],_,_,_,_,h=>.inl h
 |(y,k)::r,n,a,x,c,h=>by
  unfold cellsFrom at h;split at h
  .rename_i b;rcases yU r _ _ x c h with z|z
   .rcases Pb.mp z with z|z
    .cases z;exact .inr (by rw[show k=NameKind.cell from by simpa using b];exact zb)
    exact .inl z
   exact .inr<|Ab _ z
  rcases yU r _ _ x c h with z|z
  .exact .inl z
  exact .inr<|Ab _ z
theorem rG:∀(names:List (Str×NameKind)) (n:Nat) (a:wf) (x:Str),((x,NameKind.cell)∈names\/∃c,(x,c)∈a)->∃c,(x,c)∈cellsFrom n names a
 |[],_,_,x,h=>h.elim (λz=>nomatch z) id
 |(y,k)::r,n,a,x,h=>by
  unfold cellsFrom;split
  .refine rG r _ _ x ?_
   rcases h with h|⟨c,h⟩
   .rcases Pb.mp h with h|h
    .cases h;exact .inr ⟨n,zb⟩
    exact .inl h
   exact .inr ⟨c,Ab _ h⟩
  rename_i b;refine rG r _ _ x ?_
  rcases h with h|h
  .rcases Pb.mp h with h|h
   .cases h;exact absurd rfl b
   exact .inl h
  exact .inr h
theorem IT{a:Type}(x:Str):∀(l r:List (Str×a)),(l++r).lookup x=(l.lookup x).or (r.lookup x)
 |[],r=>rfl
 |(y,v)::l,r=>by
  rw[Hu,yi,yi];cases b:x==y with
  |true=>rfl
  |false=>exact IT x l r
theorem rH{b:Type}:∀{l:List (Str×b)} {x:Str} {v:b},(l.map (·.1)).Nodup->(x,v)∈l->l.lookup x=some v
 |(y,w)::l,x,v,a,h=>by
  rw[Ge,aj]at a;rw[yi];rcases Pb.mp h with h|h
  .cases h;simp
  have c:(x==y)=false:=by
   rw[Nq];intro z;exact a.1<|Zc.mpr ⟨(x,v),h,z⟩
  rw[c];exact rH a.2 h
def ŋ{A:Around} {s:Shared} {scope:Scope} {e:Addr} {Q:Env->Shared->Prop}
  (h:∀c,c.Ns s.heap.objs.size (λ_=>none)->(∀b o,s.heap.get? b=some o->c.get? b=some o)->CellsOk c (s.heap.objs.size+1) (cellsFrom (s.heap.objs.size+1) scope.names [])->
   Q {scope:=scope,locals:=s.heap.objs.size,globals:=e,cells:=cellsFrom (s.heap.objs.size+1) scope.names cl,qual:=qual,func:=none,code:=env.code,frame:=env.frame,builtins:=env.builtins} {s with heap:=c}) :
  wpAny M A (newFunctionEnv scope e cl [] qual none .none<|some env) Q E s:=by
 simp only[newFunctionEnv];refine Oa<|wpAny_alloc<|Oa<|wpAny_layCells _ (λd a cells=>by cases g:a==NameKind.cell<;>simp) _ _ _ _<|Oa<|vc<|vc ?_
 have ok:=cellsFrom_ok scope.names (s.heap.push {cls:=.type "dict",data:=.dict #[]}) _ [] ⟨λ_ _ f=>(nomatch f),List.Pairwise.nil⟩ (by rw[oh];exact Cb _)
 rw[oh]at ok;rw[(oh ..)];exact h _ ((Heap.Ns.new s.heap _).keeps<|pushCells_keeps _ _) (λb o q=>pushCells_keeps _ _ b o<|Lc _ q) ok
structure Rb(X:Cx)(scope:Scope)(is:am):Prop where
 kind:scope.kind=.function
 nd:(scope.names.map (·.1)).Nodup
 free:∀x∈scope.names,x.2=.free->X.env.kindOf x.1=some .cell\/X.env.kindOf x.1=some .free
 own:∀(i:Nat) x,X.N[i]?=some x->(scope.names.lookup x=some .local\/scope.names.lookup x=some .cell)->i∈is
section
variable{X:Cx}{scope:Scope}{is:am}
theorem Rb.names(S:Rb X scope is):∀x∈scope.names,x.2=.local->scope.names.lookup x.1=some .local:=λx a e=>rH S.nd (by rwa [<-e])
noncomputable def fG(X:Cx)(a:Scope)(C:Addr)(Ca:Shared)(Ja:Hp)(b:db):Cx:=
 {X with Ca:=Ca,Ja:=Ja,env:=compEnvC a (cellsFrom (C+1) a.names<|oj X.env.cells a.names []) C X.env,outer:=X.stack,stack:=X.stack,ex:=b,fn:=λx=>a.names.lookup x==some .cell,pn:=[],xe:=λ_ _=>False,calm:=true}
theorem Rb.cells(S:Rb X scope is)(ok:X.Ok):∀y∈scope.names,y.2=.free->∃c,X.env.cells.lookup y.1=some c:=λy a b=>ok.has y.1<|S.free y a b
def Rb.lk(S:Rb X scope is)(ok:X.Ok){n:Nat}{x:Str}{c:Addr}(h:(cellsFrom n scope.names<|oj X.env.cells scope.names []).lookup x=some c) :
  ((cellsFrom n scope.names []).lookup x=some c/\scope.names.lookup x=some .cell)\/(scope.names.lookup x=some .free/\X.env.cells.lookup x=some c):=by
 rw[rF,IT]at h;cases e:(cellsFrom n scope.names []).lookup x with
 |some d=>
  rw[e]at h;cases h;rcases yU _ _ _ _ _ (Mj e) with z|z
  .cases z
  exact .inl ⟨rfl,rH S.nd z⟩
 |none=>
  rw[e]at h;rcases AJ scope.names [] x c (S.cells ok) (Mj h) with ⟨b,a⟩|a
  .exact .inr ⟨rH S.nd b,a⟩
  cases a
def bp(is:am)(a:vh):vh:=is.foldl (λτ i=>τ.set i none) a
def AX(is:am):∀a:vh,(bp is a).length=a.length:=by
 induction is with
 |nil=>exact λ_=>rfl
 |cons i is b=>intro a;show (bp is _).length=_;rw[b,yg]
def bEk(is:am):∀(b:vh)(j:Nat)(v:V),(bp is b)[j]?=some (some v)->b[j]?=some (some v)/\j∉is:=by
 induction is with
 |nil=>exact λb j v h=>⟨h,by simp⟩
 |cons i is c=>
  intro b j v h;obtain⟨a,d⟩:=c _ j v h;rw[jd]at a
  by_cases e:i=j
  .subst e;rw[Ka rfl]at a;split at a<;>cases a
  rw[Ea e]at a;exact⟨a,λz=>(Pb.mp z).elim (λz=>e z.symm) d⟩
theorem Ć{s:Shared}{E:db} (S:Rb X scope is) (n:X.calm=true) (I:za X ba σ H s) (B:∀b∈E,Jj X ba H b) (w:∀b∈E,b<s.heap.objs.size)
  (U:h'.Ns s.heap.objs.size λ_=>none) (t:∀b o,s.heap.get? b=some o->h'.get? b=some o) (F:CellsOk h' (s.heap.objs.size+1) (cellsFrom (s.heap.objs.size+1) scope.names [])) :
  za (fG X scope s.heap.objs.size s H E) [] (bp is σ) H {s with heap:=h',toks:=t'}:=by
 have lk:=@Rb.lk X scope is S I.ok<|s.heap.objs.size+1;have P:=λb j=>Bf<|w b j
 have M:∀x c,X.env.cells.lookup x=some c->c<s.heap.objs.size:=λx c e=>by
  obtain⟨v,q⟩:=I.cell x c e;exact q.lt
 have d:=λx c e=>(F.empty x c<|Mj e).2
 have r:∀x k,(k=.cell\/k=.free)->scope.names.lookup x=some k->∃c,(cellsFrom (s.heap.objs.size+1) scope.names<|oj X.env.cells scope.names []).lookup x=some c:=λx k t e=>by
  have D:=Mj e;rcases t with rfl|rfl
  .obtain⟨c,q⟩:=rG scope.names (s.heap.objs.size+1) (oj X.env.cells scope.names []) x<|.inl D;exact wN q
  obtain⟨c,q⟩:=rG scope.names (s.heap.objs.size+1) (oj X.env.cells scope.names []) x<|.inr<|BJ scope.names [] x<|.inl D;exact wN q
 have C:∀x,(relabel scope X.env).names.lookup x=some .cell\/(relabel scope X.env).names.lookup x=some .free->scope.names.lookup x=some .cell\/scope.names.lookup x=some .free:=λx h=>by
  unfold relabel at h;rw[pQ]at h;cases e:scope.names.lookup x with
  |none=>rw[e]at h;rcases h with h|h<;>cases h
  |some k=>
   rw[e]at h;simp only[map_some]at h
   by_cases n:(k==NameKind.free&&X.env.scope.kind == .function&&X.env.kindOf x==some .cell)=true
   .simp only[and_eq_true,beq_iff_eq]at n;exact .inr (by rw[n.1.1])
   rwa [Ea n]at h
 refine⟨⟨I.ok.mod,?_,I.ok.glob,I.ok.blt,Cb _,λx y c h1 h2=>?_,λx h=>?_,λx c G e=>?_,λ_=>I.ok.hd n,I.ok.frames,.inl rfl,λb j=>⟨P b j,λx c e z=>?_⟩,I.bs,?_,λb o e j=>?_,λb j z=>?_,I.stack,I.Bj⟩,
  rfl,I.bare,Un.kept t,⟨_,U,λi x v e1 e2 g=>?_⟩,λx c e=>?_,I.Xa.fresh<|Cb _,λx c e=>?_,(λp T=>absurd (show p∈([]) from T)<|by simp),I.Xa.kept t,by rw[AX];exact I.len⟩
 .exact S.kind
 .rcases lk h1 with ⟨a,_⟩|⟨_,a⟩ <;> rcases lk h2 with ⟨A,_⟩|⟨_,A⟩
  .exact name_of_addr F.apart (Mj a) (Mj A)
  .exact absurd (We (M y c A)<|JD<|d x c a) (Pg _)
  .exact absurd (We (M x c a)<|JD<|d y c A) (Pg _)
  exact I.ok.inj x y c a A
 .rcases C x h with e|e
  .exact r x _ (.inl rfl) e
  exact r x _ (.inr rfl) e
 .have G:=Ih.mp G;rcases lk e with ⟨a,_⟩|⟨a,_⟩
  .have:=d x c a;show s.heap.objs.size<=c;lia
  rw[G]at a;cases a
 .rcases lk e with ⟨a,_⟩|⟨_,a⟩
  .have h2:=w b j;rw[<-z]at h2;exact absurd (We h2<|JD<|d x c a)<|Pg _
  exact(B b j).2.2.2.2.1 x c a z
 .exact Vc I.ok.Pm I.sz
 .rcases (B b j).2.2.2.1 with z|z
  .exact I.ok.fm b o e z
  exact absurd (We (Uc e)<|Vc I.ok.Pm z)<|Pg _
 .rcases Pb.mp (I.Ri b z) with z|z
  .exact(B b j).2.1 z
  exact(B b j).2.2.1 z
 .obtain⟨e2,K⟩:=bEk is σ i v e2;have g:(relabel scope X.env).names.lookup x=some .local\/(relabel scope X.env).names.lookup x=some .cell\/(relabel scope X.env).names.lookup x=some .free:=g;have l:scope.names.lookup x=some .free:=by
   have f:=g;unfold relabel at f;rw[pQ]at f;cases e:scope.names.lookup x with
   |none=>rw[e]at f;rcases f with f|f|f<;>cases f
   |some k=>
    rw[e]at f;simp only[map_some]at f
    by_cases n:(k==NameKind.free&&X.env.scope.kind == .function&&X.env.kindOf x==some .cell)=true
    .simp only[and_eq_true,beq_iff_eq]at n;rw[n.1.1]
    rw[Ea n]at f;rcases f with f|f|f
    .exact absurd (S.own i x e1<|.inl<|by rw[e,f]) K
    .exact absurd (S.own i x e1<|.inr<|by rw[e,f]) K
    exact f
  have Y:(relabel scope X.env).names.lookup x=some .cell\/(relabel scope X.env).names.lookup x=some .free:=by
   rcases g with g|g|g
   .unfold relabel at g;rw[pQ,l]at g;simp only[map_some]at g;split at g<;>cases g
   .exact .inl g
   exact .inr g
  have L:=S.free _ (Mj l) rfl;obtain⟨m,D,V⟩:=I.loc;obtain⟨u,O,Q⟩:=V i x v e1 e2<|.inr L;refine⟨u,O,.inr ⟨Y,?_⟩⟩;rcases Q with ⟨R,_⟩|⟨_,c,W,N⟩
  .rcases L with q|q<;>rw[R]at q<;>cases q
  obtain⟨Z,J⟩:=r x _ (.inr rfl) l;rcases lk J with ⟨_,a⟩|⟨_,a⟩
  .rw[l]at a;cases a
  rw[W]at a;cases a;exact⟨c,J,N.keeps t⟩
 .rcases lk e with ⟨a,_⟩|⟨_,a⟩
  .exact⟨_,(F.empty x c<|Mj a).1⟩
  obtain⟨v,q⟩:=I.cell x c a;exact⟨v,q.keeps t⟩
 rcases lk e with ⟨a,_⟩|⟨_,a⟩
 .exact I.Xa.fresh (by have:=d x c a;lia)
 exact I.Jd x c a
end
def R'(e a d c:Expr)(b:Scope)(pos:Pos)(f g:Value)(env:Env) :
  compTurn (.ListComp e [⟨a,d,[c],0⟩] b pos) 0 f g env=(standAt d.pos >>= λ_=>pyNext f >>= λr=>match r with
   |none=>pure<|.done .next
   |some v=>letOwnedTupleGo a f v >>= λ_=>assign a env v >>= λ_=>isTrue c env (eval c env) >>= λok=>
    if ok=true then (eval e env >>= λx=>call (.builtin "list.append") [g,x] >>= λ_=>again<|.compLoop (.ListComp e [⟨a,d,[c],0⟩] b pos) 0 f g env)
    else again (.compLoop (.ListComp e [⟨a,d,[c],0⟩] b pos) 0 f g env)):=by
 unfold compTurn;simp;rfl
def O_(d a c:Expr)(b:Scope)(pos:Pos)(e f:Value)(env:Env) :
  compTurn (.ListComp d [⟨a,c,[],0⟩] b pos) 0 e f env=(standAt c.pos >>= λ_=>pyNext e >>= λr=>match r with
   |none=>pure<|.done .next
   |some v=>letOwnedTupleGo a e v >>= λ_=>assign a env v >>= λ_=>
    (eval d env >>= λx=>call (.builtin "list.append") [f,x] >>= λ_=>again<|.compLoop (.ListComp d [⟨a,c,[],0⟩] b pos) 0 e f env)):=by
 unfold compTurn;simp;rfl
section
variable{X:Cx}{scope:Scope}{is:am}{elt tg iter:Expr}{pos:Pos}{wi:TI}{g:TG}{te:TE}{tt:TT}
def ZQ(is:am)(j:TI)(g:TG)(l:TT)(te:TE):TE:=λσ H Q=>j σ H λJ f=>∀p,f p=none->∃W:Nat->Nat->vh->GE,(∃m,W 0 m (bp is σ) []<|Ua f p<|.lst [])/\
 ∀i m τ a H,W i m τ a H->H p=some (.lst a)/\((J.stop i H/\Q (.ref p) H)\/(J.go i H/\∀x h,J.av i H x h->g x τ h λc n=>l c n λk e=>
  if k=true then te c e λy d=>d p=some (.lst a)/\a.length<sizeLine/\∃b,b < m/\W (i+1) b c (a++[y]) (Ua d p<|.lst<|a++[y]) else ∃b,b < m/\W (i+1) b c a e))
def Uv{i:db} (I:za X ba σ H s) (f:∀b∈i,Jj X ba H b) (m:s.heap.objs.size<=C) (J:za (fG X scope C s H i) [] σ5 H5 s5)
  (hs:Heap.SameBut C s5.heap h'):za X ba σ H5 {s5 with heap:=h'}:=by
 have j:H5 C=none:=J.free;have g:∀b o,s.heap.get? b=some o->b≠C:=λb o e z=>by
  subst z;exact absurd (We (Uc e) m)<|Pg _
 have r:=λb o e=>by
  refine(J.Xa b o e).ug (λc v hc q=>hs.extBut c v ?_ q) (λ_ q=>q) λ_ _ q=>q
  rintro rfl;rcases hc with z|z
  .subst z;rw[j]at e;cases e
  rw[j]at z;cases z
 obtain⟨t,u,p,tt,os⟩:=s5;have h:=J.os;subst h;exact I.call (d':=p) (t':=tt) (⟨λb o e n a d=>hs.extBut b o (g b o e)<|J.base.keep b o e n a d,λb o e n a d=>by
   obtain⟨k,q⟩:=J.base.slot b o e n a d;exact⟨k,hs.extBut b _ (g b o e) q⟩,J.base.free,λb o e d=>by
   obtain⟨l,q⟩:=J.base.there b o e d;exact⟨l,hs.extBut b _ (g b o e) q⟩,J.base.Kf,J.base.rf,J.base.Jf⟩) r J.bare λb a=>⟨(f b a).2.2.2.1,(f b a).2.1,(f b a).2.2.2.2.1,(f b a).2.2.2.2.2⟩
theorem qV{Y:Cx} {p:Addr} {k:Sem α} {Q:α->u8} (he:PE Y elt te) (c:∀e a,Y.xe e a->E e a) (I:za Y ba τ H s) (d:te τ H λy b=>b p=some (.lst vs)/\vs.length<sizeLine/\∀a,za Y ba τ (Ua b p<|.lst<|vs++[y]) a->wpAny (model Y.prog Y.w) Y.A k Q E a) :
  wpAny (model Y.prog Y.w) Y.A (eval elt Y.env >>= λx=>call (.builtin "list.append") [.ref p,x] >>= λ_=>k) Q E s:=by
 refine Oa<|zi (he ba s τ H _ I d) (λu s1 ⟨y,b,I4,r4,hp,g,q⟩=>?_) c
 obtain⟨z,f,n,r,h,e⟩:=I4.dh hp;refine Oa<|Yq mM ⟨_,e,rfl⟩ PySem.F.entry_list_append (J6 _ _) (PySem.list_append p f.toArray n u<|by rw[cf];lia) ⟨e,(q _<|I4.bh hp e (by simp) (r.append<|.cons r4 .nil) ?_)⟩
 rw[ef,Yi];lia
end
def Ō{Y:Cx} {env:Env} {g:TG} {j p:Addr} {D:db} {K:zn} {R:Result->u8} {eo:Pos} {rest:Sem Fin}
  (T:Turn Y.prog Y.w Y.K tg J D j K) (U:Y.calm=true) (hE:Y.xe=λ_ _=>False) (hg:PG Y tg g) (hq:(Code.compLoop e 0 (.ref j) (.ref p) Y.env).quiet=true)
  (Br:∀(s:Shared)(Q:Fin->u8),wpAny (model Y.prog Y.w) Y.A (pyNext (.ref j) >>= λr=>match r with
    |none=>pure<|.done .next
    |some v=>letOwnedTupleGo tg (.ref j) v >>= λ_=>assign tg Y.env v >>= λ_=>rest) Q (λ_ _=>False) s->
   wpAny (model Y.prog Y.w) (Y.A.under<|.compLoop e 0 (.ref j) (.ref p) Y.env) ((model Y.prog Y.w).den<|.compLoop e 0 (.ref j) (.ref p) Y.env) Q (λ_ _=>False) s)
  (Rl:∀(τ:vh)(H:Hp)(s:Shared) (X:f8) (vs:nw) (N:Do) (Q:Fin->u8),za Y X τ H s->
   (tt τ H λk f=>if k=true then te τ f λy E=>E p=some (.lst vs)/\vs.length<sizeLine/\N (Ua E p<|.lst<|vs++[y]) (vs++[y]) else N f vs)->
   (∀C a z,za Y X τ a C->N a z->Q (.again<|.compLoop e 0 (.ref j) (.ref p) Y.env) C)->wpAny (model Y.prog Y.w) Y.A rest Q (λ_ _=>False) s)
  (W:Nat->Nat->vh->GE) {Qe:v6}
  (step:∀i m τ vs H,W i m τ vs H->H p=some (.lst vs)/\((J.stop i H/\Qe H)\/(J.go i H/\∀x a,J.av i H x a->g x τ a λG H2=>tt G H2 λk f=>
   if k=true then te G f λy E=>E p=some (.lst vs)/\vs.length<sizeLine/\∃c,c < m/\W (i+1) c G (vs++[y]) (Ua E p<|.lst<|vs++[y]) else ∃c,c < m/\W (i+1) c G vs f)))
  (hR:∀τ H s,za Y [] τ H s->Qe H->R (.ok .next) s) (I:za Y [] τ H s) (st:K i s.heap) (V:∀b∈D,Jj Y [] H b) (w:W i m τ vs H) :
  codeAny (model Y.prog Y.w) Y.A (.compLoop e 0 (.ref j) (.ref p) Y.env) R s:=by
 have O:∀{a:Hp},(∀b∈D,a b=none)->∀b∈D,Jj Y [] a b:=λhn b h=>⟨hn b h,(V b h).2⟩
 refine codeAny_loop hq (λn C=>∃i S vg a,za Y [] S a C/\K i C.heap/\(∀b∈D,a b=none)/\W i n S vg a) (λn s3 hI=>?_) m ⟨i,τ,vs,H,I,st,λb h=>(V b h).1,w⟩
 obtain⟨i,F,Z,f,I3,B,Xx,w3⟩:=hI;refine zi (Br s3 _ ?_) (λ_ _ q=>q)<|λ_ _ q=>q.elim
 obtain⟨hp,L⟩:=step i n F Z f w3;rcases L with ⟨A,qe⟩|⟨go,L⟩
 .refine Oa (Kb (T.done Y rfl rfl rfl U i [] s3 F f _ I3 (O Xx) B A) λr s4 ⟨hr,I4⟩=>?_)
  subst hr;exact vc<|hR F f s4 I4 qe
 refine Oa<|Kb (T.item Y rfl rfl rfl U i [] s3 F f _ I3 (O Xx) B go) λr s4 ⟨u,hr,h4⟩=>?_
 subst hr;refine Oa<|Kb h4 λ_ s5 ⟨x,H5,I5,r5,y5,t,M⟩=>?_
 have Ek:=hg _ s5 F H5 x u _ (I5.pinned (O M)<|T.obj _ _ t) r5<|L x H5 y5;rw[hE]at Ek;refine Oa<|Kb Ek λ_ s6 ⟨l,H6,I6,q6⟩=>?_
 refine Rl l H6 s6 _ Z (λa z=>∃c,c < n/\W (i+1) c l z a) _ I6 q6 λs7 H7 z P ⟨c,hm,w7⟩=>⟨rfl,c,hm,i+1,l,z,H7,P.Be,T.keep _ _ _ t λb h o e=>(P.pin (b,o)<|se _<|se _<|yH h e).1,λb h=>?_,w7⟩
 obtain⟨o,e,d⟩:=T.obj _ _ t b h;exact(P.pin (b,o)<|se _<|se _<|yH h e).2.1
section
variable{X:Cx}{scope:Scope}{is:am}{elt tg iter c:Expr}{pos:Pos}{wi:TI}{g:TG}{te:TE}{tt:TT}
def uO{Zu:Option (Value->Sem Unit)} {n:f8} {s:Shared} {H:Hp} {Q:VK} {i:List Expr} {rest:Env->Value->Value->Sem Fin} (S:Rb X scope is) (hc:X.calm=true) (hi:L2.PI X tg iter wi) (hg:∀C l j a,PG (fG X scope C l j a) tg g)
  (Lr:∀d qa env,(Code.compLoop (.ListComp elt [⟨tg,iter,i,0⟩] scope pos) 0 d qa env).quiet=true)
  (Br:∀C l j a d p (s:Shared) (Q:Fin->u8),wpAny (model X.prog X.w) X.A (pyNext (.ref d) >>= λr=>match r with
    |none=>pure<|.done .next
    |some v=>letOwnedTupleGo tg (.ref d) v >>= λ_=>assign tg (fG X scope C l j a).env v >>= λ_=>rest (fG X scope C l j a).env (.ref d)<|.ref p) Q (λ_ _=>False) s->
   wpAny (model X.prog X.w) (X.A.under<|.compLoop (.ListComp elt [⟨tg,iter,i,0⟩] scope pos) 0 (.ref d) (.ref p) (fG X scope C l j a).env) ((model X.prog X.w).den<|.compLoop (.ListComp elt [⟨tg,iter,i,0⟩] scope pos) 0 (.ref d) (.ref p) (fG X scope C l j a).env) Q (λ_ _=>False) s)
  (Rl:∀C l j a d p (q:vh) (H:Hp) (s:Shared) (n:f8) (vs:nw) (N:Do) (Q:Fin->u8),za (fG X scope C l j a) n q H s->
   (tt q H λk z=>if k=true then te q z λy Z=>Z p=some (.lst vs)/\vs.length<sizeLine/\N (Ua Z p<|.lst<|vs++[y]) (vs++[y]) else N z vs)->
   (∀L H' ws,za (fG X scope C l j a) n q H' L->N H' ws->Q (.again<|.compLoop (.ListComp elt [⟨tg,iter,i,0⟩] scope pos) 0 (.ref d) (.ref p) (fG X scope C l j a).env) L)->
   wpAny (model X.prog X.w) X.A (rest (fG X scope C l j a).env (.ref d)<|.ref p) Q (λ_ _=>False) s)
  (hs:∀x,foldedSetIterable iter X.env x=pure x) (I:za X n σ H s) (h:ZQ is wi g tt te σ H Q)
  (EO:∀C p E A G F z a q,F.heap.objs.size<=C->za X n σ z F->(∀b∈a,Jj X n z b)->za (fG X scope C F z a) [] q E A->A.heap.Ns C G->Q (.ref p) E->compPost (model X.prog X.w) X.A X.xe Zu Qf (.ref p) C (.ok .next) A) :
  wpAny (model X.prog X.w) X.A (comprehension (.ListComp elt [⟨tg,iter,i,0⟩] scope pos) scope X.env ppos (newList []) false (eval iter X.env) Zu) Qf X.xe s:=by
 refine wpAny_comprehension_free rfl hs (Κ<|S.cells I.ok) S.kind S.names<|Kb (hi n s σ H _ I h) λv s1 h1=>Kb h1 λJP u h2=>?_
 obtain⟨d,a,tn,J,H2,e,Y,T,R,P,hW⟩:=h2;subst e;refine KD<|ŋ λWg Ir K Ar=>?_
 have V:za X n σ _ {u with heap:=u.heap.push {cls:=.type "list",data:=.seq ([]).toArray} }:=Y.Py .nil<|He _
 obtain⟨W,⟨m,w0⟩,step⟩:=hW u.heap.objs.size Y.fresh;have B:=λb f=>let ⟨o,e,_⟩:=T.obj 0 _ R b f;Uc e
 have w:∀b∈a,Jj X n (Ua H2 u.heap.objs.size<|.lst []) b:=λb f=>⟨by rw[bA<|Bf<|B b f];exact(P b f).1,(P b f).2⟩
 have O:=K;have D:=Ć (t':=u.toks) S hc V w (λb f=>We (B b f)<|by rw[oh];exact Nat.le_succ _) Ir O Ar
 have M:=T.keep 0 _ _ R λb _ o e=>O b o<|Lc _ e
 have t:=Ō (Y:=fG X scope _ _ _ a) (env:=X.env) (eo:=pos) T rfl rfl (hg _ _ _ a) (Lr _ _ _) (Br _ _ _ a d u.heap.objs.size) (Rl _ _ _ a d u.heap.objs.size) W step
  (λq E A U q5=>by
   obtain⟨G,Hi,_⟩:=U.loc;exact EO _ _ E A G _ _ a q (Cb _) V w U Hi q5) D M (λb f=>⟨(w b f).1,(D.ok.nE b f).1,D.ok.El b f,.inl f,λx c e=>(D.ok.nE b f).2 x c e,λp hp=>absurd (show p∈([]) from hp)<|by simp⟩) w0
 exact codeAny_compStart_list t<|T.self _ 0 _ _ _ M t
def qT{b a:Value}:(Code.compLoop e 0 b a env).quiet=true:=rfl
def QC {Y : Cx} {a p : Addr}  {Q : Fin -> Shared -> Prop} (h : wpAny (model X.prog X.w) X.A (pyNext (.ref a) >>= fun r => match r with
        |none=>pure<|.done .next
        |some v=>letOwnedTupleGo tg (.ref a) v >>= λ_=>assign tg Y.env v >>= λ_=>(eval elt Y.env >>= λx=>call (.builtin "list.append") [.ref p,x] >>= λ_=>again<|.compLoop (.ListComp elt [⟨tg,iter,[],0⟩] scope pos) 0 (.ref a) (.ref p) Y.env)) Q (λ_ _=>False) s) :
      wpAny (model X.prog X.w) (X.A.under<|.compLoop (.ListComp elt [⟨tg,iter,[],0⟩] scope pos) 0 (.ref a) (.ref p) Y.env) ((model X.prog X.w).den<|.compLoop (.ListComp elt [⟨tg,iter,[],0⟩] scope pos) 0 (.ref a) (.ref p) Y.env) Q (λ_ _=>False) s:=by
 refine wpAny_noted ?_
 rw[O_];exact Oa<|Eu<|zi h (λ_ _ q=>q) λ_ _ q=>q.elim
def L5 {Y : Cx} {a p : Addr}  {Q : Fin -> Shared -> Prop} (h : wpAny (model X.prog X.w) X.A (pyNext (.ref a) >>= fun r => match r with
        |none=>pure<|.done .next
        |some v=>letOwnedTupleGo tg (.ref a) v >>= λ_=>assign tg Y.env v >>= λ_=>(isTrue c Y.env (eval c Y.env) >>= λok=>if ok=true then (eval elt Y.env >>= λx=>call (.builtin "list.append") [.ref p,x] >>= λ_=>again<|.compLoop (.ListComp elt [⟨tg,iter,[c],0⟩] scope pos) 0 (.ref a) (.ref p) Y.env)
          else again (.compLoop (.ListComp elt [⟨tg,iter,[c],0⟩] scope pos) 0 (.ref a) (.ref p) Y.env))) Q (λ_ _=>False) s) :
      wpAny (model X.prog X.w) (X.A.under<|.compLoop (.ListComp elt [⟨tg,iter,[c],0⟩] scope pos) 0 (.ref a) (.ref p) Y.env) ((model X.prog X.w).den<|.compLoop (.ListComp elt [⟨tg,iter,[c],0⟩] scope pos) 0 (.ref a) (.ref p) Y.env) Q (λ_ _=>False) s:=by
 refine wpAny_noted ?_
 rw[R'];exact Oa<|Eu<|zi h (λ_ _ q=>q) λ_ _ q=>q.elim
def QZ:TT:=λ_ H Q=>Q true H
def EC{Y:Cx}(o:Y.xe=λ_ _=>False)(he:PE Y elt te){g p:Addr}(c:vh)(H:Hp)(s:Shared)(i:f8)(vs:nw)(N:Do)(Q:Fin->u8)(I:za Y i c H s)
  (h:QZ c H λk l=>if k=true then te c l λy f=>f p=some (.lst vs)/\vs.length<sizeLine/\N (Ua f p<|.lst<|vs++[y]) (vs++[y]) else N l vs)
  (mono:∀(Q j:VK),(∀v d,Q v d->j v d)->te c H Q->te c H j)
  (q:∀e d m,za Y i c d e->N d m->Q (.again<|.compLoop (.ListComp elt [⟨tg,iter,[],0⟩] scope pos) 0 (.ref g) (.ref p) Y.env) e) :
  wpAny (model Y.prog Y.w) Y.A (eval elt Y.env >>= λx=>call (.builtin "list.append") [.ref p,x] >>= λ_=>again<|.compLoop (.ListComp elt [⟨tg,iter,[],0⟩] scope pos) 0 (.ref g) (.ref p) Y.env) Q (λ_ _=>False) s:=by
 exact qV he (by rw[o];exact λ_ _ z=>z) I<|mono _ _ (λy f ⟨a,b,n⟩=>⟨a,b,λe r=>vc<|q e _ _ r n⟩) h
end
section
variable{K:Frag} {st:xa}
def bIp(is:am):∀st:xa,(qf is st).length=st.length:=by
 induction is with
 |nil=>exact λ_=>rfl
 |cons i is a=>intro st;show (qf is _).length=_;rw[a,yg]
def Vv(is:am):∀(st:xa)(j:Nat)(x:Sl),(qf is st)[j]?=some (some x)->st[j]?=some (some x)/\j∉is:=by
 induction is with
 |nil=>exact λσ j v h=>⟨h,by simp⟩
 |cons i is b=>
  intro σ j v h;obtain⟨a,c⟩:=b _ j v h;rw[jd]at a
  by_cases e:i=j
  .subst e;rw[Ka rfl]at a;split at a<;>cases a
  rw[Ea e]at a;exact⟨a,λz=>(Pb.mp z).elim (λz=>e z.symm) c⟩
def XH(is:am):∀(a:vh)(j:Nat),j∉is->(bp is a)[j]?=a[j]?:=by
 induction is with
 |nil=>exact λa j _=>rfl
 |cons i is b=>
  intro a j h;show (bp is _)[j]?=_;rw[b _ j λz=>h<|Ab _ z,jd,Ea<|show ¬ i=j from λz=>h<|z ▸ zb]
theorem RS.qf(is:am)(r:RS K B A H st σ):RS K B A H (Pu.qf is st) (bp is σ) where
 len:=by rw[bIp,AX,r.len]
 own:=r.own
 Wf:=r.Wf
 val:=λi d e=>by
  obtain⟨e1,h⟩:=Vv is st i _ e;rw[XH is σ i h];exact r.val i d e1
 lst:=λi f xs e=>by
  obtain⟨e1,h⟩:=Vv is st i _ e;obtain⟨a,o,b,e2,m,k,c,q,u⟩:=r.lst i f xs e1;refine⟨a,o,b,by rwa [XH is σ i h],m,k,c,q,λj k' ys ej iE=>?_⟩
  obtain⟨l,g⟩:=Vv is st j _ ej;rw[XH is σ j g]at iE;exact u j k' ys l iE
def RS.weaken(r:RS K B A H st σ)(l:st'.length=st.length)(h:∀(j:Nat)(x:Sl),st'[j]?=some (some x)->st[j]?=some (some x)):RS K B A H st' σ where
 len:=l.trans r.len
 own:=r.own
 Wf:=r.Wf
 val:=λi d e=>r.val i d<|h i _ e
 lst:=λi f xs e=>by
  obtain⟨a,o,b,e2,m,n,c,q,u⟩:=r.lst i f xs<|h i _ e;exact⟨a,o,b,e2,m,n,c,q,λj g ys p k=>u j g ys (h j _ p) k⟩
def mem_mid{p b:Addr}:b∈A++p::B↔b=p\/b∈A++B:=by
 simp;constructor
 .rintro(h|h|h)
  .exact .inr (.inl h)
  .exact .inl h
  exact .inr<|.inr h
 rintro(h|h|h)
 .exact .inr (.inl h)
 .exact .inl h
 exact .inr<|.inr h
def BX{p:Addr} (d:H p=none):bF (hide (A++B) H) (hide (A++p::B)<|Ua H p o):=λb u q=>by
 have c:=bB _ _ _ _ q;have a:=aP c d
 rwa [bH<|(λz=>(mem_mid.mp z).elim a<|λz=>by rw[cP z]at q;cases q),bA a]
def RS.grow(r:RS K B A H st σ){p:Addr} (b:H p=none):RS K (p::B) A (Ua H p<|.lst vs) st σ where
 len:=r.len
 own:=λa c=>by
  by_cases e:a=p
  .subst e;rw[bG];rfl
  rw[bA e];exact r.own a<|(mem_mid.mp c).resolve_left e
 Wf:=λa c d=>by
  rcases Pb.mp d with rfl|d
  .exact r.own.free b (Ke _ c)
  exact r.Wf a c d
 val:=λj k e=>let ⟨u,e1,q⟩:=r.val j k e;⟨u,e1,q.mono<|BX b⟩
 lst:=λj h xs e=>by
  obtain⟨a,o,f,e1,m,i,g,q,u⟩:=r.lst j h xs e;exact⟨a,o,f,e1,m,by rwa [bA<|aP i b],g,q.mono<|BX b,u⟩
def RS.put{p:Addr}(r:RS K (p::B) A H st σ):RS K (p::B) A (Ua H p<|.lst vs) st σ:=by
 have c:hide _ (Ua H p<|.lst vs)=hide (A++p::B) H:=nY<|mem_mid.mpr<|.inl rfl;refine⟨r.len,λb hb=>?_,r.Wf,λj d e=>by rw[c];exact r.val j d e,λj kk xs e=>?_⟩
 .by_cases e:b=p
  .subst e;rw[bG];rfl
  rw[bA e];exact r.own b hb
 obtain⟨a,o,f,e1,m,h,g,q,u⟩:=r.lst j kk xs e;refine⟨a,o,f,e1,m,?_,g,by rwa [c],u⟩
 have:a≠p:=λz=>r.Wf a m<|z ▸ zb
 rwa [bA this]
end
def Em(is:am)(t:Tg):Prop:=∀d st a,t d st=.ok a->a.length=st.length/\∀(j:Nat),j∉is->a[j]?=st[j]?
def eu:Em [i] (Ya i):=λd st a h=>by
 cases h;refine⟨yg,λj hj=>?_⟩
 rw[jd,Ea λz=>hj (by simp[z])]
def S4{is:am}:Em is (uk is):=by
 have b:∀(is:am)(ds:im)(st a:xa),Dt is ds st=.ok a->a.length=st.length/\∀(j:Nat),j∉is->a[j]?=st[j]?:=by
  intro is
  induction is with
  |nil=>intro ds st a h;cases ds with|nil=>cases h;exact⟨rfl,λ_ _=>rfl⟩|cons _ _=>cases h
  |cons i is c=>
   intro ds st a h;cases ds with
   |nil=>cases h
   |cons d ds=>
    obtain⟨f,e⟩:=c ds _ a h;refine⟨by rw[f,yg],λj hj=>?_⟩
    rw[e j λz=>hj<|Ab _ z,jd,Ea<|show ¬ i=j from λz=>hj<|z ▸ zb]
 intro d st a h;cases d<;>first|(cases h)|exact b is _ st a h
noncomputable def UE:List Str->Bool
 |[]=>true
 |x::r=>!r.contains x&&UE r
theorem T4:∀{l:sB},UE l=true->l.Nodup
 |[],_=>.nil
 |x::r,h=>by
  unfold UE at h;simp only[and_eq_true]at h;exact aj.mpr ⟨λz=>by rw[List.contains_iff_mem.mpr z]at h;exact Bool.noConfusion h.1,T4 h.2⟩
noncomputable def M5(a:Scope)(b:List (Str×NameKind))(N:sB)(is:am):Bool:=
 a.kind == .function&&UE (a.names.map (·.1))&&a.names.all (λx=>x.2 !=.free||b.lookup x.1==some .cell||b.lookup x.1==some .free) &&
  (List.range N.length).all λi=>(a.names.lookup (N.getD i "") !=some .local&&a.names.lookup (N.getD i "") !=some .cell)||is.contains i
def Rb.of{is:am}(h:M5 scope X.env.scope.names X.N is=true):Rb X scope is:=by
 unfold M5 at h;simp only[and_eq_true,List.all_eq_true]at h;obtain⟨⟨⟨f,g⟩,d⟩,c⟩:=h;refine⟨by simpa using f,T4 g,λx hx hf=>?_,λi x e hl=>?_⟩
 .have:=d x hx;simp at this;rcases this with (z|z)|z
  .exact absurd hf z
  .exact .inl z
  exact .inr z
 have:=c i<|Ff.mpr<|(pe.mp e).1;rw[Xi,e]at this;simp at this;rcases this with ⟨b,a⟩|z
 .rcases hl with hl|hl
  .exact absurd hl b
  exact absurd hl a
 simpa using z
def bIq{K:Frag} (Q b:VK) (m:∀v a,Q v a->b v a) (h:tI K B f τ H Q):tI K B f τ H b:=
 let ⟨A,st,d,c,e,q⟩:=h;⟨A,st,d,c,e,λv a s r=>m v a<|q v a s r⟩
def Yu(K:Frag)(f:Ex):TE:=λτ H Q=>∃B,tI K B f τ H Q
def Z8(K:Frag)(f:Ex):TT:=λτ H Q=>∃B,tT K B f τ H Q
def YQ(K:Frag)(t:Tg):TG:=λv τ H Q=>∃B,tG K B t v τ H Q
def gx(h:∀B,PE X e<|tI X.K B f):PE X e (Yu X.K f):=λa s σ H Q I ⟨B,q⟩=>h B a s σ H Q I q
def N5(h:∀B,PT X e<|tT X.K B f):PT X e (Z8 X.K f):=λa s σ H Q I ⟨B,q⟩=>h B a s σ H Q I q
def ju{t:Tg}(h:∀B,PG X e<|tG X.K B t):PG X e (YQ X.K t):=λa s σ H v u Q I r ⟨B,q⟩=>h B a s σ H v u Q I r q
def Gv{K:Frag} (Q a:VK) (m:∀v b,Q v b->a v b) (h:Yu K f τ H Q):Yu K f τ H a:=let ⟨B,q⟩:=h;⟨B,bIq Q a m q⟩
theorem Jw{K:Frag} {is:am} {t:Tg} {c:Ex} {H:Hp} (hsub:Em is t)
  (E:∀o H Q,Z8 K c o H Q->tt o H Q) {st:xa} (N:RS K B A H st σ) (Z:it st=.ok xs) (hl:xs.length<=big) (hy:jC t c f (qf is st) xs=.ok ys) {Q:VK}
  (q:∀p vs H1 d,bF H H1->H1 p=none->bF H1 d->d p=some (.lst vs)->bI K (hide (A++p::B) d) ys vs->Q (.ref p) d):ZQ is (Ti K B it) (YQ K t) tt (Yu K f) σ H Q:=by
 refine⟨A,st,xs,N,Z,λJ H1 s1 Ky p hp=>⟨λi m o vs d=>m=xs.length-i/\i<=xs.length/\vs.length<=i/\d p=some (.lst vs)/\bF H1 d/\RS K _ A d _ o/\
   ∃ds rest,bI K (hide (A++p::B) d) ds vs/\jC t c f _ (xs.drop i)=.ok rest/\ds++rest=ys,⟨xs.length,rfl,He _,He _,bG,cI hp,((N.mono s1).qf is).grow hp,[],ys,.nil,by rwa [Nx],rfl⟩,?_⟩⟩
 rintro i m o vs d ⟨rfl,hi,BP,n,l,P,ds,rest,r,s,G⟩;refine⟨n,?_⟩;have O:∀a,a∈(p::A)++B↔a∈A++p::B:=λa=>by
  rw[mem_mid];exact Pb
 obtain⟨Y,X⟩:=Ky _ d (λb u z=>by
  have I:=bB _ _ _ _ z;rw[bH<|(λw=>(Pb.mp w).elim (aP I hp)<|λw=>by rw[cP w]at z;cases z)]
  exact l b u I) (λa F=>P.own a<|(O a).mp F) i
 by_cases h:i<xs.length
 .obtain⟨go,U⟩:=Y _<|md h;rw[Ln h]at s;obtain⟨C,T,h5⟩:=R.ja s;obtain⟨cb,ZN,h6⟩:=R.ja h5;obtain⟨k,rfl,S⟩:=qF h6;refine .inr ⟨go,λx H2 y=>?_⟩
  obtain⟨g,W⟩:=U x H2 y;have n:=g _ _ n;have l:=l.trans g;have r:=r.mono<|bF.hide g;obtain⟨M,V⟩:=hsub _ _ _ T;have back:∀(j:Nat)(z:Sl),(qf is st)[j]?=some (some z)->C[j]?=some _:=λj z ez=>by rwa [V j (Vv is st j z ez).2]
  refine⟨p::B,A,qf is st,xs[i],C,(P.mono g),(W.mono<|fC λa F=>(O a).mpr F),T,λvm ck=>E _ _ _ ⟨p::B,A,C,k,ck,ZN,λH3 s3=>?_⟩⟩
  cases k with
  |true=>
   obtain⟨L,D,h8⟩:=R.ja S;obtain⟨gm,Ji,h9⟩:=R.ja h8;cases h9;refine⟨p::B,A,C,L,ck.mono s3,D,λv H4 s4 r4=>⟨s4 _ _<|s3 _ _ n,?_,xs.length-(i+1),by lia,rfl,h,by rw[ef,Yi];lia,bG,?_,?_,ds++[L],gm,?_,Ji,by rwa [Zk]⟩⟩
   .have:sizeLine=16777216:=rfl;have hbg:=oH;lia
   .exact λb u z=>by rw[bA<|aP z hp];exact s4 _ _<|s3 _ _<|l b u z
   .exact(((ck.mono s3).mono s4).weaken (by rw[M]) back).put
   rw[nY<|mem_mid.mpr<|.inl rfl];exact(r.mono<|bF.hide<|s3.trans s4).append (.cons r4 .nil)
  |false=>exact⟨xs.length-(i+1),by lia,rfl,h,by lia,s3 _ _ n,l.trans s3,(ck.mono s3).weaken (by rw[M]) back,ds,rest,r.mono<|bF.hide s3,S,G⟩
 have e:i=xs.length:=by lia
 subst e;rw[aE]at s;cases s;rw[Hh]at G;subst G;exact .inl ⟨X<|Cb _,q p vs H1 d s1 hp l n r⟩
section
variable {iter c:Expr} {t:Tg} {u:Ex}
def U4{Y:Cx} (o:Y.xe=λ_ _=>False) (he:PE Y elt te) (A:PT Y c tt) {g p:Addr} (d:vh) (H:Hp) (s:Shared) (i:f8) (vs:nw) (N:Do) (Q:Fin->u8) (I:za Y i d H s)
  (h:tt d H λk u=>if k=true then te d u λy j=>j p=some (.lst vs)/\vs.length<sizeLine/\N (Ua j p<|.lst<|vs++[y]) (vs++[y]) else N u vs)
  (mono:∀H (Q r:VK),(∀v e,Q v e->r v e)->te d H Q->te d H r)
  (q:∀f e w,za Y i d e f->N e w->Q (.again<|.compLoop (.ListComp elt [⟨tg,iter,[c],0⟩] scope pos) 0 (.ref g) (.ref p) Y.env) f) :
  wpAny (model Y.prog Y.w) Y.A (isTrue c Y.env (eval c Y.env) >>= fun ok => if ok = true then (eval elt Y.env >>= fun x => call (.builtin "list.append") [.ref p, x] >>= fun _ => again<|.compLoop (.ListComp elt [⟨tg, iter, [c], 0⟩] scope pos) 0 (.ref g) (.ref p) Y.env)
        else again (.compLoop (.ListComp elt [⟨tg,iter,[c],0⟩] scope pos) 0 (.ref g) (.ref p) Y.env)) Q (λ_ _=>False) s:=by
 have m:=A i s d H _ I h;rw[o]at m;refine Oa<|Kb m λk s1 ⟨C,t,l⟩=>?_
 cases k with
 |true=>
  exact qV he (by rw[o];exact λ_ _ z=>z) t<|mono _ _ _ (λy j ⟨a,b,n⟩=>⟨a,b,λf B=>vc<|q f _ _ B n⟩) l
 |false=>
  exact vc<|q s1 C vs t l
def FK{Q:VK}{st:xa} {p:Addr} {b:Hp} (d:RS X.K B A H st σ) (q:∀v b,bF H b->jb X.K (hide (A++B) b) (.lst ys) v->Q v b) (c:bF H H1) (e:H1 p=none) (s2:bF H1 b)
  (g:b p=some (.lst vs)) (r:bI X.K (hide (A++p::B) b) ys vs):Q (.ref p) b:=
 q _ b (c.trans s2) (fJ.mpr ⟨p,vs,rfl,(by rwa [bH<|(d.own.mono c).free e]),r.mono<|fC λa f=>mem_mid.mpr<|.inr f⟩)
def qU{is:am}(hi:L2.PI X tg iter (Ti X.K B it))(F:∀(B:db)(C:Addr)(c:Shared)(b:Hp)(a:db),PG (fG X scope C c b a) tg<|tG X.K B t)
  (he:∀(B:db)(C:Addr)(c:Shared)(b:Hp)(a:db),PE (fG X scope C c b a) elt<|tI X.K B f) (J:X.calm=true:=by rfl) (hsub:Em is t:=by exact eu) (S:Rb X scope is:=by exact .of rfl) (hs:∀x,foldedSetIterable iter X.env x=pure x:=by intro _;rfl) :
  PE X (.ListComp elt [⟨tg,iter,[],0⟩] scope pos) (tI X.K B<|cL is t it dG f):=by
 intro n s σ H Q I h;obtain⟨A,st,d,g,G,q⟩:=h;obtain⟨xs,y,O⟩:=R.ja G;obtain⟨E,M⟩:=aH O;obtain⟨ys,w,L⟩:=R.ja M;cases L;refine uO (rest:=λe it p=>eval elt e >>= λx=>call _ [p,x] >>= λ_=>again<|.compLoop _ 0 it p e) S J hi (λC c b a=>ju λB=>F B C c b a) (λ_ _ _=>qT)
  (λC c b a it p s Q h=>QC h) (λC c b a it p τ H s n l N Q I h q=>EC rfl (gx λB=>he B C c b a) τ H s n l N Q I h (λQ P m h=>Gv Q P m h) q) hs I
  (Jw hsub (λτ H Q ⟨B,A,st,k,g,hk,q⟩=>?_) g y E w λp l H1 H' s1 D o z r=>FK g q s1 D o z r) λC p W Y v Z H3 a τ K U j T V u=>⟨v,V,λh' i=>⟨.ref p,W,Uv U j K T i,rfl,u⟩⟩
 cases hk;exact q H<|bF.refl _
def iQ{is:am}(hi:L2.PI X tg iter (Ti X.K B it))(J:∀(B:db)(C:Addr)(g:Shared)(e:Hp)(a:db),PG (fG X scope C g e a) tg<|tG X.K B t)
  (E:∀(B:db)(C:Addr)(g:Shared)(e:Hp)(a:db),PT (fG X scope C g e a) c<|tT X.K B u)
  (he:∀(B:db)(C:Addr)(g:Shared)(e:Hp)(a:db),PE (fG X scope C g e a) elt<|tI X.K B f) (L:X.calm=true:=by rfl) (hsub:Em is t:=by exact eu) (S:Rb X scope is:=by exact .of rfl) (hs:∀x,foldedSetIterable iter X.env x=pure x:=by intro _;rfl) :
  PE X (.ListComp elt [⟨tg,iter,[c],0⟩] scope pos) (tI X.K B<|cL is t it u f):=by
 intro n s σ H Q I h;obtain⟨A,st,d,l,K,q⟩:=h;obtain⟨xs,z,T⟩:=R.ja K;obtain⟨G,P⟩:=aH T;obtain⟨ys,y,O⟩:=R.ja P;cases O;exact uO (te:=Yu X.K f) (rest:=λb it p=>isTrue c b (eval c b) >>= λok=>if ok=true then (eval elt b >>= λx=>call _ [p,x] >>= λ_=>again<|.compLoop _ 0 it p b) else again (.compLoop _ 0 it p b)) S L hi (λC g e a=>ju λB=>J B C g e a) (λ_ _ _=>qT)
  (λC g e a it p s Q h=>L5 h) (λC g e a it p τ H s n k N Q I h q=>U4 rfl (gx λB=>he B C g e a) (N5 λB=>E B C g e a) τ H s n k N Q I h (λ_ Q U m h=>Gv Q U m h) q) hs I
  (Jw hsub (λτ H Q h=>h) l z G y λp k H1 H' s1 F o D r=>FK l q s1 F o D r) λC p Z s5 w s3 H3 a τ M W j V Y v=>⟨w,Y,λh' i=>⟨.ref p,Z,Uv W j M V i,rfl,v⟩⟩
end
end Pu
namespace Pu
open PySem PySem.Spec PyProof.Rows L2 PySem.SeqAt
section
variable{X:Cx}{ba:f8}{σ:vh}{H:Hp}{s:Shared}
def RZ(I:za X ba σ H s){a:Addr}{xs ys:nw}(f:Dc X.K H a xs)(d:pf X.K H a ys):False:=by
 obtain⟨i,_,⟨o,n,e,c,_⟩,_⟩:=I.list f;obtain⟨h,_,⟨g,e2,b,_⟩,_⟩:=I.tuple d;rw[e]at e2;cases e2;rw[c]at b;simp at b
mutual
theorem jb.inj(I:za X ba σ H s):∀{x y:D}{v:V},plain x=true->plain y=true->jb X.K H x v->jb X.K H y v->x=y
 |x,y,v,m,l,h,b=>by
  cases x<;>first|(simp at m;done)|skip
  all_goals cases y<;>first|(simp at l)|skip
  case tup.tup=>
   obtain⟨a,j,e,c,g⟩:=iY h;obtain⟨n,k,d,f,i⟩:=iY b;subst e;cases d;cases I.yf c f;rw[bI.inj I (by simpa using m) (by simpa using l) g i]
  case lst.lst=>
   obtain⟨a,j,e,c,g⟩:=fJ.mp h;obtain⟨n,k,d,f,i⟩:=fJ.mp b;subst e;cases d;cases I.lg c f;rw[bI.inj I (by simpa using m) (by simpa using l) g i]
  case tup.lst=>
   obtain⟨a,j,e,c,g⟩:=iY h;obtain⟨n,k,d,f,i⟩:=fJ.mp b;subst e;cases d;exact(RZ I f c).elim
  case lst.tup=>
   obtain⟨a,j,e,c,g⟩:=fJ.mp h;obtain⟨n,k,d,f,i⟩:=iY b;subst e;cases d;exact(RZ I c f).elim
  all_goals first|(obtain⟨_,_,b,_⟩:=b;subst b;cases h)|(obtain⟨_,_,h,_⟩:=h;subst h;cases b)|(subst h;cases b;first|rfl|done)|(subst h)
theorem bI.inj(I:za X ba σ H s):∀{xs ys:im}{vs:nw},eO xs=true->eO ys=true->bI X.K H xs vs->bI X.K H ys vs->xs=ys
 |[],ys,vs,c,b,h,a=>by
  have e:=cU.mp h;subst e;cases ys with
  |nil=>rfl
  |cons y ys=>obtain⟨_,_,a,_⟩:=bN.mp a;cases a
 |x::xs,ys,vs,c,b,h,a=>by
  obtain⟨v,r,e,g,f⟩:=bN.mp h;subst e;cases ys with
  |nil=>exact nomatch cU.mp a
  |cons y ys=>
   obtain⟨k,l,i,j,d⟩:=bN.mp a;cases i;simp at c b;rw[jb.inj I c.1 b.1 g j,bI.inj I c.2 b.2 f d]
end
mutual
theorem DX:∀x:D,plain x=true->qd x x=true
 |.Bb,_=>rfl
 |.bl b,_=>by simp
 |.int i,_=>by simp
 |.str x,_=>by simp
 |.tup x,h=>by exact ZG x (by simpa using h)
 |.lst x,h=>ZG x (by simpa using h)
 |.Hd _ _ _,h=>by simp at h
 |.ins _ _ _,h=>by simp at h
 |.Bi _ _ _,h=>by simp at h
 |.fn _,h=>by simp at h
theorem ZG:∀x:im,eO x=true->nM x x=true
 |[],_=>rfl
 |a::x,h=>by
  simp at h;unfold nM;rw[DX a h.1,ZG x h.2];rfl
end
def pairE(xs ys:im)(j:Nat):Bool:=qd (xs.getD j .Bb)<|ys.getD j .Bb
theorem xA:∀xs ys:im,((List.range<|min xs.length ys.length).all (pairE xs ys)&&xs.length==ys.length)=nM xs ys
 |[],[]=>rfl
 |[],_::_=>rfl
 |_::_,[]=>rfl
 |x::xs,y::ys=>by
  have e:nM (x::xs) (y::ys)=(qd x y&&nM xs ys):=by conv=>lhs;unfold nM
  rw[e,<-(xA xs ys)];have a:min (x::xs).length (y::ys).length=min xs.length ys.length+1:=by simp only[length_cons];omega
  rw[a,U6,all_cons,List.all_map];have e1:pairE (x::xs) (y::ys) 0=qd x y:=rfl;have e2:(pairE (x::xs) (y::ys) ∘ Nat.succ)=pairE xs ys:=rfl;rw[e1,e2,Bool.and_assoc];simp
def ć(h:xs.length≠ys.length):nM xs ys=false:=by
 rw[<-xA];simp[h]
inductive Vw (X:Cx) (H:Hp) (s:Shared):D->Value->Prop
 |Bb:Vw X H s .Bb .none
 |bl (b:Bool):Vw X H s (.bl b) (.bool b)
 |int (i:Int) (t:Tok):Vw X H s (.int i) (.int i t)
 |str (x:am) (t:Tok):Vw X H s (.str x) (.str ⟨x.toArray⟩ t)
 |tup {x:im} {ws:nw} {Ia:jp} {l:Addr} (hq:s.heap.IsTuple l Ia.toArray) (hr:bI X.K H x ws) (hv:Ha ws Ia):Vw X H s (.tup x) (.ref l)
 |lst {x:im} {ws:nw} {Ia:jp} {l:Addr} (hq:s.heap.IsList l Ia.toArray) (hr:bI X.K H x ws) (hv:Ha ws Ia):Vw X H s (.lst x) (.ref l)
def Vw.of(I:za X ba σ H s){x:D} {a:Value} (h:jb X.K H x v) (r:RelV v a) (p:plain x=true):Vw X H s x a:=by
 cases x with
 |Bb=>have e:=oE.mp h;subst e;subst r;exact .Bb
 |bl b=>have e:=cY.mp h;subst e;subst r;exact .bl b
 |int i=>have e:=bJ.mp h;subst e;obtain⟨t,e⟩:∃t,a=Value.int i t:=r;subst e;exact .int i t
 |str x=>have e:=dI.mp h;subst e;obtain⟨t,e⟩:∃t,a=Value.str _ t:=r;subst e;exact .str x t
 |tup x=>obtain⟨l,j,e,g,f⟩:=iY h;subst e;have e:=r;subst e;obtain⟨k,c,d,_⟩:=I.tuple g;exact .tup d f c
 |lst x=>obtain⟨l,j,e,g,f⟩:=fJ.mp h;subst e;subst r;obtain⟨k,c,d,_⟩:=I.list g;exact .lst d.isList f c
 |_=>simp at p
def bIr{A:Around}{x:D}{a b:Value}{k:Bool}(g:Vw X H s x a)(f:Vw X H s y b)(h:RcAt A s a b k)(hs:a=b->k=true):EqAt A s a b k:=λc w E Q d=>by
 refine Oj<|wpAny_ite_split (λe=>?_) λ_=>?_
 .rw[hs<|eq_of_beq e]at d;exact Oa<|Bk<|vc d
 cases g<;>cases f<;>exact Oa<|h c w E _<|Qq d
def bEm{u:V}{a:Value}(h:RelV v a)(b:RelV u a):v=u:=by
 cases v<;>(first|subst h|(obtain⟨_,h⟩:=h;subst h)) <;> cases u<;>first|(cases b;done)|(cases b;rfl)|(obtain⟨_,b⟩:=b;cases b;done)|(obtain⟨_,b⟩:=b;cases b;rfl)
def EX(x y:am):qd (.str x) (.str y)=((⟨x.toArray⟩:Str)==⟨y.toArray⟩):=by rw[<-str_beq];simp
def bQd{A:Around}{a b:Value}{k c:Bool}(h:RcAt A s a b k)(e:k=c):RcAt A s a b c:=e ▸ h
def bQe{A:Around}{a b:Value}{k c:Bool}(h:RcNeAt A s a b k)(e:k=c):RcNeAt A s a b c:=e ▸ h
def FX(I:za X ba σ H s){x:D}{A:Around}{u:V}{a b:Value}(i:jb X.K H x v)(g:jb X.K H y u)(f:RelV v a)(d:RelV u b)(j:plain x=true)(c:plain y=true)(h:RcAt A s a b (qd x y)):EqAt A s a b (qd x y):=
 bIr (Vw.of I i f j) (Vw.of I g d c) h λe=>by rw[jb.inj I j c i<|bEm (e ▸ f) d ▸ g];exact DX y c
mutual
theorem JB(I:za X ba σ H s)(x y:D)(A:Around)(v u:V)(a b:Value)(n:jb X.K H x v)(m:jb X.K H y u)(l:RelV v a)(k:RelV u b)(r:A.units+Me x<cLine)(i:plain x=true)(h:plain y=true):RcAt A s a b (qd x y)/\RcNeAt A s a b (!qd x y):=by
 have c:=Nat.lt_of_le_of_lt (il _ _) r;have p:=Vw.of I n l i;have o:=Vw.of I m k h;clear n m l k;cases p<;>cases o
 case tup.tup x _ i1 _ hq hr hv y _ i2 _ Td fg Mi=>
  have t:Me (.tup x)=kY x+1:=by conv=>lhs;unfold Me
  have:=kH I x y A.in1 _ _ _ _ hr fg hv Mi (by lia) (by simpa using i) (by simpa using h)
  have e:qd (.tup x) (.tup y)=nM x y:=by conv=>lhs;unfold qd
  rw[e,<-xA,<-hr.length,<-fg.length,hv.length,Mi.length,<-cf,<-cf];exact⟨RcAt.tuples hq Td c λj f d=>by simpa using this j (by simpa using f) (by simpa using d),RcNeAt.tuples hq Td c λj f d=>by simpa using this j (by simpa using f) (by simpa using d)⟩
 case lst.lst x _ i1 _ hq hr hv y _ i2 _ Td fg Mi=>
  have t:Me (.lst x)=kY x+1:=by conv=>lhs;unfold Me
  have:=kH I x y A.in1 _ _ _ _ hr fg hv Mi (by lia) (by simpa using i) (by simpa using h)
  have e:qd (.lst x) (.lst y)=nM x y:=by conv=>lhs;unfold qd
  have q:i1.length=x.length:=by rw[<-hv.length,hr.length]
  have w:i2.length=y.length:=by rw[<-Mi.length,fg.length]
  rw[e]
  by_cases g:i1.length=i2.length
  .rw[show nM x y=(List.range i1.toArray.size).all (pairE x y) by rw[<-xA,cf,q];simp[show x.length=y.length by lia]]
   exact⟨RcAt.lists hq Td (by simpa using g) c λj f d=>by simpa using this j _ _,RcNeAt.lists hq Td (by simpa using g) c λj f d=>by simpa using this j (by simpa using f) (by simpa using d)⟩
  rw[ć (by lia)]
  exact⟨RcAt.lists_lengths hq Td (by simpa using g) c,RcNeAt.lists_lengths hq Td (by simpa using g) c⟩
 all_goals
  constructor
  .apply bQd
   .with_reducible first|exact RcAt.none_none|exact RcAt.none_bool _|exact RcAt.none_int _ _|exact RcAt.none_str _ _|exact RcAt.none_tuple ‹_› c|exact RcAt.none_list ‹_› c|exact RcAt.bool_none _|exact RcAt.bool_bool _ _|exact RcAt.bool_int _ _ _|exact RcAt.bool_str _ _ _|exact RcAt.bool_tuple _ ‹_› c|exact RcAt.bool_list _ ‹_› c|exact RcAt.int_none _ _|exact RcAt.int_bool _ _ _|exact RcAt.int_int _ _ _ _|exact RcAt.int_str _ _ _ _|exact RcAt.int_tuple _ _ ‹_› c|exact RcAt.int_list _ _ ‹_› c|exact RcAt.str_none _ _|exact RcAt.str_bool _ _ _|exact RcAt.str_int _ _ _ _|exact RcAt.str_str _ _ _ _|exact RcAt.str_tuple _ _ ‹_› c|exact RcAt.str_list _ _ ‹_› c|exact RcAt.tuple_none ‹_› c|exact RcAt.tuple_bool _ ‹_› c|exact RcAt.tuple_int _ _ ‹_› c|exact RcAt.tuple_str _ _ ‹_› c|exact RcAt.tuple_list ‹_› ‹_› c|exact RcAt.list_none ‹_› c|exact RcAt.list_bool _ ‹_› c|exact RcAt.list_int _ _ ‹_› c|exact RcAt.list_str _ _ ‹_› c|exact RcAt.list_tuple ‹_› ‹_› c
   first|exact(EX _ _).symm|(unfold qd;rfl)
  apply bQe
  .with_reducible first|exact RcNeAt.none_none|exact RcNeAt.none_bool _|exact RcNeAt.none_int _ _|exact RcNeAt.none_str _ _|exact RcNeAt.none_tuple ‹_› c|exact RcNeAt.none_list ‹_› c|exact RcNeAt.bool_none _|exact RcNeAt.bool_bool _ _|exact RcNeAt.bool_int _ _ _|exact RcNeAt.bool_str _ _ _|exact RcNeAt.bool_tuple _ ‹_› c|exact RcNeAt.bool_list _ ‹_› c|exact RcNeAt.int_none _ _|exact RcNeAt.int_bool _ _ _|exact RcNeAt.int_int _ _ _ _|exact RcNeAt.int_str _ _ _ _|exact RcNeAt.int_tuple _ _ ‹_› c|exact RcNeAt.int_list _ _ ‹_› c|exact RcNeAt.str_none _ _|exact RcNeAt.str_bool _ _ _|exact RcNeAt.str_int _ _ _ _|exact RcNeAt.str_str _ _ _ _|exact RcNeAt.str_tuple _ _ ‹_› c|exact RcNeAt.str_list _ _ ‹_› c|exact RcNeAt.tuple_none ‹_› c|exact RcNeAt.tuple_bool _ ‹_› c|exact RcNeAt.tuple_int _ _ ‹_› c|exact RcNeAt.tuple_str _ _ ‹_› c|exact RcNeAt.tuple_list ‹_› ‹_› c|exact RcNeAt.list_none ‹_› c|exact RcNeAt.list_bool _ ‹_› c|exact RcNeAt.list_int _ _ ‹_› c|exact RcNeAt.list_str _ _ ‹_› c|exact RcNeAt.list_tuple ‹_› ‹_› c
  first|exact congrArg _ (EX _ _).symm|(rfl)
theorem kH(I:za X ba σ H s):∀(xs ys:im)(A:Around)(vs g:nw)(f bs:jp),bI X.K H xs vs->bI X.K H ys g->Ha vs f->Ha g bs->A.units+kY xs<cLine->eO xs=true->eO ys=true->∀(j:Nat)(l:j<f.length)(k:j<bs.length),EqAt A s f[j] bs[j] (pairE xs ys j)
 |[],_,A,vs,g,f,bs,i,h,b,a,o,d,c,j,l,k=>by
  have e:=cU.mp i;subst e;cases b;exact absurd l<|tN _
 |x::xs,[],A,vs,g,f,bs,i,h,b,a,o,d,c,j,l,k=>by
  have e:=cU.mp h;subst e;cases a;exact absurd k<|tN _
 |x::xs,y::ys,A,vs,g,f,bs,i,h,b,a,o,d,c,j,l,k=>by
  obtain⟨v,r,e,q,z⟩:=bN.mp i;subst e;obtain⟨u,t,e,p,w⟩:=bN.mp h;subst e;have B:kY (x::xs)=max (Me x) (kY xs):=by conv=>lhs;unfold kY
  rw[B]at o;simp at d c;cases b with
  |cons b n=>
   cases a with
   |cons a m=>
    cases j with
    |zero=>exact FX I q p b a d.1 c.1 (JB I x y A v u _ _ q p b a (by lia) d.1 c.1).1
    |succ j=>exact kH I xs ys A r t _ _ z w n m (by lia) d.2 c.2 j _ _
end
def bEn(I:za X ba σ H s)(x y:D)(A:Around)(v u:V)(a b:Value)(f:jb X.K H x v)(e:jb X.K H y u)(d:RelV v a)(c:RelV u b)(i:A.units+Me x<cLine)(h:plain x=true)(g:plain y=true):EqAt A s a b (qd x y):=
 FX I f e d c h g (JB I x y A v u _ _ f e d c i h g).1
def bEo(I:za X ba σ H s)(x y:D)(A:Around)(v u:V)(a b:Value)(f:jb X.K H x v)(e:jb X.K H y u)(d:RelV v a)(c:RelV u b)(i:A.units+Me x<cLine)(h:plain x=true)(g:plain y=true):RcAt A s a b (qd x y):=(JB I x y A v u a b f e d c i h g).1
def bEp(I:za X ba σ H s)(x y:D)(A:Around)(v u:V)(a b:Value)(f:jb X.K H x v)(e:jb X.K H y u)(d:RelV v a)(c:RelV u b)(i:A.units+Me x<cLine)(h:plain x=true)(g:plain y=true):RcNeAt A s a b (!qd x y):=(JB I x y A v u a b f e d c i h g).2
end
end Pu
namespace Pu
open PySem PySem.Spec PyProof.Rows L2
section
variable{X:Cx}{B:db}{a b e:Expr}{f g:Ex}{pos:Pos}
theorem lF.rep{K:Frag}{A:db}{H:Hp}{d:D}{v:V}(h:lF K A H d v):jb K H d v:=by
 rcases h with h|⟨a,k,o,ds,e,e1,e2,c,b,q⟩
 .exact h.mono (bB _ _)
 subst e1 e2;exact b.rep c<|q.mono<|bB _ _
def RC(K:Frag)(a:Bool):R2:=λv u H Q=>∃x y,jb K H x v/\jb K H y u/\(Me x<=64/\plain x=true/\plain y=true)/\Q (.bl<|if a then !qd x y else qd x y) H
theorem cZ(i:X.A.units+64<cLine:=by exact gb.units<|by assumption):Zd X (compareOp .Eq) (RC X.K false):=by
 intro j s σ H v u a b Q I g f h;obtain⟨x,y,e,d,c,q⟩:=h;exact bEo I x y X.A v u a b e d g f (by lia) c.2.1 c.2.2 X.prog X.w X.xe _ ⟨.bl _,H,I,rfl,q⟩
theorem gF(i:X.A.units+64<cLine:=by exact gb.units<|by assumption):Zd X (compareOp .NotEq) (RC X.K true):=by
 intro j s σ H v u a b Q I g f h;obtain⟨x,y,e,d,c,q⟩:=h;exact bEp I x y X.A v u a b e d g f (by lia) c.2.1 c.2.2 X.prog X.w X.xe _ ⟨.bl _,H,I,rfl,q⟩
def dB{K:Frag}:fi K (RC K false) wc:=by
 intro A H x y d v u Q w b a e q;obtain⟨c,e⟩:=aH e;cases e;exact⟨x,y,b.rep,a.rep,c,q _ H (bF.refl _)<|cY.mpr rfl⟩
def gG{K:Frag}:fi K (RC K true) Xd:=by
 intro A H x y d v u Q w b a e q;obtain⟨c,e⟩:=aH e;cases e;exact⟨x,y,b.rep,a.rep,c,q _ H (bF.refl _)<|cY.mpr rfl⟩
noncomputable def tyD:D->String
 |.Bb=>"NoneType"
 |.bl _=>"bool"
 |.int _=>"int"
 |.str _=>"str"
 |.tup _=>"tuple"
 |.lst _=>"list"
 |.Hd _ _ _=>"dict"
 |.ins _ _ _=>""
 |.Bi _ _ _=>""
 |.fn _=>""
structure IsT(T:String)(p:xz):Prop where
 boot:bootBuiltins T=some (.type T)
 Ő:∀(K:Frag)(d:D),Xo d=true->PySem.W.kitOne K (.type<|tyD d) (.type T)=some (p d)
def bEq{T:String}{p:xz}(h:IsT T p):nJ X (.builtin "isinstance") (λxs H Q=>∃v d,xs=[v,.ty T]/\Xo d=true/\jb X.K H d v/\Q (.bl<|p d) H):=by
 intro C s σ H xs G Q I r q;obtain⟨v,d,rfl,k,i,q⟩:=q;obtain⟨u,J,rfl,g,D⟩:=r.two;subst D;have a:∀w,EP X C σ Q _ {s with toks:=w}:=λw=>⟨.bl<|p d,H,I.tok w,rfl,q⟩
 have e:=h.Ő X.K d k;cases d with
 |Bb=>have z:=oE.mp i;subst z;have z:=g;subst z;exact kia_one PySem.W.kitx_none I.Fg True.intro e (λz=>nomatch z) a
 |bl x=>have z:=cY.mp i;subst z;have z:=g;subst z;exact kia_one PySem.W.kitx_bool I.Fg True.intro e (λz=>nomatch z) a
 |int x=>have z:=bJ.mp i;subst z;obtain⟨t,z⟩:∃t,u=Value.int x t:=g;subst z;exact kia_one PySem.W.kitx_int I.Fg True.intro e (λz=>nomatch z) a
 |str x=>have z:=dI.mp i;subst z;obtain⟨t,z⟩:∃t,u=Value.str _ t:=g;subst z;exact kia_one PySem.W.kitx_str I.Fg True.intro e (λz=>nomatch z) a
 |tup x=>
  obtain⟨l,j,z,b,_⟩:=iY i;subst z;have z:=g;subst z;obtain⟨E,_,⟨o,f,c,_⟩,_⟩:=I.tuple b;exact kia_one PySem.W.kitx_tuple I.Fg ⟨o,f,c⟩ e (λz=>nomatch z) a
 |lst x=>
  obtain⟨l,j,z,b,_⟩:=fJ.mp i;subst z;have z:=g;subst z;obtain⟨E,_,⟨o,n,f,c,_⟩,_⟩:=I.list b;exact kia_one PySem.W.kitx_list I.Fg ⟨o,f,c⟩ e (λz=>nomatch z) a
 |Hd t K x=>
  obtain⟨l,j,z,b,_⟩:=oF.mp i;subst z;have z:=g;subst z;have A:∃o,s.heap.get? l=some o/\o.ExactDict:=by
   rcases b with ⟨_,y,b,_⟩|⟨_,y,b,_⟩
   .obtain⟨_,_,F,_,m⟩:y.length<=sizeLine/\(l==sysModules)=false/\∃j,KV y j/\s.heap.DictOf _ l j:=I.Xa l _ b;obtain⟨o,B,n,f,c,_⟩:=m;exact⟨o,f,c⟩
   obtain⟨_,_,xs,_,o,B,L,f,c,_⟩:=I.Xa l _ b;exact⟨o,f,c⟩
  obtain⟨o,f,c⟩:=A;exact kia_one PySem.W.kitx_dict I.Fg ⟨o,f,c.1⟩ e (λz=>nomatch z) a
 |ins _ _ _=>exact nomatch k
 |Bi _ _ _=>exact nomatch k
 |fn _=>exact nomatch k
def iR{T:Str}{S:String}{p:xz} (j:IsT S p) (n:X.mg "isinstance"=none) (c:X.mg T=none) (s:PE X a (tP X.K B f)) (h:bootBuiltins T=some (.type S):=by first|rfl|exact j.boot) (o:Gl X "isinstance":=by rfl) (e:Gl X T:=by rfl) (b:T≠"__name__":=by decide) (y:Yd T:=by decide)
  (hs:starEach [a,.Name T p1] X.env=(false,eval a X.env)::starEach [.Name T p1] X.env:=by rfl) (w:starEach [.Name T p1] X.env=(false,eval (.Name T p1) X.env)::starEach [] X.env:=by rfl) :
  PE X (.Call (.Name "isinstance" p0) [a,.Name T p1] [] pos) (tI X.K B<|eB p f):=by
 have g:PE X (.Name T p1) (tC<|.ty S):=bG7 e c h rfl b y;refine cD (pG (bEq j) o n boot_isinstance (cF s (cF g eV w) hs) (he:=hs)) ?_
 rintro σ H Q ⟨A,st,d,k,r,q⟩;obtain⟨x,m,i⟩:=R.ja r;obtain⟨t,i⟩:=aH i;cases i;exact⟨A,st,x,k,m,λv u s1 l=>⟨v,x,rfl,t,l.rep,q _ u s1<|cY.mpr rfl⟩⟩
def ty_str:IsT "str" Ww:=⟨rfl,λK d a=>by cases d<;>first|(cases a;done)|kernel_rfl⟩
def ty_bool:IsT "bool" MC:=⟨rfl,λK d a=>by cases d<;>first|(cases a;done)|kernel_rfl⟩
def ty_int:IsT "int" isIn:=⟨rfl,λK d a=>by cases d<;>first|(cases a;done)|kernel_rfl⟩
def ty_tuple:IsT "tuple" NC:=⟨rfl,λK d a=>by cases d<;>first|(cases a;done)|kernel_rfl⟩
def ty_list:IsT "list" Cn:=⟨rfl,λK d a=>by cases d<;>first|(cases a;done)|kernel_rfl⟩
end
end Pu
namespace Pu
open PySem PySem.Spec PyProof.Rows L2 PySem.SeqAt PySem.StrLaws
def Ĉ(x y:am)(i:Nat):Builtin.Str.subAt ⟨x.toArray⟩ ⟨y.toArray⟩ i=((x.drop i).take y.length==y):=by
 rw[subAt_eq];simp[Str.length]
theorem GX(s sub:Str)(hi:Nat):∀(l:am)(st:Array Nat×Nat),1<=st.1.size->(forIn l st<|occBody s sub hi 1).run.fst=st.1
 |[],st,h=>rfl
 |a::l,st,h=>by
  rw[forIn_cons];unfold occBody;rw[Ea (λz=>by lia)]
  exact GX s sub hi l (st.1,st.2) h
theorem HX(s sub:Str)(hi:Nat):∀(l:am)(free:Nat),(∀i∈l,free<=i)->
  (forIn l ((#[]:Array Nat),free)<|occBody s sub hi 1).run.fst.toList=(l.find? λi=>decide (i+sub.length<=hi)&&Builtin.Str.subAt s sub i).toList
 |[],free,_=>rfl
 |a::l,free,d=>by
  rw[forIn_cons]
  by_cases b:a+sub.length<=hi/\Builtin.Str.subAt s sub a=true
  .rw[T6 (p:=λi=>decide _&&Builtin.Str.subAt s sub i) (by rw[b.2,Cc b.1];rfl)]
   have e2:occBody s sub hi 1 a ((#[]),free)=pure (ForInStep.yield ((#[]).push a,a+sub.length)):=by
    exact Ka ⟨⟨⟨by simp,(d a zb)⟩,b.1⟩,b.2⟩
   rw[e2];show (forIn l (((#[]).push a),a+sub.length)<|occBody s sub hi 1).run.fst.toList=_;rw[GX s sub hi l _ (by simp)]
   rfl
  rw[sM (p:=λi=>decide _&&Builtin.Str.subAt s sub i)<|λz=>b<|by simpa using z]
  have e2:occBody s sub hi 1 a ((#[]),free)=pure (ForInStep.yield ((#[]),free)):=by
   exact Ea λh=>b ⟨h.1.2,h.2⟩
  rw[e2];exact HX s sub hi l free λi c=>d i<|Ab _ c
theorem Tz(x y:am)(lo:Nat):Builtin.Str.occurrences ⟨x.toArray⟩ ⟨y.toArray⟩ lo (⟨x.toArray⟩:Str).length 1=(nO x y lo).toList:=by
 rw[occ_eq,HX _ _ _ _ _ (λi a=>by simp at a;lia)]
 unfold nO;simp[Ĉ,str_len]
def bIt(x y:am):Txt.find ⟨x.toArray⟩ ⟨y.toArray⟩=Co (nO x y 0):=by
 unfold Txt.find;rw[Tz];cases nO x y 0<;>rfl
theorem bEr(x y:am)(i:Int)(h:0<=i):Txt.find3 ⟨x.toArray⟩ ⟨y.toArray⟩ i=Co (nO x y i.toNat):=by
 have e:fromIndex (⟨x.toArray⟩:Str).length i=i.toNat:=by unfold fromIndex;rw[Ea (by lia)];lia
 unfold Txt.find3;rw[e,Tz];cases nO x y i.toNat<;>rfl
theorem vG{b:Type}(p:b->Bool):∀x:List b,x.drop (x.takeWhile p).length=x.dropWhile p
 |[]=>rfl
 |a::x=>by
  cases h:p a with
  |true=>rw[o6 h,n6 h,ie,List.drop_succ_cons,vG p x]
  |false=>rw[List.takeWhile_cons_of_neg (by simp[h]),List.dropWhile_cons_of_neg (by simp[h])];rfl
def mS(p:α->Bool)(x:List α):(x.takeWhile p).length+(x.dropWhile p).length=x.length:=by
 rw[<-ef,b6]
theorem bEs(x y:am):Txt.stripChars ⟨x.toArray⟩ ⟨y.toArray⟩=⟨(yK x y).toArray⟩:=by
 have d:y.toArray.contains=λc=>y.contains c:=by funext c;simp
 have a:Builtin.Str.strSub ⟨x.toArray⟩ (stripLo y.toArray.contains true ⟨x.toArray⟩) (stripHi y.toArray.contains true ⟨x.toArray⟩<|stripLo y.toArray.contains true ⟨x.toArray⟩)=⟨(yK x y).toArray⟩:=by
  unfold stripLo stripHi;rw[d];unfold yK;generalize g:(λc=>y.contains c)=q
  have f:=mS q x;have b:=mS q (x.dropWhile q).reverse;rw[List.length_reverse]at b;unfold Builtin.Str.strSub;simp only[str_len];simp;rw[vG];have e:((x.dropWhile q).reverse.dropWhile q).reverse=(x.dropWhile q).take ((x.dropWhile q).length-((x.dropWhile q).reverse.takeWhile q).length):=by
   rw[((vG q _).symm),List.drop_reverse,List.reverse_reverse]
  rw[e];congr 1;lia
 unfold Txt.stripChars Txt.stripBy
 by_cases h:stripSame y.toArray.contains true true ⟨x.toArray⟩=true
 .rw[Ka h];unfold stripSame at h;rw[Lm,Ih,Ih]at h;rw[h.2,h.1]at a;rw[<-a];unfold Builtin.Str.strSub;simp[str_len]
 rwa [Ea h]
section
variable {o:Expr}
def TC{id:String}{m:zo}{r:yd} {q:o0} (a:Slot "str" name id) (G:typeOf (.builtin id)=pure (.type "method_descriptor")) (u:Hj X id q)
  (y:∀x xs d,m x xs=.ok d->∃s,x=.str s) (n:∀(A:db)(H:Hp)(x d:D)(xs:im)(v:V)(vs:nw)(Q:VK),Own A H->lF X.K A H x v->bI X.K (hide A H) xs vs->m x xs=.ok d->(∀w b,bF H b->jb X.K (hide A b) d w->Q w b)->q v vs H Q)
  (t:PE X o (tP X.K B f)) (C:PA X (e::es) (tA X.K B r))
  (l:Nf o name X.env:=by rfl)
  (I:Oi Ga (e::es) X.env:=by rfl)
  (h:Gg Pa Ga:=by rfl) (hs:Cd e es X.env:=by rfl) (hplain:Lg Ga es X.env:=by rfl) :
  PE X (.Call (.Attribute o name Pa) (e::es) [] Ga) (tI X.K B<|Ai m f r):=by
 refine cD (Mt PySem.F.plainAttrs_str a G u t C l I h hs hplain) ?_
 rintro σ H Q ⟨A,st,d,c,z,k⟩;obtain⟨x,p,E⟩:=R.ja z;obtain⟨xs,F,g⟩:=R.ja E;obtain⟨s,rfl⟩:=y x xs d g;refine⟨A,st,_,c,p,λv J s1 r1=>⟨?_,A,st,xs,c.mono s1,F,λvs H2 s2 r2=>?_⟩⟩
 .rw[r1.str];rfl
 exact n _ H2 _ d xs v vs Q (c.own.mono<|s1.trans s2) (r1.mono s2) r2 g λw b i j=>k w b (s1.trans<|s2.trans i) j
def fu{K:Frag} (h:bI K H [d] vs):∃v,vs=[v]/\jb K H d v:=by
 obtain⟨v,r,rfl,b,a⟩:=bN.mp h;rw[cU.mp a];exact⟨v,rfl,b⟩
def bQf{K:Frag} {e:D} (h:bI K H [d,e] vs):∃v u,vs=[v,u]/\jb K H d v/\jb K H e u:=by
 obtain⟨v,r,rfl,c,b⟩:=bN.mp h;obtain⟨u,rfl,a⟩:=fu b;exact⟨v,u,rfl,c,a⟩
def bIv:Hj X "str.find" (λx vs H Q=>∃(s:am),x=.str ⟨s.toArray⟩/\((∃y:am,vs=[.str ⟨y.toArray⟩]/\Q (.int<|Co<|nO s y 0) H)\/∃(y:am)(i:Int),vs=[.str ⟨y.toArray⟩,.int i]/\0<=i/\Q (.int<|Co<|nO s y i.toNat) H)):=by
 intro j s σ H x vs v e Q I c a h;obtain⟨z,rfl,h⟩:=h;obtain⟨t,rfl⟩:=c;rcases h with ⟨y,rfl,q⟩|⟨y,i,rfl,d,q⟩
 .obtain⟨u,rfl,b,rfl⟩:=a.one;exact SC.find ⟨.int _,H,I.tok _,⟨_,rfl⟩,by rwa [bIt]⟩
 obtain⟨u,f,rfl,⟨b,rfl⟩,⟨g,rfl⟩⟩:=a.two;exact SC.find3 ⟨.int _,H,I.tok _,⟨_,rfl⟩,by rwa [bEr _ _ _ d]⟩
def bEt:Hj X "str.index" (λx vs H Q=>∃(s y:am)(i:Nat),x=.str ⟨s.toArray⟩/\vs=[.str ⟨y.toArray⟩]/\nO s y 0=some i/\Q (.int i) H):=by
 intro f s σ H x vs v d Q I a b h;obtain⟨z,y,i,rfl,rfl,c,q⟩:=h;obtain⟨t,rfl⟩:=a;obtain⟨u,rfl,e,rfl⟩:=b.one;exact SC.index (by rw[Tz,c];rfl) ⟨.int _,H,I.tok _,⟨_,rfl⟩,q⟩
def bEu:Hj X "str.strip" (λx vs H Q=>∃(s y:am),x=.str ⟨s.toArray⟩/\vs=[.str ⟨y.toArray⟩]/\s.length<=sizeLine/\Q (.str ⟨(yK s y).toArray⟩) H):=by
 intro g s σ H x vs v c Q I a b h;obtain⟨z,y,rfl,rfl,f,q⟩:=h;obtain⟨t,rfl⟩:=a;obtain⟨u,rfl,d,rfl⟩:=b.one;exact SC.stripChars (λe k=>⟨.str _,H,I.tok _,⟨_,by rw[bEs]⟩,q⟩) (by rwa [str_len])
end
end Pu
namespace Pu
open PySem PySem.Spec PyProof.Rows L2 PySem.SeqAt
section
variable{X:Cx}{B:db}{a b e o:Expr}{f g:Ex}{pos:Pos}{r:yd}{es:List Expr}{Pa Ga:Pos}
def bMy(i:PE X o (tP X.K B f))(j:PA X (e::es) (tA X.K B r))(g:Nf o "find" X.env:=by rfl)
  (m:Oi Ga (e::es) X.env:=by rfl)
  (b:Gg Pa Ga:=by rfl) (hs:Cd e es X.env:=by rfl) (hplain:Lg Ga es X.env:=by rfl) :
  PE X (.Call (.Attribute o "find" Pa) (e::es) [] Ga) (tI X.K B<|Ai TB f r):=by
 refine TC PySem.F.slot_str_find PySem.F.type_str_find bIv (λx xs d h=>?_) (λA H x d xs v n Q w rx Tp h k=>?_) i j g m b hs hplain
 .cases x<;>first|exact⟨_,rfl⟩|exact nomatch h
 unfold TB at h;split at h
 .cases h;obtain⟨u,rfl,a⟩:=fu Tp;exact⟨_,rx.str,.inl ⟨_,by rw[dI.mp a],k _ H (bF.refl _)<|bJ.mpr rfl⟩⟩
 .obtain⟨c,h⟩:=aH h;cases h;obtain⟨u,p,rfl,a,l⟩:=bQf Tp;exact⟨_,rx.str,.inr ⟨_,_,by rw[dI.mp a,bJ.mp l],c,k _ H (bF.refl _)<|bJ.mpr rfl⟩⟩
 cases h
def bIw(g:PE X o (tP X.K B f))(l:PA X (e::es) (tA X.K B r))(c:Nf o "index" X.env:=by rfl)
  (m:Oi Ga (e::es) X.env:=by rfl)
  (a:Gg Pa Ga:=by rfl) (hs:Cd e es X.env:=by rfl) (hplain:Lg Ga es X.env:=by rfl) :
  PE X (.Call (.Attribute o "index" Pa) (e::es) [] Ga) (tI X.K B<|Ai TJ f r):=by
 refine TC PySem.F.slot_str_index PySem.F.type_str_index bEt (λx xs d h=>?_) (λA H x d xs v n Q w rx Tp h k=>?_) g l c m a hs hplain
 .cases x<;>first|exact⟨_,rfl⟩|exact nomatch h
 unfold TJ at h;split at h
 .obtain⟨i,j,h⟩:=R.ja h;cases h;obtain⟨u,rfl,b⟩:=fu Tp;exact⟨_,_,i,rx.str,by rw[dI.mp b],Ko j,k _ H (bF.refl _)<|bJ.mpr rfl⟩
 cases h
def bIx(i:PE X o (tP X.K B f))(j:PA X (e::es) (tA X.K B r))(g:Nf o "strip" X.env:=by rfl)
  (l:Oi Ga (e::es) X.env:=by rfl)
  (a:Gg Pa Ga:=by rfl) (hs:Cd e es X.env:=by rfl) (hplain:Lg Ga es X.env:=by rfl) :
  PE X (.Call (.Attribute o "strip" Pa) (e::es) [] Ga) (tI X.K B<|Ai kB f r):=by
 refine TC PySem.F.slot_str_strip PySem.F.type_str_strip bEu (λx xs d h=>?_) (λA H x d xs v m Q w rx Tp h k=>?_) i j g l a hs hplain
 .cases x<;>first|exact⟨_,rfl⟩|exact nomatch h
 unfold kB at h;split at h
 .obtain⟨c,h⟩:=aH h;cases h;obtain⟨u,rfl,b⟩:=fu Tp;exact⟨_,_,rx.str,by rw[dI.mp b],lim c,k _ H (bF.refl _)<|dI.mpr rfl⟩
 cases h
def LB(j:X.mg "max"=none)(m:X.calm=true)(o:PE X a (tP X.K B f))(n:PE X b (tP X.K B g))(k:Gl X "max":=by rfl)(hs:starEach [a,b] X.env=(false,eval a X.env)::starEach [b] X.env:=by rfl)
  (r:Cd b [] X.env:=by rfl) (je:(backTo pos<|starEach [b] X.env).any (·.1)=false:=by rfl):PE X (.Call (.Name "max" p0) [a,b] [] pos) (tI X.K B<|e2 Qo f g):=by
 refine cD (pG (WT m) k j rfl (cF o (cF n eV r) hs) (he:=hs) (je:=je)) ?_
 rintro σ H Q ⟨A,st,d,e,l,q⟩;obtain⟨x,i,p⟩:=R.ja l;obtain⟨y,h,c⟩:=R.ja p;refine⟨A,st,x,e,i,λv s s1 r1=>⟨A,st,y,e.mono s1,h,λu H2 s2 r2=>?_⟩⟩
 unfold Qo at c;split at c
 case h_2=>cases c
 cases c;exact⟨_,_,by rw[r1.int,r2.int],q _ H2 (s1.trans s2)<|bJ.mpr rfl⟩
def Cq(h:PE X a (tP X.K B f)):PE X (.UnaryOp .USub a pos) (tI X.K B<|e1 Vi f):=by
 refine cD (bOq bL6 h) ?_
 rintro σ H Q ⟨A,st,d,c,g,q⟩;obtain⟨x,e,b⟩:=R.ja g;refine⟨A,st,x,c,e,λv H1 s1 r1=>?_⟩
 cases x<;>first|(cases b;done)|skip
 cases b;exact⟨_,r1.int,q _ H1 s1<|bJ.mpr rfl⟩
def O5(a:Bool):R2:=λx y H Q=>(y=.Bb/\Q (.bl<|if a then !decide (x=.Bb) else decide (x=.Bb)) H)\/∃c d,x=.bl c/\y=.bl d/\Q (.bl<|if a then !(c==d) else (c==d)) H
def bMz:Zd X (compareOp .Is) (O5 false):=by
 intro e s σ H x y v u Q I b a h;rcases h with h|⟨c,d,rfl,rfl,q⟩
 .exact bL7 e s σ H x y v u Q I b a h
 cases b;cases a;exact is_bool ⟨.bl _,H,I,rfl,q⟩
def bN0{K:Frag}:fi K (O5 false) B7:=by
 intro A H x y d v u Q w b a e q;cases y<;>first|(cases x<;>(cases e;done))|skip
 .cases e;exact .inl ⟨a.Bb,q _ H (bF.refl _)<|cY.mpr<|by rw[<-bIj b];rfl⟩
 cases x<;>first|(cases e;done)|skip
 cases e;exact .inr ⟨_,_,b.bl,a.bl,q _ H (bF.refl _)<|cY.mpr rfl⟩
open Classical in
noncomputable def Xk(K:Frag)(H:Hp)(x:D)(u:Value):Bool:=if ∃d z,jb K H d z/\RelV z u/\plain d=true/\qd d x=true then true else false
def TZ(I:za X ba σ H s){x:D}{z:V} (r:jb X.K H d z) (c:RelV z u) (f:plain d=true):Xk X.K H x u=qd d x:=by
 unfold Xk;split
 .rename_i h;obtain⟨k,j,g,a,b,e⟩:=h;have:=RelV.inj c a;subst this;rw[jb.inj I f b r g,e]
 rename_i h;cases i:qd d x with
 |false=>rfl
 |true=>exact(h ⟨d,z,r,c,f,i⟩).elim
theorem uw{i:f8}{c:vh}{H:Hp}{s:Shared}(I:za X i c H s){x:D}:∀{ds:im}{a:nw}{b:jp},bI X.K H ds a->Ha a b->eO ds=true->b.any (Xk X.K H x)=inD x ds
 |[],a,b,r,v,_=>by
  have e:=cU.mp r;subst e;cases v;rfl
 |d::ds,a,b,r,v,p=>by
  obtain⟨z,j,e,h,g⟩:=bN.mp r;subst e;simp at p;cases v with
  |cons v f=>
   rw[Xq,TZ I h v p.1,uw I g f p.2];unfold inD;rw[Xq]
theorem vw{q:f8}{l:vh}{H:Hp}{s:Shared}(I:za X q l H s){A:Around}{x:D}{f:V}{g:Value}(i:jb X.K H x f)(h:RelV f g)(j:plain x=true):∀{ds:im}{b:nw}{c:jp},bI X.K H ds b->Ha b c->eO ds=true->A.units+kY ds<cLine->∀u∈c,EqAt A s u g (Xk X.K H x u)
 |[],b,c,r,v,_,_=>by
  have e:=cU.mp r;subst e;cases v;exact λu a=>nomatch a
 |d::ds,b,c,r,v,p,n=>by
  obtain⟨z,t,e,k,o⟩:=bN.mp r;subst e;simp at p;rw[Į]at n;cases v with
  |cons v m=>
   intro u a;rcases Pb.mp a with rfl|a
   .rw[TZ I k v p.1];exact bEn I d x A z f _ g k i v h (by lia) p.1 j
   exact vw I i h j o m p.2 (by lia) u a
def UC(K:Frag)(b:Bool):R2:=λv u H Q=>(∃a o,u=.ref a/\yI H a v o/\Q (.bl<|if b then !o.isSome else o.isSome) H)\/(∃x ds c p,u=.ref p/\(Dc K H p c\/pf K H p c)/\jb K H x v/\bI K H ds c/\kY ds<=60/\plain x=true/\eO ds=true/\Q (.bl<|if b then !inD x ds else inD x ds) H)\/
 ∃i j:am,v=.str ⟨i.toArray⟩/\u=.str ⟨j.toArray⟩/\Q (.bl<|if b then !(nO j i 0).isSome else (nO j i 0).isSome) H
def some_of(x y:am):(!(Builtin.Str.occurrences ⟨x.toArray⟩ ⟨y.toArray⟩ 0 (⟨x.toArray⟩:Str).length 1).isEmpty)=(nO x y 0).isSome:=by
 rw[Tz];cases nO x y 0<;>rfl
theorem GK(F:X.A.units+64<cLine:=by exact gb.units<|by assumption):Zd X (compareOp .In) (UC X.K false):=by
 intro B s σ H v u a b Q I k m h;rcases h with ⟨p,o,rfl,g,q⟩|⟨x,ds,D,p,rfl,c,y,f,G,z,l,q⟩|⟨i,j,rfl,rfl,q⟩
 .cases m;exact bS7 (by lia) I g k λE C=>⟨.bl _,H,C,rfl,q⟩
 .cases m;have d:=by show X.A.units+1+kY ds<cLine;lia
  rcases c with c|c
  .obtain⟨e,r,n,A⟩:=I.list c;refine SeqAt.in_listAt (Xk X.K H x) n.isList (λw t=>vw I y k z f r l d w<|by simpa using t) ⟨.bl _,H,I,rfl,?_⟩
   rwa [show e.toArray.any _=e.any (Xk X.K H x) by simp,uw I f r l]
  obtain⟨e,r,n,A⟩:=I.tuple c;refine SeqAt.in_tupleAt _ n (λw t=>vw I y k z f r l d w<|by simpa using t) ⟨.bl _,H,I,rfl,?_⟩
  rwa [show e.toArray.any _=e.any (Xk X.K H x) by simp,uw I f r l]
 refine ģ B s σ H _ _ a b Q I k m ⟨_,_,rfl,rfl,?_⟩
 rwa [some_of]
theorem mU(F:X.A.units+64<cLine:=by exact gb.units<|by assumption):Zd X (compareOp .NotIn) (UC X.K true):=by
 intro B s σ H v u a b Q I k m h;rcases h with ⟨p,o,rfl,g,q⟩|⟨x,ds,D,p,rfl,c,y,f,G,z,l,q⟩|⟨i,j,rfl,rfl,q⟩
 .cases m;exact bGn (by lia) I g k λE C=>⟨.bl _,H,C,rfl,q⟩
 .cases m;have d:=by show X.A.units+1+kY ds<cLine;lia
  rcases c with c|c
  .obtain⟨e,r,n,A⟩:=I.list c;refine SeqAt.notIn_listAt (Xk X.K H x) n.isList (λw t=>vw I y k z f r l d w<|by simpa using t) ⟨.bl _,H,I,rfl,?_⟩
   rwa [show e.toArray.any (Xk X.K H x)=e.any (Xk X.K H x) by simp,uw I f r l]
  obtain⟨e,r,n,A⟩:=I.tuple c;refine SeqAt.notIn_tupleAt _ n (λw t=>vw I y k z f r l d w<|by simpa using t) ⟨.bl _,H,I,rfl,?_⟩
  rwa [show e.toArray.any _=e.any (Xk X.K H x) by simp,uw I f r l]
 refine ύ B s σ H _ _ a b Q I k m ⟨_,_,rfl,rfl,?_⟩
 rwa [some_of]
def HK{K:Frag}:fi K (UC K false) Qn:=by
 intro A H x y d v u Q w f b e q;unfold Qn at e;split at e
 .obtain⟨c,e⟩:=aH e;cases e;obtain⟨a,o,e1,g,l,_⟩:=WA b f.rep c;exact .inl ⟨a,o,e1,g,by rw[l];exact q _ H (bF.refl _)<|cY.mpr rfl⟩
 .obtain⟨c,e⟩:=aH e;cases e;obtain⟨p,h,k,j,i⟩:=b.lst;exact .inr<|.inl ⟨_,_,h,p,k,.inl j,f.rep,i.mono<|bB _ _,c.1,c.2.1,c.2.2,q _ H (bF.refl _)<|cY.mpr rfl⟩
 .obtain⟨c,e⟩:=aH e;cases e;obtain⟨p,h,k,j,i⟩:=b.tup;exact .inr<|.inl ⟨_,_,h,p,k,.inr j,f.rep,i.mono<|bB _ _,c.1,c.2.1,c.2.2,q _ H (bF.refl _)<|cY.mpr rfl⟩
 .cases e;exact .inr<|.inr ⟨_,_,f.str,b.str,q _ H (bF.refl _)<|cY.mpr rfl⟩
 cases e
def mV{K:Frag}:fi K (UC K true) jT:=by
 intro A H x y d v u Q w f b e q;unfold jT at e;split at e
 .obtain⟨c,e⟩:=aH e;cases e;obtain⟨a,o,e1,g,l,_⟩:=WA b f.rep c;exact .inl ⟨a,o,e1,g,by rw[l];exact q _ H (bF.refl _)<|cY.mpr rfl⟩
 .obtain⟨c,e⟩:=aH e;cases e;obtain⟨p,h,k,j,i⟩:=b.lst;exact .inr<|.inl ⟨_,_,h,p,k,.inl j,f.rep,i.mono<|bB _ _,c.1,c.2.1,c.2.2,q _ H (bF.refl _)<|cY.mpr rfl⟩
 .obtain⟨c,e⟩:=aH e;cases e;obtain⟨p,h,k,j,i⟩:=b.tup;exact .inr<|.inl ⟨_,_,h,p,k,.inr j,f.rep,i.mono<|bB _ _,c.1,c.2.1,c.2.2,q _ H (bF.refl _)<|cY.mpr rfl⟩
 .cases e;exact .inr<|.inr ⟨_,_,f.str,b.str,q _ H (bF.refl _)<|cY.mpr rfl⟩
 cases e
end
end Pu
namespace Pu
open PySem PySem.Spec PyProof.Rows L2
section
variable{X:Cx}{B:db}{a b e:Expr}{f g:Ex}{pos:Pos}
def vn(i:Nat) (he:PE X e (tI X.K B f)) (D:X.N[i]?=some x:=by rfl) (z:Dg X.env.scope x:=by exact Vh rfl) (b:Yd x:=by decide)
  (G:Th x:=by decide) (w:Nf (.Name x p1) "append" X.env:=by rfl)
  (I:Oi Ga [e] X.env:=by rfl)
  (t:Gg Pa Ga:=by rfl) (hs:Cd e [] X.env:=by rfl)
  (F:Uh (.Call (.Attribute (.Name x p1) "append" Pa) [e] [] Ga) none pos.line X.env:=by rfl) :
  PS X (.Expr (.Call (.Attribute (.Name x p1) "append" Pa) [e] [] Ga) pos) (tS X.K B<|Yh i f):=by
 refine iZ (vP (Mt Mq mM PySem.F.type_list_append Ĩ (jR D z b G) (cF he eV hs) w I t hs rfl) F) ?_
 rintro K σ H ⟨A,st,r,a,C,p⟩;obtain⟨d,b,g⟩:=R.ja C;split at g
 .rename_i xs e1;obtain⟨c,E⟩:=aH g;cases E;obtain⟨l,o,h,e2,m,j,y,q,u⟩:=a.lst i _ xs e1;subst y;refine⟨.ref l,e2,.inl ⟨rfl,h,Dc.of j⟩,A,st,d,a,b,λv J s rv=>⟨l,h,v,rfl,rfl,s _ _ j,by rw[(q.length)];rw[oH]at c;exact We c (by decide),?_⟩⟩
  obtain⟨n,k⟩:=(a.mono s).write e1 e2 (k1:=.l) rfl<|(q.mono<|bF.hide s).append<|.cons rv .nil;exact p A _ _ ((Le.of s).trans k) n
 cases g
def bQh(i:Nat) {j:Expr} (N:PE X j (tP X.K B g)) (he:PE X e (tI X.K B f)) (P:X.N[i]?=some x:=by rfl) (K:Dg X.env.scope x:=by exact Vh rfl) (t:Yd x:=by decide)
  (U:Th x:=by decide)
  (O:∀v,assign (.Subscript (.Name x p1) j p2) X.env v=(do
   let b <- holding [v] (eval (.Name x p1) X.env)
   let h <- holding [v,b] (eval j X.env)
   standAt p2
   holding [v,b,h] (setItem b h v)
   release [v,b,h] []):=by intro _;rfl)
  (hs:swapsWithSole [.Subscript (.Name x p1) j p2] e pos.line X.env=pure false:=by rfl) (J:swappedStores [.Subscript (.Name x p1) j p2] e X.env=pure none:=by rfl)
  (C:(assignEach [.Subscript (.Name x p1) j p2] X.env).map (·.2)=[assign (.Subscript (.Name x p1) j p2) X.env]:=by rfl) :
  PS X (.Assign [.Subscript (.Name x p1) j p2] e pos) (tS X.K B<|Yw i g f):=by
 refine iZ (YA he (L1 (jR P K t U) N set_list O) hs J C) ?_
 rintro Y σ H ⟨A,st,r,a,L,p⟩;obtain⟨d,t,T⟩:=R.ja L;obtain⟨y,I,S⟩:=R.ja T;obtain⟨k,rfl,z⟩:=oq S;split at z
 .rename_i xs e1;obtain⟨n,M,Q⟩:=R.ja z;cases Q;obtain⟨l,o,F,e2,m,C,G,q,u⟩:=a.lst i _ xs e1;subst G;refine⟨A,st,d,a,t,λv W s rv=>⟨.ref l,e2,A,st,_,a.mono s,I,λw V s2 c=>⟨l,F,k,n,rfl,c.int,(s.trans s2) _ _ C,(by rw[(q.length)];exact Ko M),?_⟩⟩⟩
  obtain⟨E,D⟩:=(a.mono<|s.trans s2).write e1 e2 (k1:=.l) rfl<|bI.set (rv.mono<|bF.hide s2) n<|q.mono<|bF.hide<|s.trans s2;exact p A _ _ ((Le.of<|s.trans s2).trans D) E
 cases z
def Wv(g:X.N.Nodup:=by assumption)(hi:X.N[i]?=some x:=by rfl)(d:Loc X.env.scope x:=by exact zj rfl)(hs:Uh (.Dict [] [] dp) (some<|.Name x pos') pos.line X.env:=by rfl)
  (f:Sh X x:=by first|exact .inl rfl|exact .inr rfl|assumption):PS X (.Assign [.Name x pos'] (.Dict [] [] dp) pos) (tS X.K B<|Ro i false):=iZ (iq g hi d Ÿ hs f) (by
 rintro h σ H ⟨A,st,r,c,e,p⟩;cases e;exact λa b=>p _ _ _ (qw b)<|c.ik i b (.inl ⟨rfl,[],rfl,rfl,rfl⟩) .nil)
def bQi:V->V->V->Hp->(Hp->Prop)->Prop:=λo i v H Q=>∃p a,o=.ref p/\An H p i v a/\Q a
theorem set_dict(l:X.A.units+64<cLine):DL X bQi:=by
 intro m s σ H o i v j k u Q I b c a h;obtain⟨p,e,rfl,g,q⟩:=h;cases b;exact Ĭ (by lia) I g c a λf d=>⟨e,d,q⟩
theorem ww(V:X.A.units+64<cLine)(i:Nat) {j:Expr} (Z:PE X j (tI X.K B g)) (he:PE X e (tI X.K B f)) (hN:X.N[i]?=some x:=by rfl) (U:Dg X.env.scope x:=by exact Vh rfl) (G:Yd x:=by decide)
  (Kd:Th x:=by decide)
  (ha:∀v,assign (.Subscript (.Name x p1) j p2) X.env v=(do
   let y <- holding [v] (eval (.Name x p1) X.env)
   let F <- holding [v,y] (eval j X.env)
   standAt p2
   holding [v,y,F] (setItem y F v)
   release [v,y,F] []):=by intro _;rfl)
  (hs:swapsWithSole [.Subscript (.Name x p1) j p2] e pos.line X.env=pure false:=by rfl) (T:swappedStores [.Subscript (.Name x p1) j p2] e X.env=pure none:=by rfl)
  (J:(assignEach [.Subscript (.Name x p1) j p2] X.env).map (·.2)=[assign (.Subscript (.Name x p1) j p2) X.env]:=by rfl) :
  PS X (.Assign [.Subscript (.Name x p1) j p2] e pos) (tS X.K B<|ze i g f):=by
 refine iZ (YA he (L1 (jR hN U G Kd) Z (set_dict V) ha) hs T J) ?_
 rintro Dn σ H ⟨A,st,r,a,W,p⟩;obtain⟨d,G,h3⟩:=R.ja W;obtain⟨k,Y,I⟩:=R.ja h3;split at I
 .rename_i t ks ds e1;obtain⟨c,h6⟩:=aH I;cases h6;obtain⟨l,o,vs,e2,m,J,S,q,u⟩:=a.lst i _ _ e1;refine⟨A,st,d,a,G,λv H' s rv=>⟨.ref l,e2,A,st,k,a.mono s,Y,λw H2 s2 rk=>?_⟩⟩
  have O:=(s.trans s2) _ _ J;have N:=q.mono<|bF.hide<|s.trans s2;have P:=rv.mono<|bF.hide s2;have Q:=rk.mono<|bB _ _;have Fb:ds.length<sizeLine:=by have:=c.2;rw[oH]at this;exact We this (by decide)
  have M:=q.length;rcases S with ⟨rfl,h,rfl,rfl,rfl⟩|⟨rfl,h,rfl,rfl,rfl⟩
  .obtain⟨n,L,K⟩:=yS Q c.1;subst L K;obtain⟨C,z⟩:=VA ft n v d P h ds N;refine⟨l,_,rfl,An.k O (by rw[lc]at M;lia),?_⟩
   obtain⟨E,D⟩:=(a.mono<|s.trans s2).write e1 e2 (k1:=.d false _) (.inl ⟨rfl,Xc h n v,rfl,C,rfl⟩) z;exact p A _ _ ((Le.of<|s.trans s2).trans D) E
  obtain⟨n,b,L,K,e5⟩:=LS Q c.1;subst L K;obtain⟨C,z⟩:=VA iX n v d P h ds N;refine⟨l,_,rfl,An.t O e5 (by rw[lc]at M;lia),?_⟩
  obtain⟨E,D⟩:=(a.mono<|s.trans s2).write e1 e2 (k1:=.d true _) (.inr ⟨rfl,Xc h n v,rfl,C,rfl⟩) z;exact p A _ _ ((Le.of<|s.trans s2).trans D) E
 cases I
def bSg{lo hi:Option Expr}{l u:aq} (w:PE X a (tP X.K B f)) (s:PO X lo (tO X.K B l)) (o:PO X hi (tO X.K B u)):PE X (.Subscript a (.Slice lo hi none p2) pos) (tF X.K B<|Ck f l u):=by
 refine cD (IV yY w s o) ?_
 rintro σ H Q ⟨A,st,d,b,t,q⟩;obtain⟨x,m,D⟩:=R.ja t;obtain⟨k,F,C⟩:=R.ja D;obtain⟨i,E,g⟩:=R.ja C;refine⟨A,st,x,b,m,λv I s1 r1=>⟨A,st,k,b.mono s1,F,λG s2=>⟨A,st,i,b.mono<|s1.trans s2,E,λH3 s3=>?_⟩⟩⟩
 cases x<;>first|(cases g;done)|skip
 .obtain⟨c,z⟩:=aH g;cases z
 cases g;obtain⟨p,h,e,y,j⟩:=(r1.mono<|s2.trans s3).lst;exact⟨p,h,e,y,λn r=>q n _ H3 (s1.trans<|s2.trans s3) r<|rX _ _ j⟩
def bQj(i:Nat) (he:PE X e (tF X.K B f)) (G:X.N[i]?=some x:=by rfl) (D:Dg X.env.scope x:=by exact Vh rfl) (h:Yd x:=by decide)
  (K:Th x:=by decide) (z:Nf (.Name x p1) "extend" X.env:=by rfl)
  (L:Oi Ga [e] X.env:=by rfl)
  (y:Gg Pa Ga:=by rfl) (hs:Cd e [] X.env:=by rfl)
  (J:Uh (.Call (.Attribute (.Name x p1) "extend" Pa) [e] [] Ga) none pos.line X.env:=by rfl) :
  PS X (.Expr (.Call (.Attribute (.Name x p1) "extend" Pa) [e] [] Ga) pos) (tS X.K B<|PC i f):=by
 refine iZ (vP (Mt Mq PySem.F.slot_list_extend PySem.F.type_list_extend ĩ (jR G D h K) (cF he eV hs) z L y hs rfl) J) ?_
 rintro N σ H ⟨A,st,r,g,E,p⟩;obtain⟨d,h,k⟩:=R.ja E;cases d<;>first|(cases k)|skip
 rename_i ys;have a:(match st[i]? with|some (some<|.o .l xs)=>aU _ _|_=>.bad)=.ok r:=k
 split at a
 .rename_i xs e1;obtain⟨c,I⟩:=aH a;cases I;obtain⟨l,o,j,e2,m,t,C,q,u⟩:=g.lst i _ xs e1;subst C;refine⟨.ref l,e2,.inl ⟨rfl,j,Dc.of t⟩,A,st,ys,g,h,λn zs M s hn rz=>?_⟩
  have F:=s _ _ t;refine⟨l,n,j,zs,rfl,rfl,by rwa [bA<|aP F hn],bG,by rw[(q.length),(rz.length)];exact lim c,?_⟩
  have b:=s.trans<|cI (o:=HO.lst zs) hn;obtain⟨w,v⟩:=(g.mono b).write e1 e2 (k1:=.l) rfl<|(q.mono<|bF.hide b).append<|rz.mono<|bF.hide<|cI hn;exact p A _ _ ((Le.of b).trans v) w
 cases a
end
section
open PySem.SeqAt
open PySem.AutoSeq1 (wpAny_loadPart')
open PySem.MeetsSeq PySem.MeetsSeq2 PySem.MeetsSeq3
inductive Fj (A:Around) (s:Shared):List Value->List Value->Bool->Prop where
 |nn:Fj A s [] [] false
 |nc {w:Value} {ws:jp}:Fj A s [] (w::ws) true
 |cn {v:Value} {vs:jp}:Fj A s (v::vs) [] false
 |eq {v w:Value} {vs ws:jp} {b:Bool}:EqAt A s v w true->Fj A s vs ws b->Fj A s (v::vs) (w::ws) b
 |lt {v w:Value} {vs ws:jp} {b:Bool}:EqAt A s v w false->(∀(prog:Program)(wd:World)(E Q:bv),Q (.bool b) s->wpAny (model prog wd) A (richCompare .Lt v w) Q E s)->Fj A s (v::vs) (w::ws) b
end
structure ClsAt(K:Frag)(c:String)(C:Addr):Prop where
 ns:nsIn K mainGlobals (ofString c)=some (some<|.ref C)
 cl:wm K C
def yV{a b:String}(h:ofString a=ofString b):a=b:=by
 have c:(ofString a).cps=(ofString b).cps:=by rw[h]
 rw[Str.ofString_eq_toList,Str.ofString_eq_toList]at c;have inj:∀(x y:List Char),x.map Char.toNat=y.map Char.toNat->x=y:=by
  intro x
  induction x with
  |nil=>intro y h;cases y with|nil=>rfl|cons _ _=>simp at h
  |cons a x d=>
   intro y h;cases y with
   |nil=>simp at h
   |cons b y=>
    injection h with f e
    rw[d y e];congr 1;exact Char.ext<|UInt32.toNat_inj.mp f
 exact String.toList_inj.mp<|inj _ _ (by
  simpa using (congrArg Array.toList c))
section
variable{K:Frag}
theorem JT{f:String}:∀{a:wp}{ds:im} {fs:wn} {d:D},fs.map (·.1)=a.map ofString->bI K H ds (fs.map (·.2))->(a.zip ds).lookup f=some d->∃v,fs.lookup (ofString f)=some v/\jb K H d v
 |[],ds,fs,d,_,_,h=>by simp at h
 |n::a,[],fs,d,_,_,h=>by simp at h
 |n::a,d0::ds,[],d,e,_,h=>by simp at e
 |n::a,d0::ds,(g,w)::fs,d,e,r,h=>by
  injection e with e1 e2
  obtain⟨v,m,l,i,c⟩:=bN.mp r;injection l with k j
  subst k j;subst e1;rw[Fx,yi]at h;rw[yi]
  by_cases b:f=n
  .subst b;simp only[beq_self_eq_true]at h ⊢;cases h;exact⟨_,rfl,i⟩
  rw[(Nq.mpr b)]at h;rw[(Nq.mpr λz=>b<|yV z)]
  exact JT e2 c h
theorem lookup_none{f:String}:∀{a:wp} {fs:wn},fs.map (·.1)=a.map ofString->f∉a->fs.lookup (ofString f)=none
 |[],fs,e,_=>by cases fs with|nil=>rfl|cons _ _=>simp at e
 |n::a,[],e,_=>rfl
 |n::a,(g,w)::fs,e,h=>by
  injection e with e1 e2
  subst e1;rw[yi,(Nq.mpr λz=>h<|by rw[yV z];exact zb)]
  exact lookup_none e2 λz=>h<|Ab _ z
theorem IX{f:String}{v:V}:∀{a:wp} {fs:wn},fs.map (·.1)=a.map ofString->f∉a->xh (ofString f) v fs=fs++[(ofString f,v)]
 |[],fs,e,_=>by cases fs with|nil=>rfl|cons _ _=>simp at e
 |n::a,[],e,_=>by simp at e
 |n::a,(g,w)::fs,e,h=>by
  injection e with e1 e2
  subst e1;unfold xh;rw[Ea<|λz=>h<|by rw[yV z];exact zb,IX e2 λz=>h<|Ab _ z]
  rfl
end
section
variable{X:Cx}{B:db}{a b e o:Expr}{f g:Ex}{pos:Pos}
theorem lF.ins{K:Frag}{A:db}{H:Hp}{c:String}{f:wp}{ds:im}{v:V}(h:lF K A H (.ins c f ds) v):∃p C a fs,v=.ref p/\H p=some (.ins C a fs)/\nsIn K mainGlobals (ofString c)=some (some<|.ref C)/\fs.map (·.1)=f.map ofString/\bI K (hide A H) ds (fs.map (·.2)):=by
 rcases h with h|⟨p,l,o,m,g,e,e2,h,k,r⟩
 .obtain⟨p,C,a,fs,g,e,j,d,b,i,r⟩:=dt.mp h;subst i;exact⟨p,C,a,fs,e,bB _ _ _ _ j,d,b,r⟩
 cases l<;>cases e;obtain⟨_,C,a,fs,rfl,d,b,rfl⟩:=k;exact⟨p,C,a,fs,e2,h,d,b,r⟩
def pR{c:String} (a:ClsAt X.K c C) (j:mZ X.K C (ofString f')) (i:PE X o (tP X.K B f)) (l:Nf o (ofString f') X.env:=by rfl) :
  PE X (.Attribute o (ofString f') pos) (tI X.K B<|e1 (lY c f') f):=by
 refine cD (bL8 i l) ?_
 rintro σ H Q ⟨A,st,d,g,k,q⟩;obtain⟨x,h,b⟩:=R.ja k;refine⟨A,st,x,g,h,λv H1 s1 r1=>?_⟩
 cases x<;>first|(cases b)|skip
 obtain⟨e1,y⟩:=aH b;subst e1;obtain⟨p,e,D,fs,e2,u,t,s,r⟩:=r1.ins;have:e=C:=by have z:=t.symm.trans a.ns;injection z with z;injection z with z;injection z
 subst this;obtain⟨w,n,m⟩:=JT s r<|Ko y;exact⟨p,e,D,fs,w,e2,u,a.cl,j,n,q w H1 s1 m⟩
structure Fc(P:Program)(w:World)(K:Frag)(mg:kt)(base:Heap)(c m:String)(k np:Nat)(dv:im)(p:cr):Prop where
 ex:∃(C fa:Addr)(fd:FuncData)(ps:sB)(ae:nw)(ds:jp),ClsAt K c C/\Meth K C (ofString m) fa/\Aa P w K mg base bb k fa fd ps (Qb K np p)/\Binds K fd ps ds/\Ha ae ds/\∀H,bI K H dv ae
 len:∀ds d,p ds=.ok d->ds.length=np
def Kt{c m:String}{k:Nat} {r:yd} (h:Fc X.prog X.w X.K X.mg X.base c m k np dv p) (K:PE X o (tI X.K B f)) (P:PA X (e::es) (tA X.K B r)) (J:gb j X.A:=by assumption) (N:k<=j:=by decide)
  (Y:Cd e es X.env:=by rfl) (je:Lg pos es X.env:=by rfl)
  (I:eval (.Call (.Attribute o (ofString m) Pa) (e::es) [] pos) X.env=(do
   let g <- eval o X.env
   standAt Pa.atName
   let (f,first) <- holding [g] (getMethod g (ofString m) pl)
   callWith pos f first (backTo pos<|starEach (e::es) X.env) (backToKw pos<|keywordEach [] X.env)):=by rfl) :
  PE X (.Call (.Attribute o (ofString m) Pa) (e::es) [] pos) (tI X.K B<|vQ c m p dv f r):=by
 obtain⟨C,fa,fd,ps,ae,ds,i,M,F,bd,s,u⟩:=h.ex;refine cD (XX K i.cl M F (J.mono N) bd s Mo P Y je I) ?_
 rintro σ H Q ⟨A,st,d,b,O,q⟩;obtain⟨x,G,V⟩:=R.ja O;obtain⟨xs,Z,n⟩:=R.ja V;refine⟨A,st,x,b,G,λv H1 s1 r1=>?_⟩
 cases x<;>first|(cases n)|skip
 obtain⟨⟨e1,L⟩,l⟩:=aH n;subst e1;obtain⟨E,C',W,fs,e2,U,T,S,h8⟩:=lF.ins<|.inl r1;have:C'=C:=by have z:=T.symm.trans i.ns;injection z with z;injection z with z;injection z
 subst this;exact⟨E,W,fs,e2,U,lookup_none S L,A,st,xs,b.mono s1,Z,λvs H2 a y=>⟨A++B,_,d,b.own.mono<|s1.trans a,.cons (r1.mono<|bF.hide a)<|y.append<|u _,h.len _ _ l,l,λw H' t D=>q w H' (s1.trans<|a.trans t) D⟩⟩
def ZE(K:Frag)(c:String)(f:Nat)(p:cr):Sp:=λe H Q _=>∃x b A C g ds d,e=.ref x::b/\H x=some (.ins C g [])/\nsIn K mainGlobals (ofString c)=some (some<|.ref C)/\Own A H/\x∉A/\bI K (hide (x::A) H) ds b/\ds.length=f/\p ds=.ok d/\
 ∀a,bF (hide [x] H) a->jb K (hide A a) d (.ref x)->Q .Bb a
structure Of(P:Program)(w:World)(K:Frag)(mg:kt)(base:Heap)(c:String)(k np:Nat)(p:cr):Prop where
 ex:∃(C fa:Addr)(fd:FuncData)(ps:sB),ClsAt K c C/\Mk K C fa/\Aa P w K mg base bb k fa fd ps (ZE K c np p)/\Binds K fd ps []/\mg (ofString c)=some (.ref C)
 len:∀ds d,p ds=.ok d->ds.length=np
def M3{c:String}{k:Nat} {r:yd} (h:Of X.prog X.w X.K X.mg X.base c k np p) (s:gb j X.A) (v:k+1<=j) (G:PA X (e::es) (tA X.K B r)) (w:Gl X (ofString c):=by rfl) (J:Yd (ofString c):=by decide)
  (he:Cd e es X.env:=by rfl) (je:Lg pos es X.env:=by rfl):PE X (.Call (.Name (ofString c) p0) (e::es) [] pos) (tI X.K B<|aM p r):=by
 obtain⟨C,N,L,K,E,M,F,bd,t⟩:=h.ex;refine cD (bGg M F (s.mono v) w t bd .nil Mo G J he je) ?_
 rintro σ H Q ⟨A,st,d,i,D,q⟩;obtain⟨xs,o,l⟩:=R.ja D;refine⟨A,st,xs,i,o,λvs H1 s1 r1 x dx QE DO O=>?_⟩
 have g:=i.own.mono s1;have f:∀b u,H1 b=some u->Ua (Ua H1 dx<|.own x) x (.ins C dx []) b=some u:=λb u z=>by
  rwa [bA<|aP z QE,bA<|aP z DO]
 refine⟨x,vs++[],A++B,C,dx,xs,d,rfl,bG,E.ns,λb hb=>?_,(g.free QE),?_,h.len _ _ l,l,λI sm m=>⟨rfl,q _ I (λb u z=>?_) m⟩⟩
 .obtain⟨u,z,n⟩:=kL (g b hb)
  rwa [f b u z]
 .rw[Hh];refine r1.mono λb u z=>?_
  have a:=bB _ _ _ _ z;rw[bH<|λy=>(Pb.mp y).elim (aP a QE)<|λy=>by rw[cP y]at z;cases z]
  exact f b u a
 have a:=s1 _ _ z;exact sm b u (by rw[bH (by simpa using aP a QE)];exact f b u a)
def ō{K:Frag}{x:Addr} {c:String} (w:Own A H) (o:x∉A) (g:H x=some (.ins C dx [])) (p:nsIn K mainGlobals (ofString c)=some (some<|.ref C)) (r:bI K (hide (x::A) H) ds ws) :
  RS K A [x] H (some (Sl.o (.i x c []) [])::(ds.map (λd=>some<|Sl.v d)++List.replicate (N.length-ds.length-1) none)) (L2.start N<|.ref x::ws):=by
 have l:=r.length;have m:L2.start N (.ref x::ws)=some (.ref x)::(ws.map some++List.replicate (N.length-ds.length-1) none):=by
  unfold L2.start;rw[ie,l];congr 2
 rw[m];have f:∀(i:Nat)(s:Sl),(ds.map (λd=>some _)++List.replicate (N.length-ds.length-1) none)[i]?=some (some s)->∃d,ds[i]?=some d/\s=.v d:=λi s e=>by
  by_cases a:i<ds.length
  .rw[Yk (by simpa using a),List.getElem?_map,List.getElem?_eq_getElem a]at e
   simp at e;exact⟨ds[i],md a,e.symm⟩
  rw[Lq (by simpa using a),List.getElem?_replicate]at e
  split at e<;>simp at e
 refine⟨by simp[l],λb hb=>?_,λb hb=>by rwa [Fe.mp hb],λi d e=>?_,λi k xs e=>?_⟩
 .rcases wg.mp hb with hb|hb
  .rw[Fe.mp hb,g];rfl
  exact w b hb
 .cases i with
  |zero=>simp at e
  |succ i=>
   obtain⟨t,e1,e2⟩:=f i _ e;cases e2;obtain⟨v,h,n⟩:=r.get e1;refine⟨v,?_,n⟩;rw[M6,Yk (by simpa using ((List.getElem?_eq_some_iff.mp h).1)),List.getElem?_map,h]
   rfl
 cases i with
 |zero=>
  simp at e;obtain⟨rfl,rfl⟩:=e;refine⟨x,_,[],rfl,Fe.mpr rfl,g,⟨rfl,C,dx,[],rfl,p,rfl,rfl⟩,.nil,λj q ys ej _=>?_⟩
  cases j with
  |zero=>rfl
  |succ j=>
   obtain⟨_,_,e2⟩:=f j _ ej;cases e2
 |succ i=>
  obtain⟨_,_,e2⟩:=f i _ e;cases e2
def bIz{K:Frag} {st:Stmt} {f:Addr} {k:Nat} (F:bq K x qual st f fd) (S:Tb N ps (bK st)) (c:String) (u n:Nat) (G:Bd) (Wj:ps.length=u+1) (hn:N.length=n)
  (D:∀(j:Value)(A:Around)(e:v4)(s:Shared)(H:Hp)(E:XK)(B:db),gb k (A.deeper<|envOfC qual (bK st) s.heap.objs.size f j)->
   Pc (Kj bb P w K mg base N qual (bK st) f j A e s H E).Zj (dH st) (tS K B G)):Aa P w K mg base bb (k+1) f fd ps (ZE K c u<|En c u n G):=by
 refine F.ok S (λI H Q E h=>?_)<|λj A e s H I Q E Y h=>?_
 .obtain⟨y,U,A,C,dx,ds,d,rfl,_,_,_,_,r,z,_⟩:=h;rw[ie,r.length,z,Wj]
 obtain⟨y,U,O,C,dx,ds,d,rfl,X,Cp,t,v,r,z,Z,q⟩:=h;refine⟨tS K O G,D j A e s H E O Y,?_⟩;obtain⟨_,h2⟩:=aH<|BY Z y;obtain⟨M,Yb,i⟩:=R.ja h2;have J:=ō (N:=N) t v X Cp r;rw[z,hn]at J;refine⟨[y],_,M,J,Yb,?_⟩;cases M with
 |nx s1=>
  intro A1 Ms H1 l g;have p:(match (s1[0]?) with|some (some<|.o (.i T c' W) xs)=>aU _ _|_=>.bad)=.ok d:=i
  split at p
  .rename_i T c' W xs e1;obtain⟨rfl,h4⟩:=aH p;cases h4;obtain⟨a,o,I,e2,m,h5,L,V,_⟩:=g.lst 0 _ _ e1;have ea:=L.1;subst ea;exact q H1 (bF.trans (l)<|bB _ _)<|L.rep (by rwa [bH<|g.Wf a m])<|V.mono<|fC λb D=>se _ D
  cases p
 |rt d'=>cases i
 |bk s1=>cases i
 |ct s1=>cases i
def bEw{c:String} (ds:im) (d:D) (h:En c np n bd ds=.ok d):ds.length=np:=(aH<|BY h 0).1
theorem MB(i:Nat) {c b:String} {a:Expr} (v:ClsAt X.K c C) (J:mZ X.K C (ofString b)) (he:PE X a (tI X.K B f)) (L:X.N[i]?=some x:=by rfl) (G:Dg X.env.scope x:=by exact Vh rfl) (j:Yd x:=by decide)
  (S:Th x:=by decide) (hs:Uh a (some<|.Attribute (.Name x p1) (ofString b) p2) pos.line X.env:=by rfl) :
  PS X (.Assign [.Attribute (.Name x p1) (ofString b) p2] a pos) (tS X.K B<|Ot i c b f):=by
 refine iZ (bL9 (jR L G j S) he hs) ?_
 rintro W σ H ⟨A,st,r,g,I,p⟩;obtain⟨d,j,k⟩:=R.ja I;split at k
 .rename_i n Q E xs e1;obtain⟨⟨P,K,V⟩,M⟩:=aH k;subst P;cases M;obtain⟨l,o,T,e2,m,N,F,q,u⟩:=g.lst i _ _ e1;obtain⟨O,e,s,fs,rfl,t,h,rfl⟩:=F;have:e=C:=by have z:=t.symm.trans v.ns;injection z with z;injection z with z;injection z
  subst this;refine⟨A,st,d,g,j,λy U s1 r1=>⟨.ref l,e2,l,e,s,fs,rfl,s1 _ _ N,v.cl,J,?_,?_⟩⟩
  .have:=congrArg List.length h;rw[lc,lc]at this;lia
  rw[IX h K];obtain⟨D,w⟩:=(g.mono s1).write e1 e2 (k1:=.i n Q<|E++[b]) (o':=.ins e s<|fs++[(ofString b,y)]) ⟨O,e,s,_,rfl,t,by rw[Zi,Zi,h];rfl,by rw[Zi];rfl⟩<|(q.mono<|bF.hide s1).append<|.cons r1 .nil
  exact p A _ _ ((Le.of s1).trans w) D
 cases k
def yW:PS X sm (tS X.K B oJ):=λ_ _ _ _ _ _ ⟨_,_,_,_,h,_⟩=>nomatch h
end
section
variable {iter c:Expr} {t:Tg} {u:Ex}
def rV{f:Shared}{n:db}{p:Addr}{l:kt} (F:X.N.Nodup) (hi:X.N[i]?=some x) (s:Loc X.env.scope x)
  (A:Sh X x) (g:f.heap.objs.size<=C) (d:za X ba σ H3 f) (j:∀b∈n,Jj X ba H3 b) (r:za (fG X scope C f H3 n) [] τ H5 s5) (I:s5.heap.Ns C l)
  (E:∀k,za X ba (σ.set i<|some<|.ref p) H5 k->Qf .none k):compPost (model X.prog X.w) X.A X.xe (some<|assign (.Name x px) X.env) Qf (.ref p) C (.ok .next) s5:=by
 have lt:∀b o,f.heap.get? b=some o->C≠b:=λb o e z=>Pg _<|We (Uc<|z ▸ e) g
 have G:C≠X.env.locals:=λz=>Pg _<|We (z ▸ d.lt) g
 have m:∀y c,X.env.cells.lookup y=some c->c≠C:=λy c e=>by
  obtain⟨v,o,w,_⟩:=d.cell y c e;exact(lt c o w).symm
 exact wpAny_assign_Name<|UT (v:=.ref p) (Uv d j g r<|.refl ..) F hi s rfl (λJ H ⟨a,t,D⟩=>⟨l,I.sameBut t (by
  rcases D with z|z
  .rwa [z]
  exact(m x a z).symm),λK h=>E _<|H.turned (λb o B e=>(h.2 b B).trans e) ((r.free)) G (.inr<|Vc d.sz g) m<|λq u=>(lt q.1 q.2 (d.pin q u).1).symm⟩) A
def YH{x:Str} {is:am} (hi:L2.PI X tg iter (Ti X.K B it)) (W:∀(B:db)(C:Addr)(j:Shared)(g:Hp)(a:db),PG (fG X scope C j g a) tg<|tG X.K B t)
  (O:∀(B:db)(C:Addr)(j:Shared)(g:Hp)(a:db),PT (fG X scope C j g a) c<|tT X.K B u)
  (he:∀(B:db)(C:Addr)(j:Shared)(g:Hp)(a:db),PE (fG X scope C j g a) elt<|tI X.K B f) (hc:X.calm=true:=by rfl) (hsub:Em is t:=by exact eu) (S:Rb X scope is:=by exact .of rfl) (hN:X.N.Nodup:=by assumption) (l:X.N[i]?=some x:=by rfl) (L:Loc X.env.scope x:=by exact zj rfl)
  (Li:swapsWith (.ListComp elt [⟨tg,iter,[c],0⟩] scope pos) (some<|.Name x px) qk.line X.env=pure true:=by rfl)
  (Y:Sh X x:=by first|exact .inl rfl|exact .inr rfl|assumption) (hs:∀x,foldedSetIterable iter X.env x=pure x:=by intro _;rfl) :
  PS X (.Assign [.Name x px] (.ListComp elt [⟨tg,iter,[c],0⟩] scope pos) qk) (tS X.K B<|dD i<|cL is t it u f):=by
 intro z s σ H Dn I h;obtain⟨A,st,r,k,P,q⟩:=h;obtain⟨d,Z,o⟩:=R.ja P;cases o;obtain⟨xs,Vg,h2⟩:=R.ja Z;obtain⟨V,o⟩:=aH h2;obtain⟨ys,K,h4⟩:=R.ja o;cases h4;rw[exec_Assign_Name_used _ _ _ _ Li];exact Oa<|Eu<|Oa<|Oa<|zi (uO (te:=Yu X.K f) (rest:=λb it p=>isTrue c b (eval c b) >>= λok=>if ok=true then (eval elt b >>= λx=>call _ [p,x] >>= λ_=>again<|.compLoop _ 0 it p b) else again (.compLoop _ 0 it p b)) S hc hi (λC j g a=>ju λB=>W B C j g a) (λ_ _ _=>qT)
  (λC j g a it p s Q h=>L5 h) (λC j g a it p τ H s z w N Q I h q=>U4 rfl (gx λB=>he B C j g a) (N5 λB=>O B C j g a) τ H s z w N Q I h (λ_ Q Q' m h=>Gv Q Q' m h) q) hs I
  (Jw hsub (λτ H Q h=>h) k Vg V K λp w H1 D s1 U E M r=>FK k (λv D y G=>q A _ D (Le.of y)<|(k.mono y).set i G) s1 U E M r) λC p H5 s5 m5 s3 H3 a τ hC I3 n I5 Hi J=>rV hN l L Y hC I3 n I5 Hi λF I'=>⟨_,_,I',J⟩) (λ_ F T=>vc<|vc T) λ_ _ e=>e
end
structure Ma(K:Frag)(x qual:Str)(st:Stmt)(dV:Value)(f:Addr)(fd:FuncData):Prop where
 ex:∃(oc:Value)(od:pi)(kV doc pm:Value)(an:pi)(Hb ct:Value) (rh:pp),
  fd=fnOf x qual (gK st) (dH st) (bK st) dV kV doc pm an Hb ct/\K.lookup f=some ⟨oc,od,.func fd,rh⟩/\codeIn K Hb qual=true
 kp:keepIn K (.ref f)=true
section
variable {K:Frag} {st:Stmt} {f:Addr} {k:Nat}
def jt{a:pi}{kV:Value} (l:K.lookup f=some ⟨oc,a,.func<|fnOf x qual (gK st) (dH st) (bK st) dV kV doc pm an Hb ct,rh⟩)
  (c:codeIn K Hb qual=true) (k:keepIn K (.ref f)=true):Ma K x qual st dV f (fnOf x qual (gK st) (dH st) (bK st) dV kV doc pm an Hb ct):=⟨⟨oc,a,kV,doc,pm,an,Hb,ct,rh,rfl,l,c⟩,k⟩
def Ma.Rg(F:Ma K x qual st .none f fd)
  (h:∀(kV a c:Value)(e:pi)(g d:Value)(b:jp),b.length=ps.length->bindArgs (fnOf x qual (gK st) (dH st) (bK st) .none kV a c e g d) ⟨b,[]⟩=pure (ps.zip b)):Binds K fd ps []:=by
 obtain⟨k,j,kV,a,c,e,g,d,i,rfl,lk,l⟩:=F.ex;exact .all<|h kV a c e g d
theorem Ma.binds{T:Addr}{o:Obj} {ds:jp} (F:Ma K x qual st (.ref T) f fd) (l:K.lookup T=some o) (j:o.data=.seq items n) (w:m+ds.length=ps.length)
  (h:∀(kV a c:Value)(e:pi)(g d:Value)(b:jp),b.length=m->∃k:Option (Array Value)->Sem (List<|Str×Value),bindArgs (fnOf x qual (gK st) (dH st) (bK st) (.ref T) kV a c e g d) ⟨b,[]⟩=seqItems? (.ref T) >>= k/\k (some items)=pure (ps.zip<|b++ds)):Binds K fd ps ds:=by
 obtain⟨v,u,kV,a,c,e,g,d,t,rfl,lk,y⟩:=F.ex;intro s b r i;obtain⟨k,q,p⟩:=h kV a c e g d b (by rw[ef]at i;lia)
 exact .of_defaults rfl (r _ _ l) j q p
def Ma.Vy{sp:Sp}(F:Ma K x qual st dV f fd)(S:Tb N ps (bK st))(len:∀vs H Q E,sp vs H Q E->vs.length=ps.length)
  (g:∀(b:Value)(A:Around)(a:v4)(s:Shared)(H:Hp)(vs:nw)(Q:VK)(E:XK),gb k (A.deeper<|envOfC qual (bK st) s.heap.objs.size f b)->sp vs H Q E->
   ∃t,Pc (Kj bb P w K mg base N qual (bK st) f b A a s H E).Zj (dH st) t/\t {nx:=λ_ j=>Q .Bb j,rt:=Q} (L2.start N vs) H):Aa P w K mg base bb (k+1) f fd ps sp:=by
 obtain⟨o,n,kV,e,m,r,b,p,l,rfl,lk,i⟩:=F.ex;refine C4 lk i S len λA a s H vs Q E d c=>?_
 obtain⟨t,h,q⟩:=g b A a s H vs Q E d c;exact⟨t,h.Zj,q⟩
def rL(F:Ma K x qual st dV f fd)(S:Tb N ps (bK st))(o n:Nat)(t:Bd)(U:ps.length=o)(J:N.length=n)
  (L:∀(j:Value)(A:Around)(b:v4)(s:Shared)(H:Hp)(E:XK)(B:db),gb k (A.deeper<|envOfC qual (bK st) s.heap.objs.size f j)->
   Pc (Kj bb P w K mg base N qual (bK st) f j A b s H E).Zj (dH st) (tS K B t)):Aa P w K mg base bb (k+1) f fd ps (Qb K o<|cM o n t):=by
 refine F.Vy S (λz H Q E h=>?_)<|λj A b s H z Q E G h=>?_
 .obtain⟨A,ds,d,e,r,p,_⟩:=h;rw[r.length,p,U]
 obtain⟨B,ds,d,e,r,p,I,q⟩:=h;refine⟨tS K B t,L j A b s H E B G,?_⟩;obtain⟨_,O⟩:=aH I;obtain⟨y,T,i⟩:=R.ja O;have u:=Dv (N:=N) e r;rw[p,J]at u;refine⟨[],_,y,u,T,?_⟩;have g:∀{m:db}{c:Hp},Le [] H m c->bF H c:=λ{m c} l=>by
  unfold Le at l;exact l.trans<|bB _ _
 cases y with
 |nx s1=>
  cases i;exact λm V c l D=>q _ c (g l)<|oE.mpr rfl
 |rt W=>
  cases i;exact λm v c l C=>q v c (g l)<|C.mono<|fC λa M=>se _ M
 |bk s1=>exact nomatch i
 |ct s1=>exact nomatch i
def Fc.of{c m:String} {ds:jp} (d:ClsAt K c C) (a:Meth K C (ofString m) f) (F:Aa P w K mg base bb k f fd ps (Qb K np<|cM np n bd)) (b:Binds K fd ps ds) (v:Ha ae ds) (r:∀H,bI K H dv ae):Fc P w K mg base c m k np dv (cM np n bd):=
 ⟨⟨C,f,fd,ps,ae,ds,d,a,F,b,v,r⟩,Fv⟩
end
end Pu
namespace Pu
open PySem PySem.Spec PyProof.Rows L2 PySem.SeqAt
section
variable {o:Expr} {r:yd}
def MT:nJ X (.type "list") (λvs H Q=>∃l xs,vs=[.ref l]/\(Dc X.K H l xs\/pf X.K H l xs)/\∀n,H n=none->Q (.ref n) (Ua H n<|.lst xs)):=by
 intro v s σ H vs t Q I r h;obtain⟨l,xs,rfl,c,q⟩:=h;obtain⟨u,rfl,m⟩:=r.one;obtain rfl:u=Value.ref l:=m;rcases c with c|c
 .obtain⟨j,b,⟨o,n,e,g,_,f⟩,a⟩:=I.list c;exact call_list_seq l (.inl rfl) e g f (λp i k d=>⟨.ref s.heap.objs.size,_,I.laid (o:=.lst xs) k (Cb _) ⟨a,j,i,b,d⟩,rfl,q _<|I.Xa.fresh<|Cb _⟩) (by rw[b.length]at a;simpa using a)
 obtain⟨j,b,⟨o,e,g,n,f⟩,a⟩:=I.tuple c;exact call_list_seq l (.inr rfl) e g f (λp i k d=>⟨.ref s.heap.objs.size,_,I.laid (o:=.lst xs) k (Cb _) ⟨a,j,i,b,d⟩,rfl,q _<|I.Xa.fresh<|Cb _⟩) (by rw[b.length]at a;simpa using a)
def OB(m:X.mg "list"=none)(r:PE X a (tP X.K B f))(o:Gl X "list":=by rfl)(hs:Cd a [] X.env:=by rfl):PE X (.Call (.Name "list" p0) [a] [] pos) (tI X.K B<|e1 Qt f):=by
 refine cD (uK MT o m rfl (cF r eV hs) (he:=hs)) ?_
 rintro σ H Q ⟨A,st,d,g,p,q⟩;obtain⟨x,k,j⟩:=R.ja p;refine⟨A,st,x,g,k,λv s s1 r1=>?_⟩
 cases x<;>first|(cases j;done)|skip
 .cases j;obtain⟨l,c,e,i,h⟩:=r1.tup;exact⟨l,c,by rw[e],.inr i,λn b=>q _ _ (s1.trans<|cI b)<|pC (g.own.mono s1) b h⟩
 cases j;obtain⟨l,c,e,i,h⟩:=r1.lst;exact⟨l,c,by rw[e],.inl i,λn b=>q _ _ (s1.trans<|cI b)<|pC (g.own.mono s1) b h⟩
theorem UZ:∀{l:GM}{a:jp},Ha (l.map V.bl) a->a=l.map Value.bool
 |[],_,.nil=>rfl
 |b::l,_,.cons r t=>by
  rw[UZ t];cases r;rfl
def Ŏ(F:X.calm=true):nJ X (.builtin "all") (λvs H Q=>∃(l:Addr)(bs:GM),vs=[.ref l]/\Dc X.K H l (bs.map V.bl)/\Q (.bl<|bs.all id) H):=by
 intro O s σ H vs K Q I r h;obtain⟨l,bs,rfl,D,q⟩:=h;obtain⟨u,rfl,y⟩:=r.one;obtain rfl:u=Value.ref l:=y;obtain⟨g,w,⟨A,n,e,G,_,E⟩,M⟩:=I.list D;have j:=UZ w;have m:s.heap.IsList l g.toArray:=⟨A,e,G,n,E⟩;refine call_all_walk<|xx m ⟨s.heap.objs.size,_,_,_,_,_,λi=>bs[i]?.getD false,rfl,Walks.list (A:=X.A.in1) (I.ok.hd F) _ l (Bf<|Uc e) g.toArray,⟨⟨_,Ve _ rfl,rfl,rfl⟩,m.push _⟩,?_,λN L k=>?_⟩
 .intro i v t J P d C;rw[j]at d;simp only[getElem?_toArray,List.getElem?_map,Option.map_eq_some_iff]at d;obtain⟨b,f,rfl⟩:=d;have o:J (bs[i]?.getD false) t:=C;rw[f]at o;exact vc o
 refine⟨.bl _,H,I.kept<|λb u z=>k b u (λf=>?_)<|Lc _ z,?_,q⟩
 .exact Pg _ ((Fe.mp f) ▸ Uc z)
 congr 1;rw[Dx,Bx,Bx];have p:g.toArray.size=bs.length:=by rw[j];simp
 rw[p];constructor
 .intro h x B;obtain⟨i,c,rfl⟩:=su.mp B;have:=h i (Ff.mpr c)
  rwa [md c]at this
 intro h i c;have a:=Ff.mp c;rw[md a];exact h _<|Fh a
theorem VZ{K:Frag}{H:Hp}:∀{l:GM}{vs:nw},bI K H (l.map D.bl) vs->vs=l.map V.bl
 |[],vs,h=>cU.mp h
 |b::l,vs,h=>by
  obtain⟨v,r,rfl,c,a⟩:=bN.mp h;rw[VZ a,cY.mp c];rfl
def FC(j:X.mg "all"=none)(n:X.calm=true)(o:PE X a (tP X.K B f))(k:Gl X "all":=by rfl)(hs:Cd a [] X.env:=by rfl):PE X (.Call (.Name "all" p0) [a] [] pos) (tI X.K B<|e1 Yo f):=by
 refine cD (pG (Ŏ n) k j rfl (cF o eV hs) (he:=hs)) ?_
 rintro σ H Q ⟨A,st,d,h,m,q⟩;obtain⟨x,i,g⟩:=R.ja m;refine⟨A,st,x,h,i,λv H1 s1 r1=>?_⟩
 cases x<;>first|(cases g)|skip
 obtain⟨bs,r,p⟩:=R.ja g;cases p;obtain⟨l,s,e,c,b⟩:=r1.lst;rw[Z1 r]at b;rw[VZ b]at c;exact⟨l,bs,by rw[e],c,q _ H1 s1<|cY.mpr rfl⟩
theorem ZH:∀{l:lv}{a:jp},Ha (l.map V.int) a->∃ps:List (Int×Tok),a=ps.map (λp=>Value.int p.1 p.2)/\ps.map (·.1)=l
 |[],_,.nil=>⟨[],rfl,rfl⟩
 |b::l,_,.cons r t=>by
  obtain⟨ps,e,e2⟩:=ZH t;obtain⟨t,rfl⟩:=r;exact⟨(b,t)::ps,by rw[e];rfl,by rw[Ge,e2]⟩
def yA{ps:List (Int×Tok)} (hi:i<ps.length):numAt ps.toArray i=(ps.map (·.1))[i]'(by simpa using hi):=by
 unfold numAt;rw[LD,md hi];simp
theorem œ(y:X.calm=true):nJ X (.builtin "max") (λvs H Q=>∃(l:Addr)(is:lv),vs=[.ref l]/\Dc X.K H l (is.map V.int)/\0<is.length/\Q (.int<|tQ is) H):=by
 intro M s σ H vs F Q I r h;obtain⟨l,is,rfl,o,m,q⟩:=h;obtain⟨u,rfl,c⟩:=r.one;obtain rfl:u=Value.ref l:=c;obtain⟨N,b,⟨d,n,e,D,_,w⟩,J⟩:=I.list o;obtain⟨a,B,e2⟩:=ZH b;have E:a.length=is.length:=by rw[<-e2,lc]
 have C:s.heap.IsList l (intItems a.toArray):=⟨d,e,D,n,by rw[w,B];simp[intItems]⟩
 refine max_intList (I.ok.hd y) C (by simpa [E] using m) λv L G f k=>?_
 obtain⟨t,rfl⟩:=intItems_at f;refine⟨.int _,H,I.kept k,⟨t,?_⟩,q⟩;congr 1;have g:a.toArray.size=a.length:=rfl;rw[g];obtain⟨K,A⟩:=argBest_gt (numAt a.toArray)<|a.length-1;have z:argBest (λi j=>decide (numAt a.toArray i>numAt a.toArray j)) (a.length-1)<a.length:=by omega
 refine(yM ?_ λx hx=>?_).symm
 .rw[yA z,<-e2];exact Fh _
 rw[<-e2]at hx;obtain⟨i,p,rfl⟩:=su.mp hx;rw[<-yA (by simpa using p)]
 exact A i (by lia)
theorem yD{K:Frag}{H:Hp}:∀{l:lv}{vs:nw},bI K H (l.map D.int) vs->vs=l.map V.int
 |[],vs,h=>cU.mp h
 |b::l,vs,h=>by
  obtain⟨v,r,rfl,c,a⟩:=bN.mp h;rw[yD a,bJ.mp c];rfl
def Kw(m:X.mg "max"=none)(p:X.calm=true)(r:PE X a (tP X.K B f))(n:Gl X "max":=by rfl)(hs:Cd a [] X.env:=by rfl):PE X (.Call (.Name "max" p0) [a] [] pos) (tI X.K B<|e1 Sk f):=by
 refine cD (pG (œ p) n m rfl (cF r eV hs) (he:=hs)) ?_
 rintro σ H Q ⟨A,st,d,j,o,q⟩;obtain⟨x,k,i⟩:=R.ja o;refine⟨A,st,x,j,k,λv H1 s1 r1=>?_⟩
 cases x<;>first|(cases i)|skip
 obtain⟨is,s,b⟩:=R.ja i;obtain⟨c,b⟩:=aH b;cases b;obtain⟨l,t,e,h,g⟩:=r1.lst;rw[uU s]at g;rw[yD g]at h;exact⟨l,is,by rw[e],h,c,q _ H1 s1<|bJ.mpr rfl⟩
theorem JX:∀{l:be} {a:jp},Ha (l.map λt=>V.str ⟨t.toArray⟩) a->∃ps:List (Str×Tok),a=strValues ps/\ps.map (·.1)=l.map λt=>(⟨t.toArray⟩:Str)
 |[],_,.nil=>⟨[],rfl,rfl⟩
 |b::l,_,.cons r t=>by
  obtain⟨ps,e,e2⟩:=JX t;obtain⟨t,rfl⟩:=r;exact⟨(⟨b.toArray⟩,t)::ps,by rw[e];rfl,by rw[Ge,e2];rfl⟩
theorem WZ(x:am):∀(l:be),Str.join ⟨x.toArray⟩ (l.map λt=>(⟨t.toArray⟩:Str))=⟨(So x l).toArray⟩
 |[]=>rfl
 |[a]=>rfl
 |a::b::l=>by
  show (⟨a.toArray⟩)++⟨x.toArray⟩++Str.join _ _=_;rw[WZ x _];show (⟨a.toArray++x.toArray++(So x _).toArray⟩:Str)=⟨(a++x++So x _).toArray⟩;simp
def bJ0:Hj X "str.join" (λx vs H Q=>∃(z:am)(l:Addr) (a:be),x=.str ⟨z.toArray⟩/\vs=[.ref l]/\Dc X.K H l (a.map λt=>V.str ⟨t.toArray⟩)/\(a.map List.length).sum+a.length*z.length<=sizeLine/\Q (.str ⟨(So z a).toArray⟩) H):=by
 intro y s σ H x vs v p Q I d b h;obtain⟨z,l,a,rfl,rfl,i,w,q⟩:=h;obtain⟨t,rfl⟩:=d;obtain⟨u,rfl,f⟩:=b.one;obtain rfl:u=Value.ref l:=f;obtain⟨A,b,⟨g,n,e,o,_,j⟩,_⟩:=I.list i;obtain⟨r,m,e2⟩:=JX b;refine SC.join ⟨g,e,o,n,by rw[j,m]⟩ e2 ?_ λc k=>⟨.str _,H,I.tok _,⟨c,?_⟩,q⟩
 .unfold JoinOk;rw[Bool.not_eq_true',StrLaws.joinTotal];refine Qc<|Nat.not_lt.mpr ?_;rw[xg,lc];have:(a.map<|(λx:Str=>x.length) ∘ λt=>(⟨t.toArray⟩))=a.map List.length:=yk λt _=>str_len t
  rwa [this]
 rw[<-WZ,<-StrLaws.glued_eq_join];rfl
theorem LX{K:Frag}{H:Hp}:∀{l:be} {vs:nw},bI K H (l.map D.str) vs->vs=l.map λt=>V.str ⟨t.toArray⟩
 |[],vs,h=>cU.mp h
 |b::l,vs,h=>by
  obtain⟨v,r,rfl,c,a⟩:=bN.mp h;rw[LX a,dI.mp c];rfl
def bN1(p:PE X o (tP X.K B f))(q:PA X (e::es) (tA X.K B r))(n:Nf o "join" X.env:=by rfl)
  (t:Oi Ga (e::es) X.env:=by rfl)
  (i:Gg Pa Ga:=by rfl) (hs:Cd e es X.env:=by rfl) (hplain:Lg Ga es X.env:=by rfl) :
  PE X (.Call (.Attribute o "join" Pa) (e::es) [] Ga) (tI X.K B<|Ai Fw f r):=by
 refine TC PySem.F.slot_str_join PySem.F.type_str_join bJ0 (λx xs d h=>?_) (λA H x d xs v z Q w rx Tp h k=>?_) p q n t i hs hplain
 .cases x<;>first|exact⟨_,rfl⟩|exact nomatch h
 unfold Fw at h;split at h
 .obtain⟨j,s,a⟩:=R.ja h;obtain⟨c,a⟩:=aH a;cases a;obtain⟨u,rfl,m⟩:=fu Tp;obtain⟨l,y,e,g,b⟩:=lF.lst<|.inl m;rw[MV s]at b;rw[LX b]at g;exact⟨_,l,j,rx.str,by rw[e],g,lim c,k _ H (bF.refl _)<|dI.mpr rfl⟩
 cases h
end
end Pu
namespace Pu
open PySem PySem.Spec PyProof.Rows L2
structure LF(C:Addr)(h0:Heap)(H:Hp)(e:Addr)(h:Heap):Prop where
 n0:h0.get? e=none
 nH:H e=none
 ex:∃oe vs a0,h.get? e=some oe/\oe.cls=.ref C/\oe.data=.fields vs/\vs[0]?=some a0/\
  (vs[1]?=some .none\/∃T oT ts,vs[1]?=some (.ref T)/\T≠e/\h.get? T=some oT/\oT.data=.fields ts/\ts[3]?=some .none/\h0.get? T=none/\H T=none)
def LF.back{e:Addr} (F:LF C h1 H e h) (k:∀b o,h0.get? b=some o->∃o',h1.get? b=some o'):LF C h0 H e h:=by
 have z:∀b,h1.get? b=none->h0.get? b=none:=λb u=>by
  cases q:h0.get? b with
  |none=>rfl
  |some o=>obtain⟨o',f⟩:=k b o q;rw[u]at f;cases f
 obtain⟨n,m,j,g,x,r,t,s,p,c⟩:=F;refine⟨z _ n,m,j,g,x,r,t,s,p,?_⟩;rcases c with c|⟨T,l,i,y,d,v,A,w,nT,a⟩
 .exact .inl c
 exact .inr ⟨T,l,i,y,d,v,A,w,z _ nT,a⟩
abbrev XW:=D->L2.St->v6
end Pu
namespace Pu
open PySem PySem.Spec PyProof.Rows L2 PySem.Calls Builtin Builtin.ObjectAttr Builtin.Getset_descriptor
section
variable {σ:L2.St} {ea:Addr}
def bJ1{u:HO}(I:za X ba σ H s)(f:za X ba σc Hc sc)(k:sc.heap.get? ea=none)(a:H ea=none)(g:oW X.prog X.w (Ua H ea u) s.heap ea u):za X ba σ (Ua H ea u) s:=by
 have d:∀b o,sc.heap.get? b=some o->b≠ea:=λb o e z=>by rw[z,k]at e;cases e
 refine⟨I.ok,I.os,I.bare,⟨I.base.keep,I.base.slot,λb o e n hx=>?_,I.base.there,λb xs e=>?_,λb o u e=>?_,λb ps e=>?_⟩,I.loc,I.cell,?_,λx c e=>?_,λp hp=>?_,λb u' e=>?_,I.len⟩
 .obtain⟨j,t⟩:=f.base.there b o e hx;rw[bA<|d b j t];exact I.base.free b o e n hx
 .have z:=I.base.Kf b xs e
  rwa [bA<|aP z a]
 .have z:=I.base.rf b o u e
  rwa [bA<|aP z a]
 .obtain⟨more,z⟩:=I.base.Jf b ps e;exact⟨more,by rwa [bA<|aP z a]⟩
 .obtain⟨m,⟨o,y,A,h,_⟩,_⟩:=f.loc;rw[bA<|d _ _ h];exact I.free
 .obtain⟨v,o,h,_⟩:=f.cell x c e;rw[bA<|d _ _ h];exact I.Jd x c e
 .obtain⟨r,w,l⟩:=I.pin p hp;exact⟨r,by rwa [bA<|d _ _ (f.pin p hp).1],l⟩
 by_cases i:b=ea
 .subst i;rw[bG]at e;cases e;exact g
 rw[bA i]at e;exact(I.Xa b u' e).ug (λc v _ q=>q) (λc q=>by rw[bA<|aP q a];exact q) λc xs q=>by rwa [bA<|aP q a]
end
end Pu
namespace Pu
open PySem PySem.Spec PyProof.Rows L2
section
variable {K:Frag} {f:Addr} {k:Nat}
def Of.of{c:String} (d:ClsAt K c C) (a:Mk K C f) (F:Aa P w K mg base bb k f fd ps (ZE K c np<|En c np n bd)) (b:Binds K fd ps []) (m:mg (ofString c)=some (.ref C)):Of P w K mg base c k np (En c np n bd):=
 ⟨⟨C,f,fd,ps,d,a,F,b,m⟩,bEw⟩
end
section
variable{P:List α->Prop}
def XZ(h:P [])(a:List α)(b:a.length=0):P a:=by rwa [Kn.mp b]
def qt(h:∀a b,b.length=n->P (a::b))(b:List α)(c:b.length=n+1):P b:=by
 cases b with
 |nil=>cases c
 |cons a b=>exact h a b<|Nat.succ.inj c
def CJ(h:∀a,P [a])(b:List α)(c:b.length=1):P b:=qt (λa=>XZ<|h a) b c
def DJ(h:∀a b,P [a,b])(c:List α)(d:c.length=2):P c:=qt (λa=>CJ<|h a) c d
def Xv(h:∀a b c,P [a,b,c])(d:List α)(e:d.length=3):P d:=qt (λa=>DJ<|h a) d e
def YZ(h:∀a b c d,P [a,b,c,d])(e:List α)(f:e.length=4):P e:=qt (λa=>Xv<|h a) e f
def ZZ(h:∀a b c d e,P [a,b,c,d,e])(f:List α)(g:f.length=5):P f:=qt (λa=>YZ<|h a) f g
def bJ2(h:∀a b c d e f,P [a,b,c,d,e,f])(g:List α)(i:g.length=6):P g:=qt (λa=>ZZ<|h a) g i
end
def LR(K:Frag)(G H:Hp):List (List D)->List Addr->Prop
 |[],a=>a=[]
 |xs::c,a=>∃p r b,a=p::r/\H p=some (.lst b)/\bI K G xs b/\LR K G H c r
def gz(K:Frag)(B:db)(i:Nat)(b:Bd):TS:=λf σ H=>∃A st st' xs,RS K B A H st σ/\b st=.ok (.nx st')/\st'[i]?=some (some<|.o .l xs)/\∀d a e c,Le A H d c->a∈d->c a=some (.lst e)->bI K (hide (d++B) c) xs e->f.rt (.ref a) c
def nk(K:Frag)(e:Nat)(p:cr):Sp:=λd H Q _=>∃A ds xs,Own A H/\bI K (hide A H) ds d/\ds.length=e/\p ds=.ok (.lst xs)/\∀a c b,bF H b->H a=none->b a=some (.lst c)->bI K (hide (a::A) b) xs c->Q (.ref a) b
section
variable {o:Expr} {rest:List Stmt}
def z0(n:PS X sm (tS X.K B bd))(m:Pc X rest (gz X.K B i mj)):Pc X (sm::rest) (gz X.K B i<|bC bd mj):=lB (lG n m) (by
 rintro v σ H ⟨A,st,st',xs,g,k,j,q⟩;obtain⟨e,o,b⟩:=R.ja k;refine⟨A,st,e,g,o,?_⟩;cases e with
 |nx s1=>exact λs t u l c=>⟨s,s1,st',xs,c,b,j,λr a f p h=>q r a f p<|l.trans h⟩
 |rt d=>cases b
 |bk s1=>cases b
 |ct s1=>cases b)
def bN2(j:X.N[i]?=some x:=by rfl)(e:Dg X.env.scope x:=by exact Vh rfl)(g:Yd x:=by decide)(l:Th x:=by decide) :
  Pc X [.Return (some<|.Name x p1) pos] (gz X.K B i cO):=lB (vO<|Zv<|jR j e g l) (by
 rintro n σ H ⟨A,st,st',xs,c,h,f,q⟩;cases h;obtain⟨a,o,b,e1,m,k,d,r,_⟩:=c.lst i .l xs f;subst d;exact⟨.ref a,e1,q A a b H Le.refl m k r⟩)
end
section
variable {K:Frag} {st:Stmt} {f:Addr} {k:Nat}
def bSh(F:Ma K x qual st dV f fd)(S:Tb N ps (bK st))(p n i:Nat)(u:Bd)(U:ps.length=p)(M:N.length=n)
  (j:∀(m:Value)(A:Around)(c:v4)(s:Shared)(H:Hp)(E:XK)(B:db),gb k (A.deeper<|envOfC qual (bK st) s.heap.objs.size f m)->
   Pc (Kj bb P w K mg base N qual (bK st) f m A c s H E).Zj (dH st) (gz K B i u)):Aa P w K mg base bb (k+1) f fd ps (nk K p<|cM p n<|Zm u i):=by
 refine F.Vy S (λy H Q E h=>?_)<|λm A c s H y Q E J h=>?_
 .obtain⟨A,ds,d,g,r,t,_⟩:=h;rw[r.length,t,U]
 obtain⟨B,ds,xs,g,r,t,L,q⟩:=h;refine⟨gz K B i u,j m A c s H E B J,?_⟩;obtain⟨_,T⟩:=aH L;obtain⟨X,e,O⟩:=R.ja T;have v:=Dv (N:=N) g r;rw[t,M]at v;unfold Zm at e;split at e
 .rename_i s1 G;unfold YK at e;split at e
  .rename_i e1;cases e;cases O;refine⟨[],_,s1,_,v,G,e1,λY a C V l ha I D=>q a C V (by
    unfold Le at l;exact l.trans<|bB _ _) ?_ I<|D.mono<|fC λb j=>?_⟩
   .cases W:H a with
    |none=>rfl
    |some o=>
     have z:=l a o (by rwa [bX])
     rw[cP ha]at z;cases z
   rcases Pb.mp j with rfl|j
   .exact Ke _ ha
   exact se _ j
  cases e
 cases e
def Ŕ(h:cM np n (Zm bd i) ds=.ok d):∃xs,d=.lst xs:=by
 obtain⟨_,c⟩:=aH h;obtain⟨e,a,b⟩:=R.ja c;unfold Zm at a;split at a
 .unfold YK at a;split at a
  .cases a;cases b;exact⟨_,rfl⟩
  cases a
 cases a
def AV(y:∀ds d,p ds=.ok d->∃xs,d=.lst xs) (F:Aa P w K mg base bb k f fd ps (nk K np p)):Aa P w K mg base bb k f fd ps (Qb K np p):=by
 have l:∀c H Q E,Qb K np p c H Q E->nk K np p c H Q E:=by
  rintro c H Q E ⟨A,ds,d,g,r,z,n,q⟩;obtain⟨xs,rfl⟩:=y ds d n;refine⟨A,ds,xs,g,r,z,n,λa o D u B m v=>q _ D u<|fJ.mpr ⟨a,o,rfl,(by rwa [bH<|g.free B]),v.mono<|fC λb j=>Ab _ j⟩⟩
 exact⟨λc H Q E h=>F.len c H Q E<|l c H Q E h,λA e s H i t c Q E x C j m h=>F.run A e s H i t c Q E x C j m<|l c H Q E h⟩
end
structure Kc(P:Program)(w:World)(K:Frag)(mg:kt)(base:Heap)(c m:String)(k np:Nat)(dv:im)(p:cr):Prop where
 ex:∃(C fa:Addr)(fd:FuncData)(ps:sB)(ae:nw)(ds:jp),ClsAt K c C/\Meth K C (ofString m) fa/\Aa P w K mg base bb k fa fd ps (nk K np p)/\Binds K fd ps ds/\Ha ae ds/\∀H,bI K H dv ae
 len:∀ds d,p ds=.ok d->ds.length=np
 lst:∀ds d,p ds=.ok d->∃xs,d=.lst xs
def Kc.of{K:Frag} {k:Nat} {f:Addr} {c m:String} {ds:jp} (d:ClsAt K c C) (a:Meth K C (ofString m) f) (F:Aa P w K mg base bb k f fd ps (nk K np<|cM np n<|Zm bd i)) (b:Binds K fd ps ds) (v:Ha ae ds) (r:∀H,bI K H dv ae):Kc P w K mg base c m k np dv (cM np n<|Zm bd i):=
 ⟨⟨C,f,fd,ps,ae,ds,d,a,F,b,v,r⟩,Fv,λ_ _ h=>Ŕ h⟩
def Kc.plain{K:Frag} {c m:String} {k:Nat} (h:Kc P w K mg base c m k np dv p):Fc P w K mg base c m k np dv p:=by
 obtain⟨C,g,f,a,i,ds,e,d,F,b,v,r⟩:=h.ex;exact⟨⟨C,g,f,a,i,ds,e,d,AV h.lst F,b,v,r⟩,h.len⟩
section
variable {o:Expr}
def bN3{c m:String}{k:Nat} {r:yd} (h:Kc X.prog X.w X.K X.mg X.base c m k np dv p) (K:gb j X.A) (O:k<=j) (L:PE X o (tI X.K B f)) (S:PA X (e::es) (tA X.K B r))
  (af:Cd e es X.env:=by rfl) (je:Lg pos es X.env:=by rfl)
  (J:eval (.Call (.Attribute o (ofString m) Pa) (e::es) [] pos) X.env=(do
   let i <- eval o X.env
   standAt Pa.atName
   let (f,first) <- holding [i] (getMethod i (ofString m) pl)
   callWith pos f first (backTo pos<|starEach (e::es) X.env) (backToKw pos<|keywordEach [] X.env)):=by rfl) :
  PE X (.Call (.Attribute o (ofString m) Pa) (e::es) [] pos) (tF X.K B<|vQ c m p dv f r):=by
 obtain⟨C,fa,fd,ps,ae,ds,l,N,F,bd,w,D⟩:=h.ex;refine cD (XX L l.cl N F (K.mono O) bd w Mo S af je J) ?_
 rintro σ H Q ⟨A,st,xs,g,P,q⟩;obtain⟨x,I,W⟩:=R.ja P;obtain⟨ys,Yl,s⟩:=R.ja W;refine⟨A,st,x,g,I,λv H1 s1 r1=>?_⟩
 cases x<;>first|(cases s)|skip
 obtain⟨⟨e1,M⟩,n⟩:=aH s;subst e1;obtain⟨G,C',Z,fs,e2,V,U,T,h8⟩:=lF.ins<|.inl r1;have:C'=C:=by have z:=U.symm.trans l.ns;injection z with z;injection z with z;injection z
 subst this;refine⟨G,Z,fs,e2,V,lookup_none T M,A,st,ys,g.mono s1,Yl,λvs H2 s2 E=>⟨A++B,_,xs,g.own.mono<|s1.trans s2,.cons (r1.mono<|bF.hide s2)<|E.append<|D _,h.len _ _ n,n,λa ws H' s' zg hv rv=>?_⟩⟩
 have Y:Ua (hide [a] H') a (.lst ws)=H':=by
  funext b
  by_cases d:b=a
  .subst d;rw[bG];exact hv.symm
  rw[bA d,bH (by simpa using d)]
 have z:=q a ws (hide [a] H') (λb u hz=>?_) (cP<|by simp) ?_
 .rwa [Y]at z
 .have t:=s2 _ _<|s1 _ _ hz;rw[bH (by simpa using aP t zg)]
  exact s' _ _ t
 refine rv.mono λb u hz=>?_
 have d:b∉a::(A++B):=λy=>by rw[cP y]at hz;cases hz
 rw[bH λy=>d<|Ab _ y,bH (by simpa using λy=>d<|by rw[y];exact zb)]
 exact bB _ _ _ _ hz
end
def same_none(s:bF H H'){a:Addr}(h:H' a=none):H a=none:=by
 cases e:H a with
 |none=>rfl
 |some o=>rw[s a o e]at h;cases h
structure Ao(K:Frag)(A:db)(H0 H':Hp)(xs ys:im)(p a b:Addr)(vs ws:nw):Prop where
 sm:bF H0 H'
 na:H0 a=none
 nb:H0 b=none
 np:H0 p=none
 ne:a≠b
 ha:H' a=some (.lst vs)
 hb:H' b=some (.lst ws)
 hp:H' p=some (.tup [.ref a,.ref b])
 rx:bI K (hide (a::b::A) H') xs vs
 ry:bI K (hide (a::b::A) H') ys ws
def Ao.back{K:Frag}{f:db} {p a b:Addr} (t:Ao K A H0 H' xs ys p a b vs ws) (s:bF H H0) (h:∀c∈f,c∈A):Ao K f H H' xs ys p a b vs ws:=
 have e:=fC λc d=>by
  rcases Pb.mp d with rfl|d
  .exact zb
  rcases Pb.mp d with rfl|d
  .exact Ab _ zb
  exact Ab _<|Ab _<|h c d
 ⟨s.trans t.sm,same_none s t.na,same_none s t.nb,same_none s t.np,t.ne,t.ha,t.hb,t.hp,t.rx.mono e,t.ry.mono e⟩
def Ao.rep{K:Frag} {p a b:Addr} (t:Ao K A H0 H' xs ys p a b vs ws) (w:Own A H0):jb K (hide A H') (.tup [.lst xs,.lst ys]) (.ref p):=by
 have d:bF (hide (a::b::A) H') _:=fC λc e=>Ab _<|Ab _ e
 refine lQ.mpr ⟨p,_,rfl,(by rw[bH<|w.free t.np];exact t.hp),(.cons (fJ.mpr ⟨a,vs,rfl,(by rw[bH<|w.free t.na];exact t.ha),t.rx.mono d⟩)<|.cons (fJ.mpr ⟨b,ws,rfl,(by rw[bH<|w.free t.nb];exact t.hb),t.ry.mono d⟩) .nil)⟩
def RS.add{K:Frag} {st:xa} {p:Addr} (r:RS K B A H st σ) (b:H p=none) (n:nT o=true:=by rfl):RS K B (p::A) (Ua H p o) st σ where
 len:=r.len
 own:=NZ n r.own
 Wf:=λa c f=>by
  rcases Pb.mp c with rfl|c
  .exact r.own.free b (se _ f)
  exact r.Wf a c f
 val:=λj d e=>by
  obtain⟨u,e1,q⟩:=r.val j d e;exact⟨u,e1,q.mono<|yC b⟩
 lst:=λj k xs e=>by
  obtain⟨a,h,g,e1,m,l,i,q,u⟩:=r.lst j k xs e;exact⟨a,h,g,e1,Ab _ m,by rwa [bA<|aP l b],i,q.mono<|yC b,u⟩
def cz(K:Frag)(B:db)(f:Ex):TE:=λσ H Q=>∃A st xs ys,RS K B A H st σ/\f st=.ok (.tup [.lst xs,.lst ys])/\∀p a b e d c,Ao K (A++B) H c xs ys p a b e d->Q (.ref p) c
section
variable {e1 e2 o:Expr} {rest:List Stmt} {W:XW} {s1:Bool}
def IK(J:PE X e1 (tF X.K B f))(I:PE X e2 (tF X.K B g))(j:starEach [e1,e2] X.env=(false,eval e1 X.env)::starEach [e2] X.env:=by rfl)(M:Cd e2 [] X.env:=by rfl) :
  PE X (.Tuple [e1,e2] n pos) (cz X.K B<|wI<|aB f<|aB g aK):=by
 refine cD (QJ<|cF J (cF I eV M) j) ?_
 rintro σ H Q ⟨A,st,xs,ys,m,w,q⟩;obtain⟨N,s,G⟩:=R.ja w;obtain⟨x,v,F⟩:=R.ja s;obtain⟨r,K,E⟩:=R.ja F;obtain⟨y,t,D⟩:=R.ja K;cases D;cases E;obtain⟨_,C⟩:=aH G;cases C;refine⟨A,st,xs,m,v,λa vs H1 s1 na r1=>⟨a::A,st,ys,(m.mono s1).add na,t,λb ws H2 s2 nb r2=>⟨lim<|dO<|by simp,λp hp=>q p a b vs ws _ ?_⟩⟩⟩
 have i:bF H1 (Ua H1 a<|.lst vs):=cI na;have h:bF H2 (Ua H2 b<|.lst ws):=cI nb;have e:bF _ (Ua _ p<|.tup [.ref a,.ref b]):=cI hp;have o:=s2 _ _ bG;have l:=i.trans<|s2.trans<|h.trans e;refine⟨s1.trans l,same_none s1 na,same_none (s1.trans<|i.trans s2) nb,same_none (s1.trans<|i.trans s2)<|same_none h hp,(aP o nb),e _ _<|h _ _ o,e _ _ bG,bG,r1.mono λc u hc=>?_,r2.mono λc u hc=>?_⟩
 .have d:=bB _ _ _ _ hc;rw[bH λz=>(Pb.mp z).elim (aP d na) λz=>(Pb.mp z).elim (aP (s2 _ _<|i _ _ d) nb) (λz=>by rw[cP z]at hc;cases hc)]
  exact l _ _ d
 have d:=bB _ _ _ _ hc;have k:c∉a::A++B:=λz=>by rw[cP z]at hc;cases hc
 have L:c∉a::b::(A++B):=λz=>(Pb.mp z).elim (λz=>k<|by rw[z];exact zb) λz=>(Pb.mp z).elim (aP d nb) λz=>k<|Ab _ z
 rw[bH L];exact e _ _<|h _ _ d
end
def spT(K:Frag)(f:Nat)(p:cr):Sp:=λc H Q _=>∃A ds xs ys,Own A H/\bI K (hide A H) ds c/\ds.length=f/\p ds=.ok (.tup [.lst xs,.lst ys])/\∀p a b c e d,Ao K A H d xs ys p a b c e->Q (.ref p) d
section
variable {K:Frag} {st:Stmt} {k:Nat}
def ŕ(h:cM np n (Bm bd f) ds=.ok d):∃xs ys,d=.tup [.lst xs,.lst ys]:=by
 obtain⟨_,c⟩:=aH h;obtain⟨e,a,b⟩:=R.ja c;unfold Bm at a;split at a
 .split at a
  .cases a;cases b;exact⟨_,_,rfl⟩
  cases a
 .cases a
 cases a
end
section
variable {e1 e2 o:Expr}
def bQk(i j:Nat){y:Str}{m:Pos} (he:PE X e (cz X.K B f)) (J:X.N.Nodup) (g:X.calm=true) (Sd:i≠j:=by decide) (hi:X.N[i]?=some x:=by rfl) (Q:X.N[j]?=some y:=by rfl) (M:Loc X.env.scope x:=by exact zj rfl) (L:Loc X.env.scope y:=by exact zj rfl)
  (C:Sh X x:=by first|exact .inl rfl|exact .inr rfl|assumption) (w:Sh X y:=by first|exact .inl rfl|exact .inr rfl|assumption)
  (v:(assignEach [.Name x p1,.Name y p2] X.env).map (·.2)=assign (.Name x p1) X.env::(assignEach [.Name y p2] X.env).map (·.2):=by rfl) (Ed:(assignEach [.Name y p2] X.env).map (·.2)=assign (.Name y p2) X.env::(assignEach [] X.env).map (·.2):=by rfl)
  (P:(assignEach [.Name x p1,.Name y p2] X.env).length=2:=by rfl) (Y:(assignEach [.Name x p1,.Name y p2] X.env).findIdx? (·.1)=none:=by rfl)
  (hs:swapsWithSole [.Tuple [.Name x p1,.Name y p2] n m] e pos.line X.env=pure false:=by rfl) (N:swappedStores [.Tuple [.Name x p1,.Name y p2] n m] e X.env=pure none:=by rfl)
  (E:(assignEach [.Tuple [.Name x p1,.Name y p2] n m] X.env).map (·.2)=[assign (.Tuple [.Name x p1,.Name y p2] n m) X.env]:=by rfl):PS X (.Assign [.Tuple [.Name x p1,.Name y p2] n m] e pos) (tS X.K B<|IL i j f):=by
 refine iZ (YA he (K1 g (IH (CA J hi M C) (IH (CA J Q L w) VX Ed) v) P Y) hs N E) ?_
 rintro Dn σ H ⟨A,st,r,G,O,K⟩;obtain⟨d,S,U⟩:=R.ja O;have s:∃xs ys,d=.tup [.lst xs,.lst ys]/\r=.nx ((st.set i<|some<|.o .l xs).set j<|some<|.o .l ys):=by
  revert U;split
  .intro h;cases h;exact⟨_,_,rfl,rfl⟩
  intro h;cases h
 obtain⟨xs,ys,rfl,rfl⟩:=s;refine⟨A,st,xs,ys,G,S,λp a b vs ws H' t=>⟨p,_,rfl,pf.of t.hp,rfl,.ref a,_,rfl,.ref b,_,rfl,rfl,?_⟩⟩
 have q:∀c,c≠a->c≠b->hide [a,b] H' c=H' c:=λc E V=>bH (by simp[E,V])
 have D:hide [a,b] H' a=none:=cP (by simp)
 have T:hide [a,b] H' b=none:=cP (by simp)
 have I:=((G.mono (λc u g=>by
  rw[q c (aP g t.na)<|aP g t.nb];exact t.sm _ _ g)).ik (kk:=.l) i D rfl (t.rx.mono λc u g=>by
  have o:=bB _ _ _ _ g;have k:c∉a::b::(A++B):=λz=>by rw[cP z]at g;cases g
  rwa [bH λz=>k<|Ab _<|Ab _ z,q c (λz=>k<|by rw[z];exact zb)<|λz=>k<|by rw[z];exact Ab _ zb])).ik (kk:=.l) j (by rwa [bA t.ne.symm]) rfl (t.ry.mono λc u g=>by
  have o:=bB _ _ _ _ g;have k:c∉a::b::(A++B):=λz=>by rw[cP z]at g;cases g
  have l:c≠a:=λz=>k (by rw[z];exact zb)
  have Z:c∉a::A++B:=λz=>(Pb.mp z).elim l λz=>k<|Ab _<|Ab _ z
  rwa [bH Z,bA l,q c l<|λz=>k<|by rw[z];exact Ab _ zb])
 have W:Ua (Ua (hide [a,b] H') a<|.lst vs) b (.lst ws)=H':=by
  funext c
  by_cases F:c=b
  .subst F;rw[bG];exact t.hb.symm
  rw[bA F]
  by_cases l:c=a
  .subst l;rw[bG];exact t.ha.symm
  rw[bA l,q c l F]
 rw[W]at I;refine K _ _ H' (λc u g=>?_) I
 have o:=bB _ _ _ _ g;rw[bH λz=>(Pb.mp z).elim (aP o t.nb) λz=>(Pb.mp z).elim (aP o t.na) (λz=>by rw[cP z]at g;cases g)]
 exact t.sm _ _ o
end
def Lw(K:Frag)(A:db)(H:Hp):List D->List V->Prop
 |[],a=>a=[]
 |d::ds,a=>∃v r,a=v::r/\lF K A H d v/\Lw K A H ds r
theorem Lw.Al{K:Frag}{A:db}{H:Hp}:∀{ds:im}{vs:nw},Lw K A H ds vs->∃e,(∀c∈e,c∈A)/\bI K (hide e H) ds vs
 |[],vs,h=>⟨A,λ_ z=>z,by subst h;exact .nil⟩
 |d::ds,vs,h=>by
  obtain⟨v,r,rfl,i,n⟩:=h;obtain⟨e,g,j⟩:=Lw.Al n;rcases i with i|⟨a,k,o,xs,q,rfl,rfl,s,m,l⟩
  .exact⟨e,g,.cons (i.mono<|fC g) j⟩
  have b:∀c∈e.filter (λc=>decide (c≠a)),c∈e:=λc f=>(df.mp f).1
  have p:a∉e.filter (λc=>decide (c≠a)):=λz=>gi (df.mp z).2 rfl
  exact⟨e.filter λc=>decide _,λc f=>g c<|b c f,.cons (m.rep (by rwa [bH p])<|l.mono<|fC λc f=>g c<|b c f)<|j.mono<|fC b⟩
def sF(K:Frag)(B:db)(f:yd):TA:=λσ H Q=>∃A st ds,RS K B A H st σ/\f st=.ok ds/\∀b a,bF H a->Lw K (A++B) a ds b->Q b a
section
variable {o:Expr}
def V4:PA X [] (sF X.K B aK):=CB eV (by
 rintro σ H Q ⟨A,st,d,b,a,q⟩;cases a;exact q [] H (bF.refl _) rfl)
def wO{r:yd}(k:PE X e (tP X.K B f))(i:PA X es (sF X.K B r))(hs:Cd e es X.env:=by rfl):PA X (e::es) (sF X.K B<|aB f r):=by
 refine CB (cF k i hs) ?_
 rintro σ H Q ⟨A,st,ds,b,j,q⟩;obtain⟨x,h,m⟩:=R.ja j;obtain⟨xs,n,l⟩:=R.ja m;cases l;exact⟨A,st,x,b,h,λv p s1 g=>⟨A,st,xs,b.mono s1,n,λc o a d=>q _ o (s1.trans a) ⟨v,c,rfl,g.mono a,d⟩⟩⟩
def B0{k:Nat} {r:yd} (h:Ba X.prog X.w X.K X.mg X.base x k np p) (s:gb j X.A) (t:k<=j) (z:PA X (e::es) (sF X.K B r)) (u:Gl X x:=by rfl) (G:Yd x:=by decide)
  (he:Cd e es X.env:=by rfl) (je:Lg pos es X.env:=by rfl):PE X (.Call (.Name x p0) (e::es) [] pos) (tI X.K B<|bw p r):=by
 obtain⟨M,L,K,F,m,l,bd⟩:=h.ex;refine cD (Iv F (s.mono t) u m l bd .nil Mo z G he je) ?_
 rintro σ H Q ⟨A,st,d,f,v,q⟩;obtain⟨xs,o,C⟩:=R.ja v;obtain⟨D,a,g⟩:=R.ja C;cases D <;> first|(cases g;done)|skip
 cases g;refine⟨A,st,xs,f,o,λJ H1 s1 r1=>?_⟩
 show Qb X.K np p _ H1 Q E0;rw[Hh];obtain⟨I,b,i⟩:=r1.Al;exact⟨I,xs,_,λc y=>(f.own.mono s1) c<|b c y,i,h.len _ _ a,a,λw E b n=>q w E (s1.trans b)<|cY.mpr<|cY.mp n⟩
end
section
variable{X:Cx}{B:db}{a b e:Expr}{f g:Ex}{pos:Pos}
def og:o0:=λx a H Q=>∃l xs,x=.ref l/\a=[]/\H l=some (.lst xs)/\Q .Bb (Ua H l<|.lst [])
theorem bf:pv X "list.clear" og:=by
 intro k s σ H x g v i Q I b c h;obtain⟨l,xs,rfl,rfl,a,q⟩:=h;cases b;have d:=c.zero;subst d;obtain⟨z,f,n,r,j,e⟩:=I.dh a;exact Yq qx ⟨_,e,rfl⟩ PySem.F.entry_list_clear (PySem.F.args_list_clear_1 _) (d6 l f.toArray n<|by rw[cf];lia) ⟨e,(⟨.Bb,_,I.bh a e rfl .nil (by simp),rfl,q⟩)⟩
def bQl(i:Nat) (s:X.N[i]?=some x:=by rfl) (k:Dg X.env.scope x:=by exact Vh rfl) (n:Yd x:=by decide)
  (v:Th x:=by decide) (h:Nf (.Name x p1) "clear" X.env:=by rfl) (g:Gg Pa Ga:=by rfl)
  (t:Uh (.Call (.Attribute (.Name x p1) "clear" Pa) [] [] Ga) none pos.line X.env:=by rfl) :
  PS X (.Expr (.Call (.Attribute (.Name x p1) "clear" Pa) [] [] Ga) pos) (tS X.K B<|KL i):=by
 refine iZ (vP (jq Mq qx hM bf (jR s k n v) h g) t) ?_
 rintro w σ H ⟨A,st,r,c,a,p⟩;unfold KL at a;split at a
 .rename_i xs e1;cases a;obtain⟨l,o,b,e2,m,d,j,q,u⟩:=c.lst i _ xs e1;subst j;refine⟨.ref l,e2,.inl ⟨rfl,b,Dc.of d⟩,l,b,rfl,rfl,d,?_⟩;obtain⟨f,e⟩:=c.write e1 e2 (k1:=.l) rfl .nil;exact p A _ _ e f
 cases a
def P5(X:Cx)(a:Addr)(n:Nat)(h:Heap):Prop:=∃(o:Obj)(S:Int->Bool),h.get? a=some o/\o.SetObjOf (intKind X.prog X.w) S n
theorem MX:∀{b:lv}{a:jp},Ha (b.map V.int) a->IntsAre a b
 |[],a,h=>by rw[h.zero];exact .nil
 |n::b,a,h=>by
  cases h with
  |cons r t=>
   obtain⟨k,rfl⟩:=r;exact .cons n k<|MX t
def U'(a:lv):firstMet (λi=>a.getD i 0) a.length=jn a:=by
 unfold firstMet jn;have:(List.range a.length).map (λi=>a.getD i 0)=a:=by
  refine List.ext_getElem (by simp) λi c b=>?_
  simp[List.getElem?_eq_getElem b]
 rw[this];rfl
theorem Ŗ(y:X.calm=true):nJ X (.type "set") (λxs H Q=>∃p a,xs=[.ref p]/\Dc X.K H p (a.map V.int)/\a.length<=4000/\∀l,H l=none->Q (.ref l) (Ua H l<|.ext<|P5 X l (jn a).length)):=by
 intro L s σ H xs C Q I r h;obtain⟨p,a,rfl,w,F,q⟩:=h;obtain⟨u,rfl,n⟩:=vals1 r;cases n;obtain⟨B,f,t,E⟩:=I.list w;have d:=f.length;rw[lc]at d;have c:(firstMet (λi=>a.getD i 0) B.toArray.size)=jn a:=by
  rw[cf,<-d];exact U' a
 refine PySem.call_set_list (I.ok.hd y) t.isList (by simpa using MX f) (by rw[List.size_toArray,<-d];show a.length+1<4096;lia) λK D z x=>?_
 obtain⟨o,m,j⟩:=z.objOf;rw[c]at j;refine⟨.ref s.heap.objs.size,_,I.laid (o:=.ext _) (λb v e=>x b v (Uc e) e) (Cb _) ⟨⟨o,_,m,j⟩,⟨o,m⟩,λJ G ⟨g,A,e1,s1⟩ k=>⟨g,A,k g e1,s1⟩⟩,rfl,q _<|I.Xa.fresh<|Cb _⟩
theorem ŗ:nJ X (.builtin "len") (λxs H Q=>∃p n,xs=[.ref p]/\H p=some (.ext<|P5 X p n)/\n<=4000/\Q (.int n) H):=by
 intro m s σ H xs j Q I r h;obtain⟨p,n,rfl,c,k,q⟩:=h;obtain⟨u,rfl,b⟩:=vals1 r;cases b;obtain⟨⟨o,S,d,a,g,l,t,f,_,_,i,e⟩,_⟩:=I.Xa _ _ c;subst i;exact PySem.call_len_set d a f e (by lia) ⟨.int g.size,H,I.tok _,⟨_,rfl⟩,q⟩
theorem BV{K:Frag}{H:Hp}:∀{l:lv}{vs:nw},bI K H (l.map D.int) vs->vs=l.map V.int
 |[],vs,h=>cU.mp h
 |i::l,vs,h=>by
  obtain⟨v,r,rfl,b,a⟩:=bN.mp h;rw[bJ.mp b,BV a];rfl
theorem NX(r:X.mg "len"=none)(b:X.mg "set"=none)(y:X.calm=true)(z:PE X a (tP X.K B f))(u:Gl X "len":=by rfl)(E:Gl X "set":=by rfl)(hs:starEach [.Call (.Name "set" p1) [a] [] p2] X.env=(false,eval (.Call (.Name "set" p1) [a] [] p2) X.env)::starEach [] X.env:=by rfl)
  (j:Cd a [] X.env:=by rfl):PE X (.Call (.Name "len" p0) [.Call (.Name "set" p1) [a] [] p2] [] pos) (tI X.K B<|e1 Lv f):=by
 refine cD (pG ŗ u r PySem.boot_len<|cF (uK (Ŗ y) E b PyProof.Rows.boot_set (cF z eV j) (he:=j)) eV hs) ?_
 rintro σ H Q ⟨A,st,d,k,w,q⟩;obtain⟨x,m,i⟩:=R.ja w;cases x<;>first|(cases i)|skip
 obtain⟨l,t,D⟩:=R.ja i;obtain⟨c,C⟩:=aH D;cases C;refine⟨A,st,_,k,m,λv G s1 r1=>?_⟩
 obtain⟨p,F,e,h,g⟩:=r1.lst;rw[uU t]at g;rw[BV g]at h;have s:(jn l).length<=l.length:=PyProof.Rows.foldl_step_dedup_nil_length_le l;refine⟨p,l,by rw[e],h,c,λn o=>⟨n,_,rfl,bG,by lia,q _ _ (s1.trans<|cI o)<|bJ.mpr rfl⟩⟩
end
def Sy:Hp:=λ_=>none
def EJ:bF Sy H:=λ_ _ h=>nomatch h
def aI{K:Frag} (h:atom d=true) (r:jb K H d v):jb K Sy d v:=by
 cases d<;>first|(cases h;done)|skip
 .exact oE.mpr (oE.mp r)
 .exact cY.mpr (cY.mp r)
 .exact bJ.mpr (bJ.mp r)
 exact dI.mpr<|dI.mp r
theorem AH{K:Frag}{H:Hp}:∀{ds:im}{vs:nw},ds.all atom=true->bI K H ds vs->bI K Sy ds vs
 |[],_,_,r=>by rw[cU.mp r];exact .nil
 |d::ds,_,h,r=>by
  obtain⟨v,w,rfl,q,t⟩:=bN.mp r;rw[all_cons,Lm]at h;exact .cons (aI h.1 q)<|AH h.2 t
def tD(K:Frag)(B:db)(f:Ex):TE:=λσ H Q=>∃A st d,RS K B A H st σ/\f st=.ok d/\∀v a,bF H a->(∀Z,Own Z H->jb K (hide Z a) d v)->Q v a
def tC(K:Frag)(B:db)(f:Ex):TE:=λσ H Q=>∃A st d xs,RS K B A H st σ/\f st=.ok d/\bLs d=.ok (.lst xs)/\∀P a b,bF H b->(∀p∈P::a,H p=none)->(P::a).Nodup->b P=some (.lst<|a.map V.ref)->LR K Sy b (xs.map unL) a->Q (.ref P) b
section
variable {iter:Expr} {pl:Pos} {r:Str}
def C0(k:X.mg "list"=none)(p:PE X a (tI X.K B f))(m:Gl X "list":=by rfl)(hs:Cd a [] X.env:=by rfl):PE X (.Call (.Name "list" p0) [a] [] pos) (tD X.K B<|e1 dw f):=by
 refine cD (uK MT m k rfl (cF p eV hs) (he:=hs)) ?_
 rintro σ H Q ⟨A,st,d,h,o,q⟩;obtain⟨x,j,g⟩:=R.ja o;refine⟨A,st,x,h,j,λv s s1 r1=>?_⟩
 cases x<;>first|(cases g)|skip
 obtain⟨r,b⟩:=aH g;cases b;obtain⟨l,c,rfl,b,i⟩:=fJ.mp r1;refine⟨l,c,rfl,.inl<|(bB _ _).seq b,λn hn=>q _ _ (s1.trans<|cI hn) λZ hZ=>fJ.mpr ⟨n,c,rfl,?_,(AH r i).mono EJ⟩⟩
 rw[bH λz=>?_]
 .exact bG
 obtain⟨u,e,_⟩:=kL<|hZ n z;rw[s1 _ _ e]at hn;cases hn
def bN4(h:PE X e (tI X.K B f)):PE X e (tD X.K B<|RN f):=cD h (by
 rintro σ H Q ⟨A,st,d,b,c,q⟩;obtain⟨d0,k,j⟩:=R.ja c;obtain⟨g,i⟩:=aH j;cases i;exact⟨A,st,_,b,k,λv l a r=>q v l a λZ _=>(aI g r).mono EJ⟩)
end
open Builtin
section
variable{prog:Program}{w:World}{A:Around}{E:bv}{s:Shared}
variable{z TI TO i1 i2 l:Addr}{fp:db}{n k1 k2:Nat}{P:Nat->Value->Prop}{St:zn}{ys:xL}{y a b:Value}
structure Og(z TI TO i1 i2 l:Addr)(fp:db):Prop where
 TIz:TI≠z
 TOz:TO≠z
 i1z:i1≠z
 i2z:i2≠z
 TITO:TI≠TO
 TIi1:TI≠i1
 TIi2:TI≠i2
 TOi1:TO≠i1
 TOi2:TO≠i2
 i12:i1≠i2
 lz:l≠z
 A8:l≠TO
 B8:l≠i1
 li2:l≠i2
 zf:z∉fp
 Tf:TO∉fp
 i2f:i2∉fp
theorem ĉ{n l:Nat}{a:db}(h:l<n)(c:∀b∈a,b<=n):Og (n+4) (n+2) (n+3) n (n+1) l a:=by
 constructor<;>first|lia|(intro z;have:=c _ z;lia)
abbrev QL(h:Heap)(z TI TO:Addr)(b a:Value):Prop:=h.get? z=some {cls:=.type "zip",dict:=none,data:=.fields #[b,a,.bool false,.ref TI,.ref TO],slots := #[]}
def CV(a:QL s.heap z TI TO .none f1)(Q:IN)(q:Q true s):wpAny (model prog w) A (Builtin.SmallTypes.ownedTupleIsFree<|.ref z) Q E s:=by
 exact Oa<|jl a rfl rfl<|vc q
variable{f0 f1:Value}
def bEy(F:Draws prog w A i1 fp n P St)(D:Og z TI TO i1 i2 l fp)
  (t:QL s.heap z TI TO f0 f1) (H:∀Q:IN,Q true s->wpAny (model prog w) A (Builtin.SmallTypes.ownedTupleIsFree<|.ref z) Q E s) (Ei:IsPair s.heap TI (.ref i1) (.ref i2)) (rj:IsPair s.heap TO a b)
  (h1:St k1 s.heap) (G:k1<n) (h2:s.heap.IsListIter i2 l k2) (hl:s.heap.IsList l ys) (hy:ys[k2]?=some y) {Q:bv}
  (hQ:∀j N x,P k1 x->IsZip j z TI TO (rawInt s.heap.objs.size)->IsPair j TO x y->St (k1+1) j->j.IsListIter i2 l (k2+1)->IsPair j s.heap.objs.size x y->j.objs.size=s.heap.objs.size+1->
   (∀c o,c≠z->c≠TO->c≠i1->c≠i2->s.heap.get? c=some o->j.get? c=some o)->Q (.ref s.heap.objs.size) {s with heap:=j,toks:=N}) :
  wpAny (model prog w) A (Builtin.«zip.__next__» ⟨[.ref z],[]⟩) (λI s'=>∃v,I=.done (.ret v)/\Q v s') E s:=by
 show wpAny _ _ (field (.ref z) 2 >>= _) _ _ _;refine Oa<|jl t rfl (x:=.bool false) rfl ?_;refine Oa<|jl t rfl rfl<|Oa<|Jm Ei rfl ?_;refine Oa<|H _ ?_;refine Oa<|Bk<|Oa<|jl t rfl rfl<|Oa<|xu t (by simp) λU xj f=>(Oa ?_)
 simp only[zipIdx_cons,List.zipIdx_nil,forIn_cons,List.forIn_nil];refine Oa<|Oa<|SD ?_;refine Oa<|F.item k1 {s with heap:=U} _ _ G (F.frame k1 s.heap U h1 λb k o e=>f.extBut _ _ (λx=>D.zf<|x ▸ k) e) λx Ni N hP zp d=>vc ?_
 have T:=d.extBut _ _ D.TOi1<|f.extBut _ _ D.TOz rj;refine Oa<|Jm T rfl<|Oa<|HM T λZl Hl M=>?_
 refine Oa<|vp<|vc<|Oa<|Oa<|SD ?_;refine Oa (wpAny_nextOf_list_item (((h2.extBut f.extBut D.i2z).extBut d.extBut D.i12.symm).extBut M.extBut D.TOi2.symm)
  (((hl.extBut f.extBut D.lz).extBut d.extBut D.B8).extBut M.extBut D.A8) hy λIy Yx hs₄=>vc ?_)
 have V:=hs₄.extBut _ _ D.TOi2 Hl;refine Oa<|Jm V rfl<|Oa<|HM V λp C wj=>?_
 replace C:IsPair p TO x y:=C
 refine Oa<|vp<|vc<|vc<|Oa<|Jm C rfl<|Oa<|wpAny_newTuple ?_;have h:=M;have g:=hs₄;have q:Heap.SameBut TO Iy p:=wj;have O:p.objs.size=s.heap.objs.size:=by rw[q.1,g.1,h.1,d.1,f.1]
 have Y:=q.extBut _ _ D.TOz.symm<|g.extBut _ _ D.i2z.symm<|h.extBut _ _ D.TOz.symm<|d.extBut _ _ D.i1z.symm xj;have X:=Uc Y;refine Oa ?_
 refine Oa<|xu (Lc _ Y) (by simp) λS Hy i=>?_
 refine xu Hy (by simp) λB W L=>?_
 have r:∀c o,c≠z->p.get? c=some o->B.get? c=some o:=λc o m e=>L.extBut _ _ m<|i.extBut _ _ m<|Lc _ e
 have Z:=L.extBut _ _ (CN X)<|i.extBut _ _ (CN X)<|Ve _ rfl;have R:B.objs.size=p.objs.size+1:=by rw[L.1,i.1,oh]
 rw[O]at W Z R;refine vc ⟨_,rfl,?_⟩;rw[O];exact hQ B _ x hP W (r _ _ D.TOz C) (F.frame _ p B (F.frame _ Ni p zp λb k o e=>q.extBut _ _ (λx=>D.Tf<|x ▸ k)<|g.extBut _ _ (λx=>D.i2f<|x ▸ k)<|h.extBut _ _ (λx=>D.Tf<|x ▸ k) e) λb k o e=>r b o (λx=>D.zf<|x ▸ k) e) ((Yx.extBut q.extBut D.TOi2.symm).at λo e=>r _ o D.i2z e) Z R λc o m u K J e=>r c o m<|(λc o m u K J e=>
  q.extBut _ _ u (g.extBut _ _ J<|h.extBut _ _ u<|d.extBut _ _ K<|f.extBut _ _ m e)) c o m u K J e
def bJ3(K:Draws prog w A i1 fp n P St)(O:A.handled=none)(D:Og z TI TO i1 i2 l fp)
  (k:QL s.heap z TI TO f0 f1) (q:∀Q:IN,Q true s->wpAny (model prog w) A (Builtin.SmallTypes.ownedTupleIsFree<|.ref z) Q E s) (Z:IsPair s.heap TI (.ref i1) (.ref i2)) (L:IsPair s.heap TO a b)
  (T:St k1 s.heap) (S:s.heap.IsListIter i2 l k2) (N:s.heap.IsList l ys)
  (u:(∀(s:Shared)(Q:bv)(E:bv),St k1 s.heap->(∀g e,Heap.ExtBut i1 s.heap g->(∃o,g.get? e=some o/\o.cls=.type "StopIteration")->E (.ref e) {s with heap:=g})->wpAny (model prog w) A (Builtin.SmallTypes.nextOf<|.ref i1) Q E s)\/(k1<n/\ys[k2]?=none)) {Q:Fin->u8}
  (C:∀g e B,(∀c o,c≠z->c≠TO->c≠i1->c≠i2->s.heap.get? c=some o->g.get? c=some o)->(∃o,g.get? e=some o/\o.cls=.type "StopIteration")->E (.ref e) {s with heap:=g,toks:=B}) :
  wpAny (model prog w) A (Builtin.«zip.__next__» ⟨[.ref z],[]⟩) Q E s:=by
 show wpAny _ _ (field _ 2 >>= _) _ _ _;refine Oa<|jl k rfl (x:=.bool false) rfl<|Oa<|jl k rfl rfl<|Oa<|Jm Z rfl<|Oa<|q _<|Oa<|Bk<|Oa<|jl k rfl rfl<|Oa<|xu k (by simp) λt v d=>Oa ?_
 simp only[zipIdx_cons,List.zipIdx_nil,forIn_cons,List.forIn_nil];refine Oa<|Oa<|SD ?_;have H:=K.frame k1 s.heap t T λb R o e=>d.extBut _ _ (λx=>D.zf<|x ▸ R) e
 rcases u with u|⟨X,M⟩
 .refine Oa (u {s with heap:=t} _ _ H λY e hs₂ he=>?_)
  obtain⟨p,h,j⟩:=he;have J:=hs₂ _ _ D.i1z.symm v;refine xu J (by simp) λG _ m=>C G e _ (λc o i _ r _ x=>m.extBut _ _ i<|hs₂ _ _ r<|d.extBut _ _ i x) ⟨p,m.extBut _ _ (λx=>by subst x;rw[J]at h;cases h;simp at j) h,j⟩
 refine Oa<|K.item k1 {s with heap:=t} _ _ X H λx Y B hP zp hs₂=>vc ?_
 have F:=hs₂.extBut _ _ D.TOi1<|d.extBut _ _ D.TOz L;refine Oa<|Jm F rfl<|Oa<|HM F λG Hl m=>?_
 have f:=m;refine Oa<|vp<|vc<|Oa<|Oa<|SD<|Oa (wpAny_nextOf_list_end O (((S.extBut d.extBut D.i2z).extBut hs₂.extBut D.i12.symm).extBut f.extBut D.TOi2.symm)
  (((N.extBut d.extBut D.lz).extBut hs₂.extBut D.B8).extBut f.extBut D.A8) M λIy e hs₄ he=>?_)
 obtain⟨p,h,j⟩:=he;have I:=hs₄ _ _ D.i2z.symm<|f.extBut _ _ D.TOz.symm<|hs₂.extBut _ _ D.i1z.symm v;refine xu I (by simp) λW _ y=>C W e _ (λc o i V r U x=>y.extBut _ _ i<|hs₄ _ _ U<|f.extBut _ _ V<|hs₂.extBut _ _ r<|d.extBut _ _ i x) ⟨p,y.extBut _ _ (λx=>by subst x;rw[I]at h;cases h;simp at j) h,j⟩
end
section
variable{prog:Program}{w:World}{A:Around}{E:bv}{s:Shared}
abbrev GF(h:Heap)(o:Obj):Heap:=h.push o
abbrev HF(h:Heap)(o:Obj)(l:Addr):Heap:=(GF h o).push {cls:=.type "list_iterator",data:=.fields #[.ref l,.int 0 0]}
abbrev IF(h:Heap)(o:Obj)(l:Addr):Heap:=(HF h o l).push {cls:=.type "tuple",data:=.seq #[.ref h.objs.size,.ref (GF h o).objs.size]}
abbrev JF(h:Heap)(o:Obj)(l:Addr):Heap:=(IF h o l).push {cls:=.type "tuple",data:=.seq #[.none,.none]}
abbrev zz(h:Heap)(o:Obj)(l:Addr):Heap:=(JF h o l).push {cls:=.type "zip",data:=.fields #[.none,.bool false,.bool false,.ref (HF h o l).objs.size,.ref (IF h o l).objs.size]}
def RL(u:Value)(o:Obj)(s:Shared):Prop:=∀(prog:Program)(w:World)(A:Around)(E Q:bv),Q (.ref s.heap.objs.size) {s with heap:=s.heap.push o}->wpAny (model prog w) A (pyIter u) Q E s
def Ċ(u:Value)(o:Obj)(l:Addr)(ys:xL) :
  Meets (Builtin.«zip.__new__» ⟨[.type "zip",u,.ref l],[]⟩) (λ_ R s=>RL u o s/\s.heap.IsList l ys/\
   R (.ok<|.ret<|.ref (JF s.heap o l).objs.size) {s with heap:=zz s.heap o l}):=
 .of_wp λprog w A R s h=>by
  obtain⟨d,c,h⟩:=h;have b:=sub_zip;have a:∀{A:Around}{E Q:bv},Q (.ref s.heap.objs.size) {s with heap:=s.heap.push o}->wpAny (model prog w) A (pyIter u) Q E s:=d prog w _ _ _
  wp_walk using a,wpAny_pyIter_list<|Heap.IsList.push c _
  exact⟨_,rfl,h⟩
def Ř{l:Addr}{ys:xL}{Q:bv}(hi:RL u o1 s)(i:o1.isFreed=false)(p:s.heap.IsList l ys)
  (h:∀a,IsZip a (s.heap.objs.size+4) (s.heap.objs.size+2) (s.heap.objs.size+3) .none->IsPair a (s.heap.objs.size+2) (.ref s.heap.objs.size) (.ref<|s.heap.objs.size+1)->
   IsPair a (s.heap.objs.size+3) .none .none->a.get? s.heap.objs.size=some o1->a.IsListIter (s.heap.objs.size+1) l 0->a.objs.size=s.heap.objs.size+5->
   (∀c o,s.heap.get? c=some o->a.get? c=some o)->Q (.ref<|s.heap.objs.size+4) {s with heap:=a}) :
  wpAny (model prog w) A (call (.type "zip") [u,.ref l]) Q E s:=by
 refine callType_new PySem.F.called_zip rfl (PySem.F.typeCall_zip_2 _ _) (PySem.F.newCall_zip_2 _ _) (λg=>PySem.F.args_object_init_3 g _ _) PySem.F.entry_zip_new
  (Ċ u o1 l ys) ⟨hi,p,?_⟩
 have f:(GF s.heap o1).objs.size=s.heap.objs.size+1:=oh ..;have e:(HF s.heap o1 l).objs.size=s.heap.objs.size+2:=by rw[oh,f]
 have d:(IF s.heap o1 l).objs.size=s.heap.objs.size+3:=by rw[oh,e]
 have b:(JF s.heap o1 l).objs.size=s.heap.objs.size+4:=by rw[oh,d]
 have j:(zz s.heap o1 l).get? (JF s.heap o1 l).objs.size=some _:=Ve _ rfl;have k:(zz s.heap o1 l).get? (IF s.heap o1 l).objs.size=some _:=Lc _<|Ve _ rfl;have m:(zz s.heap o1 l).get? (HF s.heap o1 l).objs.size=some _:=Lc _<|Lc _<|Ve _ rfl;have n:(zz s.heap o1 l).get? (GF s.heap o1).objs.size=some _:=Lc _<|Lc _<|Lc _<|Ve _ rfl;rw[e,d,b]at j;rw[f,e]at m;rw[d]at k;rw[f]at n;rw[b];exact⟨⟨_,j,rfl⟩,h _ j m k (Lc _<|Lc _<|Lc _<|Lc _<|Ve _ i) ⟨_,n,rfl,rfl⟩ (by rw[oh,b]) λc o x=>
  Lc _ (Lc _<|Lc _<|Lc _<|Lc _ x)⟩
def ř(b:A.handled=none)(a:Addr)(x:Str)(t:Tok){n:String}(d:n="str_ascii_iterator"\/n="str_iterator") :
  Draws prog w A a [a] x.cps.size (λi v=>∃c u,x.cps[i]?=some c/\v=.str ⟨#[c]⟩ u) (λi h=>h.IsStrIter a n x t i):=by
 rcases d with rfl|rfl
 .exact Draws.strAscii b a x t
 exact Draws.strWide b a x t
def bJ4(d:A.handled=none){a:Addr} {t:Tok} {n:String} (g:n="str_ascii_iterator"\/n="str_iterator") {Q:bv} (st:s.heap.IsStrIter a n x t i) (c:x.cps[i]?=none)
  (f:∀b e,Heap.ExtBut a s.heap b->(∃o,b.get? e=some o/\o.cls=.type "StopIteration")->E (.ref e) {s with heap:=b}):wpAny (model prog w) A (Builtin.SmallTypes.nextOf<|.ref a) Q E s:=by
 rcases g with rfl|rfl
 .exact wpAny_nextOf_ascii_end d st c f
 exact wpAny_nextOf_wide_end d st c f
def nS(x:Str):strIterType x="str_ascii_iterator"\/strIterType x="str_iterator":=by
 unfold strIterType;split<;>simp
end
structure sv(X:Cx)(i1:Addr)(fp:db)(St:zn)(src:Do):Prop where
 ob:∀i h,St i h->∃o,h.get? i1=some o/\∀v,o.data≠.cell v
 keep:∀i h h',St i h->(∀o,h.get? i1=some o->h'.get? i1=some o)->St i h'
 dr:∀(Y:Cx),Y.prog=X.prog->Y.w=X.w->Y.K=X.K->Y.A.handled=none->∀(i:Nat) ba s σ H ys,za Y ba σ H s->src H ys->St i s.heap->∃Pv Us,Draws X.prog X.w Y.A.in1 i1 fp ys.length Pv Us/\Us i s.heap/\(∀k h,Us k h->St k h)/\(∀y v,ys[i]?=some y->Pv i v->RelV y v)/\
  (ys.length<=i->∀(s:Shared)(Q E:bv),Us i s.heap->(∀h' e,Heap.ExtBut i1 s.heap h'->(∃o,h'.get? e=some o/\o.cls=.type "StopIteration")->E (.ref e) {s with heap:=h'})->wpAny (model X.prog X.w) Y.A.in1 (Builtin.SmallTypes.nextOf<|.ref i1) Q E s)/\∀zs,src H zs->zs=ys
def NF(K:Frag)(b:Do)(a:Addr):It:=
 ⟨λi H=>∃ys y xs x,b H ys/\ys[i]?=some y/\Dc K H a xs/\xs[i]?=some x,λi H x d=>∃T c v,x=V.ref T/\H T=none/\(∀ys,b H ys->ys[i]?=some c)/\d=Ua H T (.tup [c,v])/\∀xs,Dc K H a xs->xs[i]?=some v,λi H=>∃ys xs,b H ys/\Dc K H a xs/\(ys.length<=i\/xs.length<=i)⟩
theorem bEz{x1} {St:zn} (a z TI TO g f:Addr) (Z:sv X g fp St src) (D:Og z TI TO g f a fp) :
  Turn X.prog X.w X.K (.Tuple Kh x1 tp) (NF X.K src a) [z,TI,TO,g,f] z (λi h=>IsZip h z TI TO .none/\IsPair h TI (.ref g) (.ref f)/\(∃u v,IsPair h TO u v)/\St i h/\h.IsListIter f a i) where
 mem:=by simp
 obj:=λi h st b d=>by
  obtain⟨r,A,⟨u,v,B⟩,C,⟨o2,q2,c2,d2⟩⟩:=st;simp only[mem_cons,not_mem_nil,or_false]at d;rcases d with rfl|rfl|rfl|rfl|rfl
  .exact⟨_,r,λv z=>by cases z⟩
  .exact⟨_,A,λv z=>by cases z⟩
  .exact⟨_,B,λv z=>by cases z⟩
  .exact Z.ob i h C
  .exact⟨o2,q2,λv z=>by rw[d2]at z;cases z⟩
 keep:=λi h L st k=>by
  obtain⟨r,A,⟨u,v,B⟩,C,K⟩:=st;exact⟨k z (by simp) _ r,k TI (by simp) _ A,⟨u,v,k TO (by simp) _ B⟩,Z.keep i h L C<|k g<|by simp,K.at λo x=>k f (by simp) o x⟩
 item:=by
  intro Y hP hw J hc i U s σ H E I P st hg;obtain⟨r,A,⟨u0,v0,B⟩,C,K⟩:=st;obtain⟨V,y1,xs,x,Ru,DP,G,j⟩:=hg;have T:=I.ok.hd hc;obtain⟨Pv,Us,Dr,PQ,sk,MQ,_,uq⟩:=Z.dr Y hP hw J T i U s σ H V I Ru C;rw[<-J]at G;obtain⟨Ia,rv,p,_⟩:=I.list G;obtain⟨u,hu,ru⟩:=rv.get j;have t:∀b∈[z,TI,TO,g,f],H b=none:=λb d=>(P b d).1
  have hT:H s.heap.objs.size=none:=I.Xa.fresh<|Cb _;have Q:s.TypeIs (.ref z) "zip":=⟨_,r,rfl⟩;unfold pyNext;refine Oa<|UD (eD Q ED
   (MD ED Q V6
    (bEy Dr D r (CV r) A B PQ (pe.mp DP).1 K p.isList (by simpa using hu) λL tk v hPv a1 a2 a3 a4 a5 a6 hk=>wpAny_pure ?_) (PySem.F.args_zip_next_1 _)))
  refine⟨_,rfl,wpAny_letOwnedTupleGo_zip a1 λh9 hz9 sb=>?_⟩
  have Bp:∀b o,b≠z->b≠TO->b≠g->b≠f->s.heap.get? b=some o->h9.get? b=some o:=λb o e1 e2 e3 e4 q=>(sb.2 b e1).trans<|hk b o e1 e2 e3 e4 q
  have W:z≠s.heap.objs.size:=Bf<|Uc r;have sP:h9.get? s.heap.objs.size=some {cls:=.type "tuple",data:=.seq #[v,u]}:=(sb.2 _ W.symm).trans a5;have nT:∀b l,H b=some l->b≠s.heap.objs.size:=λb l q=>aP q hT
  have nx:∀b l,H b=some l->b≠z/\b≠TO/\b≠g/\b≠f:=λb l q=>⟨aP q<|t z<|by simp,aP q<|t TO<|by simp,aP q<|t g<|by simp,aP q<|t f<|by simp⟩
  have mx:∀b:Addr,b∉[z,TI,TO,g,f]->b≠z/\b≠TO/\b≠g/\b≠f:=λb d=>⟨λq=>d (by simp[q]),λq=>d (by simp[q]),λq=>d (by simp[q]),λq=>d<|by simp[q]⟩
  have O:∀b o,s.heap.get? b=some o->b≠s.heap.objs.size:=λb o q=>Bf<|Uc q
  have F:∀b o,b∉[z,TI,TO,g,f]->s.heap.get? b=some o->h9.get? b=some o:=λb o d q=>Bp b o (mx b d).1 (mx b d).2.1 (mx b d).2.2.1 (mx b d).2.2.2 q
  have un:Un (Dk Y.stack) [z,TI,TO,g,f] H (Ua H s.heap.objs.size<|.tup [y1,x]) s.heap h9:=by
   refine⟨λb o q n d j=>F b o j q,λb o q n d j=>⟨o.slots,F b o j q⟩,λb o q n j=>by rw[bA<|O b o q];exact n,λb o q j=>⟨o,F b o j q⟩,λb ys q=>by rw[bA<|nT b _ q];exact q,λb o l q=>by rw[bA<|nT b _ q];exact q,λb ps q=>⟨#[],by rw[bA<|nT b _ q,Array.append_empty];exact q⟩⟩
  have Xa:Je Y.prog Y.w (Ua H s.heap.objs.size<|.tup [y1,x]) h9:=λb l q=>by
   by_cases d:b=s.heap.objs.size
   .subst d;rw[bG]at q;cases q;exact⟨show 2<=sizeLine by decide,[v,u],.cons (MQ _ _ DP hPv)<|.cons ru .nil,_,sP,rfl,_,rfl⟩
   .rw[bA d]at q;refine(I.Xa b l q).ug (λc v Ll m=>?_) (λc m=>by rw[bA<|nT c _ m];exact m) λc ys m=>by rw[bA<|nT c _ m];exact m
    have:∃N,H c=some N:=by
     rcases Ll with z|z
     .exact⟨l,by rw[z];exact q⟩
     .exact⟨_,z⟩
    obtain⟨N,M⟩:=this;obtain⟨e1,e2,e3,e4⟩:=nx c _ M;exact Bp c v e1 e2 e3 e4 m
  have I2:za Y U σ _ {s with heap:=h9,toks:=tk}:=I.call un Xa I.bare λb d=>by
   have w:=P b d;exact⟨w.2.2.2.1,w.2.1,w.2.2.2.2.1,w.2.2.2.2.2⟩
  have R:∀b o,b≠z->L.get? b=some o->h9.get? b=some o:=λb o e q=>(sb.2 b e).trans q
  refine⟨.ref s.heap.objs.size,_,I2,rfl,⟨_,y1,x,rfl,hT,λys S=>by rw[uq ys S];exact DP,rfl,λys S=>by rw[<-J]at S;rw[I.lg S G];exact j⟩,⟨hz9,R _ _ D.TIz<|hk _ _ D.TIz D.TITO D.TIi1 D.TIi2 A,⟨_,_,R _ _ D.TOz a2⟩,Z.keep _ _ _ (sk _ _ a3) λo y=>R _ o D.i1z y,a4.at λo y=>R _ o D.i2z y⟩,λb d=>?_⟩
  .have hbs:∃o,s.heap.get? b=some o:=by
    simp only[mem_cons,not_mem_nil,or_false]at d;obtain⟨o1,q1,_⟩:=Z.ob i _ C;obtain⟨o2,q2,_⟩:=K;rcases d with rfl|rfl|rfl|rfl|rfl
    .exact⟨_,r⟩
    .exact⟨_,A⟩
    .exact⟨_,B⟩
    .exact⟨_,q1⟩
    .exact⟨_,q2⟩
   obtain⟨o,q⟩:=hbs;rw[bA<|O b o q];exact t b d
 done:=by
  intro Y hP hw J hc i U s σ H E I P st hg;obtain⟨r,A,⟨u0,v0,B⟩,C,K⟩:=st;obtain⟨V,xs,Ru,G,j⟩:=hg;have T:=I.ok.hd hc;obtain⟨Pv,Us,Dr,PQ,sk,_,en,_⟩:=Z.dr Y hP hw J T i U s σ H V I Ru C;rw[<-J]at G;obtain⟨Ia,rv,p,_⟩:=I.list G;have Q:s.TypeIs (.ref z) "zip":=⟨_,r,rfl⟩;have hl:=rv.length;refine Oa<|UD (eD Q ED
   (MD ED Q V6
    (bJ3 Dr T D r (CV r) A B PQ K p.isList (by
     by_cases hi:V.length<=i
     .exact .inl (en hi)
     .exact .inr ⟨by lia,by simp;lia⟩) λL e tk hk he=>?_) (PySem.F.args_zip_next_1 _)))
  obtain⟨o,ho,Sn⟩:=he;refine Oa<|wpAny_isInstance ⟨o,ho,Sn⟩ isSubtype_stop ?_;refine vc ⟨rfl,?_⟩;have t:=λb d=>(P b d).1
  have mx:∀b:Addr,b∉[z,TI,TO,g,f]->b≠z/\b≠TO/\b≠g/\b≠f:=λb d=>⟨λq=>d (by simp[q]),λq=>d (by simp[q]),λq=>d (by simp[q]),λq=>d<|by simp[q]⟩
  have F:=λb o d q=>hk b o (mx b d).1 (mx b d).2.1 (mx b d).2.2.1 (mx b d).2.2.2 q
  have un:Un (Dk Y.stack) [z,TI,TO,g,f] H H s.heap L:=
   ⟨λb o q n d j=>F b o j q,λb o q n d j=>⟨o.slots,F b o j q⟩,λb o q n j=>n,λb o q j=>⟨o,F b o j q⟩,λb ys q=>q,λb o l q=>q,λb ps q=>⟨#[],by exact q⟩⟩
  have Xa:Je Y.prog Y.w H L:=λb l q=>by
   refine(I.Xa b l q).ug (λc v Ll m=>?_) (λc m=>m) λc ys m=>m
   have:∃N,H c=some N:=by
    rcases Ll with z|z
    .exact⟨l,by rw[z];exact q⟩
    .exact⟨_,z⟩
   obtain⟨N,M⟩:=this;exact hk c v (aP M<|t z<|by simp) (aP M<|t TO<|by simp) (aP M<|t g<|by simp) (aP M<|t f<|by simp) m
  exact I.call un Xa I.bare λb d=>by
   have w:=P b d;exact⟨w.2.2.2.1,w.2.1,w.2.2.2.2.1,w.2.2.2.2.2⟩
 self:=λ_ _ _ _ _ st h=>wpAny_pyIter_zip st.1 h
def ix(a ds:im):im:=List.zipWith (λc e=>.tup [c,e]) a ds
section
variable{X:Cx}{B:db}{a b:Expr}{f g:Ex}{pos:Pos}
theorem bN7{K:Frag} {l:Addr} (hs:∀j f,Le A H j f->src f us) (k:bI K (hide (A++B) H) zs us) (s:Dc K (hide (A++B) H) l vs) (r:bI K (hide (A++B) H) ds vs):iu K B A H (NF K src l) (ix zs ds):=by
 intro j f le g i;have h:=(bB _ _).seq<|(Le.app le).seq s;have a:=hs j f le;refine⟨λd hd=>?_,λhl=>⟨us,vs,a,h,?_⟩⟩
 .obtain⟨c,e,z,w,rfl⟩:=List.getElem?_zipWith_eq_some.mp hd;obtain⟨u,n,q⟩:=k.get z;obtain⟨v,m,p⟩:=r.get w;refine⟨⟨us,u,vs,v,a,n,h,m⟩,λx F y=>?_⟩
  obtain⟨T,E,D,rfl,o,C,rfl,t⟩:=y;have b:=t vs h;rw[m]at b;cases b;have b:=C us a;rw[n]at b;cases b;exact⟨cI o,KS g o<|.cons (q.mono<|Le.app le)<|.cons (p.mono<|Le.app le) .nil⟩
 unfold ix at hl;rw[List.length_zipWith]at hl;rw[r.length,k.length];lia
def TL(X:Cx)(B:db)(d:D)(g:im):Prop:=∀{ba s σ H A v u},za X ba σ H s->jb X.K (hide (A++B) H) d v->L2.RelV v u->∃o e St a c,RL u o s/\o.isFreed=false/\(∀b∈e,b<=s.heap.objs.size)/\sv X s.heap.objs.size e St a/\(∀h:Heap,h.get? s.heap.objs.size=some o->St 0 h)/\bI X.K (hide (A++B) H) g c/\∀i f,Le A H i f->a f c
def D0{x1}{p:Pos}(r:∀st ds,it st=.ok ds->∃x h i,f st=.ok x/\g st=.ok (.lst i)/\TL X B x h/\ds=ix h i)(Q:X.mg "zip"=none)(U:PE X a (tI X.K B f))(d:PE X b (tI X.K B g))(S:Gl X "zip")(hs:starEach [a,b] X.env=(false,eval a X.env)::starEach [b] X.env)(E:starEach [b] X.env=[(false,eval b X.env)]):L2.PI X (.Tuple Kh x1 tp) (.Call (.Name "zip" p) [a,b] [] pos) (Ti X.K B it):=by
 intro ba s σ H Rq I ⟨A,st,ds,y,T,q⟩;obtain⟨x,h,i,P,O,V,rfl⟩:=r st ds T;refine Call_<|Bo I S Q boot_zip<|kx (Kb ((cF U (cF d eV E) hs) pos ba s σ H (λt H1=>∃v w,t=[v,w]/\bF H H1/\jb X.K (hide _ H1) _ v/\jb X.K (hide _ H1) _ w) I ⟨A,st,_,y,P,λv H1 s1 r1=>⟨A,st,_,y.mono s1,O,λw H2 u M=>⟨v,w,rfl,s1.trans u,r1.mono<|bF.hide u,M⟩⟩⟩) λus s1 ⟨t,H1,I1,r1,v,w,hv,sm,rv,jf⟩=>?_) hs<|by rw[E];rfl
 subst hv;obtain⟨k,j,rfl,n,c⟩:∃k j,us=[k,j]/\L2.RelV v k/\L2.RelV w j:=by
  cases r1 with
  |cons n c=>
   cases c with
   |cons c L=>
    cases L;exact⟨_,_,rfl,n,c⟩
 obtain⟨l,ts,rfl,D,J⟩:=fJ.mp jf;subst c;obtain⟨Ia,G,z,hz⟩:=I1.list<|(bB _ _).seq D;obtain⟨o,fp,St,m,F,f1,f2,f3,f4,Z,Y,W⟩:=V I1 rv n;refine Ř f1 f2 z.isList λh' C Ei K Nl N tj R=>wpAny_pyIter_zip C ⟨s1.heap.objs.size+4,[s1.heap.objs.size+4,s1.heap.objs.size+2,s1.heap.objs.size+3,s1.heap.objs.size,s1.heap.objs.size+1],_,NF X.K m l,H1,rfl,I1.kept R,bEz l _ _ _ s1.heap.objs.size _ f4<|ĉ (by
  obtain⟨o,e,_⟩:=z.isList;exact Uc e) f3,⟨C,Ei,⟨_,_,K⟩,Z _ Nl,N⟩,λb d=>?_,q _ H1 sm<|bN7 W Y D J⟩
 simp at d;rcases d with rfl|rfl|rfl|rfl|rfl<;>exact I1.Ci (by simp)<|I1.Xa.fresh<|by simp
theorem F0:∀(z:am)(ds:im),Zw z ds=ix (z.map λc=>.str [c]) ds
 |[],ds=>rfl
 |c::z,[]=>rfl
 |c::z,d::ds=>congrArg _<|F0 z ds
theorem OT{K:Frag}{H:Hp}:∀z:am,bI K H (z.map λc=>.str [c]) (z.map λc=>V.str ⟨#[c]⟩)
 |[]=>.nil
 |_::z=>.cons (dI.mpr rfl)<|OT z
def bN9(z:am):TL X B (.str z) (z.map λc=>.str [c]):=by
 intro m s σ H A v u I r e;have l:=dI.mp r;subst l;obtain⟨t,rfl⟩:=(e);refine⟨{cls:=.type<|strIterType ⟨z.toArray⟩,data:=.fields #[.str ⟨z.toArray⟩ t,.int 0 0]},[s.heap.objs.size],λi h=>h.IsStrIter s.heap.objs.size (strIterType ⟨z.toArray⟩) ⟨z.toArray⟩ t i,λ_ L=>L=z.map λc=>V.str ⟨#[c]⟩,_,λa w A E Q q=>wpAny_pyIter_strU q,rfl,λb g=>by rw[Fe.mp g];exact Cb _,⟨λi h ⟨o,q,c,d⟩=>⟨o,q,λv z=>by rw[d]at z;cases z⟩,λi h D ⟨o,q,r⟩ k=>⟨o,k o q,r⟩,λY x p C hh i m n σ H ys I hq st=>?_⟩,λh q=>⟨_,q,rfl,rfl⟩,OT z,λ_ _ _=>rfl⟩
 subst hq;rw[lc];refine⟨_,_,ř (A:=Y.A.in1) hh _ ⟨z.toArray⟩ t<|nS _,st,λ_ _ h=>h,λy v h1 ⟨c,w,h2,h3⟩=>?_,λf s Q E st j=>bJ4 (A:=Y.A.in1) hh (nS _) st (by simpa using f) j,λ_ h=>h⟩
 rw[Nj]at h1;rw[LD]at h2;rw[h2]at h1;cases h1;exact⟨w,h3⟩
def bNa{x1}{p:Pos}(h:X.mg "zip"=none)(k:PE X a (tI X.K B f))(j:PE X b (tI X.K B g))(i:Gl X "zip":=by rfl)(hs:starEach [a,b] X.env=(false,eval a X.env)::starEach [b] X.env:=by rfl)(m:starEach [b] X.env=[(false,eval b X.env)]:=by rfl):L2.PI X (.Tuple Kh x1 tp) (.Call (.Name "zip" p) [a,b] [] pos) (Ti X.K B<|K4 f g):=by
 refine D0 (λst ds hd=>?_) h k j i hs m
 obtain⟨x,e,l⟩:=R.ja hd;obtain⟨y,d,c⟩:=R.ja l;split at c
 rotate_left
 .cases c
 cases c;exact⟨_,_,_,e,d,bN9 _,F0 _ _⟩
end
section
variable {q:Pos}
def bNb{f:TA}(i:X.mg "range"=none)(l:PA X [a] f)(k:Gl X "range":=by rfl)(hs:starEach [a] X.env=[(false,eval a X.env)]:=by rfl) :
  PE X (.Call (.Name "range" p1) [a] [] q) (λc H Q=>f c H λvs d=>∃j:Int,vs=[.int j]/\∀r,d r=none->Q (.ref r) (Ua d r<|.Cs 0 j)):=by
 intro m s c H Q I h;refine Call_<|Bo I k i boot_range<|kx (Kb (l q m s c H _ I h) λn s1 ⟨vs,d,I1,r1,j,e,qq⟩=>?_) hs rfl
 subst e;cases r1 with
 |cons r g=>
  cases g;obtain⟨t,rfl⟩:=r;exact call_range_1 ⟨.ref s1.heap.objs.size,_,I1.laid (o:=.Cs 0 j) (λb o e=>Lc _ e) (Cb _) ⟨_,_,_,Ve _ rfl⟩,rfl,qq _<|I1.Xa.fresh<|Cb _⟩
theorem Ϛ(B:X.calm=true):nJ X (.type "list") (λvs H Q=>∃r,∃j:Int,vs=[.ref r]/\H r=some (.Cs 0 j)/\-10000000<=j/\j<=10000000/\∀n,H n=none->Q (.ref n) (Ua H n<|.lst<|(List.range j.toNat).map λ(k:Nat)=>V.int (k:Int))):=by
 intro M s σ H vs F Q I r h;obtain⟨l,j,rfl,z,K,J,q⟩:=h;obtain⟨u,rfl,g⟩:=r.one;obtain rfl:u=Value.ref l:=g;obtain⟨t,u,v,p⟩:=((I.Xa l _ z));have x:Builtin.Range.rangeSize 0 j 1=j.toNat:=by rw[rangeSize_one];split<;>lia
 refine call_list_range (I.ok.hd B) p (small_one (by lia) (by lia) (by lia)<|by lia) x (by lia) λL G i E b o A=>⟨.ref s.heap.objs.size,_,I.laid (o:=.lst _) b (Cb _) ⟨?_,i.toList,E,?_,by simpa using o⟩,rfl,q _<|I.Xa.fresh<|Nat.le_refl _⟩
 .rw[lc,Gu,Km];lia
 obtain⟨D,C⟩:=A;have c:∀(n:Nat)(xs:jp),xs.length=n->(∀(k:Nat) w,xs[k]?=some w->∃t,w=.int (0+k*1) t)->Ha ((List.range n).map λ(k:Nat)=>V.int k) xs:=by
  intro n
  induction n with
  |zero=>intro xs a _;rw[Kn.mp a];exact .nil
  |succ n m=>
   intro xs a f;obtain⟨ys,y,rfl⟩:∃ys y,xs=ys++[y]:=by
    rcases CD xs with e|⟨ys,y,e⟩
    .rw[e]at a;simp at a
    exact⟨ys,y,by rw[e,DD]⟩
   have d:=by simpa using a
   rw[nN,Zi];refine(m ys d λk w b=>?_).append (.cons ?_ .nil)
   .exact f k w (by rwa [Yk (pe.mp b).1])
   obtain⟨t,e⟩:=f n y (by rw[Lq (by lia),d];simp)
   exact⟨t,by rw[e];simp⟩
 exact c _ _ (by simpa using D) λk w b=>by
  obtain⟨t,e⟩:=C k w (by simpa using b)
  exact⟨t,e⟩
def ċ{K:Frag} (n:Nat):bI K H (jU 0 n) ((List.range n).map λ(k:Nat)=>V.int (k:Int)):=by
 unfold jU;generalize List.range n=l
 induction l with
 |nil=>exact .nil
 |cons x l a=>exact .cons (bJ.mpr<|by rw[DN]) a
theorem OX(l:X.mg "list"=none)(b:X.mg "range"=none)(p:X.calm=true)(s:PE X a (tP X.K B f))(m:Gl X "list":=by rfl)(u:Gl X "range":=by rfl)(hs:Cd a [] X.env:=by rfl)(w:starEach [Expr.Call (.Name "range" p1) [a] [] q] X.env=(false,eval (.Call (.Name "range" p1) [a] [] q) X.env)::starEach [] X.env:=by rfl) :
  PE X (.Call (.Name "list" p0) [.Call (.Name "range" p1) [a] [] q] [] pos) (tI X.K B<|e1 Mv f):=by
 refine cD (uK (Ϛ p) m l rfl<|cF (bNb b (cF s eV hs) u hs) eV w) ?_
 rintro σ H Q ⟨A,st,d,e,o,i⟩;obtain⟨x,k,h⟩:=R.ja o;refine⟨A,st,x,e,k,λv y s1 r1=>?_⟩
 cases x<;>first|(cases h)|skip
 rename_i j;obtain⟨c,t⟩:=aH h;cases t;rw[oH]at c;exact⟨j,by rw[r1.int],λr b=>⟨r,j,rfl,bG,by lia,by lia,λn g=>i _ _ (s1.trans<|(cI b).trans<|cI g)<|pC (e.own.mono<|s1.trans<|cI (o:=.Cs 0 j) b) g<|ċ _⟩⟩
theorem bJ5(i:Nat) {q:Pos} (j:PE X a (tI X.K B g)) (t:PE X b (tI X.K B f)) (D:X.N.Nodup) (hi:X.N[i]?=some x:=by rfl) (s:Loc X.env.scope x:=by exact zj rfl) (hs:Uh (.Dict [some a] [b] q) (some<|.Name x pos') pos.line X.env:=by rfl)
  (y:Sh X x:=by first|exact .inl rfl|exact .inr rfl|assumption):PS X (.Assign [.Name x pos'] (.Dict [some a] [b] q) pos) (tS X.K B<|UJ i g f):=iZ (iq D hi s (bGr (Ź j t bGq) rfl rfl (by simp)<|show 1<=15 by lia) hs y) (by
 rintro P σ H ⟨A,st,r,h,w,p⟩;obtain⟨k,j,I⟩:=R.ja w;obtain⟨d,C,F⟩:=R.ja I;obtain⟨⟨N,M⟩,E⟩:=aH F;cases E;intro a l;refine⟨A,st,k,h.mono<|cI l,j,λu O s1 r1=>⟨A,st,d,(h.mono<|cI l).mono s1,C,λv H2 s2 r2=>?_⟩⟩
 obtain⟨c,K,J⟩:∃c:Key,lO c=k/\u=kV c:=by
  cases k<;>first|(cases N;done)|skip
  .exact⟨.inl _,rfl,bJ.mp r1⟩
  refine⟨.inr ⟨_⟩,?_,dI.mp r1⟩;simp[lO]
 refine⟨(s2 _ _<|s1 _ _ bG),[(c,v)],by rw[J];rfl,(show 1<=15 by lia),?_⟩
 let G:=λb=>if b=a then none else H2 b
 have m:bF H G:=λb o z=>by
  have e:=aP z l;show (if b=a then none else H2 b)=_
  rw[Ea e];exact s2 _ _<|s1 _ _<|by rwa [bA e]
 have n:G a=none:=Ka rfl;have L:Ua H2 a (.dK<|aw [] [(c,v)])=Ua G a (.dK [(c,v)]):=by
  funext b
  by_cases e:b=a
  .subst e;rw[bG,bG];rfl
  rw[bA e,bA e];exact(Ea e).symm
 rw[L];exact p _ _ _ ((Le.of m).trans<|qw n)<|(h.mono m).ik i n (.inl ⟨rfl,[(c,v)],rfl,by rw[<-K];rfl,rfl⟩)<|.cons ((aI M r2).mono EJ) .nil)
end
def bitAnd_nn{i j:Int}(b:0<=i)(a:0<=j):Builtin.bitAnd i j=((i.toNat&&&j.toNat:Nat):Int):=by
 unfold Builtin.bitAnd;rw[Cc b,Cc a]
theorem bF1{i j:Int}(b:0<=i)(a:0<=j):Builtin.bitOr i j=((i.toNat|||j.toNat:Nat):Int):=by
 unfold Builtin.bitOr Builtin.bitAnd;rw[Qc (by unfold Builtin.bitNot;lia),Qc (by unfold Builtin.bitNot;lia)]
 have e1:Builtin.bitNot (Builtin.bitNot i)=i:=by unfold Builtin.bitNot;lia
 have e2:Builtin.bitNot (Builtin.bitNot j)=j:=by unfold Builtin.bitNot;lia
 unfold Builtin.bitNot;lia
section
variable {o:Expr}
def Mw(i:PE X a (tP X.K B f))(h:PE X b (tP X.K B g)):PE X (.BinOp a .LShift b pos) (tI X.K B<|e2 Lj f g):=
 Gm bL3 (ow (λ_ _ _=>bJ.mpr rfl) λx y d e=>by
  unfold Lj at e;split at e
  .obtain⟨c,e⟩:=aH e;cases e;exact⟨_,_,rfl,rfl,c,rfl⟩
  cases e) i h
def Wo(i:PE X a (tP X.K B f))(h:PE X b (tP X.K B g)):PE X (.BinOp a .RShift b pos) (tI X.K B<|e2 Wi f g):=
 Gm bL4 (ow (λ_ _ _=>bJ.mpr rfl) λx y d e=>by
  unfold Wi at e;split at e
  .obtain⟨c,e⟩:=aH e;cases e;exact⟨_,_,rfl,rfl,c,rfl⟩
  cases e) i h
def yX(i:PE X a (tP X.K B f))(h:PE X b (tP X.K B g)):PE X (.BinOp a .BitAnd b pos) (tI X.K B<|e2 yh f g):=
 Gm bL5 (yR (λ_ _ _=>bJ.mpr rfl) λx y d e=>by
  unfold yh at e;split at e
  .obtain⟨c,e⟩:=aH e;cases e;exact⟨_,_,rfl,rfl,by rw[bitAnd_nn c.1 c.2]⟩
  cases e) i h
def Nw(i:PE X a (tP X.K B f))(h:PE X b (tP X.K B g)):PE X (.BinOp a .BitOr b pos) (tI X.K B<|e2 Dl f g):=
 Gm bOs (yR (λ_ _ _=>bJ.mpr rfl) λx y d e=>by
  unfold Dl at e;split at e
  .obtain⟨c,e⟩:=aH e;cases e;exact⟨_,_,rfl,rfl,by rw[bF1 c.1 c.2]⟩
  cases e) i h
theorem QT{K:Frag}{H:Hp}:∀{l:lv}{vs:nw},bI K H (l.map D.int) vs->vs=l.map V.int
 |[],vs,h=>cU.mp h
 |i::l,vs,h=>by
  obtain⟨v,r,rfl,b,a⟩:=bN.mp h;rw[bJ.mp b,QT a];rfl
theorem gc:∀{l:lv}{a:jp},Ha (l.map V.int) a->∀(j:Nat)(h:j<a.length),∃i t,l[j]?=some i/\a[j]=.int i t
 |[],a,r,j,h=>by cases r;simp at h
 |i::l,a,r,j,h=>by
  cases r with
  |cons d c=>
   obtain⟨t,rfl⟩:=d;cases j with
   |zero=>exact⟨i,t,rfl,rfl⟩
   |succ j=>
    obtain⟨e,b,g,f⟩:=gc c j _;exact⟨e,b,by simpa using g,by simpa using f⟩
theorem Ś:Hj X "list.index" (λx vs H Q=>∃(p:Addr)(l:lv)(k:Int)(n:Nat),x=V.ref p/\vs=[.int k]/\Dc X.K H p (l.map V.int)/\l.findIdx? (λi=>i==k)=some n/\l.length<=10000000/\Q (.int (n:Int)) H):=by
 intro P s σ H x vs v M Q I j o h;obtain⟨p,l,k,n,rfl,rfl,z,A,O,q⟩:=h;obtain⟨u,rfl,r⟩:=o.one;obtain⟨t,rfl⟩:=(r);subst j;obtain⟨f,a,⟨⟨J,G,d,g⟩,w,c,C,_,B⟩,N⟩:=I.list z;have L:=a.length;rw[lc]at L;obtain⟨F,E,D⟩:=W5.mp A;subst C B;have e:n<f.length:=by omega
 refine Yq N6 ⟨_,c,rfl⟩ PySem.F.entry_list_index (PySem.F.args_list_index_2 _ _) (PySem.SeqAt.list_indexAt p f.toArray w G g _ (λy=>match y with|.int i _=>i==k|_=>false) n (by simpa using e) (by lia) ?_ λm hm hmn=>?_) ⟨c,λy hy=>?_,?_⟩
 .obtain⟨i,b,e1,e2⟩:=gc a n e;rw[j7,e2];rw[md F]at e1;cases e1;exact E
 .have K:=by simpa using hm
  obtain⟨i,b,e1,e2⟩:=gc a m K;rw[j7,e2];rw[md (by lia)]at e1
  cases e1;simpa using (D m hmn)
 .obtain⟨m,hm,rfl⟩:=su.mp ((by simpa using hy))
  obtain⟨i,b,e1,e2⟩:=gc a m hm;rw[e2];exact(PySem.MeetsSeq.EqGives.int i k b t).at _ _
 exact⟨.int n,H,I.tok _,⟨_,rfl⟩,q⟩
def bF2{r:yd}(t:PE X o (tP X.K B f))(C:PA X [e] (tA X.K B r))(m:Nf o "index" X.env:=by rfl)
  (L:Oi Ga [e] X.env:=by rfl)
  (h:Gg Pa Ga:=by rfl) (hs:Cd e [] X.env:=by rfl) :
  PE X (.Call (.Attribute o "index" Pa) [e] [] Ga) (tI X.K B<|Ai VB f r):=by
 refine cD (Mt Mq N6 PySem.F.type_list_index Ś t C m L h hs rfl) ?_
 rintro σ H Q ⟨A,st,d,b,z,k⟩;obtain⟨x,s,G⟩:=R.ja z;obtain⟨xs,K,a⟩:=R.ja G;unfold VB at a;split at a
 .rename_i ys j;obtain⟨l,y,F⟩:=R.ja a;obtain⟨n,u,E⟩:=R.ja F;obtain⟨c,D⟩:=aH E;cases D;have I:=uU y;subst I;refine⟨A,st,_,b,s,λv O s1 r1=>?_⟩
  obtain⟨p,N,e1,g,i⟩:=r1.lst;have J:=QT i;subst J;refine⟨by rw[e1];exact .inl ⟨rfl,_,g⟩,A,st,_,b.mono s1,K,λM H2 s2 r2=>?_⟩
  obtain⟨w,rfl,q⟩:=fu r2;rw[oH,lc]at c;exact⟨p,l,j,n,e1,by rw[bJ.mp q],s2.seq g,Ko u,c,k _ H2 (s1.trans s2)<|bJ.mpr rfl⟩
 cases a
def bJ6:Hj X "int.bit_length" (λx vs H Q=>∃i:Int,x=.int i/\vs=[]/\Q (.int ((Builtin.Int.intBits i:Nat):Int)) H):=by
 intro e s σ H x vs v d Q I a b h;obtain⟨i,rfl,rfl,q⟩:=h;obtain⟨t,rfl⟩:=(a);have c:=b.zero;subst c;exact call_int_bit_length ⟨.int _,H,I.tok _,⟨_,rfl⟩,q⟩
def bJ7(i:Int):Builtin.Int.intBits i=vU i:=by
 unfold Builtin.Int.intBits vU
 by_cases h:i=0
 .rw[Ka h,Ka (by rw[h];rfl)]
 rw[Ea h,Ea (by simpa using h)]
def bNc(i:PE X o (tP X.K B f))(g:Nf o "bit_length" X.env:=by rfl)(c:Gg Pa Ga:=by rfl) :
  PE X (.Call (.Attribute o "bit_length" Pa) [] [] Ga) (tI X.K B<|e1 FA f):=by
 refine cD (jq PySem.F.plainAttrs_int PySem.F.slot_int_bit_length PySem.F.type_int_bit_length bJ6 i g c) ?_
 rintro σ H Q ⟨A,st,d,e,j,k⟩;obtain⟨x,h,b⟩:=R.ja j;cases x<;>first|(cases b;done)|skip
 cases b;refine⟨A,st,_,e,h,λv H1 s1 a=>⟨by rw[a.int];rfl,_,a.int,rfl,?_⟩⟩
 rw[bJ7];exact k _ H1 s1<|bJ.mpr rfl
end
section
open PySem.SeqAt
open PySem.AutoSeq1 (wpAny_loadPart')
open PySem.MeetsSeq PySem.MeetsSeq2 PySem.MeetsSeq3
inductive Gj (A:Around) (s:Shared):List Value->List Value->Bool->Prop where
 |nn:Gj A s [] [] true
 |nc {w:Value} {ws:jp}:Gj A s [] (w::ws) true
 |cn {v:Value} {vs:jp}:Gj A s (v::vs) [] false
 |eq {v w:Value} {vs ws:jp} {b:Bool}:EqAt A s v w true->Gj A s vs ws b->Gj A s (v::vs) (w::ws) b
 |lt {v w:Value} {vs ws:jp} {b:Bool}:EqAt A s v w false->(∀(prog:Program)(wd:World)(E Q:bv),Q (.bool b) s->wpAny (model prog wd) A (richCompare .LtE v w) Q E s)->Gj A s (v::vs) (w::ws) b
end
def N3{k:Key} (h:vq k u=true):L2.RelV (kV k) u:=by
 rcases gP h with ⟨i,t,rfl,rfl⟩|⟨x,t,rfl,rfl⟩
 .exact⟨t,rfl⟩
 exact⟨t,rfl⟩
section
def JK{vs:wT}(r:KV ka vs):vs.length=ka.length:=by
 induction r with
 |nil=>rfl
 |cons _ _ a=>simp[a]
end
section
variable {iter c:Expr} {t:Tg} {u:Ex}
def bF4{K:Frag} {st:xa} {p:Addr} (k:RS K B A H st σ) (i:Nat) (f:bF H H1) (g:H1 p=none) (s2:bF H1 H') (m:H' p=some (.lst vs)) (r:bI K (hide (A++p::B) H') ys vs) :
  RS K B (p::A) H' (st.set i<|some<|.o .l ys) (σ.set i<|some<|.ref p)/\Le A H (p::A) H':=by
 let G:=λb=>if b=p then none else H' b
 have d:bF H G:=λb o z=>by
  show (if b=p then none else H' b)=_
  rw[Ea<|aP z (by
  cases h:H p with
  |none=>rfl
  |some o=>rw[f _ _ h]at g;cases g)]
  exact s2 _ _<|f _ _ z
 have c:G p=none:=Ka rfl;have q:Ua G p (.lst vs)=H':=by
  funext b
  by_cases a:b=p
  .subst a;rw[bG,m]
  rw[bA a];exact Ea a
 have n:hide (A++p::B) H'=hide (A++B) G:=by
  funext b
  by_cases a:b∈A++p::B
  .rw[cP a];rcases mem_mid.mp a with e|e
   .subst e
    by_cases j:b∈A++B
    .rw[cP j]
    rw[bH j];exact c.symm
   rw[cP e]
  rw[bH a,bH<|λz=>a<|mem_mid.mpr<|.inr z]
  exact(Ea<|λz=>a<|mem_mid.mpr<|.inl z).symm
 rw[n]at r;have z:=(k.mono d).ik (kk:=.l) i c rfl r;have l:=(Le.of (A:=A) d).trans<|qw (o:=.lst vs) c;rw[q]at z l;exact⟨z,l⟩
def G0(i:Nat){x:Str} (is:am) (hsub:Em is t) (S:Rb X scope is) (hi:L2.PI X tg iter (Ti X.K B it)) (M:∀(B:db)(C:Addr)(c:Shared)(b:Hp)(a:db),PG (fG X scope C c b a) tg<|tG X.K B t)
  (he:∀(B:db)(C:Addr)(c:Shared)(b:Hp)(a:db),PE (fG X scope C c b a) elt<|tI X.K B f) (T:X.calm=true) (U:X.N.Nodup) (n:X.N[i]?=some x:=by rfl) (G:Loc X.env.scope x:=by exact zj rfl)
  (Li:swapsWith (.ListComp elt [⟨tg,iter,[],0⟩] scope pos) (some<|.Name x px) qk.line X.env=pure true:=by rfl)
  (O:Sh X x:=by first|exact .inl rfl|exact .inr rfl|assumption) (hs:∀x,foldedSetIterable iter X.env x=pure x:=by intro _;rfl) :
  PS X (.Assign [.Name x px] (.ListComp elt [⟨tg,iter,[],0⟩] scope pos) qk) (tS X.K B<|rN i<|cL is t it dG f):=by
 intro w s σ H Dn I h;obtain⟨A,st,r,j,J,q⟩:=h;obtain⟨d,P,Z⟩:=R.ja J;obtain⟨xs,Vg,h2⟩:=R.ja P;obtain⟨L,W⟩:=aH h2;obtain⟨ys,F,Y⟩:=R.ja W;cases Y;cases Z;rw[exec_Assign_Name_used _ _ _ _ Li];refine Oa<|Eu<|Oa<|Oa<|zi (uO (Q:=λv y=>Dn.nx (σ.set i<|some v) y) (rest:=λg it p=>eval elt g >>= λx=>call _ [p,x] >>= λ_=>again<|.compLoop _ 0 it p g) S T hi (λC c b a=>ju λB=>M B C c b a) (λ_ _ _=>qT)
  (λC c b a it p s Q h=>QC h) (λC c b a it p τ H s w u N Q I h q=>EC rfl (gx λB=>he B C c b a) τ H s w u N Q I h (λQ Q' m h=>Gv Q Q' m h) q) hs I
  (Jw hsub (λτ H Q ⟨B,A,st,k,j,hk,q⟩=>?_) j Vg L F λp u H1 y s1 hp s2 hv r=>?_) λC p H5 s5 m5 s3 H3 a τ V I3 o I5 Hi E=>rV U n G O V I3 o I5 Hi λD I'=>⟨_,_,I',E⟩) (λ_ D K=>vc<|vc K) λ_ _ e=>e
 .obtain⟨z,l⟩:=bF4 j i s1 hp s2 hv r;exact q _ _ _ l z
 cases hk;exact q H<|bF.refl _
end
theorem DV(l:lv):∀n,n<=l.length->preSum (λi=>l.getD i 0) n=(l.take n).sum
 |0,_=>rfl
 |n+1,h=>by
  show preSum _ n+l.getD n 0=_;rw[DV l n (by lia),Z5 (by lia),List.sum_append,Xi,md (by lia)]
  simp
section
def ś(B:X.calm=true):nJ X (.builtin "sum") (λvs H Q=>∃(p:Addr)(l:lv),vs=[.ref p]/\Dc X.K H p (l.map V.int)/\Q (.int l.sum) H):=by
 intro K s σ H vs F Q I r h;obtain⟨p,l,rfl,y,q⟩:=h;obtain⟨u,rfl,w⟩:=r.one;obtain rfl:u=Value.ref p:=w;obtain⟨c,f,⟨x,n,e,E,_,A⟩,J⟩:=I.list y;have m:=f.length;rw[lc]at m;have k:s.heap.IsList p c.toArray:=⟨x,e,E,n,A⟩;have a:=Uc e;refine call_sum_walkAnyS<|xx k<|⟨s.heap.objs.size,[s.heap.objs.size,p],[s.heap.objs.size],_,c.toArray.size,_,_,λi=>l.getD i 0,rfl,(Walks.list (A:=X.A.in1) (I.ok.hd B) s.heap.objs.size p (Bf a) c.toArray).toS,⟨⟨_,Ve _ rfl,rfl,rfl⟩,k.push _⟩,λb hb=>?_,λi v hv=>?_,λG t' hm=>?_⟩
 .rw[oh];rcases Pb.mp hb with rfl|hb
  .exact Uq _
  rw[Fe.mp hb];exact Nat.lt_succ_of_lt a
 .have d:=by simpa using hv
  have g:=(pe.mp d).1;obtain⟨j,t,D,C⟩:=gc f i g;refine⟨t,?_⟩;rw[md g,C]at d;cases d;show Value.int j t=Value.int (l.getD i 0) t;rw[Xi,D];rfl
 rw[Moved.eq_with hm];refine⟨.int l.sum,H,I.kept<|λb o hb=>hm.heap b o (λz=>?_)<|Lc _ hb,⟨t',?_⟩,q⟩
 .exact absurd (Uc hb) (by rw[Fe.mp z];exact Pg _)
 have:c.toArray.size=l.length:=by simp[m]
 rw[this,DV l l.length<|Cb _,List.take_length]
def bQn(j:X.mg "sum"=none)(n:X.calm=true)(o:PE X a (tP X.K B f))(k:Gl X "sum":=by rfl)(hs:Cd a [] X.env:=by rfl):PE X (.Call (.Name "sum" p0) [a] [] pos) (tI X.K B<|e1 A5 f):=by
 refine cD (pG (ś n) k j rfl (cF o eV hs) (he:=hs)) ?_
 rintro σ H Q ⟨A,st,d,h,m,q⟩;obtain⟨x,i,g⟩:=R.ja m;refine⟨A,st,x,h,i,λv H1 s1 r1=>?_⟩
 cases x<;>first|(cases g)|skip
 obtain⟨is,r,p⟩:=R.ja g;cases p;obtain⟨l,s,e,c,b⟩:=r1.lst;rw[uU r]at b;rw[yD b]at c;exact⟨l,is,by rw[e],c,q _ H1 s1<|bJ.mpr rfl⟩
end
end Pu
namespace Pu
section
open PySem PySem.Spec PyProof.Rows L2
def Yv{K:Frag}:fi K (Wh λi j=>.bl<|decide (i<j)) Fn:=yR (λ_ _ _=>cY.mpr rfl) λx y d e=>by
 unfold Fn at e;split at e
 .cases e;exact⟨_,_,rfl,rfl,rfl⟩
 cases e
def bF5{i j:Int}(c:(-18446744073709551616<i/\i<18446744073709551616)\/(-18446744073709551616<j/\j<18446744073709551616)):Tw i j:=by
 unfold Tw;omega
def yZ(k:PE X a (tP X.K B f))(j:PE X b (tP X.K B g)):PE X (.BinOp a .Mult b pos) (tI X.K B<|e2 rO f g):=by
 refine Gm bL0 ?_ k j;intro A H x y d v u Q w i h e q;unfold rO at e;split at e
 .obtain⟨c,e⟩:=aH e;cases e;exact⟨_,_,i.int,h.int,bF5 c,q _ H (bF.refl _)<|bJ.mpr rfl⟩
 cases e
end
end Pu
namespace Pu
open PySem PySem.Spec PyProof.Rows L2
def bSi{K:Frag} {p:Addr} (c:bF H H1) (e:H1 p=none) (s2:bF H1 H') (d:H' p=some (.lst vs)) (r:bI K (hide (A++p::B) H') ds vs):∃G,bF H G/\G p=none/\Ua G p (.lst vs)=H'/\bI K (hide (A++B) G) ds vs:=by
 let G:=λb=>if b=p then none else H' b
 refine⟨G,λb o z=>?_,(Ka rfl),?_,r.mono λb o z=>?_⟩
 .show (if b=p then none else H' b)=_
  rw[Ea<|aP (c _ _ z) e];exact s2 _ _<|c _ _ z
 .funext b
  by_cases a:b=p
  .subst a;rw[bG,d]
  rw[bA a];exact Ea a
 have a:b∉A++p::B:=λw=>by rw[cP w]at z;cases z
 have f:=bB _ _ _ _ z;rw[bH λw=>a<|mem_mid.mpr<|.inr w]
 show (if b=p then none else H' b)=_
 rwa [Ea λw=>a<|mem_mid.mpr<|.inl w]
section
variable {iter:Expr} {t:Tg} {h:Ex} {rest:List Stmt}
def bNd{is:am}(hi:L2.PI X tg iter (Ti X.K B it))(y:∀(B:db)(C:Addr)(c:Shared)(b:Hp)(a:db),PG (fG X scope C c b a) tg<|tG X.K B t)
  (he:∀(B:db)(C:Addr)(c:Shared)(b:Hp)(a:db),PE (fG X scope C c b a) elt<|tI X.K B f) (D:X.calm=true:=by rfl) (hsub:Em is t:=by exact eu) (S:Rb X scope is:=by exact .of rfl) (hs:∀x,foldedSetIterable iter X.env x=pure x:=by intro _;rfl) :
  PE X (.ListComp elt [⟨tg,iter,[],0⟩] scope pos) (tF X.K B<|cL is t it dG f):=by
 intro l s σ H Q I h;obtain⟨A,st,d,j,z,q⟩:=h;obtain⟨xs,v,K⟩:=R.ja z;obtain⟨w,J⟩:=aH K;obtain⟨ys,u,F⟩:=R.ja J;cases F;refine uO (rest:=λe it p=>eval elt e >>= λx=>call _ [p,x] >>= λ_=>again<|.compLoop _ 0 it p e) S D hi (λC c b a=>ju λB=>y B C c b a) (λ_ _ _=>qT)
  (λC c b a it p s Q h=>QC h) (λC c b a it p τ H s l vs N Q I h q=>EC rfl (gx λB=>he B C c b a) τ H s l vs N Q I h (λQ T m h=>Gv Q T m h) q) hs I
  (Jw hsub (λτ H Q ⟨B,A,st,k,j,hk,q⟩=>?_) j v w u λp vs H1 H' s1 hp s2 hv r=>?_) λC p Y Z o s3 H3 a τ E V i U W n=>⟨o,W,λh' g=>⟨.ref p,Y,Uv V i E U g,rfl,n⟩⟩
 .obtain⟨G,P,O,M,L⟩:=bSi s1 hp s2 hv r;have:=q p vs G P O L
  rwa [M]at this
 cases hk;exact q H<|bF.refl _
end
def sL(v d:Addr):HO:=.ext λh=>h.IsItemsView v d
section
variable {σ:List (Option V)}
def bF7(I:za X ba σ H s)(k:∀b u,s.heap.get? b=some u->h'.get? b=some u)(c:bF H H')(g:∀b,b<s.heap.objs.size->H' b=H b)(d:∀a o,H a=none->H' a=some o->oW X.prog X.w H' h' a o):za X ba σ H' {s with heap:=h',toks:=t'}:=by
 refine I.un ⟨λb u q _ _ _=>k b u q,λb u q _ _ _=>⟨u.slots,k b u q⟩,λb u q n _=>by rwa [g b<|Uc q],λb u q _=>⟨u,k b u q⟩,λb xs q=>c _ _ q,λb u xs q=>c _ _ q,λb h q=>⟨#[],by rw[c _ _ q];simp⟩⟩ λa o e=>?_
 cases f:H a with
 |none=>exact d a o f e
 |some u=>
  have z:=c a u f;rw[e]at z;cases z;exact(I.Xa a _ f).ug (λb v _ q=>k b v q) (λb q=>c _ _ q) λb xs q=>c _ _ q
def bF8:Hj X "dict.items" (λx vs H Q=>∃(d:Addr) (c:ls),x=.ref d/\vs=[]/\H d=some (.dK c)/\∀n,H n=none->Q (.ref n) (Ua H n<|sL n d)):=by
 intro A s σ H x vs v r Q I g i h;obtain⟨d,c,rfl,rfl,a,q⟩:=h;cases g;have p:=i.zero;subst p;obtain⟨w,j,xs,t,f⟩:=Ym I.Xa a;refine qp O6 f.typeIs PySem.F.entry_dict_items (PySem.F.args_dict_items_1 _) (meets_dict_items _ d j) ⟨⟨xs,f⟩,?_⟩;have e:(s.heap.push {cls:=.type "dict_items",data:=.fields #[.ref d]}).get? s.heap.objs.size=some {cls:=.type "dict_items",data:=.fields #[.ref d]}:=Ve _ rfl;exact⟨.ref s.heap.objs.size,_,I.laid (o:=sL s.heap.objs.size d) (λb u q=>Lc _ q) (Cb _) ⟨⟨_,e,rfl,rfl⟩,⟨_,e⟩,λz y ⟨o,l,m,a⟩ k=>⟨o,k o l,m,a⟩⟩,rfl,q _<|I.Xa.fresh<|Cb _⟩
theorem xw:∀{a:ls} {vs:wT} {j:Nat} {k:Key} {x:Value},KV a vs->vs[j]?=some (k,x)->∃p,a[j]?=some p/\p.1=k/\RelV p.2 x
 |_,_,j,k,x,.nil,e=>by simp at e
 |_,_,0,k,x,.cons h _,e=>by
  simp at e;subst e;exact⟨_,rfl,h.1,h.2⟩
 |_,_,j+1,k,x,.cons _ t,e=>by
  obtain⟨p,e1,e2⟩:=xw t (by simpa using e)
  exact⟨p,by simpa using e1,e2⟩
theorem Č(U:X.calm=true):nJ X (.type "list") (λvs H Q=>∃(v d:Addr) (g:ls),vs=[.ref v]/\H v=some (sL v d)/\H d=some (.dK g)/\
  ∀(n:Addr)(ps:db)(t:Hp),bF H t->t n=none->ps.length=g.length->(∀a∈ps,H a=none)->(∀(j:Nat)(a:Addr),ps[j]?=some a->∃p,g[j]?=some p/\t a=some (.tup [kV p.1,p.2]))->Q (.ref n) (Ua t n<|.lst<|ps.map V.ref)):=by
 intro ba s σ H vs us Q I r h;obtain⟨v,d,g,rfl,R,T,q⟩:=h;obtain⟨u,rfl,N⟩:=r.one;obtain rfl:u=Value.ref v:=N;obtain⟨hz,hs,xs,A,Y⟩:=Ym I.Xa T;have Fb:=JK A;obtain⟨ep,Rj⟩:=Y.dictAt;obtain⟨Cy,_,_⟩:=I.Xa v _ R;refine PySem.W.kdx_call (I.ok.hd U) Cy Rj (by lia) λh' tk O c f S W B l F=>?_
 have J:f.Nodup:=l.rise.imp Bf;have lo:=l.above;have y:=λa C=>I.Xa.fresh<|Pj<|lo a C
 let G:=λb=>if b∈f then (g[f.idxOf b]?).map (λp=>.tup [kV p.1,p.2]) else H b
 have w:bF H G:=λb o e=>by
  show (if b∈f then _ else H b)=_
  rwa [Ea λz=>by rw[y b z]at e;cases e]
 have D:G s.heap.objs.size=none:=by
  show (if _∈f then _ else H _)=_
  rw[Ea λz=>Pg _<|lo _ z]
  exact I.Xa.fresh<|Cb _
 have E:∀(j:Nat)(a:Addr),f[j]?=some a->∃p,g[j]?=some p/\G a=some (.tup [kV p.1,p.2]):=λj a e=>by
  obtain⟨i,k,x,e1,e2,e3⟩:=l.pairs j a e;obtain⟨p,L,e5,e6⟩:=xw A e1;refine⟨p,L,?_⟩;show (if a∈f then _ else H a)=_
  rw[Ka<|xi e];obtain⟨m,ej⟩:=pe.mp e;rw[<-ej,J.idxOf_getElem j m,L];rfl
 refine⟨.ref s.heap.objs.size,_,bF7 I S (w.trans<|cI D) (λb hb=>?_)<|λa o C e=>?_,rfl,q _ f G w D (by rwa [B]) y E⟩
 .rw[bA<|Bf hb];show (if b∈f then _ else H b)=_
  rw[Ea λz=>Pg _<|Jx hb<|lo _ z]
 by_cases hb:a=s.heap.objs.size
 .subst hb;rw[bG]at e;cases e;refine⟨by rw[lc,B];lia,O.toList,c,?_,by simpa using W⟩
  rw[F];clear F l J lo y E w D B G
  induction f with
  |nil=>exact .nil
  |cons a f P=>exact .cons rfl P
 rw[bA hb]at e;obtain⟨j,m⟩:=xk.mp (by
  refine si λz=>?_
  have M:(if a∈f then (g[f.idxOf a]?).map _ else H a)=some o:=e
  rw[Ea z,C]at M;cases M)
 obtain⟨p,e1,e2⟩:=E j a m;obtain⟨i,k,x,f1,f2,f3⟩:=l.pairs j a m;obtain⟨p',K,g2,Z⟩:=xw A f1;rw[e1]at K;cases K;rw[e2]at e;cases e;refine⟨by show 2<=16777216;decide,[i,x],.cons ?_<|.cons Z .nil,_,f3,?_⟩
 .rw[g2];exact N3 f2
 exact⟨rfl,_,rfl⟩
theorem RT{K:Frag}{H:Hp}:∀(c:ls) (ds:im) (ps:db),bI K H ds (c.map (·.2))->ps.length=c.length->(∀(j:Nat)(a:Addr),ps[j]?=some a->∃p,c[j]?=some p/\H a=some (.tup [kV p.1,p.2]))->bI K H (List.zipWith (λk d=>.tup [k,d]) (c.map λp=>lO p.1) ds) (ps.map V.ref)
 |[],ds,ps,_,f,_=>by
  rw[Kn.mp f];exact .nil
 |p::c,[],ps,r,_,_=>by
  have:=r.length;simp at this
 |p::c,d::ds,[],_,f,_=>by simp at f
 |p::c,d::ds,a::ps,r,f,h=>by
  obtain⟨v,rest,e,m,l⟩:=bN.mp r;cases e;obtain⟨g,e1,e2⟩:=h 0 a rfl;cases e1;refine .cons (lQ.mpr ⟨a,_,rfl,e2,.cons ?_<|.cons m .nil⟩)<|RT c ds ps l (by simpa using f) λj b n=>?_
  .obtain⟨k,v⟩:=p;cases k with
   |inl i=>exact bJ.mpr rfl
   |inr x=>exact dI.mpr (by simp[kV])
  obtain⟨g,e1,e2⟩:=h (j+1) b (by simpa using n)
  exact⟨g,by simpa using e1,e2⟩
end
section
variable{X:Cx}{B:db}{a e:Expr}{es:List Expr}{f:Ex}{pos p0 Pa Ga:Pos}{sm:Stmt}{rest:List Stmt}{bd mj:Bd}{r:yd}
def bJ8(w:X.mg "list"=none)(C:X.calm=true)(D:PE X a (tI X.K B f))(y:Gl X "list":=by rfl)(s:Nf a "items" X.env:=by rfl)(o:Gg Pa Ga:=by rfl)
  (hs:starEach [.Call (.Attribute a "items" Pa) [] [] Ga] X.env=(false,eval (.Call (.Attribute a "items" Pa) [] [] Ga) X.env)::starEach [] X.env:=by rfl):PE X (.Call (.Name "list" p0) [.Call (.Attribute a "items" Pa) [] [] Ga] [] pos) (tF X.K B<|e1 mB f):=by
 refine cD (uK (Č C) y w rfl<|cF (jq ou O6 PySem.F.type_dict_items bF8 D s o) eV hs) ?_
 rintro σ H Q ⟨A,st,ds,k,z,q⟩;obtain⟨x,u,e⟩:=R.ja z;refine⟨A,st,x,k,u,λv I s1 r1=>?_⟩
 unfold mB at e;split at e
 .obtain⟨c,F⟩:=aH e;cases F;obtain⟨p,G,rfl,E,r⟩:=oF.mp r1;rcases E with ⟨_,d,h,rfl,rfl⟩|⟨h,_⟩
  .have g:=bB _ _ _ _ h;refine⟨.inr<|.inr<|.inl ⟨rfl,.inl ⟨d,g⟩⟩,p,d,rfl,rfl,g,λn hn=>⟨n,p,d,rfl,bG,by rwa [bA<|aP g hn],λm ps H' s2 OO hl hps hp=>?_⟩⟩
   have i:=(cI hn).trans s2;refine q m _ H' (s1.trans i) OO<|RT d _ ps (r.mono<|bF.hide i) hl λj b l=>?_
   obtain⟨t,e1,e2⟩:=hp j b l;exact⟨t,e1,by rwa [bH<|(k.own.mono<|s1.trans<|cI hn).free<|hps b<|xi l]⟩
  cases h
 cases e
def iz(K:Frag)(B:db)(b:Bd)(f:Ex):TS:=λg σ H=>∃A st st' xs,RS K B A H st σ/\b st=.ok (.nx st')/\f st'=.ok (.lst xs)/\∀d a e c,Le A H d c->a∈d->c a=some (.lst e)->bI K (hide (d++B) c) xs e->g.rt (.ref a) c
def FJ(n:PS X sm (tS X.K B bd))(m:Pc X rest (iz X.K B mj f)):Pc X (sm::rest) (iz X.K B (bC bd mj) f):=lB (lG n m) (by
 rintro v σ H ⟨A,st,st',xs,h,k,j,q⟩;obtain⟨e,o,b⟩:=R.ja k;refine⟨A,st,e,h,o,?_⟩;cases e with
 |nx s1=>exact λs t u l c=>⟨s,s1,st',xs,c,b,j,λr a g p i=>q r a g p<|l.trans i⟩
 |rt d=>cases b
 |bk s1=>cases b
 |ct s1=>cases b)
def O3(he:PE X e (tF X.K B f)):Pc X [.Return (some e) pos] (iz X.K B cO f):=lB (vO<|Zv he) (by
 rintro i σ H ⟨A,st,st',xs,c,g,d,q⟩;cases g;exact⟨A,st,xs,c,d,λp b h s a r=>q _ p b _ ((Le.of s).trans<|qw a) zb bG<|r.mono<|yC a⟩)
end
section
variable {K:Frag} {st:Stmt} {f:Addr} {k:Nat}
def Q5(F:Ma K x qual st dV f fd)(S:Tb N ps (bK st))(p n:Nat)(v:Bd)(g:Ex)(W:ps.length=p)(O:N.length=n)
  (i:∀(m:Value)(A:Around)(c:v4)(s:Shared)(H:Hp)(E:XK)(B:db),gb k (A.deeper<|envOfC qual (bK st) s.heap.objs.size f m)->
   Pc (Kj bb P w K mg base N qual (bK st) f m A c s H E).Zj (dH st) (iz K B v g)):Aa P w K mg base bb (k+1) f fd ps (nk K p<|cM p n<|vV v g):=by
 refine F.Vy S (λC H Q E h=>?_)<|λm A c s H C Q E L h=>?_
 .obtain⟨A,ds,d,e,r,t,_⟩:=h;rw[r.length,t,W]
 obtain⟨B,ds,xs,e,r,t,M,q⟩:=h;refine⟨iz K B v g,i m A c s H E B L,?_⟩;obtain⟨_,V⟩:=aH M;obtain⟨Z,j,U⟩:=R.ja V;have y:=Dv (N:=N) e r;rw[t,O]at y;unfold vV at j;split at j
 .rename_i s1 I;obtain⟨d,T,u⟩:=R.ja j;split at u
  .cases u;cases U;refine⟨[],_,s1,_,y,I,T,λA' a D X l ha J G=>q a D X (by
    unfold Le at l;exact l.trans<|bB _ _) ?_ J<|G.mono<|fC λb i=>?_⟩
   .cases Y:H a with
    |none=>rfl
    |some o=>
     have z:=l a o (by rwa [bX])
     rw[cP ha]at z;cases z
   rcases Pb.mp i with rfl|i
   .exact Ke _ ha
   exact se _ i
  cases u
 cases j
def Ŝ(ds:im)(d:D)(h:cM np n (vV bd g) ds=.ok d):∃xs,d=.lst xs:=by
 obtain⟨_,e⟩:=aH h;obtain⟨i,a,c⟩:=R.ja e;unfold vV at a;split at a
 .obtain⟨d,f,b⟩:=R.ja a;split at b
  .cases b;cases c;exact⟨_,rfl⟩
  cases b
 cases a
end
structure ud(P:Program)(w:World)(K:Frag)(mg:kt)(base:Heap)(x:Str)(k np:Nat)(p:cr):Prop where
 ex:∃(fa:Addr)(fd:FuncData)(ps:sB),Aa P w K mg base bb k fa fd ps (nk K np p)/\mg x=some (.ref fa)/\keepIn K (.ref fa)=true/\Binds K fd ps []
 len:∀ds d,p ds=.ok d->ds.length=np
 lst:∀ds d,p ds=.ok d->∃xs,d=.lst xs
def ud.of{K:Frag} {k:Nat} (h:Aa P w K mg base bb k fa fd ps (nk K np<|cM np n<|vV bd g)) (m:mg x=some (.ref fa))
  (a:keepIn K (.ref fa)=true) (b:Binds K fd ps []):ud P w K mg base x k np (cM np n<|vV bd g):=⟨⟨fa,fd,ps,h,m,a,b⟩,Fv,Ŝ⟩
def ud.plain{K:Frag} {k:Nat} (h:ud P w K mg base x k np p):Ba P w K mg base x k np p:=by
 obtain⟨d,c,a,F,m,b,bd⟩:=h.ex;exact⟨⟨d,c,a,AV h.lst F,m,b,bd⟩,h.len⟩
section
variable {r:yd}
def GJ{k:Nat} (h:ud X.prog X.w X.K X.mg X.base x k np p) (o:gb j X.A) (s:k<=j) (w:PA X (e::es) (tA X.K B r)) (t:Gl X x:=by rfl) (D:Yd x:=by decide)
  (he:Cd e es X.env:=by rfl) (je:Lg pos es X.env:=by rfl):PE X (.Call (.Name x p0) (e::es) [] pos) (tF X.K B<|aM p r):=by
 obtain⟨J,I,G,F,m,l,bd⟩:=h.ex;refine cD (Iv F (o.mono s) t m l bd .nil Mo w D he je) ?_
 rintro σ H Q ⟨A,st,d,f,v,q⟩;obtain⟨xs,n,g⟩:=R.ja v;refine⟨A,st,xs,f,n,λE H1 s1 r1=>?_⟩
 show nk X.K np p _ H1 Q E0;rw[Hh];refine⟨A++B,xs,d,f.own.mono s1,r1,h.len _ _ g,g,λa ws H' s' zg hv rv=>?_⟩
 have C:Ua (hide [a] H') a (.lst ws)=H':=by
  funext b
  by_cases c:b=a
  .subst c;rw[bG];exact hv.symm
  rw[bA c,bH (by simpa using c)]
 have z:=q a ws (hide [a] H') (λb u hz=>?_) (cP<|by simp) ?_
 .rwa [C]at z
 .have i:=s1 _ _ hz;rw[bH (by simpa using aP i zg)]
  exact s' _ _ i
 refine rv.mono λb u hz=>?_
 have c:b∉a::(A++B):=λy=>by rw[cP y]at hz;cases hz
 rw[bH λy=>c<|Ab _ y,bH (by simpa using λy=>c<|by rw[y];exact zb)]
 exact bB _ _ _ _ hz
end
structure DA(K:Frag)(n:Str)(st:Stmt):Prop where
 ex:∃(f:Addr)(fd:FuncData),nsIn K mainGlobals n=some (some<|.ref f)/\Ma K n n st .none f fd
section
variable{P:Program}{w:World}{K:Frag}{h base:Heap}{mg:kt}{n:Str}{st:Stmt}{f:Addr}{ps:sB}{k np m:Nat}{p:cr}{bd:Bd}{g:Ex}
def cR{b:pi}{kV:Value} (a:nsIn K mainGlobals n=some (some<|.ref f)) (l:K.lookup f=some ⟨oc,b,.func<|fnOf n n (gK st) (dH st) (bK st) .none kV doc pm an Hb ct,rh⟩)
  (c:codeIn K Hb n=true) (k:keepIn K (.ref f)=true):DA K n st:=⟨⟨f,_,a,jt l c k⟩⟩
structure Ct(P:Program)(w:World)(K:Frag)(mg:kt)(base h:Heap):Prop where
 X:K.In h
 G:h.Ns mainGlobals mg
def Bn(n:Str)(st:Stmt)(ps:sB):Prop:=∀(kV b c:Value)(e:pi)(f d:Value)(a:jp),a.length=ps.length->bindArgs (fnOf n n (gK st) (dH st) (bK st) .none kV b c e f d) ⟨a,[]⟩=pure (ps.zip a)
structure Bz(n q:Str)(st:Stmt)(ps:sB):Prop where
 ok:∀(kV doc pm:Value)(an:pi)(Hb ct:Value)(us:jp),us.length=ps.length->bindArgs (fnOf n q (gK st) (dH st) (bK st) .none kV doc pm an Hb ct) ⟨us,[]⟩=pure (ps.zip us):=by intro _ _ _ _ _ _;first|exact XZ rfl|exact CJ λ_=>rfl|exact DJ λ_ _=>rfl|exact Xv λ_ _ _=>rfl|exact YZ λ_ _ _ _=>rfl|exact ZZ λ_ _ _ _ _=>rfl|exact bJ2 λ_ _ _ _ _ _=>rfl
def DA.Zu(D:DA K n st)(C:Ct P w K mg base h)(b:Bn n st ps):∃(f:Addr)(c:FuncData),Ma K n n st .none f c/\mg n=some (.ref f)/\Binds K c ps []:=by
 obtain⟨f,c,a,F⟩:=D.ex;exact⟨f,c,F,mg_of C.X C.G a,F.Rg b⟩
theorem DA.ok(D:DA K n st)(C:Ct P w K mg base h)(r:∀{f:Addr}{c:FuncData},Ma K n n st .none f c->Aa P w K mg base bb k f c ps (Qb K np<|cM np m bd))(b:Bz n n st ps:=by exact {}):Ba P w K mg base n k np (cM np m bd):=by
 obtain⟨f,c,F,a,z⟩:=D.Zu C b.ok;exact .of (r F) a F.kp z Fv
def DA.O8(D:DA K n st)(C:Ct P w K mg base h)(r:∀{f:Addr}{c:FuncData},Ma K n n st .none f c->Aa P w K mg base bb k f c ps (nk K np<|cM np m<|vV bd g))(b:Bz n n st ps:=by exact {}):ud P w K mg base n k np (cM np m<|vV bd g):=by
 obtain⟨f,c,F,a,z⟩:=D.Zu C b.ok;exact .of (r F) a F.kp z
structure MA(K:Frag)(C:Addr)(m:String)(n q:Str)(st:Stmt):Prop where
 ex:∃(f:Addr)(fd:FuncData),Meth K C (ofString m) f/\Ma K n q st .none f fd
def bQp{m:String}{q:Str}{b:pi}{kV:Value} (a:findIn K (.ref C) (ofString m)=some (some<|.ref f)) (e:isFn K (.ref f)=true) (l:K.lookup f=some ⟨oc,b,.func<|fnOf n q (gK st) (dH st) (bK st) .none kV doc pm an Hb ct,rh⟩)
  (c:codeIn K Hb q=true) (k:keepIn K (.ref f)=true):MA K C m n q st:=⟨⟨f,_,⟨a,e,k⟩,jt l c k⟩⟩
theorem MA.ok{C:Addr}{c m:String}{q:Str}{j:Nat}(D:MA K C m n q st)(_:Ct P w K mg base h)(d:ClsAt K c C)(r:∀{f:Addr}{a:FuncData},Ma K n q st .none f a->Aa P w K mg base bb k f a ps (Qb K np<|cM np j bd))(b:Bz n q st ps:=by exact {}):Fc P w K mg base c m k np [] (cM np j bd):=by
 obtain⟨f,a,M,F⟩:=D.ex;exact Fc.of d M (r F) (F.Rg b.ok) .nil λ_=>.nil
end
section
variable {o x:Expr} {h:Ex}
def Q3{K:Frag} {t:Bool} {g:im} (f:lF K A H (.Hd t g ds) v):∃a,v=.ref a/\Dz H a:=by
 rcases f with h|⟨a,j,o,k,d,e,e2,h,i,r⟩
 .obtain⟨a,d,e,q,r⟩:=oF.mp h;rcases q with ⟨_,c,b,_,_⟩|⟨_,c,b,_,_⟩
  .exact⟨a,e,.inl ⟨c,.inl<|bB _ _ _ _ b⟩⟩
  exact⟨a,e,.inr ⟨c,.inl<|bB _ _ _ _ b⟩⟩
 cases j<;>cases e;rcases i with ⟨_,c,b,_⟩|⟨_,c,b,_⟩
 .subst b;exact⟨a,e2,.inl ⟨c,.inl h⟩⟩
 subst b;exact⟨a,e2,.inr ⟨c,.inl h⟩⟩
def I0{K:Frag} {k z r:D} {u y:V} {a:Addr} (l:v=.ref a) (i:lF K A H d v) (h:jb K (hide A H) k u) (q:jb K (hide A H) z y) (c:Tt d k z=.ok r):∃b,yI H a u b/\jb K (hide A H) r (b.getD y):=by
 unfold Tt at c;split at c
 .obtain⟨o,e⟩:=aH c;obtain⟨s,b,f,g,m,p⟩:=WA i (h.mono<|bB _ _) o;rw[l]at f;cases f;refine⟨b,g,?_⟩;split at e
  .obtain⟨w,rfl,j⟩:=p r<|Ko e;exact j
  rename_i n;cases e;have:b=none:=by
   cases b with
   |none=>rfl
   |some w=>exact absurd (m.symm.trans rfl) n
  rwa [this]
 cases c
def PX{k z r:D}(a:Tt d k z=.ok r):∃t b vs,d=.Hd t b vs:=by
 unfold Tt at a;split at a
 .exact⟨_,_,_,rfl⟩
 cases a
theorem bNe(G:X.A.units+64<cLine)(p:PE X o (tP X.K B f))(he:PE X e (tI X.K B g))(m:Nf o "get" X.env:=by rfl)
  (l:Oi Ga [e] X.env:=by rfl)
  (j:Gg Pa Ga:=by rfl) (i:backTo Ga (starEach [e] X.env)=[(false,eval e X.env)]:=by rfl):PE X (.Call (.Attribute o "get" Pa) [e] [] Ga) (tI X.K B<|Gq f g<|eC .Bb):=by
 refine cD (ź (by lia) p he ⟨m,l,j,i⟩) ?_
 rintro σ H Q ⟨A,st,r,b,n,q⟩;obtain⟨d,w,z⟩:=R.ja n;obtain⟨k,s,y⟩:=R.ja z;have c:=y;refine⟨A,st,d,b,w,λv I s1 rx=>?_⟩
 obtain⟨t,F,E,rfl⟩:=PX c;obtain⟨a,rfl,x⟩:=Q3 rx;refine⟨a,rfl,x,A,st,k,b.mono s1,s,λu H2 s2 ry=>?_⟩
 obtain⟨h,D,C⟩:=I0 rfl (rx.mono s2) ry (oE.mpr rfl) c;exact⟨h,D,q _ H2 (s1.trans s2) C⟩
theorem bNf(N:X.A.units+64<cLine)(C:PE X o (tP X.K B f))(he:PE X e (tI X.K B g))(s:PE X x (tI X.K B h))(n:Nf o "get" X.env:=by rfl)
  (m:Oi Ga [e,x] X.env:=by rfl)
  (l:Gg Pa Ga:=by rfl) (j:backTo Ga (starEach [e,x] X.env)=[(false,eval e X.env),(false,eval x X.env)]:=by rfl):PE X (.Call (.Attribute o "get" Pa) [e,x] [] Ga) (tI X.K B<|Gq f g h):=by
 refine cD (Ż (by lia) C he s ⟨n,m,l,j⟩) ?_
 rintro σ H Q ⟨A,st,r,b,w,q⟩;obtain⟨d,E,I⟩:=R.ja w;obtain⟨k,D,G⟩:=R.ja I;obtain⟨z,p,c⟩:=R.ja G;refine⟨A,st,d,b,E,λv P s1 rx=>?_⟩
 obtain⟨t,M,L,rfl⟩:=PX c;obtain⟨a,rfl,F⟩:=Q3 rx;refine⟨a,rfl,F,A,st,k,b.mono s1,D,λu O s2 ry=>⟨A,st,z,b.mono<|s1.trans s2,p,λy H3 s3 rz=>?_⟩⟩
 obtain⟨i,K,J⟩:=I0 rfl (rx.mono<|s2.trans s3) (ry.mono<|bF.hide s3) rz c;exact⟨i,K,q _ H3 (s1.trans<|s2.trans s3) J⟩
end
section
def bNg(i j:Nat){y g:Str}{k L:Nat} {D:Pos} (h:Ba X.prog X.w X.K X.mg X.base g k 2 p) (C:gb L X.A) (hk:k<=L) (he:PE X e (tI X.K B f)) (hN:X.N.Nodup) (hi:X.N[i]?=some x:=by rfl) (hj:X.N[j]?=some y:=by rfl)
  (hx:Loc X.env.scope x:=by exact zj rfl) (hv:Dg X.env.scope y:=by exact Vh rfl) (hd:Yd y:=by decide) (Kd:Th y:=by decide)
  (hg:Gl X g:=by rfl) (Gf:Yd g:=by decide) (T:Nf (.Name y p1) "pop" X.env:=by rfl) (Q:Gg Pa Ga:=by rfl)
  (Ed:starEach [.Call (.Attribute (.Name y p1) "pop" Pa) [] [] Ga] X.env=(false,eval (.Call (.Attribute (.Name y p1) "pop" Pa) [] [] Ga) X.env)::starEach [] X.env:=by rfl)
  (a:starEach [e,.Call (.Attribute (.Name y p1) "pop" Pa) [] [] Ga] X.env=(false,eval e X.env)::starEach [.Call (.Attribute (.Name y p1) "pop" Pa) [] [] Ga] X.env:=by rfl)
  (je:(backTo D<|starEach [.Call (.Attribute (.Name y p1) "pop" Pa) [] [] Ga] X.env).any (·.1)=false:=by rfl)
  (hs:Uh (.Call (.Name g p0) [e,.Call (.Attribute (.Name y p1) "pop" Pa) [] [] Ga] [] D) (some<|.Name x pos') pos.line X.env:=by rfl)
  (hf:Sh X x:=by first|exact .inl rfl|exact .inr rfl|assumption) :
  PS X (.Assign [.Name x pos'] (.Call (.Name g p0) [e,.Call (.Attribute (.Name y p1) "pop" Pa) [] [] Ga] [] D) pos) (tS X.K B<|WB i j p f):=by
 obtain⟨fa,fd,ps,F,m,W,bd⟩:=h.ex;refine iZ (iq hN hi hx (Iv F (C.mono hk) hg m W bd .nil Mo (cF he (cF (jq Mq PySem.F.slot_list_pop PySem.F.type_list_pop bLd (jR hj hv hd Kd) T Q) eV Ed) a) Gf a je) hs hf) ?_
 rintro Dn σ H ⟨A,st,r,t,C,U⟩;obtain⟨E,Vg,b⟩:=R.ja C;split at b
 .rename_i ys e1;split at b
  .rename_i d N;obtain⟨c,h4⟩:=aH b;obtain⟨O,hy,h5⟩:=R.ja h4;cases h5;obtain⟨l,o,n,e2,V,M,Y,q,u⟩:=t.lst j _ ys e1;subst Y;refine⟨A,st,E,t,Vg,λv H' s rv=>?_⟩
   have J:=q.length;have K:=q.mono<|bF.hide s;rw[VL]at N;obtain⟨w,hw,Z⟩:=K.get N;obtain⟨G,P⟩:=(t.mono s).write e1 e2 (k1:=.l) (ds:=ys.dropLast) (vg:=n.dropLast) rfl (by
    rw[b7,b7,J];exact K.take _)
   refine⟨.ref l,e2,.inl ⟨rfl,n,Dc.of<|s _ _ M⟩,l,n,w,rfl,rfl,s _ _ M,by rwa [J],(⟨A++B,[E,d],O,G.own,?_,rfl,hy,λz H3 I S=>U A _ H3 ((Le.of s).trans<|P.trans<|Le.of I)<|(G.mono I).set i S⟩)⟩
   rw[(nY<|Ke _ V)];exact .cons rv<|.cons Z .nil
  cases b
 cases b
end
section
variable {r:yd}
def HJ(g:X.mg "int"=none)(j:PE X a (tP X.K B f))(h:Gl X "int":=by rfl)(hs:Cd a [] X.env:=by rfl):PE X (.Call (.Name "int" p0) [a] [] pos) (tI X.K B<|e1 Zo f):=by
 refine cD (uK Ĥ h g rfl (cF j eV hs) (he:=hs)) ?_
 rintro σ H Q ⟨A,st,d,c,i,q⟩;obtain⟨y,e,b⟩:=R.ja i;refine⟨A,st,y,c,e,λv H1 s1 r1=>?_⟩
 unfold Zo at b;split at b
 .cases b;exact .inl ⟨_,by rw[r1.int],q _ H1 s1<|bJ.mpr rfl⟩
 .cases b;exact .inr ⟨_,by rw[r1.bl],q _ H1 s1<|bJ.mpr rfl⟩
 cases b
end
end Pu
namespace Pu
open PySem PyProof.Rows
abbrev SM:=StateT SortSt Sem
def lD:Bool->Keyed->dL->Nat->Nat->Nat->SM wS:=sortPriv% PySem.Builtin.gallop
noncomputable def jr(left:Bool)(a:Keyed)(arr:dL)(base i:Nat):SM (Option Bool):=do
 let x <- elem' arr (base+i)
 if left then lt' x a else return (<- lt' a x).map (!·)
def č(left:Bool)(a:Keyed)(arr:dL)(base n hint:Nat):lD left a arr base n hint=(do
 let mut lastofs:=0
 let mut ofs:=1
 let mut lo:=0
 let mut hi:=0
 let some right <- jr left a arr base hint|return none
 if right then
  let b:=n-hint
  for _ in [0:n] do
   if ofs ≥ b then break
   let some more <- jr left a arr base (hint+ofs)|return none
   if !more then break
   lastofs:=ofs
   ofs:=2*ofs+1
  lo:=hint+lastofs+1
  hi:=hint+min ofs b
 else
  let b:=hint+1
  for _ in [0:n] do
   if ofs ≥ b then break
   let some found <- jr left a arr base (hint-ofs)|return none
   if found then break
   lastofs:=ofs
   ofs:=2*ofs+1
  lo:=hint+1-min ofs b
  hi:=hint-lastofs
 for _ in [0:n] do
  if lo ≥ hi then break
  let m:=lo+(hi-lo)/2
  let some more <- jr left a arr base m|return none
  if more then lo:=m+1 else hi:=m
 return some hi):=rfl
section
variable{prog:Program}{w:World}{A:Around}{E:bv}{s:Shared}
theorem J0{base:Nat}{st:SortSt}{B:sK} (p:∀i (R:AT),i<n->R (some<|B i) st->wpS (model prog w) A E s (jr left key arr base i) R st)
  (mono:∀i j,i<=j->j<n->B j=true->B i=true) {lo:Nat} (t:lo<=hi) (r:hi<=n) (z:∀i,i<lo->B i=true) (y:∀i,hi<=i->i<n->B i=false)
  (h:∀k,k<=n->(∀i,i<k->B i=true)->(∀i,k<=i->i<n->B i=false)->Q (some k) st)
  {G:Option wS×Nat×Nat->SM wS} (q:∀k,G (none,k,k)=pure (some k)):wpS (model prog w) A E s ((
   forIn [0:n] ((none,lo,hi):Option (Option Nat)×Nat×Nat) λ_ __s=>do
    if __s.2.1 ≥ __s.2.2 then pure (ForInStep.done (none,__s.2.1,__s.2.2)) else do
     let __x <- jr left key arr base (__s.2.1+(__s.2.2-__s.2.1)/2)
     match __x with
     |some more=>if more=true then pure (ForInStep.yield (none,__s.2.1+(__s.2.2-__s.2.1)/2+1,__s.2.2)) else pure (ForInStep.yield (none,__s.2.1,__s.2.1+(__s.2.2-__s.2.1)/2))
     |_=>pure<|ForInStep.done (some none,__s.2.1,__s.2.2)) >>= G) Q st:=by
 refine Sb<|Jh (Gh (I:=λx c st'=>st'=st/\∃lo hi,c=(none,lo,hi)/\lo<=hi/\hi<=n/\hi+x<=n+lo/\(∀i,i<lo->B i=true)/\∀i,hi<=i->i<n->B i=false)
  (Q:=λc st'=>st'=st/\∃k,c=(none,k,k)/\k<=n/\(∀i,i<k->B i=true)/\∀i,k<=i->i<n->B i=false) ?step ?fin ?init) ?post
 case init=>exact⟨rfl,lo,hi,rfl,t,r,by lia,z,y⟩
 case fin=>
  rintro c st' ⟨rfl,lo,hi,rfl,v,a,u,e,d⟩;have:lo=hi:=by lia
  subst this;exact⟨rfl,lo,rfl,a,e,d⟩
 case post=>
  rintro c st' ⟨rfl,k,rfl,a,e,d⟩;rw[q];exact Mb<|h k a e d
 case step=>
  rintro x c st' _ C ⟨rfl,lo,hi,rfl,v,a,u,e,d⟩;dsimp only
  by_cases f:lo ≥ hi
  .rw[Ka f];have:lo=hi:=by lia
   subst this;exact Mb ⟨rfl,lo,rfl,a,e,d⟩
  rw[Ea f];have o:=il lo<|(hi-lo)/2;have g:lo+(hi-lo)/2<hi:=by omega
  generalize lo+(hi-lo)/2=m at *;refine Sb<|p _ _ (We g a) ?_;cases l:B _ with
  |true=>exact Mb ⟨rfl,_,_,rfl,g,a,by lia,λi b=>mono i _ (Nat.le_of_lt_succ b) (We g a) l,d⟩
  |false=>
   refine Mb ⟨rfl,_,_,rfl,o,Vc (Pj g) a,by lia,e,λi h3 h4=>?_⟩
   cases b:B i with
   |false=>rfl
   |true=>rw[mono _ i h3 h4 b]at l;cases l
theorem K0{base hint:Nat}{st:SortSt}{B:sK} (m:∀i (R:AT),i<n->R (some<|B i) st->wpS (model prog w) A E s (jr left key arr base i) R st)
  (mono:∀i j,i<=j->j<n->B j=true->B i=true) (q:hint<n)
  (h:∀k,k<=n->(∀i,i<k->B i=true)->(∀i,k<=i->i<n->B i=false)->Q (some k) st) :
  wpS (model prog w) A E s (lD left key arr base n hint) Q st:=by
 rw[č];dsimp only;refine Sb<|m hint _ q ?_;cases r:B hint with
 |true=>
  refine Sb<|Jh (Gh (I:=λx c st'=>st'=st/\∃a of,c=(none,a,of)/\a<of/\x<of/\hint+a<n/\B (hint+a)=true)
   (Q:=λc st'=>st'=st/\∃a of,c=(none,a,of)/\a<of/\hint+a<n/\B (hint+a)=true/\(hint+of<n->B (hint+of)=false)) ?step ?fin ?init) ?post
  case init=>exact⟨rfl,0,1,rfl,by lia,by lia,q,r⟩
  case fin=>
   rintro c st' ⟨rfl,a,of,rfl,f,p,d,b⟩;exact⟨rfl,a,of,rfl,f,d,b,λz=>by lia⟩
  case step=>
   rintro x c st' _ t ⟨rfl,a,of,rfl,f,p,d,b⟩;dsimp only
   by_cases e:of ≥ n-hint
   .rw[Ka e];exact Mb ⟨rfl,a,of,rfl,f,d,b,λz=>by lia⟩
   rw[Ea e];refine Sb<|m _ _ (by lia) ?_
   cases l:B _ with
   |true=>
    simp;exact Mb ⟨rfl,of,2*of+1,rfl,by lia,by lia,by lia,l⟩
   |false=>
    simp;exact Mb ⟨rfl,a,of,rfl,f,d,b,λ_=>l⟩
  case post=>
   rintro c st' ⟨rfl,a,of,rfl,f,d,b,o⟩;dsimp only;refine J0 m mono (by lia) (by omega) (λi v=>mono i _ (by lia) d b) (λi h3 h4=>?_) h λ_=>rfl
   by_cases u:hint+of<n
   .cases g:B i with
    |false=>rfl
    |true=>rw[mono _ i (by lia) h4 g]at o;cases o u
   lia
 |false=>
  refine Sb<|Jh (Gh (I:=λx c st'=>st'=st/\∃a of,c=(none,a,of)/\a<of/\x<of/\a<=hint/\B (hint-a)=false)
   (Q:=λc st'=>st'=st/\∃a of,c=(none,a,of)/\a<of/\a<=hint/\B (hint-a)=false/\(of<=hint->B (hint-of)=true)) ?step ?fin ?init) ?post
  case init=>exact⟨rfl,0,1,rfl,by lia,by lia,by lia,r⟩
  case fin=>
   rintro c st' ⟨rfl,a,of,rfl,f,p,d,b⟩;exact⟨rfl,a,of,rfl,f,d,b,λz=>by lia⟩
  case step=>
   rintro x c st' _ t ⟨rfl,a,of,rfl,f,p,d,b⟩
   by_cases e:of ≥ hint+1
   .rw[Ka e];exact Mb ⟨rfl,a,of,rfl,f,d,b,λz=>by lia⟩
   rw[Ea e];refine Sb<|m _ _ (by omega) ?_
   cases l:B (hint-of) with
   |true=>
    exact Mb ⟨rfl,a,of,rfl,f,d,b,λ_=>l⟩
   |false=>
    exact Mb ⟨rfl,of,2*of+1,rfl,by lia,by omega,by lia,l⟩
  case post=>
   rintro c st' ⟨rfl,a,of,rfl,f,d,b,o⟩;dsimp only;refine J0 m mono (by omega) (by omega) (λi v=>?_) (λi h3 h4=>?_) h λ_=>rfl
   .exact mono i _ (by omega) (by omega) (o<|by omega)
   cases g:B i with
   |false=>rfl
   |true=>rw[mono _ i h3 h4 g]at b;cases b
def Ask(prog:Program)(w:World)(A:Around)(E:bv)(s:Shared)(a:ut)(P:Fa)(b:SortKind):Prop:=
 ∀(x y:Keyed)(Q:AT)(st:SortSt),P x->P y->kindOf st=b->Q (some<|decide (a x<a y)) st->wpS (model prog w) A E s (lt' x y) Q st
def atK(arr:dL)(i:Nat):Keyed:=(arr[i]?).getD (.none,.none)
def oN(h:i<arr.size):arr[i]?=some (atK arr i):=by
 unfold atK;rw[Vq arr i h];rfl
def iT(h:i<arr.size):atK arr i∈arr.toList:=by
 have:=oN h;rw[<-nh]at this;exact xi this
def gO{f:Keyed->SM β}{Q:β->AC}{st:SortSt}(h:i<arr.size)(a:wpS (model prog w) A E s (f<|atK arr i) Q st):wpS (model prog w) A E s (elem' arr i >>= f) Q st:=by
 rw[elem'_eq,oN h];exact Sb<|Mb a
variable{ρ:ut}{P:Fa}{κ:SortKind}{key:Keyed}{arr:dL}{base n hint:Nat}{st:SortSt}{Q:Option Nat->SortSt->Prop}
theorem fI(K:Ask prog w A E s ρ P κ)(a:kindOf st=κ)(c:∀x∈arr.toList,P x)(m:P key)(o:base+n<=arr.size)(hs:∀i j,i<=j->j<n->ρ (atK arr<|base+i)<=ρ (atK arr<|base+j))(b:hint<n)
  (h:∀k,k<=n->(∀i,i<k->ρ (atK arr<|base+i)<=ρ key)->(∀i,k<=i->i<n->ρ key<ρ (atK arr<|base+i))->Q (some k) st):wpS (model prog w) A E s (lD false key arr base n hint) Q st:=by
 refine K0 (B:=λi=>!decide (ρ key<ρ (atK arr<|base+i))) (λi R hi hR=>?_) (λi j Sd hj hB=>?_) b λk l g f=>h k l (λi hi=>?_) λi e d=>?_
 .exact gO (by lia) (Sb<|K _ _ _ _ m (c _<|iT<|by lia) a<|Mb hR)
 .have:=hs i j Sd hj;simp at hB ⊢;lia
 .have:=g i hi;simp at this;omega
 have:=f i e d;simp at this;exact this
theorem gI(K:Ask prog w A E s ρ P κ)(a:kindOf st=κ)(c:∀x∈arr.toList,P x)(m:P key)(o:base+n<=arr.size)(hs:∀i j,i<=j->j<n->ρ (atK arr<|base+i)<=ρ (atK arr<|base+j))(b:hint<n)
  (h:∀k,k<=n->(∀i,i<k->ρ (atK arr<|base+i)<ρ key)->(∀i,k<=i->i<n->ρ key<=ρ (atK arr<|base+i))->Q (some k) st):wpS (model prog w) A E s (lD true key arr base n hint) Q st:=by
 refine K0 (B:=λi=>decide (ρ (atK arr<|base+i)<ρ key)) (λi R hi hR=>?_) (λi j Sd hj p=>?_) b λk l g f=>h k l (λi hi=>?_) λi e d=>?_
 .exact gO (by lia) (K _ _ _ _ (c _<|iT<|by lia) m a hR)
 .have:=hs i j Sd hj;lia
 .exact gi (g i hi)
 have:=of_decide_eq_false<|f i e d;lia
end
end Pu
variable{G:Option wS×Nat->Pu.SM wS}
namespace Pu
open PySem PyProof.Rows
def R5{i g f:Type}{P:α×β×i×g×f->Prop}(h:∀a b c d e,P (a,b,c,d,e)):∀x,P x:=λ(a,b,c,d,e)=>h a b c d e
def ku{k j i g:Type}{P:α×β×k×j×i×g->Prop}(h:∀a b c d e f,P (a,b,c,d,e,f)):∀x,P x:=λ(a,b,c,d,e,f)=>h a b c d e f
def VC{m l k j i:Type}{P:α×β×m×l×k×j×i->Prop}(h:∀a b c d e f g,P (a,b,c,d,e,f,g)):∀x,P x:=λ(a,b,c,d,e,f,g)=>h a b c d e f g
def Dq:Nat->SM Unit:=sortPriv% PySem.Builtin.setMinGallop
def jI:dL->dL->SM dL:=sortPriv% PySem.Builtin.mergeLo
noncomputable def F8(a b h:dL)(e d g:Nat):SM dL:=do
 let c:=a.size+b.size
 let done (out:dL) (ia ib:Nat):=out++a.extract ia a.size++b.extract ib b.size
 let f (out:dL) (ia ib:Nat):=out++b.extract ib b.size++a.extract ia a.size
 let mut out:=h
 let mut ia:=e
 let mut ib:=d
 let mut minGallop:=g
 for _ in [0:c] do
  let mut acount:=0
  let mut bcount:=0
  for _ in [0:c] do
   let some bWins <- lt' (<- elem' b ib) (<- elem' a ia)|return done out ia ib
   if bWins then
    out:=out.push<|<- elem' b ib;ib:=ib+1;bcount:=bcount+1;acount:=0
    if ib==b.size then return done out ia ib
    if bcount ≥ minGallop then break
   else
    out:=out.push<|<- elem' a ia;ia:=ia+1;acount:=acount+1;bcount:=0
    if ia+1==a.size then return f out ia ib
    if acount ≥ minGallop then break
  rule "list.sort.gallop"
  minGallop:=minGallop+1
  for _ in [0:c] do
   if minGallop>1 then minGallop:=minGallop-1
   Dq minGallop
   let some k <- lD false (<- elem' b ib) a ia (a.size-ia) 0|return done out ia ib
   acount:=k
   if k>0 then
    out:=out++a.extract ia (ia+k);ia:=ia+k
    if ia+1==a.size then return f out ia ib
    if ia==a.size then return done out ia ib
   out:=out.push<|<- elem' b ib;ib:=ib+1
   if ib==b.size then return done out ia ib
   let some k <- lD true (<- elem' a ia) b ib (b.size-ib) 0|return done out ia ib
   bcount:=k
   if k>0 then
    out:=out++b.extract ib (ib+k);ib:=ib+k
    if ib==b.size then return done out ia ib
   out:=out.push<|<- elem' a ia;ia:=ia+1
   if ia+1==a.size then return f out ia ib
   if acount<7&&bcount<7 then break
  minGallop:=minGallop+1
  Dq minGallop
 unsupported "internal:list.sort.merge-bound"
theorem È(a b:dL):jI a b=(do
 rule "list.sort.merge-lo"
 let x <- elem' b 0
 if 1==b.size then return #[x]++a.extract 0 a.size++b.extract 1 b.size
 if 0+1==a.size then return #[x]++b.extract 1 b.size++a.extract 0 a.size
 F8 a b #[x] 0 1 (gallopOf<|<- get)):=rfl
structure MI(ρ:ut)(T o R S:tz):Prop where
 pm:(o++(R++S)).Perm T
 so:o.Pairwise λx y=>ρ x<=ρ y
 oa:∀x∈o,∀y∈R++S,ρ x<=ρ y
 sr:R.Pairwise λx y=>ρ x<=ρ y
 ss:S.Pairwise λx y=>ρ x<=ρ y
section
variable{ρ:ut}{T o R S X:tz}
theorem MI.swap(h:MI ρ T o R S):MI ρ T o S R:=
 ⟨((List.perm_append_comm).append_left o).trans h.pm,h.so,λx b y a=>h.oa x b y (by
  rcases wg.mp a with a|a
  .exact se _ a
  exact Ke _ a),h.ss,h.sr⟩
theorem MI.take(h:MI ρ T o (X++R) S)(d:∀x∈X,∀y∈S,ρ x<=ρ y):MI ρ T (o++X) R S:=by
 have c:=sx.mp h.sr;refine⟨?_,sx.mpr ⟨h.so,c.1,λx Vg y hy=>h.oa x Vg y<|Ke _<|Ke _ hy⟩,λx Vg y hy=>?_,c.2.1,h.ss⟩
 .have:=h.pm;rw[Zk X R S]at this
  rwa [Zk]
 rcases wg.mp Vg with b|b
 .refine h.oa x b y ?_
  rcases wg.mp hy with a|a
  .exact Ke _ (se _ a)
  exact se _ a
 rcases wg.mp hy with a|a
 .exact c.2.2 x b y a
 exact d x b y a
def Res(a:ut)(T:tz)(o:dL):Prop:=o.toList.Perm T/\o.toList.Pairwise λx y=>a x<=a y
theorem MI.end(h:MI ρ T o R S)(a:∀x∈R,∀y∈S,ρ x<=ρ y){r:dL}(e:r.toList=o++R++S):Res ρ T r:=by
 unfold Res;rw[e,Zk];exact⟨h.pm,sx.mpr ⟨h.so,sx.mpr ⟨h.sr,h.ss,a⟩,h.oa⟩⟩
end
theorem bJa{a:dL} (h:i<a.size):a.toList.drop i=atK a i::a.toList.drop (i+1):=by
 have b:=by simpa using h
 rw[Ln b];congr 1;have:=oN h;rw[<-nh,md b]at this;exact Te this
theorem Ow(a:dL)(i j:Nat):(a.extract i j).toList=(a.toList.drop i).take (j-i):=by
 rw[Array.toList_extract]
theorem lI{a:dL}(i k:Nat):a.toList.drop i=(a.extract i<|i+k).toList++a.toList.drop (i+k):=by
 rw[Ow,kM,<-List.drop_drop,AM]
theorem AA{a:dL}(i:Nat):(a.extract i a.size).toList=a.toList.drop i:=by
 rw[Ow];exact yu (by simp)
theorem pU{a:dL} {x:Keyed} (h:x∈a.toList.drop i):∃j,i<=j/\j<a.size/\x=atK a j:=by
 obtain⟨j,b⟩:=xk.mp h;rw[RM]at b;have c:=by
  simpa using ((List.getElem?_eq_some_iff.mp b).1)
 refine⟨i+j,by lia,c,?_⟩
 have:=oN c;rw[<-nh,b]at this;exact Te this
theorem IJ{a:dL}{k:Nat}{x:Keyed}(h:x∈(a.extract i<|i+k).toList):∃j,j<k/\i+j<a.size/\x=atK a (i+j):=by
 rw[Ow,kM]at h;obtain⟨j,b⟩:=xk.mp h;rw[TM]at b;split at b
 .rename_i d;rw[RM]at b;have c:=by
   simpa using ((List.getElem?_eq_some_iff.mp b).1)
  refine⟨j,d,c,?_⟩;have:=oN c;rw[<-nh,b]at this;exact Te this
 cases b
theorem sW{a:dL}(h:a.toList.Pairwise λx y=>ρ x<=ρ y) (f:i<=j) (c:j<a.size):ρ (atK a i)<=ρ (atK a j):=by
 rcases Iu i j with b|d
 .have e:=YC.mp h i j (by simp;lia) (by simpa using c) b
  have e1:=oN (show i<a.size by lia)
  have e2:=oN c;rw[<-nh,md (by simp;lia)]at e1
  rw[<-nh,md (by simpa using c)]at e2
  rwa [Te e1,Te e2]at e
 have:i=j:=by lia
 subst this;exact Ak _
def Sg(st st':SortSt):Prop:=kindOf st'=kindOf st/\arrOf st'=arrOf st/\pendingOf st'=pendingOf st/\failedOf st'=failedOf st
theorem Sg.refl(st:SortSt):Sg st st:=⟨rfl,rfl,rfl,rfl⟩
theorem Sg.trans{a b c:SortSt}(h:Sg a b)(g:Sg b c):Sg a c:=⟨g.1.trans h.1,g.2.1.trans h.2.1,g.2.2.1.trans h.2.2.1,g.2.2.2.trans h.2.2.2⟩
theorem QX(g:Nat):Dq g=modify λs=>SortSt.mk' (kindOf s) (arrOf s) (pendingOf s) g (failedOf s):=rfl
abbrev Ss:=Option dL×Array Keyed×Nat×Nat×Nat×Nat×Nat
noncomputable def RP(a b out:dL)(c d g f e:Nat):SM (ForInStep Ss):=do
 let x <- elem' a c
 if (c+1+1==a.size)=true then pure (.done (some<|out.push x++b.extract d b.size++a.extract (c+1) a.size,out.push x,c+1,d,g,f,e))
 else if (decide (f<7)&&decide (e<7))=true then pure (.done (none,out.push x,c+1,d,g,f,e)) else pure (.yield (none,out.push x,c+1,d,g,f,e))
noncomputable def E8(a b out:dL)(d c g e f:Nat):SM (ForInStep Ss):=do
 let x <- elem' a d
 let o <- lD true x b c (b.size-c) 0
 match o with
 |some k=>if k>0 then (if (c+k==b.size)=true then pure (.done (some<|out++b.extract c (c+k)++a.extract d a.size++b.extract (c+k) b.size,out++b.extract c (c+k),d,c+k,g,e,k)) else RP a b (out++b.extract c (c+k)) d (c+k) g e k) else RP a b out d c g e k
 |_=>pure<|.done (some<|out++a.extract d a.size++b.extract c b.size,out,d,c,g,e,f)
noncomputable def Sr(a b out:dL)(d c g f e:Nat):SM (ForInStep Ss):=do
 let x <- elem' b c
 if (c+1==b.size)=true then pure (.done (some<|out.push x++a.extract d a.size++b.extract (c+1) b.size,out.push x,d,c+1,g,f,e)) else E8 a b (out.push x) d (c+1) g f e
noncomputable def lo1(a b out:dL)(c d g f e:Nat):SM (ForInStep Ss):=do
 Dq g
 let x <- elem' b d
 let o <- lD false x a c (a.size-c) 0
 match o with
 |some k=>if k>0 then (if (c+k+1==a.size)=true then pure (.done (some<|out++a.extract c (c+k)++b.extract d b.size++a.extract (c+k) a.size,out++a.extract c (c+k),c+k,d,g,k,e)) else if (c+k==a.size)=true then pure (.done (some<|out++a.extract c (c+k)++a.extract (c+k) a.size++b.extract d b.size,out++a.extract c (c+k),c+k,d,g,k,e)) else Sr a b (out++a.extract c (c+k)) (c+k) d g k e) else Sr a b out c d g k e
 |_=>pure<|.done (some<|out++a.extract c a.size++b.extract d b.size,out,c,d,g,f,e)
abbrev Gz:=Option dL×Array Keyed×Nat×Nat×Nat×Nat
noncomputable def loB(a b out:dL)(d c g e:Nat):SM (ForInStep Gz):=do
 let x <- elem' b c
 if (c+1==b.size)=true then pure (.done (some<|out.push x++a.extract d a.size++b.extract (c+1) b.size,out.push x,d,c+1,0,e+1))
 else if e+1 ≥ g then pure (.done (none,out.push x,d,c+1,0,e+1)) else pure (.yield (none,out.push x,d,c+1,0,e+1))
noncomputable def loA(a b out:dL)(c d g e:Nat):SM (ForInStep Gz):=do
 let x <- elem' a c
 if (c+1+1==a.size)=true then pure (.done (some<|out.push x++b.extract d b.size++a.extract (c+1) a.size,out.push x,c+1,d,e+1,0))
 else if e+1 ≥ g then pure (.done (none,out.push x,c+1,d,e+1,0)) else pure (.yield (none,out.push x,c+1,d,e+1,0))
noncomputable def lo0(a b out:dL)(d c g f e:Nat):SM (ForInStep Gz):=do
 let x <- elem' b c
 let y <- elem' a d
 let o <- lt' x y
 match o with
 |some k=>if k=true then loB a b out d c g e else loA a b out d c g f
 |_=>pure<|.done (some<|out++a.extract d a.size++b.extract c b.size,out,d,c,f,e)
section
variable{prog:Program}{w:World}{A:Around}{E:bv}{s:Shared}{ρ:ut}{P:Fa}{κ:SortKind}{a b out:dL}{T:tz}{ia ib g ac bc N:Nat}{st:SortSt}
theorem cA{c:Prop}[Decidable c]{x y:SM β}{R:β->AC}(b:c->wpS (model prog w) A E s x R st)(a:¬ c->wpS (model prog w) A E s y R st):wpS (model prog w) A E s (if c then x else y) R st:=by
 by_cases h:c
 .rw[Ka h];exact b h
 rw[Ea h];exact a h
theorem Hv(h:MI ρ T out.toList (a.toList.drop ia) (b.toList.drop ib))(e:ib=b.size\/ia=a.size):Res ρ T (out++a.extract ia a.size++b.extract ib b.size):=by
 refine h.end (λx hx y hy=>?_) (by rw[toList_append,toList_append,AA,AA])
 rcases e with e|e
 .obtain⟨j,d,c,_⟩:=pU hy;lia
 obtain⟨j,d,c,_⟩:=pU hx;lia
theorem BA(c:∀y∈b.toList,ρ y<=ρ (atK a<|a.size-1))(h:MI ρ T out.toList (a.toList.drop ia) (b.toList.drop ib))(e:ia+1=a.size):Res ρ T (out++b.extract ib b.size++a.extract ia a.size):=by
 refine h.swap.end (λx hx y hy=>?_) (by rw[toList_append,toList_append,AA,AA])
 obtain⟨j,f,d,rfl⟩:=pU hy;have:j=a.size-1:=by lia
 subst this;exact c x<|o7 hx
theorem MI.Ef(h:MI ρ T out.toList (a.toList.drop ia) (b.toList.drop ib))(hi:ia<a.size)(d:∀y∈b.toList.drop ib,ρ (atK a ia)<=ρ y):MI ρ T (out.push<|atK a ia).toList (a.toList.drop<|ia+1) (b.toList.drop ib):=by
 rw[bJa hi]at h;rw[toList_push];exact MI.take h λx e y c=>by rw[Fe.mp e];exact d y c
theorem MI.Kg(h:MI ρ T out.toList (a.toList.drop ia) (b.toList.drop ib))(hi:ib<b.size)(c:∀y∈a.toList.drop ia,ρ (atK b ib)<=ρ y):MI ρ T (out.push<|atK b ib).toList (a.toList.drop ia) (b.toList.drop<|ib+1):=(h.swap.Ef hi c).swap
theorem MI.Qh{k:Nat}(h:MI ρ T out.toList (a.toList.drop ia) (b.toList.drop ib))(c:∀x∈(a.extract ia<|ia+k).toList,∀y∈b.toList.drop ib,ρ x<=ρ y):MI ρ T (out++a.extract ia (ia+k)).toList (a.toList.drop<|ia+k) (b.toList.drop ib):=by
 rw[lI ia k]at h;rw[toList_append];exact h.take c
theorem MI.dm{k:Nat}(h:MI ρ T out.toList (a.toList.drop ia) (b.toList.drop ib))(c:∀x∈(b.extract ib<|ib+k).toList,∀y∈a.toList.drop ia,ρ x<=ρ y):MI ρ T (out++b.extract ib (ib+k)).toList (a.toList.drop ia) (b.toList.drop<|ib+k):=(h.swap.Qh c).swap
def JL(e:ut)(T:tz)(a b:dL)(N:Nat)(out:dL)(d c:Nat):Prop:=MI e T out.toList (a.toList.drop d) (b.toList.drop c)/\d+1<a.size/\c<b.size/\N<=d+c
theorem JL.mono(h:JL ρ T a b N out ia ib)(c:N'<=N):JL ρ T a b N' out ia ib:=⟨h.1,h.2.1,h.2.2.1,Vc c h.2.2.2⟩
def UL(d:ut)(T:tz)(a b:dL)(N:Nat)(c:Ss):Prop:=(∃r,c.1=some r/\Res d T r)\/(c.1=none/\JL d T a b N c.2.1 c.2.2.1 c.2.2.2.1)
variable{Q:ForInStep Ss->AC}(K:Ask prog w A E s ρ P κ)(hk:kindOf st=κ)(ag:∀x∈a.toList,P x)(bg:∀x∈b.toList,P x)(sa:a.toList.Pairwise λx y=>ρ x<=ρ y)(sb:b.toList.Pairwise λx y=>ρ x<=ρ y)(hl:∀y∈b.toList,ρ y<=ρ (atK a<|a.size-1))
 (h:MI ρ T out.toList (a.toList.drop ia) (b.toList.drop ib)) (h1:ia+1<a.size) (h2:ib<b.size) (hN:N<=ia+ib)
 (hd:∀c,UL ρ T a b N c->Q (.done c) st) (hy:∀c,c.1=none->JL ρ T a b N c.2.1 c.2.2.1 c.2.2.2.1->Q (.yield c) st)
include hl h h1 h2 hN hd hy
theorem R3(d:∀y∈b.toList.drop ib,ρ (atK a ia)<=ρ y):wpS (model prog w) A E s (RP a b out ia ib g ac bc) Q st:=by
 refine gO (by lia) ?_
 have c:=h.Ef (by lia) d
 split
 .rename_i e;exact Mb<|hd _<|.inl ⟨_,rfl,BA hl c<|by simpa using e⟩
 split
 .exact Mb (hd _<|.inr ⟨rfl,c,by show ia+1+1<a.size;lia,h2,by show N<=ia+1+ib;lia⟩)
 exact Mb<|hy _ rfl ⟨c,by show ia+1+1<a.size;lia,h2,by show N<=ia+1+ib;lia⟩
include K hk ag bg sa sb
theorem bNh:wpS (model prog w) A E s (E8 a b out ia ib g ac bc) Q st:=by
 refine gO (by lia)<|Sb<|gI K hk bg (ag _<|iT<|by lia) (by lia) (λi j v u=>sW sb (by lia)<|by lia) (by lia) λk t n m=>?_
 have l:∀y∈b.toList.drop (ib+k),ρ _<=ρ y:=λy c=>by
  obtain⟨j,d,o,rfl⟩:=pU c;have:=m (j-ib) (by lia) (by lia)
  rwa [show ib+(j-ib)=j by lia]at this
 dsimp only;split
 .have f:=h.dm λx r y c=>by
   obtain⟨j,d,o,rfl⟩:=IJ r;obtain⟨i,q,p,rfl⟩:=pU c;have:=n j d;have:=sW sa q p;lia
  split
  .rename_i e;exact Mb<|hd _<|.inl ⟨_,rfl,Hv f<|.inl<|by simpa using e⟩
  exact R3 hl f h1 (by lia) (by lia) hd hy l
 have:k=0:=by lia
 subst this;exact R3 hl h h1 h2 hN hd hy l
theorem S3(d:∀y∈a.toList.drop ia,ρ (atK b ib)<=ρ y):wpS (model prog w) A E s (Sr a b out ia ib g ac bc) Q st:=by
 refine gO h2 ?_
 have c:=h.Kg h2 d;split
 .rename_i e;exact Mb<|hd _<|.inl ⟨_,rfl,Hv c<|.inl<|by simpa using e⟩
 exact bNh K hk ag bg sa sb hl c h1 (by lia) (by omega) hd hy
omit h h1 h2 hN hd hy in
theorem T3(J:JL ρ T a b N out ia ib)(D:∀c st',Sg st st'->UL ρ T a b N c->Q (.done c) st')(l:∀c st',Sg st st'->c.1=none->JL ρ T a b N c.2.1 c.2.2.1 c.2.2.2.1->Q (.yield c) st'):wpS (model prog w) A E s (lo1 a b out ia ib g ac bc) Q st:=by
 obtain⟨h,h1,h2,hN⟩:=J;unfold lo1;rw[QX];refine Sb<|Nm ?_;generalize C:SortSt.mk' _ _ _ g _=st';have m:Sg st st':=by subst C;exact⟨rfl,rfl,rfl,rfl⟩
 have n:=m.1.trans hk;have d:=λc=>D c st' m
 have f:=λc=>l c st' m
 refine gO h2<|Sb<|fI K n ag (bg _<|iT h2) (by lia) (λi j H G=>sW sa (by lia)<|by lia) (by lia) λk F t r=>?_
 have q:∀y∈a.toList.drop (ia+k),ρ (atK b ib)<=ρ y:=λy l=>by
  obtain⟨j,p,u,rfl⟩:=pU l;have:=r (j-ia) (by lia) (by lia)
  rw[show ia+(j-ia)=j by lia]at this
  lia
 dsimp only;split
 .have o:=h.Qh λx B y l=>by
   obtain⟨j,p,u,rfl⟩:=IJ B;obtain⟨i,z,v,rfl⟩:=pU l;have:=t j p;have:=sW sb z v;lia
  split
  .rename_i e;exact Mb<|d _<|.inl ⟨_,rfl,BA hl o<|by simpa using e⟩
  split
  .rename_i e2;exact Mb<|d _<|.inl ⟨_,rfl,Hv o<|.inr<|by simpa using e2⟩
  exact S3 K n ag bg sa sb hl o (by lia) h2 (by lia) d f q
 have:k=0:=by lia
 subst this;exact S3 K n ag bg sa sb hl h h1 h2 hN d f q
omit h h1 h2 hN hd hy in
theorem bNi{Q:ForInStep Gz->AC}(J:JL ρ T a b N out ia ib)(k:∀c,(∃r,c.1=some r/\Res ρ T r)\/(c.1=none/\JL ρ T a b (N+1) c.2.1 c.2.2.1 c.2.2.2.1)->Q (.done c) st)(p:∀c,c.1=none->JL ρ T a b (N+1) c.2.1 c.2.2.1 c.2.2.2.1->Q (.yield c) st):wpS (model prog w) A E s (lo0 a b out ia ib g ac bc) Q st:=by
 obtain⟨h,o,d,q⟩:=J;refine gO d<|gO (by lia)<|Sb<|K _ _ _ _ (bg _<|iT d) (ag _<|iT<|by lia) hk ?_
 refine cA (λlt=>?_) λlt=>?_
 .have f:=h.Kg d λz n=>by
   obtain⟨i,m,l,rfl⟩:=pU n;have:=sW sa m l;lia
  refine gO d<|cA (λe=>Mb<|k _<|.inl ⟨_,rfl,Hv f<|.inl<|eq_of_beq e⟩) λe=>?_
  have j:JL ρ T a b (N+1) _ _ _:=⟨f,o,wu d λz=>e<|Ih.mpr z,by omega⟩
  exact cA (λ_=>Mb<|k _<|.inr ⟨rfl,j⟩) λ_=>Mb<|p _ rfl j
 have f:=h.Ef (show ia<a.size by omega) λz n=>by
  obtain⟨i,m,l,rfl⟩:=pU n;have:=sW sb m l;lia
 refine gO (show ia<a.size by omega)<|cA (λe=>Mb<|k _<|.inl ⟨_,rfl,BA hl f<|eq_of_beq e⟩) λe=>?_
 have j:JL ρ T a b (N+1) _ _ _:=⟨f,wu o λz=>e<|Ih.mpr z,d,by omega⟩
 exact cA (λ_=>Mb<|k _<|.inr ⟨rfl,j⟩) λ_=>Mb<|p _ rfl j
omit h h1 h2 hN hd hy in
theorem bJb{R:Db}(J:JL ρ (a.toList++b.toList) a b 0 out ia ib)(p:∀o st',Sg st st'->Res ρ (a.toList++b.toList) o->R o st'):wpS (model prog w) A E s (F8 a b out ia ib g) R st:=by
 refine Sb<|Jh (Gh (I:=λx c st'=>Sg st st'/\c.1=none/\JL ρ (a.toList++b.toList) a b x c.2.1 c.2.2.1 c.2.2.2.1)
  (Q:=λc st'=>Sg st st'/\∃r,c.1=some r/\Res ρ (a.toList++b.toList) r) ?step ?fin ⟨.refl _,rfl,J⟩) ?post
 case fin=>
  rintro c st' ⟨_,_,_,u,t,q⟩;lia
 case post=>
  rintro⟨c,B⟩ st' ⟨f,r,e,l⟩;subst e;exact Mb<|p _ _ f l
 case step=>
  refine λx=>R5 λz o ia ib g=>?_
  intro st' _ v h;dsimp only;refine Sb<|Jh (Gh (I:=λy c j=>Sg st j/\c.1=none/\JL ρ (a.toList++b.toList) a b (x+y) c.2.1 c.2.2.1 c.2.2.2.1)
   (Q:=λc j=>Sg st j/\((∃r,c.1=some r/\Res ρ (a.toList++b.toList) r)\/(c.1=none/\JL ρ (a.toList++b.toList) a b (x+1) c.2.1 c.2.2.1 c.2.2.2.1))) ?step1 ?fin1 ⟨h.1,rfl,h.2.2⟩) ?post1
  case fin1=>
   refine ku λc o ia ib ac bc=>?_
   rintro j ⟨f,e,J⟩;exact⟨f,.inr ⟨e,J.mono<|by lia⟩⟩
  case step1=>
   refine λy=>ku λc o ia ib ac bc=>?_
   intro j _ hy h;exact bNi K (h.1.1.trans hk) ag bg sa sb hl h.2.2 (λc k=>⟨h.1,k.imp id λk=>⟨k.1,k.2.mono<|by omega⟩⟩) λc e k=>⟨h.1,e,k⟩
  case post1=>
   refine ku λc o ia ib ac bc=>?_
   refine λj h=>si λm=>?_
   obtain⟨f,⟨r,e,l⟩|⟨e,J⟩⟩:=h
   .refine m ?_
    clear m;dsimp only at e;subst e;exact Mb ⟨f,r,rfl,l⟩
   refine m ?_
   clear m;dsimp only at e J;subst e;refine Sb<|br<|Bk ⟨rfl,(Sb<|Jh (Gh (I:=λ_ c d=>Sg st d/\c.1=none/\JL ρ (a.toList++b.toList) a b (x+1) c.2.1 c.2.2.1 c.2.2.2.1)
    (Q:=λc d=>Sg st d/\UL ρ (a.toList++b.toList) a b (x+1) c) ?step2 ?fin2 ⟨f,rfl,J⟩) ?post2)⟩
   case fin2=>
    rintro c d ⟨f,e,J⟩;exact⟨f,.inr ⟨e,J⟩⟩
   case step2=>
    refine λy=>VC λc o ia ib g ac bc=>?_
    intro d _ _ h;refine cA (λ_=>?_) λ_=>?_
    .exact T3 K (h.1.1.trans hk) ag bg sa sb hl h.2.2 (λc n i k=>⟨h.1.trans i,k⟩) λc n i e k=>⟨h.1.trans i,e,k⟩
    exact T3 K (h.1.1.trans hk) ag bg sa sb hl h.2.2 (λc n i k=>⟨h.1.trans i,k⟩) λc n i e k=>⟨h.1.trans i,e,k⟩
   case post2=>
    refine VC λc o ia ib g ac bc=>?_
    rintro d ⟨f,⟨r,e,l⟩|⟨e,J⟩⟩
    .subst e;exact Mb ⟨f,r,rfl,l⟩
    subst e;refine Sb<|Nm<|Mb ⟨f.trans ⟨rfl,rfl,rfl,rfl⟩,rfl,J.mono<|by lia⟩
omit h h1 h2 hN hd hy in
theorem É{R:Db}(h:0<a.size)(c:0<b.size)(g:∀y∈a.toList,ρ (atK b 0)<=ρ y)(d:∀o st',Sg st st'->Res ρ (a.toList++b.toList) o->R o st'):wpS (model prog w) A E s (jI a b) R st:=by
 have i:MI ρ (a.toList++b.toList) (#[]).toList (a.toList.drop 0) (b.toList.drop 0):=⟨.refl _,.nil,λx f=>(nomatch f),sa,sb⟩
 have M1:=i.Kg c<|λy hy=>g y<|o7 hy
 rw[È];refine Sb<|br<|Bk ⟨rfl,(gO c ?_)⟩;have j : #[atK b 0]=(#[]).push (atK b 0):=rfl;refine cA (λe=>?_) λe=>?_
 .exact Mb (d _ _ (.refl _)<|Hv M1<|.inl<|by simpa using e)
 refine cA (λe2=>?_) λe2=>?_
 .exact Mb (d _ _ (.refl _)<|BA hl M1<|by simpa using e2)
 exact Sb<|Om<|bJb K hk ag bg sa sb hl ⟨M1,wu h λz=>e2<|Ih.mpr z,wu c λz=>e<|Ih.mpr z,He _⟩ d
end
def mI:dL->dL->SM dL:=sortPriv% PySem.Builtin.mergeHi
noncomputable def V7(a b h:dL)(e d g:Nat):SM dL:=do
 let c:=a.size+b.size
 let done (out:dL) (na nb:Nat):=a.extract 0 na++b.extract 0 nb++out.reverse
 let f (out:dL) (na nb:Nat):=b.extract 0 nb++a.extract 0 na++out.reverse
 let mut na:=e
 let mut nb:=d
 let mut out:=h
 let mut minGallop:=g
 for _ in [0:c] do
  let mut acount:=0
  let mut bcount:=0
  for _ in [0:c] do
   let some aWins <- lt' (<- elem' b (nb-1)) (<- elem' a (na-1))|return done out na nb
   if aWins then
    na:=na-1;out:=out.push<|<- elem' a na;acount:=acount+1;bcount:=0
    if na==0 then return done out na nb
    if acount ≥ minGallop then break
   else
    nb:=nb-1;out:=out.push<|<- elem' b nb;bcount:=bcount+1;acount:=0
    if nb==1 then return f out na nb
    if bcount ≥ minGallop then break
  rule "list.sort.gallop"
  minGallop:=minGallop+1
  for _ in [0:c] do
   if minGallop>1 then minGallop:=minGallop-1
   Dq minGallop
   let some at_ <- lD false (<- elem' b (nb-1)) a 0 na (na-1)|return done out na nb
   let k:=na-at_
   acount:=k
   if k>0 then
    out:=out++(a.extract at_ na).reverse;na:=at_
    if na==0 then return done out na nb
   nb:=nb-1;out:=out.push<|<- elem' b nb
   if nb==1 then return f out na nb
   let some at_ <- lD true (<- elem' a (na-1)) b 0 nb (nb-1)|return done out na nb
   let k:=nb-at_
   bcount:=k
   if k>0 then
    out:=out++(b.extract at_ nb).reverse;nb:=at_
    if nb==1 then return f out na nb
    if nb==0 then return done out na nb
   na:=na-1;out:=out.push<|<- elem' a na
   if na==0 then return done out na nb
   if acount<7&&bcount<7 then break
  minGallop:=minGallop+1
  Dq minGallop
 unsupported "internal:list.sort.merge-bound"
theorem Ê(a b:dL):mI a b=(do
 rule "list.sort.merge-hi"
 let x <- elem' a (a.size-1)
 if a.size-1==0 then return a.extract 0 (a.size-1)++b.extract 0 b.size++(#[x]).reverse
 if b.size==1 then return b.extract 0 b.size++a.extract 0 (a.size-1)++(#[x]).reverse
 V7 a b #[x] (a.size-1) b.size (gallopOf<|<- get)):=rfl
abbrev Qs:=Option dL×Nat×Nat×Array Keyed×Nat×Nat×Nat
noncomputable def JO(a b out:dL)(c d g f e:Nat):SM (ForInStep Qs):=do
 let x <- elem' a (c-1)
 if (c-1==0)=true then pure (.done (some<|a.extract 0 (c-1)++b.extract 0 d++(out.push x).reverse,c-1,d,out.push x,g,f,e))
 else if (decide (f<7)&&decide (e<7))=true then pure (.done (none,c-1,d,out.push x,g,f,e)) else pure (.yield (none,c-1,d,out.push x,g,f,e))
noncomputable def EE(a b out:dL)(d c g e f:Nat):SM (ForInStep Qs):=do
 let x <- elem' a (d-1)
 let o <- lD true x b 0 c (c-1)
 match o with
 |some k=>if c-k>0 then (if (k==1)=true then pure (.done (some<|b.extract 0 k++a.extract 0 d++(out++(b.extract k c).reverse).reverse,d,k,out++(b.extract k c).reverse,g,e,c-k)) else if (k==0)=true then pure (.done (some<|a.extract 0 d++b.extract 0 k++(out++(b.extract k c).reverse).reverse,d,k,out++(b.extract k c).reverse,g,e,c-k)) else JO a b (out++(b.extract k c).reverse) d k g e (c-k)) else JO a b out d c g e (c-k)
 |_=>pure<|.done (some<|a.extract 0 d++b.extract 0 c++out.reverse,d,c,out,g,e,f)
noncomputable def GO(a b out:dL)(d c g f e:Nat):SM (ForInStep Qs):=do
 let x <- elem' b (c-1)
 if (c-1==1)=true then pure (.done (some<|b.extract 0 (c-1)++a.extract 0 d++(out.push x).reverse,d,c-1,out.push x,g,f,e)) else EE a b (out.push x) d (c-1) g f e
noncomputable def U7(a b out:dL)(c d g f e:Nat):SM (ForInStep Qs):=do
 Dq g
 let x <- elem' b (d-1)
 let o <- lD false x a 0 c (c-1)
 match o with
 |some k=>if c-k>0 then (if (k==0)=true then pure (.done (some<|a.extract 0 k++b.extract 0 d++(out++(a.extract k c).reverse).reverse,k,d,out++(a.extract k c).reverse,g,c-k,e)) else GO a b (out++(a.extract k c).reverse) k d g (c-k) e) else GO a b out c d g (c-k) e
 |_=>pure<|.done (some<|a.extract 0 c++b.extract 0 d++out.reverse,c,d,out,g,f,e)
abbrev Cz:=Option dL×Nat×Nat×Array Keyed×Nat×Nat
noncomputable def hiA(a b out:dL)(c d g e:Nat):SM (ForInStep Cz):=do
 let x <- elem' a (c-1)
 if (c-1==0)=true then pure (.done (some<|a.extract 0 (c-1)++b.extract 0 d++(out.push x).reverse,c-1,d,out.push x,e+1,0))
 else if e+1 ≥ g then pure (.done (none,c-1,d,out.push x,e+1,0)) else pure (.yield (none,c-1,d,out.push x,e+1,0))
noncomputable def hiB(a b out:dL)(d c g e:Nat):SM (ForInStep Cz):=do
 let x <- elem' b (c-1)
 if (c-1==1)=true then pure (.done (some<|b.extract 0 (c-1)++a.extract 0 d++(out.push x).reverse,d,c-1,out.push x,0,e+1))
 else if e+1 ≥ g then pure (.done (none,d,c-1,out.push x,0,e+1)) else pure (.yield (none,d,c-1,out.push x,0,e+1))
noncomputable def hi0(a b out:dL)(d c g f e:Nat):SM (ForInStep Cz):=do
 let x <- elem' b (c-1)
 let y <- elem' a (d-1)
 let o <- lt' x y
 match o with
 |some k=>if k=true then hiA a b out d c g f else hiB a b out d c g e
 |_=>pure<|.done (some<|a.extract 0 d++b.extract 0 c++out.reverse,d,c,out,f,e)
theorem zA{a:dL} {x:Keyed} (h:x∈(a.toList.take n).reverse):∃j,j<n/\j<a.size/\x=atK a j:=by
 obtain⟨j,b⟩:=xk.mp<|yx.mp h;rw[TM]at b;split at b
 .rename_i d;have c:=by
   simpa using ((List.getElem?_eq_some_iff.mp b).1)
  refine⟨j,d,c,?_⟩;have:=oN c;rw[<-nh,b]at this;exact Te this
 cases b
theorem bQr{a:dL} (d:1<=n) (c:n<=a.size):(a.toList.take n).reverse=atK a (n-1)::(a.toList.take<|n-1).reverse:=by
 obtain⟨m,rfl⟩:∃m,n=m+1:=⟨n-1,by lia⟩
 have b:m<a.toList.length:=by rw[Ig];lia
 rw[Z5 b,List.reverse_append];have:=oN (show m<a.size by lia)
 rw[<-nh,md b]at this;rw[Te this];rfl
theorem bNj{a:dL}{k:Nat}(h:k<=n):(a.toList.take n).reverse=(a.extract k n).reverse.toList++(a.toList.take k).reverse:=by
 rw[t7,Ow,<-List.reverse_append];obtain⟨m,rfl⟩:=Hm h;rw[kM,List.take_add]
section
variable{prog:Program}{w:World}{A:Around}{E:bv}{s:Shared}{ρ:ut}{P:Fa}{κ:SortKind}{a b out:dL}{T:tz}{na nb g ac bc N:Nat}{st:SortSt}
def MH(c:ut)(T:tz)(a b out:dL)(e d:Nat):Prop:=MI (λx=>-c x) T out.toList (a.toList.take e).reverse (b.toList.take d).reverse
theorem L0{r:dL}{o R S:tz}(h:MI (λx=>-ρ x) T o R S)(a:∀x∈R,∀y∈S,ρ y<=ρ x)(e:r.toList=(o++R++S).reverse):Res ρ T r:=by
 have z:=h.end (λx c y b=>by have:=a x c y b;lia) rfl
 refine⟨?_,?_⟩
 .rw[e];exact(YM _).trans z.1
 rw[e,CM];exact z.2.imp λ{x y} h=>by lia
theorem yE(h:MH ρ T a b out na nb)(e:na=0\/nb=0):Res ρ T (a.extract 0 na++b.extract 0 nb++out.reverse):=by
 refine L0 h.swap (λx hx y hy=>?_) (by simp)
 rcases e with e|e
 .obtain⟨j,c,_⟩:=zA hy;lia
 obtain⟨j,c,_⟩:=zA hx;lia
theorem zB(c:∀y∈a.toList,ρ (atK b 0)<=ρ y)(h:MH ρ T a b out na nb)(e:nb=1):Res ρ T (b.extract 0 nb++a.extract 0 na++out.reverse):=by
 refine L0 h (λx hx y hy=>?_) (by simp)
 obtain⟨j,f,d,rfl⟩:=zA hy;have:j=0:=by lia
 subst this;exact c x<|u7<|yx.mp hx
theorem MH.Ef(h:MH ρ T a b out na nb)(f:1<=na)(e:na<=a.size)(d:∀y∈(b.toList.take nb).reverse,ρ y<=ρ (atK a<|na-1)):MH ρ T a b (out.push<|atK a<|na-1) (na-1) nb:=by
 unfold MH at h ⊢;rw[bQr f e]at h;rw[toList_push];exact MI.take h λx z y c=>by rw[Fe.mp z];have:=d y c;lia
theorem MH.Kg(h:MH ρ T a b out na nb)(e:1<=nb)(d:nb<=b.size)(c:∀y∈(a.toList.take na).reverse,ρ y<=ρ (atK b<|nb-1)):MH ρ T a b (out.push<|atK b<|nb-1) na (nb-1):=(MH.Ef (MI.swap h) e d c).swap
theorem MH.Qh{k:Nat}(h:MH ρ T a b out na nb)(e:k<=na)(d:∀x∈(a.extract k na).toList,∀y∈(b.toList.take nb).reverse,ρ y<=ρ x):MH ρ T a b (out++(a.extract k na).reverse) k nb:=by
 unfold MH at h ⊢;rw[bNj e]at h;rw[toList_append];refine MI.take h λx z y c=>?_
 rw[t7]at z;have:=d x (yx.mp z) y c;lia
theorem MH.dm{k:Nat}(h:MH ρ T a b out na nb)(d:k<=nb)(c:∀x∈(b.extract k nb).toList,∀y∈(a.toList.take na).reverse,ρ y<=ρ x):MH ρ T a b (out++(b.extract k nb).reverse) na k:=(MH.Qh (MI.swap h) d c).swap
theorem JJ{a:dL}{k:Nat}{x:Keyed}(h:x∈(a.extract k n).toList):∃j,k<=j/\j<n/\j<a.size/\x=atK a j:=by
 rcases Iu n k with b|b
 .rw[Ow,show n-k=0 by lia]at h;cases h
 obtain⟨m,rfl⟩:=Hm b;obtain⟨j,d,c,rfl⟩:=IJ h;exact⟨k+j,by lia,by lia,c,rfl⟩
def JH(e:ut)(T:tz)(a b:dL)(N:Nat)(out:dL)(d c:Nat):Prop:=MH e T a b out d c/\(1<=d/\d<=a.size)/\(2<=c/\c<=b.size)/\d+c+N<=a.size+b.size
theorem JH.mono(h:JH ρ T a b N out na nb)(c:N'<=N):JH ρ T a b N' out na nb:=⟨h.1,h.2.1,h.2.2.1,Vc (JM c _) h.2.2.2⟩
def UH(d:ut)(T:tz)(a b:dL)(N:Nat)(c:Qs):Prop:=(∃r,c.1=some r/\Res d T r)\/(c.1=none/\JH d T a b N c.2.2.2.1 c.2.1 c.2.2.1)
variable{Q:ForInStep Qs->AC}(K:Ask prog w A E s ρ P κ)(hk:kindOf st=κ)(ag:∀x∈a.toList,P x)(bg:∀x∈b.toList,P x)(sa:a.toList.Pairwise λx y=>ρ x<=ρ y)(sb:b.toList.Pairwise λx y=>ρ x<=ρ y)(hl:∀y∈a.toList,ρ (atK b 0)<=ρ y)
 (h:MH ρ T a b out na nb) (h1:1<=na) (Di:na<=a.size) (h2:2<=nb) (qj:nb<=b.size) (hN:na+nb+N<=a.size+b.size)
 (hd:∀c,UH ρ T a b N c->Q (.done c) st) (hy:∀c,c.1=none->JH ρ T a b N c.2.2.2.1 c.2.1 c.2.2.1->Q (.yield c) st)
include h h1 Di h2 qj hN hd hy
theorem U3(d:∀y∈(b.toList.take nb).reverse,ρ y<=ρ (atK a<|na-1)):wpS (model prog w) A E s (JO a b out na nb g ac bc) Q st:=by
 refine gO (by lia) ?_
 have c:=h.Ef h1 Di d;refine cA (λe=>?_) λe=>?_
 .exact Mb (hd _<|.inl ⟨_,rfl,yE c<|.inl<|by simpa using e⟩)
 refine cA (λ_=>?_) λ_=>?_
 .exact Mb (hd _<|.inr ⟨rfl,c,⟨by show 1<=na-1;lia,by show na-1<=a.size;lia⟩,⟨h2,qj⟩,by show na-1+nb+N<=_;lia⟩)
 exact Mb<|hy _ rfl ⟨c,⟨by show 1<=na-1;lia,by show na-1<=a.size;lia⟩,⟨h2,qj⟩,by show na-1+nb+N<=_;lia⟩
include K hk ag bg sa sb hl
theorem bNk:wpS (model prog w) A E s (EE a b out na nb g ac bc) Q st:=by
 refine gO (by lia)<|Sb<|gI K hk bg (ag _<|iT<|by lia) (by lia) (λi j B z=>sW sb (by lia)<|by lia) (by lia) λk r p o=>?_
 have n:∀y∈(b.toList.take k).reverse,ρ y<=ρ (atK a<|na-1):=λy d=>by
  obtain⟨j,f,m,rfl⟩:=zA d;have:=p j f;lia
 refine cA (λc=>?_) λc=>?_
 .have l:=h.dm (k:=k) (by omega) λx q y d=>by
   obtain⟨j,f,m,t,rfl⟩:=JJ q;obtain⟨i,v,u,rfl⟩:=zA d;have:=o j f m;have:=sW sa (show i<=na-1 by lia) (by lia)
   lia
  refine cA (λe=>?_) λe=>?_
  .exact Mb (hd _<|.inl ⟨_,rfl,zB hl l<|by simpa using e⟩)
  refine cA (λe2=>?_) λe2=>?_
  .exact Mb (hd _<|.inl ⟨_,rfl,yE l<|.inr<|by simpa using e2⟩)
  exact U3 l h1 Di (by lia) (by lia) (by lia) hd hy n
 have:k=nb:=by lia
 subst this;exact U3 h h1 Di h2 qj hN hd hy n
theorem V3(d:∀y∈(a.toList.take na).reverse,ρ y<=ρ (atK b<|nb-1)):wpS (model prog w) A E s (GO a b out na nb g ac bc) Q st:=by
 refine gO (by lia) ?_
 have c:=h.Kg (by lia) qj d
 refine cA (λe=>?_) λe=>?_
 .exact Mb (hd _<|.inl ⟨_,rfl,zB hl c<|by simpa using e⟩)
 exact bNk K hk ag bg sa sb hl c h1 Di (by lia) (by lia) (by lia) hd hy
omit h h1 Di h2 qj hN hd hy in
theorem W3(J:JH ρ T a b N out na nb)(B:∀c st',Sg st st'->UH ρ T a b N c->Q (.done c) st')(l:∀c st',Sg st st'->c.1=none->JH ρ T a b N c.2.2.2.1 c.2.1 c.2.2.1->Q (.yield c) st'):wpS (model prog w) A E s (U7 a b out na nb g ac bc) Q st:=by
 obtain⟨h,⟨h1,Di⟩,⟨h2,qj⟩,hN⟩:=J;unfold U7;rw[QX];refine Sb<|Nm ?_;generalize z:SortSt.mk' _ _ _ g _=st';have m:Sg st st':=by subst z;exact⟨rfl,rfl,rfl,rfl⟩
 have n:=m.1.trans hk;have d:=λc=>B c st' m
 have f:=λc=>l c st' m
 refine gO (by lia)<|Sb<|fI K n ag (bg _<|iT<|by lia) (by lia) (λi j I H=>sW sa (by lia)<|by lia) (by lia) λk C q p=>?_
 simp at q p;have u:∀y∈(a.toList.take k).reverse,ρ y<=ρ _:=λy l=>by
  obtain⟨j,o,r,rfl⟩:=zA l;exact q j o
 refine cA (λc=>?_) λc=>?_
 .have t:=h.Qh (k:=k) (by lia) λx v y l=>by
   obtain⟨j,o,r,D,rfl⟩:=JJ v;obtain⟨i,G,F,rfl⟩:=zA l;have:=p j o r;have:=sW sb (show i<=nb-1 by lia) (by lia)
   lia
  refine cA (λe=>?_) λe=>?_
  .exact Mb (d _<|.inl ⟨_,rfl,yE t<|.inl<|by simpa using e⟩)
  exact V3 K n ag bg sa sb hl t (by lia) (by lia) h2 qj (by lia) d f u
 have:k=na:=by lia
 subst this;exact V3 K n ag bg sa sb hl h h1 Di h2 qj hN d f u
omit h h1 Di h2 qj hN hd hy in
theorem bNl{Q:ForInStep Cz->AC}(J:JH ρ T a b N out na nb)(l:∀c,(∃r,c.1=some r/\Res ρ T r)\/(c.1=none/\JH ρ T a b (N+1) c.2.2.2.1 c.2.1 c.2.2.1)->Q (.done c) st)(t:∀c,c.1=none->JH ρ T a b (N+1) c.2.2.2.1 c.2.1 c.2.2.1->Q (.yield c) st):wpS (model prog w) A E s (hi0 a b out na nb g ac bc) Q st:=by
 obtain⟨h,⟨q,o⟩,⟨p,n⟩,x⟩:=J;have f:na-1<a.size:=by omega
 have d:nb-1<b.size:=by omega
 refine gO d<|gO f<|Sb<|K _ _ _ _ (bg _<|iT d) (ag _<|iT f) hk ?_;refine cA (λlt=>?_) λlt=>?_
 .have k:=h.Ef q o λz m=>by
   obtain⟨i,v,u,rfl⟩:=zA m;have:=sW sb (show i<=nb-1 by lia) d
   lia
  refine gO f<|cA (λe=>Mb<|l _<|.inl ⟨_,rfl,yE k<|.inl<|eq_of_beq e⟩) λe=>?_
  have j:JH ρ T a b (N+1) _ _ _:=⟨k,⟨PM λz=>e<|Ih.mpr z,Pj f⟩,⟨p,n⟩,by lia⟩
  exact cA (λ_=>Mb<|l _<|.inr ⟨rfl,j⟩) λ_=>Mb<|t _ rfl j
 have k:=h.Kg (JD p) n λz m=>by
  obtain⟨i,v,u,rfl⟩:=zA m;have:=sW sa (show i<=na-1 by lia) f
  lia
 refine gO d<|cA (λe=>Mb<|l _<|.inl ⟨_,rfl,zB hl k<|eq_of_beq e⟩) λe=>?_
 have j:JH ρ T a b (N+1) _ _ _:=⟨k,⟨q,o⟩,⟨by have:nb-1≠1:=λz=>e<|Ih.mpr z;omega,Pj d⟩,by lia⟩
 exact cA (λ_=>Mb<|l _<|.inr ⟨rfl,j⟩) λ_=>Mb<|t _ rfl j
omit h h1 Di h2 qj hN hd hy in
theorem bJc{R:Db}(J:JH ρ (a.toList++b.toList) a b 0 out na nb)(p:∀o st',Sg st st'->Res ρ (a.toList++b.toList) o->R o st'):wpS (model prog w) A E s (V7 a b out na nb g) R st:=by
 refine Sb<|Jh (Gh (I:=λx c st'=>Sg st st'/\c.1=none/\JH ρ (a.toList++b.toList) a b x c.2.2.2.1 c.2.1 c.2.2.1)
  (Q:=λc st'=>Sg st st'/\∃r,c.1=some r/\Res ρ (a.toList++b.toList) r) ?step ?fin ⟨.refl _,rfl,J⟩) ?post
 case fin=>
  rintro c st' ⟨_,_,_,⟨t,_⟩,_,q⟩;lia
 case post=>
  rintro⟨c,z⟩ st' ⟨f,r,e,l⟩;dsimp only at e;subst e;exact Mb<|p _ _ f l
 case step=>
  refine λx=>R5 λv na nb o g=>?_
  intro st' _ u h;dsimp only;refine Sb<|Jh (Gh (I:=λy c j=>Sg st j/\c.1=none/\JH ρ (a.toList++b.toList) a b (x+y) c.2.2.2.1 c.2.1 c.2.2.1)
   (Q:=λc j=>Sg st j/\((∃r,c.1=some r/\Res ρ (a.toList++b.toList) r)\/(c.1=none/\JH ρ (a.toList++b.toList) a b (x+1) c.2.2.2.1 c.2.1 c.2.2.1))) ?step1 ?fin1 ⟨h.1,rfl,h.2.2⟩) ?post1
  case fin1=>
   refine ku λc na nb o ac bc=>?_
   rintro j ⟨f,e,J⟩;exact⟨f,.inr ⟨e,J.mono<|by lia⟩⟩
  case step1=>
   refine λy=>ku λc na nb o ac bc=>?_
   intro j _ hy h;exact bNl K (h.1.1.trans hk) ag bg sa sb hl h.2.2 (λc k=>⟨h.1,k.imp id λk=>⟨k.1,k.2.mono<|by omega⟩⟩) λc e k=>⟨h.1,e,k⟩
  case post1=>
   refine ku λc na nb o ac bc=>?_
   refine λj h=>si λm=>?_
   obtain⟨f,⟨r,e,l⟩|⟨e,J⟩⟩:=h
   .refine m ?_
    clear m;dsimp only at e;subst e;exact Mb ⟨f,r,rfl,l⟩
   refine m ?_
   clear m;dsimp only at e J;subst e;refine Sb<|br<|Bk ⟨rfl,(Sb<|Jh (Gh (I:=λ_ c d=>Sg st d/\c.1=none/\JH ρ (a.toList++b.toList) a b (x+1) c.2.2.2.1 c.2.1 c.2.2.1)
    (Q:=λc d=>Sg st d/\UH ρ (a.toList++b.toList) a b (x+1) c) ?step2 ?fin2 ⟨f,rfl,J⟩) ?post2)⟩
   case fin2=>
    rintro c d ⟨f,e,J⟩;exact⟨f,.inr ⟨e,J⟩⟩
   case step2=>
    refine λy=>VC λc na nb o g ac bc=>?_
    intro d _ _ h;refine cA (λ_=>?_) λ_=>?_
    .exact W3 K (h.1.1.trans hk) ag bg sa sb hl h.2.2 (λc n i k=>⟨h.1.trans i,k⟩) λc n i e k=>⟨h.1.trans i,e,k⟩
    exact W3 K (h.1.1.trans hk) ag bg sa sb hl h.2.2 (λc n i k=>⟨h.1.trans i,k⟩) λc n i e k=>⟨h.1.trans i,e,k⟩
   case post2=>
    refine VC λc na nb o g ac bc=>?_
    rintro d ⟨f,⟨r,e,l⟩|⟨e,J⟩⟩
    .subst e;exact Mb ⟨f,r,rfl,l⟩
    subst e;refine Sb<|Nm<|Mb ⟨f.trans ⟨rfl,rfl,rfl,rfl⟩,rfl,J.mono<|by lia⟩
omit h h1 Di h2 qj hN hd hy in
theorem Ë{R:Db}(i:0<a.size)(g:0<b.size)(f:∀y∈b.toList,ρ y<=ρ (atK a<|a.size-1))(c:∀o st',Sg st st'->Res ρ (a.toList++b.toList) o->R o st'):wpS (model prog w) A E s (mI a b) R st:=by
 have k:MH ρ (a.toList++b.toList) a b #[] a.size b.size:=by
  unfold MH;rw[yu (by simp),yu (by simp)]
  refine⟨(YM _).append<|YM _,.nil,λx d=>(nomatch d),?_,?_⟩
  .rw[CM];exact sa.imp λh=>by lia
  rw[CM];exact sb.imp λh=>by lia
 have M1:=k.Ef i (Cb _)<|λy hy=>f y<|u7<|yx.mp hy
 rw[Ê];refine Sb<|br<|Bk ⟨rfl,gO (by lia) ?_⟩
 have j : #[atK a<|a.size-1]=(#[]).push (atK a<|a.size-1):=rfl;rw[j];refine cA (λe=>?_) λe=>?_
 .exact Mb (c _ _ (.refl _)<|yE M1<|.inl<|by simpa using e)
 refine cA (λe2=>?_) λe2=>?_
 .exact Mb (c _ _ (.refl _)<|zB hl M1<|by simpa using e2)
 exact Sb<|Om<|bJc K hk ag bg sa sb hl ⟨M1,⟨PM λz=>e<|Ih.mpr z,by lia⟩,⟨wu g λz=>e2<|Ih.mpr z.symm,Cb _⟩,by lia⟩ c
end
def Vp(arr:dL)(p:Nat)(m:tz):dL:=m.zipIdx.foldl (λa (x,j)=>a.setIfInBounds (p+j) x) arr
def Ì(i:Nat):mergeAt' i=(do
 let s <- get
 let (some (sa,na,power),some (sb,nb,_)):=((pendingOf s)[i]?,(pendingOf s)[i+1]?)|unsupported "internal:list.sort.pending"
 set (setPending s<|((pendingOf s).setIfInBounds i (sa,na+nb,power)).eraseIdxIfInBounds<|i+1)
 let some k <- lD false (<- elem' (arrOf s) sb) (arrOf s) sa na 0|return false
 let (sa,na):=(sa+k,na-k)
 if na==0 then return true
 let some nb <- lD true (<- elem' (arrOf s) (sa+na-1)) (arrOf s) sb nb (nb-1)|return false
 if nb==0 then return true
 let x:=(arrOf s).extract sa sb
 let y:=(arrOf s).extract sb<|sb+nb
 let merged <- if na<=nb then jI x y else mI x y
 modify λs=>setArr s<|Vp (arrOf s) sa merged.toList
 return (failedOf<|<- get).isNone):=rfl
def lA(a:ut)(arr:dL)(lo hi:Nat):Prop:=∀i j,lo<=i->i<=j->j<hi->a (atK arr i)<=a (atK arr j)
theorem N0:∀(m:tz)(k:Nat)(arr:dL)(p:Nat),((m.zipIdx k).foldl (λa (x,j)=>a.setIfInBounds (p+j) x) arr).size=arr.size
 |[],_,_,_=>rfl
 |x::m,k,arr,p=>by
  rw[zipIdx_cons,Mm,N0 m<|k+1];exact YL
theorem W4:∀(m:tz)(k:Nat)(arr:dL)(p i:Nat),p+k+m.length<=arr.size->atK ((m.zipIdx k).foldl (λa (x,j)=>a.setIfInBounds (p+j) x) arr) i=if p+k<=i/\i<p+k+m.length then (m[i-(p+k)]?).getD (.none,.none) else atK arr i
 |[],k,arr,p,i,_=>by rw[Ea (by simp)];rfl
 |x::m,k,arr,p,i,h=>by
  rw[ie]at h;rw[zipIdx_cons,Mm,W4 m (k+1) _ p i (by rw[YL];lia)]
  by_cases b:p+(k+1)<=i/\i<p+(k+1)+m.length
  .rw[Ka b,Ka (by rw[ie];lia)]
   obtain⟨n,c⟩:∃n,i-(p+k)=n+1:=⟨i-(p+k)-1,by lia⟩
   rw[c,M6,show i-(p+(k+1))=n by omega]
  rw[Ea b];show ((arr.setIfInBounds (p+k) x)[i]?).getD _=_
  by_cases d:i=p+k
  .subst d;rw[Ka (by rw[ie];lia),YD,List.getElem?_cons_zero,Array.getElem?_setIfInBounds_self_of_lt (by lia)]
  rw[Ea (by rw[ie];lia),Array.getElem?_setIfInBounds_ne (by lia)]
  rfl
def bFh(arr:dL)(p:Nat)(m:tz):(Vp arr p m).size=arr.size:=N0 m 0 arr p
def PB{p:Nat}{m:tz}(h:p+m.length<=arr.size)(i:Nat):atK (Vp arr p m) i=if p<=i/\i<p+m.length then (m[i-p]?).getD (.none,.none) else atK arr i:=W4 m 0 arr p i h
def bJd{x y:dL}(hs:x.size=y.size)(h:∀i,i<x.size->atK x i=atK y i):x=y:=by
 refine Array.ext hs λi a b=>?_
 have e1:=oN a;have e2:=oN b;rw[Vq x i a]at e1;rw[Vq y i b]at e2;rw[Te e1,Te e2,(h i a)]
theorem bFi{p:Nat}{m:tz}(h:p+m.length<=arr.size):(Vp arr p m).toList=arr.toList.take p++(m++arr.toList.drop (p+m.length)):=by
 have e:Vp arr p m=(arr.toList.take p++(m++arr.toList.drop (p+m.length))).toArray:=by
  refine bJd ?_ λi c=>?_
  .rw[bFh];simp;lia
  rw[PB h];show _=((arr.toList.take p++(m++arr.toList.drop _)).toArray[i]?).getD _;rw[LD];have a:(arr.toList.take p).length=p:=by simp;lia
  split
  .rw[Lq (by lia),a,Yk (by lia)]
  by_cases b:i<p
  .rw[Yk (by lia),TM,Ka b,nh];rfl
  rw[Lq (by lia),a,Lq (by lia),RM,show p+m.length+(i-p-m.length)=i by lia,nh];rfl
 rw[e]
theorem QB{p:Nat}(a:q<=arr.size)(hi:i<q-p):atK (arr.extract p q) i=atK arr (p+i):=by
 unfold atK;rw[Array.getElem?_extract_of_lt (by lia),Vq arr (p+i) _]
theorem O0{p:Nat}(c:q<=arr.size)(h:lA ρ arr p q):(arr.extract p q).toList.Pairwise λx y=>ρ x<=ρ y:=by
 rw[YC];intro i j b a e;have sz:(arr.extract p q).size=q-p:=by simp;lia
 have d:=by rw[Ig,sz]at a;exact a
 have e1:=oN (arr:=arr.extract p q) (i:=i) (by omega)
 have e2:=oN (arr:=arr.extract p q) (i:=j) (by omega)
 rw[<-nh,md b,QB c (by rw[Ig,sz]at b;exact b)]at e1
 rw[<-nh,md a,QB c d]at e2;rw[Te e1,Te e2];exact h _ _ (by lia) (by lia) (by lia)
def vt{p:Nat}{x:Keyed}(h:x∈(arr.extract p q).toList):∃j,p<=j/\j<q/\j<arr.size/\x=atK arr j:=JJ h
def bNm{o:dL}(h:Res ρ T o) (hi:i<o.size):atK o i∈T:=h.1.mem_iff.mp<|iT hi
structure Mg(ρ:ut)(arr Ee:dL)(sa e:Nat):Prop where
 pm:Ee.toList.Perm arr.toList
 so:lA ρ Ee sa e
 out:∀i,i<sa\/e<=i->atK Ee i=atK arr i
section
variable {A:Around} {P:Fa} {st:SortSt}
def bJe{v:SortSt}{R:PUnit->AC}(h:R ⟨⟩ v):wpS (model prog w) A E s (set v:SM PUnit) R st:=by
 exact vc ⟨rfl,h⟩
theorem bJf{m:dL}{h lo b e:Nat}(H:h<=lo)(w:lo<b)(A:b<hi)(G:hi<=e)(hs:e<=arr.size)(p:lA ρ arr h b)(s2:lA ρ arr b e)
  (J:∀i,h<=i->i<lo->ρ (atK arr i)<=ρ (atK arr b)) (I:∀i,hi<=i->i<e->ρ (atK arr<|b-1)<=ρ (atK arr i))
  (k:Res ρ ((arr.extract lo b).toList++(arr.extract b hi).toList) m):Mg ρ arr (Vp arr lo m.toList) h e:=by
 have l:lo+m.toList.length=hi:=by
  rw[k.1.length_eq,ef,Ig,Ig];simp;lia
 have n:lo+m.toList.length<=arr.size:=by rw[l];exact Vc G hs
 have y:∀i,lo<=i->i<hi->∃j,(lo<=j/\j<hi)/\(m.toList[i-lo]?).getD (.none,.none)=atK arr j:=λi M L=>by
  have z:=bNm k (show i-lo<m.size by rw[<-Ig];lia)
  rw[nh];rcases wg.mp z with z|z
  .obtain⟨j,u,t,_,s⟩:=vt z;exact⟨j,⟨u,Jx t A⟩,s⟩
  obtain⟨j,u,t,_,s⟩:=vt z;exact⟨j,⟨Vc (Pj w) u,t⟩,s⟩
 refine⟨?_,λi j a1 a2 a3=>?_,λi a=>?_⟩
 .rw[bFi n,l];have e1:arr.toList=arr.toList.take lo++((arr.extract lo b).toList++(arr.extract b hi).toList++arr.toList.drop hi):=by
   have d1:=lI (a:=arr) lo<|b-lo;have B:=lI (a:=arr) b<|hi-b;rw[Nat.add_sub_cancel'<|Pj w]at d1;rw[Nat.add_sub_cancel'<|Pj A]at B;rw[Zk,<-B,<-d1,AM]
  conv=>rhs;rw[e1]
  exact(k.1.append_right _).append_left _
 .rw[PB n,PB n,l]
  by_cases d:lo<=i/\i<hi
  .rw[Ka d]
   by_cases c:lo<=j/\j<hi
   .rw[Ka c];rcases Iu i j with E|v
    .have C:j-lo<m.toList.length:=by lia
     have f:i-lo<m.toList.length:=by lia
     rw[md C,md f];exact YC.mp k.2 _ _ f C (by lia)
    cases sN a2 v;exact Ak _
   rw[Ea c];have F:hi<=j:=Fu λz=>c ⟨Vc d.1 a2,z⟩
   obtain⟨q,⟨x,D⟩,r⟩:=y i d.1 d.2;rw[r]
   by_cases o:q<b
   .exact Nn (p q (b-1) (Vc H x) (by lia)<|by lia) (I j F a3)
   exact s2 q j (Fu o) (by lia) a3
  rw[Ea d]
  by_cases d:i<lo
  .have g:=J i a1 d
   by_cases c:lo<=j/\j<hi
   .rw[Ka c];obtain⟨q,⟨x,D⟩,r⟩:=y j c.1 c.2;rw[r]
    by_cases o:q<b
    .exact p i q a1 (by lia) o
    exact Nn g<|s2 b q (Cb _) (Fu o)<|by lia
   rw[Ea c]
   by_cases K:j<lo
   .exact p i j a1 a2 (Jx K w)
   exact Nn g<|s2 b j (Cb _) (by lia) a3
  rw[Ea (by lia)]
  exact s2 i j (by lia) a2 a3
 rw[PB n,l,Ea (by lia)]
def bQs{f c k j g h:Nat}{m:dL}(e:f+j=c)(s:k<j)(p:h<=g)(hs:c+g<=arr.size)(l:lA ρ arr f c)(s2:lA ρ arr c (c+g))(n:0<h)
  (r:∀i,i<k->ρ (atK arr<|f+i)<=ρ (atK arr c)) (q:∀i,h<=i->i<g->ρ (atK arr<|c-1)<=ρ (atK arr<|c+i))
  (o:Res ρ ((arr.extract (f+k) c).toList++(arr.extract c<|c+h).toList) m):Mg ρ arr (Vp arr (f+k) m.toList) f (c+g):=
 bJf (il _ _) (by omega) (Nat.lt_add_of_pos_right n) (JM p _) hs l s2 (λi a b=>by
  obtain⟨d,rfl⟩:=Hm a;exact r d<|nu b) (λi a b=>by
  obtain⟨d,rfl⟩:=Hm<|Vc (il _ _) a;exact q d (WL a)<|nu b) o
def P0{a:Nat}(g:lA ρ arr sa sb)(s2:lA ρ arr sb a)(h:∀x y,sa<=x->x<sb->sb<=y->y<a->ρ (atK arr x)<=ρ (atK arr y)):lA ρ arr sa a:=λx y d c b=>
 if f:y<sb then g x y d c f else if e:x<sb then h x y d e (Fu f) b else s2 x y (Fu e) c b
theorem Í(K:Ask prog w A E s ρ P κ)(hk:kindOf st=κ)(u:∀x∈(arrOf st).toList,P x){b l pw a g U8:Nat}(p1:(pendingOf st)[i]?=some (b,l,pw))(Z:(pendingOf st)[i+1]?=some (a,g,U8))(e:b+l=a)(hs:a+g<=(arrOf st).size)(n1:0<l)(n2:0<g)(r:lA ρ (arrOf st) b a)(s2:lA ρ (arrOf st) a (a+g))(Yb:failedOf st=none)
  {Q:Ix} (h:∀st',kindOf st'=κ->failedOf st'=none->pendingOf st'=((pendingOf st).setIfInBounds i (b,l+g,pw)).eraseIdxIfInBounds (i+1)->Mg ρ (arrOf st) (arrOf st') b (a+g)->Q true st'):wpS (model prog w) A E s (mergeAt' i) Q st:=by
 rw[Ì];refine Sb<|Om ?_;rw[p1,Z];dsimp only;generalize C:setPending st (((pendingOf st).setIfInBounds i (b,l+g,pw)).eraseIdxIfInBounds<|i+1)=st1;have p:kindOf st1=κ:=by subst C;exact hk
 have H:failedOf st1=none:=by subst C;exact Yb
 have D:pendingOf st1=((pendingOf st).setIfInBounds i (b,l+g,pw)).eraseIdxIfInBounds (i+1):=by subst C;rfl
 have J:arrOf st1=arrOf st:=by subst C;rfl
 refine Sb<|bJe ?_;refine gO (by lia)<|Sb<|fI K p u (u _<|iT<|by lia) (by lia) (λi j Sd hj=>r _ _ (by lia) (by lia)<|by lia) n1 λk b1 T b3=>?_
 dsimp only;refine cA (λc=>?_) λc=>?_
 .have c:=by simpa using c
  refine Mb<|h _ p H D ?_;rw[J];refine⟨.refl _,P0 r s2 λx y h1 n c1 h3=>?_,λ_ _=>rfl⟩
  obtain⟨d,rfl⟩:=Hm h1;exact Nn (T d<|by lia)<|s2 a y (Cb _) c1 h3
 .have c:=by simpa using c
  refine gO (by lia)<|Sb<|gI K p u (u _<|iT<|by lia) (by lia) (λi j Sd hj=>s2 _ _ (by lia) (by lia)<|by lia) (by lia) λm d1 S I=>?_
  rw[show b+k+(l-k)-1=a-1 by lia]at S I
  dsimp only;refine cA (λn=>?_) λn=>?_
  .have n:=by simpa using n
   subst n;refine Mb<|h _ p H D ?_;rw[J];refine⟨.refl _,P0 r s2 λx y h1 n c1 h3=>?_,λ_ _=>rfl⟩
   obtain⟨d,rfl⟩:=Hm c1;exact Nn (r x (a-1) h1 (Nat.le_sub_one_of_lt n)<|Nat.sub_one_lt_of_lt n)<|I d (He _)<|nu h3
  .have V:((arrOf st).extract (b+k) a).toList.Pairwise λx y=>ρ x<=ρ y:=O0 (by lia) λx y h1 G h3=>r x y (by lia) G h3
   have U:((arrOf st).extract a<|a+m).toList.Pairwise λx y=>ρ x<=ρ y:=O0 (by lia) λx y h1 G h3=>s2 x y h1 G (by lia)
   have W:((arrOf st).extract (b+k) a).size=l-k:=by simp;lia
   have z2:((arrOf st).extract a<|a+m).size=m:=by simp;lia
   have M:∀x∈((arrOf st).extract (b+k) a).toList,P x:=λx q=>by obtain⟨j,_,_,F,rfl⟩:=vt q;exact u _<|iT F
   have L:∀x∈((arrOf st).extract a<|a+m).toList,P x:=λx q=>by obtain⟨j,_,_,F,rfl⟩:=vt q;exact u _<|iT F
   have X:atK ((arrOf st).extract a<|a+m) 0=atK (arrOf st) a:=by rw[QB (by lia) (by lia)];rfl
   have Y:atK ((arrOf st).extract (b+k) a) (((arrOf st).extract (b+k) a).size-1)=atK (arrOf st) (a-1):=by rw[W,QB (by lia) (by lia)];congr 1;lia
   have lo:∀x∈((arrOf st).extract (b+k) a).toList,ρ (atK ((arrOf st).extract a<|a+m) 0)<=ρ x:=λx q=>by
    obtain⟨j,B,N,_,rfl⟩:=vt q;obtain⟨d,rfl⟩:=Hm<|Vc (il _ _) B;rw[X];have t:=b3 d (WL B) (by lia)
    lia
   have O:∀x∈((arrOf st).extract a<|a+m).toList,ρ x<=ρ (atK ((arrOf st).extract (b+k) a)<|((arrOf st).extract (b+k) a).size-1):=λx q=>by
    obtain⟨j,B,N,_,rfl⟩:=vt q;obtain⟨d,rfl⟩:=Hm B;rw[Y];have t:=S d<|nu N;lia
   have z:∀(o:dL)(st':SortSt),Sg st1 st'->Res ρ (((arrOf st).extract (b+k) a).toList++((arrOf st).extract a<|a+m).toList) o->wpS (model prog w) A E s (do
     modify λs=>setArr s<|Vp (arrOf s) (b+k) o.toList
     let __x <- get
     pure (failedOf __x).isNone) Q st':=λo st' f v=>by
    refine Sb<|Nm<|Sb<|Om<|Mb ?_;have R:=f.2.2.2.trans H;have:=by show (failedOf st').isNone=true;rw[R];rfl
    rw[this];refine h _ (f.1.trans p) R (f.2.2.1.trans D) ?_
    rw[f.2.1,J];exact bQs e (by lia) d1 hs r s2 (by lia) T I v
   refine cA (λ_=>Sb ?_) λ_=>Sb ?_
   .exact É K p M L V U O (by lia) (by lia) lo λo st' f v=>z o st' f v
   .exact Ë K p M L V U lo (by lia) (by lia) O λo st' f v=>z o st' f v
end
structure Kp(st st':SortSt)(lo hi:Nat):Prop where
 pm:(arrOf st').toList.Perm (arrOf st).toList
 kind:kindOf st'=kindOf st
 fail:failedOf st'=failedOf st
 pend:pendingOf st'=pendingOf st
 out:∀i,i<lo\/hi<=i->atK (arrOf st') i=atK (arrOf st) i
theorem Kp.refl(st:SortSt)(lo hi:Nat):Kp st st lo hi:=⟨.refl _,rfl,rfl,rfl,λ_ _=>rfl⟩
theorem Kp.trans{a b c:SortSt}{lo hi:Nat}(h:Kp a b lo hi)(g:Kp b c lo hi):Kp a c lo hi:=⟨g.pm.trans h.pm,g.kind.trans h.kind,g.fail.trans h.fail,g.pend.trans h.pend,λi hi=>(g.out i hi).trans<|h.out i hi⟩
theorem Kp.size{st st':SortSt}{lo hi:Nat}(h:Kp st st' lo hi):(arrOf st').size=(arrOf st).size:=by
 have:=h.pm.length_eq
 rwa [Ig]at this
def bNn{xs:dL}{a d:Nat}(hs:a<xs.size)(b:d<=a)(k:Nat):atK (bubble xs a d) k=if k=a-d then atK xs a else if a-d<k/\k<=a then atK xs (k-1) else atK xs k:=by
 unfold atK;rw[getElem?_bubble hs d b k]
 repeat' split
 all_goals rfl
def KJ{xs:dL}{a b:Nat}(hs:a<xs.size)(c:b<=a)(k:Nat):atK (bubble xs a<|a-b) k=if k=b then atK xs a else if b<k/\k<=a then atK xs (k-1) else atK xs k:=by
 rw[bNn hs<|Nat.sub_le _ _,Nat.sub_sub_self c]
def yw{xs:dL} (a:j<=xs.size) (k:Nat):atK (mirror xs i j<|(j-i)/2) k=if i<=k/\k<j then atK xs (i+j-1-k) else atK xs k:=by
 unfold atK;rw[getElem?_mirror_all a k];split<;>rfl
theorem bNo{st:SortSt}{lo a b:Nat}(f:lo<=b)(d:b<=a)(e:a<hi)(c:a<(arrOf st).size):Kp st (setArr st<|bubble (arrOf st) a<|a-b) lo hi:=
 ⟨w6.mp<|bubble_perm _ _ _,rfl,rfl,rfl,λi hi=>by
  rw[KJ c d,Ea (by lia),Ea (by lia)]⟩
theorem zw{st:SortSt}{lo:Nat}(d:lo<=i)(c:j<=hi)(a:j<=(arrOf st).size):Kp st (setArr st<|mirror (arrOf st) i j<|(j-i)/2) lo hi:=
 ⟨w6.mp<|mirror_perm _ _ _ _,rfl,rfl,rfl,λk b=>by
  rw[yw a,Ea (by lia)]⟩
section
variable{prog:Program}{w:World}{A:Around}{E:bv}{s:Shared}{ρ:ut}{P:Fa}{κ:SortKind}{st:SortSt}
def wt(K:Ask prog w A E s ρ P κ)(c:kindOf st=κ)(b:∀x∈(arrOf st).toList,P x) (hi:i<(arrOf st).size) (a:j<(arrOf st).size) {Q:AT} (h:Q (some<|decide (ρ (atK (arrOf st) i)<ρ (atK (arrOf st) j))) st):wpS (model prog w) A E s (ltAt' i j) Q st:=by
 exact Sb<|Om<|gO hi<|gO a<|K _ _ _ _ (b _<|iT hi) (b _<|iT a) c h
variable(K:Ask prog w A E s ρ P κ)(hk:kindOf st=κ)(hP:∀x∈(arrOf st).toList,P x)
include K hk hP
omit K hk hP in
theorem bJg{arr:dL}{lo l k:Nat}(n:l<=k)(e:lo+k<arr.size)(h:∀i,i<l->ρ (atK arr<|lo+i)<=ρ (atK arr<|lo+k))(g:∀i,l<=i->i<k->ρ (atK arr<|lo+k)<ρ (atK arr<|lo+i))(hs:lA ρ arr lo (lo+k)):lA ρ (bubble arr (lo+k)<|lo+k-(lo+l)) lo (lo+(k+1)):=by
 have f:=JM n lo;have c:∀i,lo<=i->i<lo+l->ρ (atK arr i)<=ρ (atK arr<|lo+k):=λi a b=>by
  obtain⟨m,rfl⟩:=Hm a;exact h m<|nu b
 have d:∀i,lo+l<=i->i<lo+k->ρ (atK arr<|lo+k)<ρ (atK arr i):=λi a b=>by
  obtain⟨m,rfl⟩:=Hm<|Vc (il lo l) a;exact g m (WL a)<|nu b
 have r:=il lo l;clear h g;generalize lo+l=p at *;generalize o:lo+k=q at *;intro i j t u s;rw[KJ e f,KJ e f]
 repeat' split
 all_goals first
  |(exfalso;lia)
  |exact Ak _
  |exact c _ (by lia) (by lia)
  |exact Int.le_of_lt<|d _ (by lia)<|by lia
  |exact hs _ _ (by lia) (by lia) (by lia)
theorem bJh{lo ok:Nat}(F:lo+n<=(arrOf st).size)(H:1<=ok)(I:ok<=n)(hs:lA ρ (arrOf st) lo (lo+ok)){Q:Ix}(h:∀st',Kp st st' lo (lo+n)->lA ρ (arrOf st') lo (lo+n)->Q true st'):wpS (model prog w) A E s (binarySort' lo n ok) Q st:=by
 refine Sb<|Jh (Gh (I:=λk c st'=>c=(none,())/\Kp st st' lo (lo+n)/\lA ρ (arrOf st') lo (lo+min k n))
  (Q:=λc st'=>c=(none,())/\Kp st st' lo (lo+n)/\lA ρ (arrOf st') lo (lo+n)) ?step ?fin ?init) ?post
 case post=>
  rintro c st' ⟨rfl,k,a⟩;exact Mb<|h st' k a
 case init=>exact⟨rfl,.refl _ _ _,by rwa [show min (max ok 1) n=ok by lia]⟩
 case fin=>
  rintro c st' ⟨B,k,a⟩;refine⟨B,k,?_⟩
  rwa [show min (max (max ok 1) n) n=n by lia]at a
 case step=>
  rintro k c st' C J ⟨rfl,f,a⟩;rw[show min k n=k by lia]at a
  have sz:=f.size;have t:=λx v=>hP x<|f.pm.mem_iff.mp v
  refine Sb<|Jh (Gh (I:=λx c e=>e=st'/\∃l r,c=(none,l,r)/\l<=r/\r<=k/\r+x<=k+l/\
    (∀i,i<l->ρ (atK (arrOf st')<|lo+i)<=ρ (atK (arrOf st')<|lo+k))/\(∀i,r<=i->i<k->ρ (atK (arrOf st')<|lo+k)<ρ (atK (arrOf st')<|lo+i)))
   (Q:=λc e=>e=st'/\∃l r,c=(none,l,r)/\l<=k/\
    (∀i,i<l->ρ (atK (arrOf st')<|lo+i)<=ρ (atK (arrOf st')<|lo+k))/\(∀i,l<=i->i<k->ρ (atK (arrOf st')<|lo+k)<ρ (atK (arrOf st')<|lo+i))) ?istep ?ifin ?iinit) ?ipost
  case iinit=>exact⟨rfl,0,k,rfl,by lia,by lia,by lia,λi G=>by lia,λi q D=>by lia⟩
  case ifin=>
   rintro c e ⟨rfl,l,r,rfl,g,p,y,d,b⟩;have:l=r:=by lia
   subst this;exact⟨rfl,l,l,rfl,p,d,b⟩
  case istep=>
   rintro x c e _ u ⟨rfl,l,r,rfl,g,p,y,d,b⟩;dsimp only;refine cA (λo=>?_) λo=>?_
   .have:l=r:=by lia
    subst this;exact Mb ⟨rfl,l,l,rfl,p,d,b⟩
   refine Sb<|wt K (f.kind.trans hk) t (by lia) (by lia) ?_
   refine cA (λm=>?_) λm=>?_
   .exact Mb ⟨rfl,l,(l+r)/2,rfl,by lia,by lia,by lia,d,λi q D=>Int.lt_of_lt_of_le (gi m)<|a _ _ (by lia) (by lia)<|by lia⟩
   exact Mb ⟨rfl,(l+r)/2+1,r,rfl,by lia,by lia,by lia,λi q=>Nn (a (lo+i) (lo+(l+r)/2) (by lia) (by lia)<|by lia)<|Int.not_lt.mp<|λz=>m<|Cc z,b⟩
  case ipost=>
   rintro c e ⟨rfl,l,r,rfl,j,d,b⟩;show wpS _ _ _ _ (do moveDown' (lo+k) (lo+l);pure _) _ _
   rw[moveDown'_eq];refine Sb<|Nm<|Mb ⟨rfl,f.trans<|bNo (by lia) (by lia) (by lia)<|by lia,?_⟩
   rw[show min (k+1) n=k+1 by lia]
   exact bJg j (by lia) d b a
structure yo(ρ:ut)(arr:dL)(lo n q:Nat):Prop where
 dn:∀i j,lo<=i->i<=j->j<lo+n->ρ (atK arr j)<=ρ (atK arr i)
 le:q+1<=n
 eq:∀i,lo+n-(q+1)<=i->i<lo+n->ρ (atK arr i)=ρ (atK arr<|lo+n-1)
omit K hk hP in
theorem yo.I8{arr:dL}{lo n q:Nat}(h:yo ρ arr lo n q)(hs:lo+n<=arr.size)(i:Nat):ρ (atK (mirror arr (lo+n-(q+1)) (lo+n)<|(lo+n-(lo+n-(q+1)))/2) i)=ρ (atK arr i):=by
 rw[yw hs];split
 .rw[h.eq _ (by omega) (by omega),h.eq i (by lia) (by lia)]
 rfl
omit K hk hP in
theorem yo.turn{arr:dL}{lo n q:Nat}(h:yo ρ arr lo n q)(e:∀i,ρ (atK Ee i)=ρ (atK arr i))(hs:lo+n<=Ee.size):lA ρ (mirror Ee lo (lo+n)<|(lo+n-lo)/2) lo (lo+n):=λi j c b a=>by
 rw[yw hs,yw hs,Ka (by lia),Ka (by lia),e,e]
 exact h.dn _ _ (by omega) (by omega) (by omega)
omit K hk hP in
theorem lA.more{arr:dL}{lo n:Nat}(f:1<=n)(h:lA ρ arr lo (lo+n))(d:ρ (atK arr<|lo+n-1)<=ρ (atK arr<|lo+n)):lA ρ arr lo (lo+(n+1)):=λi j a b c=>by
 by_cases e:j=lo+n
 .subst e
  by_cases e2:i=lo+n
  .subst e2;exact Ak _
  exact Nn (h i _ a (by lia)<|by lia) d
 exact h i j a b (by lia)
theorem X3 {lo : Nat}  (o : 1 <= n) (i : n <= Zb) (hs : lo + Zb <= (arrOf st).size) (g : Kp oo st lo (lo + Zb)) (f : lA ρ (arrOf st) lo (lo + n))
     (k:∀m,G (none,m)=pure (some m)) (h:∀m st',1<=m->m<=Zb->Kp oo st' lo (lo+Zb)->lA ρ (arrOf st') lo (lo+m)->Q (some m) st') :
  wpS (model prog w) A E s ((forIn [n:Zb] ((none,n):Gc) λ_ __s=>do
   let __x <- ltAt' (lo+__s.2) (lo+__s.2-1)
   match __x with
   |some a=>if a=true then pure (ForInStep.done (none,__s.2)) else pure (ForInStep.yield (none,__s.2+1))
   |_=>pure<|ForInStep.done (some none,__s.2)) >>= G) Q st:=by
 refine Sb<|Jh (Gh (I:=λx c st'=>st'=st/\c=(none,x)/\x<=Zb/\n<=x/\lA ρ _ lo (lo+x))
  (Q:=λc st'=>st'=st/\∃m,c=(none,m)/\1<=m/\m<=Zb/\lA ρ (arrOf st) lo (lo+m)) ?step ?fin ⟨rfl,rfl,i,Cb _,f⟩) ?post
 case fin=>
  rintro c st' ⟨rfl,rfl,d,e,b⟩;exact⟨rfl,_,rfl,by lia,d,b⟩
 case post=>
  rintro c st' ⟨rfl,m,rfl,d,e,b⟩;rw[k];exact Mb<|h m st' d e g b
 case step=>
  rintro x c st' _ l ⟨rfl,rfl,d,e,b⟩;refine Sb<|wt K hk hP (by lia) (by lia)<|cA (λj=>?_) λj=>?_
  .exact Mb ⟨rfl,x,rfl,by lia,d,b⟩
  exact Mb ⟨rfl,rfl,by lia,by lia,b.more (by lia)<|by lia⟩
omit K hk hP in
def bQt(lo z:Nat):countRun' lo z=(do
 let mut n:=1
 for _ in [1:z] do
  let some d <- ltAt' (lo+n) (lo+n-1)|return none
  if d then break
  n:=n+1
 if n==z then return some n
 if n>1 then
  let some d <- ltAt' lo (lo+n-1)|return none
  if d then return some n
  reverseSlice' lo (lo+n)
 rule "list.sort.descending-run"
 n:=n+1
 let mut q:=0
 for _ in [n:z] do
  let some d <- ltAt' (lo+n) (lo+n-1)|return none
  if d then
   if q>0 then reverseSlice' (lo+n-(q+1)) (lo+n)
   q:=0
  else
   let some d <- ltAt' (lo+n-1) (lo+n)|return none
   if d then break
   q:=q+1
  n:=n+1
 if q>0 then reverseSlice' (lo+n-(q+1)) (lo+n)
 reverseSlice' lo (lo+n)
 for _ in [n:z] do
  let some d <- ltAt' (lo+n) (lo+n-1)|return none
  if d then break
  n:=n+1
 return some n):=rfl
theorem RX {lo : Nat}  (L : n + 1 <= Zb) (hs : lo + Zb <= (arrOf st).size) (k : Kp oo st lo (lo + Zb)) (N : yo ρ (arrOf st) lo (n + 1) 0)
     (I:∀m,G (none,m)=pure (some m)) {F:Option wS×Nat×Nat->SM wS}
  (M:∀m q,F (none,m,q)=(if q>0 then do
    reverseSlice' (lo+m-(q+1)) (lo+m)
    reverseSlice' lo (lo+m)
    (forIn [m:Zb] ((none,m):Gc) λ_ __s=>do
     let __x <- ltAt' (lo+__s.2) (lo+__s.2-1)
     match __x with
     |some a=>if a=true then pure (ForInStep.done (none,__s.2)) else pure (ForInStep.yield (none,__s.2+1))
     |_=>pure<|ForInStep.done (some none,__s.2)) >>= G
   else do
    reverseSlice' lo (lo+m)
    (forIn [m:Zb] ((none,m):Gc) λ_ __s=>do
     let __x <- ltAt' (lo+__s.2) (lo+__s.2-1)
     match __x with
     |some a=>if a=true then pure (ForInStep.done (none,__s.2)) else pure (ForInStep.yield (none,__s.2+1))
     |_=>pure<|ForInStep.done (some none,__s.2)) >>= G))
   (h:∀m st',1<=m->m<=Zb->Kp oo st' lo (lo+Zb)->lA ρ (arrOf st') lo (lo+m)->Q (some m) st') :
  wpS (model prog w) A E s ((forIn [n+1:Zb] ((none,n+1,0):Option (Option Nat)×Nat×Nat) λ_ __s=>do
   let __x <- ltAt' (lo+__s.2.1) (lo+__s.2.1-1)
   match __x with
   |some a=>
    if a=true then
     if __s.2.2>0 then do
      reverseSlice' (lo+__s.2.1-(__s.2.2+1)) (lo+__s.2.1)
      pure (ForInStep.yield (none,__s.2.1+1,0))
     else pure (ForInStep.yield (none,__s.2.1+1,0))
    else do
     let __x <- ltAt' (lo+__s.2.1-1) (lo+__s.2.1)
     match __x with
     |some f=>if f=true then pure (ForInStep.done (none,__s.2.1,__s.2.2)) else pure (ForInStep.yield (none,__s.2.1+1,__s.2.2+1))
     |_=>pure<|ForInStep.done (some none,__s.2.1,__s.2.2)
   |_=>pure<|ForInStep.done (some none,__s.2.1,__s.2.2)) >>= F) Q st:=by
 refine Sb<|Jh (Gh (I:=λx c st'=>∃q,c=(none,x,q)/\x<=Zb/\Kp oo st' lo (lo+Zb)/\yo ρ (arrOf st') lo x q)
  (Q:=λc st'=>∃m q,c=(none,m,q)/\m<=Zb/\Kp oo st' lo (lo+Zb)/\yo ρ (arrOf st') lo m q) ?step ?fin ⟨0,rfl,L,k,N⟩) ?post
 case fin=>
  rintro c st' ⟨q,rfl,o,d,b⟩;exact⟨_,q,rfl,o,d,b⟩
 case step=>
  rintro x c st' _ R ⟨q,rfl,o,d,b⟩;have r:kindOf st'=κ:=d.kind.trans<|k.kind.symm.trans hk;have p:∀y∈(arrOf st').toList,P y:=λy l=>hP y<|k.pm.mem_iff.mpr<|d.pm.mem_iff.mp l
  have sz:(arrOf st').size=(arrOf st).size:=by rw[d.size,k.size]
  have v:=b.le;dsimp only;refine Sb<|wt K r p (by omega) (by omega) ?_
  refine cA (λt=>?_) λt=>?_
  .have t:=gi t;have J:∀D:dL,(∀i,ρ (atK D i)=ρ (atK (arrOf st') i))->yo ρ D lo (x+1) 0:=λD e=>by
    refine⟨λi j b1 b2 O=>?_,by omega,λi b1 b2=>by rw[show i=lo+(x+1)-1 by omega]⟩
    rw[e,e]
    by_cases u:j=lo+x
    .subst u
     by_cases C:i=lo+x
     .subst C;exact Ak _
     .have:=b.dn i (lo+x-1) b1 (by omega) (by omega)
      omega
    .exact b.dn i j b1 b2 (by omega)
   refine cA (λ_=>?_) λ_=>?_
   .exact Sb (Nm<|Mb ⟨0,rfl,by omega,d.trans<|zw (by omega) (by omega)<|by omega,J _<|b.I8<|by omega⟩)
   .exact Mb ⟨0,rfl,by omega,d,J _ λ_=>rfl⟩
  .have t:¬ ρ (atK (arrOf st')<|lo+x)<ρ (atK (arrOf st')<|lo+x-1):=λz=>t (Cc z)
   refine Sb<|wt K r p (by omega) (by omega) ?_
   refine cA (λB=>?_) λB=>?_
   .exact Mb ⟨x,q,rfl,o,d,b⟩
   .have B:¬ ρ (atK (arrOf st')<|lo+x-1)<ρ (atK (arrOf st')<|lo+x):=λz=>B (Cc z)
    have e:ρ (atK (arrOf st')<|lo+x)=ρ (atK (arrOf st')<|lo+x-1):=by omega
    refine Mb ⟨q+1,rfl,by omega,d,λi j b1 b2 O=>?_,by lia,λi b1 b2=>?_⟩
    .by_cases u:j=lo+x
     .subst u
      by_cases C:i=lo+x
      .subst C;exact Ak _
      .have:=b.dn i (lo+x-1) b1 (by omega) (by omega)
       lia
     .exact b.dn i j b1 b2 (by lia)
    .rw[show lo+(x+1)-1=lo+x by lia]
     by_cases u:i=lo+x
     .rw[u]
     .rw[e];exact b.eq i (by lia) (by lia)
 case post=>
  rintro c st' ⟨m,q,rfl,o,d,b⟩;have r:kindOf st'=κ:=d.kind.trans<|k.kind.symm.trans hk;have p:∀y∈(arrOf st').toList,P y:=λy l=>hP y<|k.pm.mem_iff.mpr<|d.pm.mem_iff.mp l
  have sz:(arrOf st').size=(arrOf st).size:=by rw[d.size,k.size]
  have v:=b.le;rw[M];refine cA (λ_=>?_) λ_=>?_
  .have H:Kp st' (setArr st'<|mirror (arrOf st') (lo+m-(q+1)) (lo+m)<|(lo+m-(lo+m-(q+1)))/2) lo (lo+Zb):=zw (by lia) (by lia) (by lia)
   have g:=H.trans<|zw (lo:=lo) (i:=lo) (j:=lo+m) (hi:=lo+Zb) (by lia) (by lia)<|by rw[H.size];lia
   refine X3 K (g.kind.trans r) (λy l=>p y<|g.pm.mem_iff.mp l) (by lia) o (by rw[g.size];lia) (d.trans g) ?_ I h
   exact b.turn (Ee:=mirror (arrOf st') (lo+m-(q+1)) (lo+m)<|(lo+m-(lo+m-(q+1)))/2) (b.I8<|by lia) (by rw[mirror_size];lia)
  .have g:Kp st' (setArr st'<|mirror (arrOf st') lo (lo+m)<|(lo+m-lo)/2) lo (lo+Zb):=zw (by lia) (by lia) (by lia)
   refine X3 K (g.kind.trans r) (λy l=>p y<|g.pm.mem_iff.mp l) (by lia) o (by rw[g.size];lia) (d.trans g) ?_ I h
   exact b.turn (λ_=>rfl) (by lia)
theorem bJi{lo:Nat}(u:1<=Zb)(hs:lo+Zb<=(arrOf st).size) (h:∀m st',1<=m->m<=Zb->Kp st st' lo (lo+Zb)->lA ρ (arrOf st') lo (lo+m)->Q (some m) st'):wpS (model prog w) A E s (countRun' lo Zb) Q st:=by
 rw[bQt];refine Sb<|Jh (Gh (I:=λx c st'=>st'=st/\c=(none,x)/\x<=Zb/\1<=x/\lA ρ (arrOf st) lo (lo+x))
  (Q:=λc st'=>st'=st/\∃m,c=(none,m)/\1<=m/\m<=Zb/\lA ρ (arrOf st) lo (lo+m)/\(m<Zb->ρ (atK (arrOf st)<|lo+m)<ρ (atK (arrOf st)<|lo+m-1))) ?step ?fin ⟨rfl,rfl,u,Cb _,λi j a b c=>by rw[show i=j by lia];exact Ak _⟩) ?post
 case fin=>
  rintro c st' ⟨rfl,rfl,g,f,d⟩;exact⟨rfl,_,rfl,f,g,d,λz=>by lia⟩
 case step=>
  rintro x c st' _ D ⟨rfl,rfl,g,f,d⟩;refine Sb<|wt K hk hP (by lia) (by lia) ?_
  refine cA (λp=>?_) λp=>?_
  .exact Mb ⟨rfl,x,rfl,f,g,d,λ_=>gi p⟩
  exact Mb ⟨rfl,rfl,by lia,by lia,d.more (by lia)<|by lia⟩
 case post=>
  rintro c st' ⟨rfl,m,rfl,g,f,d,F⟩;refine cA (λc=>?_) λc=>?_
  .exact Mb (h m st' g f (.refl _ _ _) d)
  refine cA (λl=>?_) λl=>?_
  .refine Sb (wt K hk hP (by lia) (by lia) ?_)
   dsimp only;refine cA (λp=>?_) λp=>?_
   .exact Mb (h m st' g f (.refl _ _ _) d)
   have k:∀i,lo<=i->i<lo+m->ρ (atK (arrOf st') i)=ρ (atK (arrOf st')<|lo+m-1):=λi e n=>by
    have C:=d lo i (by lia) e n
    have B:=d i (lo+m-1) e (by lia) (by lia)
    lia
   have o:Kp st' (setArr st'<|mirror (arrOf st') lo (lo+m) _) lo (lo+Zb):=zw (by lia) (by lia) (by lia)
   have r:∀i,ρ (atK (mirror (arrOf st') lo (lo+m)<|(lo+m-lo)/2) i)=ρ (atK (arrOf st') i):=λi=>by
    rw[yw (by lia)]
    split
    .rw[k _ (by lia) (by lia),k i (by lia) (by lia)]
    rfl
   refine RX K (o.kind.trans hk) (λy t=>hP y<|o.pm.mem_iff.mp t) (by lia) (by rw[o.size];lia) o ⟨λi j e n v=>?_,by lia,λi e n=>by rw[show i=lo+(m+1)-1 by lia]⟩ (λ_=>rfl) (λ_ _=>rfl) h
   rw[r,r]
   by_cases q:j=lo+m
   .subst q
    by_cases l:i=lo+m
    .subst l;exact Ak _
    rw[k i e (by lia)];lia
   rw[k i e (by lia),k j (by lia) (by lia)];exact Ak _
  have:m=1:=by lia
  subst this;refine Sb<|br<|Bk ⟨rfl,(RX K hk hP (by lia) hs (.refl _ _ _) ⟨λi j e n v=>?_,by lia,λi e n=>by rw[show i=lo+(1+1)-1 by lia]⟩ (λ_=>rfl) (λ_ _=>rfl) h)⟩
  by_cases q:j=lo+1
  .subst q
   by_cases l:i=lo+1
   .subst l;exact Ak _
   have:i=lo:=by lia
   lia
  rw[show i=j by lia];exact Ak _
end
inductive Runs (ρ:ut) (arr:dL):Nat->List (Nat×Nat×Nat)->Nat->Prop where
 |nil (a:Nat):Runs ρ arr a [] a
 |cons {a n p e:Nat} {l:List (Nat×Nat×Nat)} (h:0<n) (so:lA ρ arr a (a+n)) (r:Runs ρ arr (a+n) l e):Runs ρ arr a ((a,n,p)::l) e
section
variable{Ee:dL}{a e:Nat}{l l1 l2:List (Nat×Nat×Nat)}
theorem Runs.le(h:Runs ρ arr a l e):a+l.length<=e:=by
 induction h with
 |nil=>exact Cb _
 |cons h b r c=>rw[ie];lia
theorem Runs.congr(h:Runs ρ arr a l e)(b:∀i,a<=i->i<e->atK Ee i=atK arr i):Runs ρ Ee a l e:=by
 induction h with
 |nil=>exact .nil _
 |cons h f r g=>
  have:=r.le;refine .cons h (λi j d c h3=>?_)<|g λi d c=>b i (by lia) c
  rw[b i d (by lia),b j (by lia) (by lia)]
  exact f i j d c h3
def Runs.snoc(h:Runs ρ arr a l e){p:Nat}(f:0<n)(c:lA ρ arr e (e+n)):Runs ρ arr a (l++[(e,n,p)]) (e+n):=by
 induction h with
 |nil=>exact .cons f c<|.nil _
 |cons h b r d=>exact .cons h b<|d c
def Runs.split(h:Runs ρ arr a (l1++l2) e):∃m,Runs ρ arr a l1 m/\Runs ρ arr m l2 e:=by
 induction l1 generalizing a with
 |nil=>exact⟨a,.nil _,h⟩
 |cons x l1 c=>
  cases h with
  |cons h b r=>
   obtain⟨m,f,d⟩:=c r;exact⟨m,.cons h b f,d⟩
def Runs.app(h:Runs ρ arr a l1 m)(g:Runs ρ arr m l2 e):Runs ρ arr a (l1++l2) e:=by
 induction h with
 |nil=>exact g
 |cons h b r c=>exact .cons h b<|c g
def Runs.pw{x p c:Nat}(h:Runs ρ arr a (l1++(x,n,p)::l2) e):Runs ρ arr a (l1++(x,n,c)::l2) e:=by
 obtain⟨m,f,d⟩:=h.split;cases d with
 |cons h b r=>exact f.app<|.cons h b r
theorem Runs.merge{x p y k:Nat}(h:Runs ρ arr a (l1++(x,n,p)::(y,k,q)::l2) e)(g:Mg ρ arr Ee x (y+k)):Runs ρ Ee a (l1++(x,n+k,p)::l2) e:=by
 obtain⟨m,c,b⟩:=h.split;cases b with
 |cons j f r=>
  cases r with
  |cons l d r=>
   refine(c.congr λi c b=>g.out i<|.inl b).app (.cons (by lia) ?_ ?_)
   .have:=g.so
    rwa [show x+(n+k)=x+n+k by lia]
   rw[show x+(n+k)=x+n+k by lia]
   exact r.congr λi c b=>g.out i<|.inr c
theorem Runs.two{x p y k:Nat}(h:Runs ρ arr a (l1++(x,n,p)::(y,k,q)::l2) e):x+n=y/\0<n/\0<k/\y+k<=e/\lA ρ arr x y/\lA ρ arr y (y+k):=by
 obtain⟨m,i,g⟩:=h.split;cases g with
 |cons d c r=>
  cases r with
  |cons f b r=>exact⟨rfl,d,f,by have:=r.le;lia,c,b⟩
end
theorem ŝ(p:Array α)(i:Nat)(v x y:α)(g:p[i]?=some x)(e:p[i+1]?=some y):∃b a,p.toList=b++x::y::a/\((p.setIfInBounds i v).eraseIdxIfInBounds<|i+1).toList=b++v::a:=by
 have f:i+1<p.size:=by
  rcases Iu (i+1) p.size with h|h
  .exact h
  rw[Array.getElem?_eq_none h]at e;cases e
 have e1:=by
  have:=g;rw[<-nh,md (by simp;lia)]at this
  exact Te this
 have e2:=by
  have:=e;rw[<-nh,md (by simpa using f)]at this
  exact Te this
 have d:p.toList=p.toList.take i++x::y::p.toList.drop (i+2):=by
  rw[<-e1,<-e2,<-Ln _,<-Ln _,AM]
 refine⟨p.toList.take i,p.toList.drop<|i+2,d,?_⟩;have c:(p.toList.take i).length=i:=by simp;lia
 rw[Array.eraseIdxIfInBounds,dif_pos (by rwa [YL]),Array.toList_eraseIdx,Array.toList_setIfInBounds]
 generalize p.toList.take i=b at d c;generalize p.toList.drop (i+2)=a at d;rw[d,List.set_append,Ea (by lia),c,YD,List.eraseIdx_append_of_length_le (by lia),c,show i+1-i=1 by lia]
 rfl
section
variable{prog:Program}{w:World}{A:Around}{E:bv}{s:Shared}{ρ:ut}{P:Fa}{κ:SortKind}{a0:dL}{st:SortSt}{lo:Nat}
structure RI(ρ:ut)(κ:SortKind)(a0:dL)(st:SortSt)(lo:Nat):Prop where
 pm:(arrOf st).toList.Perm a0.toList
 kind:kindOf st=κ
 fail:failedOf st=none
 runs:Runs ρ (arrOf st) 0 (pendingOf st).toList lo
 le:lo<=a0.size
theorem RI.size(r:RI ρ κ a0 st lo):(arrOf st).size=a0.size:=by
 have:=r.pm.length_eq
 rwa [Ig]at this
theorem Y3(K:Ask prog w A E s ρ P κ)(t:∀x∈a0.toList,P x)(r:RI ρ κ a0 st lo){i:Nat}(hi:i+1<(pendingOf st).size){Q:Ix}(h:∀st',RI ρ κ a0 st' lo->(pendingOf st').size+1=(pendingOf st).size->(∀i,lo<=i->atK (arrOf st') i=atK (arrOf st) i)->Q true st'):wpS (model prog w) A E s (mergeAt' i) Q st:=by
 obtain⟨⟨j,l,pw⟩,f⟩:∃x,(pendingOf st)[i]?=some x:=⟨_,Vq _ i<|by lia⟩
 obtain⟨⟨v,nb,B⟩,d⟩:∃x,(pendingOf st)[i+1]?=some x:=⟨_,Vq _ (i+1) hi⟩;obtain⟨z,y,d1,g⟩:=ŝ _ i (j,l+nb,pw) _ _ f d;have a:=r.runs;rw[d1]at a;obtain⟨e,n,m,q,s1,k⟩:=a.two;have:=r.size;have:=r.le;refine Í K r.kind (λx p=>t x<|r.pm.mem_iff.mp p) f d e (by lia) n m s1 k r.fail λst' o u c b=>h st' ⟨b.pm.trans r.pm,o,u,?_,r.le⟩ ?_ λi hi=>b.out i<|.inr<|by lia
 .rw[c,g];exact a.merge b
 rw[c,<-Ig,<-Ig,g,d1];simp;lia
theorem RI.push(r:RI ρ κ a0 st lo){n p:Nat}(b:0<n)(c:lo+n<=a0.size)(a:lA ρ (arrOf st) lo (lo+n)):RI ρ κ a0 (setPending st<|(pendingOf st).push (lo,n,p)) (lo+n):=
 ⟨r.pm,r.kind,r.fail,by
  rw[toList_push];exact r.runs.snoc b a,c⟩
def RI.keep(r:RI ρ κ a0 st lo){st':SortSt} (k:Kp st st' lo hi):RI ρ κ a0 st' lo:=
 ⟨k.pm.trans r.pm,k.kind.trans r.kind,k.fail.trans r.fail,by
  rw[k.pend];exact r.runs.congr λi b a=>k.out i<|.inl a,r.le⟩
def RI.mod(r:RI ρ κ a0 st lo)(p:Nat):RI ρ κ a0 (setPending st<|(pendingOf st).modify ((pendingOf st).size-1) λx=>(x.1,x.2.1,p)) lo:=by
 refine⟨r.pm,r.kind,r.fail,?_,r.le⟩;rw[Array.toList_modify];have a:=r.runs;rcases CD (pendingOf st).toList with e|⟨l,⟨x,n,q⟩,e⟩
 .rw[e]at a ⊢
  rwa [List.modify_nil]
 have c:(pendingOf st).size-1=l.length:=by
  rw[<-Ig,e];simp
 rw[c];rw[e,DD]at a ⊢;have m:∀(l:List _)(y:Nat×Nat×Nat)(f:Nat×Nat×Nat->Nat×Nat×Nat),(l++[y]).modify l.length f=l++[f y]:=λl y f=>by
  induction l with
  |nil=>rfl
  |cons z l b=>rw[Hu,ie,List.modify_succ_cons,b];rfl
 rw[m];exact a.pw
noncomputable def eR(N lo n:Nat):SM (ForInStep<|Option Unit×Nat):=do
 let q <- get
 match (pendingOf q).back? with
 |some (s1,a,_)=>do
  let z <- forIn [:N] ((none,()):Option Unit×Unit) λ_ _=>do
   let q <- get
   match if (pendingOf q).size>1 then (pendingOf q)[(pendingOf q).size-2]? else none with
   |some (_,_,o)=>if o<=power' N (2*s1+a) (2*s1+a+a+n) N then pure (.done (none,())) else do
    let b <- mergeAt' ((pendingOf q).size-2)
    if (!b)=true then pure (.done (some (),())) else pure (.yield (none,()))
   |_=>pure<|.done (none,())
  match z.1 with
  |some r=>pure<|.done (some r,lo)
  |none=>do
   modify λs=>setPending s<|(pendingOf s).modify ((pendingOf s).size-1) λx=>(x.1,x.2.1,power' N (2*s1+a) (2*s1+a+a+n) N)
   modify λs=>setPending s<|(pendingOf s).push (lo,n,0)
   pure (.yield (none,lo+n))
 |_=>do
  modify λs=>setPending s<|(pendingOf s).push (lo,n,0)
  pure (.yield (none,lo+n))
theorem X4(K:Ask prog w A E s ρ P κ)(v:∀x∈a0.toList,P x) (h:1<=n) (g:lo+n<=a0.size) (p:lA ρ (arrOf st) lo (lo+n)) (f:RI ρ κ a0 st lo) {R:ForInStep (Option Unit×Nat)->AC} (k:∀st',RI ρ κ a0 st' (lo+n)->R (.yield (none,lo+n)) st'):wpS (model prog w) A E s (eR a0.size lo n) R st:=by
 refine Sb<|Om ?_;cases H:(pendingOf st).back? with
 |none=>exact Sb<|Nm<|Mb<|k _<|f.push h g p
 |some t=>
  obtain⟨s1,u,pw⟩:=t;refine Sb<|Jh (Gh (I:=λ_ c a=>c=(none,())/\RI ρ κ a0 a lo/\∀i,lo<=i->atK (arrOf a) i=atK (arrOf st) i) ?_ (λ_ _ z=>z) ⟨rfl,f,λ_ _=>rfl⟩) ?_
  .rintro y c a _ _ ⟨rfl,d,b⟩;refine Sb (Om ?_)
   by_cases l:(pendingOf a).size>1
   .rw[Ka l,Vq (pendingOf a) ((pendingOf a).size-2) (by lia)]
    generalize (pendingOf a)[(pendingOf a).size-2]=t;obtain⟨F,D,C⟩:=t;exact cA (λ_=>Mb ⟨rfl,d,b⟩) λ_=>Sb<|Y3 K v d (by lia) λG q _ r=>cA (λz=>absurd z<|by decide) λ_=>Mb ⟨rfl,q,λi m=>(r i m).trans<|b i m⟩
   rw[Ea l];exact Mb ⟨rfl,d,b⟩
  rintro c a ⟨rfl,d,b⟩;refine Sb<|Nm<|Sb<|Nm<|Mb<|k _<|(d.mod _).push h g λi j e o B=>?_
  rw[b i e,b j<|Vc e o];exact p i j e o B
theorem bFl(K:Ask prog w A E s ρ P κ)(J:kindOf st=κ)(f:∀x∈(arrOf st).toList,P x)(L:failedOf st=none)(H:pendingOf st = #[]){Q:Unit->SortSt->Prop}
  (h:∀st',(arrOf st').toList.Perm (arrOf st).toList->failedOf st'=none->lA ρ (arrOf st') 0 (arrOf st).size->Q () st'):wpS (model prog w) A E s sortRuns' Q st:=by
 have q:RI ρ κ (arrOf st) st 0:=⟨.refl _,J,L,by rw[H];exact .nil _,He _⟩
 rw[sortRuns'_eq];refine Sb<|Om ?_;dsimp only;generalize V:arrOf st=a0 at f h q;generalize minRun' a0.size a0.size 0=mr;refine Sb<|Jh (Gh (I:=λx c st'=>∃lo,c=(none,lo)/\x<=lo/\RI ρ κ a0 st' lo)
  (Q:=λc st'=>c=(none,a0.size)/\RI ρ κ a0 st' a0.size) ?step ?fin ⟨0,rfl,Cb _,q⟩) ?post
 case fin=>
  rintro c st' ⟨lo,rfl,O,r⟩;have:=r.le;have:lo=a0.size:=by lia
  subst this;exact⟨rfl,r⟩
 case step=>
  rintro x c st' _ G ⟨lo,rfl,O,r⟩;dsimp only;have I:=r.le;refine cA (λe=>?_) λe=>?_
  .have:lo=a0.size:=by lia
   subst this;exact Mb ⟨rfl,r⟩
  refine Sb<|bJi K r.kind (λy o=>f y<|r.pm.mem_iff.mp o) (by lia) (by rw[r.size];lia) λn R t S F k=>?_
  have g:=r.keep F;have D:lo+n<=a0.size:=by lia
  dsimp only;refine cA (λp=>?_) λp=>Eq.mp (congrArg (λc=>wpS (model prog w) A E s c _ _)<|show eR _ _ _=_ by kernel_rfl)<|X4 K f t D k g λst' r=>⟨lo+n,rfl,by lia,r⟩
  refine Sb<|br<|Bk ⟨rfl,Sb<|bJh K g.kind (λy o=>f y<|g.pm.mem_iff.mp o) (by rw[g.size];lia) t (by lia) k λR kp2 k=>?_⟩
  exact Eq.mp (congrArg (λc=>wpS (model prog w) A E s c _ _)<|show eR _ _ _=_ by kernel_rfl)<|X4 K f (by lia) (by lia) k (g.keep kp2) λst' r=>⟨_,rfl,by lia,r⟩
 case post=>
  rintro c st' ⟨rfl,r⟩;dsimp only;refine Sb<|Jh (Gh (I:=λx c d=>c=(none,())/\RI ρ κ a0 d a0.size/\(pendingOf d).size+x<=a0.size+1) (Q:=λc d=>c=(none,())/\RI ρ κ a0 d a0.size/\(pendingOf d).size<=1) ?_ ?_ ?_) ?_
  .rintro x c d _ G ⟨rfl,r,u⟩;refine Sb<|Om ?_;refine cA (λe=>Mb ⟨rfl,r,e⟩) λe=>?_
   refine Sb<|Y3 K f r ?_ λz C T _=>?_
   .repeat' split
    all_goals omega
   exact Mb ⟨rfl,C,by lia⟩
  .rintro c d ⟨M,r,u⟩;exact⟨M,r,by lia⟩
  .refine⟨rfl,r,?_⟩;have:=r.runs.le;rw[Ig]at this;lia
  rintro c d ⟨rfl,r,u⟩;refine Mb<|h _ r.pm r.fail ?_;have m:=r.runs;have v:(pendingOf d).toList.length<=1:=by rwa [Ig]
  generalize (pendingOf d).toList=l at m v;generalize a0.size=N at m ⊢;cases m with
  |nil=>intro i j a b c;lia
  |cons U B r=>
   cases r with
   |nil=>rwa [rp]at B ⊢
   |cons _ _ _=>simp at v
end
end Pu
namespace Pu
open PySem PySem.Spec PyProof.Rows L2
section
variable {A:Around}
def bJj:Ask prog w A E s (λx=>numOf x.1) (λx=>∃n t,x.1=.int n t) oneType':=by
 rintro⟨x,e⟩ ⟨y,d⟩ Q st ⟨n,t,b⟩ ⟨m,u,a⟩ c h;subst b a;rw[lt'_eq];refine Sb<|Om ?_;rw[c];exact Sb<|br<|UD<|oneLt_int ⟨rfl,(Mb h)⟩
theorem bQu{a:Addr}{e1:Nat}{b:xL}{vs:jp}{R:PySem.Fin->u8}(d:IntsAre b.toList kz)(D:kz.length=vs.length)
  (h:∀st:SortSt,(arrOf st).toList.Perm (b.toList.zip vs)->(arrOf st).toList.Pairwise (λx y=>numOf x.1<=numOf y.1)->failedOf st=none->wpAny (model prog w) A (ksk_tail a false e1 (.ref kS) st) R E s):wpAny (model prog w) A (ksk_end a false vs.toArray e1 (.ref kS) b) R E s:=by
 have l:b.size=vs.length:=by
  have r:=d.length;rw[Ig]at r;lia
 unfold ksk_end;dsimp only
 by_cases c:vs.toArray.size<2
 .rw[Ka c,Ka c];refine Oa (vc<|Oa<|vc<|h (SortSt.mk' general' (b.zip vs.toArray) #[] 7 none) (by rw[ksk_zip]) ?_ rfl)
  rw[ksk_zip];have f:(b.toList.zip vs).length<2:=by
   rw[List.length_zip];rw[cf]at c;lia
  generalize b.toList.zip vs=z at f;cases z with
  |nil=>exact .nil
  |cons x z=>cases z with
   |nil=>exact List.pairwise_singleton _ _
   |cons y z=>exact absurd f (by rw[ie,ie];lia)
 rw[Ea c,Ea c];rw[cf]at c;rw[ksk_kind d (by rw[l];lia)]
 refine Oa<|vc<|Oa<|zi (bFl (Q:=λ_ st'=>(arrOf st').toList.Perm (b.zip vs.toArray).toList/\failedOf st'=none/\lA _ (arrOf st') 0 (b.zip vs.toArray).size) bJj rfl ?_ rfl rfl λst' v u t=>⟨v,u,t⟩) ?_ λ_ _ e=>e
 .exact λx m=>ksk_intKeys d x m
 rintro⟨⟨⟩,st'⟩ B ⟨rfl,o,p,n⟩;have sz:=by
  have:=o.length_eq
  rwa [Ig,Ig]at this
 refine h st' (by rwa [<-ksk_zip]) ?_ p
 rw[YC];intro i j k g C;rw[Ig]at k g;have q:=n i j (He _) (by lia) (by lia)
 have e1:=oN k;have e2:=oN g;rw[<-nh,md (by rwa [Ig])]at e1
 rw[<-nh,md (by rwa [Ig])]at e2
 rwa [Te e1,Te e2]
end
section
variable {σ:L2.St}
def bNp{k:Nat} {Q:VK} (F:Aa X.prog X.w X.K X.mg X.base bb k fa fd ps (Qb X.K np p)) (b:gb (k+2) X.A) (c:Binds X.K fd ps []) (I:za X ba σ H s) (r:RelV v u) (h:Qb X.K np p [v] H Q E0) :
  wpAny (model X.prog X.w) X.A.in1.in1 (call (.ref fa) [u]) (EP X ba σ Q) (λ_ _=>False) s:=by
 refine wpAny_call<|Gx (F.run X.A.in1.in1 X.stack s H _ [u] [v] Q E0 b.in1.in1 I.qr.in1.in1 (c s [u] I.Fg<|by simpa using (F.len _ _ _ _ h)) (.cons r .nil) h) λr f a=>?_
 cases r with
 |error e=>exact a.elim
 |ok d=>
  cases d with
  |ret u=>exact I.after a
  |next=>exact False.elim a
  |brk=>exact False.elim a
  |cont=>exact False.elim a
end
theorem Yg:∀{a:lv}{b:jp},Ha (a.map V.int) b->IntsAre b a
 |[],_,h=>by rw[h.zero];exact .nil
 |n::a,_,h=>by
  cases h with
  |cons d c=>
   obtain⟨t,e⟩:=d;subst e;exact .cons n t<|Yg c
theorem Q0:∀{a:jp}{b:lv},IntsAre a b->Ha (b.map V.int) a
 |_,_,.nil=>.nil
 |_,_,.cons n t h=>.cons ⟨t,rfl⟩<|Q0 h
theorem bNq{g:Int->Int}{c:jp}{ps:tz}(hi:IntsAre Ia ns)(d:IntsAre c (ns.map g))(j:ps.Perm (c.zip Ia))(hs:ps.Pairwise λx y=>numOf x.1<=numOf y.1) :
  ∃out:lv,out.Perm ns/\out.Pairwise (λx y=>g x<=g y)/\IntsAre (ps.map Prod.snd) out:=by
 have a:∀x∈ps,∃n t,x.2=.int n t/\numOf x.1=g n:=λx b=>by
  have b:=j.mem_iff.mp b;clear j hs
  induction hi generalizing c with
  |nil=>cases c<;>cases b
  |cons n t hi f=>
   cases d with
   |cons m u d=>
    rcases Pb.mp b with rfl|b
    .exact⟨_,t,rfl,rfl⟩
    exact f d b
 refine⟨ps.map λx=>numOf x.2,?_,?_,?_⟩
 .have o:=j.map λx:Keyed=>numOf x.2
  have e:(c.zip Ia).map (λx:Keyed=>numOf x.2)=ns:=by
   have e2:(c.zip Ia).map (λx:Keyed=>numOf x.2)=((c.zip Ia).map Prod.snd).map numOf:=by rw[xg];rfl
   rw[e2,List.map_snd_zip (by rw[hi.length,d.length,lc];exact Cb _),hi.nums]
  rwa [e]at o
 .rw[Lx];exact hs.imp_of_mem λ{x y} b i h=>by
   obtain⟨n,t,e1,e2⟩:=a x b;obtain⟨m,u,p,q⟩:=a y i;rw[e1,p];show g n<=g m;lia
 have:∀(l:tz),(∀x∈l,∃n t,x.2=.int n t/\numOf x.1=g n)->IntsAre (l.map Prod.snd) (l.map λx=>numOf x.2):=λl k=>by
  induction l with
  |nil=>exact .nil
  |cons x l f=>
   obtain⟨n,t,e1,_⟩:=k x zb;rw[Ge,Ge,e1];exact .cons n t<|f λy i=>k y<|Ab _ i
 exact this ps a
section
variable {σ:L2.St}
theorem bFm{k:Nat} (F:Aa X.prog X.w X.K X.mg X.base bb k fa fd ps (Qb X.K 1 p)) (hr:gb (k+2) X.A) (S:Binds X.K fd ps []) (I:za X ba σ H s) {l:Addr} {a:lv} (hl:Dc X.K H l (a.map V.int)) {g:Int->Int} (hg:∀n∈a,p [.int n]=.ok (.int<|g n)) (hz:a.length<=1000) {Q:VK}
  (h:∀(out:lv)(D:Addr)(d:Hp),out.Perm a->out.Pairwise (λx y=>g x<=g y)->bF H d->d D=none->Q (.ref D) (Ua d D<|.lst<|out.map V.int)) :
  wpAny (model X.prog X.w) X.A (call (.builtin "sorted") [.ref l] [(ofString "key",.ref fa)]) (EP X ba σ Q) X.xe s:=by
 obtain⟨c,rv,pl,_⟩:=I.list hl;have hI:=Yg rv;have Y:=hI.length;have P:c.length<=sizeLine:=by rw[Km];lia
 refine call_function_entry_kw kind_sorted plain_sorted entry_sorted (ksk_s1 _ _) ?_
 unfold Builtin.«sorted»;refine Oa<|vc<|Oa<|collect_list pl.isList (Oa<|wpAny_newList ?_ P) P;have kA:∀b o,s.heap.get? b=some o->((s.heap.push<|seqObj "list" #[] 0).update s.heap.objs.size (Obj.mapSeq (· ++ c.toArray))).get? b=some o:=λb o e=>by
  rw[LM _ _ _ _<|Bf<|Uc e];exact Lc _ e
 have U:s.heap.objs.size<((s.heap.push<|seqObj "list" #[] 0).update s.heap.objs.size (Obj.mapSeq (· ++ c.toArray))).objs.size:=by rw[Heap.size_update,oh];exact Uq _
 have K:za X ba σ H {s with heap:=(s.heap.push<|seqObj "list" #[] 0).update s.heap.objs.size (Obj.mapSeq (· ++ c.toArray))}:=I.kept kA
 generalize (s.heap.push<|seqObj "list" #[] 0).update s.heap.objs.size (Obj.mapSeq (· ++ c.toArray))=hA at kA U K;have G:(hA.push<|seqObj "list" c.toArray 0).get? hA.objs.size=some (seqObj "list" c.toArray 0):=Ve _ rfl;refine Oa<|Oj<|wpAny_call_entry_kw slot_list_sort ⟨_,G,rfl⟩ entry_list_sort ?body<|ksk_l1 _ _;rw[ksk_t1];unfold ksk_tree;refine Oa<|listItems_at G rfl<|Oa<|VD G rfl ?_ (by rwa [cf])<|He _
 obtain⟨e1,W⟩:∃e1,((hA.push<|seqObj "list" c.toArray 0).update hA.objs.size<|Obj.mapSeq λ_=>(#[])).get? hA.objs.size=some (seqObj "list" #[] e1):=⟨_,get?_update_seq G λ_ => #[]⟩
 have kC:∀b o,hA.get? b=some o->((hA.push<|seqObj "list" c.toArray 0).update hA.objs.size<|Obj.mapSeq λ_=>(#[])).get? b=some o:=λb o e=>by
  rw[LM _ _ _ _<|Bf<|Uc e];exact Lc _ e
 have Y8:((hA.push<|seqObj "list" c.toArray 0).update hA.objs.size<|Obj.mapSeq λ_=>(#[])).objs.size=hA.objs.size+1:=by rw[Heap.size_update,oh]
 generalize (hA.push<|seqObj "list" c.toArray 0).update hA.objs.size (Obj.mapSeq λ_=>(#[]))=hC at W kC Y8
 refine Oa<|seqEpoch_at W rfl<|Oa<|wpAny_newTuple (Oa<|wpAny_newList ?_<|He _)<|by show c.length<=_;exact P
 refine Oj ?_
 have E:(hC.push {cls:=.type "tuple",data:=.seq c.toArray}).objs.size=hA.objs.size+2:=by rw[oh,Y8]
 have O:∀b o,hC.get? b=some o->(hC.push {cls:=.type "tuple",data:=.seq c.toArray}).get? b=some o:=λb o e=>Lc _ e
 generalize hC.push {cls:=.type "tuple",data:=.seq c.toArray}=hT at E O;have hDH:=K.Xa.fresh<|Cb _;have Z:H hT.objs.size=none:=K.Xa.fresh (by rw[E];exact il _ _)
 have L:hT.objs.size≠hA.objs.size:=by rw[E];lia
 have IE:za X ba σ (Ua H hT.objs.size<|.lst []) {s with heap:=hT.push {cls:=.type "list",data:=.seq #[]} }:=K.laid (λb o e=>Lc _<|O b o<|kC b o e) (by rw[E];exact il _ _) ⟨He _,[],0,.nil,Ve _ rfl⟩
 have J7:s.heap.get? hA.objs.size=none:=by
  cases e:s.heap.get? hA.objs.size with
  |none=>rfl
  |some o=>exact absurd (Uc e)<|Nat.not_lt.mpr<|Pj U
 have IP:za X (ba++[(hA.objs.size,seqObj "list" #[] e1)]) σ (Ua H hT.objs.size<|.lst []) {s with heap:=hT.push {cls:=.type "list",data:=.seq #[]} }:=IE.fh λq C=>by
  rcases wg.mp C with C|C
  .exact IE.pin q (se _ C)
  rw[Fe.mp C];refine⟨Lc _<|O _ _ W,by rwa [bA L.symm],λz=>?_,I.Uy<|Pj U,λv z=>by cases z⟩
  obtain⟨m,⟨o,es,ep,Rm,_⟩,_⟩:=I.loc;rw[<-show hA.objs.size=X.env.locals from z,J7]at Rm
  cases Rm
 unfold ksk_rest;refine Oa<|Bk ?_;simp only[List.forIn_toArray];refine Oa<|ksk_fold (λi f=>∃d,za X (ba++[(hA.objs.size,seqObj "list" #[] e1)]) σ d f/\bF H d/\d hT.objs.size=some (.lst<|((a.map g).take i).map V.int)) c 0 _ ⟨_,IP,λb o e=>by rwa [bA<|aP e Z],bG⟩ ?step ?done
 case step=>
  rintro j x f hx ⟨d,A,M,w⟩;rw[rp]at w ⊢;have hj:j<a.length:=by rw[<-Y];exact(pe.mp hx).1
  obtain⟨t,R⟩:∃t,x=.int a[j] t:=by
   have q:=rv.get (by rw[Nj,md hj];rfl)
   obtain⟨u,hu,t,e⟩:=q;rw[hx]at hu;cases hu;exact⟨t,e⟩
  refine Oa<|UD<|zi (bNp F hr S A (v:=V.int a[j]) ⟨t,R⟩ ⟨[],[.int a[j]],.int<|g a[j],λb S=>absurd S (by simp),.cons (bJ.mpr rfl) .nil,rfl,hg _<|Fh _,λv H2 s2 B=>(⟨bJ.mp B,s2⟩:v=V.int (g a[j])/\bF d H2)⟩) (λu s2 he=>?_) λ_ _ z=>z.elim
  obtain⟨v,H2,I2,YE,ev,Up⟩:=he;subst ev;dsimp only;have L7:=Up _ _ w;obtain⟨z2,Zg,n2,B,N,r⟩:=I2.dh L7;have ll:Zg.length=j:=by
   rw[<-N];simp;lia
  refine Oa<|VD r rfl ?_ (by rw[cf,ll,Km];lia)<|by rw[Array.size_push,cf,ll,Km];lia
  have ek:((a.map g).take<|j+1).map V.int=((a.map g).take j).map V.int++[V.int<|g a[j]]:=by
   rw[List.take_add_one,Nj,md hj];simp
  refine vc ⟨rfl,Ua H2 hT.objs.size<|.lst<|((a.map g).take<|j+1).map V.int,?_,λb o e=>?_,bG⟩
  .rw[ek];exact I2.bh L7 r (by simp) (B.append<|.cons YE .nil) (by simp;rw[Km];lia)
  rw[bA<|aP e Z];exact Up _ _<|M _ _ e
 case done=>
  rintro f ⟨d,A,M,w⟩;rw[rp,Y,yu (by rw[lc];exact Cb _)]at w
  obtain⟨z2,ks,n2,B,N,r⟩:=A.dh w;have hk:=Yg B;refine Oa<|listItems_at r rfl<|bQu (by simpa using hk) (by rw[length_map,Y]) λst a1 a2 a3=>?_
  obtain⟨out,T,b2,b3⟩:=bNq hI hk (by simpa using a1) a2
  have oD:=(A.pin (hA.objs.size,seqObj "list" #[] e1)<|se _<|se _<|Fe.mpr rfl).1;have hD':=(A.pin (hA.objs.size,seqObj "list" #[] e1)<|se _<|se _<|Fe.mpr rfl).2.1;have QP:((arrOf st).map (·.2)).size=a.length:=by
   rw[Array.size_map,<-Ig,<-T.length_eq];have:=b3.length;rw[lc]at this;omega
  unfold ksk_tail;dsimp only;refine Oa<|VD r rfl ?_ (by rwa [cf,<-N])<|He _
  have I3:=(A.bh (t':=f.toks) (f:=λ_ => #[]) w r rfl .nil<|He _).Be
  have J:(f.heap.update hT.objs.size<|Obj.mapSeq λ_=>(#[])).get? hA.objs.size=some (seqObj "list" #[] e1):=by
   rwa [LM _ _ _ _ L.symm]
  have I4:=bJ1 (u:=.lst []) I3 I J7 (by rwa [bA L.symm]) ⟨He _,[],e1,.nil,J⟩
  refine Oa<|vp<|Oa<|seqEpoch_at J rfl<|Oa<|VD J rfl ?_ (He _)<|by rw[Ea zk,QP,Km];lia
  rw[a3];simp only[bne_self_eq_false,Bool.false_eq_true,if_false];refine vc ⟨_,rfl,?_⟩;have I5:=I4.bh (t':=f.toks) (f:=λ_=>(arrOf st).map (·.2)) bG J (by rw[<-Array.toList_map]) (Q0 b3) (by rw[lc,T.length_eq,Km];lia)
  rw[bG4]at I5;refine vc ⟨_,rfl,V.ref hA.objs.size,_,I5,rfl,h out _ _ T b2 (λb o e=>?_) ?_⟩
  .rw[bA<|aP e Z];exact M _ _ e
  rwa [bA L.symm]
end
def gp(b more:ls):ls:=more.foldl (λa p=>Xc a p.1 p.2) b
theorem bFn(more:ls):∀a:ls,(gp a more).length<=a.length+more.length:=by
 induction more with
 |nil=>intro a;exact Cb _
 |cons p more b=>
  intro a;have d:=b<|Xc a p.1 p.2;have c:=rM a p.1 p.2;show (gp _ more).length<=_;rw[ie];lia
def KV.mrg{more:ls}(c:KV more us):∀{a:ls} {vs:wT},KV a vs->KV (gp a more) (merged vs us):=by
 induction c with
 |nil=>exact λr=>r
 |@cons p q more us h _ d=>
  intro a vs r;obtain⟨e,b⟩:=h;have z:=d<|KV.put r p.1 b;show KV _ (merged (stored vs q.1 q.2) us)
  rwa [<-e]
section
variable {σ:L2.St} {a b:Addr} {A:Around} {more:ls} {k:Key} {r:Value}
def bQv{Q:bv}(I:za X ba σ H s)(e:H a=some (.dK ka))(e2:H b=some (.dK more))(m:a≠b)(p:ka.length+more.length<=sizeLine)(h:∀f,za X ba σ (Ua H a<|.dK<|gp ka more) f->Q .none f):wpAny (model X.prog X.w) A (call (.builtin "dict.update") [.ref a,.ref b]) Q E s:=by
 obtain⟨z,r,k,c,g⟩:=Ym I.Xa e;obtain⟨u,d,l,i,t⟩:=Ym I.Xa e2;exact qp F6 g.typeIs PySem.F.entry_dict_update (PySem.F.args_dict_update_2 _ _) (meets_dict_update _ a b m d) ⟨k,l,g,t,by rwa [<-c.length,<-i.length],λv j _ n=>h _<|Jv I (by rw[e];exact True.intro) n (let ⟨q,_,_,o,_⟩:=j;⟨q,o⟩)<|ZA (Vc (bFn more ka) p) r (KV.mrg i c) j⟩
theorem bNr{Q:bv}(I:za X ba σ H s)(e:H a=some (.dK ka))(l:RelV (kV k) u)(m:RelV v r)(w:ka.length+1<=sizeLine)
  (p:∀d,sI ka k=some d->∀g f,RelV d g->za X ba σ H f->Q g f) (o:sI ka k=none->∀f,za X ba σ (Ua H a<|.dK<|Xc ka k v) f->Q r f):wpAny (model X.prog X.w) A (call (.builtin "dict.setdefault") [.ref a,u,r]) Q E s:=by
 obtain⟨z,h,j,b,i⟩:=Ym I.Xa e;refine qp i6 i.typeIs PySem.F.entry_dict_setdefault (PySem.F.args_dict_setdefault_3 _ _ _) (kt_meets_setdefault _ a (Wm l) h r) ⟨j,i,by rwa [<-b.length],λt Mi=>?_,λhn x Qj hs=>?_⟩
 .have q:=b.val k;rw[Mi]at q;cases c:sI ka k with
  |none=>rw[c]at q;exact q.elim
  |some d=>
   rw[c]at q;exact p d c _ _ q<|I.tok _
 have q:=b.val k;rw[hn]at q;cases c:sI ka k with
 |some d=>rw[c]at q;exact q.elim
 |none=>
  exact o c _<|Jv I (by rw[e];exact True.intro) hs (let ⟨q,_,_,n,_⟩:=Qj;⟨q,n⟩)<|ZA (by have:=rM ka k v;lia) h (KV.put b k m) Qj
end
theorem Z3{K:Frag}{H:Hp}:∀(more:ls) (b:im) (a:ls) (ds:im),bI K H b (more.map (·.2))->bI K H ds (a.map (·.2))->
  (gp a more).map (λp=>lO p.1)=(Gn (a.map λp=>lO p.1) ds (more.map λp=>lO p.1) b).1/\bI K H (Gn (a.map λp=>lO p.1) ds (more.map λp=>lO p.1) b).2 ((gp a more).map (·.2))
 |[],b,a,ds,_,r=>by
  refine⟨?_,?_⟩
  .unfold Gn;rfl
  exact r
 |p::more,[],a,ds,h,r=>by
  have:=h.length;simp at this
 |p::more,d::b,a,ds,h,r=>by
  obtain⟨v,k,e,i,g⟩:=bN.mp h;injection e with e1 e2
  subst e1 e2;obtain⟨f,c⟩:=VA ft p.1 p.2 d i a ds r;have j:=Z3 more b _ _ g c
  rwa [f]at j
def bSj:o0:=λx d H Q=>∃a b c more,x=.ref a/\d=[.ref b]/\H a=some (.dK c)/\H b=some (.dK more)/\a≠b/\c.length+more.length<=sizeLine/\Q .Bb (Ua H a<|.dK<|gp c more)
def bNs:Hj X "dict.update" bSj:=by
 intro o s σ H x k v l Q I c d h;obtain⟨a,b,n,more,rfl,rfl,e,e2,g,i,q⟩:=h;cases c;obtain⟨u,rfl,f⟩:=d.one;cases f;exact bQv I e e2 g i λm j=>⟨.Bb,_,j,rfl,q⟩
section
def Y4(i:Nat) (he:PE X e (tI X.K B f)) (N:X.N[i]?=some x:=by rfl) (L:Dg X.env.scope x:=by exact Vh rfl) (j:Yd x:=by decide)
  (Q:Th x:=by decide) (J:Nf (.Name x p1) "update" X.env:=by rfl)
  (S:Oi Ga [e] X.env:=by rfl)
  (I:Gg Pa Ga:=by rfl) (hs:Cd e [] X.env:=by rfl)
  (P:Uh (.Call (.Attribute (.Name x p1) "update" Pa) [e] [] Ga) none pos.line X.env:=by rfl) :
  PS X (.Expr (.Call (.Attribute (.Name x p1) "update" Pa) [e] [] Ga) pos) (tS X.K B<|ax i f):=by
 refine iZ (vP (Mt ou F6 PySem.F.type_dict_update bNs (jR N L j Q) (cF he eV hs) J S I hs rfl) P) ?_
 rintro Dn σ H ⟨A,st,r,h,M,p⟩;obtain⟨d,j,c⟩:=R.ja M;split at c
 .rename_i Y k;split at c
  .rename_i V ds e1;obtain⟨⟨W,C⟩,O⟩:=aH c;cases O;obtain⟨l,o,T,e2,m,y,K,q,u⟩:=h.lst i _ _ e1;rcases K with ⟨_,g,rfl,rfl,rfl⟩|⟨z,_⟩
   .refine⟨.ref l,e2,.inr<|.inr<|.inl ⟨rfl,.inl ⟨g,y⟩⟩,A,st,_,h,j,λv Z s rv=>?_⟩
    obtain⟨b,U,rfl,a,n⟩:=oF.mp rv;rcases a with ⟨_,more,a,rfl,rfl⟩|⟨z,_⟩
    .have w:=q.length;have t:=n.length;rw[lc]at w t;refine⟨l,b,g,more,rfl,rfl,s _ _ y,(bB _ _ _ _ a),(λz=>by rw[<-z,cP<|Ke _ m]at a;cases a),by rw[w,t];rw[oH]at C;exact Vc C (by decide),?_⟩
     obtain⟨E,D⟩:=Z3 more k g ds n<|q.mono<|bF.hide s;obtain⟨G,F⟩:=(h.mono s).write e1 e2 (k1:=.d false (Gn _ ds _ k).1) (.inl ⟨rfl,gp g more,rfl,E,rfl⟩) D;exact p A _ _ ((Le.of s).trans F) G
    cases z
   cases z
  cases c
 cases c
end
def bQw:o0:=λx d H Q=>∃a b k v,x=.ref a/\d=[kV k,v]/\H a=some (.dK b)/\b.length+1<=sizeLine/\(∀c,sI b k=some c->Q c H)/\(sI b k=none->Q v (Ua H a<|.dK<|Xc b k v))
def bJk:Hj X "dict.setdefault" bQw:=by
 intro B s σ H x t v u Q I i j h;obtain⟨a,A,k,f,rfl,rfl,e,r,o,n⟩:=h;cases i;obtain⟨y,w,rfl,m,d⟩:=j.two;exact bNr I e m d r (λc p z g l b=>⟨c,H,b,l,o c p⟩) λq g b=>⟨f,_,b,d,n q⟩
section
variable {e1 e2:Expr}
def bNt(i:Nat) (h:PE X e1 (tI X.K B g)) (he:PE X e2 (tI X.K B f)) (N:X.N[i]?=some x:=by rfl) (L:Dg X.env.scope x:=by exact Vh rfl) (j:Yd x:=by decide)
  (V:Th x:=by decide) (J:Nf (.Name x p1) "setdefault" X.env:=by rfl)
  (Y:Oi Ga [e1,e2] X.env:=by rfl)
  (I:Gg Pa Ga:=by rfl) (hs:starEach [e1,e2] X.env=(false,eval e1 X.env)::starEach [e2] X.env:=by rfl) (W:Cd e2 [] X.env:=by rfl)
  (je:(backTo Ga<|starEach [e2] X.env).any (·.1)=false:=by rfl)
  (U:Uh (.Call (.Attribute (.Name x p1) "setdefault" Pa) [e1,e2] [] Ga) none pos.line X.env:=by rfl) :
  PS X (.Expr (.Call (.Attribute (.Name x p1) "setdefault" Pa) [e1,e2] [] Ga) pos) (tS X.K B<|XB i g f):=by
 refine iZ (vP (Mt ou i6 PySem.F.type_dict_setdefault bJk (jR N L j V) (cF h (cF he eV W) hs) J Y I hs je) U) ?_
 rintro Dn σ H ⟨A,st,r,b,M,p⟩;obtain⟨k,h,P⟩:=R.ja M;obtain⟨d,j,n⟩:=R.ja P;split at n
 .rename_i ks ds w;obtain⟨⟨T,y⟩,O⟩:=aH n;cases O;obtain⟨l,o,vs,v,m,t,K,q,u⟩:=b.lst i _ _ w;rcases K with ⟨_,a,rfl,rfl,rfl⟩|⟨z,_⟩
  .refine⟨.ref l,v,.inr<|.inr<|.inl ⟨rfl,.inl ⟨a,t⟩⟩,A,st,k,b,h,λv1 H1 s1 r1=>⟨A,st,d,b.mono s1,j,λv2 H2 s2 r2=>?_⟩⟩
   obtain⟨c,S,Q⟩:=yS r1 T;subst S Q;have s:=q.length;rw[lc]at s;have e:qD (a.map λp=>lO p.1) (lO c)=(sI a c).isSome:=by rw[<-KH,kX ft]
   refine⟨l,a,c,v2,rfl,rfl,(s1.trans s2) _ _ t,by rw[s];rw[oH]at y;exact Vc y (by decide),λZ hw=>?_,λhn=>?_⟩
   .rw[hw]at e;have C:qD _ _=true:=e;rw[Ka C]at p;exact p A _ _ (Le.of<|s1.trans s2)<|b.mono<|s1.trans s2
   rw[hn]at e;rw[Ea (by rw[e];exact zk)]at p
   obtain⟨E,D⟩:=VA ft c v2 d r2 a ds<|q.mono<|bF.hide<|s1.trans s2;obtain⟨G,F⟩:=(b.mono<|s1.trans s2).write w v (k1:=.d false _) (.inl ⟨rfl,Xc a c v2,rfl,E,rfl⟩) D;exact p A _ _ ((Le.of<|s1.trans s2).trans F) G
  cases z
 cases n
end
def AL(v d:Addr):HO:=.ext λh=>h.IsValuesView v d
section
def Ş:Hj X "dict.values" (λx vs H Q=>∃(d:Addr) (c:ls),x=.ref d/\vs=[]/\H d=some (.dK c)/\∀n,H n=none->Q (.ref n) (Ua H n<|AL n d)):=by
 intro A s σ H x vs v r Q I g i h;obtain⟨d,c,rfl,rfl,a,q⟩:=h;cases g;have p:=i.zero;subst p;obtain⟨w,j,xs,t,f⟩:=Ym I.Xa a;refine qp G6 f.typeIs PySem.F.entry_dict_values (PySem.F.args_dict_values_1 _) (meets_dict_values _ d j) ⟨⟨xs,f⟩,?_⟩;have e:(s.heap.push {cls:=.type "dict_values",data:=.fields #[.ref d]}).get? s.heap.objs.size=some {cls:=.type "dict_values",data:=.fields #[.ref d]}:=Ve _ rfl;exact⟨.ref s.heap.objs.size,_,I.laid (o:=AL s.heap.objs.size d) (λb u q=>Lc _ q) (Cb _) ⟨⟨_,e,rfl,rfl⟩,⟨_,e⟩,λz y ⟨o,l,m,a⟩ k=>⟨o,k o l,m,a⟩⟩,rfl,q _<|I.Xa.fresh<|Cb _⟩
theorem ş(E:X.calm=true):nJ X (.builtin "max") (λvs H Q=>∃(v d:Addr) (f:ls) (is:lv),vs=[.ref v]/\H v=some (AL v d)/\H d=some (.dK f)/\f.map (·.2)=is.map V.int/\0<is.length/\Q (.int<|tQ is) H):=by
 intro T s σ H vs M Q I r h;obtain⟨v,d,f,is,rfl,C,D,z,R,q⟩:=h;obtain⟨u,rfl,B⟩:=r.one;obtain rfl:u=Value.ref v:=B;obtain⟨O,P,xs,y,F⟩:=Ym I.Xa D;obtain⟨J,g⟩:=F.dictAt;have U:xs.length=is.length:=by
  have G:=y.length;have l:=congrArg List.length z;rw[lc,lc]at l;lia
 have a:∀(i:Nat)(w:Value),(∃k,xs[i]?=some (k,w))->∃t,w=.int (is.getD i 0) t:=λi w ⟨k,e⟩=>by
  obtain⟨p,e1,_,A⟩:=xw y e;have c:(f.map (·.2))[i]?=some p.2:=by rw[Nj,e1];rfl
  rw[z,Nj]at c;cases m:is[i]? with
  |none=>rw[m]at c;cases c
  |some n=>
   rw[m]at c;have L:=by simpa using c
   rw[<-L]at A;obtain⟨t,K⟩:=A;exact⟨t,by rw[K,Xi,m];rfl⟩
 refine call_max_walk<|wpAny_pyIter_values ((I.Xa v _ C).1) g<|⟨_,_,_,_,_,_,_,rfl,Walks.dictValues (A:=X.A.in1) (I.ok.hd E) s.heap.objs.size d (Bf g.lt_size) xs J,⟨⟨_,Ve _ rfl,rfl,rfl⟩,g.push _⟩,λb hb=>?_,by lia,CmpOf.ints_gt _ a,λw S N hP hk=>?_⟩
 .rw[oh];rcases Pb.mp hb with rfl|hb
  .exact Uq _
  rw[Fe.mp hb];exact Nat.lt_succ_of_lt g.lt_size
 obtain⟨t,rfl⟩:=a _ _ hP;refine⟨.int _,H,I.kept λb o e=>hk b o (λhm=>?_)<|Lc _ e,⟨t,?_⟩,q⟩
 .rw[Fe.mp hm]at e;exact absurd (Uc e)<|Pg _
 congr 1;obtain⟨G,l⟩:=argBest_gt (λi=>is.getD i 0)<|xs.length-1
 refine(yM ?_ λx hx=>?_).symm
 .rw[Xi,md (by omega)]
  exact Fh _
 obtain⟨i,j,rfl⟩:=su.mp hx;have:=l i (by omega)
 rwa [Xi,md j]at this
def bNu(r:X.mg "max"=none)(u:X.calm=true)(w:PE X a (tI X.K B f))(s:Gl X "max":=by rfl)(m:Nf a "values" X.env:=by rfl)(j:Gg Pa Ga:=by rfl)
  (hs:starEach [.Call (.Attribute a "values" Pa) [] [] Ga] X.env=(false,eval (.Call (.Attribute a "values" Pa) [] [] Ga) X.env)::starEach [] X.env:=by rfl):PE X (.Call (.Name "max" p0) [.Call (.Attribute a "values" Pa) [] [] Ga] [] pos) (tI X.K B<|e1 YB f):=by
 refine cD (pG (ş u) s r rfl<|cF (jq ou G6 PySem.F.type_dict_values Ş w m j) eV hs) ?_
 rintro σ H Q ⟨A,st,d,k,t,q⟩;obtain⟨x,o,b⟩:=R.ja t;refine⟨A,st,x,k,o,λv I s1 r1=>?_⟩
 unfold YB at b;split at b
 .obtain⟨l,F,E⟩:=R.ja b;obtain⟨c,D⟩:=aH E;cases D;obtain⟨p,G,rfl,C,h⟩:=oF.mp r1;rcases C with ⟨_,e,y,rfl,rfl⟩|⟨z,_⟩
  .have g:=bB _ _ _ _ y;rw[uU F]at h;refine⟨.inr<|.inr<|.inl ⟨rfl,.inl ⟨e,g⟩⟩,p,e,rfl,rfl,g,λn i=>⟨n,p,e,l,rfl,bG,by rwa [bA<|aP g i],yD h,c,q _ _ (s1.trans<|cI i)<|bJ.mpr rfl⟩⟩
  cases z
 cases b
end
def SX:Pc X ss (tS X.K B oJ):=by
 intro b s σ H c I h;obtain⟨A,st,r,_,a,_⟩:=h;cases a
section
variable {σ:L2.St}
def za.word(I:za X ba σ H s){a:Addr}{o':HO}(h:H a=some o)(A:∀b,o≠.own b)(y:∀xs,o≠.tup xs)(t:∀xs,X.Ja a≠some (.tup xs))(r:∀q u,X.Ja a≠some (.Mf q u))(l:∀ps,X.Ja a≠some (.uo ps))(w:oW X.prog X.w (Ua H a o') s.heap a o'):za X ba σ (Ua H a o') s:=by
 have f:∀b,H b=none->b≠a:=λb e z=>by rw[z,h]at e;cases e
 have d:∀{b:Addr}{u:Option HO},b≠a->H b=u->Ua H a o' b=u:=λg e=>by rwa [bA g]
 refine⟨I.ok,I.os,I.bare,⟨I.base.keep,I.base.slot,λb o e n hx=>?_,I.base.there,λb xs e=>?_,λb q u e=>?_,λb ps e=>?_⟩,I.loc,I.cell,d (f _ I.free) I.free,λx c e=>d (f _<|I.Jd x c e)<|I.Jd x c e,λp hp=>?_,λb u e=>?_,I.len⟩
 .have:=I.base.free b o e n hx;exact d (f _ this) this
 .exact d (λz=>t xs<|z ▸ e) (I.base.Kf b xs e)
 .exact d (λz=>r q u<|z ▸ e) (I.base.rf b q u e)
 .obtain⟨m,e1⟩:=I.base.Jf b ps e;exact⟨m,d (λz=>l ps<|z ▸ e) e1⟩
 .obtain⟨k,i,j⟩:=I.pin p hp;exact⟨k,d (f _ i) i,j⟩
 by_cases g:b=a
 .subst g;rw[bG]at e;cases e;exact w
 rw[bA g]at e;refine(I.Xa b u e).ug (λc v _ q=>q) (λc q=>d (λz=>?_) q) λc xs q=>d (λz=>?_) q
 .rw[z,h]at q;exact A b<|Te q
 rw[z,h]at q;exact y xs<|Te q
end
def MR(a:Addr)(c:Obj)(b:ls):It:=
 ⟨λi H=>H a=some (.Mf c<|.dK b)/\i<b.length,λi H x d=>d=H/\∃p,b[i]?=some p/\x=kV p.1,λi H=>H a=some (.Mf c<|.dK b)/\b.length<=i⟩
def R0{a:Addr}{h:Heap}{xs:wT} (c:h.DictAt (gH P w) a xs ep) (e:h.get? a=some ob) (f:h'.get? a=some ob):h'.DictAt (gH P w) a xs ep:=by
 obtain⟨o,d,b,r⟩:=c;rw[e]at b;cases b;exact⟨ob,d,f,r⟩
theorem Š{K:Frag} {a g:Addr} {xs:wT} (m:KV ka xs) (M:h0.DictAt (gH P w) a xs ep) (j:h0.get? a=some ob):Turn P w K tg (MR a ob ka) [g] g (λi h=>h.IsKeyIter g a i xs.length ep) where
 mem:=by simp
 obj:=λi h st b f=>by
  have e:=by simpa using f
  subst e;obtain⟨o,e,c,d⟩:=st;exact⟨o,e,λv z=>by rw[d]at z;cases z⟩
 keep:=λi h L st k=>st.at λo e=>k g (by simp) o e
 item:=by
  intro X G D J F i U s σ H E I l st q;obtain⟨r,R⟩:=q;have O:=JK m;obtain⟨B,A,S,y,u,t⟩:=l g (by simp)
  obtain⟨⟨k,x⟩,C⟩:∃p,xs[i]?=some p:=⟨_,md<|by lia⟩
  refine wpAny_pyNext_dict_item st (R0 M j (I.Xa a _ r).1) C λn L Q st' N=>?_
  obtain⟨p,e1,e2,_⟩:=xw m C;obtain⟨o,e,c,d⟩:=id st';exact⟨n,rfl,Bw e c d rfl ⟨kV p.1,H,(I.turned (λb o f e=>(N.2 b f).trans e) B A y u t),by rw[e2];exact N3 Q,⟨rfl,p,e1,rfl⟩,st',λb f=>(l b f).1⟩⟩
 done:=by
  intro X G D J F i U s σ H E I l st q;subst G D J;obtain⟨r,R⟩:=q;have O:=JK m;obtain⟨B,A,S,y,u,t⟩:=l g (by simp)
  exact wpAny_pyNext_dict_end (I.ok.hd F) st (R0 M j (I.Xa a _ r).1) (Z6<|by lia) λL T=>⟨rfl,I.turned (λb o f e=>T b o f e) B A y u t⟩
 self:=λ_ _ _ _ _ st h=>wpAny_pyIter_keyiter st h
def bSk(te:TE):L2.TI:=λσ H R=>te σ H λx d=>∃a b c,x=.ref a/\d a=some (.Mf b<|.dK c)/\R (MR a b c) d
def bNv(he:PE X e te):L2.PI X tg e (bSk te):=by
 intro n s σ H R I h;refine Kb (he n s σ H _ I h) λv s1 ⟨x,p,c,g,i⟩=>?_
 obtain⟨a,r,t,e,l,q⟩:=i;subst e;cases g;obtain⟨d,u,k,xs,j,m⟩:=c.Xa a _ l;obtain⟨w,f⟩:=m.dictAt;refine wpAny_pyIter_dict k f<|⟨s1.heap.objs.size,[s1.heap.objs.size],_,_,p,rfl,c.kept λb o e=>Lc _ e,Š j f d,⟨_,Ve _ rfl,rfl,rfl⟩,λb hb=>?_,q⟩
 have e:=by simpa using hb
 subst e;exact c.Ci (Cb _)<|c.Xa.fresh<|Cb _
section
variable{K:Frag} {st:xa} {a:Addr}
def RS.LN(r:RS K B A H st σ){k:OK} (hi:st[i]?=some (some<|.o k xs)) (hs:σ[i]?=some (some<|.ref a)) (n:nT o=true:=by rfl):RS K B A (Ua H a o) (st.set i none) σ/\a∈A:=by
 obtain⟨M,I,G,e1,m,J,_,q,u⟩:=r.lst i k xs hi;rw[hs]at e1;cases e1;have h:hide (A++B) (Ua H a o)=hide _ H:=nY<|Ke _ m;have g:∀{l:Nat}{x:Sl},(st.set i none)[l]?=some (some x)->i≠l/\st[l]?=some _:=λ{l x} e=>by
  rw[jd]at e
  by_cases f:i=l
  .rw[Ka f]at e;split at e<;>cases e
  rw[Ea f]at e;exact⟨f,e⟩
 refine⟨⟨by rw[yg,r.len],λb hb=>?_,r.Wf,λl d e=>?_,λl kl ys e=>?_⟩,m⟩
 .by_cases e:b=a
  .subst e;rwa [bG]
  rw[bA e];exact r.own b hb
 .rw[h];exact r.val l d (g e).2
 obtain⟨f,j⟩:=g e;obtain⟨c,v,t,p,F,ch,y,L,E⟩:=r.lst l kl ys j;exact⟨c,v,t,p,F,by rwa [bA (λz=>by subst z;exact f (u l kl ys j p).symm)],y,by rwa [h],λn w s D C=>E n w s (g D).2 C⟩
def RS.Oy(r:RS K B A H st σ) {u:HO} {k:OK} (hi:i<st.length) (hs:σ[i]?=some (some<|.ref a)) (m:a∈A) (G:H a=some (.Mf ob u)) (y:zm K k a o vs) (N:bI K (hide (A++B) H) ds vs):RS K B A (Ua H a o) (st.set i<|some<|.o k ds) σ:=by
 have s:hide (A++B) (Ua H a o)=hide _ H:=nY<|Ke _ m;have x:∀{k:OK}{c:Addr}{o:HO}{j:nw},zm K k c o j->H c=some o->c≠a:=λ{k c o j} f C z=>by
  subst z;rw[G]at C;cases C;cases k with
  |l=>cases f
  |d t M=>rcases f with ⟨_,_,z,_⟩|⟨_,_,z,_⟩ <;> cases z
  |i n c L=>obtain⟨_,_,_,_,z,_⟩:=f;cases z
 refine⟨by rw[yg,r.len],λb hb=>?_,r.Wf,λl d e=>?_,λl q ys e=>?_⟩
 .by_cases e:b=a
  .subst e;rw[bG];exact y.nt
  rw[bA e];exact r.own b hb
 .rw[s];rw[jd]at e
  by_cases h:i=l
  .split at e<;>simp at e
  rw[Ea h]at e;exact r.val l d e
 have g:∀{l:Nat}{q:OK}{ys:im},i≠l->(st.set i<|some<|.o k ds)[l]?=some _->σ[l]?≠some (some<|.ref a):=λ{l q ys} h e z=>by
  rw[jd,Ea h]at e;obtain⟨c,w,j,v,_,ch,f,_⟩:=r.lst l q ys e;rw[v]at z;cases z;exact x f ch rfl
 by_cases h:i=l
 .subst h;rw[jd,Ka hi]at e;simp at e;obtain⟨e1,e2⟩:=e;subst e1 e2;exact⟨a,o,vs,hs,m,bG,y,by rwa [s],λn kz zs ek gf=>si λF=>g (λz=>F z.symm) ek gf⟩
 have D:=e;rw[jd,Ea h]at D;obtain⟨c,w,j,v,J,ch,f,O,I⟩:=r.lst l q ys D;have E:=x f ch;refine⟨c,w,j,v,J,by rwa [bA E],f,by rwa [s],λn kz zs ek gf=>?_⟩
 by_cases p:i=n
 .subst p;rw[hs]at gf;cases gf;exact absurd rfl E
 rw[jd,Ea p]at ek;exact I n kz zs ek gf
end
theorem S0:∀{a:ls} {n:Nat} {p:Key×V},(a.map (·.1)).Nodup->a[n]?=some p->sI a p.1=some p.2
 |[],_,_,_,e=>by simp at e
 |q::a,0,p,_,e=>by
  simp at e;subst e;simp[sI]
 |q::a,n+1,p,b,e=>by
  rw[Ge,aj]at b;have c:=by simpa using e
  have:=S0 b.2 c;unfold sI at this ⊢
  rwa [List.find?_cons,Qc<|λz=>b.1<|by rw[z];exact Zc.mpr ⟨p,xi c,rfl⟩]
def bFq{a:Addr}{h:Heap} {xs:wT} (b:KV ka xs) (d:h.DictOf (gH P w) a xs):(ka.map (·.1)).Nodup:=by
 obtain⟨g,f⟩:=d.dictAt;have e:=by
  have:∀{l:ls} {m:List _},KV l m->l.map (·.1)=m.map (·.1):=λ{l m} r=>by
   induction r with
   |nil=>rfl
   |cons h _ c=>rw[Ge,Ge,h.1,c]
  exact this b
 rw[e];exact f.nodup
section
variable {ce de:Expr} {c d:Ex} {pk p3 p4 p5 p6 p7 p8 p9 Mp Xr Yr Zr GQ Q8 R8 S8:Pos}
def bJl{f:vh}{H:Hp}{st:xa}{i j y:Nat}{a:Addr} {k:Key} {n:Int} {D:Ends} {E C:TT} (u:∀{f H Q},tT X.K B c f H Q->E f H Q) (t:∀{f H Q},tT X.K B d f H Q->C f H Q)
  (Z:i≠y) (h:RS X.K B A H st f) (hi:f[i]?=some (some<|.ref a)) (N:f[j]?=some (some<|kV k)) (O:H a=some (.Mf ob<|.dK ka)) (M:sI ka k=some (.int n)) (L:Gw y c d n st=.ok s1)
  (r:∀s g,bF H g->RS X.K B A g s1 s->s1.length=st.length->s[i]?=some (some<|.ref a)->D.nx s g) :
  d5 (BL E<|BL (B4<|qo (Wh λi j=>.bl<|decide (j<i)) (Dw (Ij i)<|Ij j)<|L2.tC<|V.int 0) C) (EL (XQ (λxs H Q=>∃i j,xs=[.int i,.int j]/\Q (.int<|if j>i then j else i) H)<|UK (Ij y)<|UK (qo (Wh λi j=>.int<|i+j) (Dw (Ij i)<|Ij j)<|L2.tC<|V.int 1) o5)<|TK y) u4 D f H:=by
 have get:∀{g:Hp}{Q:VK},bF H g->Q _ g->Dw (Ij i) (Ij j) f g Q:=λ{g Q} I q=>⟨_,hi,_,N,a,_,rfl,.inl ⟨ka,k,.inr ⟨ob,I _ _ O⟩,rfl,M.symm⟩,q⟩
 obtain⟨x,K,U⟩:=R.ja L;obtain⟨b,rfl,l⟩:=qF U;refine u ⟨A,st,b,h,K,λH1 sm1=>?_⟩
 cases b with
 |false=>
  cases l;exact r f H1 sm1 (h.mono sm1) rfl hi
 |true=>
  refine get sm1 ⟨n,0,rfl,rfl,decide (0<n),rfl,?_⟩;dsimp only
  by_cases p:0<n
  .rw[Ka<|Cc p];rw[Ka ⟨rfl,p⟩]at l;obtain⟨x',Y,T⟩:=R.ja l;obtain⟨G,rfl,F⟩:=qF T;refine t ⟨A,st,G,h.mono sm1,Y,λH2 Up=>?_⟩
   cases G with
   |false=>
    cases F;exact r f H2 (sm1.trans Up) (h.mono<|sm1.trans Up) rfl hi
   |true=>
    obtain⟨w,o,S⟩:=R.ja F;obtain⟨m,rfl,P⟩:=oq S;cases P;obtain⟨v,e1,J⟩:=h.val y _ (by
     unfold aA at o;split at o
     .rename_i d' e;cases o;exact e
     cases o)
    have W:=bJ.mp J;subst W;refine⟨_,e1,get (sm1.trans Up) ⟨n,1,rfl,rfl,m,n+1,rfl,(r _ H2 (sm1.trans Up) ((h.mono<|sm1.trans Up).set y<|bJ.mpr rfl) (yg ..) ?_)⟩⟩
    rwa [jd,Ea<|Qg Z]
  rw[Ea (by simpa using p)]
  rw[Ea<|λz=>p z.2]at l
  cases l;exact r f H1 sm1 (h.mono sm1) rfl hi
theorem bNw(i j y:Nat){k l:Str}{j0 F:Nat}(Sd:i≠j)(KO:i≠y)(hu:X.A.units+64<cLine)(hp:PassesOwn (model X.prog X.w) X.A X.env X.xe)(hc:X.calm=true)(hm:X.mg "max"=none)(Sn:PT X ce (tT X.K B c))(hde:PT X de (tT X.K B d))(hN:X.N.Nodup)
  (ni:X.N[i]?=some x:=by rfl) (P:X.N[j]?=some k:=by rfl) (ny:X.N[y]?=some l:=by rfl)
  (Y:Dg X.env.scope x:=by exact Vh rfl) (vj:Dg X.env.scope k:=by exact Vh rfl) (vy:Dg X.env.scope l:=by exact Vh rfl)
  (di:Yd x:=by decide) (ci:Th x:=by decide) (dj:Yd k:=by decide) (cj:Th k:=by decide) (dy:Yd l:=by decide) (cy:Th l:=by decide)
  (lj:Loc X.env.scope k:=by exact zj rfl) (ly:Loc X.env.scope l:=by exact zj rfl)
  (fj:Sh X k:=by first|exact .inl rfl|exact .inr rfl|assumption) (fy:Sh X l:=by first|exact .inl rfl|exact .inr rfl|assumption)
  (hg:Gl X "max":=by rfl)
  (hs1:starEach [.Name l p8,.BinOp (.Subscript (.Name x p9) (.Name k Mp) Xr) .Add (.Constant (.int 1) F Yr) Zr] X.env=(false,eval (.Name l p8) X.env)::starEach [.BinOp (.Subscript (.Name x p9) (.Name k Mp) Xr) .Add (.Constant (.int 1) F Yr) Zr] X.env:=by rfl)
  (Ed:starEach [.BinOp (.Subscript (.Name x p9) (.Name k Mp) Xr) .Add (.Constant (.int 1) F Yr) Zr] X.env=(false,eval (.BinOp (.Subscript (.Name x p9) (.Name k Mp) Xr) .Add (.Constant (.int 1) F Yr) Zr) X.env)::starEach [] X.env:=by rfl)
  (je:(backTo GQ<|starEach [.BinOp (.Subscript (.Name x p9) (.Name k Mp) Xr) .Add (.Constant (.int 1) F Yr) Zr] X.env).any (·.1)=false:=by rfl)
  (Li:Uh (.Call (.Name "max" p7) [.Name l p8,.BinOp (.Subscript (.Name x p9) (.Name k Mp) Xr) .Add (.Constant (.int 1) F Yr) Zr] [] GQ) (some<|.Name l p6) Q8.line X.env:=by rfl)
  (hfs:∀v,foldedSetIterable (.Name x px) X.env v=pure v:=by intro _;rfl) (V:JC (.Name k p2):=by intro _ _;rfl) (oP:JC (.Name k Mp):=by intro _ _;rfl) :
  PS X (.For (.Name k pk) (.Name x px) [.If (.BoolOp .And [ce,.Compare (.Subscript (.Name x p1) (.Name k p2) p3) [.Gt] [.Constant (.int 0) j0 p4] S8,de] p5) [.Assign [.Name l p6] (.Call (.Name "max" p7) [.Name l p8,.BinOp (.Subscript (.Name x p9) (.Name k Mp) Xr) .Add (.Constant (.int 1) F Yr) Zr] [] GQ) Q8] [] R8] [] pos) (tS X.K B<|ZK i j y c d):=by
 intro ba s σ H Dn I h;refine si λT=>?_
 obtain⟨A,st,r,rs,Q,p⟩:=h;unfold ZK at Q;split at Q
 case h_2=>cases Q
 rename_i ks ds V;obtain⟨sE,hE,h2⟩:=R.ja Q;cases h2;obtain⟨a,o,vs,e1,m,M,ko,q,u⟩:=rs.lst i _ _ V;rcases ko with ⟨_,g,rfl,rfl,rfl⟩|⟨z,_⟩
 case inr=>cases z
 have n1:∀xs,X.Ja a≠some (.tup xs):=λxs z=>by have:=I.base.Kf a xs z;rw[M]at this;cases this
 have n2:∀q u,X.Ja a≠some (.Mf q u):=λq u z=>by have:=I.base.rf a q u z;rw[M]at this;cases this
 have n3:∀ps,X.Ja a≠some (.uo ps):=λps z=>by obtain⟨_,this⟩:=I.base.Jf a ps z;rw[M]at this;cases this
 have N8:∀t,oW X.prog X.w t s.heap a (.dK g):=λt=>I.Xa a _ M
 obtain⟨hz,hsm,xs,kv,hD⟩:=N8 H;obtain⟨E,es,ep,hob,_⟩:=id hD;have If:za X ba σ (Ua H a<|.Mf E<|.dK g) s:=za.word I M (by rintro b z;cases z) (by rintro b z;cases z) n1 n2 n3 ⟨hob,N8 _⟩
 obtain⟨az,_⟩:=rs.LN (o:=.Mf E<|.dK g) V e1;have Fb:=by have:=q.length;rwa [lc]at this
 have hin:=(pe.mp V).1;have hh:∀(G:Hp)(o:HO),hide A (Ua G a o)=hide A G:=λG o=>nY m
 have get:PE X (.Subscript (.Name x p1) (.Name k p2) p3) (Dw (Ij i)<|Ij j):=AY (by lia) (jR ni Y di ci) (jR P vj dj cj) ‹_›
 refine T<|Kb (OJ hp hc (bNv<|jR ni Y di ci) (CA hN P lj fj) (vO<|SK (pos:=R8) (PW.pt<|MJ Sn<|MJ (WX (pos:=S8) Vm get (xt (i:=0) (j:=j0) (pos:=p4))<|Ű _ (by decide)<|by decide)<|UX hde (pos:=p5)) (vO<|iq hN ny ly (pG (WT hc) hg hm (by rfl)<|cF (jR ny vy dy cy) (cF (w4 N1 (AY (by lia) (jR ni Y di ci) (jR P vj dj cj) oP) xt) eV Ed) hs1) Li fy) BI) hfs ba s σ _ {nx:=λC t=>t a=some (.Mf E<|.dK g)/\Dn.nx C (Ua t a<|.dK g),rt:=λ_ _=>False} If ?_) λf s' S=>?_
 .refine⟨_,e1,a,E,g,rfl,bG,λn m C t=>∃st',m=g.length-n/\n<=g.length/\RS X.K B A t st' C/\st'.length=st.length/\C[i]?=some (some<|.ref a)/\bF (Ua H a<|.Mf E<|.dK g) t/\Ut j y c d ((g.map λp=>lO p.1).drop n) (ds.drop n) st'=.ok sE,⟨g.length,st.set i none,rfl,He _,az,yg ..,e1,bF.refl _,hE⟩,?_⟩
  refine λn m' C t hW=>si λT=>?_
  obtain⟨st',rfl,hle,D,Vn,hi',O,K⟩:=hW;have L:=O _ _ bG
  by_cases J:n<g.length
  .obtain⟨p',U⟩:∃p,g[n]?=some p:=⟨_,md J⟩;have e2:(g.map λp=>lO p.1)[n]?=some (lO p'.1):=by rw[Nj,U];rfl
   obtain⟨dz,e3⟩:∃dz,ds[n]?=some dz:=⟨_,md<|by lia⟩
   obtain⟨l2,ph⟩:=pe.mp e2;obtain⟨l3,e3'⟩:=pe.mp e3;rw[Ln l2,Ln l3,ph,e3']at K;obtain⟨nn,rfl,h5⟩:=oq K;obtain⟨s2,kP,h6⟩:=R.ja h5;have ev:p'.2=.int nn:=by
    obtain⟨w,e4,r4⟩:=q.get e3;rw[Nj,U]at e4;have e5:=by simpa using e4
    rw[e5];exact bJ.mp r4
   refine T<|.inr ⟨⟨L,J⟩,λDj W=>∃N,n+1<=g.length/\RS X.K B A W N Dj/\N.length=st.length/\Dj[i]?=some (some<|.ref a)/\bF (Ua H a<|.Mf E<|.dK g) W/\Ut j y c d ((g.map λp=>lO p.1).drop<|n+1) (ds.drop<|n+1) N=.ok sE,?_,?_⟩
   .rintro Dj W ⟨N,g1,g2,g3,g4,g5,g6⟩;exact⟨g.length-(n+1),by lia,N,rfl,g1,g2,g3,g4,g5,g6⟩
   rintro x W ⟨rfl,p2,ME,rfl⟩;rw[U]at ME;cases ME;exact bJl id id KO (D.set j (by
    obtain⟨kk,_⟩:=p';cases kk with
    |inl i=>exact bJ.mpr rfl
    |inr x=>exact dI.mpr<|by simp[kV])) (by rwa [jd,Ea<|Qg Sd]) (by rw[jd,Ka rfl,Ka (by rw[<-D.len,Vn,rs.len,I.len];exact(pe.mp P).1)]) L (by rw[S0 (bFq kv hD) U,ev]) kP λEj H3 Z ck l3 EE=>⟨s2,J,ck,by rw[l3,yg,Vn],EE,O.trans Z,h6⟩
  have e:n=g.length:=by lia
  subst e;rw[W6 (by simp),W6 (by lia)]at K
  cases K;refine T<|.inl ⟨⟨L,Cb _⟩,L,p A C _ ?_ ?_⟩
  .unfold Le;rw[hh,<-hh H (.Mf E<|.dK g)];exact bF.hide O
  refine D.Oy (by lia) hi' m L (.inl ⟨rfl,g,rfl,rfl,rfl⟩)<|q.mono ?_
  rw[<-nY (Ke _ m)];exact bF.hide O
 cases f with
 |next=>
  obtain⟨C,t,I',K,hn⟩:=S;exact⟨C,_,za.word (o':=.dK g) I' K (by rintro b z;cases z) (by rintro b z;cases z) n1 n2 n3 (I'.Xa a _ K).2,hn⟩
 |ret v=>obtain⟨_,_,_,_,_,z⟩:=S;exact z.elim
 |brk=>obtain⟨_,_,_,z⟩:=S;exact z.elim
 |cont=>obtain⟨_,_,_,z⟩:=S;exact z.elim
end
def ϛ{A:Around} {id:String} {b:Builtin} {a:jp} {g:wv} {Q:bv} (m:builtinKind id=none) (l:plainId id=true) (n:entryFor table id=some b) (d:argsOk id ⟨a,g⟩)
  (i:wpAny (model prog w) A.in1 (b ⟨a,g⟩) (λh c=>match h with
   |.done f=>(match (Except.ok f:Result) with|.ok (.ret v)=>Q v c|.ok _=>False|.error e=>E e c)
   |.again j=>j.quiet=true/\codeAny (model prog w) A j (λr c=>match r with|.ok (.ret v)=>Q v c|.ok _=>False|.error e=>E e c) c) E s) :
  wpAny (model prog w) A (call (.builtin id) a g) Q E s:=by
 refine wpAny_call<|codeAny_call_builtin l n ?_;unfold checkBuiltinCall;rw[m];dsimp only;cases k:Manifest.signature? id with
 |none=>exact vc i
 |some o=>
  unfold argsOk at d;rw[k]at d;dsimp only at d ⊢;rw[d];exact vc i
def š(a v:Value):argsOk "max" ⟨[a],[(ofString "default",v)]⟩:=by kernel_rfl
section
variable{prog:Program}{w:World}{A:Around}{R:Result->u8}{I:Addr}{fp wr:db}{n:Nat}{P:Nat->Value->Prop}{St:zn}{bt:Nat->Nat->Bool}{S:Addr}{d:Value}
def bNx(P:Nat->Value->Prop)(b:Nat->Nat->Bool):Nat->Array Value->Prop
 |0,a=>a = #[]
 |j+1,a=>∃v,a = #[v,v]/\P (argBest b j) v
theorem Ţ(W:Walks prog w A.in1 I fp wr n P St)(y:CmpOf prog w A.in1 .Gt P bt)(U:S∉fp):∀(k j:Nat)(s:Shared)(l:xL)(c:Nat),j+k=n->St j s.heap->bNx P bt j l->
  s.heap.get? S=some {cls:=.type "list",dict:=none,data:=.seq l c,slots := #[]}->
  (∀v p u,((n=0/\v=d)\/(0<n/\P (argBest bt<|n-1) v))->(∀b o,b∉wr->b≠S->s.heap.get? b=some o->p.get? b=some o)->R (.ok<|.ret v) {s with heap:=p,toks:=u})->
  codeAny (model prog w) A (.builtin "max.loop" ⟨[.ref I,.none,.ref S],[(ofString "default",d)]⟩) R s:=by
 have T:=λh=>U<|W.sub _ h
 have V:(toString "max" ++ toString ".loop")="max.loop":=by decide
 intro k
 induction k with
 |zero=>
  intro j s l c J Q a B r;refine codeAny_builtin F.entry_max_loop ?_
  refine Oa<|Jm B rfl ?_;refine Oa<|wpAny_tryCatch<|W.done s _ _ (by rwa [<-J]) λp u m=>?_
  cases j with
  |zero=>
   have e:=a;subst e;exact Oa<|Bk<|vc<|r d p u (.inl ⟨by lia,rfl⟩) λb o i _ e=>m b o i e
  |succ j=>
   obtain⟨v,rfl,q⟩:=a;exact Oa<|AN (m S _ T B) rfl<|Oa<|vp<|vc<|r v _ u (.inr ⟨by lia,by rwa [<-J]⟩) λb o i a e=>(sD _ _<|Qg a).trans<|m b o i e
 |succ k G=>
  intro j s l c J Q a B r;refine codeAny_builtin F.entry_max_loop<|Oa<|Jm B rfl<|Oa<|wpAny_tryCatch<|W.item j s _ _ (by lia) Q λv p u O K m=>?_
  have D:=m S _ T B;have g:∀{f:Array Value->Array Value}{b:Addr}{o:Obj},b≠S->p.get? b=some o->(p.update S<|Obj.mapSeq f).get? b=some o:=λa e=>(sD _ _<|Qg a).trans e
  have M:∀{b:Addr},b∈fp->b≠S:=λa z=>U<|z ▸ a
  cases j with
  |zero=>
   have e:=a;subst e;show wpAny _ A.in1 (updateSeq S _ >>= _) _ _ _;refine Oa<|AN D rfl ?_;exact vc ⟨WD ND _,G 1 _ _ _ (by lia) (W.frame _ _ _ K λb a o e=>g (M a) e) ⟨v,rfl,O⟩ (AD _ D rfl) λt C x q E=>r t C x q λb o i a e=>E b o i a<|g a<|m b o i e⟩
  |succ j=>
   obtain⟨L,rfl,H⟩:=a;show wpAny _ A.in1 (tryCatch _ _ >>= _) _ _ _;refine Oa<|wpAny_tryCatch<|Oj<|Oa<|y (j+1) (argBest bt j) v L _ _ _ O H<|Oa<|Oj<|Qq<|Oa<|vp<|vc ?_;cases N:bt (j+1) _ with
   |true=>
    refine Oa<|AN D rfl<|Oa<|vp ?_;exact vc ⟨WD ND _,G (j+2) _ _ _ (by lia) (W.frame _ _ _ K λb a o e=>g (M a) e) ⟨v,rfl,by unfold argBest;rwa [N,Ka rfl]⟩ (AD _ D rfl) λt C x q E=>r t C x q λb o i a e=>E b o i a<|g a<|m b o i e⟩
   |false=>
    refine Oa<|vp ?_;exact vc ⟨WD ND _,G (j+2) _ _ c (by lia) K ⟨L,rfl,by unfold argBest;rwa [N,Ea zk]⟩ D λt C x q E=>r t C x q λb o i a e=>E b o i a<|m b o i e⟩
end
section
variable {ke:Expr} {tk:TE} {p vf kp:Pos}
def d4{g:Str}{id:String}{r:V->V->Hp->VK->Prop}(A:∀{j:f8} {s:Shared} {c:L2.St} {H:Hp} {a b:V} {u v:Value} {Q:VK},za X j c H s->RelV a u->RelV b v->r a b H Q->wpAny (model X.prog X.w) X.A (call (.builtin id) [u] [(g,v)]) (EP X j c Q) X.xe s)
  (y:Gl X x) (w:X.mg x=none) (o:bootBuiltins x=some (.builtin id)) (C:PE X e te) (B:PE X ke tk) (t:x≠"__name__":=by decide) (E:Yd x:=by decide)
  (hs:Cd e [] X.env:=by rfl)
  (he:backTo pos (starEach [e] X.env)=(false,eval e X.env)::backTo pos (starEach [] X.env):=by rfl) (hplain:(backTo pos<|starEach [e] X.env).any (·.1)=false:=by rfl)
  (hall:(backToKw pos<|keywordEach [⟨some g,ke,vf⟩] X.env).all (·.1.isSome)=true:=by rfl) (hkw:(backToKw pos<|keywordEach [⟨some g,ke,vf⟩] X.env).any (·.1.isNone)=false:=by rfl)
  (Pl:(backToKw pos<|keywordEach [⟨some g,ke,vf⟩] X.env).filterMap (·.1)=[g]:=by rfl) :
  PE X (.Call (.Name x p) [e] [⟨some g,ke,vf⟩] pos) (λc H Q=>te c H λa d=>tk c d λb f=>r a b f Q):=by
 intro j s c H Q I h;refine wx<|Bo I y w o (callWith_kw (Kb (cF C eV hs pos j s c H (λk d=>∃a,k=[a]/\tk c d λb f=>r a b f Q) I ?_) λF s1 ⟨k,d,I1,r1,a,e1,q1⟩=>?_) he hplain hall hkw) t E
 .show te c H λa d=>∃i,[a]=[i]/\tk c d λb f=>r i b f Q
  have:(λa d=>∃i,[a]=[i]/\tk c d λb f=>r i b f Q)=λa d=>tk c d λb f=>r a b f Q:=by
   funext a d;exact propext ⟨λ⟨i,z,q⟩=>by cases z;exact q,λq=>⟨a,rfl,q⟩⟩
  rwa [this]
 subst e1;obtain⟨u,rfl,l⟩:=r1.one;exact kws_cons<|Kb (B j s1 c d _ I1 q1) λv G ⟨b,f,D,m,n⟩=>kws_nil<|A D l m n
theorem ţ(L:X.calm=true) {m:L2.St} {a b:V} {v:Value} {Q:VK} (I:za X ba m H s) (B:RelV a u) (A:RelV b v)
  (h:∃(l:Addr)(is:lv)(c:Int),a=.ref l/\b=.int c/\Dc X.K H l (is.map V.int)/\Q (.int<|if is=[] then c else tQ is) H):wpAny (model X.prog X.w) X.A (call (.builtin "max") [u] [(ofString "default",v)]) (EP X ba m Q) X.xe s:=by
 obtain⟨l,is,c,rfl,rfl,E,q⟩:=h;obtain rfl:u=Value.ref l:=B;obtain⟨w,rfl⟩:=A;obtain⟨Ia,y,⟨C,n,e,S,_,K⟩,T⟩:=I.list E;obtain⟨d,O,e2⟩:=ZH y;have r:d.length=is.length:=by rw[<-e2,lc]
 have R:s.heap.IsList l (intItems d.toArray):=⟨C,e,S,n,by rw[K,O];simp[intItems]⟩
 have p:(intItems d.toArray).size=d.length:=by simp[intItems]
 refine ϛ F.kind_max F.plain_max F.entry_max (š _ _)<|Oa<|wpAny_of_eq (rfl)<|Oa<|vc<|Oa<|iter_intList R λZ P st k j=>?_
 subst P;refine Oa<|KD ?_;have W:=Walks.list (prog:=X.prog) (w:=X.w) (A:=X.A.in1) (I.ok.hd L) s.heap.objs.size l j<|intItems d.toArray;refine vc ⟨WD ND _,Ţ W (CmpOf.ints_gt _<|λ_ _=>intItems_at) (λD=>Pg _<|k _ D) (intItems d.toArray).size 0 _ #[] _ (rp _) (W.frame _ _ _ st λb _ o e=>Lc _ e) rfl (Ve _ rfl) λv Y tk hv G=>⟨.int _,H,I.kept (λb o e=>by
  have f:=Uc e;refine G b o (λz=>?_) (λz=>?_)<|Lc _<|Lc _ e
  .rw[Fe.mp z]at f;exact Pg _ f
  rw[z]at f;exact absurd f<|Nat.not_lt.mpr<|by rw[oh];exact Nat.le_succ _),?_,q⟩⟩
 rcases hv with ⟨g,rfl⟩|⟨g,M⟩
 .rw[Ka<|Kn.mp<|by lia]
  exact⟨w,rfl⟩
 rw[Ea (λz=>by rw[z]at r;rw[p,r]at g;simp at g)]
 obtain⟨t,rfl⟩:=intItems_at M;refine⟨t,?_⟩;congr 1;rw[p]at g ⊢;obtain⟨U,N⟩:=argBest_gt (numAt d.toArray)<|d.length-1;refine(yM ?_ λx hx=>?_).symm
 .rw[yA (by lia),<-e2]
  exact Fh _
 rw[<-e2]at hx;obtain⟨i,J,rfl⟩:=su.mp hx;rw[<-yA (by simpa using J)]
 exact N i (by lia)
def bNy{c:Int}(k:X.mg "max"=none)(o:X.calm=true)(r:PE X e (tP X.K B f))(m:Gl X "max":=by rfl)
  (hs:Cd e [] X.env:=by rfl)
  (he:backTo pos (starEach [e] X.env)=(false,eval e X.env)::backTo pos (starEach [] X.env):=by rfl) (hplain:(backTo pos<|starEach [e] X.env).any (·.1)=false:=by rfl)
  (hall:(backToKw pos<|keywordEach [⟨some "default",.Constant (.int c) jc kp,vf⟩] X.env).all (·.1.isSome)=true:=by rfl) (hkw:(backToKw pos<|keywordEach [⟨some "default",.Constant (.int c) jc kp,vf⟩] X.env).any (·.1.isNone)=false:=by rfl)
  (Pl:(backToKw pos<|keywordEach [⟨some "default",.Constant (.int c) jc kp,vf⟩] X.env).filterMap (·.1)=[("default":Str)]:=by rfl) :
  PE X (.Call (.Name "max" p) [e] [⟨some "default",.Constant (.int c) jc kp,vf⟩] pos) (tI X.K B<|e1 (Hw c) f):=by
 refine cD (d4 (ţ o) m k (by rfl) r xt (hs:=hs) (he:=he) (hplain:=hplain) (hall:=hall) (hkw:=hkw) (Pl:=Pl)) ?_
 rintro σ H Q ⟨A,st,d,i,n,q⟩;obtain⟨x,j,b⟩:=R.ja n;refine⟨A,st,x,i,j,λv H1 s1 r1=>?_⟩
 unfold Hw at b;split at b
 case h_2=>cases b
 rename_i ds;obtain⟨l,t,s⟩:=R.ja b;cases s;obtain⟨a,u,e1,h,g⟩:=r1.lst;rw[uU t]at g;rw[yD g]at h;exact⟨a,l,c,e1,rfl,h,q _ H1 s1<|bJ.mpr rfl⟩
end
def CF(K:Frag)(B:db)(a:im->Bd):TS:=λb σ H=>∃A st d,RS K B A H st σ/\gw a st d/\bx K B A H (.rt d) b
section
variable{X:Cx}{B:db}{e sr:Expr}{f r:Ex}{pos p p1 p2 vf kp:Pos}{bd:Bd}{bds:im->Bd}{sm:Stmt}{rest body:List Stmt}{t:Tg}{tg:Expr}
def bNz(h:Pc X rest (CF X.K B bds)):Pc X rest (tS X.K B<|B5 bds):=lB h (by
 rintro g σ H ⟨A,st,f,a,b,p⟩;obtain⟨d,c,e⟩:=R.ja b;cases e;exact⟨A,st,d,a,bPr c,p⟩)
def bO0(j:PS X sm (tS X.K B bd))(i:Pc X rest (CF X.K B bds))(g:∀st s,bd st≠.ok (.bk s)):Pc X (sm::rest) (CF X.K B λout=>bC bd<|bds out):=lB (lG j i) (by
 rintro q σ H ⟨A,st,d,f,e,p⟩;obtain⟨x,a⟩:∃x,bd st=.ok x:=by
  rcases e [] with h|h<;>exact let ⟨x,a,_⟩:=R.ja h;⟨x,a⟩
 refine⟨A,st,x,f,a,?_⟩;have b:∀out,Fm (.ok x) _=.ok (.rt d)\/Fm (.ok x) _=.ok (.bk []):=λout=>by rw[<-a];exact e out
 cases x with
 |nx s1=>exact λk m o l c=>⟨k,s1,d,c,b,p.mono l⟩
 |rt n=>
  rcases b [] with z|z<;>cases z
  exact p
 |bk s=>exact absurd a<|g st s
 |ct s=>rcases b [] with z|z<;>cases z)
theorem BH:∀(ds:im)(st s:xa),Eb t bd ds st≠.ok (.bk s)
 |[],_,_,h=>by cases h
 |d::ds,st,s,h=>by
  obtain⟨s1,_,c⟩:=R.ja h;obtain⟨x,_,b⟩:=R.ja c;cases x with
  |nx a=>exact BH ds a s b
  |ct a=>exact BH ds a s b
  |bk a=>cases b
  |rt v=>cases b
def S5(K:Frag)(B:db)(f:Ex)(g:cr):TE:=λσ H Q=>∃A st ds,RS K B A H st σ/\f st=.ok (.lst ds)/\(ds.length<=1000/\∀d∈ds,∃n m,d=.int n/\g [d]=.ok (.int m))/\∀out a c b,Hq g ds out->bF H b->b a=none->bI K (hide (A++B) b) out c->Q (.ref a) (Ua b a<|.lst c)
theorem U0{g:cr}:∀{ds:im},(∀d∈ds,∃n m,d=.int n/\g [d]=.ok (.int m))->∃a:lv,ds=a.map D.int/\∀n∈a,∃m,g [.int n]=.ok (.int m)
 |[],_=>⟨[],rfl,λ_ h=>nomatch h⟩
 |d::ds,h=>by
  obtain⟨a,e,c⟩:=U0 λd b=>h d<|Ab _ b
  obtain⟨n,m,e1,e2⟩:=h d zb;subst e1 e;refine⟨n::a,rfl,λk hk=>?_⟩
  rcases Pb.mp hk with rfl|hk
  .exact⟨m,e2⟩
  exact c k hk
def bQy{k:Nat}{g:cr}(h:Ba X.prog X.w X.K X.mg X.base x k 1 g)(T:gb j X.A)(Z:k+2<=j)(W:X.mg "sorted"=none)(ha:PE X e (tI X.K B f))(t:Gl X x:=by rfl)(DO:Yd x:=by decide)(hg:Gl X "sorted":=by rfl)
  (hs:Cd e [] X.env:=by rfl)
  (he:backTo pos (starEach [e] X.env)=(false,eval e X.env)::backTo pos (starEach [] X.env):=by rfl) (hplain:(backTo pos<|starEach [e] X.env).any (·.1)=false:=by rfl)
  (hall:(backToKw pos<|keywordEach [⟨some "key",.Name x kp,vf⟩] X.env).all (·.1.isSome)=true:=by rfl) (hkw:(backToKw pos<|keywordEach [⟨some "key",.Name x kp,vf⟩] X.env).any (·.1.isNone)=false:=by rfl)
  (Pl:(backToKw pos<|keywordEach [⟨some "key",.Name x kp,vf⟩] X.env).filterMap (·.1)=[("key":Str)]:=by rfl) :
  PE X (.Call (.Name "sorted" p) [e] [⟨some "key",.Name x kp,vf⟩] pos) (S5 X.K B f g):=by
 obtain⟨C,fd,ps,F,m,N,bn⟩:=h.ex;refine cD (d4 (r:=λa b H Q=>∃(l:Addr)(c:lv),a=.ref l/\b=.ref C/\Dc X.K H l (c.map V.int)/\(∀n∈c,∃m,g [.int n]=.ok (.int m))/\c.length<=1000/\∀(out:lv)(i:Addr)(d:Hp),Hq g (c.map D.int) (out.map D.int)->bF H d->d i=none->Q (.ref i) (Ua d i<|.lst<|out.map V.int)) ?_ hg W rfl ha (AI (v:=.ref C) t m rfl DO) (hs:=hs) (he:=he) (hplain:=hplain)) ?_
 .intro ba s σ H a b u v Q I L K h;obtain⟨l,c,rfl,rfl,Y,w,P,q⟩:=h;obtain rfl:u=Value.ref l:=L;obtain rfl:v=Value.ref C:=K;have E:∀n∈c,g [.int n]=.ok (.int<|match g [.int n] with|.ok (.int m)=>m|_=>0):=λn U=>by
   obtain⟨m,e⟩:=w n U;rw[e]
  refine bFm F (T.mono Z) bn I Y E P λout i d o M sm z=>q out i d ⟨o.map _,?_⟩ sm z
  rw[Lx];exact M.imp_of_mem λ{x y} S R r=>⟨_,_,E x<|o.mem_iff.mp S,E y<|o.mem_iff.mp R,r⟩
 rintro σ H Q ⟨A,st,ds,J,hd,⟨h1,h2⟩,q⟩;refine⟨A,st,_,J,hd,λv H1 s1 r1=>?_⟩
 obtain⟨c,rfl,Cp⟩:=U0 h2;obtain⟨l,vs,rfl,G,ZO⟩:=fJ.mp r1;rw[yD ZO]at G;refine⟨l,c,rfl,rfl,(bB _ _).seq G,Cp,by rwa [lc]at h1,λout i d ho sm z=>q _ i _ d ho (s1.trans sm) z ?_⟩
 clear ho
 induction out with
 |nil=>exact .nil
 |cons n out O=>exact .cons (bJ.mpr rfl) O
def bFs(st s:xa):cG r st≠.ok (.bk s):=λh=>by
 obtain⟨_,_,a⟩:=R.ja h;cases a
def Ť{b:Bool}(st s:xa):Ro i b st≠.ok (.bk s):=λh=>by cases h
def bQz{g:cr}(hi:PE X e (S5 X.K B f g))(hg:PG X tg (tG X.K B t))(hb:Pc X body (tS X.K B bd))(hr:PS X sm (tS X.K B rb))(M:∀st s,rb st≠.ok (.bk s))(hp:PassesOwn (model X.prog X.w) X.A X.env X.xe)(hc:X.calm=true)
  (hs:∀x,foldedSetIterable e X.env x=pure x:=by intro _;rfl):Pc X [.For tg e body [] p1,sm] (CF X.K B λout=>bC (Cm t f g bd out) rb):=lB (lG (OJ hp hc (bG8 hi) hg hb hs)<|vO hr) (by
 rintro Dn σ H ⟨A,st,d,K,S,p⟩;have L:∀{out:im}{z:Fl},Fm (Cm t f g bd out st) rb=.ok z->∃ds,f st=.ok (.lst ds)/\(ds.length<=1000/\∀d∈ds,∃n m,d=.int n/\g [d]=.ok _):=λ{out z} h=>by
  obtain⟨x,D,_⟩:=R.ja h;obtain⟨y,hy,b⟩:=R.ja D;split at b
  .exact⟨_,hy,(aH b).1⟩
  cases b
 obtain⟨ds,Q,V⟩:∃ds,f st=.ok (.lst ds)/\(ds.length<=1000/\∀d∈ds,∃n m,d=.int n/\g [d]=.ok _):=by
  rcases S [] with z|z<;>exact L z
 refine⟨A,st,ds,K,Q,V,λout a vs H1 ho s0 hn hv=>?_⟩
 obtain⟨x,D,b⟩:=R.ja (by
  have P:Fm (Cm t f g bd out st) rb=.ok (.rt d)\/Fm _ rb=.ok _:=S out;rw[OV Q V ho]at P;rcases P with z|z
  .exact z
  obtain⟨x,D,b⟩:=R.ja z;cases x with
  |nx s1=>exact absurd b<|M _ _
  |ct s1=>cases b
  |rt v=>cases b
  |bk s1=>exact absurd D<|BH _ _ _)
 have s1:bF H (Ua H1 a<|.lst vs):=s0.trans<|cI hn;refine⟨a,rfl,⟨vs,Dc.of bG⟩,λi m O G=>∃k st',m=out.length-i/\i<=out.length/\RS X.K B k G st' O/\Eb t bd (out.drop i) st'=.ok x/\Le A _ k G,⟨out.length,A,st,rfl,He _,K.mono s1,by rwa [Nx],Le.refl⟩,?_⟩
 rintro i m O G ⟨k,st',rfl,hle,j,I,l⟩;obtain⟨i1,i2⟩:=(K3 (Dc.of<|by rw[bH<|(K.own.mono s0).free hn];exact bG)<|hv.mono<|bF.hide<|cI hn) k G l j.own i
 by_cases c:i<out.length
 .obtain⟨go,Z⟩:=i1 _<|md c;rw[Ln c]at I;obtain⟨N,Ed,h5⟩:=R.ja I;obtain⟨T,Yb,E⟩:=R.ja h5;refine .inr ⟨go,λY u=>∃J F,i+1<=out.length/\RS X.K B J u F Y/\Eb t bd (out.drop<|i+1) F=.ok x/\Le A (Ua H1 a<|.lst vs) J u,?_,λy u yy=>?_⟩
  .rintro Y u ⟨J,F,Gr,jm,oy,l2⟩;exact⟨out.length-(i+1),by omega,J,F,rfl,Gr,jm,oy,l2⟩
  obtain⟨sm,rx⟩:=Z y u yy;have C:=l.trans<|Le.of sm;refine⟨k,st',out[i],N,j.mono sm,rx,Ed,λEj ck=>⟨k,N,T,ck,Yb,?_⟩⟩
  cases T with
  |nx o=>exact λw U W q r=>⟨w,o,c,r,E,C.trans q⟩
  |ct o=>exact λw U W q r=>⟨w,o,c,r,E,C.trans q⟩
  |bk o=>
   cases E;exact λw U W q r=>⟨w,o,_,r,b,p.mono<|(Le.of s1).trans<|C.trans q⟩
  |rt v=>
   cases E;cases b;exact p.mono<|(Le.of s1).trans C
 have e:i=out.length:=by omega
 subst e;rw[aE]at I;cases I;exact .inl ⟨i2<|Cb _,k,st',_,j,b,p.mono<|(Le.of s1).trans l⟩)
end
def Es(K:Frag)(B:db)(i:Bd)(f:Ex):TS:=λj σ H=>∃A st s xs ys,RS K B A H st σ/\i st=.ok (.nx s)/\f s=.ok (.tup [.lst xs,.lst ys])/\∀d c e p a b h g,Le A H d c->Own (d++B) c->Ao K (d++B) c e xs ys p a b h g->j.rt (.ref p) e
section
variable {c:Expr} {t:Ex} {rest:List Stmt}
def LK(r:PS X sm (tS X.K B bd))(o:Pc X rest (Es X.K B mj f)):Pc X (sm::rest) (Es X.K B (bC bd mj) f):=lB (lG r o) (by
 rintro C σ H ⟨A,st,s,xs,ys,j,n,m,q⟩;obtain⟨g,t,c⟩:=R.ja n;refine⟨A,st,g,j,t,?_⟩;cases g with
 |nx s1=>exact λx y z l e=>⟨x,s1,s,xs,ys,e,c,m,λw v u p a b i h k=>q w v u p a b i h<|l.trans k⟩
 |rt d=>cases c
 |bk s1=>cases c
 |ct s1=>cases c)
def y_ret(he:PE X e (cz X.K B f)):Pc X [.Return (some e) pos] (Es X.K B cO f):=lB (vO<|Zv he) (by
 rintro k σ H ⟨A,st,s,xs,ys,c,i,h,q⟩;cases i;exact⟨A,st,xs,ys,c,h,λp a b g d j t=>q A H j p a b g d Le.refl c.own t⟩)
def T5(u:PT X c (tT X.K B t))(y:PE X e (cz X.K B f))(x:Pc X rest (Es X.K B cO g)):Pc X (.If c [.Return (some e) p1] [] pos::rest) (Es X.K B cO<|pj t f g):=lB (lG (SK u (vO<|Zv y) BI) x) (by
 rintro D σ H ⟨A,st,s,xs,ys,h,v,o,q⟩;cases v;obtain⟨d,r,w⟩:=R.ja o;obtain⟨k,rfl,m⟩:=qF w;refine⟨A,st,k,h,r,λH1 s1=>?_⟩
 cases k with
 |true=>exact⟨A,st,xs,ys,h.mono s1,m,λp a b j i l t=>q A H1 l p a b j i (Le.of s1) (h.mono s1).own t⟩
 |false=>exact⟨A,st,st,xs,ys,h.mono s1,rfl,m,λC z l p a b j i n=>q C z l p a b j i<|(Le.of s1).trans n⟩)
end
section
variable{P:Program}{w:World}{K:Frag}{mg:kt}{base h:Heap}{x qual:Str}{st:Stmt}{dV:Value}{fa:Addr}{fd:FuncData}{N ps:sB}{k np n:Nat}{bd:Bd}{g:Ex}{p:cr}
def bSl(F:Ma K x qual st dV fa fd)(S:Tb N ps (bK st))(m n:Nat)(u:Bd)(g:Ex)(V:ps.length=m)(L:N.length=n)
  (O:∀(i:Value)(A:Around)(d:v4)(s:Shared)(H:Hp)(E:XK)(B:db),gb k (A.deeper<|envOfC qual (bK st) s.heap.objs.size fa i)->
   Pc (Kj bb P w K mg base N qual (bK st) fa i A d s H E).Zj (dH st) (Es K B u g)):Aa P w K mg base bb (k+1) fa fd ps (spT K m<|cM m n<|Bm u g):=by
 refine F.Vy S (λj H Q E h=>?_)<|λi A d s H j Q E I h=>?_
 .obtain⟨A,ds,xs,ys,f,r,o,_⟩:=h;rw[r.length,o,V]
 obtain⟨B,ds,xs,ys,f,r,o,J,q⟩:=h;refine⟨Es K B u g,O i A d s H E B I,?_⟩;obtain⟨_,U⟩:=aH J;obtain⟨Y,e,T⟩:=R.ja U;have v:=Dv (N:=N) f r;rw[o,L]at v;unfold Bm at e;split at e
 .rename_i s1 D;split at e
  .rename_i z X G;cases e;cases T;refine⟨[],_,s1,_,_,v,D,í G,λA' Z W p a b j C l y t=>q p a b j C W<|t.back ?_ λc M=>se _ M⟩
   unfold Le at l;exact l.trans<|bB _ _
  cases e
 .cases e
 cases e
def ť(o:∀ds d,p ds=.ok d->∃xs ys,d=.tup [.lst xs,.lst ys])(F:Aa P w K mg base bb k fa fd ps (spT K np p)):Aa P w K mg base bb k fa fd ps (Qb K np p):=by
 have i:∀c H Q E,Qb K np p c H Q E->spT K np p c H Q E:=by
  rintro c H Q E ⟨A,ds,d,f,r,u,j,q⟩;obtain⟨xs,ys,rfl⟩:=o ds d j;exact⟨A,ds,xs,ys,f,r,u,j,λp a b c z y t=>q _ y t.sm<|t.rep f⟩
 exact⟨λc H Q E h=>F.len c H Q E<|i c H Q E h,λA e s H g l c Q E n x v m h=>F.run A e s H g l c Q E n x v m<|i c H Q E h⟩
structure me(P:Program)(w:World)(K:Frag)(mg:kt)(base:Heap)(x:Str)(k np:Nat)(p:cr):Prop where
 ex:∃(fa:Addr)(fd:FuncData)(ps:sB),Aa P w K mg base bb k fa fd ps (spT K np p)/\mg x=some (.ref fa)/\keepIn K (.ref fa)=true/\Binds K fd ps []
 len:∀ds d,p ds=.ok d->ds.length=np
 two:∀ds d,p ds=.ok d->∃xs ys,d=.tup [.lst xs,.lst ys]
def me.plain(h:me P w K mg base x k np p):Ba P w K mg base x k np p:=by
 obtain⟨fa,fd,ps,F,m,a,bd⟩:=h.ex;exact⟨⟨fa,fd,ps,ť h.two F,m,a,bd⟩,h.len⟩
def DA.okT(D:DA K nm st)(C:Ct P w K mg base h)(r:∀{f:Addr}{c:FuncData},Ma K nm nm st .none f c->Aa P w K mg base bb k f c ps (spT K np<|cM np n<|Bm bd g))(b:Bz nm nm st ps:=by exact {}):me P w K mg base nm k np (cM np n<|Bm bd g):=by
 obtain⟨f,c,F,a,z⟩:=D.Zu C b.ok;exact⟨⟨f,c,ps,r F,a,F.kp,z⟩,Fv,λ_ _ h=>ŕ h⟩
end
section
variable {r:yd}
def bJm{k:Nat} (h:me X.prog X.w X.K X.mg X.base x k np p) (o:gb j X.A) (s:k<=j) (w:PA X (e::es) (tA X.K B r)) (u:Gl X x:=by rfl) (C:Yd x:=by decide)
  (he:Cd e es X.env:=by rfl) (je:Lg pos es X.env:=by rfl):PE X (.Call (.Name x p0) (e::es) [] pos) (cz X.K B<|aM p r):=by
 obtain⟨G,E,D,F,m,l,bd⟩:=h.ex;refine cD (Iv F (o.mono s) u m l bd .nil Mo w C he je) ?_
 rintro σ H Q ⟨A,st,xs,ys,f,v,q⟩;obtain⟨c,n,g⟩:=R.ja v;refine⟨A,st,c,f,n,λd H1 s1 r1=>?_⟩
 show spT X.K np p _ H1 Q E0;rw[Hh];exact⟨A++B,c,xs,ys,f.own.mono s1,r1,h.len _ _ g,g,λp a b d i y t=>q p a b d i y<|t.back s1 λ_ z=>z⟩
end
def n4(ds:im):DF ds=EF ds:=by
 cases ds with
 |nil=>rfl
 |cons d _=>cases d<;>rfl
def bJn{K:Frag} {z:Str} (r:bI K H ds (.str z::ws)):EF ds=true:=by
 cases ds with
 |nil=>cases cU.mp r
 |cons d ds=>
  obtain⟨v,_,e,q,_⟩:=bN.mp r;cases e;cases d with
  |str s=>rfl
  |Bb=>cases oE.mp q
  |bl _=>cases cY.mp q
  |int _=>cases bJ.mp q
  |tup _=>obtain⟨_,_,e,_⟩:=lQ.mp q;cases e
  |lst _=>obtain⟨_,_,e,_⟩:=fJ.mp q;cases e
  |Hd _ _ _=>obtain⟨_,_,e,_⟩:=oF.mp q;cases e
  |ins _ _ _=>obtain⟨_,_,_,_,_,e,_⟩:=dt.mp q;cases e
  |Bi _ _ _=>obtain⟨_,_,_,e,_⟩:=UA.mp q;cases e
  |fn _=>obtain⟨_,e,_⟩:=BB.mp q;cases e
def qv(H:Hp)(C:db):Prop:=∀c∈C,∃z a,H c=some (.lst<|.str z::a)
def qv.out{C:db}(h:qv H C){a:Addr} (e:H a=some o) (n:∀z b,o≠.lst (.str z::b)):hide C H a=some o:=by
 rw[bH λz=>?_]
 .exact e
 obtain⟨z,b,c⟩:=h a z;rw[e]at c;cases c;exact n z b rfl
mutual
theorem jb.off{K:Frag}{H:Hp}{C:db}(b:qv H C):∀{d:D}{v:V},Rh d=true->jb K H d v->jb K (hide C H) d v
 |.Bb,_,_,h=>oE.mpr<|oE.mp h
 |.bl _,_,_,h=>cY.mpr<|cY.mp h
 |.int _,_,_,h=>bJ.mpr<|bJ.mp h
 |.str _,_,_,h=>dI.mpr<|dI.mp h
 |.fn _,_,_,h=>BB.mpr<|BB.mp h
 |.tup _,_,n,h=>by
  obtain⟨a,c,e,q,r⟩:=lQ.mp h;exact lQ.mpr ⟨a,c,e,b.out q<|λ_ _=>nofun,bI.off b n r⟩
 |.lst ds,_,n,h=>by
  unfold Rh at n;rw[Lm,n4]at n;obtain⟨a,c,e,q,r,t⟩:=xY.mp h;have x:∀z j,c≠.str z::j:=λz j e=>by
   rw[e]at r;rw[bJn r]at n;exact nomatch n.1
  refine xY.mpr ⟨a,c,e,?_,bI.off b n.2 r,λz=>by rw[z]at n;exact nomatch n.1⟩
  rcases q with (q|⟨o,q⟩)|q
  .exact .inl (.inl<|b.out q λz j e=>x z j<|by cases e;rfl)
  .exact .inl (.inr ⟨o,b.out q<|λ_ _=>nofun⟩)
  exact .inr q
 |.Hd _ _ _,_,n,h=>by
  obtain⟨a,c,e,q,r⟩:=oF.mp h;refine oF.mpr ⟨a,c,e,?_,bI.off b n r⟩;rcases q with ⟨k,l,g,f⟩|⟨k,l,g,f⟩
  .exact .inl ⟨k,l,b.out g<|λ_ _=>nofun,f⟩
  exact .inr ⟨k,l,b.out g<|λ_ _=>nofun,f⟩
 |.ins _ _ _,_,n,h=>by
  unfold Rh at n;obtain⟨a,p,m,fs,c,e,g,f,w,u,r⟩:=dt.mp h;exact dt.mpr ⟨a,p,m,fs,c,e,b.out g<|λ_ _=>nofun,f,w,u,bI.off b n r⟩
 |.Bi _ _ _,_,n,h=>by
  obtain⟨a,s,p,e,q,F,y,m,fs,c,i,r⟩:=UA.mp h;refine UA.mpr ⟨a,s,p,e,b.out q<|λ_ _=>nofun,F,y,m,fs,c,?_,bI.off b n r⟩
  rcases i with i|⟨i,E,B,A⟩
  .exact .inl i
  exact .inr ⟨i,E,b.out B<|λ_ _=>nofun,A⟩
theorem bI.off{K:Frag}{H:Hp}{C:db}(a:qv H C):∀{ds:im}{vs:nw},wZ ds=true->bI K H ds vs->bI K (hide C H) ds vs
 |[],_,_,h=>by rw[cU.mp h];exact .nil
 |d::ds,_,n,h=>by
  unfold wZ at n;rw[Lm]at n;obtain⟨v,r,rfl,q,t⟩:=bN.mp h;exact .cons (jb.off a n.1 q)<|bI.off a n.2 t
end
def bFu{K:Frag}{G:Hp} (n:iw d=true) (r:jb K G d v):(d=.Bb/\v=.Bb)\/∃s x T y c a,d=.tup [.str s,.lst x]/\v=.ref T/\G T=some (.tup [y,.ref c])/\G c=some (.lst a)/\bI K Sy x a/\∃z b,a=.str z::b:=by
 unfold iw at n;split at n
 .exact .inl ⟨rfl,oE.mp r⟩
 .rename_i s x;rw[Lm,n4]at n;obtain⟨T,k,rfl,j,g⟩:=lQ.mp r;obtain⟨y,m,rfl,_,i⟩:=bN.mp g;obtain⟨u,l,rfl,f,h⟩:=bN.mp i;cases cU.mp h;obtain⟨c,a,rfl,_,e,t⟩:=xY.mp f;refine .inr ⟨s,x,T,y,c,a,rfl,rfl,j,t n.1,AH n.2 e,?_⟩;cases x with
  |nil=>exact nomatch n.1
  |cons d x=>
   cases d<;>first|(cases n.1;done)|skip
   obtain⟨v,b,rfl,q,_⟩:=bN.mp e;exact⟨_,b,by rw[dI.mp q]⟩
 cases n
section
variable {pl p3 p4 p5 p6 p7 p8:Pos} {r fd:Str} {iF iN iK:Nat}
def U5(i:Nat) (c:X.N[i]?=some x:=by rfl) (a:Dg X.env.scope x:=by exact Vh rfl) (b:Yd x:=by decide) (d:Th x:=by decide):PE X (.Name x pos) (Ij i):=jR c a b d
end
def tZ(K:Frag)(B:db)(b:Bd):TS:=λc σ H=>∃A st d,RS K B A H st σ/\b st=.ok (.rt d)/\∀v a,jb K a d v->c.rt v a
section
variable {s3 s4:Stmt} {rest:List Stmt} {iF iN iK:Nat}
def nG(k:PS X sm (tS X.K B bd))(j:Pc X rest (tZ X.K B mj)):Pc X (sm::rest) (tZ X.K B<|bC bd mj):=lB (lG k j) (by
 rintro p σ H ⟨A,st,d,h,i,q⟩;obtain⟨c,m,a⟩:=R.ja i;refine⟨A,st,c,h,m,?_⟩;cases c with
 |nx s1=>exact λf n e l b=>⟨f,s1,d,b,a,q⟩
 |rt o=>cases a;exact λf v e _ g=>q v e<|g.mono<|bB _ _
 |bk s1=>cases a
 |ct s1=>cases a)
def bR2{o:li} (h:Vf o=some (.v d)):o=some (.v d)/\Rh d=true:=by
 unfold Vf at h;split at h
 .split at h
  .cases h;exact⟨rfl,by assumption⟩
  cases h
 .split at h<;>cases h
 cases h
def Z4{o:li}{k:OK} (h:Vf o=some (.o k xs)):o=some (.o k xs)/\wZ xs=true:=by
 unfold Vf at h;split at h
 .split at h<;>cases h
 .split at h
  .cases h;exact⟨rfl,by assumption⟩
  cases h
 cases h
end
def Xu(K:Frag)(c:Nat)(p:cr):Sp:=λb H Q _=>∃A ds d,Own A H/\bI K (hide A H) ds b/\ds.length=c/\p ds=.ok d/\∀v a,jb K a d v->Q v a
def bJo{K:Frag} {a:Addr} {E:XK} (d:Dc K H a (ns.map V.int)) (h:p [.lst<|ns.map D.int]=.ok (.bl true)):Xu K 1 p [.ref a] H (λv _=>v=.bl true) E:=
 ⟨[],[.lst _],.bl true,λb c=>absurd c (by simp),ą d,rfl,h,λv e r=>cY.mp r⟩
def bSm{K:Frag} {st:Stmt} {f:Addr} {k:Nat} (F:Ma K x qual st dV f fd) (S:Tb N ps (bK st)) (g n:Nat) (j:Bd) (C:ps.length=g) (t:N.length=n)
  (u:∀(e:Value)(A:Around)(a:v4)(s:Shared)(H:Hp)(E:XK)(B:db),gb k (A.deeper<|envOfC qual (bK st) s.heap.objs.size f e)->
   Pc (Kj bb P w K mg base N qual (bK st) f e A a s H E).Zj (dH st) (tZ K B j)):Aa P w K mg base bb (k+1) f fd ps (Xu K g<|C5 g n j):=by
 refine F.Vy S (λm H Q E h=>?_)<|λe A a s H m Q E o h=>?_
 .obtain⟨A,ds,d,b,r,i,_⟩:=h;rw[r.length,i,C]
 obtain⟨B,ds,d,b,r,i,p,q⟩:=h;refine⟨tZ K B j,u e A a s H E B o,?_⟩;obtain⟨_,v⟩:=aH p;obtain⟨y,z,c⟩:=R.ja v;have l:=Dv (N:=N) b r;rw[i,t]at l;cases y with
 |rt D=>cases c;exact⟨[],_,_,l,z,q⟩
 |nx s1=>exact nomatch c
 |bk s1=>exact nomatch c
 |ct s1=>exact nomatch c
def AF(K:Frag)(f:Ex):TE:=λτ H Q=>∃B,tD K B f τ H Q
def bFv{K:Frag} (Q b:VK) (m:∀v a,Q v a->b v a) (h:AF K f τ H Q):AF K f τ H b:=
 let ⟨B,A,st,d,c,e,q⟩:=h;⟨B,A,st,d,c,e,λv a s r=>m v a<|q v a s r⟩
def TX{Z:db} {p:Addr} (h:Own Z H) (c:H p=some (.lst vs)):Own (p::Z) H:=λa b=>by
 rcases Pb.mp b with rfl|b
 .rw[c];rfl
 exact h a b
theorem bO1 {K : Frag}  {is : List Nat} {t : Tg}     (hsub : Em is t)
     {st:xa} (F:RS K B A H st σ) (W:it st=.ok xs) (hl:xs.length<=big) (hy:jC t dG f (qf is st) xs=.ok ys) {Q:VK}
  (q:∀v c,bF H c->(∀Z,Own Z H->jb K (hide Z c) (.lst ys) v)->Q v c):ZQ is (Ti K B it) (YQ K t) QZ (AF K f) σ H Q:=by
 refine⟨A,st,xs,F,W,λJ H1 s1 Ky p hp=>⟨λi m τ k c=>m=xs.length-i/\i<=xs.length/\k.length<=i/\c p=some (.lst k)/\bF H1 c/\RS K _ A c (qf is st) τ/\
   ∃ds rest,(∀Z,Own Z H->bI K (hide (p::Z) c) ds k)/\jC t dG f _ (xs.drop i)=.ok rest/\ds++rest=ys,⟨xs.length,rfl,He _,He _,bG,cI hp,((F.mono s1).qf is).grow hp,[],ys,λ_ _=>.nil,by rwa [Nx],rfl⟩,?_⟩⟩
 rintro i m τ k c ⟨rfl,hi,BP,o,h,I,ds,rest,E,r,M⟩;refine⟨o,?_⟩;have G:∀a,a∈(p::A)++B↔a∈A++p::B:=λa=>by
  rw[mem_mid];exact Pb
 obtain⟨V,U⟩:=Ky _ c (λb u z=>by
  have C:=bB _ _ _ _ z;rw[bH<|(λw=>(Pb.mp w).elim (aP C hp)<|λw=>by rw[cP w]at z;cases z)]
  exact h b u C) (λa l=>I.own a<|(G a).mp l) i
 by_cases g:i<xs.length
 .obtain⟨go,O⟩:=V _<|md g;rw[Ln g]at r;obtain⟨N,L,h5⟩:=R.ja r;obtain⟨cb,ZN,h6⟩:=R.ja h5;cases ZN;obtain⟨D,s,h8⟩:=R.ja h6;obtain⟨gm,Ji,Y⟩:=R.ja h8;cases Y;refine .inr ⟨go,λx H2 y=>?_⟩
  obtain⟨d,T⟩:=O x H2 y;have o:=d _ _ o;have h:=h.trans d;obtain⟨P,S⟩:=hsub _ _ _ L;refine⟨p::B,A,qf is st,xs[i],N,(I.mono d),(T.mono<|fC λa l=>(G a).mpr l),L,λvm ck=>⟨p::B,A,N,D,ck,s,λv H4 s4 r4=>⟨s4 _ _ o,?_,xs.length-(i+1),by lia,rfl,g,by rw[ef,Yi];lia,bG,?_,?_,ds++[D],gm,?_,Ji,by rwa [Zk]⟩⟩⟩
  .have:sizeLine=16777216:=rfl;have X:=oH;lia
  .exact λb u z=>by rw[bA<|aP z hp];exact s4 _ _<|h b u z
  .exact((ck.mono s4).weaken (by rw[P])<|λj z ez=>by rwa [S j (Vv is st j z ez).2]).put
  intro Z n;rw[nY zb];exact((E Z n).mono<|bF.hide<|d.trans s4).append (.cons (r4 _<|TX ((n.mono s1).mono h) o) .nil)
 have e:i=xs.length:=by lia
 subst e;rw[aE]at r;cases r;rw[Hh]at M;subst M;refine .inl ⟨U<|Cb _,q _ c (s1.trans h) λZ n=>fJ.mpr ⟨p,k,rfl,by rwa [bH<|(λw=>(w.mono s1).free hp) n],(E Z n).mono<|fC λa l=>Ab _ l⟩⟩
section
variable {iter e1 e2:Expr} {t:Tg}
def bR3(h:∀B,PE X e<|tD X.K B f):PE X e (AF X.K f):=λa s σ H Q I ⟨B,q⟩=>h B a s σ H Q I q
def bO2(is:am)(hsub:Em is t)(S:Rb X scope is)(hi:L2.PI X tg iter (Ti X.K B it))(w:∀(B:db)(C:Addr)(c:Shared)(b:Hp)(a:db),PG (fG X scope C c b a) tg<|tG X.K B t)
  (he:∀(B:db)(C:Addr)(c:Shared)(b:Hp)(a:db),PE (fG X scope C c b a) elt<|tD X.K B f) (z:X.calm=true) (hs:∀x,foldedSetIterable iter X.env x=pure x:=by intro _;rfl) :
  PE X (.ListComp elt [⟨tg,iter,[],0⟩] scope pos) (tD X.K B<|cL is t it dG f):=by
 intro j s σ H Q I h;obtain⟨A,st,d,l,y,q⟩:=h;obtain⟨xs,u,G⟩:=R.ja y;obtain⟨v,F⟩:=aH G;obtain⟨ys,r,E⟩:=R.ja F;cases E;exact uO (rest:=λe it p=>eval elt e >>= λx=>call _ [p,x] >>= λ_=>again<|.compLoop _ 0 it p e) S z hi (λC c b a=>ju λB=>w B C c b a) (λ_ _ _=>qT)
  (λC c b a it p s Q h=>QC h) (λC c b a it p τ H s j k N Q I h q=>EC rfl (bR3 λB=>he B C c b a) τ H s j k N Q I h (λQ J m h=>bFv Q J m h) q) hs I
  (bO1 hsub l u v r q) λC p O P o T V a τ D L i K M n=>⟨o,M,λU g=>⟨.ref p,O,Uv L i D K g,rfl,n⟩⟩
def b5(w:PE X e1 (tD X.K B f))(t:PE X e2 (tD X.K B g))(a:starEach [e1,e2] X.env=(false,eval e1 X.env)::starEach [e2] X.env:=by rfl)(C:Cd e2 [] X.env:=by rfl) :
  PE X (.Tuple [e1,e2] n pos) (tD X.K B<|wI<|aB f<|aB g aK):=by
 refine cD (QJ<|cF w (cF t eV C) a) ?_
 rintro σ H Q ⟨A,st,d,c,k,q⟩;obtain⟨D,h,s⟩:=R.ja k;obtain⟨x,j,r⟩:=R.ja h;obtain⟨e,z,o⟩:=R.ja r;obtain⟨y,i,m⟩:=R.ja z;cases m;cases o;obtain⟨_,l⟩:=aH s;cases l;refine⟨A,st,x,c,j,λv E s1 r1=>⟨A,st,y,c.mono s1,i,λu H2 s2 r2=>⟨lim<|dO<|by simp,λp hp=>q _ _ (s1.trans<|s2.trans<|cI hp) λZ hZ=>?_⟩⟩⟩
 have b:bF _ (hide Z<|Ua H2 p<|.tup [v,u]):=bF.hide<|cI hp;refine lQ.mpr ⟨p,_,rfl,by rw[bH<|((hZ.mono s1).mono s2).free hp];exact bG,.cons ((r1 Z hZ).mono<|(bF.hide s2).trans b)<|.cons ((r2 Z<|hZ.mono s1).mono b) .nil⟩
end
def bR4(K:Frag)(i:Nat):TS:=RK<|GL K "list" og<|qo (Xy K) (qo (Xy K) (Ij i)<|L2.tC<|.int 0)<|L2.tC<|.int 1
def bR5(K:Frag)(i:Nat):TS:=RK<|GL K "list" og<|Ij i
section
variable {s4 s5:Stmt} {rest:List Stmt} {iP iK:Nat}
def bO3(Y:am)(he:PE X e (tD X.K B f))(h4:PS X s4 (bR4 X.K iP))(h5:PS X s5 (bR5 X.K iP))(hr:Pc X rest (tS X.K B bd))(hN:X.N.Nodup)(hi:X.N[iK]?=some x:=by rfl)(hx:Loc X.env.scope x:=by exact zj rfl)(hs:Uh e (some<|.Name x px) qk.line X.env:=by rfl)
  (hf:Sh X x:=by first|exact .inl rfl|exact .inr rfl|assumption) (Ze:decide (iP≠iK)=true:=by rfl):Pc X (.Assign [.Name x px] e qk::s4::s5::rest) (tZ X.K B<|bC (oC iP iK Y f) bd):=by
 have O:=gi Ze;refine lB (lG (iq hN hi hx he hs hf)<|lG h4<|lG h5 hr) ?_
 rintro Dn σ H ⟨A,st,dr,r,l,p⟩;obtain⟨fl,Yb,Kl⟩:=R.ja l;obtain⟨d,hd,w⟩:=R.ja Yb;split at w
 .rename_i s x ds N;obtain⟨hn,h3⟩:=aH w;cases h3;obtain⟨A',J,_⟩:=RS.fz Y r;obtain⟨a,o,us,hP,m,ha,ko,ru,un⟩:=r.lst iP _ _ N;subst ko;obtain⟨u0,ur,rfl,r0,_⟩:=bN.mp ru;rcases bFu hn r0 with ⟨z,_⟩|⟨_,_,T,y,c,ws,_,rfl,hT,C,_,z,w',rfl⟩
  .cases z
  have I:=bB (A++B) H;have G:c∉A++B:=λz=>by rw[cP z]at C;cases C
  have BE:c≠a:=λz=>G<|z ▸ Ke _ m
  have W:qv (hide (A++B) H) [c]:=λb l=>by rw[Fe.mp l];exact⟨z,w',C⟩
  refine⟨A',_,d,J,hd,λv H1 s1 rv=>?_⟩
  have ac:=s1 _ _<|I _ _ C;have aa:=s1 _ _ ha;have Zx:(σ.set iK<|some v)[iP]?=some (some<|.ref a):=by rwa [jd,Ea<|Qg O]
  refine⟨.ref a,Zx,.inl ⟨a,_,0,.ref T,rfl,rfl,Dc.of aa,L2.Jb rfl,.inr<|.inl ⟨T,_,1,.ref c,rfl,rfl,pf.of<|s1 _ _<|I _ _ hT,rfl,.inl ⟨rfl,_,Dc.of ac⟩,c,_,rfl,rfl,ac,?_⟩⟩⟩;have X0:Ua H1 c (.lst []) a=some (.lst<|.ref T::ur):=by rwa [bA<|Qg BE]
  refine⟨.ref a,Zx,.inl ⟨rfl,_,Dc.of X0⟩,a,_,rfl,rfl,X0,?_⟩;have F:∀b,b≠a->b≠c->Ua (Ua H1 c<|.lst []) a (.lst []) b=H1 b:=λb M w=>by rw[bA M,bA w]
  have Q:bF (hide [c]<|hide (A++B) H) (hide (A++B)<|Ua (Ua H1 c<|.lst []) a<|.lst []):=λb o z=>by
   have Q7:b∉[c]:=λy=>by rw[cP y]at z;cases z
   rw[bH Q7]at z;have E:b∉A++B:=λy=>by rw[cP y]at z;cases z
   rw[bH E]at z ⊢;rw[F b (λe=>E<|e ▸ Ke _ m)<|λe=>Q7<|by simp[e]]
   exact s1 _ _ z
  have t:∀i (x:Sl),(((st.map Vf).set iP<|some<|.o .l []).set iK<|some<|.v d)[i]?=some (some x)->i≠iK->i≠iP->∃o,st[i]?=some o/\Vf o=some x:=λi x e h w=>by
   rw[jd,Ea<|Qg h,jd,Ea<|Qg w,Nj]at e;cases U:st[i]? with
   |none=>rw[U]at e;cases e
   |some o=>rw[U]at e;exact⟨o,rfl,Te e⟩
  have B1:(((st.map Vf).set iP<|some<|.o .l []).set iK<|some<|.v d)[iP]?=some (some<|.o .l []):=by
   rw[jd,Ea<|Qg O,jd,Ka rfl,Ka (by
   rw[lc];exact(pe.mp N).1)]
  have same:∀i,i≠iK->(σ.set iK<|some v)[i]?=σ[i]?:=λi M=>by rw[jd,Ea<|Qg M]
  refine⟨A,_,_,⟨?_,?_,r.Wf,?_,?_⟩,Kl,λA' v H' _ rv=>p v H'<|rv.mono<|bB _ _⟩
  .rw[yg,yg,lc,r.len,yg]
  .intro b l
   by_cases e:b=a
   .rw[e,bG];rfl
   rw[F b e λe=>G<|e ▸ l]
   exact(r.own.mono s1) b l
  .intro i d' e
   by_cases u:i=iK
   .subst u;rw[jd,Ka rfl]at e;split at e
    .rename_i V;cases e;rw[yg,lc,r.len]at V;exact⟨v,by rw[jd,Ka rfl,Ka V],(rv _<|TX r.own<|I _ _ C).mono (λb o z=>by
   have l:b∉c::(A++B):=λy=>by rw[cP y]at z;cases z
   rw[bH l]at z;have E:=λy=>l<|Ab _ y
   rwa [bH E,F b (λe=>E<|e ▸ Ke _ m)<|λe=>l<|by simp[e]])⟩
    cases e
   by_cases g:i=iP
   .subst g;rw[B1]at e;cases e
   obtain⟨o,e1,e2⟩:=t i _ e u g;obtain⟨rfl,n⟩:=bR2 e2;obtain⟨v',Z,q⟩:=r.val i _ e1;exact⟨v',by rwa [same i u],(q.off W n).mono Q⟩
  intro i k xs e;have D:∀{i:Nat}{k:OK}{xs:im},(((st.map Vf).set iP<|some<|.o .l []).set iK<|some<|.v d)[i]?=some (some<|.o k xs)->i≠iK:=λ{i k xs} e z=>by
   subst z;rw[jd,Ka rfl]at e;split at e<;>cases e
  have one:∀{j:Nat}{k:OK}{ys:im},(((st.map Vf).set iP<|some<|.o .l []).set iK<|some<|.v d)[j]?=some (some<|.o k ys)->∃(L:OK)(i9:im),st[j]?=some (some<|.o L i9):=λ{j k ys} e=>by
   by_cases h:j=iP
   .rw[h];exact⟨_,_,N⟩
   obtain⟨o,e1,e2⟩:=t j _ e (D e) h;obtain⟨rfl,_⟩:=Z4 e2;exact⟨_,_,e1⟩
  by_cases g:i=iP
  .subst g;rw[B1]at e;cases e;refine⟨a,.lst [],[],by rwa [same i O],m,bG,rfl,.nil,λj L ys e' h'=>?_⟩
   obtain⟨K,P,e2⟩:=one e';exact un j K P e2 (by rwa [<-same j (D e')])
  obtain⟨o,e1,e2⟩:=t i _ e (D e) g;obtain⟨rfl,n⟩:=Z4 e2;obtain⟨b,o',vs,q1,S,q3,q4,q5,q6⟩:=r.lst i _ _ e1;refine⟨b,o',vs,by rwa [same i<|D e],S,by rw[F b (λz=>g<|un i _ _ e1<|by rw[q1,z]) λz=>G<|z ▸ Ke _ S];exact s1 _ _ q3,q4,(q5.off W n).mono Q,λj L ys e' h'=>?_⟩
  obtain⟨K,P,Z⟩:=one e';exact q6 j K P Z (by rwa [<-same j (D e')])
 cases w
end
open Builtin
section
variable {A:Around}
def bFw{R:bv}{Q:Fin->u8}(d:A.handled=none)(r:∀(a:Heap)(e:Addr),(∀b o,s.heap.get? b=some o->a.get? b=some o)->(∃o,a.get? e=some o/\o.cls=.type "StopIteration")->R (.ref e) {s with heap:=a}) :
  wpAny (model prog w) A (newExc (.type "StopIteration") [] >>= λe=>raiseNew e) Q R s:=by
 refine Oa<|Oa<|KD (Oa<|wpAny_of_eq (by first|rfl|(rfl))<|KD (Oa<|wpAny_handled ?_)<|by size_fits)<|by size_fits
 rw[d];exact Oa<|vc<|wpAny_throw<|r _ _ (λb o c=>Lc _<|Lc _ c) ⟨_,Ve _ rfl,rfl⟩
section
variable{it t:Addr} {Q:bv}
def bFx{x:Value}(hi:s.heap.IsTupleIter it t i)(f:s.heap.IsTuple t items)(e:items[i]?=some x)
  (h:∀c:Heap,c.IsTupleIter it t (i+1)->Heap.SameBut it s.heap c->Q x {s with heap:=c}):wpAny (model prog w) A (Builtin.SmallTypes.nextOf<|Value.ref it) Q E s:=by
 have d:=hi.typeIs;refine Oa<|eD d WC<|MD WC d X5 ?_<|V5 _;obtain⟨o,b,g,a⟩:=hi;obtain⟨l,j,_,n,k⟩:=f;show wpAny _ _ (field _ 0 >>= _) _ _ _;refine Oa<|jl b a rfl<|Oa<|jl b a rfl<|Oa<|Jm j k ?_;show wpAny _ _ (match items[(i:Int).toNat]? with|some x=>_|none=>_) _ _ _
 rw[Du,e];refine Oa<|wpAny_setField b a (by simp)<|vc ⟨x,rfl,vc<|h _ ⟨_,AD _ b<|Obj.isFreed_of_fields<|Obj.data_mapFields a _,?_,?_⟩<|Heap.SameBut.update ..⟩
 .unfold Obj.mapFields;split<;>exact g
 rw[Obj.data_mapFields a];rfl
def V0(j:A.handled=none)(hi:s.heap.IsTupleIter it t i)(h:s.heap.IsTuple t items)(g:items[i]?=none)
  (m:∀a e,Heap.ExtBut it s.heap a->(∃o,a.get? e=some o/\o.cls=.type "StopIteration")->E (.ref e) {s with heap:=a}):wpAny (model prog w) A (Builtin.SmallTypes.nextOf<|.ref it) Q E s:=by
 have f:=hi.typeIs;refine Oa<|eD f WC<|MD WC f X5 ?_<|V5 _;obtain⟨o,c,v,d⟩:=hi;obtain⟨u,p,_,n,r⟩:=h;show wpAny _ _ (field _ 0 >>= _) _ _ _;refine Oa<|jl c d rfl<|Oa<|jl c d rfl<|Oa<|Jm p r ?_;show wpAny _ _ (match items[(i:Int).toNat]? with|some x=>_|none=>_) _ _ _
 rw[Du,g];exact Oa<|Bk<|Oa<|wpAny_setField c d (by simp)<|bFw j λa e k x=>m a e (λb o l q=>k b o (by
  rwa [(Heap.SameBut.update ..).2 b l])) x
end
def Ŧ(n:A.handled=none)(b t:Addr)(m:t≠b)(a:xL):Draws prog w A b [b,t] a.size (λi v=>a[i]?=some v) λi h=>h.IsTupleIter b t i/\h.IsTuple t a where
 live:=λi h ⟨⟨o,e,_⟩,_⟩=>⟨o,e⟩
 frame:=λi h l ⟨⟨o,e,r,p⟩,⟨u,d,q⟩⟩ k=>⟨⟨o,k b (by simp) o e,r,p⟩,⟨u,k t (by simp) u d,q⟩⟩
 item:=λi s Q E j ⟨f,c⟩ q=>bFx f c (C6 j) λl y g=>q _ l s.toks (C6 j) ⟨y,by
  obtain⟨u,d,z⟩:=c;exact⟨u,(g.2 t m).trans d,z⟩⟩ g
 done:=λs Q E ⟨f,c⟩ x=>V0 n f c (by simp) x
end
theorem W0:∀(z ds:im),LL z ds=ix z ds
 |[],ds=>rfl
 |c::z,[]=>rfl
 |c::z,d::ds=>congrArg _<|W0 z ds
section
def bO4(j:im):TL X B (.tup j) j:=by
 intro P s σ H A v u I r J;obtain⟨a,F,rfl,D,f⟩:=lQ.mp r;subst J;obtain⟨x,m,C,K⟩:=I.tuple<|pf.of<|bB _ _ _ _ D;have l:a<s.heap.objs.size:=by
  obtain⟨o,e,_⟩:=C;exact Uc e
 refine⟨{cls:=.type "tuple_iterator",data:=.fields #[.ref a,.int 0 0]},[s.heap.objs.size,a],λi h=>h.IsTupleIter s.heap.objs.size a i,λH L=>pf X.K H a L,F,λt w A E Q q=>wpAny_pyIter_tuple C q,rfl,λb hb=>?_,⟨λi h ⟨o,q,c,d⟩=>⟨o,q,λv z=>by rw[d]at z;cases z⟩,λi h T ⟨o,q,r⟩ k=>⟨o,k o q,r⟩,λY hP hw hK hh i P G σ H ys I hq st=>?_⟩,λh q=>⟨_,q,rfl,rfl⟩,f,λV U le=>pf.of<|bB _ _ _ _<|Le.app le _ _ D⟩
 .simp at hb;rcases hb with rfl|rfl
  .exact Cb _
  exact Pj l
 rw[<-hK]at hq;obtain⟨S,n,p,_⟩:=I.tuple hq;have M:=n.length;rw[<-hP,<-hw,M,<-hK];refine⟨_,_,Ŧ (A:=Y.A.in1) hh s.heap.objs.size a (Bf l) S.toArray,⟨st,p⟩,λ_ _ h=>h.1,λy v h1 h2=>?_,λN G Q E st O=>V0 hh st.1 st.2 (by simpa using N) O,λ_ h=>I.yf h hq⟩
 obtain⟨c,g,R⟩:=n.get h1;rw[LD,g]at h2;cases h2;exact R
def bJp{x1}{p:Pos}(h:X.mg "zip"=none)(k:PE X a (tI X.K B f))(j:PE X b (tI X.K B g))(i:Gl X "zip":=by rfl)(hs:starEach [a,b] X.env=(false,eval a X.env)::starEach [b] X.env:=by rfl)(m:starEach [b] X.env=[(false,eval b X.env)]:=by rfl):L2.PI X (.Tuple Kh x1 tp) (.Call (.Name "zip" p) [a,b] [] pos) (Ti X.K B<|nB f g):=by
 refine D0 (λst ds hd=>?_) h k j i hs m
 obtain⟨x,e,l⟩:=R.ja hd;obtain⟨y,d,c⟩:=R.ja l;split at c
 rotate_left
 .cases c
 cases c;exact⟨_,_,_,e,d,bO4 _,W0 _ _⟩
def ua(c:X.N[i]?=some x:=by rfl)(a:Dg X.env.scope x:=by exact Vh rfl)(b:Yd x:=by decide)
  (d:Th x:=by decide):PE X (.Name x pos) (tP X.K B<|aA i):=ya<|aF c a b d
def Sa{i:Int}:PE X (.Constant (.int i) j pos) (tP X.K B<|eC<|.int i):=ya cV
def qc{P:sB}{a:Scope}(h:N.Nodup/\N.take P.length=P/\(∀x∈P,a.names.lookup x=some .local\/a.names.lookup x=some .cell)/\∀y∈a.names,y.2≠.free:=by decide+kernel)(k:a.kind=.function:=by rfl)(c:a.isCoroutine=false:=by rfl)(b:a.isGenerator=false:=by rfl):Tb N P a:=⟨k,c,b,h.1,h.2.1,h.2.2.1,h.2.2.2⟩
def cC{k:Nat} {r:yd} (h:Ba X.prog X.w X.K X.mg X.base x k np p) (d:PA X (e::es) (tA X.K B r)) (a:gb j X.A:=by assumption) (b:k<=j:=by decide) (c:Gl X x:=by rfl) (f:Yd x:=by decide)
  (he:Cd e es X.env:=by rfl) (je:Lg pos es X.env:=by rfl):PE X (.Call (.Name x p0) (e::es) [] pos) (tI X.K B<|aM p r):=lC h a b d c f he je
end
end Pu
set_option maxHeartbeats 4000000
namespace Pu
open PySem PySem.Spec PyProof.Rows L2
def top(i:Nat):Stmt:=PySem.Challenge.pw_looprank_k33_whole_lowest_ranks.main.body.getD i<|.Pass ⟨0,0,0,0⟩
def Ph(s:Stmt)(j:Nat):Stmt:=match s with
 |.ClassDef _ _ _ b _ _ _ _ _ _ _=>b.getD j<|.Pass ⟨0,0,0,0⟩
 |_=>.Pass ⟨0,0,0,0⟩
abbrev TF:Stmt:=top 54
abbrev IG:Stmt:=top 55
abbrev vH:Stmt:=top 56
abbrev JG:Stmt:=top 26
abbrev KG:Stmt:=top 27
abbrev CH:Stmt:=top 25
abbrev zE:Stmt:=top 29
abbrev zF:Stmt:=top 31
abbrev wQ:Stmt:=top 32
abbrev zG:Stmt:=top 33
abbrev VF:Stmt:=top 28
abbrev XF:Stmt:=top 30
abbrev wR:Stmt:=top 42
abbrev LG:Stmt:=top 35
abbrev DH:Stmt:=top 36
abbrev wU:Stmt:=top 40
abbrev wV:Stmt:=top 41
abbrev wW:Stmt:=top 46
abbrev YF:Stmt:=top 22
abbrev sX:Stmt:=top 23
abbrev EH:Stmt:=top 34
abbrev oI:Stmt:=top 37
abbrev dY:Stmt:=Ph (top 20) 3
abbrev MG:Stmt:=top 38
abbrev FH:Stmt:=top 47
abbrev vI:Stmt:=top 48
abbrev LJ:Stmt:=top 49
abbrev wX:Stmt:=top 50
abbrev zH:Stmt:=top 43
abbrev vJ:Stmt:=top 44
abbrev zJ:Stmt:=top 45
abbrev vK:Stmt:=top 51
abbrev zK:Stmt:=top 58
abbrev ZF:Stmt:=top 62
abbrev vL:Stmt:=top 59
abbrev zL:Stmt:=top 60
abbrev kG:Stmt:=top 63
abbrev AG:Stmt:=top 65
abbrev NG:Stmt:=top 61
abbrev vM:Stmt:=top 64
abbrev zM:Stmt:=top 57
abbrev pW:Stmt:=top 71
abbrev zN:Stmt:=top 67
abbrev OG:Stmt:=top 66
abbrev qW:Stmt:=top 68
abbrev oO:Stmt:=top 70
abbrev qX:Stmt:=top 16
abbrev QG:Stmt:=top 14
abbrev RG:Stmt:=top 15
abbrev xI:Stmt:=top 17
abbrev BG:Stmt:=top 18
abbrev CG:Stmt:=top 19
abbrev fM:Stmt:=Ph (top 20) 0
abbrev GH:Stmt:=top 52
abbrev DG:Stmt:=top 69
abbrev HH:Stmt:=top 9
abbrev zO:Stmt:=top 10
abbrev lU:Stmt:=Ph (top 20) 1
abbrev jL:Stmt:=Ph (top 20) 6
abbrev jM:Stmt:=Ph (top 20) 7
abbrev xn:Stmt:=top 72
abbrev uc(N:sB)(k:Nat)(st:Stmt):Prop:=Tb N (N.take k)<|bK st
theorem fO{K:Frag} {st:Stmt} {f:Addr} {k:Nat} (F:Ma K x qual st dV f fd) (S:Tb N ps (bK st))
  (d:∀{b:Value}{A:Around}{a:v4}{s:Shared}{H:Hp}{E:XK}{B:db},gb k (A.deeper<|envOfC qual (bK st) s.heap.objs.size f b)->N.Nodup->
   Pc (Kj bb P w K mg base N qual (bK st) f b A a s H E).Zj (dH st) (tS K B bd)) (e:ps.length=np:=by rfl) (c:N.length=n:=by rfl):Aa P w K mg base bb (k+1) f fd ps (Qb K np<|cM np n bd):=rL F S np n bd e c λ_ _ _ _ _ _ _ h=>d h S.nd
theorem Ϝ:uc ["_law_script","_law_k"] 2 TF:=qc
theorem Î:uc ["_law_cell_here","_law_k","_law_many","_law_number"] 3 IG:=qc
theorem P_:uc ["_law_script","_law_at","_law_most","_law_cell_here","_law_rooms","_law_letters","_law_factor","_law_steps","_law_ranks","_law_room","_law_one","_law_row","_law_rank","_law_k"] 3 vH:=qc
theorem Ï:uc ["bits","room"] 2 JG:=qc
theorem Ð:uc ["bits","room"] 1 KG:=qc
theorem Ď:uc ["rooms","bits","room"] 1 CH:=qc
theorem Λ:uc ["steps","allowed","rooms","seen","room","middle"] 2 zE:=qc
theorem Μ:uc ["steps","part","rooms"] 2 zF:=qc
theorem V':uc ["steps","allowed","seen","parts","room","part","other"] 2 wQ:=qc
theorem Ν:uc ["machine","allowed"] 2 zG:=qc
theorem ϝ:uc ["machine"] 1 VF:=qc
theorem Ϟ:uc ["machine","room"] 2 XF:=qc
theorem Z':uc ["machine"] 1 wR:=qc
theorem Ñ:uc ["machine","bits","room"] 2 LG:=qc
theorem ď:uc ["machine","bits"] 2 DH:=qc
theorem θ:uc ["machine","loop","rank","room"] 2 wU:=qc
theorem ι:uc ["machine","loop","found","left","rest","part"] 2 wV:=qc
theorem ZR:uc ["machine","loop","good","longest","inner","row"] 3 wW:=qc
theorem ϟ:uc ["steps","start","allowed","ways","met","place","here","letter","room"] 3 YF:=qc
theorem yF:uc ["machine","ways"] 1 sX:=qc
theorem Đ:uc ["machine","bits"] 2 EH:=qc
theorem ŧ:uc ["machine","allowed","room","goal"] 4 oI:=qc
theorem pX:uc ["self","room","text","rooms","letter"] 3 dY:=qc
theorem Ò:uc ["machine","bits","room","text","here","goal"] 3 MG:=qc
theorem đ:uc ["machine","row","entries","room","front","entry","loop"] 2 FH:=qc
theorem Q_:uc ["machine","good","longest","loop","row"] 2 vI:=qc
theorem bFy:uc ["machine"] 1 LJ:=qc
theorem μ:uc ["nest"] 1 wX:=qc
theorem Ξ:uc ["base","good"] 2 zH:=qc
theorem zY:uc ["machine","loop","base","ranks","rank","inner","room","below"] 3 vJ:=qc
theorem oS:uc ["machine","base","ranks","loop","room"] 2 zJ:=qc
theorem zZ:uc ["machine","told","good","bad"] 1 vK:=qc
theorem Ο:uc ["_law_steps","_law_bits","_law_room","_law_found","_law_at","_law_goal"] 3 zK:=qc
theorem Ϡ:uc ["_law_steps","_law_room"] 1 ZF:=qc
theorem R_:uc ["_law_steps","_law_bits","_law_rooms","_law_room"] 2 vL:=qc
theorem Ρ:uc ["_law_steps","_law_bits"] 1 zL:=qc
theorem ϡ:uc ["_law_steps","_law_seen_here","_law_bits"] 1 kG:=qc
theorem Ϣ:uc ["_law_bits","_law_k"] 1 AG:=qc
theorem Ó:uc ["_law_ranks","_law_bits","_law_room"] 2 NG:=qc
theorem S_:uc ["_law_loops_here","_law_ranks","_law_odd","_law_longest_here","_law_bits","_law_mine","_law_best","_law_other"] 3 vM:=qc
theorem Τ:uc ["_law_found"] 1 zM:=qc
theorem x_:uc ["_law_steps","_law_ranks","_law_loops_here","_law_found","_law_goods","_law_bads","_law_base","_law_bits","_law_room","_law_turning","_law_one"] 6 pW:=qc
theorem Υ:uc ["_law_found","_law_letters","_law_word_here","_law_letter"] 2 zN:=qc
theorem Ô:uc ["_law_steps","_law_room","_law_word_here","_law_rooms","_law_letter"] 3 OG:=qc
theorem C_:uc ["_law_steps","_law_ranks","_law_nest","_law_odd","_law_letters","_law_room","_law_inner","_law_word_here","_law_rooms","_law_letter","_law_one"] 4 qW:=qc
theorem t_:uc ["_law_steps","_law_ranks","_law_papers","_law_many"] 4 oO:=qc
theorem D_:uc ["thing","most"] 2 qX:=qc
theorem Õ:uc ["thing"] 1 QG:=qc
theorem Ö:uc ["thing","limit"] 2 RG:=qc
theorem Ũ:uc ["thing","letters","rooms","room"] 3 xI:=qc
theorem ϣ:uc ["thing","row"] 1 BG:=qc
theorem Ϥ:uc ["thing","rooms","rank"] 2 CG:=qc
theorem tL:uc ["self","steps","ranks","row"] 3 fM:=qc
theorem Ē:uc ["machine"] 1 GH:=qc
theorem ϥ:uc ["_law_cell_here","_law_letters","_law_least","_law_most","_law_size_here","_law_k"] 4 DG:=qc
theorem ē:uc ["thing","many"] 2 HH:=qc
theorem Φ:uc ["thing","many"] 2 zO:=qc
theorem n_:uc ["self","thing"] 2 lU:=qc
theorem T_:uc ["self","word","room","rooms","begun","ahead"] 3 jL:=qc
theorem U_:uc ["self","word","room","ring","place"] 3 jM:=qc
theorem t4:uc ["_law_script","_law_machine_here","_law_loops_here","_law_goods","_law_bads","_law_seen_here","_law_many","_law_low","_law_cell_here","_law_kept","_law_steps","_law_ranks","_law_found","_law_papers","_law_again","_law_rest","_law_word_here","_law_row","_law_nest","_law_room","_law_front","_law_rounds"] 1 xn:=qc
section
variable{P:Program}{w:World}{K:Frag}{mg:kt}{base:Heap}{fa:Addr}{fd:FuncData}{dV:Value}
variable(bL:mg "len"=none)
def Ø(F:Ma K "_law_cell" "_law_cell" TF dV fa fd):Aa P w K mg base bb 1 fa fd ["_law_script","_law_k"] (Qb K 2 jO):=fO F Ϝ λb a=>(aN (iI (bM Cw Yv ua<|ya<|dN bL ua) (aW<|bQ<|cN ua ua) eF)<|aN (iI (bM cZ dB ua<|ya<|mY aJ) (aW<|bQ<|yZ Sa ua) eF)<|aW<|bQ<|jQ (ya<|GB (ya<|cN ua<|ya<|pD ua<|ya<|dN bL ua)<|ya<|jQ ua Sa)<|ya<|yZ Sa ua)
theorem Ĕ(F:Ma K "_law_mix" "_law_mix" IG dV fa fd):Aa P w K mg base bb 1 fa fd ["_law_cell_here","_law_k","_law_many"] (Qb K 3 cH):=fO F Î λb a=>(aN (cJ<|pD (ya<|yZ (ya<|jQ (ya<|pD ua Sa)<|ya<|yZ Sa ua) Sa) Sa)<|aN (cJ<|pD (ya<|yZ (ya<|pD (ya<|yZ ua ua) Sa) Sa) Sa)<|aW<|bQ<|pD (ya<|pD (ya<|yZ ua ua) Sa) ua)
variable(pF:Ba P w K mg base "_law_cell" 1 2 jO)(Wa:Ba P w K mg base "_law_mix" 1 3 cH)(Ra:mg "range"=none)
def ν(F:Ma K "_law_machine" "_law_machine" vH dV fa fd):Aa P w K mg base bb 2 fa fd ["_law_script","_law_at","_law_most"] (Qb K 3 lJ):=fO F P_ λb a=>(aN (cJ<|cC pF<|aC aF<|aC aF aJ)<|aN (cJ<|jQ Sa<|ya<|cC Wa<|aC aF<|aC cV<|aC (cN (ya<|mY<|aC cV<|aC cV<|aC cV<|aC aF aJ)<|ya<|cC Wa<|aC aF<|aC cV<|aC cV aJ) aJ)<|aN (cJ<|jQ Sa<|ya<|cC Wa<|aC aF<|aC cV<|aC cV aJ)<|aN (cJ<|cN (ya<|mY<|aC cV<|aC cV<|aC cV<|aC (jQ Sa<|ya<|yZ Sa<|ya<|pD (ya<|cC pF<|aC aF<|aC (jQ ua Sa) aJ)<|ya<|bQ4 Sa Sa) aJ)<|ya<|cC Wa<|aC aF<|aC cV<|aC cV aJ)<|aN (wM<|zW aJ)<|aN (wM<|zW aJ)<|aN (lR (zX Ra ua) bW<|aN (by exact cJ<|cC pF<|aC aF<|aC (jQ (ya<|jQ ua Sa) ua) aJ)<|by exact aN (by exact G0 11 [13] eu (.of rfl) (zX Ra ua) (λ_ _ _ _ _=>bW) (λ_ _ _ _ _=>cC Wa<|aC aF<|aC (jQ Sa ua)<|aC aF aJ) rfl a)<|by exact aN (by exact cJ<|cC Wa<|aC aF<|aC cV<|aC cV aJ)<|by exact aN (by exact iI (bM cZ dB (ya<|cC Wa<|aC aF<|aC cV<|aC cV aJ) Sa) (aN (by exact G0 11 [13] eu (.of rfl) (zX Ra ua) (λ_ _ _ _ _=>bW) (λ_ _ _ _ _=>pD (ya<|GB ua<|ya<|cN (ya<|mY<|aC cV<|aC cV<|aC cV aJ) ua) ua) rfl a)<|by exact aW<|cJ<|pD (ya<|GB ua Sa) Sa)<|aW<|iI (PW.pt<|bu (bM cZ dB (ya<|cC Wa<|aC aF<|aC cV<|aC cV aJ) Sa)<|Jt<|bM Vm Jo (ya<|cC Wa<|aC aF<|aC cV<|aC cV aJ) Sa) (aW<|bQh 11 (ya<|cC Wa<|aC aF<|aC cV<|aC aF aJ)<|pD (ya<|jQ ua Sa) ua) eF)<|by exact aN (by exact Jn [11]<|vn 7 aF)<|by exact aW<|vn 8<|yZ ua ua)<|aW<|Jn [7,8]<|bQ<|du<|aC aF<|aC aF aJ)
theorem ĕ(F:Ma K "has_room" "has_room" JG dV fa fd):Aa P w K mg base bb 1 fa fd ["bits","room"] (Qb K 2 iU):=fO F Ï λb a=>(aW<|bQ<|fD cZ dB (ya<|yX (ya<|Wo ua ua) Sa) Sa)
variable(cW:Ba P w K mg base "has_room" 1 2 iU)
def Ė(F:Ma K "rooms_of" "rooms_of" KG dV fa fd):Aa P w K mg base bb 2 fa fd ["bits"] (Qb K 1 cQ):=fO F Ð λb a=>(aW<|bQ<|iQ (zX Ra<|ya<|bNc ua) (λ_ _ _ _ _=>bW) (λ_ _ _ _ _=>eN<|cC cW<|aC aF<|aC aF aJ)<|λ_ _ _ _ _=>aF)
theorem ũ(F:Ma K "bits_of" "bits_of" CH dV fa fd):Aa P w K mg base bb 1 fa fd ["rooms"] (Qb K 1 mC):=fO F Ď λb a=>(aN (cJ cV)<|aN (lR (jD aF) bW<|aW<|cJ<|Nw ua<|ya<|Mw Sa ua)<|aW<|bQ aF)
variable(bY:Ba P w K mg base "rooms_of" 2 1 cQ)(Vb:Ba P w K mg base "bits_of" 1 1 mC)
def Ϧ(F:Ma K "seen_among" "seen_among" zE dV fa fd):Aa P w K mg base bb 3 fa fd ["steps","allowed"] (Qb K 2 mF):=fO F Λ λa b=>(aN (cJ<|cC bY<|aC aF aJ)<|aN Wv<|aN (lR (jD aF) bW<|aW<|ww a.units 3 aF<|yX (ya<|Nw (ya<|cC Vb<|aC (cN ua ua) aJ)<|ya<|Mw Sa ua) ua)<|aN (lR (jD aF) bW<|aW<|lR (jD aF) bW<|aW<|iI (eN<|cC cW<|aC (cN eQ ua)<|aC aF aJ) (aW<|ww a.units 3 aF<|Nw (ya<|cN eQ ua)<|ya<|cN eQ ua) eF)<|aW<|Jn [3]<|bQ aF)
def ϧ(F:Ma K "goes_round" "goes_round" zF dV fa fd):Aa P w K mg base bb 3 fa fd ["steps","part"] (Qb K 2 tR):=fO F Μ λb a=>(aN (cJ<|cC bY<|aC aF aJ)<|aW<|bQ<|J5 (fD Vm Jo (ya<|dN bL ua) Sa)<|P4<|fD GK HK (ya<|cN ua Sa)<|ya<|cN ua<|ya<|cN ua Sa)
variable(jY:Ba P w K mg base "seen_among" 3 2 mF)(Qd:Ba P w K mg base "goes_round" 3 2 tR)
def Χ(F:Ma K "parts_among" "parts_among" wQ dV fa fd):Aa P w K mg base bb 4 fa fd ["steps","allowed"] (Qb K 2 qY):=fO F V' λb a=>(aN (cJ<|cC jY<|aC aF<|aC aF aJ)<|aN (wM<|zW aJ)<|aN (lR (jD<|cC bY<|aC aF aJ) bW<|aN (by exact cJ<|cC Vb<|aC (iQ (jD<|cC bY<|aC (cN ua ua) aJ) (λ_ _ _ _ _=>bW) (λ_ _ _ _ _=>eN<|cC cW<|aC (cN ua ua)<|aC aF aJ)<|λ_ _ _ _ _=>aF) aJ)<|by exact aW<|iI (PW.pt<|bu (bM mU mV ua eQ)<|Jt<|eN<|cC Qd<|aC aF<|aC aF aJ) (aW<|vn 3 aF) eF)<|aW<|Jn [3]<|bQ aF)
variable(rJ:Ba P w K mg base "parts_among" 4 2 qY)
variable{Na:Addr}(ma:ClsAt K "Machine" Na)
variable(aR:mZ K Na (ofString "steps"))
def Ϩ(F:Ma K "loop_parts" "loop_parts" zG dV fa fd):Aa P w K mg base bb 5 fa fd ["machine","allowed"] (Qb K 2 mG):=fO F Ν λb a=>(aW<|bQ<|cC rJ<|aC (pR ma aR ua)<|aC aF aJ)
variable(bZ:mZ K Na (ofString "many"))(xb:mg "list"=none)
def Ù(F:Ma K "all_rooms" "all_rooms" VF dV fa fd):Aa P w K mg base bb 2 fa fd ["machine"] (Qb K 1 rQ):=fO F ϝ λb a=>(aW<|bQ<|cC Vb<|aC (OX xb Ra rfl<|ya<|pR ma bZ ua) aJ)
variable(wF:Ba P w K mg base "all_rooms" 2 1 rQ)
def Ú(F:Ma K "seen_from" "seen_from" XF dV fa fd):Aa P w K mg base bb 4 fa fd ["machine","room"] (Qb K 2 vW):=fO F Ϟ λb a=>(aW<|bQ<|cN (ya<|cC jY<|aC (pR ma aR ua)<|aC (cC wF<|aC aF aJ) aJ) ua)
variable(fU:Ba P w K mg base "loop_parts" 5 2 mG)(ye:Ba P w K mg base "seen_from" 4 2 vW)
def Ψ(F:Ma K "outer_loops" "outer_loops" wR dV fa fd):Aa P w K mg base bb 6 fa fd ["machine"] (Qb K 1 nQ):=fO F Z' λb a=>(aW<|bQ<|cC fU<|aC aF<|aC (cC ye<|aC aF<|aC cV aJ) aJ)
variable(bR:mZ K Na (ofString "ranks"))(Xb:mg "max"=none)
def ė(F:Ma K "top_rank" "top_rank" LG dV fa fd):Aa P w K mg base bb 3 fa fd ["machine","bits"] (Qb K 2 uW):=fO F Ñ λb a=>(aN (iI (bM cZ dB ua Sa) (aW yW) eF)<|aW<|bQ<|Kw Xb rfl<|ya<|qU (jD<|cC bY<|aC aF aJ) (λ_ _ _ _ _=>bW)<|λ_ _ _ _ _=>cN (ya<|pR ma bR ua) ua)
variable(oR:Ba P w K mg base "top_rank" 3 2 uW)
def Ū(F:Ma K "is_good" "is_good" DH dV fa fd):Aa P w K mg base bb 4 fa fd ["machine","bits"] (Qb K 2 kO):=fO F ď λb a=>(aW<|bQ<|fD cZ dB (ya<|pD (ya<|cC oR<|aC aF<|aC aF aJ) Sa) Sa)
def Ω(F:Ma K "without_top" "without_top" wU dV fa fd):Aa P w K mg base bb 4 fa fd ["machine","loop"] (Qb K 2 qZ):=fO F θ λb a=>(aN (cJ<|cC oR<|aC aF<|aC aF aJ)<|aW<|bQ<|cC Vb<|aC (iQ (jD<|cC bY<|aC aF aJ) (λ_ _ _ _ _=>bW) (λ_ _ _ _ _=>bM gF gG (ya<|cN (ya<|pR ma bR ua) ua) ua)<|λ_ _ _ _ _=>aF) aJ)
variable(rK:Ba P w K mg base "without_top" 4 2 qZ)(fc:Ba P w K mg base "is_good" 4 2 kO)
def ϊ(F:Ma K "inner_loops" "inner_loops" wV dV fa fd):Aa P w K mg base bb 6 fa fd ["machine","loop"] (Qb K 2 iV):=fO F ι λb a=>(aN (wM<|zW aJ)<|aN (wM<|zW<|aC aF aJ)<|aN (XA (bM gF gG eQ<|ya<|mY aJ)<|aN (by exact bNg 4 3 rK b (by decide) aF a)<|by exact aW<|lR (jD<|cC fU<|aC aF<|aC aF aJ) bW<|aW<|iI (bM cZ dB (ya<|cC fc<|aC aF<|aC aF aJ)<|ya<|cC fc<|aC aF<|aC aF aJ) (aW<|vn 3 aF)<|aW<|vn 2 aF)<|aW<|Jn [2]<|bQ aF)
variable(jA:Ba P w K mg base "inner_loops" 6 2 iV)
def ϋ{b:cr}{n:Nat}(c:Ba P w K mg base "longest_row" (7+n) 3 b)(F:Ma K "longest_row" "longest_row" wW dV fa fd):Aa P w K mg base bb (7+n+1) fa fd ["machine","loop","good"] (Qb K 3<|cM 3 6<|cS b):=fO F ZR λa d=>(aN (cJ<|DC (bM cZ dB (ya<|lC fc a (by omega)<|aC aF<|aC aF aJ) ua) (mY<|aC aF aJ)<|mY aJ)<|aN (lR (jD<|lC jA a (by omega)<|aC aF<|aC aF aJ) bW<|aN (by exact cJ<|lC c a (by omega)<|aC aF<|aC aF<|aC aF aJ)<|by exact aW<|iI (bM RB HB (ya<|dN bL ua)<|ya<|dN bL ua) (aW<|cJ<|jQ ua<|ya<|mY<|aC aF aJ) eF)<|aW<|bQ aF)
variable(Aw:mg "zip"=none)
variable{xf:Tok}(Ub:mg "LETTERS"=some (.str "abc" xf))
def Û(F:Ma K "ways_from" "ways_from" YF dV fa fd):Aa P w K mg base bb 1 fa fd ["steps","start","allowed"] (Qb K 3 lK):=fO F ϟ λb a=>(aN (bJ5 3 aF (rn []) a)<|aN (wM<|zW<|aC aF aJ)<|aN (cJ cV)<|aN (XA (bM Cw Yv ua<|ya<|dN bL eQ)<|aN (by exact cJ<|cN eQ ua)<|by exact aN (by exact lR (bNa Aw (DB [97,98,99] Ub)<|cN ua ua) (Iw rfl<|rE<|rE tw)<|aW<|iI (PW.pt<|bu (bM GK HK ua ua)<|Jt<|bM mU mV ua eQ) (aN (by exact ww b.units 3 aF<|jQ (ya<|cN eQ ua) ua)<|by exact aW<|vn 4 aF) eF)<|by exact aW<|cJ<|jQ ua Sa)<|aW<|Jn [3]<|bQ aF)
variable(lV:Ba P w K mg base "ways_from" 1 3 lK)
def V_(F:Ma K "rooms_reached" "rooms_reached" sX dV fa fd):Aa P w K mg base bb 2 fa fd ["machine"] (nk K 1 kE):=by
 refine Q5 (k:=1) F yF 1 2 mH (e1 mB<|aA 1) rfl rfl λd A a s H E B c=>?_
 have b:=yF.nd;exact FJ (by exact cJ<|cC lV<|aC (pR ma aR ua)<|aC cV<|aC (OX xb Ra rfl<|ya<|pR ma bZ ua) aJ) (by exact O3<|bJ8 xb rfl aF)
def ū(F:Ma K "is_loop" "is_loop" EH dV fa fd):Aa P w K mg base bb 6 fa fd ["machine","bits"] (Qb K 2 xG):=fO F Đ λb a=>(aW<|bQ<|fD cZ dB (ya<|cC fU<|aC aF<|aC aF aJ)<|ya<|mY<|aC aF aJ)
def bG0(F:Ma K "way_in" "way_in" oI dV fa fd):Aa P w K mg base bb 3 fa fd ["machine","allowed","room","goal"] (Qb K 4 rR):=fO F ŧ λa b=>(aN (iI (kJ<|eN<|cC cW<|aC aF<|aC aF aJ) (aW<|bQ nL) eF)<|aW<|bQ<|bNe a.units (ya<|cC lV<|aC (pR ma aR ua)<|aC aF<|aC (cC bY<|aC aF aJ) aJ) aF)
def o_(F:Ma K "rooms_along" "Machine.rooms_along" dY dV fa fd):Aa P w K mg base bb 1 fa fd ["self","room","text"] (nk K 3 bU):=by
 refine bSh (k:=0) F pX 3 5 3 gM rfl rfl λd A a s H E B c=>?_
 have b:=pX.nd;exact z0 (by exact wM<|zW<|aC aF aJ) (by exact z0 (by exact lR (jD aF) bW<|aN (by exact cJ<|cN (ya<|cN (ya<|pR ma aR ua) ua)<|ya<|bMy (ya<|DB [97,98,99] Ub)<|aC aF aJ)<|by exact aW<|vn 3 aF)<|by exact bN2)
variable(EG:Ba P w K mg base "is_loop" 6 2 xG)(Ye:Ba P w K mg base "way_in" 3 4 rR)(Qa:Kc P w K mg base "Machine" "rooms_along" 1 3 [] bU)
def Ę(F:Ma K "round_in" "round_in" MG dV fa fd):Aa P w K mg base bb 7 fa fd ["machine","bits","room"] (Qb K 3 qJ):=fO F Ò λb a=>(aN (iI (kJ<|eN<|cC EG<|aC aF<|aC aF aJ) (aW yW) eF)<|aN (iI (kJ<|eN<|cC cW<|aC aF<|aC aF aJ) (aW yW) eF)<|aN (iI (bM cZ dB (ya<|cC bY<|aC aF aJ)<|ya<|mY<|aC aF aJ) (aW<|bQ<|cN (ya<|DB [97,98,99] Ub)<|ya<|bF2 (ya<|cN (ya<|pR ma aR ua) ua)<|aC aF aJ) eF)<|aN (cJ<|rn [])<|aN (cJ aF)<|aN (lR (jD<|cC bY<|aC aF aJ) bW<|aW<|iI (bM mU mV ua<|ya<|Kt (pl:=_) (Kc.plain Qa) aF<|aC aF<|aC aF aJ) (aN (by exact cJ<|jQ ua<|ya<|cC Ye<|aC aF<|aC aF<|aC aF<|aC aF aJ)<|by exact aW<|cJ aF) eF)<|aW<|bQ<|jQ ua<|ya<|cC Ye<|aC aF<|aC aF<|aC aF<|aC aF aJ)
variable(oG:ud P w K mg base "rooms_reached" 2 1 kE)(Se:Ba P w K mg base "round_in" 7 3 qJ)
def Ŭ(F:Ma K "nest_of" "nest_of" FH dV fa fd):Aa P w K mg base bb 8 fa fd ["machine","row"] (Qb K 2 Kz):=fO F đ λa b=>(aN (YH (jD<|lC (ud.plain oG) a (by decide)<|aC aF aJ) (λ_ _ _ _ _=>bW) (λ_ _ _ _ _=>eN<|cC cW<|aC (cN ua Sa)<|aC (cN ua Sa) aJ)<|λ_ _ _ _ _=>aF)<|aN (cJ<|cN (ya<|cN ua Sa) Sa)<|aN (cJ<|cN (ya<|cN ua Sa) Sa)<|aW<|bQ<|du<|aC aF<|aC (qU (jD aF) (λ_ _ _ _ _=>bW)<|λ_ _ _ _ _=>cC Se<|aC aF<|aC aF<|aC aF aJ) aJ)
variable(jB:Ba P w K mg base "outer_loops" 6 1 nQ)(zd:Ba P w K mg base "longest_row" 19 3 rA)(uf:Ba P w K mg base "nest_of" 8 2 Kz)
def ξ(F:Ma K "longest_nest" "longest_nest" vI dV fa fd):Aa P w K mg base bb 20 fa fd ["machine","good"] (Qb K 2 fV):=fO F Q_ λb a=>(aN (cJ<|mY aJ)<|aN (lR (jD<|cC jB<|aC aF aJ) bW<|aN (by exact cJ<|cC zd<|aC aF<|aC aF<|aC aF aJ)<|by exact aW<|iI (bM Vm Jo (ya<|dN bL ua)<|ya<|dN bL ua) (aW<|cJ aF) eF)<|aW<|bQ<|DC (bM gF gG ua<|ya<|mY aJ) (cC uf<|aC aF<|aC aF aJ) nL)
variable(lW:Ba P w K mg base "longest_nest" 20 2 fV)
def bJq(F:Ma K "nests" "nests" LJ dV fa fd):Aa P w K mg base bb 21 fa fd ["machine"] (Qb K 1 vX):=fO F bFy λb a=>(aW<|bQ<|du<|aC (cC lW<|aC aF<|aC qR aJ)<|aC (cC lW<|aC aF<|aC qR aJ) aJ)
def ό(F:Ma K "nest_length" "nest_length" wX dV fa fd):Aa P w K mg base bb 1 fa fd ["nest"] (Qb K 1 nR):=fO F μ λb a=>(aW<|bQ<|DC (bM bMz bN0 ua<|ya nL) cV<|dN bL<|ya<|cN ua Sa)
theorem ϩ(F:Ma K "least_rank" "least_rank" zH dV fa fd):Aa P w K mg base bb 1 fa fd ["base","good"] (Qb K 2 tV):=fO F Ξ λb a=>(aW<|bQ<|DC (bM cZ dB (ya<|fD cZ dB (ya<|pD ua Sa) Sa) ua) aF<|jQ ua Sa)
variable(uG:Ba P w K mg base "least_rank" 1 2 tV)
def ο{b:cr}{n:Nat}(c:Ba P w K mg base "ranks_within" (7+n) 3 b)(F:Ma K "ranks_within" "ranks_within" vJ dV fa fd):Aa P w K mg base bb (7+n+1) fa fd ["machine","loop","base"] (Qb K 3<|cM 3 8<|SR b):=fO F zY λa d=>(aN Wv<|aN (cJ<|lC uG a (by omega)<|aC aF<|aC (lC fc a (by omega)<|aC aF<|aC aF aJ) aJ)<|aN (lR (jD<|lC jA a (by omega)<|aC aF<|aC aF aJ) bW<|aN (by exact cJ<|lC c a (by omega)<|aC aF<|aC aF<|aC aF aJ)<|by exact aN (by exact cJ<|LB Xb rfl ua<|ya<|jQ (ya<|bNu Xb rfl aF) Sa)<|by exact aW<|Y4 3 aF)<|aN (lR (jD<|lC bY a (by omega)<|aC aF aJ) bW<|aW<|bNt 3 aF aF)<|aW<|Jn [3]<|bQ aF)
variable(pY:Ba P w K mg base "ranks_within" 19 3 pJ)
def Ϫ(F:Ma K "ranks_from" "ranks_from" zJ dV fa fd):Aa P w K mg base bb 20 fa fd ["machine","base"] (nk K 2 eX):=by
 refine Q5 (k:=19) F oS 2 5 eS (cL [4] (Ya 4) (tM<|e1 (lY "Machine" "many")<|aA 0) dG UR) rfl rfl λd A a s H E B b=>?_
 have c:=oS.nd;exact FJ (by exact Wv) (by exact FJ (by exact lR (jD<|cC jB<|aC aF aJ) bW<|aW<|Y4 2<|cC pY<|aC aF<|aC aF<|aC aF aJ)<|by exact O3<|bNd (zX Ra<|ya<|pR ma bZ ua) (λ_ _ _ _ _=>bW)<|λ_ _ _ _ _=>bNf b.units eQ aF aF)
variable(zP:Ba P w K mg base "nests" 21 1 vX)(Mc:Ba P w K mg base "nest_length" 1 1 nR)(Nb:ud P w K mg base "ranks_from" 20 2 eX)
def ς(F:Ma K "lowest_ranks" "lowest_ranks" vK dV fa fd):Aa P w K mg base bb 22 fa fd ["machine"] (spT K 1 gW):=by
 refine bSl (k:=21) F zZ 1 4 sS (pj (e2 Eg (aA 3)<|aA 2) (wI<|aB (aM eX<|aB (aA 0)<|aB (eC<|.int 1) aK)<|aB (gD<|aB (e2 Ta (aA 1)<|eC<|.int 1) aK) aK)<|pj (e2 Eg (aA 2)<|aA 3) (wI<|aB (aM eX<|aB (aA 0)<|aB (eC<|.int 0) aK)<|aB (gD<|aB (e2 Ta (aA 1)<|eC<|.int 0) aK) aK)<|wI<|aB (aM eX<|aB (aA 0)<|aB (eC<|.int 0) aK)<|aB (gD<|aB (e2 Ta (aA 1)<|eC<|.int 0)<|aB (e2 Ta (aA 1)<|eC<|.int 1) aK) aK) rfl rfl λd A a s H E B b=>?_
 have c:=zZ.nd;exact LK (by exact cJ<|cC zP<|aC aF aJ) (by exact LK (by exact cJ<|cC Mc<|aC (cN ua Sa) aJ)<|by exact LK (by exact cJ<|cC Mc<|aC (cN ua Sa) aJ)<|by exact T5 (bM Vm Jo ua ua) (IK (GJ Nb b (by decide)<|aC aF<|aC cV aJ)<|zW<|aC (cN ua Sa) aJ)<|by exact T5 (bM Vm Jo ua ua) (IK (GJ Nb b (by decide)<|aC aF<|aC cV aJ)<|zW<|aC (cN ua Sa) aJ)<|by exact y_ret<|IK (GJ Nb b (by decide)<|aC aF<|aC cV aJ)<|zW<|aC (cN ua Sa)<|aC (cN ua Sa) aJ)
def ϫ(F:Ma K "_law_ahead" "_law_ahead" zK dV fa fd):Aa P w K mg base bb 1 fa fd ["_law_steps","_law_bits","_law_room"] (Qb K 3 jV):=fO F Ο λb a=>(aN (wM<|zW<|aC aF aJ)<|aN (cJ cV)<|aN (XA (bM Cw Yv ua<|ya<|dN bL eQ)<|aN (by exact lR (jD<|cN ua<|ya<|cN eQ ua) bW<|aW<|iI (PW.pt<|bu (bM cZ dB (ya<|yX (ya<|Wo ua ua) Sa) Sa)<|Jt<|bM mU mV ua eQ) (aW<|vn 3 aF) eF)<|by exact aW<|cJ<|jQ ua Sa)<|aW<|Jn [3]<|bQ aF)
variable(jZ:Ba P w K mg base "_law_ahead" 1 3 jV)(zl:mg "sum"=none)
def Ü(F:Ma K "_law_seen" "_law_seen" ZF dV fa fd):Aa P w K mg base bb 2 fa fd ["_law_steps"] (Qb K 1 rT):=fO F Ϡ λb a=>(aW<|bQ<|bQn zl rfl<|ya<|qU (jD<|cC jZ<|aC aF<|aC (Bq (ya<|Mw Sa<|ya<|dN bL ua) Sa)<|aC cV aJ) (λ_ _ _ _ _=>bW)<|λ_ _ _ _ _=>Mw Sa ua)
def υ(F:Ma K "_law_is_loop" "_law_is_loop" vL dV fa fd):Aa P w K mg base bb 2 fa fd ["_law_steps","_law_bits"] (Qb K 2 pL):=fO F R_ λb a=>(aN (YH (zX Ra<|ya<|dN bL ua) (λ_ _ _ _ _=>bW) (λ_ _ _ _ _=>bM cZ dB (ya<|yX (ya<|Wo ua ua) Sa) Sa)<|λ_ _ _ _ _=>aF)<|aN (lR (jD aF) bW<|aW<|iI (bM gF gG (ya<|dN bL<|ya<|cC jZ<|aC aF<|aC aF<|aC aF aJ)<|ya<|dN bL ua) (aW<|bQ qR) eF)<|aW<|bQ<|J5 (fD Vm Jo (ya<|dN bL ua) Sa)<|P4<|vD (fD cZ dB (ya<|dN bL ua) Sa)<|vC<|fD GK HK (ya<|cN ua Sa)<|ya<|cN ua<|ya<|cN ua Sa)
variable(pZ:Ba P w K mg base "_law_is_loop" 2 2 pL)
def Ϭ(F:Ma K "_law_loops" "_law_loops" zL dV fa fd):Aa P w K mg base bb 3 fa fd ["_law_steps"] (Qb K 1 tW):=fO F Ρ λb a=>(aW<|bQ<|iQ (bQ9 Ra Sa<|ya<|Mw Sa<|ya<|dN bL ua) (λ_ _ _ _ _=>bW) (λ_ _ _ _ _=>eN<|cC pZ<|aC aF<|aC aF aJ)<|λ_ _ _ _ _=>aF)
variable(lX:Ba P w K mg base "_law_seen" 2 1 rT)(Pd:Ba P w K mg base "_law_loops" 3 1 tW)
def Ý(F:Ma K "_law_rows" "_law_rows" kG dV fa fd):Aa P w K mg base bb 4 fa fd ["_law_steps"] (Qb K 1 vY):=fO F ϡ λb a=>(aN (cJ<|cC lX<|aC aF aJ)<|aW<|bQ<|iQ (jD<|cC Pd<|aC aF aJ) (λ_ _ _ _ _=>bW) (λ_ _ _ _ _=>bM cZ dB (ya<|Nw ua ua) ua)<|λ_ _ _ _ _=>aF)
def Þ(F:Ma K "_law_size" "_law_size" AG dV fa fd):Aa P w K mg base bb 1 fa fd ["_law_bits"] (Qb K 1 jP):=fO F Ϣ λb a=>(aW<|bQ<|dN bL<|ya<|iQ (zX Ra Sa) (λ_ _ _ _ _=>bW) (λ_ _ _ _ _=>bM cZ dB (ya<|yX (ya<|Wo ua ua) Sa) Sa)<|λ_ _ _ _ _=>aF)
def ę(F:Ma K "_law_top" "_law_top" NG dV fa fd):Aa P w K mg base bb 1 fa fd ["_law_ranks","_law_bits"] (Qb K 2 lL):=fO F Ó λb a=>(aW<|bQ<|Kw Xb rfl<|ya<|iQ (zX Ra<|ya<|dN bL ua) (λ_ _ _ _ _=>bW) (λ_ _ _ _ _=>bM cZ dB (ya<|yX (ya<|Wo ua ua) Sa) Sa)<|λ_ _ _ _ _=>cN ua ua)
variable(wG:Ba P w K mg base "_law_size" 1 1 jP)(dc:Ba P w K mg base "_law_top" 1 2 lL)(Sf:mg "sorted"=none)(ue:mg "int"=none)
def χ(F:Ma K "_law_longest" "_law_longest" vM dV fa fd):Aa P w K mg base bb 4 fa fd ["_law_loops_here","_law_ranks","_law_odd"] (Qb K 3 jF):=fO F S_ λa b=>(bNz<|bO0 (by exact Wv) (by exact bQz (bQy wG a (by decide) Sf aF) bW (aN (by exact cJ<|pD (ya<|cC dc<|aC aF<|aC aF aJ) Sa)<|by exact aN (by exact cJ<|HJ ue<|ya<|fD cZ dB ua ua)<|by exact aN (by exact bNw 3 7 6 (by decide) (by decide) a.units QD rfl Xb (bM cZ dB (ya<|Nw ua ua) ua) (bM gF gG (ya<|pD (ya<|cC dc<|aC aF<|aC aF aJ) Sa) ua) b)<|by exact aW<|ww a.units 3 aF aF) (bQ<|bNy Xb rfl<|ya<|qU (jD aF) (λ_ _ _ _ _=>bW)<|λ_ _ _ _ _=>cN eQ ua) bFs QD rfl) Ť)
variable(aZ:mg "isinstance"=none)(Rf:mg "bool"=none)
def ϭ(F:Ma K "_law_whole" "_law_whole" zM dV fa fd):Aa P w K mg base bb 1 fa fd ["_law_found"] (Qb K 1 tX):=fO F Τ λb a=>(aW<|bQ<|vD (iR ty_int aZ ue ua)<|vC<|Q4<|iR ty_bool aZ Rf ua)
variable(uH:Ba P w K mg base "_law_whole" 1 1 tX)
def E_(F:Ma K "_law_ranks_good" "_law_ranks_good" pW dV fa fd):Aa P w K mg base bb 2 fa fd ["_law_steps","_law_ranks","_law_loops_here","_law_found","_law_goods","_law_bads"] (Qb K 6 fZ):=fO F x_ λb a=>(aN (cJ<|HJ ue<|ya<|fD Vm Jo ua ua)<|aN (iI (PW.pt<|Bh (kJ<|eN<|iR ty_list aZ xb ua)<|Bh (bM gF gG (ya<|dN bL ua)<|ya<|dN bL ua)<|xZ<|bM gF gG (ya<|iQ (jD aF) (λ_ _ _ _ _=>bW) (λ_ _ _ _ _=>kJ<|eN<|cC uH<|aC aF aJ)<|λ_ _ _ _ _=>aF)<|ya<|mY aJ) (aW<|bQ qR) eF)<|aN (lR (jD aF) bW<|aW<|iI (bM gF gG (ya<|pD (ya<|cC dc<|aC aF<|aC aF aJ) Sa)<|ya<|pD (ya<|cC dc<|aC aF<|aC aF aJ) Sa) (aW<|bQ qR) eF)<|aN (lR (zX Ra<|ya<|dN bL ua) bW<|aN (by exact YH (jD aF) (λ_ _ _ _ _=>bW) (λ_ _ _ _ _=>bM cZ dB (ya<|yX (ya<|Wo ua ua) Sa) Sa)<|λ_ _ _ _ _=>aF)<|by exact aW<|iI (PW.pt<|Bh (bM Cw Yv (ya<|cN ua ua) ua)<|xZ<|PW.pt<|bu (bM cZ dB ua<|ya<|mY aJ)<|Jt<|bM gF gG (ya<|cN ua ua) ua) (aW<|bQ qR) eF)<|aW<|bQ<|fD cZ dB (ya<|Kw Xb rfl ua)<|ya<|cN (ya<|mY<|aC (LB Xb rfl (ya<|Bq ua Sa) ua)<|aC (LB Xb rfl (ya<|jQ ua Sa) ua) aJ) ua)
variable(gq:mg "str"=none)
def Ϯ(F:Ma K "_law_words" "_law_words" zN dV fa fd):Aa P w K mg base bb 1 fa fd ["_law_found","_law_letters"] (Qb K 2 tY):=fO F Υ λb a=>(aN (iI (PW.pt<|Bh (kJ<|eN<|iR ty_list aZ xb ua)<|xZ<|bM cZ dB ua<|ya<|mY aJ) (aW<|bQ qR) eF)<|aN (lR (jD aF) bW<|aW<|iI (PW.pt<|Bh (kJ<|eN<|iR ty_str aZ gq ua)<|Bh (bM cZ dB ua<|ya<|rn [])<|xZ<|bM gF gG (ya<|iQ (jD aF) (λ_ _ _ _ _=>bW) (λ_ _ _ _ _=>bM mU mV ua ua)<|λ_ _ _ _ _=>aF)<|ya<|mY aJ) (aW<|bQ qR) eF)<|aW<|bQ qR)
theorem Ě(F:Ma K "_law_led" "_law_led" OG dV fa fd):Aa P w K mg base bb 1 fa fd ["_law_steps","_law_room","_law_word_here"] (Qb K 3 qK):=fO F Ô λb a=>(aN (wM<|zW aJ)<|aN (lR (jD aF) bW<|aN (by exact cJ<|cN (ya<|cN ua ua)<|ya<|bIw (ya<|rn [97,98,99])<|aC aF aJ)<|by exact aW<|vn 3 aF)<|aW<|Jn [3]<|bQ aF)
variable(uI:Ba P w K mg base "_law_words" 1 2 tY)(Od:Ba P w K mg base "_law_led" 1 3 qK)(Xe:mg "tuple"=none)
def H_(F:Ma K "_law_nest_good" "_law_nest_good" qW dV fa fd):Aa P w K mg base bb 2 fa fd ["_law_steps","_law_ranks","_law_nest","_law_odd"] (Qb K 4 dF):=fO F C_ λb a=>(aN (iI (PW.pt<|Bh (kJ<|eN<|iR ty_tuple aZ Xe ua)<|Bh (bM gF gG (ya<|dN bL ua) Sa)<|xZ<|kJ<|eN<|iR ty_str aZ gq<|ya<|cN ua Sa) (aW<|bQ qR) eF)<|aN (cJ<|cx (ya<|rn [97,98,99]) IB<|Lo<|ya<|dN bL<|ya<|cN ua Sa)<|aN (iI (PW.pt<|Bh (bM gF gG (ya<|iQ (jD<|cN ua Sa) (λ_ _ _ _ _=>bW) (λ_ _ _ _ _=>bM mU mV ua ua)<|λ_ _ _ _ _=>aF)<|ya<|mY aJ)<|xZ<|kJ<|eN<|cC uI<|aC (cN ua Sa)<|aC aF aJ) (aW<|bQ qR) eF)<|aN (cJ<|cN (ya<|jQ (ya<|mY<|aC cV aJ)<|ya<|cC Od<|aC aF<|aC cV<|aC (cN ua Sa) aJ)<|ya<|Cq Sa)<|aN (cJ<|mY aJ)<|aN (lR (jD<|cN ua Sa) bW<|aN (by exact cJ<|cC Od<|aC aF<|aC aF<|aC aF aJ)<|by exact aN (by exact iI (PW.pt<|Bh (bM gF gG (ya<|cN ua<|ya<|Cq Sa) ua)<|xZ<|bM gF gG (ya<|iQ (jD aF) (λ_ _ _ _ _=>bW) (λ_ _ _ _ _=>bM mU mV ua ua)<|λ_ _ _ _ _=>aF)<|ya<|mY aJ) (aW<|bQ qR) eF)<|by exact aN (by exact iI (bM gF gG (ya<|pD (ya<|Kw Xb rfl<|ya<|qU (jD aF) (λ_ _ _ _ _=>bW)<|λ_ _ _ _ _=>cN ua ua) Sa) ua) (aW<|bQ qR) eF)<|by exact aN (by exact cJ aF)<|by exact aW<|cJ<|Bq Sa ua)<|aW<|bQ qR)
variable(fP:Ba P w K mg base "_law_nest_good" 2 4 dF)
def y_(F:Ma K "_law_papers_good" "_law_papers_good" oO dV fa fd):Aa P w K mg base bb 3 fa fd ["_law_steps","_law_ranks","_law_papers","_law_many"] (Qb K 4 dJ):=fO F t_ λb a=>(aN (iI (PW.pt<|Bh (kJ<|eN<|iR ty_list aZ xb ua)<|xZ<|bM mU mV (ya<|dN bL ua)<|ya<|du<|aC cV<|aC cV aJ) (aW<|bQ qR) eF)<|aN (iI (bM cZ dB (ya<|dN bL ua) Sa) (aN (by exact iI (PW.pt<|Bh (kJ<|eN<|cC fP<|aC aF<|aC aF<|aC (cN ua Sa)<|aC cV aJ)<|xZ<|kJ<|eN<|cC fP<|aC aF<|aC aF<|aC (cN ua Sa)<|aC cV aJ) (aW<|bQ qR) eF)<|by exact aW<|bQ<|vD (fD cZ dB (ya<|dN bL<|ya<|cN (ya<|cN ua Sa) Sa)<|ya<|Bq ua Sa)<|vC<|fD cZ dB (ya<|dN bL<|ya<|cN (ya<|cN ua Sa) Sa)<|ya<|Bq ua Sa) eF)<|aN (iI (PW.pt<|bu (kJ<|eN<|cC fP<|aC aF<|aC aF<|aC (cN ua Sa)<|aC cV aJ)<|Jt<|kJ<|eN<|cC fP<|aC aF<|aC aF<|aC (cN ua Sa)<|aC cV aJ) (aW<|bQ qR) eF)<|aW<|bQ<|fD cZ dB (ya<|dN bL<|ya<|cN (ya<|cN ua Sa) Sa) ua)
def I_(F:Ma K "is_filled_list" "is_filled_list" qX dV fa fd):Aa P w K mg base bb 1 fa fd ["thing","most"] (Qb K 2 fL):=fO F D_ λb a=>(aW<|bQ<|vD (iR ty_list aZ xb ua)<|vD (fD RB HB (ya<|dN bL ua) Sa)<|vC<|fD bOt bMq (ya<|dN bL ua) ua)
def ě(F:Ma K "is_whole" "is_whole" QG dV fa fd):Aa P w K mg base bb 1 fa fd ["thing"] (Qb K 1 qL):=fO F Õ λb a=>(aW<|bQ<|vD (iR ty_int aZ ue ua)<|vC<|Q4<|iR ty_bool aZ Rf ua)
variable(oU:Ba P w K mg base "is_whole" 1 1 qL)
def Ĝ(F:Ma K "is_below" "is_below" RG dV fa fd):Aa P w K mg base bb 2 fa fd ["thing","limit"] (Qb K 2 qM):=fO F Ö λb a=>(aW<|bQ<|vD (cC oU<|aC aF aJ)<|vD (fD RB HB ua Sa)<|vC<|fD Cw Yv ua ua)
variable(oV:Ba P w K mg base "is_below" 2 2 qM)(Cf:mg "all"=none)
def bG1(F:Ma K "is_row" "is_row" xI dV fa fd):Aa P w K mg base bb 3 fa fd ["thing","letters","rooms"] (Qb K 3 Uz):=fO F Ũ λb a=>(aW<|bQ<|vD (fD cZ dB (ya<|dN bL ua) ua)<|vC<|FC Cf rfl<|ya<|qU (jD aF) (λ_ _ _ _ _=>bW)<|λ_ _ _ _ _=>cC oV<|aC aF<|aC aF aJ)
variable(jN:Ba P w K mg base "is_filled_list" 1 2 fL)(dg:Ba P w K mg base "is_row" 3 3 Uz)
variable{Vd:Tok}(Nd:mg "MOST_ROOMS"=some (.int 8 Vd))
variable{Yc:Tok}(Wc:mg "MOST_LETTERS"=some (.int 3 Yc))
def ß(F:Ma K "are_steps" "are_steps" BG dV fa fd):Aa P w K mg base bb 4 fa fd ["thing"] (Qb K 1 vZ):=fO F ϣ λb a=>(aN (iI (kJ<|eN<|cC jN<|aC aF<|aC (J3 Nd) aJ) (aW<|bQ qR) eF)<|aN (iI (kJ<|eN<|FC Cf rfl<|ya<|qU (jD aF) (λ_ _ _ _ _=>bW)<|λ_ _ _ _ _=>cC jN<|aC aF<|aC (J3 Wc) aJ) (aW<|bQ qR) eF)<|aW<|bQ<|FC Cf rfl<|ya<|qU (jD aF) (λ_ _ _ _ _=>bW)<|λ_ _ _ _ _=>cC dg<|aC aF<|aC (dN bL<|ya<|cN ua Sa)<|aC (dN bL ua) aJ)
def à(F:Ma K "are_ranks" "are_ranks" CG dV fa fd):Aa P w K mg base bb 2 fa fd ["thing","rooms"] (Qb K 2 wA):=fO F Ϥ λb a=>(aN (iI (PW.pt<|Bh (kJ<|eN<|iR ty_list aZ xb ua)<|xZ<|bM gF gG (ya<|dN bL ua) ua) (aW<|bQ qR) eF)<|aW<|bQ<|FC Cf rfl<|ya<|qU (jD aF) (λ_ _ _ _ _=>bW)<|λ_ _ _ _ _=>vD (cC oU<|aC aF aJ)<|vC<|fD RB HB ua Sa)
variable(wH:Ba P w K mg base "are_steps" 4 1 vZ)(we:Ba P w K mg base "are_ranks" 2 2 wA)(yb:mZ K Na (ofString "letters"))
def z_(F:bq K "__init__" "Machine.__init__" fM fa fd):Aa P w K mg base bb 5 fa fd ["self","steps","ranks"] (ZE K "Machine" 2 gZ):=by
 refine bIz (k:=4) F tL "Machine" 2 4 jW rfl rfl λd A a s H E B c=>?_
 have b:=tL.nd;exact aN (iI (kJ<|eN<|cC wH<|aC aF aJ) (aW yW) eF)<|aN (iI (kJ<|eN<|cC we<|aC aF<|aC (dN bL ua) aJ) (aW yW) eF)<|aN (MB 0 ma aR<|qU (jD aF) (λ_ _ _ _ _=>bW)<|λ_ _ _ _ _=>OB xb ua)<|aN (MB 0 ma bR<|OB xb ua)<|aN (MB 0 ma bZ<|dN bL ua)<|aW<|MB 0 ma yb<|dN bL<|ya<|cN ua Sa
variable(eZ:me P w K mg base "lowest_ranks" 22 1 gW)(Md:Of P w K mg base "Machine" 5 2 gZ)
def ŭ(F:Ma K "lowered" "lowered" GH dV fa fd):Aa P w K mg base bb 23 fa fd ["machine"] (Qb K 1 Lz):=fO F Ē λa b=>(aW<|bQ<|M3 Md a (by decide)<|aC (pR ma aR ua)<|aC (cN (ya<|lC (me.plain eZ) a (by decide)<|aC aF aJ) Sa) aJ)
def á(F:Ma K "_law_word" "_law_word" DG dV fa fd):Aa P w K mg base bb 2 fa fd ["_law_cell_here","_law_letters","_law_least","_law_most"] (Qb K 4 rY):=fO F ϥ λb a=>(aN (cJ<|jQ ua<|ya<|cC Wa<|aC aF<|aC cV<|aC (jQ (ya<|Bq ua ua) Sa) aJ)<|aW<|bQ<|bN1 (ya<|rn [])<|aC (qU (zX Ra ua) (λ_ _ _ _ _=>bW)<|λ_ _ _ _ _=>cN (ya<|rn [97,98,99])<|ya<|cC Wa<|aC (GB ua<|ya<|jQ (ya<|pD ua Sa) Sa)<|aC (jQ Sa ua)<|aC aF aJ) aJ)
def Ů(F:Ma K "is_word" "is_word" HH dV fa fd):Aa P w K mg base bb 1 fa fd ["thing","many"] (Qb K 2 oX):=fO F ē λb a=>(aW<|bQ<|vD (iR ty_str aZ gq ua)<|vC<|fD cZ dB (ya<|bIx ua<|aC (cx (ya<|DB [97,98,99] Ub) IB<|Lo ua) aJ)<|ya<|rn [])
variable(yG:Ba P w K mg base "is_word" 1 2 oX)
def ϯ(F:Ma K "is_endless" "is_endless" zO dV fa fd):Aa P w K mg base bb 2 fa fd ["thing","many"] (Qb K 2 mO):=fO F Φ λb a=>(aN (iI (PW.pt<|Bh (kJ<|eN<|iR ty_tuple aZ Xe ua)<|xZ<|bM gF gG (ya<|dN bL ua) Sa) (aW<|bQ qR) eF)<|aW<|bQ<|vD (cC yG<|aC (cN ua Sa)<|aC aF aJ)<|vD (cC yG<|aC (cN ua Sa)<|aC aF aJ)<|vC<|fD gF gG (ya<|cN ua Sa)<|ya<|rn [])
def q_(F:Ma K "check_room" "Machine.check_room" lU dV fa fd):Aa P w K mg base bb 3 fa fd ["self","thing"] (Qb K 2 fW):=fO F n_ λb a=>(aW<|iI (kJ<|eN<|cC oV<|aC aF<|aC (pR ma bZ ua) aJ) (aW yW) eF)
variable(uJ:Ba P w K mg base "is_endless" 2 2 mO)(Ob:Fc P w K mg base "Machine" "check_room" 3 2 [] fW)
def ψ(F:Ma K "walk" "Machine.walk" jL dV fa fd):Aa P w K mg base bb 4 fa fd ["self","word","room"] (Qb K 3 lM):=fO F T_ λa b=>(aN (bQ8<|Kt (pl:=_) Ob aF<|aC aF aJ)<|aN (iI (kJ<|eN<|cC uJ<|aC aF<|aC (pR ma yb ua) aJ) (aW yW) eF)<|aN (wM<|bN3 (pl:=_) Qa a (by decide) aF<|aC aF<|aC (cN ua Sa) aJ)<|aN Wv<|aN (XA (bM mU mV (ya<|cN eQ<|ya<|Cq Sa) eQ)<|aN (by exact ww a.units 4 (cN eQ<|ya<|Cq Sa)<|Bq (ya<|dN bL eQ) Sa)<|by exact aW<|bQj 3<|bSg (ya<|Kt (pl:=_) (Kc.plain Qa) aF<|aC (cN eQ<|ya<|Cq Sa)<|aC (cN ua Sa) aJ) (Lo Sa) IB)<|aN (cJ<|cN eQ<|ya<|cN eQ<|ya<|Cq Sa)<|aW<|bQ<|du<|aC (cx eQ IB<|Lo ua)<|aC (cx eQ (Lo ua)<|Lo<|ya<|Cq Sa) aJ)
variable(mW:Fc P w K mg base "Machine" "walk" 4 3 [] lM)
def ω(F:Ma K "lets" "Machine.lets" jM dV fa fd):Aa P w K mg base bb 5 fa fd ["self","word","room"] (Qb K 3 jG):=fO F U_ λb a=>(aN (cJ<|cN (ya<|Kt (pl:=_) mW aF<|aC aF<|aC aF aJ) Sa)<|aW<|bQ<|fD cZ dB (ya<|pD (ya<|Kw Xb rfl<|ya<|qU (jD aF) (λ_ _ _ _ _=>bW)<|λ_ _ _ _ _=>cN (ya<|pR ma bR ua) ua) Sa) Sa)
variable(qC:Ba P w K mg base "_law_machine" 2 3 lJ)(ve:Ba P w K mg base "_law_rows" 4 1 vY)(yc:Ba P w K mg base "_law_longest" 4 3 jF)(Ac:Ba P w K mg base "_law_ranks_good" 2 6 fZ)(cc:Ba P w K mg base "_law_papers_good" 3 4 dJ)(tf:Ba P w K mg base "lowered" 23 1 Lz)(sd:Ba P w K mg base "_law_word" 2 4 rY)(Wb:Fc P w K mg base "Machine" "lets" 5 3 [.int 0] jG)(gj:mg "set"=none)
def bR6(F:Ma K "law" "law" xn dV fa fd):Aa P w K mg base bb 24 fa fd ["_law_script"] (Xu K 1 Vt):=by
 refine bSm (k:=23) F t4 1 22 sC rfl rfl λd A b s H E B a=>?_
 have c:=t4.nd;exact nG (by exact R4 (cC qC<|aC aF<|aC cV<|aC cV aJ)<|Iw rfl<|rE<|rE tw) (by exact nG (by exact cJ<|M3 Md a (by decide)<|aC (qU (jD aF) (λ_ _ _ _ _=>bW)<|λ_ _ _ _ _=>OB xb ua)<|aC (OB xb ua) aJ)<|by exact nG (by exact bQk 12 13 (bJm eZ a (by decide)<|aC aF aJ) c rfl)<|by exact nG (by exact cJ<|cC ve<|aC aF aJ)<|by exact nG (by exact cJ<|cC yc<|aC aF<|aC aF<|aC cV aJ)<|by exact nG (by exact cJ<|cC yc<|aC aF<|aC aF<|aC cV aJ)<|by exact nG (by exact iI (PW.pt<|Bh (kJ<|eN<|B0 Ac a (by decide)<|wO ua<|wO ua<|wO ua<|wO eQ<|wO ua<|wO ua V4)<|xZ<|bM gF gG eQ<|ya<|lC (ud.plain Nb) a (by decide)<|aC aF<|aC (HJ ue<|ya<|fD Vm Jo ua ua) aJ) (aW<|bQ qR) eF)<|by exact nG (by exact iI (bM gF gG eQ<|ya<|iQ (bJp Aw (cC zP<|aC aF aJ)<|mY<|aC aF<|aC aF aJ) (λ_ _ _ _ _=>Iw rfl<|rE<|rE tw) (λ_ _ _ _ _=>bM cZ dB ua<|ya<|LB Xb rfl ua ua) (λ_ _ _ _ _=>aF) (hsub:=S4)) (aW<|bQ qR) eF)<|by exact nG (by exact cJ<|cC lX<|aC aF aJ)<|by exact nG (by exact cJ<|NX bL gj rfl<|ya<|iQ (zX Ra<|ya<|dN bL ua) (λ_ _ _ _ _=>bW) (λ_ _ _ _ _=>bM cZ dB (ya<|yX (ya<|Wo ua ua) Sa) Sa)<|λ_ _ _ _ _=>cN eQ ua)<|by exact nG (by exact iI (kJ<|eN<|B0 cc a (by decide)<|wO ua<|wO ua<|wO eQ<|wO ua V4) (aW<|bQ qR) eF)<|by exact nG (by exact cJ<|cC tf<|aC aF aJ)<|by exact nG (by exact R4 (lC (me.plain eZ) a (by decide)<|aC aF aJ)<|Iw rfl<|rE<|rE tw)<|by exact nG (by exact iI (PW.pt<|Bh (bM gF gG (ya<|pR ma aR ua) ua)<|Bh (bM gF gG (ya<|pR ma bR ua) eQ)<|xZ<|bM gF gG (ya<|dN bL ua)<|ya<|dN bL eQ) (aW<|bQ qR) eF)<|by exact nG (by exact iI (bM gF gG (ya<|NX bL gj rfl<|ya<|iQ (zX Ra<|ya<|dN bL ua) (λ_ _ _ _ _=>bW) (λ_ _ _ _ _=>bM cZ dB (ya<|yX (ya<|Wo ua ua) Sa) Sa)<|λ_ _ _ _ _=>cN ua ua) ua) (aW<|bQ qR) eF)<|by exact nG (by exact lR (jD<|cx ua (Lo Sa)<|Lo Sa) bW<|aN (by exact cJ<|du<|aC (cC sd<|aC aF<|aC (dN bL<|ya<|cN ua Sa)<|aC cV<|aC cV aJ)<|aC (cC sd<|aC (jQ ua Sa)<|aC (dN bL<|ya<|cN ua Sa)<|aC cV<|aC cV aJ) aJ)<|by exact aW<|iI (bM gF gG (ya<|Kt (pl:=_) Wb aF<|aC aF aJ)<|ya<|Kt (pl:=_) Wb aF<|aC aF aJ) (aW<|bQ qR) eF)<|by exact bO3 (iP:=13) (iK:=9) [12,13] (by exact b5 (C0 xb aF)<|bO2 [20,21] S4 (.of rfl) (jD aF) (λ_ _ _ _ _=>Iw rfl<|rE<|rE tw) (λ_ _ _ _ _=>b5 (bN4 aF)<|C0 xb aF) rfl) (by exact vP<|jq Mq qx hM bf<|WK RJ (WK RJ (U5 13) xt<|by intro _ _;rfl) xt<|by intro _ _;rfl) (by exact vP<|jq Mq qx hM bf<|U5 13) (by exact aN (by exact bQl 12)<|by exact aW<|bQ<|vD (fD cZ dB (ya<|lC (me.plain eZ) a (by decide)<|aC aF aJ) ua)<|vD (fD cZ dB (ya<|pR ma aR ua) ua)<|vC<|fD cZ dB (ya<|pR ma bR ua) ua) c)
end
theorem all_mk {l : OpenLaw}  {K : Frag} {h : Heap}   (X : K.In h) (G : h.Ns mainGlobals mg) (hfa : mg "law" = some (.ref fa))
     {pE:Addr} {BQ MK:pi} {QQ:pp} {dQ LP MN HQ Qx FN:Value} {qE:Addr} {CQ NK:pi} {RQ:pp} {kQ MP NN IQ Rx GN:Value} {Z:Addr} {DQ PK:pi} {SQ:pp} {oQ NP ON JQ Sx HN:Value} {OR:Addr} {nz:Value} {pz:pi} {uz:pp} {fR:Nat} {Fs:Tok} {Y:Addr} {EQ QK:pi} {TQ:pp} {sQ OP PN KQ Tx JN:Value} {PR:Addr} {oz:Value} {qz:pi} {vz:pp} {kR:Nat} {mm:Tok} {UN:Addr} {FQ Qw:pi} {UQ:pp} {AQ Ly Vx Wy lr Ux:Value}
  (i:ClsAt K "Machine" Na)
  (o:PySem.W.makesIn K Na=true)
  (m:keepIn K (.ref Na)=true)
  (a:findIn K (.ref Na) (ofString "letters")=some none)
  (d:findIn K (.ref Na) (ofString "many")=some none)
  (c:findIn K (.ref Na) (ofString "ranks")=some none)
  (b:findIn K (.ref Na) (ofString "steps")=some none)
  (D1:DA K "_law_cell" TF)
  (D2:DA K "_law_mix" IG)
  (D3:DA K "_law_machine" vH)
  (D4:DA K "has_room" JG)
  (D5:DA K "rooms_of" KG)
  (D6:DA K "bits_of" CH)
  (D7:DA K "seen_among" zE)
  (D8:DA K "goes_round" zF)
  (D9:DA K "parts_among" wQ)
  (m9:DA K "loop_parts" zG)
  (n9:DA K "all_rooms" VF)
  (o9:DA K "seen_from" XF)
  (q9:DA K "outer_loops" wR)
  (r9:DA K "top_rank" LG)
  (s9:DA K "is_good" DH)
  (t9:DA K "without_top" wU)
  (u9:DA K "inner_loops" wV)
  (DR:DA K "longest_row" wW)
  (v9:DA K "ways_from" YF)
  (w9:DA K "rooms_reached" sX)
  (A9:DA K "is_loop" EH)
  (B9:DA K "way_in" oI)
  (a23:findIn K (.ref Na) (ofString "rooms_along")=some (some<|.ref pE))
  (e23:isFn K (.ref pE)=true)
  (l23:K.lookup pE=some ⟨dQ,BQ,.func<|fnOf "rooms_along" "Machine.rooms_along" (gK dY) (dH dY) (bK dY) .none LP MN HQ MK Qx FN,QQ⟩)
  (c23:codeIn K Qx "Machine.rooms_along"=true)
  (U:keepIn K (.ref pE)=true)
  (C9:DA K "round_in" MG)
  (E9:DA K "nest_of" FH)
  (F9:DA K "longest_nest" vI)
  (G9:DA K "nests" LJ)
  (H9:DA K "nest_length" wX)
  (I9:DA K "least_rank" zH)
  (ER:DA K "ranks_within" vJ)
  (J9:DA K "ranks_from" zJ)
  (K9:DA K "lowest_ranks" vK)
  (L9:DA K "_law_ahead" zK)
  (M9:DA K "_law_seen" ZF)
  (N9:DA K "_law_is_loop" vL)
  (O9:DA K "_law_loops" zL)
  (P9:DA K "_law_rows" kG)
  (Q9:DA K "_law_size" AG)
  (R9:DA K "_law_top" NG)
  (S9:DA K "_law_longest" vM)
  (T9:DA K "_law_whole" zM)
  (U9:DA K "_law_ranks_good" pW)
  (V9:DA K "_law_words" zN)
  (W9:DA K "_law_led" OG)
  (X9:DA K "_law_nest_good" qW)
  (Y9:DA K "_law_papers_good" oO)
  (Z9:DA K "is_filled_list" qX)
  (a_:DA K "is_whole" QG)
  (b_:DA K "is_below" RG)
  (c_:DA K "is_row" xI)
  (d_:DA K "are_steps" BG)
  (e_:DA K "are_ranks" CG)
  (a53:findIn K (.ref Na) (ofString "__init__")=some (some<|.ref qE))
  (e53:isFn K (.ref qE)=true)
  (l53:K.lookup qE=some ⟨kQ,CQ,.func<|fnOf "__init__" "Machine.__init__" (gK fM) (dH fM) (bK fM) .none MP NN IQ NK Rx GN,RQ⟩)
  (c53:codeIn K Rx "Machine.__init__"=true)
  (k53:keepIn K (.ref qE)=true)
  (f_:DA K "lowered" GH)
  (g_:DA K "_law_word" DG)
  (h_:DA K "is_word" HH)
  (i_:DA K "is_endless" zO)
  (k_:MA K Na "check_room" "check_room" "Machine.check_room" lU)
  (a59:findIn K (.ref Na) (ofString "walk")=some (some<|.ref Z))
  (e59:isFn K (.ref Z)=true)
  (l59:K.lookup Z=some ⟨oQ,DQ,.func<|fnOf "walk" "Machine.walk" (gK jL) (dH jL) (bK jL) (.ref OR) NP ON JQ PK Sx HN,SQ⟩)
  (t59:K.lookup OR=some ⟨nz,pz,.seq #[.int 0 Fs] fR,uz⟩)
  (c59:codeIn K Sx "Machine.walk"=true)
  (T:keepIn K (.ref Z)=true)
  (a60:findIn K (.ref Na) (ofString "lets")=some (some<|.ref Y))
  (e60:isFn K (.ref Y)=true)
  (l60:K.lookup Y=some ⟨sQ,EQ,.func<|fnOf "lets" "Machine.lets" (gK jM) (dH jM) (bK jM) (.ref PR) OP PN KQ QK Tx JN,TQ⟩)
  (t60:K.lookup PR=some ⟨oz,qz,.seq #[.int 0 mm] kR,vz⟩)
  (c60:codeIn K Tx "Machine.lets"=true)
  (S:keepIn K (.ref Y)=true)
  (a61:nsIn K mainGlobals "law"=some (some<|.ref UN))
  (l61:K.lookup UN=some ⟨AQ,FQ,.func<|fnOf "law" "law" (gK xn) (dH xn) (bK xn) .none Ly Vx Wy Qw lr Ux,UQ⟩)
  (c61:codeIn K lr "law"=true)
  (k61:keepIn K (.ref UN)=true)
  (p:nsIn K mainGlobals "LETTERS"=some (some<|.str "abc" xf))
  (f:nsIn K mainGlobals "MOST_LETTERS"=some (some<|.int 3 Yc))
  (k:nsIn K mainGlobals "MOST_ROOMS"=some (some<|.int 8 Vd))
  (P:nsIn K mainGlobals "all"=some none)
  (z:nsIn K mainGlobals "bool"=some none)
  (O:nsIn K mainGlobals "int"=some none)
  (j:nsIn K mainGlobals "isinstance"=some none)
  (N:nsIn K mainGlobals "len"=some none)
  (y:nsIn K mainGlobals "list"=some none)
  (M:nsIn K mainGlobals "max"=some none)
  (u:nsIn K mainGlobals "range"=some none)
  (L:nsIn K mainGlobals "set"=some none)
  (q:nsIn K mainGlobals "sorted"=some none)
  (J:nsIn K mainGlobals "str"=some none)
  (I:nsIn K mainGlobals "sum"=some none)
  (t:nsIn K mainGlobals "tuple"=some none)
  (H:nsIn K mainGlobals "zip"=some none) :
  ∃fd:FuncData,(∀(s:Shared)(v:Value),BindsTo s fd ⟨[v],[]⟩ [("_law_script",v)])/\∀base:Heap,K.In base->base.Ns mainGlobals mg->Aa l.prog w K mg base bb 24 fa fd ["_law_script"] (Xu K 1 Vt):=by
 have e:=hfa.symm.trans<|mg_of X G a61;cases e;have yb:mZ K Na (ofString "letters"):=a;have V:mZ K Na (ofString "many"):=d;have W:mZ K Na (ofString "ranks"):=c;have B:mZ K Na (ofString "steps"):=b;have FR:=jt (st:=dY) l23 c23 U;have ő:=FR.Rg (ps:=["self","room","text"]) λ_ _ _ _ _ _=>Xv<|λ_ _ _=>rfl
 have GR:=bLe (st:=fM) l53 c53 k53;have Œ:=GR.binds (ps:=["self","steps","ranks"]) λ_ _ _ _ _ _=>Xv<|λ_ _ _=>rfl
 have HR:=jt (st:=jL) l59 c59 T;have Rw:Binds K _ ["self","word","room"] []:=HR.binds (m:=3) t59 rfl rfl λ_ _ _ _ _ _=>Xv<|λ_ _ _=>⟨_,rfl,rfl⟩
 have JR:=jt (st:=jM) l60 c60 S;have Sw:Binds K _ ["self","word","room"] [.int 0 mm]:=JR.binds (m:=2) t60 rfl rfl λ_ _ _ _ _ _=>DJ<|λ_ _=>⟨_,rfl,rfl⟩
 have KR:=jt (st:=xn) l61 c61 k61;have b61:=KR.Rg (ps:=["_law_script"]) λ_ _ _ _ _ _=>CJ<|λ_=>rfl
 have Cf:=bj X G P;have Rf:=bj X G z;have R:=bj X G O;have x:=bj X G j;have g:=bj X G N;have A:=bj X G y;have E:=bj X G M;have r:=bj X G u;have gj:=bj X G L;have Sf:=bj X G q;have gq:=bj X G J;have zl:=bj X G I;have Xe:=bj X G t;have Aw:=bj X G H;have Ub:=mg_of X G p;have Wc:=mg_of X G f;have Nd:=mg_of X G k;refine⟨fnOf "law" "law" (gK xn) (dH xn) (bK xn) .none Ly Vx Wy Qw lr Ux,λs v=>.of_eq rfl,λbase _ _=>?_⟩
 have C:Ct l.prog w K mg base h:=⟨X,G⟩;have pF:=D1.ok C<|Ø g;have Wa:=D2.ok C Ĕ;have qC:=D3.ok C<|ν pF Wa r;have Q:=D4.ok C ĕ;have D:=D5.ok C<|Ė r Q;have Vb:=D6.ok C ũ;have jY:=D7.ok C<|Ϧ Q D Vb;have Qd:=D8.ok C<|ϧ g D;have rJ:=D9.ok C<|Χ Q D Vb jY Qd;have fU:=m9.ok C<|Ϩ rJ i B;have wF:=n9.ok C<|Ù r Vb i V A;have ye:=o9.ok C<|Ú jY i B wF;have jB:=q9.ok C<|Ψ fU ye;have oR:=r9.ok C<|ė D i W E;have fc:=s9.ok C<|Ū oR;have rK:=t9.ok C<|Ω D Vb i W oR;have jA:=u9.ok C<|ϊ fU rK fc;have ig:∀n,Ba l.prog w K mg base "longest_row" (7+n) 3 (pI n):=by
  intro n
  induction n with
  |zero=>exact DR.ok C<|λF=>rL (k:=6) F ZR 3 6 oJ rfl rfl λ_ _ _ _ _ _ _ _=>SX
  |succ n ih=>exact DR.ok C<|ϋ g fc jA ih
 have zd:Ba l.prog w K mg base "longest_row" 19 3 rA:=ig 12;have lV:=v9.ok C<|Û g Aw Ub;have oG:=w9.O8 C<|V_ r i B V A lV;have EG:=A9.ok C<|ū fU;have Ye:=B9.ok C<|bG0 Q D i B lV;have fe:=o_ (P:=l.prog) (w:=w) (mg:=mg) (base:=base) i B Ub FR;have Qa:Kc l.prog w K mg base "Machine" "rooms_along" 1 3 [] bU:=Kc.of (ae:=[]) i ⟨a23,e23,U⟩ fe ő (.nil) λ_=>.nil
 have Se:=C9.ok C<|Ę Q D i B Ub EG Ye Qa;have uf:=E9.ok C<|Ŭ Q oG Se;have lW:=F9.ok C<|ξ g jB zd uf;have zP:=G9.ok C<|bJq lW;have Mc:=H9.ok C<|ό g;have uG:=I9.ok C ϩ;have Hf:∀n,Ba l.prog w K mg base "ranks_within" (7+n) 3 (nZ n):=by
  intro n
  induction n with
  |zero=>exact ER.ok C<|λF=>rL (k:=6) F zY 3 8 oJ rfl rfl λ_ _ _ _ _ _ _ _=>SX
  |succ n ih=>exact ER.ok C<|ο D E fc jA uG ih
 have pY:Ba l.prog w K mg base "ranks_within" 19 3 pJ:=Hf 12;have Nb:=J9.O8 C<|Ϫ r i V jB pY;have eZ:=K9.okT C<|ς zP Mc Nb;have jZ:=L9.ok C<|ϫ g;have lX:=M9.ok C<|Ü g jZ zl;have pZ:=N9.ok C<|υ g r jZ;have Pd:=O9.ok C<|Ϭ g r pZ;have ve:=P9.ok C<|Ý lX Pd;have wG:=Q9.ok C<|Þ g r;have dc:=R9.ok C<|ę g r E;have yc:=S9.ok C<|χ E wG dc Sf R;have uH:=T9.ok C<|ϭ R x Rf;have Ac:=U9.ok C<|E_ g r A E dc R x uH;have uI:=V9.ok C<|Ϯ A x gq;have Od:=W9.ok C Ě;have fP:=X9.ok C<|H_ g E x gq uI Od Xe;have cc:=Y9.ok C<|y_ g A x fP;have jN:=Z9.ok C<|I_ g A x;have oU:=a_.ok C<|ě R x Rf;have oV:=b_.ok C<|Ĝ oU;have dg:=c_.ok C<|bG1 g oV Cf;have wH:=d_.ok C<|ß g Cf jN dg Nd Wc;have we:=e_.ok C<|à g A x oU Cf;have Pe:=z_ (P:=l.prog) (w:=w) (mg:=mg) (base:=base) g i B V A W wH we yb GR;have Md:=Of.of i ⟨o,a53,e53,m⟩ Pe Œ<|mg_of X G i.ns;have tf:=f_.ok C<|ŭ i B eZ Md;have sd:=g_.ok C<|á Wa r;have yG:=h_.ok C<|Ů Ub x gq;have uJ:=i_.ok C<|ϯ g x Xe yG;have Ob:=k_.ok C i<|q_ i V oV;have Yf:=ψ (P:=l.prog) (w:=w) (mg:=mg) (base:=base) g i Qa yb uJ Ob HR;have mW:Fc l.prog w K mg base "Machine" "walk" 4 3 [] lM:=Fc.of (ae:=[]) i ⟨a59,e59,T⟩ Yf Rw (.nil) λ_=>.nil
 have Xf:=ω (P:=l.prog) (w:=w) (mg:=mg) (base:=base) i W E mW JR;have Wb:Fc l.prog w K mg base "Machine" "lets" 5 3 [.int 0] jG:=Fc.of (ae:=[.int<|0]) i ⟨a60,e60,S⟩ Xf Sw (.cons ⟨_,rfl⟩<|.nil) λ_=>.cons (bJ.mpr rfl)<|.nil
 have Wx:=bR6 (P:=l.prog) (w:=w) (mg:=mg) (base:=base) g r i B A W E Aw zP Nb lX R eZ Md qC ve yc Ac cc tf sd Wb gj KR;exact Wx
theorem bJr{q:Program} {K:Params->Frag} {l:db} {t:Nat} {r:PySem.W.RowW} {d:DefRec} {k:List (Str×Expr)} {run:Value->jp->Sem Value} (e:∀P,l=(K P).map (·.1)) (h:WalkO q loose XP (InK K) r d k run):PySem.W.WalkX q loose XP (PySem.W.X.obsZ l) (PySem.W.X.valZ K n t) r d k run:=
 λw J I p s G y a o m H i F kV E D C B A z c b j L x v u g f=>h w J I p s G (PySem.W.InK.keeps w _ _ (PySem.W.X.z_facts e y).2.1 L.keeps) a o m H i F kV E D C B A z c b j x v u g f
theorem walk{l:OpenLaw}{q:Program} {i:IR} {d:DefRec} {K:Params->Frag} (k:l.most=some 63) (j:d.params.defaults=[])
  (n:∀(w:World)(h:Heap),i w h->(K w.params).In h)
  (b:∀c:lv,c.length<=63->Vt [.lst<|c.map D.int]=.ok (.bl true))
  (F:∀(w:World)(mg:kt)(g:Addr)(h:Heap),(K w.params).In h->h.Ns mainGlobals mg->mg d.name=some (.ref g)->
   ∃e:FuncData,(∀(s:Shared)(u:Value),BindsTo s e ⟨[u],[]⟩ [("_law_script",u)])/\∀base:Heap,(K w.params).In base->base.Ns mainGlobals mg->Aa l.prog w (K w.params) mg base bb 24 g e ["_law_script"] (Xu (K w.params) 1 Vt)) :
  WalkO q loose XP i l.row.toRowW d [] (λf vs=>PySem.call f vs):=
 L2.wo (n:=63) (k:=24) (x:="_law_script") (CX:=λ_=>bb) (sp:=λw=>Xu (K w.params) 1 Vt) k (by decide) j ⟨rfl,by decide,by decide⟩ n F (λ_ _ a c m _ o=>bJo o<|b c m) λ_ _ _ _ _ z=>z
end Pu
set_option genInjectivity false
set_option genSizeOf false
structure PySem.W.Fast where (tw18272834816119521013 tw17220159709777675826 tw12217284660031387015 tw17133276984447233310 tw344797846903134516 tw502799670410437410 tw26416341437604629 tw13147445971129510083 tw2797210753424116966 tw3728237545971203833 tw18251518613195828891 tw1619281348648920916 tw11615393760618646195 tw2882375879647442567 tw2017194517171699612 tw10375523629312125100 tw7546585577342774267 tw16420212351594644922 tw3026022724790833428 tw4204344942825742929 tw11532563265949991624 tw2248801609991416229 tw9213485539397749735 tw15008587149338011166 tw2065690508508266405 tw2450682350510948154 tw1857855126994418990 tw4729972884962974639 tw14253915354462300167 tw9155074623871352871 tw7266598024891370521 tw10935897948500778682 tw4507957438196246033 tw18072754596551578752 tw2213249644894616942 tw1569338559765930004 tw3146570635623732506 tw2071320350718157244 tw8141434957950195899 tw16955360797130494060 tw9870787339559650120 tw2770461300979102085 tw14405648009701425896 tw7743914530647527022 tw10911828629726092080 tw12741260372712872384 tw14581629532908503268 tw12820317281126454382 tw14898901712553628075 tw7918513022267869151 tw18339865291449976594 tw13456411679901232195 tw13200549185520943611 tw9937862176711575046 tw10552515049401076540 tw10827479878492952742 tw12269346341466911250 tw17602473170081563808 tw14515940234690994790 tw11449346196739278604 tw5794808136264575219 tw17646159398725925620 tw2764633880894694085 tw15100188136609150429 tw2870479532509096834 tw6390605352096453420 tw14151931098255222663 tw11291448678856088160 tw7284820997406999952 tw17564713799919265944 tw11907336591843127164 tw11226934523358984775 tw14971987025356681531 tw15336438476002317408 tw8695308809050616910 tw9656802452628600859 tw2807802179190826242 tw15954876240985285757 tw16078903647486395829 tw4300556103401845 tw13317753688010685767 tw3250709899725928013 tw2532062907705315727 tw1162072786634258846 tw15783272281222306470 tw18426458331328384831 tw2302700323083426904 tw17807813616675538321 tw7101839651882460109 tw7905785136333621338 tw6941123832809327025 tw1230029118773799965 tw5439210689265310811 tw6690788141004994999 tw3335953333930221679 tw13370967233001398093 tw904831437818636535 tw9780215364597487417 tw268688539652003604 tw14047020901323833436 tw9723546402828205883 tw12268865794440842288 tw13967396111831338269 tw9764299791306010272 tw9560305845645364297 tw16608853842898448926 tw11886122758970598156 tw2738784979058486965 tw8150094146099303624 tw6494401019877555142 tw3100512274014435667 tw18114217053150216211 tw12811567532230735314 tw16271864537597193021 tw8414017061560548522 tw9939739843524631223 tw13384562700826701956 tw3700125405835951239 tw2255487681225064295 tw8346856800245607785 tw14551468134831598760 tw3216651384387344661 tw2082696627669656605 tw13961824739176028407 tw18202086700872837449 tw16120896385681158873 tw1289266893221493066 tw8336052546078612902 tw12209634436046095748 tw15238210908118525263 tw14789776359701246305 tw8795295443094505759 tw12479763707861591048 tw8294343332127102895 tw8911451147657177466 tw15290865124984432751 tw13270692845222553016 tw11691822041461080279 tw8192051498525434472 tw15546096799765308602 tw5223323689782496587 tw17681458866846776185 tw2809687678762549804 tw14606821134330062563 tw12373366240564545107 tw11759634890805943173 tw11407564347417397993 tw6368925547658586459 tw11680845416670516756 tw11266742951354855979 tw4486055768576755776 tw13881784107919494987 tw15592916961184655536 tw6974057462389465467 tw3773811934825943615 tw9793877362941736919 tw1526762338401070034 tw3060723455761095181 tw16652634127205645092 tw98101154857925904 tw10131188055797275544 tw9157247737740361762 tw4004152229196878350 tw7393976320425138641 tw8887322990741920339 tw4357756931625164282 tw17554722150559669169 tw2116543455887586856 tw4560320790795081463 tw11236435404464575474 tw9621588244813721378 tw2048605244015673579 tw18049166700334009581 tw10896068690153500534 tw8216614499503715272 tw14606136811843908448 tw5864029883518031951 tw1881080869104797714 tw17042814422694225664 tw7809657975319722877 tw16872791147159689087 tw13052494444790864278 tw6586809400616712930 tw6891408334396410285 tw9441109197192785279 tw7789091719156478592 tw300300557166715352 tw107612938207067332 tw15235993364069475935 tw190967244919418862 tw1406746265339411696 tw11758045601216040708 tw5667655490635541633 tw18335739370383155259 tw13975340382737752104 tw16723191051411685745 tw17842029618543647176 tw16225465142535288740 tw14668310400201392292 tw1873246725446346584 tw9199336662459914793 tw9643602670229997539 tw3628720878306579416 tw17328490410430945325 tw6881223056344987626 tw17036320366384479344 tw15635236981064958932 tw325911831661053926 tw17741365348820800947 tw7999062965179959706 tw17327489909277182924 tw13161427516450373521 tw4017960551502591357 tw17163881487637950810 tw13895846249215336733 tw8156922151351425025 tw2181814368644588913 tw14185135051110946295 tw14089283447905267560 tw15622987533554142346 tw8264966781926054835 tw1871877047561862232 tw59674267852606757 tw989727452097071146 tw15615461612053694165 tw14746415321137812767 tw13095511594950020994 tw15765337029302747736 tw17113160065511704374 tw11853687764921490825 tw2015697108148849871 tw9872671978343383364 tw7155932330801062243 tw2899861469708012829 tw2115727005144046386 tw1254598964270748505 tw966779508908366951 tw5370264186348717653 tw11362398901924345028 tw8106781097073901237 tw14815364308599181491 tw13381471091518888662 tw12311875344263794113 tw4281956844936724679 tw7499437921186179275 tw7270638090669806924 tw483436220947178068 tw18399934837704355823 tw12818101630876537485 tw12766560502351452986 tw12184790826447320571 tw10365768959854404619 tw18333951075890733733 tw14197299705205150628 tw3051689940710829999 tw15304576057508438546 tw13264374443819229717 tw11399901812542141577 tw2317117887357875109 tw1266533917455227246 tw5175149218327226137 tw7889936582851640226 tw9440962904181341498 tw16455199466791663271 tw15326015741400583816 tw4514013165510668464 tw2798374575690398151 tw16615376225475547249 tw14277823434483793423 tw17349343506574620202 tw16020842529268623711 tw11401828004640868207 tw16213664928092494466 tw126227092104564692 tw12121096883119125742 tw385082612706237019 tw7250155735994493296 tw10731272955762104438 tw1162582797789290666 tw1003473387368811331 tw1047549768160066442 tw10598135193186207081 tw3712815911741634149 tw1822859244302192620 tw6846821159723214595 tw11701842843153640854 tw7269853159059851701 tw5152429141626427596 tw2635474159198514060 tw17973623193669949160 tw13387975749287505909 tw14934584804678937363 tw4784690787862871868 tw10927764654582051909 tw7370476068159975933 tw4895186149329906509 tw17752547435703943678 tw17040739197911937538 tw15933021426437178021 tw11667226845393294973 tw11334658339810650873 tw10537159195201124927 tw16725737006992149663 tw8726448916305506033 tw5505531894104520224 tw14951319323416361500 tw12446458942259020365 tw12027554642607998782 tw6064487167638308172 tw3248119084731716444 tw10957544164659767562 tw6942441722362523329 tw16681714035462039661 tw14793321943914932665 tw13859139113645649186 tw9947794084035910010 tw3333627054873494761 tw1226387561019017829 tw8816654862409172622 tw9080295544010065793 tw6949179054812622361 tw5455551080128564262 tw17564804466684075654 tw15304746709721196016 tw10858443621454059252 tw1288409554390499882:Nat)
open PySem PySem.W PyProof.Rows
set_option maxRecDepth 100000 in
set_option maxHeartbeats 0 in
theorem PySem.Challenge.cw_looprank_k33_whole_lowest_ranks_holds : PySem.Challenge.rw_looprank_k33_whole_lowest_ranks.Holds := by
 w_on;o_law;z_head;(case hw=>w_witness2)
 k_fill
 refine Pu.bJr (λP=>by kernel_rfl) (Pu.walk (l:=PySem.Challenge.rw_looprank_k33_whole_lowest_ranks) rfl rfl (λw h Y=>Y) Pu.law_true ?F)
 case F=>
  intro w mg fa h KX G hmg;refine' Pu.all_mk KX G hmg ⟨?x_Machine,?x1_Machine,?x2_Machine,?x3_Machine,?x4_Machine⟩ ?x5_Machine ?x6_Machine ?w_Machine_letters ?w_Machine_many ?w_Machine_ranks ?w_Machine_steps (Pu.cR ?a1 ?l1 ?c1 ?k1) (Pu.cR ?a2 ?l2 ?c2 ?k2) (Pu.cR ?a3 ?l3 ?c3 ?k3) (Pu.cR ?a4 ?l4 ?c4 ?k4) (Pu.cR ?a5 ?l5 ?c5 ?k5) (Pu.cR ?a6 ?l6 ?c6 ?k6) (Pu.cR ?a7 ?l7 ?c7 ?k7) (Pu.cR ?a8 ?l8 ?c8 ?k8) (Pu.cR ?a9 ?l9 ?c9 ?k9) (Pu.cR ?a10 ?l10 ?c10 ?k10) (Pu.cR ?a11 ?l11 ?c11 ?k11) (Pu.cR ?a12 ?l12 ?c12 ?k12) (Pu.cR ?a13 ?l13 ?c13 ?k13) (Pu.cR ?a14 ?l14 ?c14 ?k14) (Pu.cR ?a15 ?l15 ?c15 ?k15) (Pu.cR ?a16 ?l16 ?c16 ?k16) (Pu.cR ?a17 ?l17 ?c17 ?k17) (Pu.cR ?a18 ?l18 ?c18 ?k18) (Pu.cR ?a19 ?l19 ?c19 ?k19) (Pu.cR ?a20 ?l20 ?c20 ?k20) (Pu.cR ?a21 ?l21 ?c21 ?k21) (Pu.cR ?a22 ?l22 ?c22 ?k22) ?a23 ?e23 ?l23 ?c23 ?k23 (Pu.cR ?a24 ?l24 ?c24 ?k24) (Pu.cR ?a25 ?l25 ?c25 ?k25) (Pu.cR ?a26 ?l26 ?c26 ?k26) (Pu.cR ?a27 ?l27 ?c27 ?k27) (Pu.cR ?a28 ?l28 ?c28 ?k28) (Pu.cR ?a29 ?l29 ?c29 ?k29) (Pu.cR ?a30 ?l30 ?c30 ?k30) (Pu.cR ?a31 ?l31 ?c31 ?k31) (Pu.cR ?a32 ?l32 ?c32 ?k32) (Pu.cR ?a33 ?l33 ?c33 ?k33) (Pu.cR ?a34 ?l34 ?c34 ?k34) (Pu.cR ?a35 ?l35 ?c35 ?k35) (Pu.cR ?a36 ?l36 ?c36 ?k36) (Pu.cR ?a37 ?l37 ?c37 ?k37) (Pu.cR ?a38 ?l38 ?c38 ?k38) (Pu.cR ?a39 ?l39 ?c39 ?k39) (Pu.cR ?a40 ?l40 ?c40 ?k40) (Pu.cR ?a41 ?l41 ?c41 ?k41) (Pu.cR ?a42 ?l42 ?c42 ?k42) (Pu.cR ?a43 ?l43 ?c43 ?k43) (Pu.cR ?a44 ?l44 ?c44 ?k44) (Pu.cR ?a45 ?l45 ?c45 ?k45) (Pu.cR ?a46 ?l46 ?c46 ?k46) (Pu.cR ?a47 ?l47 ?c47 ?k47) (Pu.cR ?a48 ?l48 ?c48 ?k48) (Pu.cR ?a49 ?l49 ?c49 ?k49) (Pu.cR ?a50 ?l50 ?c50 ?k50) (Pu.cR ?a51 ?l51 ?c51 ?k51) (Pu.cR ?a52 ?l52 ?c52 ?k52) ?a53 ?e53 ?l53 ?c53 ?k53 (Pu.cR ?a54 ?l54 ?c54 ?k54) (Pu.cR ?a55 ?l55 ?c55 ?k55) (Pu.cR ?a56 ?l56 ?c56 ?k56) (Pu.cR ?a57 ?l57 ?c57 ?k57) (Pu.bQp ?a58 ?e58 ?l58 ?c58 ?k58) ?a59 ?e59 ?l59 ?t59 ?c59 ?k59 ?a60 ?e60 ?l60 ?t60 ?c60 ?k60 ?a61 ?l61 ?c61 ?k61 ?v_LETTERS ?v_MOST_LETTERS ?v_MOST_ROOMS ?z_all ?z_bool ?z_int ?z_isinstance ?z_len ?z_list ?z_max ?z_range ?z_set ?z_sorted ?z_str ?z_sum ?z_tuple ?z_zip
  (case x_Machine|x1_Machine|x2_Machine|x3_Machine|x4_Machine|x5_Machine|x6_Machine|w_Machine_letters|w_Machine_many|w_Machine_ranks|w_Machine_steps|a1|l1|c1|k1|a2|l2|c2|k2|a3|l3|c3|k3|a4=>k_is)
  (case l4|c4|k4|a5|l5|c5|k5|a6|l6|c6|k6|a7|l7|c7|k7|a8|l8|c8|k8|a9|l9|c9|k9|a10=>k_is)
  (case l10|c10|k10|a11|l11|c11|k11|a12|l12|c12|k12|a13|l13|c13|k13|a14|l14|c14|k14|a15|l15|c15|k15|a16=>k_is)
  (case l16|c16|k16|a17|l17|c17|k17|a18|l18|c18|k18|a19|l19|c19|k19|a20|l20|c20|k20|a21|l21|c21|k21|a22=>k_is)
  (case l22|c22|k22|a23|e23|l23|c23|k23|a24|l24|c24|k24|a25|l25|c25|k25|a26|l26|c26|k26|a27|l27|c27|k27=>k_is)
  (case a28|l28|c28|k28|a29|l29|c29|k29|a30|l30|c30|k30|a31|l31|c31|k31|a32|l32|c32|k32|a33|l33|c33|k33=>k_is)
  (case a34|l34|c34|k34|a35|l35|c35|k35|a36|l36|c36|k36|a37|l37|c37|k37|a38|l38|c38|k38|a39|l39|c39|k39=>k_is)
  (case a40|l40|c40|k40|a41|l41|c41|k41|a42|l42|c42|k42|a43|l43|c43|k43|a44|l44|c44|k44|a45|l45|c45|k45=>k_is)
  (case a46|l46|c46|k46|a47|l47|c47|k47|a48|l48|c48|k48|a49|l49|c49|k49|a50|l50|c50|k50|a51|l51|c51|k51=>k_is)
  (case a52|l52|c52|k52|a53|e53|l53|c53|k53|a54|l54|c54|k54|a55|l55|c55|k55|a56|l56|c56|k56|a57|l57|c57=>k_is)
  (case k57|a58|e58|l58|c58|k58|a59|e59|l59|t59|c59|k59|a60|e60|l60|t60|c60|k60|a61|l61|c61|k61|v_LETTERS|v_MOST_LETTERS=>k_is)
  (case v_MOST_ROOMS|z_all|z_bool|z_int|z_isinstance|z_len|z_list|z_max|z_range|z_set|z_sorted|z_str|z_sum|z_tuple|z_zip=>k_is)
