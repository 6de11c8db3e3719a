import PyProof.Rows.All
import Wide.All
import OpenK.AllK
import Wide.FinOn
import Lean
import PyProof.EqAt
import PyProof.EqKinds
import PyProof.TupleCall
import PyProof.P3Eq
import PyProof.NeKinds
import PyProof.NsDelKeeps
import PyProof.RulesAs
import PyProof.ExcAttrAll.ValueError
import PyProof.DictUpdate
import KE.KDictLaws
import PySem.Challenge.RW_looprank_k45_whole_kinds_of_words
set_option Elab.async false
set_option linter.all false
set_option maxRecDepth 100000
def Ha:=@PySem.wpAny_bind
def Zc:=@PySem.Heap.get?_push_of_some
def Xb:=@List.mem_cons_of_mem
def Gb:=@List.mem_cons_self
def Ze:=@List.getElem?_eq_getElem
def Oc:=@decide_eq_true
def Od:=@List.mem_singleton
def yd:=@decide_eq_false
def Ob:=@PySem.wpAny_pure
def Uc:=@List.mem_cons
def Fc:=@Nat.le_refl
def Nd:=@List.mem_filter
def Jd:=@List.mem_range
def vf:=@PySem.Heap.get?_push_size
def zg:=@List.getElem?_eq_some_iff
def Dd:=@PySem.Heap.lt_size
def ng:=@List.getD_eq_getElem?_getD
def Cf:=@decide_eq_true_eq
def Ta:=@if_neg
def Ag:=@List.mem_append_right
def af:=@List.length_append
def jg:=@Nat.lt_of_lt_of_le
def ye:=@Nat.le_trans
def Kd:=@List.length_map
def ze:=@List.length_cons
def xb:=@if_pos
def df:=@Nat.ne_of_lt
def Bg:=@List.getElem?_set
def Ng:=@List.size_toArray
def bj:=@Classical.byContradiction
def Kh:=@List.mem_append_left
def xf:=@List.mem_map
def ph:=@Bool.false_ne_true
def ah:=@List.length_singleton
def Pg:=@List.mem_append
def Qk:=@Array.getElem?_eq_getElem
def Gj:=@List.mem_of_getElem?
def Hj:=@List.exists_mem_of_ne_nil
def bh:=@PySem.Heap.size_push
def Ij:=@PySem.mem_of_lookup
def Um:=@List.getElem?_append_left
def cj:=@List.getElem?_map
def Fi:=@List.getElem_mem
def Lh:=@Nat.lt_irrefl
def Gi:=@List.map_append
def Vm:=@List.length_eq_zero_iff
def Rk:=@List.map_congr_left
def dj:=@List.nodup_cons
def ck:=@of_decide_eq_true
def Mf:=@List.map_cons
def dk:=@Nat.eq_of_testBit_eq
def Sk:=@List.append_assoc
def Hi:=@PySem.wpAny_holding
def dh:=@List.append_nil
def Po:=@PySem.Heap.get?_update_self
def Wm:=@List.replicate_succ
def mm:=@Bool.eq_false_iff
def Xm:=@List.filter_cons_of_pos
def Ym:=@List.filter_cons_of_neg
def oq:=@PySem.Heap.get?_update_other
def Uk:=@Option.some.inj
def om:=@PySem.wpAny_call_entry
def Zm:=@List.nodup_append
def ow:=@PyProof.Rows.callWith_type1
def qt:=@PySem.F.plainAttrs_dict
def Ii:=@List.lookup_cons
def qm:=@PySem.wpAny_ite_split
def vt:=@PySem.wpAny_callSpecial?_slot
def Jj:=@List.map_map
def pw:=@List.getElem?_append_right
def pq:=@beq_eq_false_iff_ne
def fj:=@Bool.and_eq_true
def wt:=@PySem.F.slot_dict_get
def xt:=@List.mem_iff_getElem?
def Qo:=@decide_eq_decide
def Ro:=@List.length_filter_le
def So:=@Array.getElem?_toList
def Vk:=@List.length_range
def rq:=@List.flatten_cons
def To:=@Bool.eq_iff_iff
def ik:=@Nat.testBit_and
def sq:=@List.any_eq_true
def Kj:=@PySem.W.mg_none_of
def yt:=@PySem.wpAny_Call_Name_kw
def zt:=@PySem.tupleKind_room_in1
def dn:=@Int.toNat_natCast
def Bt:=@PySem.wpAny_setField_rec
def RA:=@List.mem_of_find?_eq_some
def Uo:=@PySem.wpAny_seqItems
def qw:=@List.mem_iff_getElem
def Dt:=@PySem.wpAny_truthy_bool
def tq:=@PySem.wpAny_passesOwn
def qh:=@Nat.zero_le
def Et:=@PySem.wpAny_newObj_type
def Ft:=@PySem.wpAny_setState_of
def SA:=@decide_eq_false_iff_not
def UA:=@PySem.wpAny_getItem_str_slice
def VA:=@PySem.F.plainAttrs_list
def tw:=@PySem.Heap.SameBut.update
def uw:=@PySem.wpAny_setEntries_of
def Ht:=@Nat.lt_succ_self
def Jt:=@List.mem_flatMap
def Kt:=@PySem.wpAny_askSetting
def Wk:=@PySem.wpAny_mono
def Xk:=@beq_iff_eq
def WA:=@PySem.Calls.callWith_builtin
def XA:=@PySem.F.entry_dict_get
def YA:=@List.filter_eq_nil_iff
def rm:=@List.length_set
def vw:=@Nat.lt_of_le_of_lt
def Vo:=@PySem.call_meetsIn
def Wo:=@Bool.not_eq_true'
def ZA:=@List.getElem?_eq_none
def kB:=@PySem.F.slot_zip_next
def mB:=@Array.getD_eq_getD_getElem?
def Mt:=@PySem.codeAny_builtin
def nB:=@PySem.Obj.isFreed_of_fields
def BJ:=@Array.getElem?_eq_some_iff
def kn:=@List.foldl_cons
def Nt:=@Bool.and_false
def CJ:=@List.pairwise_iff_getElem
def Ot:=@PySem.wpAny_setField
def ww:=@List.all_eq_true
def oB:=@List.filterMap_cons
def Xo:=@PySem.sizeLine_eq
def qB:=@List.length_pos_iff
def xB:=@List.filter_eq_self
def yB:=@List.getElem?_range
def Yo:=@Nat.not_lt_zero
def uq:=@PySem.codeAny_mono
def Pt:=@PySem.wpAny_standAt
def AB:=@PySem.Calls.spliced_cons
def RY:=@List.findIdx?_eq_some_iff_getElem
def DJ:=@Int.eq_ofNat_of_zero_le
def Qt:=@PySem.wpAny_attempt
def BB:=@PySem.Obj.data_mapFields
def vq:=@List.length_nil
def EJ:=@PySem.F.slot_list_append
def CB:=@List.any_eq_false
def SY:=@List.takeWhile_append_dropWhile
def Zo:=@Nat.testBit_or
def DB:=@PySem.wpAny_pyIter_list
def wq:=@PySem.wpAny_field
def EB:=@PySem.fits_of_scanBound
def GB:=@Nat.lt_succ_of_lt
def ap:=@List.any_cons
def Rt:=@Nat.le_of_eq
def Tt:=@Nat.zero_testBit
def TY:=@List.Nodup.length_le_of_subset
def Ut:=@Nat.zero_add
def FJ:=@List.getElem?_toArray
def Lj:=@Ne.symm
def HB:=@beq_self_eq_true
def IB:=@PySem.wpAny_isInstance
def GJ:=@PySem.Calls.evalArgs_plain
def HJ:=@Nat.pow_le_pow_right
def IJ:=@List.range_eq_range'
def JJ:=@PySem.wpAny_updateSeq_pair
def xw:=@List.zip_cons_cons
def yw:=@PySem.plainId_quiet
def UY:=@PySem.F.slot_dict_setdefault
def xq:=@PySem.call_meets
def JB:=@PySem.wpAny_execs_nil
def KJ:=@PySem.W.plainGet_of
def LJ:=@PySem.W.callWith_K0
def LB:=@PySem.post_val_or_str
def Vt:=@List.nil_append
def VY:=@PySem.Calls.Name_function_global
def WY:=@Int.fdiv_eq_ediv_of_nonneg
def XY:=@List.dropWhile_cons_of_pos
def YY:=@List.dropWhile_cons_of_neg
def ZY:=@List.takeWhile_cons_of_pos
def AZ:=@List.takeWhile_cons_of_neg
def BZ:=@List.length_eraseIdx_of_lt
def zw:=@Nat.le_of_lt
def MJ:=@Int.natCast_nonneg
def NJ:=@PySem.W.callWith_K
def Aw:=@Nat.lt_trans
def Bw:=@List.any_map
def OJ:=@Nat.pos_of_ne_zero
def PJ:=@Nat.one_lt_two_pow
def Cw:=@PySem.F.called_set
def CZ:=@List.getLast?_eq_getElem?
def DZ:=@Nat.lt_pow_two_of_testBit
def EZ:=@List.drop_eq_getElem_cons
def MB:=@List.Perm.refl
def OB:=@PySem.wpAny_fieldsOf
def FZ:=@PySem.F.plain_extend_loop
def QJ:=@PySem.Calls.spliced_nil
def GZ:=@Option.isSome_iff_exists
def RJ:=@Option.isSome_map
def Wt:=@Bool.or_eq_true
def SJ:=@List.ext_getElem?
def TJ:=@Nat.le_of_succ_le
def Xt:=@PySem.wpAny_rule
def HZ:=@PyProof.Rows.boot_sorted
def IZ:=@PySem.F.slot_dict_update
def JZ:=@PySem.F.slot_dict_values
def KZ:=@PySem.F.args_list_append_2
def LZ:=@PySem.F.args_dict_get_2
def MZ:=@PySem.F.args_dict_get_3
def PB:=@PySem.wpAny_onRaise
def NZ:=@PySem.F.slot_list_index
def OZ:=@PySem.F.slot_dict_items
def UJ:=@PySem.W.makes_of
def VJ:=@List.getElem_map
def WJ:=@Nat.le_add_right
def PZ:=@List.getElem?_set_self
def QZ:=@PySem.W.cellsFrom_some
def RZ:=@Nat.testBit_lt_two_pow
def TZ:=@List.length_pos_of_mem
def UZ:=@List.find?_cons_of_pos
def VZ:=@List.find?_cons_of_neg
def WZ:=@List.take_of_length_le
def XZ:=@List.range_succ_eq_map
def YZ:=@PySem.F.entry_zip_next
def ZZ:=@List.pairwise_lt_range
def QB:=@Nat.ne_of_gt
def j0:=@PySem.W.methodCall_KW
def bp:=@Nat.le_succ
def XJ:=@List.of_mem_zip
def y0:=@PySem.F.type_dict_get
def z0:=@Classical.choose_spec
def A0:=@List.singleton_append
def YJ:=@List.find?_some
def Yt:=@List.nodup_nil
def B0:=@List.eq_nil_or_concat
def F0:=@List.concat_eq_append
def ZJ:=@PySem.wpAny_specialOf
def G0:=@List.dropLast_eq_take
def Dw:=@List.filter_nil
def Ew:=@PySem.intKind_is
def H0:=@List.getElem?_set_ne
def I0:=@PySem.W.looks_findIn
def J0:=@List.findIdx?_isSome
def K0:=@Bool.and_eq_true_iff
def L0:=@List.getElem_toArray
def M0:=@Array.getElem_toList
def RB:=@List.not_mem_nil
def cK:=@Bool.false_or
def Fw:=@Eq.trans
section
open PySem PySem.Spec PyProof.Rows
abbrev ac:=List Nat
abbrev am:=List (List Nat)
abbrev be:=Value->Shared->Prop
abbrev bv:=List Addr
abbrev ca:=List (Addr×Obj)
abbrev cr:=List Value
abbrev db:=Str->Option Value
abbrev im:=List (Nat×List Nat)
abbrev jp:=List Int
abbrev kt:=Array (Int×Value)
abbrev li:=Nat->Nat
abbrev na:=Shared->Prop
abbrev no:=Nat->Bool
abbrev o0:=Option Addr
abbrev pi:=List Str
abbrev pp:=Unit->Shared->Prop
abbrev re:=Option (Value×Nat)->Shared->Prop
abbrev sw:=List String
abbrev sK:=Array (Option Value)
abbrev tz:=List (Str×Addr)
abbrev ut:=Option Int
abbrev u8:=List Env
abbrev v4:=List (Str×Value)
abbrev v6:=Bool->Shared->Prop
abbrev wn:=Option Value->Shared->Prop
abbrev wp:=Nat->Nat->Prop
abbrev wv:=Array Value
abbrev wE:=Nat×List Nat
abbrev wS:=Nat->Heap->Prop
abbrev xL:=Nat->List Nat
abbrev At:=List Bool
abbrev AT:=World->Heap->Prop
end
open PySem.Str(ofString)
namespace L2
open PySem PySem.Spec PyProof.Rows
abbrev Hc:=Sum Int Str
def fq:Hc->Value->Bool
 |.inl k,v=>Value.isInt k v
 |.inr x,v=>Value.isStrOf x v
def bS7(w:World):Hc->Int
 |.inl k=>hashInt k
 |.inr x=>hashStr w x
def iR:∀{k:Hc}{v:Value},fq k v=true->(∃i t,k=Sum.inl i/\v=Value.int i t)\/(∃x t,k=Sum.inr x/\v=Value.str x t)
 |.inl i,v,h=>by
  obtain⟨t,e⟩:=Value.isInt_shape h;exact .inl ⟨i,t,rfl,e⟩
 |.inr x,v,h=>by
  obtain⟨t,e⟩:=Value.isStrOf_shape h;exact .inr ⟨x,t,rfl,e⟩
def Ϧ(i:Int)(t:Tok):fq (.inl i) (.int i t)=true:=by simp[fq,Value.isInt]
def ϧ(x:Str)(t:Tok):fq (.inr x) (.str x t)=true:=by simp[fq,Value.isStrOf]
def pV(a b:Int):decide ((Sum.inl a:Hc)=Sum.inl b)=(a==b):=by
 by_cases e:a=b
 .subst e;simp
 rw[yd<|λq=>e<|Sum.inl.inj q]
 exact(pq.mpr e).symm
def qV(a b:Str):decide ((Sum.inr a:Hc)=Sum.inr b)=decide (a=b):=by
 by_cases e:a=b
 .simp
 rw[yd<|λq=>e<|Sum.inr.inj q,yd e]
def rV(a:Int)(b:Str):decide ((Sum.inl a:Hc)=Sum.inr b)=false:=yd (λq=>nomatch q)
def AV(a:Str)(b:Int):decide ((Sum.inr a:Hc)=Sum.inl b)=false:=yd (λq=>nomatch q)
def lH(prog:Program)(w:World):PySem.KeyKind prog w Hc where
 is:=fq
 hash:=bS7 w
 inj:=λv a b g d=>by
  rcases iR g with ⟨i,t,rfl,rfl⟩|⟨x,t,rfl,rfl⟩
  .rcases iR d with ⟨j,u,rfl,e⟩|⟨y,u,rfl,e⟩
   .injection e with e1 _;rw[e1]
   .exact nomatch e
  .rcases iR d with ⟨j,u,rfl,e⟩|⟨y,u,rfl,e⟩
   .exact nomatch e
   .injection e with e1 _;rw[e1]
 byValue:=λk v h=>by
  rcases iR h with ⟨i,t,rfl,rfl⟩|⟨x,t,rfl,rfl⟩ <;> rfl
 pyHash:=λc h=>by
  rcases iR c with ⟨i,t,rfl,rfl⟩|⟨x,t,rfl,rfl⟩
  .exact wpAny_pyHash_int h
  .exact wpAny_pyHash_str h
 eqBool:=λf c h=>by
  rcases iR f with ⟨i,t,rfl,rfl⟩|⟨x,t,rfl,rfl⟩
  .rcases iR c with ⟨j,u,rfl,rfl⟩|⟨y,u,rfl,rfl⟩
   .rw[pV]at h;exact wpAny_eqBool_int h
   .rw[rV]at h;exact SeqAt.EqAt.int_str i t y u _ _ _ _ h
  .rcases iR c with ⟨j,u,rfl,rfl⟩|⟨y,u,rfl,rfl⟩
   .rw[AV]at h;exact SeqAt.EqAt.str_int x t j u _ _ _ _ h
   .rw[qV]at h;exact wpAny_eqBool_str h
 «strs» := λk x t v h=>by
  rcases iR h with ⟨i,u,rfl,e⟩|⟨y,u,rfl,e⟩
  .exact nomatch e
  .injection e with e1 _
   subst e1;cases v<;>rfl
def x_(prog:Program)(w:World)(i:Int)(t:Tok):(lH prog w).is (.inl i) (.int i t)=true:=Ϧ i t
def y_(prog:Program)(w:World)(x:Str)(t:Tok):(lH prog w).is (.inr x) (.str x t)=true:=ϧ x t
inductive V where
 |Tb|bl (b:Bool)|int (i:Int)|str (x:Str)|TB (b:Array UInt8)|bu (b:UInt64)|ref (a:Addr)|ty (n:String)
 deriving DecidableEq
abbrev _root_.ls:=List V
abbrev _root_.ul:=List (Str×V)
def RelV:V->Value->Prop
 |.Tb,u=>u=Value.none
 |.bl b,u=>u=Value.bool b
 |.int i,u=>∃t,u=Value.int i t
 |.str x,u=>∃t,u=Value.str x t
 |.TB b,u=>∃t,u=Value.bytes b t
 |.bu b,u=>∃t,u=Value.float b t
 |.ref a,u=>u=Value.ref a
 |.ty n,u=>u=Value.type n
abbrev Ia:List V->List Value->Prop:=Paired RelV
theorem Ia.length(r:Ia xs us):xs.length=us.length:=Paired.length r
theorem Ia.get:∀{xs:ls}{us:cr}{i:Nat}{x:V},Ia xs us->xs[i]?=some x->∃u,us[i]?=some u/\RelV x u
 |_,_,_,_,.nil,e=>by simp at e
 |_,_,0,_,.cons r _,e=>by simp at e;subst e;exact⟨_,rfl,r⟩
 |_,_,i+1,x,.cons _ t,e=>by
  obtain⟨u,b,a⟩:=Ia.get t (by simpa using e)
  exact⟨u,by simpa using b,a⟩
theorem Ia.set(r:RelV x u):∀{xs:ls}{us:cr}(i:Nat),Ia xs us->Ia (xs.set i x) (us.set i u)
 |_,_,_,.nil=>.nil
 |_,_,0,.cons _ t=>.cons r t
 |_,_,i+1,.cons q t=>.cons q<|Ia.set r i t
theorem Ia.append:∀{xs a:ls}{us b:cr},Ia xs us->Ia a b->Ia (xs++a) (us++b)
 |_,_,_,_,.nil,s=>s
 |_,_,_,_,.cons r t,s=>.cons r<|Ia.append t s
theorem Ia.take:∀{xs:ls}{us:cr}(n:Nat),Ia xs us->Ia (xs.take n) (us.take n)
 |_,_,0,_=>.nil
 |_,_,_+1,.nil=>.nil
 |_,_,n+1,.cons r t=>.cons r<|Ia.take n t
theorem Ia.drop:∀{xs:ls}{us:cr}(n:Nat),Ia xs us->Ia (xs.drop n) (us.drop n)
 |_,_,0,r=>r
 |_,_,_+1,.nil=>.nil
 |_,_,n+1,.cons _ t=>Ia.drop n t
def Hh:Option V->Option Value->Prop
 |some v,some u=>RelV v u
 |none,none=>True
 |_,_=>False
def KV{a:Type}:List (a×V)->List (a×Value)->Prop:=Paired λ(p:a×V)(q:a×Value)=>p.1=q.1/\RelV p.2 q.2
def kV:Hc->V
 |.inl i=>.int i
 |.inr x=>.str x
inductive HO where
 |lst (xs:ls)
 |tup (xs:ls)
 |dK (ka:List (Hc×V))|dT (ka:List (List Hc×V))
 |set (S:Int->Bool) (n:Nat)
 |ins (C dx:Addr) (fs:ul)
 |own (x:Addr)
 |xd (fs:ul)
 |met (f x:Addr)
 |uk (lo hi:Int)
 |pk (o:Obj) (u:HO)
 |Kp (ps:wv)
 |ext (φ:Heap->Prop)
abbrev Hp:=Addr->Option HO
abbrev _root_.s0:=Hp->Prop
abbrev _root_.zn:=List V->Hp->Prop
abbrev _root_.AC:=Hp->List V->Prop
abbrev _root_.Da:=Bool->Hp->Prop
def Nb(H:Hp)(a:Addr)(o:HO):Hp:=λb=>if b=a then some o else H b
def cG:Nb H a o a=some o:=by unfold Nb;rw[xb rfl]
def bR{a b:Addr}(h:b≠a):Nb H a o b=H b:=by unfold Nb;rw[Ta h]
def bPf{H:Hp}(h:H a=some o)(c:H b=some u)(d:o≠u):a≠b:=by
 intro e;subst e;rw[h]at c;exact d<|Uk c
def bI{H:Hp}(h:H a=some o)(c:H b=none):a≠b:=by
 intro e;subst e;rw[h]at c;cases c
section
variable(P:Program)(w:World)
def rZ(H:Hp)(h:Heap)(a:Addr):HO->Prop
 |.lst b=>b.length<=sizeLine/\∃(e:cr)(n:Nat),Ia b e/\h.get? a=some {cls:=.type "list",data:=.seq e.toArray n}
 |.tup b=>b.length<=sizeLine/\∃e:cr,Ia b e/\IsTup h a e.toArray
 |.dK d=>d.length<=sizeLine/\(a==sysModules)=false/\∃j,KV d j/\h.DictOf (lH P w) a j
 |.dT d=>d.length<=sizeLine/\(a==sysModules)=false/\∃b:List (List Hc×Addr×Value),
   Paired (λ(p:List Hc×V)(q:List Hc×Addr×Value)=>p.1=q.1/\H q.2.1=some (.tup<|p.1.map kV)/\RelV p.2 q.2.2) d b/\
   ∃o m y,h.get? a=some o/\o.ExactDict/\o.data=.dict m y/\m.toList=b.map (entryOfKey<|tupleKind<|lH P w)/\(b.map (·.1)).Nodup
 |.set S n=>h.SetOf (intKind P w) a S n
 |.ins C g fs=>H g=some (.own a)/\fs.length<=1000/\g≠a/\h.get? a=some (PySem.W.instObj C g)/\
   ∃c,h.Ns1 g c/\(∀f,Hh (fs.lookup f)<|c f)/\PySem.Within c (fs.map (·.1))
 |.own _=>∃o,h.get? a=some o
 |.xd fs=>∃c,h.Ns1 a c/\∀f,Hh (fs.lookup f)<|c f
 |.uk lo s=>∃t u v,h.get? a=some {cls:=.type "range",data:=.fields #[.int lo t,.int s u,.int 1 v]}
 |.pk o u=>h.get? a=some o/\rZ H h a u
 |.Kp r=>h.get? a=some {cls:=.none,data:=.fields r}
 |.met f x=>h.get? a=some (PySem.W.methodObj (.ref f)<|.ref x)
 |.ext i=>i h/\(∃o,h.get? a=some o)/\∀l k:Heap,i l->(∀o,l.get? a=some o->k.get? a=some o)->i k
def Ff(H:Hp)(h:Heap):Prop:=∀a o,H a=some o->rZ P w H h a o
end
section
variable{P:Program}{w:World}{H H':Hp}{h h':Heap}{a:Addr}{o:HO}
theorem rZ.lt(x:rZ P w H h a o):a<h.objs.size:=by
 cases o with
 |lst b=>obtain⟨_,_,_,_,e⟩:=x;exact Dd e
 |tup b=>obtain⟨_,_,_,p⟩:=x;exact p.lt
 |dK c=>obtain⟨_,_,_,_,o,_,_,e,_⟩:=x;exact Dd e
 |dT c=>obtain⟨_,_,_,_,o,_,_,e,_⟩:=x;exact Dd e
 |set S n=>obtain⟨o,_,_,_,e,_⟩:=x;exact Dd e
 |ins C k fs=>obtain⟨_,_,_,e,_⟩:=x;exact Dd e
 |own y=>obtain⟨_,e⟩:=x;exact Dd e
 |xd fs=>obtain⟨_,⟨_,_,_,e,_⟩,_⟩:=x;exact Dd e
 |uk lo j=>obtain⟨_,_,_,e⟩:=x;exact Dd e
 |pk i u=>obtain⟨e,_⟩:=x;exact Dd e
 |Kp g=>exact Dd<|x
 |met f y=>exact Dd<|x
 |ext d=>obtain⟨_,⟨_,e⟩,_⟩:=x;exact Dd e
theorem Paired.Yq{d c:Type}{F G:d->c->Prop}:∀{e:List d}{l₂:List c},Paired F e l₂->(∀a b,F a b->G a b)->Paired G e l₂
 |_,_,.nil,_=>.nil
 |_,_,.cons r t,f=>.cons (f _ _ r)<|Paired.Yq t f
def rZ.Sf(x:rZ P w H h a o)(k:∀b u,(b=a\/H b=some (.own a))->h.get? b=some u->h'.get? b=some u)
  (G:∀b,H b=some (.own a)->H' b=some (.own a)) (F:∀b xs,H b=some (.tup xs)->H' b=some (.tup xs)):rZ P w H' h' a o:=by
 induction o with
 |lst xs=>obtain⟨z,s,n,r,e⟩:=x;exact⟨z,s,n,r,k _ _ (.inl rfl) e⟩
 |tup xs=>obtain⟨z,s,r,g,e,c⟩:=x;exact⟨z,s,r,g,k _ _ (.inl rfl) e,c⟩
 |dK D=>obtain⟨z,y,A,r,g,i,j,e,c⟩:=x;exact⟨z,y,A,r,g,i,j,k _ _ (.inl rfl) e,c⟩
 |dT D=>
  obtain⟨z,y,xs,r,g,i,j,e,c⟩:=x;exact⟨z,y,xs,Paired.Yq r λp q z=>⟨z.1,F _ _ z.2.1,z.2.2⟩,g,i,j,k _ _ (.inl rfl) e,c⟩
 |set S n=>obtain⟨g,i,j,t,e,c⟩:=x;exact⟨g,i,j,t,k _ _ (.inl rfl) e,c⟩
 |ins C L fs=>
  obtain⟨d,z,B,e,m,⟨l,i,j,e2,c⟩,r⟩:=x;exact⟨G _ d,z,B,k _ _ (.inl rfl) e,m,⟨l,i,j,k _ _ (.inr d) e2,c⟩,r⟩
 |own y=>obtain⟨g,e⟩:=x;exact⟨g,k _ _ (.inl rfl) e⟩
 |xd fs=>obtain⟨m,⟨l,i,j,e,c⟩,r⟩:=x;exact⟨m,⟨l,i,j,k _ _ (.inl rfl) e,c⟩,r⟩
 |uk lo K=>obtain⟨t,u,v,e⟩:=x;exact⟨t,u,v,k _ _ (.inl rfl) e⟩
 |pk g u E=>obtain⟨e,q⟩:=x;exact⟨k _ _ (.inl rfl) e,E q⟩
 |Kp J=>
  exact k a _ (.inl rfl) x
 |met f y=>
  exact k a _ (.inl rfl) x
 |ext I=>obtain⟨p,⟨o,e⟩,st⟩:=x;exact⟨st _ _ p λo q=>k _ _ (.inl rfl) q,⟨o,k _ _ (.inl rfl) e⟩,st⟩
theorem Ff.lt(x:Ff P w H h)(e:H a=some o):a<h.objs.size:=(x a o e).lt
def Ff.fresh(x:Ff P w H h)(e:h.objs.size<=a):H a=none:=by
 cases q:H a with
 |none=>rfl
 |some u=>exact absurd (jg (x.lt q) e)<|Lh _
def Ff.kept(x:Ff P w H h)(k:∀b u,h.get? b=some u->h'.get? b=some u):Ff P w H h':=λa o e=>
 (x a o e).Sf (λb u _ q=>k b u q) (λ_ q=>q) λ_ _ q=>q
def Ff.laid(x:Ff P w H h)(k:∀b u,h.get? b=some u->h'.get? b=some u)(i:h.objs.size<=a)(d:rZ P w (Nb H a o) h' a o):Ff P w (Nb H a o) h':=λb u e=>by
 have f:=x.fresh i
 by_cases g:b=a
 .subst g;rw[cG]at e;cases e;exact d
 rw[bR g]at e;exact(x b u e).Sf (λc v _ q=>k c v q) (λc q=>by rwa [bR<|bI q f]) λc j q=>by rwa [bR<|bI q f]
end
def Rd(H:Hp)(a:Addr)(u:HO):Prop:=H a=some u\/∃o,H a=some (.pk o u)
def Rd.ok(r:Rd H a u)(x:Ff P w H h):rZ P w H h a u:=by
 rcases r with r|⟨o,r⟩
 .exact x a u r
 obtain⟨_,q⟩:=x a _ r;exact q
def Qh:Option HO->Prop
 |some (.lst _)=>True
 |some (.dK _)=>True
 |some (.dT _)=>True
 |some (.set _ _)=>True
 |some (.ins _ _ _)=>True
 |some (.ext _)=>True
 |_=>False
section
variable{P:Program}{w:World}{H:Hp}{h h':Heap}{x e:Addr}{o':HO}
def Ff.write(ok:Ff P w H h)(l:Qh (H x))(he:e=x\/H e=some (.own x))(k:∀b u,b≠e->h.get? b=some u->h'.get? b=some u)(m:∃u,h'.get? e=some u)
  (g:rZ P w (Nb H x o') h' x o'):Ff P w (Nb H x o') h':=λb u q=>by
 have d:∀c y,H c=some (.own y)->c≠x:=λc y r z=>by subst z;rwa [r]at l
 by_cases f:b=x
 .subst f;rw[cG]at q;cases q;exact g
 rw[bR f]at q
 by_cases a:b=e
 .have j:H b=some (.own x):=by
   rcases he with z|z
   .exact absurd (a.trans z) f
   rwa [a]
  rw[q]at j;cases j;obtain⟨v,n⟩:=m;exact⟨v,by rwa [a]⟩
 refine(ok b u q).Sf (λc v hc r=>k c v ?_ r) (λc r=>by rwa [bR<|d c b r]) λc i r=>by rwa [bR<|(λc i r z=>by subst z;rwa [r]at l) c i r]
 rcases hc with rfl|hc
 .exact a
 rintro rfl;rcases he with z|z
 .exact d c b hc z
 rw[hc]at z;cases z;exact f rfl
end
structure Un(fs ex:bv)(H H':Hp)(h h':Heap):Prop where
 keep:∀b o,h.get? b=some o->H b=none->b∉fs->b∉ex->h'.get? b=some o
 slot:∀b o,h.get? b=some o->H b=none->b∈fs->b∉ex->∃sl,h'.get? b=some {o with slots:=sl}
 free:∀b o,h.get? b=some o->H b=none->b∉ex->H' b=none
 there:∀b o,h.get? b=some o->b∉ex->∃o',h'.get? b=some o'
 Eh:∀b xs,H b=some (.tup xs)->H' b=some (.tup xs)
 Rg:∀b o u,H b=some (.pk o u)->H' b=some (.pk o u)
 Dh:∀b ps,H b=some (.Kp ps)->∃more,H' b=some (.Kp<|ps++more)
section
variable{fs fs' ex ex':bv}{H H1 H2:Hp}{h h1 h2 h':Heap}{a x e:Addr}{o:HO}
def Un.any(u:Un fs ex H H1 h h1){b:Addr}{a:Obj}(q:h.get? b=some a)(n:H b=none)(c:b∉ex):∃e,h1.get? b=some {a with slots:=e}:=by
 by_cases d:b∈fs
 .exact u.slot b a q n d c
 exact⟨a.slots,u.keep b a q n d c⟩
def Un.kept(k:∀b u,h.get? b=some u->h'.get? b=some u):Un fs ex H H h h':=
 ⟨λb a q _ _ _=>k b a q,λb a q _ _ _=>⟨a.slots,k b a q⟩,λ_ _ _ n _=>n,λb a q _=>⟨a,k b a q⟩,λ_ _ q=>q,λ_ _ _ q=>q,λ_ c q=>⟨#[],by rw[q];simp⟩⟩
def Un.refl:Un fs ex H H h h:=Un.kept λ_ _ q=>q
def Un.laid(k:∀b u,h.get? b=some u->h'.get? b=some u)(e:h.objs.size<=a)(c:H a=none):Un fs ex H (Nb H a o) h h' where
 keep:=λb u q _ _ _=>k b u q
 slot:=λb u q _ _ _=>⟨u.slots,k b u q⟩
 free:=λb u q n _=>by rwa [bR<|df<|jg (Dd q) e]
 there:=λb u q _=>⟨u,k b u q⟩
 Eh:=λb d q=>by rwa [bR<|bI q c]
 Rg:=λb u d q=>by rwa [bR<|bI q c]
 Dh:=λb f q=>⟨#[],by rw[bR<|bI q c,q];simp⟩
def Un.write(c:Qh (H x))(he:e=x\/H e=some (.own x))(k:∀b u,b≠e->h.get? b=some u->h'.get? b=some u)(l:∃u,h'.get? e=some u):Un fs ex H (Nb H x o) h h':=by
 have f:∀b,H b=none->b≠x:=λb n z=>by subst z;rwa [n]at c
 have g:∀b,H b=none->b≠e:=λb n z=>by
  subst z;rcases he with r|r
  .exact f b n r
  rw[n]at r;cases r
 have d:∀b u,H b=some u->¬ Qh (some u)->b≠x:=λb u q j z=>by subst z;rw[q]at c;exact j c
 refine⟨λb u q n _ _=>k b u (g b n) q,λb u q n _ _=>⟨u.slots,k b u (g b n) q⟩,λb u q n _=>by rwa [bR<|f b n],λb u q _=>?_,
  λb i q=>by rwa [bR<|d b _ q λz=>z],λb u i q=>by rwa [bR<|d b _ q λz=>z],λb m q=>⟨#[],by rw[bR<|d b _ q λz=>z,q];simp⟩⟩
 by_cases a:b=e
 .subst a;exact l
 exact⟨u,k b u a q⟩
end
def trk(h:Heap)(H:Hp):bv:=(List.range h.objs.size).filter λa=>(H a).isSome
def Vs(h:Heap)(H:Hp):Heap:=PySem.W.hideAll h<|trk h H
def Ϩ(h:Heap)(H:Hp):(Vs h H).objs.size=h.objs.size:=PySem.W.hideAll_size _ _
def ù{h:Heap}{H:Hp}(e:h.get? b=some o)(n:H b=none):(Vs h H).get? b=some o:=
 PySem.W.hideAll_get _ e λa=>by
  have q:=(Nd.mp a).2;rw[n]at q;simp at q
def ŏ(e:(Vs h H).get? b=some o):h.get? b=some o/\H b=none:=by
 have a:=PySem.W.of_hideAll _ e;refine⟨a,?_⟩;cases q:H b with
 |none=>rfl
 |some x=>
  have z:(Vs h H).get? b=none:=PySem.W.hideAll_none _<|Nd.mpr ⟨Jd.mpr<|Dd a,by simp[q]⟩
  rw[z]at e;cases e
def Ő(g h:Heap)(L:Addr):ca:=(List.range h.objs.size).filterMap λa=>if a=L\/(g.get? a).isSome=true then none else (h.get? a).map λo=>(a,o)
def rest(g h:Heap)(L d:Addr):ca:=(Ő g h L).filter λp=>decide (p.1≠d)
structure Mod(K:PySem.W.Frag)(mg:db)(base:Heap):Prop where
 Jx:K.In base
 glob:base.Ns mainGlobals mg
 blt:∃mb,base.Ns builtinsNs mb/\∀x:Str,x≠"__name__"->mb x=bootBuiltins x
 nolimit:base.NoLimit
structure Cx where
 prog:Program
 w:World
 K:PySem.W.Frag
 mg:db
 base:Heap
 A:Around
 N:pi
 Ea:Shared
 Na:Hp
 env:Env
 outer:u8
 stack:u8
 ex:bv
 fn:Str->Bool
 calm:Bool
 pn:ca
 xe:be
def nk(l:u8):bv:=l.filterMap (·.frame)
abbrev Cx.fs(X:Cx):bv:=nk X.outer
def Rh(a:Scope)(x:Str):Prop:=a.names.lookup x=some .local\/a.names.lookup x=some .cell\/a.names.lookup x=some .free
def Loc(a:Scope)(x:Str):Prop:=a.names.lookup x=some .local\/a.names.lookup x=some .cell
def Look(env:Env)(h:Heap)(m:db)(x:Str)(u:Value):Prop:=
 (env.kindOf x=some .local/\m x=some u)\/((env.kindOf x=some .cell\/env.kindOf x=some .free)/\∃c,env.cells.lookup x=some c/\h.IsCell c (some u))
structure Cx.Ok(X:Cx):Prop where
 mod:Mod X.K X.mg X.base
 kind:X.env.scope.kind=.function
 glob:X.env.globals=mainGlobals
 blt:X.env.builtins=builtinsNs
 above:X.Ea.heap.objs.size<=X.env.locals
 inj:∀x y c,X.env.cells.lookup x=some c->X.env.cells.lookup y=some c->x=y
 has:∀x,(X.env.kindOf x=some .cell\/X.env.kindOf x=some .free)->∃c,X.env.cells.lookup x=some c
 Iw:∀x c,X.fn x=true->X.env.cells.lookup x=some c->X.Ea.heap.objs.size<=c
 hd:X.calm=true->X.A.handled=none
 frames:X.A.frames=some X.stack
 MC:X.stack=X.outer\/(X.stack=X.env::X.outer/\X.env.frame=some X.env.locals)
 XB:∀b∈X.ex,b≠X.env.locals/\∀x c,X.env.cells.lookup x=some c->c≠b
 bs:∀b o,X.base.get? b=some o->X.Ea.heap.get? b=some o/\X.Na b=none
 mn:X.base.objs.size<=X.Ea.heap.objs.size
 Pl:∀b o,X.base.get? b=some o->b∉X.ex
 kl:∀b∈X.ex,b∉X.fs
 og:X.Ea.heap.FunFrames X.base X.outer
 Bq:∀b∈X.fs,X.Na b=none
structure Aa(X:Cx)(aa:ca)(σ:List (Option V))(H:Hp)(s:Shared):Prop where
 ok:X.Ok
 os:s.os=X.Ea.os
 bare:AllBare s.gens
 base:Un X.fs X.ex X.Na H X.Ea.heap s.heap
 loc:∃m,s.heap.Ns X.env.locals m/\∀(i:Nat)(x:Str)(v:V),X.N[i]?=some x->σ[i]?=some (some v)->Rh X.env.scope x->∃u,RelV v u/\Look X.env s.heap m x u
 cell:∀x c,X.env.cells.lookup x=some c->∃v,s.heap.IsCell c v
 free:H X.env.locals=none
 Df:∀x c,X.env.cells.lookup x=some c->H c=none
 pin:∀p∈X.pn++aa,s.heap.get? p.1=some p.2/\H p.1=none/\p.1≠X.env.locals/\p.1∉X.fs/\∀v,p.2.data≠.cell v
 Bb:Ff X.prog X.w H s.heap
 len:σ.length=X.N.length
section
variable{X:Cx}{aa:ca}{σ:List (Option V)}{H H':Hp}{s:Shared}{h':Heap}
def Cx.Ok.ML(ok:X.Ok){b:Addr}{o:Obj}(e:X.base.get? b=some o):b∉X.fs:=λa=>by
 have:=(ok.og.mem a).1;rw[e]at this;cases this
theorem Aa.bs(I:Aa X aa σ H s):∀b o,X.base.get? b=some o->s.heap.get? b=some o/\H b=none:=λb o e=>
 ⟨I.base.keep b o (I.ok.bs b o e).1 (I.ok.bs b o e).2 (I.ok.ML e)<|I.ok.Pl b o e,I.base.free b o (I.ok.bs b o e).1 (I.ok.bs b o e).2<|I.ok.Pl b o e⟩
def Aa.bk(I:Aa X aa σ H s):∀b o,X.base.get? b=some o->s.heap.get? b=some o:=λb o e=>(I.bs b o e).1
theorem Aa.mod(I:Aa X aa σ H s):Mod X.K X.mg X.base:=I.ok.mod
def Aa.ug(I:Aa X aa σ H s):X.K.In s.heap:=I.ok.mod.Jx.keeps I.bk
theorem Aa.lt(I:Aa X aa σ H s):X.env.locals<s.heap.objs.size:=let ⟨_,a,_⟩:=I.loc;a.lt
def Aa.sz(I:Aa X aa σ H s):X.Ea.heap.objs.size<=s.heap.objs.size:=ye I.ok.above<|zw I.lt
def Aa.NL(I:Aa X aa σ H s){a:Addr}(h:s.heap.objs.size<=a):a∉X.fs:=λc=>by
 obtain⟨_,o,b,_⟩:=I.ok.og.mem c;exact absurd (jg (Dd b)<|ye I.sz h)<|Lh _
def Aa.Aq(I:Aa X aa σ H s):∀x c,X.env.cells.lookup x=some c->c≠X.env.locals:=λx c e z=>by
 obtain⟨v,o,a,b⟩:=I.cell x c e;obtain⟨m,⟨g,h,i,f,d,_⟩,_⟩:=I.loc;rw[z,f]at a;cases a;rw[d]at b;cases b
theorem Aa.og(I:Aa X aa σ H s):s.heap.FunFrames X.base X.outer:=by
 have all:∀(l:u8),(∀b∈nk l,b∈X.fs)->X.Ea.heap.FunFrames X.base l->s.heap.FunFrames X.base l:=by
  intro l
  induction l with
  |nil=>intro _ _;trivial
  |cons p r g=>
   intro f k;obtain⟨m,⟨L,o,a,j,i,n⟩,h⟩:=k;have d:=f L (by unfold nk;rw[oB,a];exact Gb)
   obtain⟨q,e⟩:=I.base.slot L o i (I.ok.Bq L d) d λz=>I.ok.kl L z d
   exact⟨m,⟨L,_,a,j,e,n⟩,g (λb c=>f b<|by unfold nk;rw[oB,a];exact Xb _ c) h⟩
 exact all X.outer (λ_ c=>c) I.ok.og
theorem Aa.stack(I:Aa X aa σ H s):s.heap.FunFrames X.base X.stack:=by
 rcases I.ok.MC with e|⟨e,b⟩
 .rw[e];exact I.og
 rw[e];obtain⟨m,a,_⟩:=I.loc;exact .cons (by rw[I.ok.kind];decide) b a (Heap.get?_none_of_le<|ye I.ok.mn I.ok.above) I.og
def Aa.Yi(I:Aa X aa σ H s):∀b∈nk X.stack,b∈X.env.locals::X.fs:=λb a=>by
 rcases I.ok.MC with e|⟨e,c⟩
 .rw[e]at a;exact Xb _ a
 rw[e]at a;unfold nk at a
 rwa [oB,c]at a
def Aa.vj(I:Aa X aa σ H s):∀b∈nk X.stack,H b=none:=λb a=>by
 rcases Uc.mp (I.Yi b a) with e|a
 .rw[e];exact I.free
 obtain⟨_,o,c,_⟩:=I.ok.og.mem a;exact I.base.free b o c (I.ok.Bq b a) λz=>I.ok.kl b z a
def Aa.step{t':Nat}{d':Drawn}{ch:bv}(I:Aa X aa σ H s)
  (w:∀b∈ch,(b∈X.ex\/X.Ea.heap.objs.size<=b)/\b≠X.env.locals/\(∀x c,X.env.cells.lookup x=some c->c≠b)/\∀p∈X.pn++aa,p.1≠b)
  (keep:∀b o,b≠X.env.locals->b∉X.fs->b∉ch->s.heap.get? b=some o->H b=none->h'.get? b=some o)
  (g:∀b o,b≠X.env.locals->b∈X.fs->b∉ch->s.heap.get? b=some o->H b=none->∃D,h'.get? b=some {o with slots:=D}) (free:∀b o,b∉ch->s.heap.get? b=some o->H b=none->H' b=none)
  (h:∀b o,b∉ch->s.heap.get? b=some o->∃o',h'.get? b=some o')
  (R:∀b xs,H b=some (.tup xs)->H' b=some (.tup xs)) (Q:∀b o u,H b=some (.pk o u)->H' b=some (.pk o u)) (S:∀b ps,H b=some (.Kp ps)->∃y,H' b=some (.Kp<|ps++y))
  (ns:∀m,s.heap.Ns X.env.locals m->h'.Ns X.env.locals m) (T:Ff X.prog X.w H' h') (P:AllBare g') :
  Aa X aa σ H' {s with heap:=h',gens:=g',drawn:=d',toks:=t'}:=by
 have K:∀b o,X.Ea.heap.get? b=some o->b≠X.env.locals:=λb o e=>df<|jg (Dd e) I.ok.above
 have B:∀b o,X.Ea.heap.get? b=some o->b∉X.ex->b∉ch:=λb o e a j=>by
  rcases (w b j).1 with z|z
  .exact a z
  exact absurd (jg (Dd e) z)<|Lh _
 have f:∀x c,X.env.cells.lookup x=some c->∀v,s.heap.IsCell c v->h'.IsCell c v:=λx c e v ⟨o,t,E⟩=>by
  have A:=λz=>(w c z).2.2.1 x c e rfl
  by_cases J:c∈X.fs
  .obtain⟨D,q⟩:=g c o (I.Aq x c e) J A t<|I.Df x c e;exact⟨_,q,E⟩
  exact⟨o,keep c o (I.Aq x c e) J A t<|I.Df x c e,E⟩
 refine⟨I.ok,I.os,P,⟨λb o e n j a=>?_,λb o e n j a=>?_,λb o e n a=>?_,λb o e a=>?_,λb xs e=>R b xs<|I.base.Eh b xs e,λb o xs e=>Q b o xs<|I.base.Rg b o xs e,λb ps e=>?_⟩,?_,λx c e=>?_,?_,λx c e=>?_,λp hp=>?_,T,I.len⟩
 .exact keep b o (K b o e) j (B b o e a) (I.base.keep b o e n j a) (I.base.free b o e n a)
 .obtain⟨D,e1⟩:=I.base.slot b o e n j a;obtain⟨C,e2⟩:=g b _ (K b o e) j (B b o e a) e1<|I.base.free b o e n a;exact⟨C,e2⟩
 .obtain⟨o',e1⟩:=I.base.there b o e a;exact free b o' (B b o e a) e1<|I.base.free b o e n a
 .obtain⟨o',e1⟩:=I.base.there b o e a;exact h b o' (B b o e a) e1
 .obtain⟨M,e1⟩:=I.base.Dh b ps e;obtain⟨L,e2⟩:=S b _ e1;exact⟨M++L,by rw[e2,Array.append_assoc]⟩
 .obtain⟨m,N,O⟩:=I.loc;refine⟨m,ns m N,λi x v e1 e2 e3=>?_⟩
  obtain⟨u,r,l⟩:=O i x v e1 e2 e3;refine⟨u,r,?_⟩;rcases l with l|⟨k,c,e,z⟩
  .exact .inl l
  exact .inr ⟨k,c,e,f x c e _ z⟩
 .obtain⟨v,z⟩:=I.cell x c e;exact⟨v,f x c e v z⟩
 .obtain⟨m,⟨o,_,_,t,_⟩,_⟩:=I.loc;exact free _ o (λz=>(w _ z).2.1 rfl) t I.free
 .obtain⟨v,o,t,E⟩:=I.cell x c e;exact free c o (λz=>(w c z).2.2.1 x c e rfl) t<|I.Df x c e
 obtain⟨e,n,G,F,d⟩:=I.pin p hp;have A:=λz=>(w p.1 z).2.2.2 p hp rfl
 exact⟨keep p.1 p.2 G F A e n,free p.1 p.2 A e n,G,F,d⟩
def Aa.un{t':Nat}(I:Aa X aa σ H s)(u:Un X.fs [] H H' s.heap h')(k:Ff X.prog X.w H' h'):Aa X aa σ H' {s with heap:=h',toks:=t'}:=by
 obtain⟨m,⟨o,t,v,c,r⟩,_⟩:=id I.loc;obtain⟨l,h⟩:=u.any c I.free (by simp)
 exact I.step (ch:=[]) (λ_ z=>nomatch z) (λb o _ a _ e n=>u.keep b o e n a<|by simp) (λb o _ a _ e n=>u.slot b o e n a<|by simp) (λb o _ e n=>u.free b o e n<|by simp) (λb o _ e=>u.there b o e<|by simp) u.Eh u.Rg u.Dh (λq g=>by
  obtain⟨p,i,j,d,f⟩:=g;rw[c]at d;cases d;exact⟨_,i,j,h,f⟩) k I.bare
def Aa.call{t':Nat}{d':Drawn}{ch:bv}(I:Aa X aa σ H s)(u:Un (nk X.stack) ch H H' s.heap h')(v:Ff X.prog X.w H' h')(k:AllBare g')
  (f:∀b∈ch,(b∈X.ex\/X.Ea.heap.objs.size<=b)/\b≠X.env.locals/\(∀x c,X.env.cells.lookup x=some c->c≠b)/\∀p∈X.pn++aa,p.1≠b) :
  Aa X aa σ H' {s with heap:=h',gens:=g',drawn:=d',toks:=t'}:=by
 obtain⟨m,⟨o,B,C,g,r⟩,_⟩:=id I.loc;obtain⟨w,d⟩:=u.any g I.free λz=>(f _ z).2.1 rfl
 exact I.step f (λb o d l a e n=>u.keep b o e n (λz=>(Uc.mp<|I.Yi b z).elim d l) a) (λb o _ _ a e n=>u.any e n a) (λb o a e n=>u.free b o e n a) (λb o a e=>u.there b o e a) u.Eh u.Rg u.Dh (λA j=>by
  obtain⟨y,q,t,h,i⟩:=j;rw[g]at h;cases h;exact⟨_,q,t,d,i⟩) v k
def Aa.turned{t':Nat}{it:Addr}(I:Aa X aa σ H s)(k:∀b o,b≠it->s.heap.get? b=some o->h'.get? b=some o)(g:H it=none)(a:it≠X.env.locals)
  (j:it∈X.ex\/X.Ea.heap.objs.size<=it) (i:∀x c,X.env.cells.lookup x=some c->c≠it) (h:∀p∈X.pn++aa,p.1≠it):Aa X aa σ H {s with heap:=h',toks:=t'}:=by
 have d:∀b u,H b=some u->b≠it:=λb u e z=>by rw[z,g]at e;cases e
 refine I.step (ch:=[it]) (λb hb=>?_) (λb o _ _ hc e _=>k b o (λz=>hc<|by simp[z]) e) (λb o _ _ hc e _=>⟨o.slots,k b o (λz=>hc<|by simp[z]) e⟩) (λ_ _ _ _ n=>n)
  (λb o hc e=>⟨o,k b o (λz=>hc<|by simp[z]) e⟩) (λ_ _ e=>e) (λ_ _ _ e=>e) (λb w e=>⟨#[],by rw[e];simp⟩) (λm hm=>?_) (λb u e=>?_) I.bare
 .have e:=by simpa using hb
  subst e;exact⟨j,a,i,h⟩
 .obtain⟨o,l,t,f,r⟩:=hm;exact⟨o,l,t,k _ o (Lj a) f,r⟩
 refine(I.Bb b u e).Sf (λc v hc q=>k c v ?_ q) (λ_ q=>q) λ_ _ q=>q
 rcases hc with z|z
 .rw[z];exact d b u e
 exact d c _ z
def Aa.tok(I:Aa X aa σ H s)(t:Nat):Aa X aa σ H {s with toks:=t}:=I.un Un.refl I.Bb
theorem Aa.kept{t':Nat}(I:Aa X aa σ H s)(k:∀b u,s.heap.get? b=some u->h'.get? b=some u):Aa X aa σ H {s with heap:=h',toks:=t'}:=I.un (Un.kept k)<|I.Bb.kept k
theorem Aa.laid{a:Addr}{t':Nat}(I:Aa X aa σ H s)(k:∀b u,s.heap.get? b=some u->h'.get? b=some u)(d:s.heap.objs.size<=a)(c:rZ X.prog X.w (Nb H a o) h' a o) :
  Aa X aa σ (Nb H a o) {s with heap:=h',toks:=t'}:=I.un (Un.laid k d<|I.Bb.fresh d)<|I.Bb.laid k d c
theorem Aa.write{e:Addr}{t':Nat}(I:Aa X aa σ H s)(c:Qh (H x))(he:e=x\/H e=some (.own x))(k:∀b u,b≠e->s.heap.get? b=some u->h'.get? b=some u)(d:∃u,h'.get? e=some u)
  (a:rZ X.prog X.w (Nb H x o) h' x o):Aa X aa σ (Nb H x o) {s with heap:=h',toks:=t'}:=I.un (Un.write c he k d)<|I.Bb.write c he k d a
def Aa.pj{a:ca}(I:Aa X aa σ H s)(h:∀p∈a,s.heap.get? p.1=some p.2/\H p.1=none/\p.1≠X.env.locals/\p.1∉X.fs/\∀v,p.2.data≠.cell v):Aa X a σ H s:=
 ⟨I.ok,I.os,I.bare,I.base,I.loc,I.cell,I.free,I.Df,λp b=>(Pg.mp b).elim (λz=>I.pin p<|Kh _ z)<|h p,I.Bb,I.len⟩
def sR{N:pi}(c:N.Nodup){i j:Nat}{x:Str}(a:N[i]?=some x)(b:N[j]?=some x):i=j:=by
 obtain⟨e,e1⟩:=zg.mp a;obtain⟨d,e2⟩:=zg.mp b;exact(List.getElem_inj c).mp (e1.trans e2.symm)
def OP{E:be}{i:Nat}{Q:pp}(I:Aa X aa σ H s)(W:X.N.Nodup)(B:X.N[i]?=some x)(l:Loc X.env.scope x)(r:RelV v u)
  (h:∀K,Aa X aa (σ.set i<|some v) H K->(∃a,Heap.SameBut a s.heap K.heap/\(a=X.env.locals\/X.env.cells.lookup x=some a))->Q () K) (hf:X.fn x=true\/X.env.scope.names.lookup x=some .local:=by first|exact .inl rfl|exact .inr rfl|assumption):wpAny M A (storeName X.env x u) Q E s:=by
 obtain⟨m,R,V⟩:=id I.loc;have Y:i<σ.length:=by rw[I.len];exact(zg.mp B).1
 have Aq:=I.Aq;have g:∀{a:Addr}{h':Heap},(∃o,s.heap.get? a=some o/\H a=none)->Heap.SameBut a s.heap h'->Ff X.prog X.w H h':=λ{a h'} ha f b ob e=>by
  obtain⟨_,_,Z⟩:=ha;refine(I.Bb b ob e).Sf (λc C hc q=>(f.2 c ?_).trans q) (λ_ q=>q) λ_ _ q=>q
  rintro rfl;rcases hc with rfl|hc
  .rw[Z]at e;cases e
  rw[Z]at hc;cases hc
 rcases l with t|t
 .refine wpAny_storeName_local t R (λh' eL f=>?_) (by rw[I.ok.kind];rfl)
  obtain⟨oL,_,_,P,_⟩:=id R;refine h _ ⟨I.ok,I.os,I.bare,⟨λb o e n hb l=>?_,λb o e n hb l=>?_,I.base.free,λb o e l=>?_,I.base.Eh,I.base.Rg,I.base.Dh⟩,⟨_,eL,λj y v' e1 e2 e3=>?_⟩,λy c e=>?_,I.free,I.Df,λp hp=>?_,g ⟨oL,P,I.free⟩ f,by simpa using I.len⟩ ⟨_,f,.inl rfl⟩
  .exact(f.2 b<|df<|jg (Dd e) I.ok.above).trans (I.base.keep b o e n hb l)
  .obtain⟨J,e1⟩:=I.base.slot b o e n hb l;exact⟨J,(f.2 b<|df<|jg (Dd e) I.ok.above).trans e1⟩
  .obtain⟨N,e1⟩:=I.base.there b o e l;exact⟨N,(f.2 b<|df<|jg (Dd e) I.ok.above).trans e1⟩
  .by_cases w:j=i
   .subst w;rw[B]at e1;cases e1;rw[PZ Y]at e2;cases e2;exact⟨u,r,.inl ⟨t,by simp⟩⟩
   rw[H0<|Lj w]at e2;obtain⟨G,L,q⟩:=V j y v' e1 e2 e3;refine⟨G,L,?_⟩;rcases q with ⟨k,e⟩|⟨k,c,e,z⟩
   .refine .inl ⟨k,?_⟩;have:y≠x:=λe=>w (sR W e1<|e ▸ B)
    simp[this,e]
   exact .inr ⟨k,c,e,z.sameBut f<|Aq y c e⟩
  .obtain⟨C,z⟩:=I.cell y c e;exact⟨C,z.sameBut f<|Aq y c e⟩
  obtain⟨e,n,D,O,d⟩:=I.pin p hp;exact⟨(f.2 p.1 D).trans e,n,D,O,d⟩
 have S:X.fn x=true:=by
  rcases hf with z|z
  .exact z
  rw[z]at t;cases t
 obtain⟨c,hc⟩:=I.ok.has x<|.inl t;obtain⟨C,z⟩:=I.cell x c hc;refine wpAny_storeName_cell I.ok.kind t hc z<|λh' ai f=>?_
 obtain⟨oc,Z0,U⟩:=id z;refine h {s with heap:=h'} ⟨I.ok,I.os,I.bare,⟨λb o e n hb l=>?_,λb o e n hb l=>?_,I.base.free,λb o e l=>?_,I.base.Eh,I.base.Rg,I.base.Dh⟩,⟨m,R.sameBut f<|Lj<|Aq x c hc,λj y v' e1 e2 e3=>?_⟩,λy F e=>?_,I.free,I.Df,λp hp=>?_,g ⟨oc,Z0,I.Df x c hc⟩ f,by simpa using I.len⟩ ⟨c,f,.inr hc⟩
 .exact(f.2 b<|df<|jg (Dd e)<|I.ok.Iw x c S hc).trans (I.base.keep b o e n hb l)
 .obtain⟨J,e1⟩:=I.base.slot b o e n hb l;exact⟨J,(f.2 b<|df<|jg (Dd e)<|I.ok.Iw x c S hc).trans e1⟩
 .obtain⟨N,e1⟩:=I.base.there b o e l;exact⟨N,(f.2 b<|df<|jg (Dd e)<|I.ok.Iw x c S hc).trans e1⟩
 .by_cases w:j=i
  .subst w;rw[B]at e1;cases e1;rw[PZ Y]at e2;cases e2;exact⟨u,r,.inr ⟨.inl t,c,hc,ai⟩⟩
  rw[H0<|Lj w]at e2;obtain⟨G,L,q⟩:=V j y v' e1 e2 e3;refine⟨G,L,?_⟩;rcases q with q|⟨k,F,e,z'⟩
  .exact .inl q
  refine .inr ⟨k,F,e,z'.sameBut f ?_⟩;rintro rfl;exact w<|sR W e1<|I.ok.inj _ _ _ e hc ▸ B
 .by_cases T:F=c
  .subst T;exact⟨_,ai⟩
  obtain⟨w2,z2⟩:=I.cell y F e;exact⟨w2,z2.sameBut f T⟩
 obtain⟨e,n,D,O,d⟩:=I.pin p hp;refine⟨(f.2 p.1 ?_).trans e,n,D,O,d⟩;intro q;rw[q,Z0]at e;exact d C (by rwa [<-(Uk e)])
def sf{E:be}{i:Nat}{Q:pp}(I:Aa X aa σ H s)(e:X.N.Nodup)(c:X.N[i]?=some x)(b:Loc X.env.scope x)(r:RelV v u)
  (h:∀a,Aa X aa (σ.set i<|some v) H a->Q () a) (d:X.fn x=true\/X.env.scope.names.lookup x=some .local:=by first|exact .inl rfl|exact .inr rfl|assumption):wpAny M A (storeName X.env x u) Q E s:=
 OP I e c b r (λa f _=>h a f) d
end
abbrev XK:=Value->Option Addr->Hp->Prop
abbrev St:=List<|Option V
abbrev VK:=V->s0
abbrev _root_.lv:=V->List V->Hp->VK->Prop
abbrev _root_.lw:=V->Option Int->Option Int->Hp->VK->Prop
abbrev _root_.wT:=List V->Hp->VK->Prop
abbrev _root_.xz:=V->Hp->VK->Prop
abbrev TE:=St->Hp->VK->Prop
abbrev TT:=St->Hp->(Bool->Hp->Prop)->Prop
abbrev TA:=St->Hp->(List V->Hp->Prop)->Prop
structure Ends where
 nx:St->s0
 rt:VK
 bk:St->s0:=λ_ _=>False
 ct:St->s0:=λ_ _=>False
abbrev TS:=Ends->St->s0
def EP(X:Cx)(d:ca)(b:St)(Q:VK)(u:Value)(c:Shared):Prop:=∃v a,Aa X d b a c/\RelV v u/\Q v a
def TP(X:Cx)(e:ca)(c:St)(Q:Da)(b:Bool)(d:Shared):Prop:=∃a,Aa X e c a d/\Q b a
def AP(X:Cx)(e:ca)(c:St)(Q:zn)(us:cr)(d:Shared):Prop:=∃a b,Aa X e c b d/\Ia a us/\Q a b
def SP(X:Cx)(d:ca)(D:Ends)(f:Flow)(c:Shared):Prop:=
 match f with
 |.next=>∃b a,Aa X d b a c/\D.nx b a
 |.brk=>∃b a,Aa X d b a c/\D.bk b a
 |.cont=>∃b a,Aa X d b a c/\D.ct b a
 |.ret u=>∃v b a,Aa X d b a c/\RelV v u/\D.rt v a
def PE(X:Cx)(e:Expr)(t:TE):Prop:=
 ∀(b:ca) (s:Shared) (a:St) (H:Hp) (Q:VK),Aa X b a H s->t a H Q->wpAny (model X.prog X.w) X.A (eval e X.env) (EP X b a Q) X.xe s
def PT(X:Cx)(e:Expr)(t:TT):Prop:=
 ∀(b:ca) (s:Shared) (a:St) (H:Hp) (Q:Da),Aa X b a H s->t a H Q->wpAny (model X.prog X.w) X.A (isTrue e X.env<|eval e X.env) (TP X b a Q) X.xe s
def PW(X:Cx)(e:Expr)(t:TT):Prop:=
 ∀(whole:Sem Value) (b:ca) (s:Shared) (a:St) (H:Hp) (Q:Da),Aa X b a H s->t a H Q->wpAny (model X.prog X.w) X.A (isTrue e X.env whole) (TP X b a Q) X.xe s
def PW.pt{X:Cx}{t:TT}(h:PW X e t):PT X e t:=h _
def PA(X:Cx)(d:List Expr)(t:TA):Prop:=
 ∀(b:Pos) (c:ca) (s:Shared) (a:St) (H:Hp) (Q:zn),Aa X c a H s->t a H Q->wpAny (model X.prog X.w) X.A (spliced<|backTo b<|starEach d X.env) (AP X c a Q) X.xe s
def PS(X:Cx)(st:Stmt)(t:TS):Prop:=
 ∀(b:ca) (s:Shared) (a:St) (H:Hp) (D:Ends),Aa X b a H s->t D a H->wpAny (model X.prog X.w) X.A (exec st X.env) (SP X b D) X.xe s
def jf(X:Cx)(st:List Stmt)(t:TS):Prop:=
 ∀(b:ca) (s:Shared) (a:St) (H:Hp) (D:Ends),Aa X b a H s->t D a H->wpAny (model X.prog X.w) X.A (execs st X.env) (SP X b D) X.xe s
def wc{b:Type}{t:Sem b}{Q c:b->na}{E:be}(h:wpAny M A t Q E s)(d:∀a s,Q a s->c a s):wpAny M A t c E s:=Wk h d λ_ _ x=>x
section
variable{X:Cx}
def ZX(i:Nat):TE:=λa H Q=>∃v,a[i]?=some (some v)/\Q v H
def tC(v:V):TE:=λ_ H Q=>Q v H
def uT{i:Nat}(q:X.N[i]?=some x)(k:Rh X.env.scope x)(d:(x==("__debug__":Str))=false:=by decide)(t:(x==("__classdict__":Str))=false:=by decide):PE X (.Name x pos) (ZX i):=by
 intro w s j H Q I h;obtain⟨v,e,h⟩:=h;obtain⟨m,n,p⟩:=I.loc;obtain⟨u,r,l⟩:=p i x v q e k;have b:EP X w j Q u s:=⟨v,H,I,r,h⟩;rcases l with ⟨a,o⟩|⟨a,c,g,f⟩
 .exact wpAny_Name (wpAny_loadName_local I.ok.kind a n o b) d
 rcases a with a|a
 .exact wpAny_Name (wpAny_loadName_cell I.ok.kind a g f b) d
 exact wpAny_Name (wpAny_loadName_free I.ok.kind a g f b t) d
def bM1{i j pos}:PE X (.Constant (.int i) j pos) (tC<|.int i):=λ_ _ _ H _ I h=>wpAny_Constant_int ⟨.int i,H,I.tok _,⟨_,rfl⟩,h⟩
def bPh{b j pos}:PE X (.Constant (.bool b) j pos) (tC<|.bl b):=λ_ _ _ H _ I h=>Constant_bool ⟨.bl b,H,I,rfl,h⟩
def bM2{j pos}:PE X (.Constant .none j pos) (tC .Tb):=λ_ _ _ H _ I h=>Constant_none ⟨.Tb,H,I,rfl,h⟩
def bM3{x j pos}:PE X (.Constant (.str x) j pos) (tC<|.str x):=λ_ _ _ H _ I h=>Calls.Constant_str ⟨.str x,H,I.tok _,⟨_,rfl⟩,h⟩
def Gl(X:Cx)(x:Str):Prop:=X.env.kindOf x=some .globalImplicit
abbrev Bf(x:Str):Prop:=(x==("__debug__":Str))=false
abbrev Vj(x:Str):Prop:=(x==("__classdict__":Str))=false
theorem Wj{a:Scope}(h:(match a.names.lookup x with|some .local|some .cell|some .free=>true|_=>false)=true):Rh a x:=by
 unfold Rh;split at h<;>simp_all
theorem Yn{a:Scope}(h:(match a.names.lookup x with|some .local|some .cell=>true|_=>false)=true):Loc a x:=by
 unfold Loc;split at h<;>simp_all
abbrev sk(X:Cx)(x:Str):Prop:=X.fn x=true\/X.env.scope.names.lookup x=some .local
abbrev Lf(e:Expr)(a:List Expr)(E:Env):Prop:=starEach (e::a) E=(false,eval e E)::starEach a E
abbrev Si(p:Pos)(a:List Expr)(E:Env):Prop:=(backTo p<|starEach a E).any (·.1)=false
abbrev Uj(p:Pos)(a:List Expr)(E:Env):Prop:=((backTo p<|starEach a E).all (λx=>!x.1)&&(backToKw p<|keywordEach [] E).all (λx=>x.1.isSome)
 && decide (a.length+([]:List Keyword).length+(if ([]:List Keyword).isEmpty then 0 else 1)<30))=true
abbrev Vg(o:Expr)(m:Str)(E:Env):Prop:=attributeBase o m E (eval o E)=eval o E
abbrev Oh(a c:Pos):Prop:=(a.endLine==c.line)=true
abbrev qj(e:Expr)(t:Option Expr)(l:Nat)(E:Env):Prop:=swapsWith e t l E=pure false
def Tu{E:be}{Q:be}(I:Aa X aa σ H s)(b:Gl X x)(a:X.mg x=some u)(h:Q u s)
  (c:Bf x:=by decide):wpAny (model X.prog X.w) X.A (eval (.Name x pos) X.env) Q E s:=
 VY I.ok.kind b (Calls.loadGlobal_global (by rw[I.ok.glob];exact I.mod.glob.keeps I.bk) a h) c
def Yp{E:be}{Q:be}(I:Aa X aa σ H s)(d:Gl X x)(c:X.mg x=none)(a:bootBuiltins x=some u)(h:Q u s)
  (b:x≠"__name__":=by decide) (e:Bf x:=by decide):wpAny (model X.prog X.w) X.A (eval (.Name x pos) X.env) Q E s:=by
 obtain⟨i,g,f⟩:=I.mod.blt;exact VY I.ok.kind d (Calls.loadGlobal_builtin (by rw[I.ok.glob];exact I.mod.glob.keeps I.bk) c (by rw[I.ok.blt];exact g.keeps I.bk) ((f x b).trans a) h) e
def ZS(b:Gl X x)(a:X.mg x=some u)(r:RelV v u)(c:Bf x:=by decide):PE X (.Name x pos) (tC v):=
 λ_ _ _ H _ I h=>Tu I b a ⟨v,H,I,r,h⟩ c
def ő(d:Gl X x)(c:X.mg x=none)(a:bootBuiltins x=some u)(r:RelV v u)(b:x≠"__name__":=by decide)(e:Bf x:=by decide):PE X (.Name x pos) (tC v):=
 λ_ _ _ H _ I h=>Yp I d c a ⟨v,H,I,r,h⟩ b e
variable{a b:Expr}{ta tb:TE}{pos:Pos}
def tB(t:TE):TT:=λa H Q=>t a H λx b=>∃c,x=.bl c/\Q c b
def bM4{t:TE}(h:PE X e t)(he:∀whole,isTrue e X.env whole=(do let v <- whole;standAt e.pos;holding [v] (truthy v)):=by intro _;rfl):PT X e (tB t):=by
 intro c s a H Q I b;refine isTrue_plain (wc (h c s a H _ I b) λv f ⟨x,H1,I1,r1,q1⟩=>?_)<|he _
 obtain⟨d,rfl,q⟩:=q1;cases r1;exact Dt ⟨H1,I1,q⟩
variable{tA NC:TT}{rest:List Expr}
def bS8(t u:TT):TT:=λa H Q=>t a H λc b=>if c=true then u a b Q else Q false b
def tOr(t u:TT):TT:=λa H Q=>t a H λc b=>if c=true then Q true b else u a b Q
def bS9(t:TT):TT:=λa H Q=>t a H λc b=>Q (!c) b
def Œ(d:PT X a tA):PW X (.BoolOp .And [a] pos) tA:=by
 intro g f s b H Q I h;refine isTrue_and<|wc (d f s b H Q I h) λc i e=>?_
 cases c with
 |true=>exact isTrue_and_nil e
 |false=>exact e
def bM5(d:PT X a tA):PW X (.BoolOp .Or [a] pos) tA:=by
 intro g f s b H Q I h;refine isTrue_or<|wc (d f s b H Q I h) λc i e=>?_
 cases c with
 |false=>exact isTrue_or_nil e
 |true=>exact e
def bM6(m:PT X a tA)(l:PW X (.BoolOp .And (b::rest) pos) NC):PW X (.BoolOp .And (a::b::rest) pos) (bS8 tA NC):=by
 intro j f s d H Q I h;refine isTrue_and<|wc (m f s d H _ I h) λc k ⟨i,g,e⟩=>?_
 cases c with
 |true=>exact l j f k d i Q g e
 |false=>exact⟨i,g,e⟩
def bPi(m:PT X a tA)(l:PW X (.BoolOp .Or (b::rest) pos) NC):PW X (.BoolOp .Or (a::b::rest) pos) (tOr tA NC):=by
 intro j f s d H Q I h;refine isTrue_or<|wc (m f s d H _ I h) λc k ⟨i,g,e⟩=>?_
 cases c with
 |true=>exact⟨i,g,e⟩
 |false=>exact l j f k d i Q g e
def bM7(c:PT X a tA):PT X (.UnaryOp .Not a pos) (bS9 tA):=by
 intro d s b H Q I h;exact isTrue_not<|c d s b H _ I h
def bPj(e d:TE):TE:=λa H Q=>e a H λx b=>∃c,x=.bl c/\if c=true then d a b Q else Q (.bl false) b
def bSa(e d:TE):TE:=λa H Q=>e a H λx b=>∃c,x=.bl c/\if c=true then Q (.bl true) b else d a b Q
def bPk(b:TE):TE:=λa H Q=>b a H λx d=>∃c,x=.bl c/\Q (.bl<|!c) d
def BV{op}{t:TE}(h:PE X a t):PE X (.BoolOp op [a] pos) t:=λd s b H Q I c=>BoolOp_one<|h d s b H Q I c
def bM8(m:PE X a ta)(l:PE X (.BoolOp .And (b::rest) pos) tb):PE X (.BoolOp .And (a::b::rest) pos) (bPj ta tb):=by
 intro f s e H Q I h;refine BoolOp_and<|wc (m f s e H _ I h) λv j ⟨x,i,g,k,d⟩=>?_
 obtain⟨c,rfl,d⟩:=d;cases k;refine Dt ?_
 cases c with
 |true=>exact l f j e i Q g d
 |false=>exact⟨.bl false,i,g,rfl,d⟩
def bPl(m:PE X a ta)(l:PE X (.BoolOp .Or (b::rest) pos) tb):PE X (.BoolOp .Or (a::b::rest) pos) (bSa ta tb):=by
 intro f s e H Q I h;refine BoolOp_or<|wc (m f s e H _ I h) λv j ⟨x,i,g,k,d⟩=>?_
 obtain⟨c,rfl,d⟩:=d;cases k;refine Dt ?_
 cases c with
 |false=>exact l f j e i Q g d
 |true=>exact⟨.bl true,i,g,rfl,d⟩
def bM9(f:PE X a ta):PE X (.UnaryOp .Not a pos) (bPk ta):=by
 intro g s d H Q I h;refine UnaryOp_<|wc (f g s d H _ I h) λv k ⟨x,j,i,e,b⟩=>?_
 obtain⟨c,rfl,b⟩:=b;cases e;exact not_of<|Dt ⟨.bl<|!c,j,i,rfl,b⟩
def tIf(t:TT)(e d:TE):TE:=λa H Q=>t a H λc b=>if c=true then e a b Q else d a b Q
def ú(l:PT X c tA)(n:PE X a ta)(m:PE X b tb):PE X (.IfExp c a b pos) (tIf tA ta tb):=by
 intro f s e H Q I h;refine wpAny_IfExp<|wc (l f s e H _ I h) λd g ⟨k,j,i⟩=>?_
 cases d with
 |true=>exact n f g e k Q j i
 |false=>exact m f g e k Q j i
end
def fe(K:PySem.W.Frag)(H:Hp)(a:Addr)(xs:ls):Prop:=
 Rd H a (.lst xs)\/
  ∃(o:Obj)(b:wv)(n:Nat),K.lookup a=some o/\o.cls=.type "list"/\o.dict=none/\o.data=.seq b n/\b.size<=sizeLine/\Ia xs b.toList
def Mg(K:PySem.W.Frag)(H:Hp)(a:Addr)(xs:ls):Prop:=
 Rd H a (.tup xs)\/
  ∃(o:Obj)(b:wv)(n:Nat),K.lookup a=some o/\o.cls=.type "tuple"/\o.data=.seq b n/\b.size<=sizeLine/\Ia xs b.toList
def bSb:Value->Option V
 |.none=>some .Tb
 |.bool b=>some<|.bl b
 |.int i _=>some<|.int i
 |.str x _=>some<|.str x
 |.bytes b _=>some<|.TB b
 |.float b _=>some<|.bu b
 |.ref a=>some<|.ref a
 |.type n=>some<|.ty n
 |_=>none
def RelV.abs(r:RelV x u):bSb u=some x:=by
 cases x with
 |Tb=>cases r;rfl
 |bl _=>cases r;rfl
 |int _=>obtain⟨t,rfl⟩:=r;rfl
 |str _=>obtain⟨t,rfl⟩:=r;rfl
 |TB _=>obtain⟨t,rfl⟩:=r;rfl
 |bu _=>obtain⟨t,rfl⟩:=r;rfl
 |ref _=>cases r;rfl
 |ty _=>cases r;rfl
def RelV.inj{x y:V}{u:Value}(r:RelV x u)(q:RelV y u):x=y:=Uk<|r.abs.symm.trans q.abs
theorem Ia.inj:∀{xs a:ls}{us:cr},Ia xs us->Ia a us->xs=a
 |_,_,_,.nil,.nil=>rfl
 |_,_,_,.cons r t,.cons c b=>by rw[r.inj c,Ia.inj t b]
section
variable{X:Cx}{aa:ca}{σ:St}{H:Hp}{s:Shared}{a:Addr}{xs ys:ls}
def fe.of{K:PySem.W.Frag}(h:H a=some (.lst xs)):fe K H a xs:=.inl<|.inl h
def Mg.of{K:PySem.W.Frag}(h:H a=some (.tup xs)):Mg K H a xs:=.inl<|.inl h
theorem Aa.list(I:Aa X aa σ H s)(h:fe X.K H a xs):∃b:cr,Ia xs b/\PlainL s.heap a b.toArray/\xs.length<=sizeLine:=by
 rcases h with h|⟨o,b,n,d,g,f,c,i,r⟩
 .obtain⟨z,b,n,r,e⟩:=h.ok I.Bb;exact⟨b,r,⟨_,n,e,rfl,rfl,rfl⟩,z⟩
 refine⟨b.toList,r,⟨o,n,I.ug a o d,g,f,by simpa using c⟩,?_⟩
 have e:=r.length;simp at e;lia
def Aa.tuple(I:Aa X aa σ H s)(h:Mg X.K H a xs):∃b:cr,Ia xs b/\IsTup s.heap a b.toArray/\xs.length<=sizeLine:=by
 rcases h with h|⟨o,b,n,d,f,c,g,r⟩
 .obtain⟨z,b,r,p⟩:=h.ok I.Bb;exact⟨b,r,p,z⟩
 refine⟨b.toList,r,⟨o,I.ug a o d,f,n,by simpa using c⟩,?_⟩
 have e:=r.length;simp at e;omega
def Aa.Hg(I:Aa X aa σ H s)(h:fe X.K H a xs)(g:fe X.K H a ys):xs=ys:=by
 obtain⟨m,r,⟨o,n,e,_,_,d⟩,_⟩:=I.list h;obtain⟨l,f,⟨j,k,b,_,_,c⟩,_⟩:=I.list g;rw[e]at b;cases b;rw[d]at c;injection c with i _
 have:=by simpa using congrArg Array.toList i
 subst this;exact r.inj f
def Aa.kh(I:Aa X aa σ H s)(h:Mg X.K H a xs)(g:Mg X.K H a ys):xs=ys:=by
 obtain⟨m,r,⟨o,e,_,n,d⟩,_⟩:=I.tuple h;obtain⟨l,f,⟨j,b,_,k,c⟩,_⟩:=I.tuple g;rw[e]at b;cases b;rw[d]at c;injection c with i _
 have:=by simpa using congrArg Array.toList i
 subst this;exact r.inj f
end
abbrev Cx.Xg(X:Cx)(E:be):Cx:={X with xe:=E}
abbrev Cx.Ql(X:Cx):Cx:=X.Xg λ_ _=>False
theorem Cx.Ok.Xg{X:Cx}(ok:X.Ok)(E:be):(X.Xg E).Ok:=
 ⟨ok.mod,ok.kind,ok.glob,ok.blt,ok.above,ok.inj,ok.has,ok.Iw,ok.hd,ok.frames,ok.MC,ok.XB,ok.bs,ok.mn,ok.Pl,ok.kl,ok.og,ok.Bq⟩
def Cx.Ok.tf{X:Cx}{E:be}(ok:(X.Xg E).Ok):X.Ok:=
 ⟨ok.mod,ok.kind,ok.glob,ok.blt,ok.above,ok.inj,ok.has,ok.Iw,ok.hd,ok.frames,ok.MC,ok.XB,ok.bs,ok.mn,ok.Pl,ok.kl,ok.og,ok.Bq⟩
section
variable{X:Cx}{aa:ca}{σ:St}{H:Hp}{s:Shared}{E:be}
theorem Aa.Xg(I:Aa X aa σ H s)(E:be):Aa (X.Xg E) aa σ H s:=⟨I.ok.Xg E,I.os,I.bare,I.base,I.loc,I.cell,I.free,I.Df,I.pin,I.Bb,I.len⟩
theorem Aa.tf(I:Aa (X.Xg E) aa σ H s):Aa X aa σ H s:=⟨I.ok.tf,I.os,I.bare,I.base,I.loc,I.cell,I.free,I.Df,I.pin,I.Bb,I.len⟩
theorem SP.tf{D:Ends}(h:SP (X.Xg E) aa D f s'):SP X aa D f s':=by
 cases f with
 |next=>obtain⟨a,b,I,q⟩:=h;exact⟨a,b,I.tf,q⟩
 |brk=>obtain⟨a,b,I,q⟩:=h;exact⟨a,b,I.tf,q⟩
 |cont=>obtain⟨a,b,I,q⟩:=h;exact⟨a,b,I.tf,q⟩
 |ret u=>obtain⟨v,a,b,I,r,q⟩:=h;exact⟨v,a,b,I.tf,r,q⟩
theorem jf.Ql{st:List Stmt}{t:TS}(h:jf X.Ql st t):jf X st t:=λaa s σ H D I a=>
 Wk (h aa s σ H D (I.Xg _) a) (λ_ _ q=>q.tf) λ_ _ z=>False.elim z
end
section
variable{X:Cx}{st:Stmt}{rest:List Stmt}{t u:TS}{e:Expr}{te:TE}{pos:Pos}
def bPm:TS:=λD a H=>D.nx a H
def bSc(t u:TS):TS:=λD a H=>t {D with nx:=u D} a H
def œ:jf X [] bPm:=λ_ _ a H _ I h=>JB ⟨a,H,I,h⟩
def LF(e:PS X st t)(d:jf X rest u):jf X (st::rest) (bSc t u):=by
 intro a s b H D I h;refine wpAny_execs_cons<|wc (e a s b H {D with nx:=u D} I h) λf c q=>?_
 cases f with
 |next=>
  obtain⟨g,j,i,q⟩:=q;exact d a c g j D i q
 |ret v=>exact q
 |brk=>exact q
 |cont=>exact q
def GG(b:PS X st t):jf X [st] t:=by
 intro c s a H D I h;refine wpAny_execs_cons<|wc (b c s a H D I h) λf d q=>?_
 cases f with
 |next=>exact JB q
 |ret v=>exact q
 |brk=>exact q
 |cont=>exact q
def Aa.quiet(I:Aa X aa σ H s):interactive X.env=false:=by simp[interactive,I.ok.kind]
def bPn(te:TE):TS:=λD a H=>te a H λ_ b=>D.nx a b
def Uu(he:PE X e te)(c:qj e none pos.line X.env:=by rfl):PS X (.Expr e pos) (bPn te):=by
 intro d s a H D I h;exact wpAny_Expr_any (wc (he d s a H _ I h) λv i ⟨x,g,f,j,b⟩=>⟨a,g,f,b⟩) I.quiet c
def bSd(te:TE):TS:=λD a H=>te a H D.rt
def KH(he:PE X e te):PS X (.Return (some e) pos) (bSd te):=by
 intro d s a H D I h;exact wpAny_Return_some<|wc (he d s a H _ I h) λv i ⟨x,g,f,b,c⟩=>⟨x,a,g,f,b,c⟩
def bSe(c:TT)(t u:TS):TS:=λD a H=>c a H λb d=>if b=true then t D a d else u D a d
def bPo(l:PT X c tc)(n:jf X a t)(m:jf X b u):PS X (.If c a b pos) (bSe tc t u):=by
 intro f s e H D I h;refine wpAny_If<|wc (l f s e H _ I h) λd g ⟨k,j,i⟩=>?_
 cases d with
 |true=>exact n f g e k D j i
 |false=>exact m f g e k D j i
end
abbrev TG:=V->St->Hp->(St->s0)->Prop
abbrev dm:=List V->St->Hp->(St->s0)->Prop
def PG(X:Cx)(a:Expr)(t:TG):Prop:=
 ∀(d:ca) (s:Shared) (b:St) (H:Hp) (v:V) (u:Value) (Q:St->s0),Aa X d b H s->RelV v u->t v b H Q->
  wpAny (model X.prog X.w) X.A (assign a X.env u) (λ_ f=>∃c e,Aa X d c e f/\Q c e) X.xe s
def Dk(X:Cx)(g:List Expr)(t:dm):Prop:=
 ∀(e:ca) (s:Shared) (a:St) (H:Hp) (b:ls) (c:cr) (Q:St->s0),Aa X e a H s->Ia b c->t b a H Q->
  wpAny (model X.prog X.w) X.A (assignInOrder ((assignEach g X.env).map (·.2)) c) (λ_ h=>∃d f,Aa X e d f h/\Q d f) X.xe s
abbrev RI:=V->V->V->Hp->(Hp->Prop)->Prop
def SI(X:Cx)(t:RI):Prop:=
 ∀(d:ca) (s:Shared) (a:St) (H:Hp) (o i v:V) (b c u:Value) (Q:s0),Aa X d a H s->RelV o b->RelV i c->RelV v u->t o i v H Q->
  wpAny (model X.prog X.w) X.A (setItem b c u) (λ_ f=>∃e,Aa X d a e f/\Q e) X.xe s
section
variable{X:Cx}{pos:Pos}
def bX(i:Nat):TG:=λv a H Q=>Q (a.set i<|some v) H
def Ŕ{i:Nat}(d:X.N.Nodup)(b:X.N[i]?=some x)(a:Loc X.env.scope x)(c:sk X x:=by first|exact .inl rfl|exact .inr rfl|assumption):PG X (.Name x pos) (bX i):=by
 intro j s f H v u Q I r h;exact wpAny_assign_Name<|sf I d b a r (λg e=>⟨_,H,e,h⟩) c
def bSf:dm:=λb a H Q=>b=[]/\Q a H
def bPp(t:TG)(u:dm):dm:=λb a H Q=>∃v r,b=v::r/\t v a H λc d=>u r c d Q
def ŕ:Dk X [] bSf:=by
 intro d s a H b c Q I r h;obtain⟨e,h⟩:=h;exact assignInOrder_nil ⟨a,H,I,h⟩
def û{e:Expr}{t:TG}(k:PG X e t)(j:Dk X es u)
  (i:(assignEach (e::es) X.env).map (·.2)=assign e X.env::(assignEach es X.env).map (·.2):=by rfl):Dk X (e::es) (bPp t u):=by
 intro a s b H n p Q I r h;obtain⟨v,o,e1,h⟩:=h;subst e1;cases r with
 |cons r f=>
  rw[i];exact assignInOrder_cons<|wc (k a s b H _ _ _ I r h) λ_ d ⟨c,m,l,g⟩=>j a d c m _ _ Q l f g
def bSg(K:PySem.W.Frag)(n:Nat)(t:dm):TG:=λv c H Q=>∃a b,v=.ref a/\Mg K H a b/\b.length=n/\t b c H Q
def bMc{k:Nat}{t:dm}{n:Nat}(q:X.calm=true)(h:Dk X es t)
  (m:(assignEach es X.env).length=n:=by rfl) (x:(assignEach es X.env).findIdx? (·.1)=none:=by rfl):PG X (.Tuple es k pos) (bSg X.K n t):=by
 intro w s f H v u Q I r c;obtain⟨a,g,e1,l,p,c⟩:=c;subst e1;cases r;obtain⟨A,d,j,y⟩:=I.tuple l;exact assign_Tuple_tuple (I.ok.hd q) j (by simp[m,<-p,d.length]) x λz i=>h w _ f H g _ Q (I.kept λb o e=>i b o (df<|Dd e) e) (by simpa using d) c
def bSh(b c:TE)(t:RI):TG:=λv a H Q=>b a H λo f=>c a f λi e=>t o i v e λd=>Q a d
def CV{t:RI}(p:PE X o to)(q:PE X i ti)(n:SI X t)
  (w:∀v,assign (.Subscript o i pos) X.env v=(do
   let a <- holding [v] (eval o X.env)
   let b <- holding [v,a] (eval i X.env)
   standAt pos
   holding [v,a,b] (setItem a b v)
   release [v,a,b] []):=by intro _;rfl):PG X (.Subscript o i pos) (bSh to ti t):=by
 intro d s c H v u Q I r h;rw[w];refine Ha<|Hi<|wc (p d s c H _ I h) λa f ⟨x,E,B,j,m⟩=>?_
 refine Ha<|Hi<|wc (q d f c E _ B m) λb e ⟨y,D,A,g,l⟩=>?_
 exact Ha<|Pt<|Ha<|Hi<|wc (n d e c D x y v a b u _ A j g r l) λ_ F ⟨C,z,k⟩=>wpAny_release ⟨c,C,z,k⟩
def yY(te:TE)(g:TG):TS:=λD a H=>te a H λx b=>g x a b D.nx
def LH(he:PE X e te)(f:PG X tg g)(d:swapsWithSole [tg] e pos.line X.env=pure false:=by rfl)(c:swappedStores [tg] e X.env=pure none:=by rfl)
  (i:(assignEach [tg] X.env).map (·.2)=[assign tg X.env]:=by rfl):PS X (.Assign [tg] e pos) (yY te g):=by
 intro b s a H D I h;refine wpAny_Assign_stores (wc (he b s a H _ I h) λv s1 ⟨x,H1,I1,r1,q1⟩=>?_) d c
 rw[i];exact wc (f b s1 a H1 x v _ I1 r1 q1) λ_ j q=>q
def yv{i:Nat}(k:X.N.Nodup)(g:X.N[i]?=some x)(d:Loc X.env.scope x)(he:PE X e te)(f:qj e (some<|.Name x pos') pos.line X.env:=by rfl)(j:sk X x:=by first|exact .inl rfl|exact .inr rfl|assumption) :
  PS X (.Assign [.Name x pos'] e pos) (yY te<|bX i):=by
 intro l s a H D I h;exact wpAny_Assign_Name (wc (he l s a H _ I h) λv q ⟨y,o,n,b,c⟩=>sf n k g d b (λp m=>⟨_,o,m,c⟩) j) f
def bMd(c:TT)(h:TS):TS:=λD a H=>∃W:Nat->St->s0,(∃m,W m a H)/\∀m a H,W m a H->
 c a H λb f=>if b=true then ∃N:St->s0,(∀e g,N e g->∃d,d < m/\W d e g)/\h {D with nx:=N,ct:=N,bk:=D.nx} a f else D.nx a f
def ü(q:PassesOwn (model X.prog X.w) X.A X.env X.xe)(J:PT X c tc)(K:jf X body tb):PS X (.While c body [] pos) (bMd tc tb):=by
 intro o s z H D I h;obtain⟨W,⟨G,B⟩,turn⟩:=h;refine wpAny_While<|codeAny_whileLoop (λn F=>∃t y,Aa X o t y F/\W n t y) ?_ G ⟨z,H,I,B⟩
 rintro n E ⟨e,x,L,A⟩;refine tq q<|wc (J o E e x _ L<|turn n e x A) λb C ⟨w,u,i⟩=>?_
 cases b with
 |true=>
  obtain⟨N,r,i⟩:=i;refine tq q<|wc (K o C e w _ u i) λf M g=>?_
  cases f with
  |next=>
   obtain⟨a,d,p,k⟩:=g;obtain⟨l,m,j⟩:=r a d k;exact⟨l,m,a,d,p,j⟩
  |cont=>
   obtain⟨a,d,p,k⟩:=g;obtain⟨l,m,j⟩:=r a d k;exact⟨l,m,a,d,p,j⟩
  |brk=>exact g
  |ret v=>exact g
 |false=>
  exact JB ⟨e,w,u,i⟩
end
structure It where
 go:Nat->Hp->Prop
 Bu:Nat->Hp->V->Hp->Prop
 stop:Nat->Hp->Prop
def Dj(X:Cx)(a:ca)(H:Hp)(b:Addr):Prop:=
 H b=none/\b≠X.env.locals/\b∉X.fs/\(b∈X.ex\/X.Ea.heap.objs.size<=b)/\(∀x c,X.env.cells.lookup x=some c->c≠b)/\∀p∈X.pn++a,p.1≠b
def Aa.ll{X:Cx}{d:Hp}{b:Addr}(I:Aa X aa σ H s)(a:s.heap.objs.size<=b)(f:d b=none):Dj X aa d b:=by
 refine⟨f,QB<|jg I.lt a,I.NL a,.inr<|ye I.sz a,λx c e z=>?_,λp hp z=>?_⟩
 .obtain⟨v,q⟩:=I.cell x c e;exact absurd (jg q.lt<|by rwa [z])<|Lh _
 exact absurd (jg (Dd (I.pin p hp).1)<|by rwa [z])<|Lh _
structure Turn(P:Program)(w:World)(K:PySem.W.Frag)(tg:Expr)(J:It)(fp:bv)(it:Addr)(tn:wS):Prop where
 mem:it∈fp
 obj:∀i h,tn i h->∀b∈fp,∃o,h.get? b=some o/\∀v,o.data≠.cell v
 keep:∀i h h',tn i h->(∀b∈fp,∀o,h.get? b=some o->h'.get? b=some o)->tn i h'
 item:∀(X:Cx),X.prog=P->X.w=w->X.K=K->X.calm=true->∀(i:Nat) (aa:ca) (s:Shared) (σ:St) (H:Hp) (E:be),Aa X aa σ H s->(∀b∈fp,Dj X aa H b)->tn i s.heap->J.go i H->
  wpAny (model P w) X.A (pyNext<|.ref it) (λr s1=>∃u,r=some u/\
   wpAny (model P w) X.A (letOwnedTupleGo tg (.ref it) u) (λ_ s2=>∃x H',Aa X aa σ H' s2/\RelV x u/\J.Bu i H x H'/\tn (i+1) s2.heap/\∀b∈fp,H' b=none) E s1) E s
 done:∀(X:Cx),X.prog=P->X.w=w->X.K=K->X.calm=true->∀(i:Nat) (aa:ca) (s:Shared) (σ:St) (H:Hp) (E:be),Aa X aa σ H s->(∀b∈fp,Dj X aa H b)->tn i s.heap->J.stop i H->
  wpAny (model P w) X.A (pyNext<|.ref it) (λr s1=>r=none/\Aa X aa σ H s1) E s
 self:∀(A:Around)(i:Nat)(s:Shared)(Q:be)(E:be),tn i s.heap->Q (.ref it) s->wpAny (model P w) A (pyIter<|.ref it) Q E s
abbrev TI:=St->Hp->(It->s0)->Prop
def PM(X:Cx)(f:ca)(g:St)(tg:Expr)(R:It->s0)(h:Value)(s2:Shared):Prop:=
 ∃(d:Addr)(e:bv)(c:wS)(J:It)(a:Hp),h=.ref d/\Aa X f g a s2/\Turn X.prog X.w X.K tg J e d c/\c 0 s2.heap/\(∀b∈e,Dj X f a b)/\R J a
def PI(X:Cx)(tg a:Expr)(d:TI):Prop:=
 ∀(c:ca) (s:Shared) (b:St) (H:Hp) (R:It->s0),Aa X c b H s->d b H R->
  wpAny (model X.prog X.w) X.A (eval a X.env) (λv e=>wpAny (model X.prog X.w) X.A (pyIter v) (PM X c b tg R) X.xe e) X.xe s
def Vz{E:be}{s:Shared}{Q:pp}(b:s.heap.get? it=some o)(e:o.cls=.type n)(d:o.data=.fields vs)
  (c:["enumerate","zip","dict_itemiterator","dict_reverseitemiterator","odict_iterator","itertools.zip_longest","itertools.pairwise"].contains n=false) (a:Q () s):wpAny M A (letOwnedTupleGo tg (.ref it) u) Q E s:=by
 cases tg<;>first
  |exact Ob a
  |(cases u<;>first
    |exact Ob a
    | (refine Ha (wpAny_load b ?_)
       rw[e,d];show wpAny M A (if (["enumerate","zip","dict_itemiterator","dict_reverseitemiterator","odict_iterator","itertools.zip_longest","itertools.pairwise"].contains n&&vs[0]?==some _)=true then _ else _) Q E s
       rw[Ta (by intro h;rw[c]at h;cases h)]
       exact Ob a))
def WC(K:PySem.W.Frag)(a:Addr):It:=
 ⟨λi H=>∃b x,fe K H a b/\b[i]?=some x,λi H x c=>c=H/\∀b,fe K H a b->b[i]?=some x,λi H=>∃b,fe K H a b/\b.length<=i⟩
def XC(K:PySem.W.Frag)(a:Addr):It:=
 ⟨λi H=>∃b x,Mg K H a b/\b[i]?=some x,λi H x c=>c=H/\∀b,Mg K H a b->b[i]?=some x,λi H=>∃b,Mg K H a b/\b.length<=i⟩
def Cu(lo:Int)(n:Nat):It:=⟨λi _=>i<n,λi H x a=>a=H/\x=.int (lo+i),λi _=>n<=i⟩
theorem ϩ{K:PySem.W.Frag}(a it:Addr):Turn P w K tg (WC K a) [it] it (λi h=>h.IsListIter it a i) where
 mem:=by simp
 obj:=λi h st b f=>by
  have e:=by simpa using f
  subst e;obtain⟨o,e,c,d⟩:=st;exact⟨o,e,λv z=>by rw[d]at z;cases z⟩
 keep:=λi h J st k=>st.at λo e=>k it (by simp) o e
 item:=by
  intro X r n t G i V s L H E I l st q;subst r n t;obtain⟨M,x,j,F⟩:=q;obtain⟨W,m,p,Q⟩:=I.list j;obtain⟨u,S,O⟩:=m.get F;obtain⟨D,C,T,B,A,y⟩:=l it (by simp)
  refine wpAny_pyNext_list_item st p.isList (by simpa using S) λJ g N=>?_
  obtain⟨o,e,c,d⟩:=id g;exact⟨u,rfl,Vz e c d rfl ⟨x,H,(I.turned (λb o f e=>(N.2 b f).trans e) D C B A y),O,⟨rfl,λY R=>by rwa [I.Hg R j]⟩,g,λb f=>(l b f).1⟩⟩
 done:=by
  intro X r n t G i V s L H E I l st q;subst r n t;obtain⟨M,j,F⟩:=q;obtain⟨W,m,p,Q⟩:=I.list j;obtain⟨D,C,T,B,A,y⟩:=l it (by simp)
  have Z:=m.length;exact wpAny_pyNext_list_end (I.ok.hd G) st p.isList (by simp;lia) λJ U=>⟨rfl,I.turned (λb o f e=>U b o f e) D C B A y⟩
 self:=λ_ _ _ _ _ st h=>wpAny_pyIter_listiter st h
def η{K:PySem.W.Frag}(a it:Addr):Turn P w K tg (XC K a) [it] it (λi h=>h.IsTupleIter it a i) where
 mem:=by simp
 obj:=λi h st b f=>by
  have e:=by simpa using f
  subst e;obtain⟨o,e,c,d⟩:=st;exact⟨o,e,λv z=>by rw[d]at z;cases z⟩
 keep:=λi h J st k=>st.at λo e=>k it (by simp) o e
 item:=by
  intro X r n t G i V s L H E I l st q;subst r n t;obtain⟨M,x,j,F⟩:=q;obtain⟨W,m,p,Q⟩:=I.tuple j;obtain⟨u,S,O⟩:=m.get F;obtain⟨D,C,T,B,A,y⟩:=l it (by simp)
  refine wpAny_pyNext_tuple_item st (p) (by simpa using S) λJ g N=>?_
  obtain⟨o,e,c,d⟩:=id g;exact⟨u,rfl,Vz e c d rfl ⟨x,H,(I.turned (λb o f e=>(N.2 b f).trans e) D C B A y),O,⟨rfl,λY R=>by rwa [I.kh R j]⟩,g,λb f=>(l b f).1⟩⟩
 done:=by
  intro X r n t G i V s L H E I l st q;subst r n t;obtain⟨M,j,F⟩:=q;obtain⟨W,m,p,Q⟩:=I.tuple j;obtain⟨D,C,T,B,A,y⟩:=l it (by simp)
  have Z:=m.length;exact wpAny_pyNext_tuple_end (I.ok.hd G) st (p) (by simp;omega) λJ U=>⟨rfl,I.turned (λb o f e=>U b o f e) D C B A y⟩
 self:=λ_ _ _ _ _ st h=>wpAny_pyIter_tupleiter st h
theorem θ{K:PySem.W.Frag}(it:Addr)(lo:Int)(n:Nat):Turn P w K tg (Cu lo n) [it] it (λi h=>IsRangeIter h it (lo+(i:Nat)*1) ((n:Int)-(i:Nat)) 1) where
 mem:=by simp
 obj:=λi h st b a=>by
  have e:=by simpa using a
  subst e;exact⟨_,st,λv z=>by
   cases z⟩
 keep:=λi h y st k=>k it (by simp) _ st
 item:=by
  intro X u r x g i G s A H E I d st f;subst u r x;obtain⟨q,p,D,m,l,j⟩:=d it (by simp)
  refine(Walks.range (prog:=X.prog) (w:=X.w) (I.ok.hd g) it lo 1 n).item i s _ _ f st λv y J C c B=>?_
  obtain⟨t,rfl⟩:=C;refine⟨_,rfl,Vz c rfl rfl rfl ⟨.int _,H,(I.turned (λb o a e=>B b o (by simpa using a) e) q p m l j),⟨t,?_⟩,⟨rfl,rfl⟩,c,λb a=>(d b a).1⟩⟩
  rw[Int.mul_one]
 done:=by
  intro X u r x g i G s A H E I d st f;obtain⟨q,p,D,m,l,j⟩:=d it (by simp)
  exact wpAny_pyNext_range_end (I.ok.hd g) st (by have:n<=i:=f;lia) λy F=>⟨rfl,I.turned (λb o a e=>F b o a e) q p m l j⟩
 self:=λ_ _ _ _ _ st h=>wpAny_pyIter_rangeiter st h
section
variable{X:Cx}{tg:Expr}
theorem AR{R:It->s0}{E:be}{lo a:Int}{t:Tok}{d:Nat}(I:Aa X aa σ H s)(i : -(2^62)<=lo)(h:lo<2^62)(g : -(2^62)<=a)(f:a<2^62)
  (q:R (Cu lo (a-lo).toNat) H):wpAny (model X.prog X.w) X.A (pyIter<|.ref s.heap.objs.size) (PM X aa σ tg R) E {s with heap:=s.heap.push {cls:=.type "range",data:=.fields #[.int lo t,.int a u,.int 1 v]},toks:=d}:=by
 refine wpAny_pyIter_range (IsRange.new ..) (small_one i h g f) ?_
 have c:Aa X aa σ H {s with heap:=s.heap.push {cls:=.type "range",data:=.fields #[.int lo t,.int a u,.int 1 v]},toks:=d}:=I.kept λb o e=>Zc _ e
 refine⟨(s.heap.push {cls:=.type "range",data:=.fields #[.int lo t,.int a u,.int 1 v]}).objs.size,[(s.heap.push {cls:=.type "range",data:=.fields #[.int lo t,.int a u,.int 1 v]}).objs.size],_,_,H,rfl,
  c.kept λb o e=>Zc _ e,θ _ lo (a-lo).toNat,?_,λb hb=>?_,q⟩
 .have e1:lo+((0:Nat))*1=lo:=by simp
  have e2:(((a-lo).toNat):Int)-((0:Nat))=Builtin.Range.rangeSize lo a 1:=by rw[rangeSize_one];split<;>lia
  rw[e1,e2];exact vf _ rfl
 have e:b=(s.heap.push {cls:=.type "range",data:=.fields #[.int lo t,.int a u,.int 1 v]}).objs.size:=by simpa using hb
 subst e;exact c.ll (Fc _)<|c.Bb.fresh<|Fc _
def bPr(c:TA):TI:=λa H R=>c a H λb d=>∃j:Int,b=[.int j]/\-(2^62)<=j/\j<2^62/\R (Cu 0 j.toNat) d
def bPs(c:TA):TI:=λa H R=>c a H λb d=>∃i j:Int,b=[.int i,.int j]/\(-(2^62)<=i/\i<2^62/\-(2^62)<=j/\j<2^62)/\R (Cu i (j-i).toNat) d
theorem Ϫ{a:Expr}(k:Gl X "range")(i:X.mg "range"=none)(l:PA X [a] ta)(g:starEach [a] X.env=[(false,eval a X.env)]:=by rfl):PI X tg (.Call (.Name "range" p) [a] [] pos) (bPr ta):=by
 intro m s c H R I h;refine Call_<|Yp I k i boot_range<|ow (wc (l pos m s c H _ I h) λo u ⟨n,v,I1,r1,b⟩=>?_) g rfl
 obtain⟨j,e,b,f,q⟩:=b;subst e;cases r1 with
 |cons r d=>
  cases d;obtain⟨t,rfl⟩:=r;exact call_range_1<|AR I1 (by lia) (by lia) b f<|by simpa using q
def ϫ{a b:Expr}(v:Gl X "range")(u:X.mg "range"=none)(w:PA X [a,b] ta)(o:starEach [a,b] X.env=[(false,eval a X.env),(false,eval b X.env)]:=by rfl)(f:starEach [b] X.env=[(false,eval b X.env)]:=by rfl) :
  PI X tg (.Call (.Name "range" p) [a,b] [] pos) (bPs ta):=by
 intro x s g H R I h;refine Call_<|Yp I v u boot_range<|ow (wc (w pos x s g H _ I h) λz B ⟨y,C,I1,r1,d⟩=>?_) (by rw[o,f])<|by rw[f];rfl
 obtain⟨i,j,e,⟨d,n,m,l⟩,q⟩:=d;subst e;cases r1 with
 |cons r c=>
  cases c with
  |cons k c=>
   cases c;obtain⟨t,rfl⟩:=r;obtain⟨A,rfl⟩:=k;exact call_range_2<|AR I1 d n m l q
def bSi(e:TI)(g:TG)(f:TS):TS:=λD a H=>e a H λJ j=>∃W:Nat->Nat->St->s0,(∃m,W 0 m a j)/\∀i m a H,W i m a H->
 (J.stop i H/\D.nx a H)\/(J.go i H/\∃N:St->s0,(∀d b,N d b->∃c,c < m/\W (i+1) c d b)/\∀x b,J.Bu i H x b->g x a b λk h=>f {D with nx:=N,ct:=N,bk:=D.nx} k h)
def MH(a:bv)(h:Heap):ca:=a.filterMap λb=>(h.get? b).map λo=>(b,o)
def jy{a:bv}{h:Heap}{b:Addr}(c:b∈a)(e:h.get? b=some o):(b,o)∈MH a h:=List.mem_filterMap.mpr ⟨b,c,by rw[e];rfl⟩
def Ϭ{p:Addr×Obj}(a:p∈MH fp h):p.1∈fp/\h.get? p.1=some p.2:=by
 obtain⟨b,c,e⟩:=List.mem_filterMap.mp a;cases q:h.get? b with
 |none=>rw[q]at e;cases e
 |some o=>
  rw[q]at e;have d:=Uk e;subst d;exact⟨c,q⟩
def Aa.pinned{a:bv}(I:Aa X aa σ H s)(i:∀b∈a,Dj X aa H b)(h:∀b∈a,∃o,s.heap.get? b=some o/\∀v,o.data≠.cell v):Aa X (aa++MH a s.heap) σ H s:=
 I.pj λp g=>(Pg.mp g).elim (λz=>I.pin p<|Ag _ z) λz=>by
  obtain⟨c,e⟩:=Ϭ z;obtain⟨l,k,j,_⟩:=i p.1 c;obtain⟨o,f,d⟩:=h p.1 c;rw[e]at f;cases f;exact⟨e,l,k,j,d⟩
def Aa.Vf{a pl:ca}(I:Aa X (a++pl) σ H s):Aa X a σ H s:=I.pj λp b=>I.pin p<|Ag _<|Kh _ b
def bMe(A:PassesOwn (model X.prog X.w) X.A X.env X.xe)(R:X.calm=true)(hi:PI X tg iter wi)(hg:PG X tg g)(a:jf X body tb)
  (hs:∀x,foldedSetIterable iter X.env x=pure x:=by intro _;rfl):PS X (.For tg iter body [] pos) (bSi wi g tb):=by
 intro t s M H D I h;refine wpAny_For (wc (hi t s M H _ I h) λv s1 h1=>wc h1 λIL s2 h2=>?_) hs
 obtain⟨it,C,O,J,H2,e,I2,T,Bh,S,W,⟨m0,w0⟩,turn⟩:=h2;subst e;have L:∀{l:Hp},(∀b∈C,l b=none)->∀b∈C,Dj X t l b:=λhn b a=>⟨hn b a,(S b a).2⟩
 refine codeAny_forLoop_any (λn Q=>∃i B l,Aa X t B l Q/\O i Q.heap/\(∀b∈C,l b=none)/\W i n B l) ?_ m0 ⟨0,M,H2,I2,Bh,λb a=>(S b a).1,w0⟩
 rintro n P ⟨i,w,E,Y,U,V,w3⟩;rcases turn i n w E w3 with ⟨y,qn⟩|⟨go,N,hN,step⟩
 .refine tq A (wc (T.done X rfl rfl rfl R i t P w E X.xe Y (L V) U y) λr s4 ⟨hr,I4⟩=>?_)
  subst hr;exact JB ⟨w,E,I4,qn⟩
 refine tq A<|wc (T.item X rfl rfl rfl R i t P w E X.xe Y (L V) U go) λr s4 ⟨u,hr,h4⟩=>?_
 subst hr;refine tq A<|wc h4 λ_ s5 ⟨x,Z,I5,r5,y5,q,K⟩=>?_
 refine tq A<|wc (hg _ s5 w Z x u _ (I5.pinned (L K)<|T.obj _ _ q) r5<|step x Z y5) λ_ s6 ⟨F,H6,I6,q6⟩=>tq A<|wc (a _ s6 F H6 _ I6 q6) λf G p=>?_
 have again:∀{c:St}{k:Hp},Aa X _ c k G->N c k->∃m,m<n/\∃i B l,Aa X t B l G/\O i G.heap/\(∀b∈C,l b=none)/\W i m B l:=λ{c k} j z=>by
  obtain⟨m',hm,w7⟩:=hN c k z;refine⟨m',hm,i+1,c,k,j.Vf,T.keep _ _ _ q λb a o e=>(j.pin (b,o)<|Ag _<|Ag _<|jy a e).1,λb a=>?_,w7⟩
  obtain⟨o,e,d⟩:=T.obj _ _ q b a;exact(j.pin (b,o)<|Ag _<|Ag _<|jy a e).2.1
 cases f with
 |next=>obtain⟨c,k,j,z⟩:=p;exact again j z
 |cont=>obtain⟨c,k,j,z⟩:=p;exact again j z
 |brk=>obtain⟨c,k,j,p⟩:=p;exact⟨c,k,j.Vf,p⟩
 |ret v=>obtain⟨x7,c,k,j,r7,p⟩:=p;exact⟨x7,c,k,j.Vf,r7,p⟩
end
abbrev R2:=V->xz
def Ge(X:Cx)(f:Value->Value->Sem Value)(r:R2):Prop:=
 ∀(b:ca) (s:Shared) (a:St) (H:Hp) (x y:V) (v u:Value) (Q:VK),Aa X b a H s->RelV x v->RelV y u->r x y H Q->
  wpAny (model X.prog X.w) X.A (f v u) (EP X b a Q) X.xe s
def xD(X:Cx)(f:Value->Sem Value)(r:xz):Prop:=
 ∀(b:ca) (s:Shared) (a:St) (H:Hp) (x:V) (v:Value) (Q:VK),Aa X b a H s->RelV x v->r x H Q->
  wpAny (model X.prog X.w) X.A (f v) (EP X b a Q) X.xe s
def pH(X:Cx)(f:Value)(r:wT):Prop:=
 ∀(d:ca) (s:Shared) (a:St) (H:Hp) (b:ls) (c:cr) (Q:VK),Aa X d a H s->Ia b c->r b H Q->
  wpAny (model X.prog X.w) X.A (call f c) (EP X d a Q) X.xe s
def Tx(r:R2)(c b:TE):TE:=λa H Q=>c a H λx e=>b a e λy d=>r x y d Q
def tUn(r:xz)(b:TE):TE:=λa H Q=>b a H λx c=>r x c Q
def rI(C:Int->Int->Prop)(g:Int->Int->V):R2:=λx y H Q=>∃i j,x=.int i/\y=.int j/\C i j/\Q (g i j) H
def Ai(g:Int->Int->V):R2:=λx y H Q=>∃i j,x=.int i/\y=.int j/\Q (g i j) H
def rU(g:Int->V):xz:=λx H Q=>∃i,x=.int i/\Q (g i) H
section
variable{X:Cx}{a b c:Expr}{ta tb tc:TE}{pos:Pos}
def UI(p:PE X a ta)(o:PE X b tb){e:ca}{s:Shared}{c:St}{H:Hp}{R:V->V->Hp->Prop}(I:Aa X e c H s)
  (h:ta c H λx g=>tb c g λy d=>R x y d) {Q:be} {f:Value->Value->Sem Value}
  (n:∀v u s2 x y d,Aa X e c d s2->RelV x v->RelV y u->R x y d->wpAny (model X.prog X.w) X.A (f v u) Q X.xe s2) :
  wpAny (model X.prog X.w) X.A (eval a X.env) (λv w=>wpAny (model X.prog X.w) X.A (eval b X.env) (λu q=>wpAny (model X.prog X.w) X.A (f v u) Q X.xe q) X.xe w) X.xe s:=by
 exact wc (p e s c H _ I h) λv i ⟨x,g,t,k,m⟩=>wc (o e i c g _ t m) λu s2 ⟨y,d,r,j,l⟩=>n v u s2 x y d r k j l
def gX(g:Ge X (binaryOp op) r)(j:PE X a ta)(i:PE X b tb):PE X (.BinOp a op b pos) (Tx r ta tb):=by
 intro k s c H Q I h;exact wpAny_BinOp<|UI j i I h λv u d x y m l f e q=>g k d c m x y v u Q l f e q
def bPt{r:xz}(g:xD X (unaryOp op) r)(i:PE X a ta):PE X (.UnaryOp op a pos) (tUn r ta):=by
 intro c s b H Q I h;exact UnaryOp_<|wc (i c s b H _ I h) λv d ⟨x,k,j,e,f⟩=>g c d b k x v Q j e f
def xu{f:Value->Value->Sem Value}{C:Int->Int->Prop}{g:Int->Int->Int}
  (rule:∀(i j:Int)(t u:Tok)(s:Shared)(Q:be)(E:be),C i j->Q (.int (g i j) s.toks) {s with toks:=s.toks+1}->wpAny (model X.prog X.w) X.A (f (.int i t)<|.int j u) Q E s) :
  Ge X f (rI C λi j=>.int<|g i j):=by
 intro k s e H x y v u Q I c b h;obtain⟨i,j,rfl,rfl,d,q⟩:=h;obtain⟨t,rfl⟩:=c;obtain⟨a,rfl⟩:=b;exact rule i j t a s _ _ d ⟨.int<|g i j,H,I.tok _,⟨_,rfl⟩,q⟩
def bw{f:Value->Value->Sem Value}{g:Int->Int->Int}
  (rule:∀(i j:Int)(t u:Tok)(s:Shared)(Q:be)(E:be),Q (.int (g i j) s.toks) {s with toks:=s.toks+1}->wpAny (model X.prog X.w) X.A (f (.int i t)<|.int j u) Q E s) :
  Ge X f (Ai λi j=>.int<|g i j):=by
 intro e s d H x y v u Q I c b h;obtain⟨i,j,rfl,rfl,q⟩:=h;obtain⟨t,rfl⟩:=c;obtain⟨a,rfl⟩:=b;exact rule i j t a s _ _ ⟨.int<|g i j,H,I.tok _,⟨_,rfl⟩,q⟩
def EA{f:Value->Value->Sem Value}{g:Int->Int->Bool}
  (rule:∀(i j:Int)(t u:Tok)(s:Shared)(Q:be)(E:be),Q (.bool<|g i j) s->wpAny (model X.prog X.w) X.A (f (.int i t)<|.int j u) Q E s) :
  Ge X f (Ai λi j=>.bl<|g i j):=by
 intro e s d H x y v u Q I c b h;obtain⟨i,j,rfl,rfl,q⟩:=h;obtain⟨t,rfl⟩:=c;obtain⟨a,rfl⟩:=b;exact rule i j t a s _ _ ⟨.bl<|g i j,H,I,rfl,q⟩
def bSj(i j:Int):Prop:=0<j/\j<1073741824
def AY(i j:Int):Prop:=0<=j/\j<=1000000/\i.natAbs<2^64
def cw(i j:Int):Prop:=(-(2^64)<i/\i<2^64)\/(-(2^64)<j/\j<2^64)
def cw.ok(h:cw i j):IntMulOk i j:=by
 rcases h with ⟨b,a⟩|⟨b,a⟩
 .exact .of_left (intBits_le_64 b a)
 exact .of_right<|intBits_le_64 b a
def ι(k:Nat):(0:Int)<=2^k:=by
 exact MJ _
def bMg:Ge X (binaryOp .Add) (Ai λi j=>.int<|i+j):=bw λ_ _ _ _ _ _ _ q=>add_int q
def bMh:Ge X (binaryOp .Sub) (Ai λi j=>.int<|i-j):=bw λ_ _ _ _ _ _ _ q=>sub_int q
def bMi:Ge X (binaryOp .Mult) (rI cw λi j=>.int<|i*j):=xu λ_ _ _ _ _ _ _ a q=>mul_int q a.ok
theorem Ŗ:Ge X (binaryOp .FloorDiv) (rI bSj λi j=>.int<|i/j):=xu λi j _ _ _ _ _ a q=>by
 have c:=a.1;have b:=a.2;exact floordiv_int (by lia) (by rwa [WY i (by lia)])<|.inl<|PyProof.noPylong_small<|by lia
theorem bMj:Ge X (binaryOp .Mod) (rI (λ_ j=>0<j) λi j=>.int<|i%j):=xu λi j _ _ _ _ _ a q=>by
 exact mod_int' (by lia) (by rwa [Int.fmod_eq_emod_of_nonneg i (by lia)])
def bMk:Ge X (binaryOp .Pow) (rI AY λi j=>.int<|i^j.toNat):=xu λ_ _ _ _ _ _ _ a q=>pow_int_small a.1 a.2.1 a.2.2 q
def bMl:Ge X (binaryOp .LShift) (rI AY λi j=>.int<|i*2^j.toNat):=xu λ_ _ _ _ _ _ _ a q=>lshift_int_small a.1 a.2.1 a.2.2 q
def bMm:Ge X (binaryOp .RShift) (rI (λ_ j=>0<=j) λi j=>.int<|i/2^j.toNat):=xu λi j _ _ _ _ _ a q=>
 rshift_int a (by rwa [WY i<|ι _])
def bMn:Ge X (binaryOp .BitAnd) (Ai λi j=>.int<|Builtin.bitAnd i j):=bw λ_ _ _ _ _ _ _ q=>and_int q
def bPv:Ge X (binaryOp .BitOr) (Ai λi j=>.int<|Builtin.bitOr i j):=bw λ_ _ _ _ _ _ _ q=>or_int q
def bMo:Ge X (binaryOp .BitXor) (Ai λi j=>.int<|Builtin.bitXor i j):=bw λ_ _ _ _ _ _ _ q=>xor_int q
def unI{f:Value->Sem Value}{g:Int->Int}
  (rule:∀(i:Int)(t:Tok)(s:Shared)(Q:be)(E:be),Q (.int (g i) s.toks) {s with toks:=s.toks+1}->wpAny (model X.prog X.w) X.A (f<|.int i t) Q E s) :
  xD X f (rU λi=>.int<|g i):=by
 intro c s b H x v Q I a h;obtain⟨i,rfl,q⟩:=h;obtain⟨t,rfl⟩:=a;exact rule i t s _ _ ⟨.int<|g i,H,I.tok _,⟨_,rfl⟩,q⟩
def bMp:xD X (unaryOp .USub) (rU λi=>.int<|-i):=unI λ_ _ _ _ _ q=>neg_int q
def vz{Q:VK}{k a:Bool}(I:Aa X aa σ H s)(q:Q (.bl k) H)(e:k=a):EP X aa σ Q (.bool a) s:=by
 subst e;exact⟨.bl k,H,I,rfl,q⟩
def Yr:Ge X (compareOp .Lt) (Ai λi j=>.bl<|decide (i<j)):=EA λ_ _ _ _ _ _ _ q=>lt_int q
def BI:Ge X (compareOp .LtE) (Ai λi j=>.bl<|decide (i<=j)):=EA λ_ _ _ _ _ _ _ q=>le_int q
def yo:Ge X (compareOp .Gt) (Ai λi j=>.bl<|decide (j<i)):=EA λ_ _ _ _ _ _ _ q=>gt_int q
def Wz:Ge X (compareOp .GtE) (Ai λi j=>.bl<|decide (j<=i)):=EA λ_ _ _ _ _ _ _ q=>ge_int q
def ϭ:Ge X (compareOp .In) (λx y H Q=>∃i j,x=.str i/\y=.str j/\Q (.bl<|!(Builtin.Str.occurrences j i 0 j.length 1).isEmpty) H):=by
 intro e s c H x y v u Q I b a h;obtain⟨i,j,rfl,rfl,q⟩:=h;obtain⟨t,rfl⟩:=b;obtain⟨d,rfl⟩:=a;exact in_str<|vz I q rfl
def bMq:Ge X (compareOp .Is) (λx y H Q=>y=.Tb/\Q (.bl<|decide (x=.Tb)) H):=by
 intro d s c H x y v u Q I b a h;obtain⟨rfl,q⟩:=h;cases a;refine is_none_gen<|vz I q ?_;cases x<;>first
  |(rfl)
  |(obtain⟨t,rfl⟩:=b;rfl)
def ŗ:Ge X (compareOp .IsNot) (λx y H Q=>y=.Tb/\Q (.bl<|!decide (x=.Tb)) H):=by
 intro d s c H x y v u Q I a b h;obtain⟨rfl,q⟩:=h;cases b;refine isnot_none_gen<|vz I q ?_;cases x<;>first
  |(cases a;rfl)
  |(obtain⟨t,rfl⟩:=a;rfl)
def B9:Ge X (compareOp .NotIn) (λx y H Q=>∃i j,x=.str i/\y=.str j/\Q (.bl<|!(!(Builtin.Str.occurrences j i 0 j.length 1).isEmpty)) H):=by
 intro e s c H x y v u Q I b a h;obtain⟨i,j,rfl,rfl,q⟩:=h;obtain⟨t,rfl⟩:=b;obtain⟨d,rfl⟩:=a;exact notIn_str<|vz I q rfl
def Ge.or{f:Value->Value->Sem Value}(h:Ge X f r)(e:Ge X f r'):Ge X f (λx y H Q=>r x y H Q\/r' x y H Q):=by
 intro d s a H x y v u Q I c b q;rcases q with q|q
 .exact h d s a H x y v u Q I c b q
 exact e d s a H x y v u Q I c b q
def DV(b:Expr){op:CmpOp}(h:op≠.In:=by decide)(a:op≠.NotIn:=by decide):behindInMarks op b=false:=by
 have e1:(op==CmpOp.In)=false:=by cases op<;>first|rfl|exact absurd rfl h
 have e2:(op==CmpOp.NotIn)=false:=by cases op<;>first|rfl|exact absurd rfl a
 cases b<;>simp[behindInMarks,e1,e2]
def Ř(g:Ge X (compareOp op) r)(k:PE X a ta)(j:PE X b tb)(i:behindInMarks op b=false):PE X (.Compare a [op] [b] pos) (Tx r ta tb):=by
 intro l s c H Q I h;exact wpAny_Compare1 (UI k j I h λv u d x y n m f e q=>g l d c n x y v u Q m f e q) i
def bPw(t:TE):TT:=λa H Q=>t a H λx b=>∃k,x=.bl k/\Q k b
def ř(o:Ge X (compareOp op) r)(t:PE X a ta)(q:PE X b tb)(p:behindInMarks op b=false):PT X (.Compare a [op] [b] pos) (bPw<|Tx r ta tb):=by
 intro f s d H Q I h;refine wpAny_isTrue_Compare1 (wc (t f s d H _ I h) λv i ⟨x,C,A,l,n⟩=>wc (q f i d C _ A n) λu g ⟨y,B,w,j,m⟩=>
  wc (o f g d B x y v u _ w l j m) λc D ⟨z,H3,I3,r3,k,e,q3⟩=>?_) p
 subst e;cases r3;exact Dt ⟨H3,I3,q3⟩
def Tr:(sizeLine:Nat)<2^63:=by decide
def μ:Ge X (binaryOp .Add) (λx y H Q=>∃i j,x=.str i/\y=.str j/\i.length+j.length<=sizeLine/\Q (.str<|i++j) H):=by
 intro g s e H x y v u Q I c b h;obtain⟨i,j,rfl,rfl,d,q⟩:=h;obtain⟨t,rfl⟩:=c;obtain⟨a,rfl⟩:=b;exact add_str (λa f=>⟨.str _,H,I.tok _,⟨_,rfl⟩,q⟩) d
def vals1{x:V}(r:Ia [x] us):∃u,us=[u]/\RelV x u:=by
 cases r with
 |cons b a=>cases a;exact⟨_,rfl,b⟩
def vals2{x y:V}(r:Ia [x,y] us):∃u a,us=[u,a]/\RelV x u/\RelV y a:=by
 cases r with
 |cons e d=>
  cases d with
  |cons c b=>cases b;exact⟨_,_,rfl,e,c⟩
def Ϯ(b:X.calm=true):pH X (.builtin "max") (λxs H Q=>∃i j,xs=[.int i,.int j]/\Q (.int<|if j>i then j else i) H):=by
 intro m s c H xs e Q I r h;obtain⟨i,j,rfl,q⟩:=h;obtain⟨u,d,rfl,⟨t,rfl⟩,⟨g,rfl⟩⟩:=vals2 r;refine max_two_ints (I.ok.hd b) λl f k=>⟨_,H,I.kept k,?_,q⟩
 by_cases a:j>i
 .rw[xb a,xb a];exact⟨_,rfl⟩
 rw[Ta a,Ta a];exact⟨_,rfl⟩
def ϯ(b:X.calm=true):pH X (.builtin "min") (λxs H Q=>∃i j,xs=[.int i,.int j]/\Q (.int<|if j<i then j else i) H):=by
 intro m s c H xs e Q I r h;obtain⟨i,j,rfl,q⟩:=h;obtain⟨u,d,rfl,⟨t,rfl⟩,⟨g,rfl⟩⟩:=vals2 r;refine min_two_ints (I.ok.hd b) λl f k=>⟨_,H,I.kept k,?_,q⟩
 by_cases a:j<i
 .rw[xb a,xb a];exact⟨_,rfl⟩
 rw[Ta a,Ta a];exact⟨_,rfl⟩
end
structure Ci(h:Heap)(x dx C:Addr)(mA:db):Prop where
 obj:h.get? x=some (PySem.W.instObj C dx)
 ns:h.Ns1 dx mA
 ne:dx≠x
def ϰ{h:Heap}{d:db}(n:h.Ns1 dx d):∃c,h.get? dx=some c/\∀b,PySem.W.lookIn b c=some (d b):=by
 obtain⟨o,l,p,g,k,j,_,i⟩:=n;refine⟨o,g,λb=>?_⟩
 have e:=i b;unfold nsFind findBy at e;rw[<-Array.find?_toList]at e;unfold PySem.W.lookIn;rw[k];dsimp only;split
 .rename_i y q;rw[q]at e;exact congrArg some e
 rename_i q;rw[q]at e;have a:l.toList.any (·.refKey)=false:=by
  rw[CB];intro y f;obtain⟨z,t,m⟩:=j y<|Array.mem_toList_iff.mp f;simp[DictEntry.refKey,m]
 rw[Ta (by rw[a];exact ph)]
 exact congrArg some e
def Ci.look{c:db}(I:Ci h x dx C c):∃b,PySem.W.InstAt h x (PySem.W.instObj C dx) C (some b)/\∀a,PySem.W.lookIn a b=some (c a):=
 let ⟨b,d,e⟩:=ϰ I.ns
 ⟨b,⟨I.obj,rfl,rfl,d⟩,e⟩
section
variable{prog:Program}{w:World}{A:Around}{E:be}{s:Shared}{K:PySem.W.Frag}{x dx C f:Addr}{mA:db}{name:Str}{v:Value}
def Ś{Q:be}(X:K.In s.heap)(I:Ci s.heap x dx C mA)(d:PySem.W.plainGet K C name=true)(c:PySem.W.hasDictIn K C=true)
  (e:PySem.W.findIn K (.ref C) name=some none) (a:mA name=some v) (f:PySem.W.handedIn v=true) (h:Q v {s with toks:=s.toks+1}) :
  wpAny (model prog w) A (getAttr (.ref x) name expr) Q E s:=by
 obtain⟨g,J,b⟩:=I.look;exact PySem.W.get_value X J (KJ d).1 (PySem.W.findObj_own c e rfl<|by rw[b,a]) f h
def ý{Q:Value×List Value->Shared->Prop}(X:K.In s.heap)(I:Ci s.heap x dx C mA)(a:PySem.W.plainGet K C name=true)
  (g:PySem.W.findIn K (.ref C) name=some (some<|.ref f)) (d:PySem.W.isFn K (.ref f)=true) (c:mA name=none) (h:Q (.ref f,[.ref x]) s) :
  wpAny (model prog w) A (getMethod (.ref x) name pl) Q E s:=by
 obtain⟨b,J,e⟩:=I.look;exact PySem.W.method_fn X J (KJ a).1 (KJ a).2 g (Xk.mp d) (by show (PySem.W.lookIn name b).map _=some false;rw[e,c];rfl) h
theorem ś{Q:pp}(X:K.In s.heap)(I:Ci s.heap x dx C mA)
  (k:PySem.W.findIn K (.ref C) "__setattr__"=some (some<|.builtin "object.__setattr__")) (l:PySem.W.plainOver K C=true) (j:PySem.W.takerIn K C name=some none) (m:PySem.W.hasDictIn K C=true)
  (i:PySem.Within mA ns) (B:ns.length<=sizeLine)
  (h:∀a,Ci a x dx C (λy=>if y=name then some v else mA y)->Heap.SameBut dx s.heap a->Q () {s with heap:=a,toks:=s.toks+2}) :
  wpAny (model prog w) A (setAttr (.ref x) name v) Q E s:=by
 obtain⟨r,J,u⟩:=I.look;refine PySem.W.set_plain X J k<|PySem.W.osa_open X J l j λb=>?_
 obtain⟨z,n,q⟩:=PySem.W.any_some m;refine Ha<|Ob<|Ha<|Ha<|wpAny_loadPart I.obj<|Ha<|PySem.W.Looks.here (PySem.W.looks_clsIn X n) ?_;rw[q];refine Ob<|Ha<|Ob<|Ha<|wpAny_nsSet1 I.ns λa f g=>?_
 obtain⟨t,o,p,c,d,e⟩:=f.count<|PySem.Within.cons name v i;exact Ha<|wpAny_lookBehind c (by rw[d];exact pastItsLine_dict<|ye e<|by rw[ze];lia)<|Ob<|h _ ⟨(g.2 _<|Lj I.ne).trans I.obj,f,I.ne⟩ g
def þ{R:Result->na}{vs:cr}{b:v4}(X:K.In s.heap)(c:PySem.W.makesIn K C=true)
  (d:PySem.W.findIn K (.ref C) "__init__"=some (some<|.ref f)) (e:PySem.W.typeIn K (.ref f)=some (.type "function"))
  (h:codeAny (model prog w) (A.under<|.builtin "type.__call__" ⟨.ref C::vs,b⟩) (.call (.ref f) ⟨.ref (s.heap.objs.size+1)::vs,b⟩) (PySem.W.InitBack (s.heap.objs.size+1) R)
   {s with heap:=(s.heap.push PySem.W.emptyDict).push (PySem.W.instObj C s.heap.objs.size)}) :
  codeAny (model prog w) A (.call (.ref C) ⟨vs,b⟩) R s:=by
 exact PySem.W.make_core (UJ X c) (I0 X d) (λa=>PySem.W.bind_fn X a e) (.inl rfl) h
def ϱ{R:Result->na}(X:K.In s.heap)(b:PySem.W.makesIn K C=true)
  (c:PySem.W.findIn K (.ref C) "__init__"=some (some<|.builtin "object.__init__"))
  (e:∀a,PySem.W.Looks (model prog w) s.heap (bindSpecial (.builtin "object.__init__") a) (.builtin "object.__init__",[a]))
  (h:codeAny (model prog w) (A.under<|.builtin "type.__call__" ⟨[.ref C],[]⟩) (.call (.builtin "object.__init__") ⟨[.ref<|s.heap.objs.size+1],[]⟩) (PySem.W.InitBack (s.heap.objs.size+1) R)
   {s with heap:=(s.heap.push PySem.W.emptyDict).push (PySem.W.instObj C s.heap.objs.size)}) :
  codeAny (model prog w) A (.call (.ref C) ⟨[],[]⟩) R s:=by
 obtain⟨f,g,d,t,os⟩:=s;exact PySem.W.make_core (UJ X b) (I0 X c) e (.inr ⟨rfl,rfl⟩) h
end
def Sh(f:Str)(v:V):List (Str×V)->List (Str×V)
 |[]=>[(f,v)]
 |(g,x)::r=>if g=f then (g,v)::r else (g,x)::Sh f v r
theorem ZN(f g:Str)(v:V):∀fs:ul,(Sh f v fs).lookup g=if g=f then some v else fs.lookup g
 |[]=>by
  show List.lookup g [(f,v)]=_
  by_cases h:g=f
  .simp[List.lookup,(beq_iff_eq.mpr h),if_pos h]
  simp only[List.lookup,(beq_eq_false_iff_ne.mpr h),if_neg h]
 |(k,x)::r=>by
  rw[show Sh f v _=(if k=f then (k,v)::r else (k,x)::Sh f v r) from rfl]
  by_cases a:k=f
  .rw[xb a]
   by_cases h:g=k
   .simp[List.lookup,(beq_iff_eq.mpr h),if_pos<|h.trans a]
   simp[List.lookup,(beq_eq_false_iff_ne.mpr h),if_neg (λe:g=f=>h<|e.trans a.symm)]
  rw[Ta a]
  by_cases h:g=k
  .simp only[List.lookup,(beq_iff_eq.mpr h),if_neg (λe:g=f=>a<|h.symm.trans e)]
  simp[List.lookup,(beq_eq_false_iff_ne.mpr h)];exact ZN f g v r
theorem SE(f:Str)(v:V):∀fs:ul,f∈(Sh f v fs).map (·.1)/\∀g,g∈fs.map (·.1)->g∈(Sh f v fs).map (·.1)
 |[]=>⟨by simp[Sh],λg h=>by simp at h⟩
 |(k,x)::r=>by
  obtain⟨c,b⟩:=SE f v r;rw[show Sh f v _=(if k=f then (k,v)::r else (k,x)::Sh f v r) from rfl]
  by_cases a:k=f
  .subst a;exact⟨by simp,λg h=>by simpa using h⟩
  rw[Ta a];refine⟨?_,λg h=>?_⟩
  .exact Xb _ c
  rcases Uc.mp h with e|e
  .exact Uc.mpr (.inl e)
  exact Xb _<|b g e
theorem iO(f:Str)(v:V):∀fs:ul,(Sh f v fs).length<=fs.length+1
 |[]=>by simp[Sh]
 |(k,x)::r=>by
  have b:=iO f v r;rw[show Sh f v _=(if k=f then (k,v)::r else (k,x)::Sh f v r) from rfl]
  by_cases a:k=f
  .rw[xb a,ze,ze];lia
  rw[Ta a,ze,ze];lia
def Hh.some_of(r:Hh (some v) o):∃u,o=some u/\RelV v u:=by
 cases o with
 |none=>exact(r).elim
 |some u=>exact⟨u,rfl,r⟩
def Hh.none_of(r:Hh none o):o=none:=by
 cases o with
 |none=>rfl
 |some u=>exact(r).elim
def ϲ(r:RelV v u):PySem.W.handedIn u=true:=by
 cases v with
 |Tb=>cases (r);rfl
 |bl b=>cases (r);rfl
 |int i=>obtain⟨t,e⟩:=(r);cases e;rfl
 |str x=>obtain⟨t,e⟩:=(r);cases e;rfl
 |TB b=>obtain⟨t,e⟩:=(r);cases e;rfl
 |bu b=>obtain⟨t,e⟩:=(r);cases e;rfl
 |ref a=>cases (r);rfl
 |ty n=>cases (r);rfl
section
variable{P:Program}{w:World}{H H':Hp}{h h':Heap}{a C dx:Addr}{fs fs':ul}
def HG(i:Ff P w H h)(e:H a=some (.ins C dx fs)):∃b,Ci h a dx C b/\(∀f,Hh (fs.lookup f)<|b f)/\PySem.Within b (fs.map (·.1))/\fs.length<=1000/\H dx=some (.own a):=by
 obtain⟨d,z,g,c,b,n,r,q⟩:=((i a _ e));exact⟨b,⟨c,n,g⟩,r,q,z,d⟩
end
structure zk(K:PySem.W.Frag)(C:Addr):Prop where
 pg:PySem.W.plainGet K C Str.empty=true
 hd:PySem.W.hasDictIn K C=true
 po:PySem.W.plainOver K C=true
 sa:PySem.W.findIn K (.ref C) "__setattr__"=some (some<|.builtin "object.__setattr__")
def zk.get{K:PySem.W.Frag}(c:zk K C)(f:Str):PySem.W.plainGet K C f=true:=c.pg
def oY(K:PySem.W.Frag)(C:Addr)(f:Str):Prop:=PySem.W.findIn K (.ref C) f=some none
def oY.Wx{K:PySem.W.Frag}(n:oY K C f):PySem.W.takerIn K C f=some none:=by
 unfold PySem.W.takerIn;rw[n];rfl
structure Meth(K:PySem.W.Frag)(C:Addr)(m:Str)(f:Addr):Prop where
 at_:PySem.W.findIn K (.ref C) m=some (some<|.ref f)
 fn:PySem.W.isFn K (.ref f)=true
 kp:PySem.W.keepIn K (.ref f)=true
section
variable{X:Cx}{aa:ca}{σ:St}{H:Hp}{s:Shared}{a C dx:Addr}{fs:ul}{f:Str}{v:V}{A:Around}{E:be}
def ν{Q:be}(I:Aa X aa σ H s)(e:H a=some (.ins C dx fs))(c:zk X.K C)(n:oY X.K C f)(l:fs.lookup f=some v)
  (h:∀u d,Aa X aa σ H d->RelV v u->Q u d):wpAny (model X.prog X.w) A (getAttr (.ref a) f b) Q E s:=by
 obtain⟨j,O,r,_,_,_⟩:=HG I.Bb e;obtain⟨u,i,g⟩:=Hh.some_of (by rw[<-l];exact r f)
 exact Ś I.ug O (c.get f) c.hd n i (ϲ g)<|h u _ (I.tok _) g
def NO{Q:Value×List Value->Shared->Prop}(I:Aa X aa σ H s)(e:H a=some (.ins C dx fs))(c:zk X.K C)(k:Meth X.K C m g)(l:fs.lookup m=none)
  (h:Q (.ref g,[.ref a]) s):wpAny (model X.prog X.w) A (getMethod (.ref a) m pl) Q E s:=by
 obtain⟨b,O,r,_,_,_⟩:=HG I.Bb e;exact ý I.ug O (c.get m) k.at_ k.fn (Hh.none_of<|by rw[<-l];exact r m) h
theorem ξ{Q:pp}(I:Aa X aa σ H s)(e:H a=some (.ins C dx fs))(c:zk X.K C)(n:oY X.K C f)(w:fs.length<1000)(v:RelV y u)
  (h:∀j,Aa X aa σ (Nb H a<|.ins C dx<|Sh f y fs) j->Q () j):wpAny (model X.prog X.w) A (setAttr (.ref a) f u) Q E s:=by
 obtain⟨l,O,r,i,_,m⟩:=HG I.Bb e;refine ś I.ug O c.sa c.po n.Wx c.hd i (by rw[Kd,Xo];lia) λx d k=>h _<|I.write (by rw[e];exact True.intro) (.inr m) (λb q p z=>(k.2 b p).trans z) (let ⟨o,_,_,t,_⟩:=d.ns;⟨o,t⟩)<|⟨by rwa [bR O.ne],?_,O.ne,d.obj,_,d.ns,λg=>?_,λg hg=>?_⟩
 .have:=iO f y fs;lia
 .rw[ZN]
  by_cases q:g=f
  .rwa [xb q,xb q]
  rw[Ta q,Ta q];exact r g
 by_cases q:g=f
 .rw[q];exact(SE f y fs).1
 refine(SE f y fs).2 g (i g λz=>hg ?_)
 show (if g=f then some u else l g)=none
 rwa [Ta q]
def Aa.made(I:Aa X aa σ H s):Aa X aa σ (Nb (Nb H s.heap.objs.size<|.own<|s.heap.objs.size+1) (s.heap.objs.size+1)<|.ins C s.heap.objs.size [])
  {s with heap:=(s.heap.push PySem.W.emptyDict).push (PySem.W.instObj C s.heap.objs.size)}:=by
 have e1:(s.heap.push PySem.W.emptyDict).get? s.heap.objs.size=some PySem.W.emptyDict:=vf s.heap rfl;refine(I.laid (o:=.own _) (t':=s.toks) (λb u q=>Zc _ q) (Fc _) ⟨_,e1⟩).laid (λb u q=>Zc _ q) (Rt<|bh _ _) ?_
 have a:s.heap.objs.size≠s.heap.objs.size+1:=df<|Ht _;refine⟨by rw[bR a,cG],qh _,a,(by
  have:=vf (s.heap.push PySem.W.emptyDict) (o:=PySem.W.instObj C s.heap.objs.size) rfl
  rwa [bh]at this),λ_=>none,(Heap.Ns1.of_empty<|⟨PySem.W.emptyDict, #[],_,e1,rfl,(λe d=>absurd d<|by simp),λ_=>rfl⟩).at λo q=>Zc _ q,λ_=>True.intro,λy c=>absurd rfl c⟩
def Ŝ{f:Str}{s:Shared}{Q:be}(a:Vg e f env)
  (h:wpAny (model prog w) A (eval e env) (λo b=>wpAny (model prog w) A (getAttr o f true) Q E b) E s):wpAny (model prog w) A (eval (.Attribute e f pos) env) Q E s:=
 Attribute_any_ h (by rw[arm_eval_Attribute,a])
end
def bSk(K:PySem.W.Frag)(d:TE)(f:Str):TE:=λc H Q=>d c H λx b=>∃a C e fs v,x=.ref a/\b a=some (.ins C e fs)/\zk K C/\oY K C f/\fs.lookup f=some v/\Q v b
def bSl(K:PySem.W.Frag)(g e:TE)(f:Str):TS:=λD b H=>e b H λy h=>g b h λx d=>∃a C c fs,x=.ref a/\d a=some (.ins C c fs)/\zk K C/\oY K C f/\fs.length<1000/\
 D.nx b (Nb d a<|.ins C c<|Sh f y fs)
section
variable{X:Cx}{o e value:Expr}{f:Str}{pos pos' tpos:Pos}{ta tv:TE}
def bMr(he:PE X e ta)(i:Vg e f X.env):PE X (.Attribute e f pos) (bSk X.K ta f):=by
 intro m s b H Q I h;refine Ŝ i<|wc (he m s b H _ I h) λu y ⟨x,r,p,d,a,C,z,fs,v,j,k,c,n,l,q⟩=>?_
 subst j;obtain rfl:u=Value.ref a:=d;exact ν p k c n l λt w o g=>⟨v,r,o,g,q⟩
def bMs(j:PE X o ta)(g:PE X value tv)(i:qj value (some<|.Attribute o f pos') pos.line X.env):PS X (.Assign [.Attribute o f pos'] value pos) (bSl X.K ta tv f):=by
 intro d s b H D I h;refine plainObj_wpAny_Assign_Attribute (wc (g d s b H _ I h) λu e ⟨y,p,m,ry,q⟩=>wc (j d e b p _ m q) λov t ⟨x,w,I2,rx,a,C,v,fs,ex,ea,c,n,l,q2⟩=>?_) i
 subst ex;obtain rfl:ov=Value.ref a:=rx;exact ξ I2 ea c n l ry λr k=>⟨b,_,k,q2⟩
end
section
variable{X:Cx}{aa:ca}{σ:St}{H:Hp}{s:Shared}{A:Around}{E:be}{Q:be}{c:Value}{b:Bool}
inductive xg (K:PySem.W.Frag) (H:Hp):V->Value->Prop where
 |Tb:xg K H .Tb (.type "NoneType")
 |bl (x:Bool):xg K H (.bl x) (.type "bool")
 |int (i:Int):xg K H (.int i) (.type "int")
 |str (x:Str):xg K H (.str x) (.type "str")
 |bu (x:UInt64):xg K H (.bu x) (.type "float")
 |lst {a:Addr} {xs:ls} (e:H a=some (.lst xs)):xg K H (.ref a) (.type "list")
 |pk {a:Addr} {o:Obj} {xs:ls} (e:H a=some (.pk o<|.lst xs)):xg K H (.ref a) (.type "list")
 |tup {a:Addr} {xs:ls} (e:H a=some (.tup xs)):xg K H (.ref a) (.type "tuple")
 |dK {a:Addr} {ka:List (Hc×V)} (e:H a=some (.dK ka)):xg K H (.ref a) (.type "dict")
 |dT {a:Addr} {ka:List (List Hc×V)} (e:H a=some (.dT ka)):xg K H (.ref a) (.type "dict")
 |ins {a C dx:Addr} {fs:ul} (e:H a=some (.ins C dx fs)) (cl:zk K C) (ha:PySem.W.findIn K (.ref C) "__class__"=some (some<|.builtin "object.__class__"))
   (hn:PySem.W.specialIn K (.builtin "object.__class__") "__get__"=some (some<|.builtin "getset_descriptor.__get__")) (htk:PySem.W.takesIn K (.builtin "object.__class__")=some true)
   (hm:PySem.W.mroIn K C (.type "object")=some true):xg K H (.ref a) (.ref C)
end
structure Ub(k:Nat)(A:Around):Prop where
 hd:A.handled=none
 dp:A.depth+3*k+5<recursionLimit
 un:A.units+16*k+200<cLine
theorem Ub.mono{j k:Nat}(r:Ub k A)(h:j<=k):Ub j A:=⟨r.hd,by have:=r.dp;lia,by have:=r.un;lia⟩
theorem Ub.deeper{k:Nat}(r:Ub (k+1) A)(env:Env):Ub k (A.deeper env):=
 ⟨r.hd,by have:=r.dp;show A.depth+1+3*k+5<_;lia,by have:=r.un;show A.units+3+16*k+200<_;lia⟩
def ο{A:Around}{C:Addr}{us:cr}{a:v4}:(A.under<|.builtin "type.__call__" ⟨.ref C::us,a⟩).depth=A.depth+1:=by
 first|rfl|simp
def ρ{A:Around}{C:Addr}{us:cr}{a:v4}:(A.under<|.builtin "type.__call__" ⟨.ref C::us,a⟩).units=A.units+1:=by
 first|rfl|simp
theorem Ub.make{k:Nat}{A:Around}(r:Ub (k+1) A)(C:Addr)(us:cr)(a:v4):Ub k (A.under<|.builtin "type.__call__" ⟨.ref C::us,a⟩):=
 ⟨r.hd,by have:=r.dp;rw[ο];lia,by have:=r.un;rw[ρ];lia⟩
theorem Ub.depth{k:Nat}(r:Ub k A):A.depth<recursionLimit:=by have:=r.dp;lia
theorem Ub.units{k:Nat}(r:Ub k A):A.units+64<cLine:=by have:=r.un;lia
def VI:TA:=λ_ H Q=>Q [] H
def bPx(d:TE)(c:TA):TA:=λa H Q=>d a H λx f=>c a f λb e=>Q (x::b) e
section
variable{X:Cx}{e:Expr}{es:List Expr}{te:TE}{t:TA}{pos:Pos}
def iZ:PA X [] VI:=λ_ _ _ _ H Q I h=>QJ ⟨[],H,I,.nil,h⟩
def dD(m:PE X e te)(l:PA X es t)(k:Lf e es X.env:=by rfl):PA X (e::es) (bPx te t):=by
 intro pos b s a H Q I h;rw[k];refine AB<|wc (m b s a H _ I h) λu d ⟨x,q,o,g,j⟩=>?_
 exact wc (l pos b d a q _ o j) λr v ⟨c,p,n,f,i⟩=>⟨x::c,p,n,.cons g f,i⟩
def bSm(t:TA):TE:=λc H Q=>t c H λa b=>a.length<=sizeLine/\∀p,b p=none->Q (.ref p) (Nb b p<|.tup a)
def bSn(t:TA):TE:=λc H Q=>t c H λa b=>a.length<=sizeLine/\∀p,b p=none->Q (.ref p) (Nb b p<|.lst a)
def bMu{x1}(h:PA X es t):PE X (.Tuple es x1 pos) (bSm t):=by
 intro j s d H Q I i;exact wpAny_Tuple_spliced<|wc (h pos j s d H _ I i) λg a ⟨f,k,c,r,z,q⟩=>⟨by rwa [<-r.length],(⟨.ref a.heap.objs.size,Nb k a.heap.objs.size<|.tup f,c.laid (λb u e=>Zc _ e) (Fc _)<|⟨z,g,r,⟨_,vf _ rfl,rfl,_,rfl⟩⟩,rfl,q _<|c.Bb.fresh<|Fc _⟩)⟩
def NH(h:PA X es t):PE X (.List es pos) (bSn t):=by
 intro j s d H Q I i;exact wpAny_List_spliced<|wc (h pos j s d H _ I i) λg a ⟨f,k,c,r,z,q⟩=>⟨by rwa [<-r.length],(⟨.ref a.heap.objs.size,Nb k a.heap.objs.size<|.lst f,c.laid (λb u e=>Zc _ e) (Fc _)<|⟨z,g,0,r,vf _ rfl⟩,rfl,q _<|c.Bb.fresh<|Fc _⟩)⟩
end
abbrev Sp:=List V->Hp->VK->XK->Prop
abbrev Pp:=List Env->Hp->Shared->XK->be
structure yj(P:Program)(w:World)(K:PySem.W.Frag)(mg:db)(base:Heap)(A:Around)(outer:u8)(s:Shared)(H:Hp):Prop where
 frames:A.frames=some outer
 mod:Mod K mg base
 bs:∀b o,base.get? b=some o->s.heap.get? b=some o/\H b=none
 mn:base.objs.size<=s.heap.objs.size
 og:s.heap.FunFrames base outer
 Bq:∀b∈nk outer,H b=none
 Bb:Ff P w H s.heap
 bare:AllBare s.gens
def CE(a:u8)(P:Program)(w:World)(H:Hp)(s:Shared)(Q:VK)(u:Value)(b:Shared):Prop:=
 ∃v c,b.os=s.os/\AllBare b.gens/\Un (nk a) [] H c s.heap b.heap/\Ff P w c b.heap/\RelV v u/\Q v c
def CR(CX:Pp)(a:u8)(P:Program)(w:World)(H:Hp)(s:Shared)(Q:VK)(E:XK)(r:Result)(b:Shared):Prop:=
 match r with
 |.ok (.ret u)=>CE a P w H s Q u b
 |.ok _=>False
 |.error e=>CX a H s E e b
structure xa(P:Program)(w:World)(K:PySem.W.Frag)(mg:db)(base:Heap)(CX:Pp)(k:Nat)(f:Addr)(fd:FuncData)(ps:pi)(sp:Sp):Prop where
 len:∀vs H Q E,sp vs H Q E->vs.length=ps.length
 run:∀(A:Around)(outer:u8)(s:Shared)(H:Hp)(args:Args)(us:cr)(vs:ls)(Q:VK)(E:XK),Ub k A->yj P w K mg base A outer s H->BindsTo s fd args (ps.zip us)->Ia vs us->sp vs H Q E->
  codeAny (model P w) A (.call (.ref f) args) (CR CX outer P w H s Q E) s
def yj.make{K:PySem.W.Frag}{mg:db}{A:Around}(e:yj P w K mg base A outer s H)(C:Addr)(us:cr)(a:v4) :
  yj P w K mg base (A.under<|.builtin "type.__call__" ⟨.ref C::us,a⟩) outer s H:=⟨by first|exact e.frames|(simpa [Around.under,Code.envs,Code.isFrame,pushEnvs] using e.frames),e.mod,e.bs,e.mn,e.og,e.Bq,e.Bb,e.bare⟩
section
variable{X:Cx}{aa:ca}{σ:St}{H:Hp}{s s':Shared}
def Aa.Nw(I:Aa X aa σ H s):yj X.prog X.w X.K X.mg X.base X.A X.stack s H:=
 ⟨I.ok.frames,I.ok.mod,I.bs,ye I.ok.mn I.sz,I.stack,I.vj,I.Bb,I.bare⟩
def Aa.after(I:Aa X aa σ H s)(h:CE X.stack X.prog X.w H s Q u s'):EP X aa σ Q u s':=by
 obtain⟨v,e,os,a,un,f,r,q⟩:=h;obtain⟨i,g,d,t,c⟩:=s';obtain rfl:c=s.os:=os;exact⟨v,e,I.call un f a<|λb z=>absurd z<|by simp,r,q⟩
end
def iX(sp:Sp)(Se:ls)(E:XK)(t:TA):TE:=λa H Q=>t a H λb c=>sp (b++Se) c Q E
def kX(C:Addr)(m:Str)(sp:Sp)(Se:ls)(E:XK)(e:TE)(t:TA):TE:=λb H Q=>e b H λx c=>∃a f fs,x=.ref a/\c a=some (.ins C f fs)/\fs.lookup m=none/\
 t b c λd g=>sp (x::(d++Se)) g Q E
def bPy(C:Addr)(sp:Sp)(Se:ls)(E:XK)(t:TA):TE:=λc H Q=>t c H λd b=>∀x a,b x=none->b a=none->a≠x->
 sp (.ref x::(d++Se)) (Nb (Nb b a<|.own x) x<|.ins C a []) (λv e=>v=.Tb/\Q (.ref x) e) E
def Binds(K:PySem.W.Frag)(b:FuncData)(ps:pi)(ds:cr):Prop:=
 ∀(s:Shared)(a:cr),K.In s.heap->(a++ds).length=ps.length->BindsTo s b ⟨a,[]⟩ (ps.zip<|a++ds)
def Binds.all{K:PySem.W.Frag}{ps:pi}(h:∀us:cr,us.length=ps.length->bindArgs fd ⟨us,[]⟩=pure (ps.zip us)):Binds K fd ps []:=λs us _ a=>by
 rw[dh]at a ⊢;exact .of_eq<|h us a
def so(CX:Pp)(X:Cx)(E:XK):Prop:=∀(c:ca) (b:St) (H:Hp) (s:Shared) (e:Value) (a:Shared),Aa X c b H s->CX X.stack H s E e a->X.xe e a
section
variable{X:Cx}{CX:Pp}{k:Nat}{f C:Addr}{fd:FuncData}{ps:pi}{sp:Sp}{Se:ls}{ds:cr}{E:XK}{x m:Str}{p pos Va:Pos}{e o:Expr}{es:List Expr}{ta:TE}{t:TA}
def wz(F:xa X.prog X.w X.K X.mg X.base CX k f fd ps sp)(g:Ub k X.A)(j:Binds X.K fd ps ds)(i:Ia Se ds)(d:so CX X E)
  (I:Aa X aa σ H s) (r:Ia vs us) (h:sp (vs++Se) H Q E):wpAny (model X.prog X.w) X.A (call (.ref f) us) (EP X aa σ Q) X.xe s:=by
 have b:=r.append i;refine wpAny_call<|uq (F.run X.A X.stack s H _ _ _ Q E g I.Nw (j s us I.ug<|by rw[<-b.length];exact F.len _ _ _ _ h) b h) λr c a=>?_
 cases r with
 |error e=>exact d aa σ H s e c I a
 |ok l=>
  cases l with
  |ret u=>exact I.after a
  |next=>exact False.elim a
  |brk=>exact False.elim a
  |cont=>exact False.elim a
def IG(F:xa X.prog X.w X.K X.mg X.base CX k f fd ps sp)(g:Ub k X.A)(l:Gl X x)(i:X.mg x=some (.ref f))(j:PySem.W.keepIn X.K (.ref f)=true)(n:Binds X.K fd ps ds)(m:Ia Se ds)(d:so CX X E)
  (o:PA X (e::es) t) (c:Bf x:=by decide) (he:Lf e es X.env:=by rfl) (Af:Si pos es X.env:=by rfl) :
  PE X (.Call (.Name x p) (e::es) [] pos) (iX sp Se E t):=by
 intro u s b H Q I h;exact yt<|Tu I l i (NJ I.ok.mod.Jx j (wc (o pos u s b H _ I h) λw y ⟨v,z,a,r,q⟩=>⟨a.ug,(wz F g n m d a r q)⟩) he Af) c
def ÿ(F:xa X.prog X.w X.K X.mg X.base CX k f fd ps sp)(c:Ub k X.A)(g:Gl X x)(d:X.mg x=some (.ref f))(e:PySem.W.keepIn X.K (.ref f)=true)(j:Binds X.K fd ps ds)(i:Ia Se ds)(b:so CX X E)
  (a:Bf x:=by decide):PE X (.Call (.Name x p) [] [] pos) (iX sp Se E VI):=by
 intro m s l H Q I h;refine yt<|Tu I g d ?_ a;exact LJ I.ug e<|wz (us:=[]) F c j i b I .nil h
def ŝ(he:PE X o ta)(c:zk X.K C)(g:Meth X.K C m f)(F:xa X.prog X.w X.K X.mg X.base CX k f fd ps sp)(y:Ub k X.A)(A:Binds X.K fd ps ds)(z:Ia Se ds)(v:so CX X E)(B:PA X (e::es) t)
  (D:Lf e es X.env:=by rfl) (Af:Si pos es X.env:=by rfl)
  (w:eval (.Call (.Attribute o m Va) (e::es) [] pos) X.env=(do
   let d <- eval o X.env
   standAt Va.atName
   let (f,first) <- holding [d] (getMethod d m pl)
   callWith pos f first (backTo pos<|starEach (e::es) X.env) (backToKw pos<|keywordEach [] X.env)):=by rfl) :
  PE X (.Call (.Attribute o m Va) (e::es) [] pos) (kX C m sp Se E ta t):=by
 intro i s b H Q I h;refine j0 (wc (he i s b H _ I h) λu s1 ⟨x,H1,I1,rx,a,K,fs,ex,ea,l,q⟩=>?_) w
 subst ex;obtain rfl:u=Value.ref a:=rx;exact NO I1 ea c g l<|NJ I.ok.mod.Jx g.kp (wc (B pos i s1 b H1 _ I1 q) λG J ⟨n,L,j,r,p⟩=>⟨j.ug,(wz (vs:=.ref a::n) F y A z v j (.cons rfl r) p)⟩) D Af
def Ā(he:PE X o ta)(c:zk X.K C)(d:Meth X.K C m f)(F:xa X.prog X.w X.K X.mg X.base CX k f fd ps sp)(j:Ub k X.A)(p:Binds X.K fd ps ds)(n:Ia Se ds)(g:so CX X E)
  (i:eval (.Call (.Attribute o m Va) [] [] pos) X.env=(do
   let b <- eval o X.env
   standAt Va.atName
   let (f,first) <- holding [b] (getMethod b m pl)
   callWith pos f first (backTo pos<|starEach [] X.env) (backToKw pos<|keywordEach [] X.env)):=by rfl) :
  PE X (.Call (.Attribute o m Va) [] [] pos) (kX C m sp Se E ta VI):=by
 intro r s e H Q I h;refine j0 (wc (he r s e H _ I h) λu t ⟨x,w,I1,rx,a,v,fs,ex,ea,l,q⟩=>?_) i
 subst ex;obtain rfl:u=Value.ref a:=rx;exact NO I1 ea c d l<|LJ I1.ug d.kp<|wz (vs:=[.ref a]) F j p n g I1 (.cons rfl .nil) q
structure Mk(K:PySem.W.Frag)(C f:Addr):Prop where
 makes:PySem.W.makesIn K C=true
 init:PySem.W.findIn K (.ref C) "__init__"=some (some<|.ref f)
 fn:PySem.W.isFn K (.ref f)=true
 kp:PySem.W.keepIn K (.ref C)=true
def ā{Q:VK}(M:Mk X.K C f)(F:xa X.prog X.w X.K X.mg X.base CX k f fd ps sp)(n:Ub (k+1) X.A)(p:Binds X.K fd ps ds)(o:Ia Se ds)
  (m:so CX X E) (I:Aa X aa σ H s) (r:Ia vs us)
  (h:∀x b,H x=none->H b=none->b≠x->sp (.ref x::(vs++Se)) (Nb (Nb H b<|.own x) x<|.ins C b []) (λv y=>v=.Tb/\Q (.ref x) y) E) :
  wpAny (model X.prog X.w) X.A (call (.ref C) us) (EP X aa σ Q) X.xe s:=by
 have g:=h _ s.heap.objs.size (I.Bb.fresh<|bp _) (I.Bb.fresh<|Fc _)<|df<|Ht _;have c:=Aa.made (C:=C) I;have d:Ia (V.ref (s.heap.objs.size+1)::(vs++Se)) _:=.cons rfl<|r.append o;refine wpAny_call<|þ I.ug M.makes M.init (Xk.mp M.fn)<|uq (F.run _ X.stack _ _ _ _ _ _ E (n.make C us [])
  (c.Nw.make C us []) (p _ _ c.ug (by
  have e:=d.length;rw[F.len _ _ _ _ g]at e;exact e.symm)) d g) λr i a=>?_
 cases r with
 |error e=>exact m aa σ _ _ e i c a
 |ok q=>
  cases q with
  |ret u=>
   obtain⟨v,z,w,j,t,l⟩:=c.after a;subst t;exact⟨j,⟨V.ref _,z,w,rfl,l⟩⟩
  |next=>exact False.elim a
  |brk=>exact False.elim a
  |cont=>exact False.elim a
def Ş(M:Mk X.K C f)(F:xa X.prog X.w X.K X.mg X.base CX k f fd ps sp)(g:Ub (k+1) X.A)(j:Gl X x)(i:X.mg x=some (.ref C))(m:Binds X.K fd ps ds)(l:Ia Se ds)(d:so CX X E)
  (n:PA X (e::es) t) (c:Bf x:=by decide) (he:Lf e es X.env:=by rfl) (Af:Si pos es X.env:=by rfl) :
  PE X (.Call (.Name x p) (e::es) [] pos) (bPy C sp Se E t):=by
 intro o s b H Q I h;exact yt<|Tu I j i (NJ I.ok.mod.Jx M.kp (wc (n pos o s b H _ I h) λv w ⟨u,y,a,r,q⟩=>⟨a.ug,(ā M F g m l d a r q)⟩) he Af) c
end
structure qd(N P:pi)(sc:Scope):Prop where
 kind:sc.kind=.function
 co:sc.isCoroutine=false
 gen:sc.isGenerator=false
 nd:N.Nodup
 pre:N.take P.length=P
 B2:∀x∈P,sc.names.lookup x=some .local\/sc.names.lookup x=some .cell
 ar:∀y∈sc.names,y.2≠.free
theorem QP{kindOf:Str->Option NameKind}{x:Str}:∀{binds:v4} {m:db},(∀v,(x,v)∉binds)->bindL kindOf binds m x=m x
 |[],_,_=>rfl
 |(n,v)::r,m,h=>by
  unfold bindL;rw[QP λw a=>h w<|Xb _ a]
  split
  .have:x≠n:=by rintro rfl;exact h v Gb
   simp[this]
  rfl
theorem RP{kindOf:Str->Option NameKind}{x:Str}:∀{binds:v4} {m:db},(∀v,(x,v)∉binds)->bindC kindOf binds m x=m x
 |[],_,_=>rfl
 |(n,v)::r,m,h=>by
  unfold bindC;rw[RP λw a=>h w<|Xb _ a]
  split
  .rfl
  have:x≠n:=by rintro rfl;exact h v Gb
  simp[this]
theorem UP{kindOf:Str->Option NameKind}:∀{P:pi}{vs:cr}{i:Nat}{m:db},P.Nodup->P[i]?=some x->vs[i]?=some v->kindOf x=some .local->
  bindL kindOf (P.zip vs) m x=some v
 |[],_,_,_,_,h,_,_=>by simp at h
 |_::_,[],_,_,_,_,h,_=>by simp at h
 |p::P,w::vs,0,m,c,b,a,d=>by
  simp at b a;subst b;subst a;show bindL kindOf ((p,w)::P.zip vs) m p=_;unfold bindL;rw[QP λv e=>(dj.mp c).1 (XJ e).1,xb d]
  simp
 |p::P,w::vs,i+1,m,c,b,a,d=>by
  unfold bindL;exact UP (dj.mp c).2 (by simpa using b) (by simpa using a) d
theorem VP{kindOf:Str->Option NameKind}:∀{P:pi}{vs:cr}{i:Nat}{m:db},P.Nodup->P[i]?=some x->vs[i]?=some v->kindOf x≠some .local->
  bindC kindOf (P.zip vs) m x=some v
 |[],_,_,_,_,h,_,_=>by simp at h
 |_::_,[],_,_,_,_,h,_=>by simp at h
 |p::P,w::vs,0,m,c,b,a,d=>by
  simp at b a;subst b;subst a;show bindC kindOf ((p,w)::P.zip vs) m p=_;unfold bindC;rw[RP λv e=>(dj.mp c).1 (XJ e).1,Ta d]
  simp
 |p::P,w::vs,i+1,m,c,b,a,d=>by
  unfold bindC;exact VP (dj.mp c).2 (by simpa using b) (by simpa using a) d
def start(N:pi)(vs:ls):St:=vs.map some++List.replicate (N.length-vs.length) none
def Ik(CX:Pp)(P:Program)(w:World)(K:PySem.W.Frag)(mg:db)(base:Heap)(N:pi)(b:Str)(a:Scope)(f:Addr)(c:Value)(A:Around)(outer:u8)(s:Shared)(H:Hp)(E:XK):Cx where
 prog:=P
 w:=w
 K:=K
 mg:=mg
 base:=base
 A:=A.deeper<|envOfC b a s.heap.objs.size f c
 N:=N
 Ea:=s
 Na:=H
 env:=envOfC b a s.heap.objs.size f c
 outer:=outer
 stack:=envOfC b a s.heap.objs.size f c::outer
 ex:=[]
 calm:=true
 fn:=λ_=>true
 pn:=[]
 xe:=λe g=>wpAny (model P w) (A.deeper<|envOfC b a s.heap.objs.size f c) (leaving (envOfC b a s.heap.objs.size f c) e) (λ_ d=>CX outer H s E e d) (λh d=>CX outer H s E h d) g
def BR{a:Scope}(h:a.names.lookup x=some .cell):∃c,(cellsFrom n a.names []).lookup x=some c:=by
 exact GZ.mp<|QZ a.names n []<|.inl h
theorem ϳ{K:PySem.W.Frag}{mg:db}{A:Around}{vs:ls}
  (S:qd N ps scope) (C:A.handled=none) (d:yj P w K mg base A outer s H) (F:vs.length=ps.length) (r:Ia vs us)
  (x:InCallC s s.heap.objs.size (bindL (envOfC qual scope s.heap.objs.size f cd).kindOf (ps.zip us) λ_=>none) (cellsFrom (s.heap.objs.size+1) scope.names []) (bindC (envOfC qual scope s.heap.objs.size f cd).kindOf (ps.zip us) λ_=>none) s1) :
  Aa (Ik CX P w K mg base N qual scope f cd A outer s H E) [] (start N vs) H s1:=by
 have I:ps.length<=N.length:=by have:=congrArg List.length S.pre;rw[List.length_take]at this;lia
 obtain⟨m,D,rfl,o⟩:=x.done;have g:∀b:Addr,b∉(Ik CX P w K mg base N qual scope f cd A outer s H E).ex:=λb z=>absurd (show b∈([]) from z) (by simp)
 refine⟨⟨d.mod,S.kind,rfl,rfl,Fc _,λy z c m h2=>?_,λy hy=>?_,λy c _ h=>?_,λ_=>C,Around.frames_deeper d.frames,.inr ⟨rfl,rfl⟩,λb z=>absurd z<|g b,d.bs,d.mn,λb _ _=>g b,λb z=>absurd z<|g b,d.og,d.Bq⟩,
  rfl,d.bare,Un.kept o,⟨_,x.toInCall.ns,λi y v m h2 G=>?_⟩,λy c h=>⟨_,x.cell y c h⟩,d.Bb.fresh<|Fc _,λy c h=>?_,λp j=>absurd (show p∈([]) from j) (by simp),d.Bb.kept o,?_⟩
 .exact name_of_addr x.apart (Ij m) (Ij h2)
 .rcases hy with hy|hy
  .exact BR hy
  exact absurd rfl<|S.ar _<|Ij hy
 .exact zw (x.above y c<|Ij h)
 .have l:i<vs.length:=by
   unfold start at h2
   by_cases l:i<vs.length
   .exact l
   rw[pw (by simpa using l),List.getElem?_replicate]at h2
   split at h2<;>cases h2
  obtain⟨u,n,B⟩:=r.get (by
   unfold start at h2;rw[Um (by simpa using l),List.getElem?_map]at h2
   cases e:vs[i]? with
   |none=>rw[e]at h2;cases h2
   |some a=>rw[e]at h2;cases h2;rfl)
  have j:ps[i]?=some y:=by
   rwa [<-S.pre,List.getElem?_take_of_lt (by lia)]
  have t:ps.Nodup:=by rw[<-S.pre];exact S.nd.sublist<|List.take_sublist _ _
  refine⟨u,B,?_⟩;rcases S.B2 y (Gj j) with k|k
  .exact .inl ⟨k,UP t j n k⟩
  obtain⟨c,e⟩:=BR k;refine .inr ⟨.inl k,c,e,?_⟩;have q:=x.cell y c e
  rwa [VP t j n (by show scope.names.lookup y≠_;rw[k];decide)]at q
 .exact d.Bb.fresh (zw<|x.above y c<|Ij h)
 unfold start;show _=N.length;rw[af,Kd,List.length_replicate];lia
def nX{K:PySem.W.Frag}{mg:db}{k:Nat}{kV y:Value}{p:o0}
  {F:sK} {sp:Sp} (lk:K.lookup f=some ⟨y,p,.func<|PySem.W.fnOf name qual params body scope dV kV doc pm an Kc ct,F⟩) (I:PySem.W.codeIn K Kc qual=true) (S:qd N ps scope)
  (len:∀vs H Q E,sp vs H Q E->vs.length=ps.length)
  (L:∀(A:Around)(outer:u8)(s:Shared)(H:Hp)(vs:ls)(Q:VK)(E:XK),Ub k (A.deeper<|envOfC qual scope s.heap.objs.size f Kc)->sp vs H Q E->
   ∃t,jf (Ik CX P w K mg base N qual scope f Kc A outer s H E) body t/\t {nx:=λ_ a=>Q .Tb a,rt:=Q} (start N vs) H) :
  xa P w K mg base CX (k+1) f (PySem.W.fnOf name qual params body scope dV kV doc pm an Kc ct) ps sp:=by
 refine⟨len,λA outer s H j M vs Q E hr e0 hb r hsp=>?_⟩
 have l:=e0.mod.Jx.keeps λb o e=>(e0.bs b o e).1
 refine codeAny_call_function hr.depth (l _ _ lk) rfl S.co S.gen rfl (PySem.W.codeRec_of l I)<|hb _ _ _ _<|wpAny_newFunctionEnv_cells S.kind (λ⟨n,v⟩ z=>by
  rcases S.B2 n (XJ z).1 with q|q
  .exact .inl q
  exact .inr ⟨q,QZ _ _ _<|.inl q⟩) λG D m x=>?_
 subst D;refine⟨(e0.mod.nolimit.keeps λb o e=>(e0.bs b o e).1).keeps x.toInCall.keep,codeAny_func ?_⟩
 obtain⟨t,B,C⟩:=L A outer s H vs Q E (hr.deeper _) hsp;refine Wk (B [] m _ H _ (ϳ S hr.hd e0 (len _ _ _ _ hsp) r x) C) (λfl h c=>?_) λe h c=>c
 have d:∀{g:St}{a:Hp}{v:V}{u:Value},Aa (Ik CX P w K mg base N qual scope f Kc A outer s H E) [] g a h->RelV v u->Q v a->CE outer P w H s Q u h:=
  λ{g a v u} J i q=>⟨v,a,J.os,J.bare,J.base,J.Bb,i,q⟩
 cases fl with
 |ret u=>
  obtain⟨v,g,a,J,i,q⟩:=c;exact d J i q
 |next=>
  obtain⟨g,a,J,q⟩:=c;exact d (v:=V.Tb) J rfl q
 |brk=>
  obtain⟨_,_,_,q⟩:=c;exact False.elim q
 |cont=>
  obtain⟨_,_,_,q⟩:=c;exact False.elim q
section
variable{X:Cx}{x:Str}{p pos:Pos}{e:Expr}{es:List Expr}{t:TA}{id T:String}{r:wT}
def J2(r:wT)(t:TA):TE:=λa H Q=>t a H λb c=>r b c Q
def qW(o:pH X (.builtin id) r)(n:Gl X x)(m:X.mg x=none)(k:bootBuiltins x=some (.builtin id))(q:PA X (e::es) t)(l:x≠"__name__":=by decide)(i:Bf x:=by decide)
  (he:Lf e es X.env:=by rfl) (Af:Si pos es X.env:=by rfl):PE X (.Call (.Name x p) (e::es) [] pos) (J2 r t):=by
 intro b s a H Q I h;exact yt<|Yp I n m k (PyProof.Rows.callWith_builtin1 (wc (q pos b s a H _ I h) λd f ⟨c,v,u,g,j⟩=>o b f a v c d Q u g j) he Af) l i
def oy(o:pH X (.type T) r)(n:Gl X x)(m:X.mg x=none)(k:bootBuiltins x=some (.type T))(q:PA X (e::es) t)(l:x≠"__name__":=by decide)(i:Bf x:=by decide)
  (he:Lf e es X.env:=by rfl) (Af:Si pos es X.env:=by rfl):PE X (.Call (.Name x p) (e::es) [] pos) (J2 r t):=by
 intro b s a H Q I h;exact yt<|Yp I n m k (ow (wc (q pos b s a H _ I h) λd f ⟨c,v,u,g,j⟩=>o b f a v c d Q u g j) he Af) l i
end
end L2
namespace HT
open PySem PyProof.Rows
section
open PySem.SeqAt
open PySem.AutoSeq1 (wpAny_loadPart')
open PySem.MeetsSeq PySem.MeetsSeq2 PySem.MeetsSeq3
end
section
variable{prog:Program}{w:World}{A:Around}{E:be}{s:Shared}
def Ef(n d:Nat):Option Int->Nat
 |none=>d
 |some v=>if v<0 then (v+(n:Int)).toNat else min v.toNat n
end
end HT
namespace L2
open PySem PySem.Spec PyProof.Rows
abbrev TO:=St->Hp->(Option Int->Hp->Prop)->Prop
def PO(X:Cx)(e:Option Expr)(t:TO):Prop:=
 ∀(b:ca) (s:Shared) (a:St) (H:Hp) (Q:Option Int->Hp->Prop),Aa X b a H s->t a H Q->
  wpAny (model X.prog X.w) X.A (evalPart e X.env) (λu d=>∃o c,Aa X b a c d/\IsPart u o/\Q o c) X.xe s
def ş:TO:=λ_ H Q=>Q none H
def bPz(t:TE):TO:=λa H Q=>t a H λx b=>∃i,x=.int i/\Q (some i) b
section
variable{X:Cx}{e:Expr}{te:TE}{lo hi:Option Expr}{tl th:TO}{pos p2:Pos}
def Š:PO X none ş:=by
 intro b s a H Q I h;exact Ob ⟨none,H,I,.none,h⟩
def š(h:PE X e te):PO X (some e) (bPz te):=by
 intro f s a H Q I d;refine wc (h f s a H _ I d) λu k ⟨x,j,g,b,c⟩=>?_
 obtain⟨i,rfl,q⟩:=c;obtain⟨t,rfl⟩:=b;exact⟨some i,j,g,.int i t,q⟩
def Tp(X:Cx)(r:lw):Prop:=
 ∀(e:ca) (s:Shared) (a:St) (H:Hp) (x:V) (v c b:Value) (lo hi:ut) (d:Addr) (Q:VK),Aa X e a H s->RelV x v->s.heap.IsSliceOf d c b .none->IsPart c lo->IsPart b hi->r x lo hi H Q->
  ∃T id,typeLookup (.type T) "__getitem__"=pure (some<|.builtin id)/\s.TypeIs v T/\wpAny (model X.prog X.w) X.A (getItem v<|.ref d) (EP X e a Q) X.xe s
def Tp.or{r g:lw}(h:Tp X r)(m:Tp X g):Tp X (λx lo a H Q=>r x lo a H Q\/g x lo a H Q):=by
 intro l s b H x v d c lo a e Q I f k j i q;rcases q with q|q
 .exact h l s b H x v d c lo a e Q I f k j i q
 exact m l s b H x v d c lo a e Q I f k j i q
def tSl(r:lw)(te:TE)(b c:TO):TE:=λa H Q=>te a H λx f=>b a f λl e=>c a e λu d=>r x l u d Q
def Ă{r:lw}(z:Tp X r)(he:PE X e te)(A:PO X lo tl)(w:PO X hi th):PE X (.Subscript e (.Slice lo hi none p2) pos) (tSl r te tl th):=by
 intro c s a H Q I h;refine Subscript_<|wc (he c s a H _ I h) λv j ⟨x,K,F,k,o⟩=>?_
 refine wpAny_Slice<|wc (A c j a K _ F o) λg i ⟨l,J,E,t,n⟩=>wc (w c i a J _ E n) λf d ⟨u,G,D,p,m⟩=>Ob ?_
 obtain⟨T,id,C,y,B⟩:=z c {d with heap:=d.heap.push {cls:=.type "slice",data:=.fields #[g,f,.none]} } a G x v g f l u d.heap.objs.size Q (D.kept λb L q=>Zc _ q) k (Heap.IsSliceOf.new ..) t p m
 exact tail_any y C B (by with_unfolding_all rfl)
def dw(xs:ls)(lo a:ut):ls:=(xs.drop<|HT.Ef xs.length 0 lo).take<|HT.Ef xs.length xs.length a-HT.Ef xs.length 0 lo
theorem z_(xs:ls)(lo a:ut):(dw xs lo a).length<=xs.length:=by
 unfold dw;rw[List.length_take,List.length_drop];lia
end
def vg(n:Nat)(i:Int):Option Nat:=if 0<=i then (if i<n then some i.toNat else none) else if -(n:Int)<=i then some (i+n).toNat else none
def je{a:Type}(xs:List a)(i:Int):Option a:=(vg xs.length i).bind λj=>xs[j]?
theorem aT{n:Nat}(h:vg n i=some j):seqIndex? i n=some j/\j<n/\-(n:Int)<=i/\i<n:=by
 unfold vg at h
 by_cases b:0<=i
 .rw[xb b]at h
  by_cases a:i<n
  .rw[xb a]at h;exact⟨by rw[seqIndex_of b a,(Uk h)],by lia,by lia,a⟩
  rw[Ta a]at h;cases h
 rw[Ta b]at h
 by_cases a : -n<=i
 .rw[xb a]at h;exact⟨by rw[seqIndex_neg (by lia) a,(Uk h)],by lia,a,by lia⟩
 rw[Ta a]at h;cases h
def JG{a:Type}{xs:List a}{v:a}(h:je xs i=some v):∃j,seqIndex? i xs.length=some j/\xs[j]?=some v/\j<xs.length/\-(xs.length:Int)<=i/\i<xs.length:=by
 unfold je at h;cases e:vg xs.length i with
 |none=>rw[e]at h;cases h
 |some j=>
  rw[e]at h;obtain⟨f,d,c,b⟩:=aT e;exact⟨j,f,h,d,c,b⟩
theorem Jc{a:Type}{xs:List a}{j:Nat}{v:a}(h:xs[j]?=some v):je xs (j:Int)=some v:=by
 have b:=(zg.mp h).1;have e:vg xs.length j=some j:=by
  unfold vg;rw[xb (by lia),xb (by lia)];simp
 unfold je;rwa [e]
def yg{a:Type}(xs:List a)(v:a):je (xs++[v]) (-1)=some v:=by
 have b:(xs++[v]).length=xs.length+1:=by simp
 have e:vg (xs++[v]).length (-1)=some xs.length:=by
  unfold vg;rw[b,Ta (by decide),xb (by omega)]
  congr 1;omega
 unfold je;rw[e];show (xs++[v])[xs.length]?=some v;simp
def fT(b:Expr):Prop:=∀o i,subscripted b false o i=operate [o,i] (getItem o i)
def Yl(X:Cx)(r:R2):Prop:=
 ∀(b a:Expr) (d:ca) (s:Shared) (c:St) (H:Hp) (x y:V) (v u:Value) (Q:VK),Aa X d c H s->RelV x v->RelV y u->r x y H Q->
  subscripted a false v u=operate [v,u] (getItem v u)->wpAny (model X.prog X.w) X.A (subscriptTail b a v u) (EP X d c Q) X.xe s
def Ck(X:Cx)(id:String)(r:lv):Prop:=
 ∀(d:ca) (s:Shared) (a:St) (H:Hp) (x:V) (b:ls) (v:Value) (c:cr) (Q:VK),Aa X d a H s->RelV x v->Ia b c->r x b H Q->
  wpAny (model X.prog X.w) X.A (call (.builtin id)<|v::c) (EP X d a Q) X.xe s
section
variable{X:Cx}{a b:Expr}{ta tb:TE}{pos:Pos}
def Yl.or(h:Yl X r)(i:Yl X r'):Yl X (λx y H Q=>r x y H Q\/r' x y H Q):=by
 intro a b g s c H x y v u Q I e d q f;rcases q with q|q
 .exact h a b g s c H x y v u Q I e d q f
 exact i a b g s c H x y v u Q I e d q f
def bQ0(i:Yl X r)(k:PE X a ta)(j:PE X b tb)(g:fT b):PE X (.Subscript a b pos) (Tx r ta tb):=by
 intro l s c H Q I h;exact Subscript_<|UI k j I h λv u d x y n m f e q=>i a b l d c n x y v u Q m f e q<|g _ _
def BY(K:PySem.W.Frag):R2:=λx y H Q=>∃p a i v,x=.ref p/\y=.int i/\fe K H p a/\je a i=some v/\Q v H
def CY(K:PySem.W.Frag):R2:=λx y H Q=>∃p a i v,x=.ref p/\y=.int i/\Mg K H p a/\je a i=some v/\Q v H
def DY:R2:=λx y H Q=>∃z i c,x=.str z/\y=.int i/\z.length<=sizeLine/\je z.cps.toList i=some c/\Q (.str ⟨#[c]⟩) H
theorem Ţ:Yl X (BY X.K):=by
 intro c d G s m H x y v u Q I o n h g;obtain⟨p,L,i,z,rfl,rfl,A,C,q⟩:=h;cases o;obtain⟨t,rfl⟩:=n;obtain⟨K,r,e,M⟩:=I.list A;obtain⟨j,b,F,O,E,D⟩:=JG C;obtain⟨w,l,J⟩:=r.get F;have B:=r.length;have N:=Tr;have a:EP X G m Q w s:=⟨z,H,I,J,q⟩
 by_cases k:0<=i
 .have f:=by
   rw[seqIndex_of k D]at b;exact Uk b
  exact item_listR e.isList k (by lia) (by rw[f];simpa using l) a g
 have f:(i+K.toArray.size).toNat=j:=by
  rw[seqIndex_neg (by lia) E]at b
  rw[Ng,<-B];exact Uk b
 exact subscriptTail_builtinR e.isList.typeIs slot_list_getitem.lookup
  (wpAny_getItem_list_neg e.isList (by lia) (by rw[Ng] <;> lia) (by lia) (by rw[f];simpa using l) ⟨rfl,a⟩) g
theorem bMv:Yl X (CY X.K):=by
 intro a b J s o H x y v u Q I e d h f;obtain⟨p,A,i,z,rfl,rfl,g,k,q⟩:=h;cases e;obtain⟨t,rfl⟩:=d;obtain⟨K,r,c,B⟩:=I.tuple g;obtain⟨j,G,l,F,E,D⟩:=JG k;obtain⟨w,m,n⟩:=r.get l;have C:=Tr;exact subscriptTail_builtinR c.typeIs slot_tuple_getitem.lookup
  (getItem_tuple c (by lia) (by lia) (by rwa [Ng,<-(r.length)]) (by simpa using m) ⟨rfl,(⟨z,H,I,n,q⟩)⟩) f
theorem bMw:Yl X DY:=by
 intro a b C s p H x y v u Q I f e h g;obtain⟨z,i,c,rfl,rfl,w,l,q⟩:=h;obtain⟨t,rfl⟩:=f;obtain⟨r,rfl⟩:=e;obtain⟨j,d,o,B,n,m⟩:=JG l;have k:z.cps.toList.length=z.length:=by simp[Str.length]
 rw[k]at d n m;have A:=Tr;exact tail_any (typeIs_str s z t) slot_str_getitem.lookup (getItem_str (by
  rw[(yd<|by lia),(yd<|by lia),Bool.or_false]) (by rw[d];simpa using o) ⟨.str _,H,I.tok _,⟨_,rfl⟩,q⟩) g
def ZL(K:PySem.W.Frag):R2:=λx y H Q=>BY K x y H Q\/CY K x y H Q\/DY x y H Q
def bMx:Yl X (ZL X.K):=Ţ.or<|bMv.or bMw
def ς(a:cr)(n j:Nat)(u:Value):Obj.mapSeq (·.setIfInBounds j u) {cls:=.type "list",data:=.seq a.toArray n}={cls:=.type "list",data:=.seq (a.set j u).toArray n}:=by
 simp[Obj.mapSeq]
theorem Aa.lst(I:Aa X aa σ H s)(h:H p=some (.lst xs)) :
  ∃(a:cr)(n:Nat),Ia xs a/\s.heap.get? p=some {cls:=.type "list",data:=.seq a.toArray n}/\xs.length<=sizeLine:=by
 obtain⟨z,a,n,r,e⟩:=I.Bb p _ h;exact⟨a,n,r,e,z⟩
def Aa.Xq{d a:cr}{f:Obj->Obj}(I:Aa X aa σ H s)(h:H p=some (.lst xs))
  (i:s.heap.get? p=some {cls:=.type "list",data:=.seq d.toArray n}) (c:f {cls:=.type "list",data:=.seq d.toArray n}={cls:=.type "list",data:=.seq a.toArray n'}) (r:Ia ys a) (g:ys.length<=sizeLine) (t:Nat) :
  Aa X aa σ (Nb H p<|.lst ys) {s with heap:=s.heap.update p f,toks:=t}:=by
 have e:(s.heap.update p f).get? p=some {cls:=.type "list",data:=.seq a.toArray n'}:=by
  rw[Po f i (by rw[c] <;> rfl),c]
 exact I.write (by rw[h];trivial) (.inl rfl) (λb u j q=>(oq _ _<|Lj j).trans q) ⟨_,e⟩<|⟨g,a,n',r,e⟩
def bQ4:V->V->V->Hp->(Hp->Prop)->Prop:=λo i v H Q=>∃p a k j,o=.ref p/\i=.int k/\H p=some (.lst a)/\vg a.length k=some j/\Q (Nb H p<|.lst<|a.set j v)
theorem set_list:SI X bQ4:=by
 intro K s B H o i v D E u Q I w x m h;obtain⟨p,C,k,j,rfl,rfl,e,y,q⟩:=h;cases w;obtain⟨t,rfl⟩:=x;obtain⟨g,n,r,b,F⟩:=I.lst e;obtain⟨a,J,A,z⟩:=aT y;have c:=r.length;have G:=Tr;have l:=
  I.Xq e b (ς g n j u) (r.set m j) (by rwa [rm]) s.toks
 by_cases f:0<=k
 .have d:=by
   rw[seqIndex_of f z]at a;exact Uk a
  exact PySem.W.ki_setAt b f (by lia) (by rwa [Ng,<-c]) (by rw[d];exact⟨_,l,q⟩)
 have d:(k+g.toArray.size).toNat=j:=by
  rw[seqIndex_neg (by lia) A]at a
  rw[Ng,<-c];exact Uk a
 exact PySem.W.ki_setBack b (by lia) (by rwa [Ng,<-c]) (by lia) (by rw[d];exact⟨_,l,q⟩)
theorem C9(lo a:ut)(n:Nat):(sliceBounds lo a none n).1=((HT.Ef n 0 lo:Nat):Int)/\(sliceBounds lo a none n).2.1=((HT.Ef n n a:Nat):Int)/\(sliceBounds lo a none n).2.2=1:=by
 refine⟨?_,?_,rfl⟩
 .cases lo with
  |none=>simp[sliceBounds,HT.Ef]
  |some i=>
   simp only[sliceBounds,HT.Ef,Option.getD_none]
   by_cases h:i<0
   .simp only[h,if_true] <;> lia
   simp only[h,if_false] <;> lia
 cases a with
 |none=>simp[sliceBounds,HT.Ef]
 |some i=>
  simp only[sliceBounds,HT.Ef,Option.getD_none]
  by_cases h:i<0
  .simp only[h,if_true] <;> lia
  simp only[h,if_false] <;> lia
def G8(a:cr)(lo b:ut):slicePick a.toArray lo b none=((a.drop<|HT.Ef a.length 0 lo).take<|HT.Ef a.length a.length b-HT.Ef a.length 0 lo).toArray:=by
 obtain⟨e,d,c⟩:=C9 lo b a.toArray.size;unfold slicePick;rw[e,d,c];simp only[sliceRange_one,pick_run] <;> rfl
def bSo(K:PySem.W.Frag):lw:=λx lo c H Q=>∃a b,x=.ref a/\fe K H a b/\∀p,H p=none->Q (.ref p) (Nb H p<|.lst<|dw b lo c)
theorem ţ:Tp X (bSo X.K):=by
 intro w s n H x v p o lo m t Q I e l g f h;obtain⟨a,d,rfl,k,q⟩:=h;cases e;obtain⟨y,r,c,j⟩:=I.list k;have i:=r.length;refine⟨"list",_,slot_list_getitem.lookup,c.isList.typeIs,(wpAny_getItem_list_slice c.isList l g f .none (by simp) ?_<|by rw[Ng] <;> lia)⟩
 rw[G8,<-i];refine⟨.ref s.heap.objs.size,_,I.laid (λb u q=>Zc _ q) (Fc _) ?_,rfl,q _<|I.Bb.fresh<|Fc _⟩
 exact⟨ye (z_ d lo m) j,_,0,(r.drop _).take _,vf _ rfl⟩
theorem E9:pH X (.builtin "len") (λxs H Q=>∃p a,xs=[.ref p]/\(fe X.K H p a\/Mg X.K H p a)/\Q (.int a.length) H):=by
 intro m s j H xs k Q I r h;obtain⟨p,a,rfl,b,q⟩:=h;obtain⟨u,rfl,f⟩:=vals1 r;cases f;have l:=Tr;rcases b with b|b
 .obtain⟨i,c,d,g⟩:=I.list b;have e:=c.length;exact Calls.call_len_list d.isList (by simp only[List.size_toArray] <;> lia) ⟨.int a.length,H,I.tok _,⟨s.toks+1,by rw[Ng,e]⟩,q⟩
 obtain⟨i,c,d,g⟩:=I.tuple b;have e:=c.length;exact len_tuple d (by simp only[List.size_toArray] <;> lia) ⟨.int a.length,H,I.tok _,⟨s.toks+1,by rw[Ng,e]⟩,q⟩
theorem F9:pH X (.builtin "len") (λxs H Q=>∃z,xs=[.str z]/\z.length<=sizeLine/\Q (.int z.length) H):=by
 intro e s a H xs b Q I r h;obtain⟨z,rfl,c,q⟩:=h;obtain⟨u,rfl,t,rfl⟩:=vals1 r;have d:=Tr;exact len_str (by lia) ⟨.int z.length,H,I.tok _,⟨_,rfl⟩,q⟩
def pH.or{r d:wT}(h:pH X f r)(g:pH X f d):pH X f (λxs H Q=>r xs H Q\/d xs H Q):=by
 intro e s a H xs b Q I c q;rcases q with q|q
 .exact h e s a H xs b Q I c q
 exact g e s a H xs b Q I c q
def DM(K:PySem.W.Frag)(T:String)(x:V)(H:Hp):Prop:=match x with
 |.str _=>T="str"
 |.int _=>T="int"
 |.ref p=>(T="list"/\∃b,fe K H p b)\/(T="tuple"/\∃o,K.lookup p=some o/\o.cls=.type "tuple"/\o.dict=none)\/
   (T="dict"/\((∃a,H p=some (.dK a))\/∃a,H p=some (.dT a)))\/(T="set"/\∃S n,H p=some (.set S n))
 |_=>False
def EV(I:Aa X aa σ H s)(r:RelV x v)(f:DM X.K T x H) :
  s.TypeIs v T/\∀a,v=.ref a->∃j,s.heap.get? a=some j/\j.dict=none:=by
 cases x with
 |str z=>
  obtain⟨t,rfl⟩:=r;cases (f);exact⟨typeIs_str s z t,λ_ e=>nomatch e⟩
 |int i=>
  obtain⟨t,rfl⟩:=r;cases (f);exact⟨typeIs_int s i t,λ_ e=>nomatch e⟩
 |ref p=>
  cases r;rcases f with ⟨rfl,q,l⟩|⟨rfl,o,b,m,g⟩|⟨rfl,b⟩|⟨rfl,S,n,b⟩
  .obtain⟨u,_,h,_⟩:=I.list l;refine⟨h.isList.typeIs,λa e=>?_⟩
   cases e;obtain⟨o,n,e,c,g,_⟩:=h;exact⟨o,e,g⟩
  .refine⟨⟨o,I.ug p o b,m⟩,λa e=>?_⟩
   cases e;exact⟨o,I.ug _ o b,g⟩
  .have z:∃o,s.heap.get? p=some o/\o.ExactDict:=by
    rcases b with ⟨k,b⟩|⟨k,b⟩
    .obtain⟨_,_,_,_,o,_,_,e,d,_⟩:=I.Bb p _ b;exact⟨o,e,d⟩
    obtain⟨_,_,_,_,o,_,_,e,d,_⟩:=I.Bb p _ b;exact⟨o,e,d⟩
   obtain⟨o,e,d⟩:=z;refine⟨⟨o,e,d.1⟩,λa e2=>?_⟩
   cases e2;exact⟨o,e,d.2.1⟩
  obtain⟨o,_,_,_,e,d,_⟩:=I.Bb p _ b;refine⟨⟨o,e,d.1⟩,λa e2=>?_⟩
  cases e2;exact⟨o,e,d.2.1⟩
 |_=>exact False.elim f
def bSp(K:PySem.W.Frag)(T:String)(r:lv)(c:TE):TE:=λb H Q=>c b H λx a=>DM K T x a/\r x [] a Q
def tBM(K:PySem.W.Frag)(T:String)(r:lv)(d:TE)(t:TA):TE:=λa H Q=>d a H λx b=>DM K T x b/\t a b λc e=>r x c e Q
variable{o e:Expr}{es:List Expr}{to:TE}{t:TA}{name:Str}{Va Oa:Pos}{T id:String}{r:lv}
def yz(k:PlainAttrs T)(a:Slot T name id)(f:typeOf (.builtin id)=pure (.type "method_descriptor"))(p:Ck X id r)(n:PE X o to)
  (m:Vg o name X.env:=by rfl) (l:Oh Va Oa:=by rfl):PE X (.Call (.Attribute o name Va) [] [] Oa) (bSp X.K T r to):=by
 intro d s b H Q I h;refine wpAny_Call_method0_late m l<|wc (n d s b H _ I h) λv i ⟨x,u,e,c,g,j⟩=>?_
 obtain⟨t,q⟩:=EV e c g;exact⟨T,id,k,a,f,t,q,WA rfl<|PySem.evalArgs_none<|p d i b u x [] v [] Q e c .nil j⟩
def Zr(y:PlainAttrs T)(a:Slot T name id)(i:typeOf (.builtin id)=pure (.type "method_descriptor"))(D:Ck X id r)(C:PE X o to)(E:PA X (e::es) t)
  (A:Vg o name X.env:=by rfl)
  (q:Uj Oa (e::es) X.env:=by rfl)
  (z:Oh Va Oa:=by rfl) (B:Lf e es X.env:=by rfl) (J:Si Oa es X.env:=by rfl) :
  PE X (.Call (.Attribute o name Va) (e::es) [] Oa) (tBM X.K T r to t):=by
 intro c s b H Q I h;refine wpAny_Call_method_late A q z rfl<|wc (C c s b H _ I h) λv n ⟨x,M,g,d,l,w⟩=>?_
 obtain⟨G,F⟩:=EV g d l;refine⟨T,id,y,a,i,G,F,?_⟩;have f:=E Oa c n b M _ g w;rw[B]at f ⊢;exact WA (by show (false||(backTo Oa _).any (·.1))=false;rw[J] <;> rfl)<|GJ<|wc f λk m ⟨j,L,K,p,u⟩=>D c m b L x j v k Q K d p u
end
def eD(X:Cx)(id:String)(r:lv):Prop:=
 ∀(d:ca) (s:Shared) (a:St) (H:Hp) (x:V) (b:ls) (v:Value) (c:cr) (Q:VK),Aa X d a H s->RelV x v->Ia b c->r x b H Q->
  wpAny (model X.prog X.w) X.A (call (.builtin id)<|v::c) (EP X d a Q) X.xe s
def Ia.one:∀{x:V}{us:cr},Ia [x] us->∃u,us=[u]/\RelV x u
 |_,_,.cons r .nil=>⟨_,rfl,r⟩
def Ia.two:∀{x y:V}{us:cr},Ia [x,y] us->∃u v,us=[u,v]/\RelV x u/\RelV y v
 |_,_,_,.cons r (.cons q .nil)=>⟨_,_,rfl,r,q⟩
def Ia.zero:∀{us:cr},Ia [] us->us=[]
 |_,.nil=>rfl
theorem Ia.dropLast(h:Ia xs us):Ia xs.dropLast us.dropLast:=by
 induction h with
 |nil=>exact .nil
 |cons r t a=>
  cases t with
  |nil=>exact .nil
  |cons q b=>exact .cons r a
theorem Ia.reverse(h:Ia xs us):Ia xs.reverse us.reverse:=by
 induction h with
 |nil=>exact .nil
 |cons r t a=>rw[List.reverse_cons,List.reverse_cons];exact Ia.append a<|.cons r .nil
theorem Ia.rep(h:Ia xs us):∀k:Nat,Ia (List.replicate k xs).flatten (List.replicate k us).flatten
 |0=>.nil
 |k+1=>by
  rw[Wm,Wm,rq,rq];exact Ia.append h<|Ia.rep h k
theorem υ{c:Type}(l:List c):l.eraseIdx (l.length-1)=l.dropLast:=by
 induction l with
 |nil=>rfl
 |cons a r d=>
  cases r with
  |nil=>rfl
  |cons b r=>
   have e:(a::b::r).length-1=((b::r).length-1)+1:=by
    have g:(a::b::r).length=r.length+2:=rfl;have f:(b::r).length=r.length+1:=rfl;lia
   rw[e,List.eraseIdx_cons_succ,d]
   all_goals rfl
theorem foldl_rep(b:cr):∀(k:Nat)(a:cr),
  List.foldl (λx1 x2=>x1++x2) a.toArray (List.replicate k b.toArray)=(a++(List.replicate k b).flatten).toArray
 |0,a=>by simp
 |k+1,a=>by
  have e:a.toArray++b.toArray=(a++b).toArray:=by simp
  have e2:(a++b)++(List.replicate k b).flatten=a++(List.replicate (k+1) b).flatten:=by
   rw[Wm,rq,Sk]
  rw[<-e2,<-foldl_rep b k (a++b),<-e,Wm,kn]
section
variable{X:Cx}{aa:ca}{σ:St}{H:Hp}{s:Shared}{l b:Addr}{xs ys zs:ls}
def Aa.Sn{b a:cr}{f:Array Value->Array Value}{t':Nat}(I:Aa X aa σ H s)(j:H l=some (.lst xs))
  (e:s.heap.get? l=some {cls:=.type "list",data:=.seq b.toArray n}) (h:f b.toArray=a.toArray) (d:Ia ys a) (c:ys.length<=sizeLine) :
  Aa X aa σ (Nb H l<|.lst ys) {s with heap:=s.heap.update l<|Obj.mapSeq f,toks:=t'}:=by
 have q:=PySem.IsL.update e f;rw[h]at q;exact I.write (by rw[j];exact trivial) (.inl rfl) (λk u i g=>(oq s.heap _<|Lj i).trans g) ⟨_,q⟩<|⟨c,a,_,d,q⟩
def Aa.Wq{t':Nat}(I:Aa X aa σ H s)(b:Ia ys Pa)(a:ys.length<=sizeLine) :
  Aa X aa σ (Nb H s.heap.objs.size<|.lst ys) {s with heap:=s.heap.push {cls:=.type "list",data:=.seq Pa.toArray},toks:=t'}:=
 I.laid (λ_ _ q=>Zc _ q) (Fc _) ⟨a,Pa,0,b,vf _ rfl⟩
theorem Aa.fresh(I:Aa X aa σ H s):H s.heap.objs.size=none:=I.Bb.fresh<|Fc _
def Aa.Sj(I:Aa X aa σ H s)(b:H l=some (.lst xs)):xs.length<=sizeLine/\∃(a:cr)(n:Nat),Ia xs a/\xs.length=a.length/\s.heap.get? l=some {cls:=.type "list",data:=.seq a.toArray n}:=by
 obtain⟨z,a,n,r,e⟩:=I.Bb l _ b;exact⟨z,a,n,r,r.length,e⟩
theorem DR{n:Nat}(h:n<=sizeLine):Builtin.List.listTooLong n=false:=by
 exact yd (by lia)
end
section
variable{X:Cx}
def Ť:lv:=λx b H Q=>∃l a y,x=.ref l/\b=[y]/\H l=some (.lst a)/\a.length<sizeLine/\Q .Tb (Nb H l<|.lst<|a++[y])
theorem ϴ:eD X "list.append" Ť:=by
 intro p s g H x j v k Q I b c h;obtain⟨l,i,y,rfl,rfl,a,m,q⟩:=h;cases b;obtain⟨u,rfl,d⟩:=c.one;obtain⟨z,f,n,r,o,e⟩:=I.Sj a;refine xq EJ ⟨_,e,rfl⟩ F.entry_list_append (KZ _ _) (PySem.list_append l f.toArray n u<|by rw[Ng];lia) ⟨e,(⟨.Tb,_,I.Sn a e (by simp) (r.append<|.cons d .nil) ?_,rfl,q⟩)⟩
 rw[af,ah];lia
def ť:lv:=λx d H Q=>∃l b c a,x=.ref l/\d=[.ref b]/\H l=some (.lst c)/\H b=some (.lst a)/\c.length+a.length<=sizeLine/\Q .Tb (Nb H l<|.lst<|c++a)
theorem ϵ:eD X "list.extend" ť:=by
 intro G s t H x B v C Q I f g h;obtain⟨l,b,A,w,rfl,rfl,a,o,D,q⟩:=h;cases f;obtain⟨u,rfl,i⟩:=g.one;cases i;obtain⟨z,d,n,r,E,e⟩:=I.Sj a;obtain⟨y,c,k,j,m,e2⟩:=I.Sj o;have p:d.toArray.size+c.toArray.size<=sizeLine:=by rw[Ng,Ng];lia
 refine xq F.slot_list_extend ⟨_,e,rfl⟩ F.entry_list_extend (F.args_list_extend_2 _ _)
  (AutoSeq1.list_extend_list_list_0 l d.toArray n b c.toArray k (by
  rw[DR p,Nt];exact ph) (by lia)<|by lia) ⟨e,e2,(⟨.Tb,_,I.Sn a e (by simp) (r.append j) ?_,rfl,q⟩)⟩
 rw[af];lia
def bSq:lv:=λx b H Q=>∃l a y,x=.ref l/\b=[]/\H l=some (.lst a)/\a[a.length-1]?=some y/\Q y (Nb H l<|.lst a.dropLast)
theorem bMy:eD X "list.pop" bSq:=by
 intro w s k H x o v p Q I c d h;obtain⟨l,m,y,rfl,rfl,b,i,q⟩:=h;cases c;have g:=d.zero;subst g;obtain⟨z,a,n,r,j,e⟩:=I.Sj b;obtain⟨u,t,f⟩:=r.get i;refine xq F.slot_list_pop ⟨_,e,rfl⟩ F.entry_list_pop (F.args_list_pop_1 _) (MeetsSeq.list_pop_last l a.toArray n u (by
  show a.toArray[a.length-1]?=some u
  rwa [<-So,<-j])<|by rw[Ng];lia) ⟨e,(⟨y,_,I.Sn b e ?_ r.dropLast ?_,f,q⟩)⟩
 .rw[Ng,List.eraseIdxIfInBounds_toArray,υ]
 rw[List.length_dropLast];lia
def bSr:R2:=λx y H Q=>∃l k a,x=.ref l/\y=.int k/\H l=some (.lst a)/\-(2^63)<=k/\k<2^63/\a.length*k.toNat<=sizeLine/\
 ∀p,H p=none->Q (.ref p) (Nb H p<|.lst (List.replicate k.toNat a).flatten)
def len_rep{a:Type}(xs:List a)(k:Nat):(List.replicate k xs).flatten.length=k*xs.length:=by
 induction k with
 |zero=>simp
 |succ k b=>rw[Wm,rq,af,b,Nat.succ_mul,Nat.add_comm]
def bMz:Ge X (binaryOp .Mult) bSr:=by
 intro N s K H x y v u Q I j i h;obtain⟨l,k,L,rfl,rfl,w,B,A,f,q⟩:=h;cases j;obtain⟨t,rfl⟩:=i;obtain⟨z,b,n,r,p,e⟩:=I.Sj w;have o:b.toArray.size*k.toNat<=sizeLine:=by rw[Ng,<-p];exact f
 have J:¬ b.toArray.size*k.toNat>(2^63-1)/8:=by
  have:(sizeLine:Nat)<=(2^63-1)/8:=by decide
  omega
 have G:¬ (!Builtin.List.listFitsIndex k)=true:=by
  rw[fitsIndex_both B A];exact ph
 have C:¬ Builtin.List.listTooLong (b.toArray.size*k.toNat)=true:=by
  rw[DR o];exact ph
 have D:List.foldl (λd c=>d++c) #[] (List.replicate (if b.toArray.isEmpty=true then 0 else k.toNat) b.toArray)=(List.replicate k.toNat b).flatten.toArray:=by
  have E:∀m:Nat,List.foldl (λd c=>d++c) #[] (List.replicate m b.toArray)=(List.replicate m b).flatten.toArray:=λm=>by
   have:=foldl_rep b m [];rw[Vt]at this;exact this
  rw[E];cases b with
  |nil=>simp
  |cons a M=>rw[Ta (by simp)]
 refine wpAny_binaryOp_repeat_ref (T:="list") (U:="int") (by decide) ⟨_,e,rfl⟩ (λg=>typeIs_int g k t) noFill_list_mul F.fills_int_mul F.slot_int_rmul repeat_list F.slot_int_index.lookup
  (xq F.slot_int_rmul (typeIs_int s k t) F.entry_int_rmul (F.args_int_rmul_2 _ _) (int___rmul___int_list k t l b.toArray n)
   ⟨e,rfl,⟨_,e,rfl⟩,xq F.slot_list_mul ⟨_,e,rfl⟩ F.entry_list_mul (F.args_list_mul_2 _ _) (AutoListH.list___mul___list_int_3 l b.toArray n k t G J C) ⟨e,?_⟩⟩)
 rw[D];exact⟨.ref _,_,I.Wq (t':=s.toks) (r.rep k.toNat) (by rw[len_rep,Nat.mul_comm];exact f),rfl,q _ I.fresh⟩
end
end L2
namespace Att
open PySem PySem.W PySem.Calls PyProof.Rows
def W6:∀(ns:jp)(vs:cr),WellAll P h vs (ns.map WData.int)->IntsAre vs ns:=by
 intro ns
 induction ns with
 |nil=>
  intro vs w;cases w;exact .nil
 |cons n ns c=>
  intro vs w;cases w with
  |cons a b=>
   cases a;exact .cons _ _<|c _ b
theorem Ϸ{l:OpenLaw}(k:l.most=some n){P:Params}{h:Heap}{b:List WData}{c:cr}
  (f:l.row.toRowW.claim.pre b=true) (u:WellAll P h c b) :
  ∃a vs ns,c=[Value.ref a]/\b=[WData.list<|ns.map WData.int]/\h.get? a=some {cls:=.type "list",data:=.seq vs.toArray}/\IntsAre vs ns/\ns.length<=n:=by
 obtain⟨d,r,rfl,s,p⟩:=hasAllW_cons<|(pre_splitW f).1;obtain rfl:=hasAllW_nil p;obtain⟨v,rfl,o⟩:=hasW_list s;obtain⟨ns,rfl⟩:=items_int o;cases u with
 |cons i g=>
  cases g;cases i with
  |list j t=>exact⟨_,_,ns,rfl,rfl,j,W6 ns _ t,(by
  have e:=condW_of (by
   have m:=(holds_andW<|(pre_splitW f).2).1
   rwa [k]at m) (w_not<|w_lt w_lit<|w_len_list<|w_arg rfl)
  rw[Kd]at e;refine Nat.le_of_not_lt λq=>?_
  first
   |(exact absurd e rfl)
   |(lia))⟩
def ϸ(l:OpenLaw)(a:List WData):l.row.toRowW.claim.post a (.bool true) a=true:=
 postW_of
  ((by first|rfl|decide|simp))
  ((w_eq_bool (w_res rfl) w_lit)) rfl
def Vh{l:OpenLaw}{y:(db)->Heap->Prop}{x:AT}{d:DefRec}
  (D:l.most=some n) (O:d.params.defaults=[])
  (call:∀(w:World)(p b:Shared)(mg k:db)(g:Addr)(o:Obj)(j i e:Value)(a:Addr)(vs:cr)(ns:jp),
   Ground q loose [] y w p mg k b.heap->x w b.heap->
   b.heap.get? g=some o->o.data=.func (docDef d.name d.params d.body d.scope j i e)->b.heap.CodeRec i d.name->mg d.name=some (.ref g)->
   b.heap.get? a=some {cls:=.type "list",data:=.seq vs.toArray}->IntsAre vs ns->ns.length<=n->b.gens = #[]->
   codeAny (model l.prog w) callerA (.call (.ref g) ⟨[.ref a],[]⟩) (λr h=>r=.ok (.ret<|.bool true)/\OldK b.heap h.heap/\h.os=b.os/\AllBare h.gens) b) :
  WalkO q loose y x l.row.toRowW d [] (λf vs=>PySem.call f vs):=by
 intro w p b mg k G Y g o j i e M kV C I N u m H v s S Q t A R F;obtain rfl:M=.none:=Dflts.none u O;obtain rfl:kV=.none:=Dflts.noKw u;obtain⟨a,vs,ns,rfl,rfl,P,c,z⟩:=Ϸ D Q R;refine enter_call<|uq (call w p b mg k g o j i e a vs ns G Y C (fd_plain I) N m P c z H) λr h B=>?_
 obtain⟨rfl,L,K,J⟩:=B;exact⟨.inl ⟨.bool true,.bool true,[],rfl,λ_=>rfl,.bool true,ϸ l _,λ_=>⟨List.Pairwise.nil,λ_ E=>(nomatch E)⟩⟩,L,K,J⟩
end Att
namespace L2
open PySem PySem.Spec PyProof.Rows
theorem Ad:∀{vs:cr}{ns:jp},IntsAre vs ns->Ia (ns.map V.int) vs
 |_,_,.nil=>.nil
 |_,_,.cons n t h=>.cons ⟨t,rfl⟩<|Ad h
def Rp(H:Hp):Prop:=∀b,H b=none\/∃o a,H b=some (.pk o<|.lst a)
def ă{K:PySem.W.Frag}{mg B:db}{k:Nat}{x:Str}{c:Shared}{vs:cr}
  (R:K.In c.heap) (J:c.heap.Ns mainGlobals mg) (f:c.heap.Ns builtinsNs B) (E:∀x:Str,x≠"__name__"->B x=bootBuiltins x) (YK:c.heap.NoLimit) (Z:c.gens = #[])
  (p:c.heap.get? a=some {cls:=.type "list",data:=.seq vs.toArray}) (L:IntsAre vs ns) (hl:ns.length<=sizeLine) (Y:Ub k callerA)
  (F:∀base:Heap,K.In base->base.Ns mainGlobals mg->xa P w K mg base CX k fa fd [x] sp) (Ww:∀(s:Shared)(u:Value),BindsTo s fd ⟨[u],[]⟩ [(x,u)])
  (C:∀H:Hp,Rp H->fe K H a (ns.map V.int)->sp [.ref a] H (λv _=>v=.bl true) λ_ _ _=>False)
  (HK:∀H e g,CX [] H c (λ_ _ _=>False) e g->False) :
  codeAny (model P w) callerA (.call (.ref fa) ⟨[.ref a],[]⟩) (λr g=>r=.ok (.ret<|.bool true)/\OldK c.heap g.heap/\g.os=c.os/\AllBare g.gens) c:=by
 have I:=Ad L;have j:∀H:Hp,Rp H->fe K H a (ns.map V.int)->Ff P w H c.heap->(∀b,H b≠none->b=a)->(H a≠none->K.lookup a=none)->
   codeAny (model P w) callerA (.call (.ref fa) ⟨[.ref a],[]⟩) (λr g=>r=.ok (.ret<|.bool true)/\OldK c.heap g.heap/\g.os=c.os/\AllBare g.gens) c:=by
  intro H M hS S N hK;have O:∀{b:Addr}{o:Obj},c.heap.get? b=some o->H b=none->(Vs c.heap H).get? b=some o:=λe n=>ù e n
  have A:∀{b:Addr}{o:Obj}{t:Array DictEntry}{y:Nat},c.heap.get? b=some o->o.data=.dict t y->H b=none:=λ{b o t y} e d=>by
   cases q:H b with
   |none=>rfl
   |some u=>
    have G:=N b (by rw[q];simp)
    subst G;rw[p]at e;cases e;cases d
  have i:∀{b:Addr}{m:db},c.heap.Ns b m->(Vs c.heap H).Ns b m:=λ{b m} ⟨o,t,y,e,d,r⟩=>⟨o,t,y,O e<|A e d,d,r⟩
  have Q:=λb o e=>O (R b o e) (by
   cases q:H b with
   |none=>rfl
   |some u=>
    have G:=N b (by rw[q];simp)
    subst G;rw[hK (by rw[q];simp)]at e;cases e)
  refine uq ((F _ Q<|i J).run callerA [] c H _ [.ref a] [.ref a] _ _ Y (⟨rfl,(⟨Q,i J,⟨B,i f,E⟩,let ⟨W,h1,h2⟩:=YK;⟨W,i h1,h2⟩⟩),λb o e=>ŏ e,Rt<|Ϩ _ _,trivial,λb f=>absurd (show b∈([]) from f) (by simp),S,.of_eq Z⟩) (Ww c<|.ref a) (.cons rfl .nil)<|C H M hS) λr g h=>?_
  cases r with
  |error e=>exact(HK H e g h).elim
  |ok fl=>
   cases fl with
   |next=>exact False.elim h
   |brk=>exact False.elim h
   |cont=>exact False.elim h
   |ret u=>
    obtain⟨v,H',os,l,un,X,T,q⟩:=h;subst q;obtain rfl:u=Value.bool true:=T;refine⟨rfl,OldK.of_keep λb o e=>?_,os,l⟩
    cases q:H b with
    |none=>exact un.keep b o e q (by intro z;exact absurd (show b∈([]) from z)<|by simp) (by simp)
    |some u=>
     rcases M b with z|⟨U,xs,z⟩
     .rw[q]at z;cases z
     obtain⟨e1,_⟩:=S b _ z;obtain⟨e2,_⟩:=X b _<|un.Rg b U _ z;rw[e]at e1;cases e1;exact e2
 cases D:K.lookup a with
 |some o=>
  have e:=R a o D;rw[p]at e;cases e;refine j _ (λ_=>.inl rfl) (.inr ⟨_,vs.toArray,_,D,rfl,rfl,rfl,by rwa [Ng,(L.length)],by simpa using I⟩) (λb u z=>by cases z) (λb z=>absurd rfl z) λz=>absurd rfl z
 |none=>
  refine j (λb=>if b=a then some _ else none) (λb=>?_) (.inl<|.inr ⟨{cls:=.type "list",data:=.seq vs.toArray},xb rfl⟩) (λb u z=>?_) (λb z=>?_) λ_=>D
  .by_cases f:b=a
   .exact .inr ⟨_,_,xb f⟩
   exact .inl<|Ta f
  .by_cases f:b=a
   .cases ((xb f).symm.trans z);subst f;exact⟨p,by rwa [Kd],vs,_,I,p⟩
   cases ((Ta f).symm.trans z)
  by_cases f:b=a
  .exact f
  exact absurd (Ta f) z
def bo{l:PySem.W.OpenLaw}{k:Nat}{N:(db)->Heap->Prop}{r:AT}{d:DefRec}{K:Params->PySem.W.Frag}{CX:World->Pp}{sp:World->Sp}{x:Str}
  (A:l.most=some n) (y:n<=sizeLine) (M:d.params.defaults=[]) (z:Ub k callerA)
  (D:∀(w:World)(h:Heap),r w h->(K w.params).In h)
  (F:∀(w:World)(mg:db)(c:Addr)(h:Heap),(K w.params).In h->h.Ns mainGlobals mg->mg d.name=some (.ref c)->
   ∃m:FuncData,(∀(s:Shared)(u:Value),BindsTo s m ⟨[u],[]⟩ [(x,u)])/\
    ∀base:Heap,(K w.params).In base->base.Ns mainGlobals mg->xa l.prog w (K w.params) mg base (CX w) k c m [x] (sp w))
  (i:∀(w:World)(H:Hp)(a:Addr)(ns:jp),ns.length<=n->Rp H->fe (K w.params) H a (ns.map V.int)->sp w [.ref a] H (λv _=>v=.bl true) λ_ _ _=>False)
  (Q:∀(w:World)(H:Hp)(s:Shared)(e:Value)(g:Shared),CX w [] H s (λ_ _ _=>False) e g->False) :
  PySem.W.WalkO q loose N r l.row.toRowW d [] (λf vs=>PySem.call f vs):=by
 refine Att.Vh A M λw Z P mg S c o R W L a vs ns G Y T U X j O b p B=>?_
 have t:=D w _ Y;obtain⟨m,C,J⟩:=F w mg c _ t G.T.g j;exact ă t G.T.g G.T.b G.T.builtins G.T.nolimit B O b (ye p y) z J C (λH I E=>i w H a ns p I E) λH e g=>Q w H P e g
def jZ(s:Stmt):Arguments:=match s with
 |.FunctionDef _ a _ _ _ _ _ _ _ _=>a
 |_=>{posonlyargs:=[],args:=[],vararg:=none,kwonlyargs:=[],kw_defaults:=[],kwarg:=none,defaults:=[]}
def fH(s:Stmt):List Stmt:=match s with
 |.FunctionDef _ _ b _ _ _ _ _ _ _=>b
 |_=>[]
def bT(s:Stmt):Scope:=match s with
 |.FunctionDef _ _ _ _ _ _ a _ _ _=>a
 |_=>{kind:=.function,names:=[],isGenerator:=false,isCoroutine:=false}
abbrev zb:Pp:=λ_ _ _ _ _ _=>False
abbrev E0:XK:=λ_ _ _=>False
def gq{X:Cx}:so zb X E0:=λ_ _ _ _ _ _ _ h=>h.elim
structure Qp(K:PySem.W.Frag)(x qual:Str)(st:Stmt)(f:Addr)(fd:FuncData):Prop where
 ex:∃(oc:Value)(od:o0)(kV doc pm:Value)(an:o0)(Kc ct:Value) (gi:sK),
  fd=PySem.W.fnOf x qual (jZ st) (fH st) (bT st) .none kV doc pm an Kc ct/\K.lookup f=some ⟨oc,od,.func fd,gi⟩/\PySem.W.codeIn K Kc qual=true
 kp:PySem.W.keepIn K (.ref f)=true
section
variable{P:Program}{w:World}{K:PySem.W.Frag}{mg:db}{base:Heap}
def Qp.ok{st:Stmt}{k:Nat}{sp:Sp}(F:Qp K x qual st f fd)(S:qd N ps (bT st))(len:∀vs H Q E,sp vs H Q E->vs.length=ps.length)
  (i:∀(b:Value)(A:Around)(a:u8)(s:Shared)(H:Hp)(vs:ls)(Q:VK)(E:XK),Ub k (A.deeper<|envOfC qual (bT st) s.heap.objs.size f b)->sp vs H Q E->
   ∃t,jf (Ik zb P w K mg base N qual (bT st) f b A a s H E).Ql (fH st) t/\t {nx:=λ_ j=>Q .Tb j,rt:=Q} (start N vs) H):xa P w K mg base zb (k+1) f fd ps sp:=by
 obtain⟨n,m,kV,e,l,r,b,p,o,rfl,lk,g⟩:=F.ex;refine nX lk g S len λA a s H vs Q E d c=>?_
 obtain⟨t,h,q⟩:=i b A a s H vs Q E d c;exact⟨t,h.Ql,q⟩
def Qp.binds{st:Stmt}{ps:pi}(F:Qp K x qual st f fd)
  (h:∀(kV a b:Value)(d:o0)(e c:Value)(us:cr),us.length=ps.length->bindArgs (PySem.W.fnOf x qual (jZ st) (fH st) (bT st) .none kV a b d e c) ⟨us,[]⟩=pure (ps.zip us)):Binds K fd ps []:=by
 obtain⟨i,g,kV,a,b,d,e,c,j,rfl,lk,k⟩:=F.ex;exact .all<|h kV a b d e c
def bN0{st:Stmt}{b:Value}{a:o0}{d:sK}{kV:Value}(l:K.lookup f=some ⟨b,a,.func<|PySem.W.fnOf x qual (jZ st) (fH st) (bT st) .none kV doc pm an Kc ct,d⟩)
  (c:PySem.W.codeIn K Kc qual=true) (k:PySem.W.keepIn K (.ref f)=true):Qp K x qual st f (PySem.W.fnOf x qual (jZ st) (fH st) (bT st) .none kV doc pm an Kc ct):=⟨⟨b,a,kV,doc,pm,an,Kc,ct,d,rfl,l,c⟩,k⟩
end
section
variable{X:Cx}
def pv(i:Nat){x:Str}{a:Pos}(d:X.N[i]?=some x:=by rfl)(b:Rh X.env.scope x:=by exact Wj rfl)(c:Bf x:=by decide)
  (e:Vj x:=by decide):PE X (.Name x a) (ZX i):=uT d b c e
end
def bK(H a:Hp):Prop:=∀b o,H b=some o->a b=some o
def bK.refl(H:Hp):bK H H:=λ_ _ h=>h
def bK.trans{H e d:Hp}(a:bK H e)(b:bK e d):bK H d:=λc o h=>b c o<|a c o h
def bK.free(e:bK H H'){l:Addr}(h:H' l=Option.none):H l=Option.none:=by
 cases q:H l with
 |none=>rfl
 |some o=>
  rw[e l o q]at h;cases h
def bK.seq{K:PySem.W.Frag}(e:bK H H')(h:fe K H a xs):fe K H' a xs:=by
 rcases h with (h|⟨o,h⟩)|h
 .exact .inl (.inl<|e _ _ h)
 .exact .inl (.inr ⟨o,e _ _ h⟩)
 exact .inr h
section
variable{κ:Type}[DecidableEq κ]
def yU(b:List (κ×V))(k:κ):Option V:=(b.find? λa=>decide (a.1=k)).map (·.2)
def Zd(b:List (κ×V))(k:κ)(v:V):List (κ×V):=
 if (b.any λa=>decide (a.1=k))=true then b.map (λa=>if a.1=k then (a.1,v) else a) else b++[(k,v)]
def rX(b:List (κ×V))(k:κ):List (κ×V):=b.filter λa=>decide (a.1≠k)
def Iu{p:κ×V}{r:List (κ×V)}{k:κ}(e:p.1=k):yU (p::r) k=some p.2:=by simp[yU,e]
def Ju{p:κ×V}{r:List (κ×V)}{k:κ}(e:¬ p.1=k):yU (p::r) k=yU r k:=by simp[yU,e]
theorem MF(k:κ):∀a:List (κ×V),(a.any λb=>decide (b.1=k))=(yU a k).isSome
 |[]=>rfl
 |p::r=>by
  rw[ap]
  by_cases e:p.1=k
  .simp[Iu e,decide_eq_true e]
  rw[Ju e,yd e];exact MF k r
theorem uI(a:List (κ×V))(k:κ)(v:V):(Zd a k v).length<=a.length+1:=by
 unfold Zd;split
 .rw[Kd];lia
 rw[af,ze,vq];lia
def Hh.Je(r:Hh o u):o.isSome=u.isSome:=by
 cases o with
 |none=>cases u with
  |none=>rfl
  |some _=>exact(r).elim
 |some _=>cases u with
  |none=>exact(r).elim
  |some _=>rfl
theorem Hh.getD(r:Hh o u)(a:RelV d d'):RelV (o.getD d) (u.getD d'):=by
 cases o with
 |none=>cases u with
  |none=>exact a
  |some _=>exact(r).elim
 |some _=>cases u with
  |none=>exact(r).elim
  |some _=>exact r
def KV.val(r:KV ka vs)(k:κ):Hh (yU ka k) (valueAt vs k):=by
 induction r with
 |nil=>exact True.intro
 |@cons p q f a h t g=>
  obtain⟨c,i⟩:=h
  by_cases e:p.1=k
  .have b:valueAt (q::a) k=some q.2:=by simp[valueAt,List.find?_cons,(c.symm.trans e)]
   rwa [Iu e,b]
  have d:¬ q.1=k:=λz=>e<|c.trans z
  have b:valueAt (q::a) k=valueAt a k:=by simp[valueAt,d]
  rwa [Ju e,b]
theorem KV.any(r:KV ka vs)(k:κ):(ka.any λa=>decide (a.1=k))=vs.any λa=>decide (a.1=k):=by
 induction r with
 |nil=>rfl
 |cons h t b=>rw[ap,ap,b,h.1]
def KV.jr(r:KV ka vs)(k:κ){y:V}{u:Value}(c:RelV y u) :
  KV (ka.map λa=>if a.1=k then (a.1,y) else a) (vs.map λa=>if a.1=k then (a.1,u) else a):=by
 induction r with
 |nil=>exact .nil
 |@cons p q i g h t d=>
  rw[Mf,Mf];refine .cons ?_ d;obtain⟨b,f⟩:=h
  by_cases e:p.1=k
  .rw[xb e,xb<|b.symm.trans e];exact⟨b,c⟩
  rw[Ta e,Ta<|λz=>e<|b.trans z];exact⟨b,f⟩
def KV.put(r:KV ka vs)(k:κ){y:V}{u:Value}(a:RelV y u):KV (Zd ka k y) (stored vs k u):=by
 unfold Zd stored;rw[r.any k]
 by_cases e:(vs.any λb=>decide (b.1=k))=true
 .rw[xb e,xb e];exact r.jr k a
 rw[Ta e,Ta e];exact Paired.snoc r ⟨rfl,a⟩
def KV.drop(r:KV ka vs)(k:κ):KV (rX ka k) (without vs k):=by
 unfold KV at r ⊢;unfold rX without
 induction r with
 |nil=>exact .nil
 |@cons p q j i h t d=>
  obtain⟨c,f⟩:=h;rw[List.filter_cons,List.filter_cons]
  by_cases e:p.1=k
  .have a:¬ decide (p.1≠k)=true:=by simp[e]
   have b:¬ decide (q.1≠k)=true:=by simp[c.symm.trans e]
   rw[Ta a,Ta b];exact d
  .have g:¬ q.1=k:=λz=>e (c.trans z)
   have a:decide (p.1≠k)=true:=by simp[e]
   have b:decide (q.1≠k)=true:=by simp[g]
   rw[xb a,xb b];exact .cons ⟨c,f⟩ d
theorem KV.length(r:KV ka vs):ka.length=vs.length:=Paired.length r
end
def Dm{k:Hc}(r:RelV (kV k) u):(lH P w).is k u=true:=by
 cases k with
 |inl i=>obtain⟨t,e⟩:=(r);subst e;exact x_ P w i t
 |inr x=>obtain⟨t,e⟩:=(r);subst e;exact y_ P w x t
theorem ZP:∀{a:List Hc}{us:cr},Ia (a.map kV) us->ItemsAre (lH P w) a us
 |[],_,r=>by cases r;exact .nil
 |k::a,_,r=>by
  cases r with
  |cons h t=>exact .cons (Dm h)<|ZP t
abbrev KT(H:Hp):List (List Hc×V)->List (List Hc×Addr×Value)->Prop:=Paired λp q=>p.1=q.1/\H q.2.1=some (.tup<|p.1.map kV)/\RelV p.2 q.2.2
def KT.val(r:KT H ka xs)(k:List Hc):Hh (yU ka k) ((atKey xs k).map (·.2)):=by
 induction r with
 |nil=>exact True.intro
 |@cons p q f a h t g=>
  obtain⟨c,_,i⟩:=h
  by_cases e:p.1=k
  .have b:atKey (q::a) k=some q.2:=by simp[atKey,List.find?_cons,(c.symm.trans e)]
   rwa [Iu e,b]
  have d:¬ q.1=k:=λz=>e<|c.trans z
  have b:atKey (q::a) k=atKey a k:=by simp[atKey,d]
  rwa [Ju e,b]
def KT.jr(r:KT H ka xs)(k:List Hc){y:V}{u:Value}(d:RelV y u) :
  KT H (ka.map λb=>if b.1=k then (b.1,y) else b) (xs.map<|putAt k u):=by
 induction r with
 |nil=>exact .nil
 |@cons p q j i h t f=>
  rw[Mf];refine .cons ?_ f;obtain⟨a,c,g⟩:=h;unfold putAt
  by_cases e:p.1=k
  .rw[xb e,xb<|a.symm.trans e];exact⟨a,c,d⟩
  rw[Ta e,Ta<|λz=>e<|a.trans z];exact⟨a,c,g⟩
def KT.put(r:KT H ka xs)(k:List Hc){b:Addr}{y:V}{u:Value}(d:H b=some (.tup<|k.map kV))(a:RelV y u) :
  KT H (Zd ka k y) (storedH xs k b u):=by
 have e:(ka.any λc=>decide (c.1=k))=(atKey xs k).isSome:=by
  rw[MF,(r.val k).Je,RJ]
 unfold Zd storedH;rw[e]
 by_cases q:(atKey xs k).isSome=true
 .rw[xb q,xb q];exact r.jr k a
 rw[Ta q,Ta q];exact Paired.snoc r ⟨rfl,d,a⟩
def KT.keeps{c:Hp}(r:KT H ka xs)(d:∀b a,H b=some (.tup a)->c b=some (.tup a)):KT c ka xs:=
 Paired.Yq r λ_ _ z=>⟨z.1,d _ _ z.2.1,z.2.2⟩
section
variable{P:Program}{w:World}{H:Hp}{h:Heap}{a:Addr}
def AX(ok:Ff P w H h)(e:Rd H a u):rZ P w H h a u:=e.ok ok
def Em(ok:Ff P w H h)(e:Rd H a (.dK ka)):ka.length<=sizeLine/\(a==sysModules)=false/\∃vs,KV ka vs/\h.DictOf (lH P w) a vs:=
 (AX ok e)
def Fm(ok:Ff P w H h)(e:H a=some (.dK ka)):ka.length<=sizeLine/\(a==sysModules)=false/\∃vs,KV ka vs/\h.DictOf (lH P w) a vs:=Em ok<|.inl e
def Zp{b:List Hc}(ok:Ff P w H h)(e:H a=some (.tup<|b.map kV)):(tupleKind<|lH P w).is h b a:=by
 obtain⟨_,g,r,o,f,d,n,c⟩:=((ok a _ e));exact⟨o,g.toArray,n,f,d,c,by simpa using ZP r⟩
def zo(ok:Ff P w H h)(e:Rd H a (.dT ka)):ka.length<=sizeLine/\(a==sysModules)=false/\
  ∃xs,KT H ka xs/\h.DictOfH (tupleKind<|lH P w) a xs:=by
 obtain⟨z,y,xs,r,o,n,s,k,j,i,g,f⟩:=((AX ok e));refine⟨z,y,xs,r,o,n,s,k,j,i,g,λx b=>?_,f⟩
 have all:∀{l:List _}{m:List _},KT H l m->∀x∈m,(tupleKind<|lH P w).is h x.1 x.2.1:=by
  intro l m q
  induction q with
  |nil=>intro x b;exact nomatch b
  |@cons p q v u c t d=>
   intro x b;rcases Uc.mp b with e|b
   .subst e;exact Zp ok (by rw[<-c.1];exact c.2.1)
   exact d x b
 exact all r x b
def bQ5(ok:Ff P w H h)(e:H a=some (.dT ka)):ka.length<=sizeLine/\(a==sysModules)=false/\
  ∃xs,KT H ka xs/\h.DictOfH (tupleKind<|lH P w) a xs:=zo ok<|.inl e
end
def Ih(H:Hp)(a:Addr)(y:V)(r:Option V):Prop:=
 (∃c k,Rd H a (.dK c)/\y=kV k/\r=yU c k)\/∃c k b,Rd H a (.dT c)/\y=.ref b/\H b=some (.tup<|k.map kV)/\r=yU c k
def Km(H:Hp)(a:Addr)(y v:V)(d:Hp):Prop:=
 (∃c k,H a=some (.dK c)/\y=kV k/\c.length<sizeLine/\d=Nb H a (.dK<|Zd c k v))\/
 ∃c k b,H a=some (.dT c)/\y=.ref b/\H b=some (.tup<|k.map kV)/\c.length<sizeLine/\d=Nb H a (.dT<|Zd c k v)
theorem Ih.k{H:Hp}{k:Hc}(e:H a=some (.dK ka)):Ih H a (kV k) (yU ka k):=.inl ⟨ka,k,.inl e,rfl,rfl⟩
def Ih.t{H:Hp}{k:List Hc}(e:H a=some (.dT ka))(c:H b=some (.tup<|k.map kV)):Ih H a (.ref b) (yU ka k):=.inr ⟨ka,k,b,.inl e,rfl,c,rfl⟩
theorem Km.k{H:Hp}{k:Hc}(e:H a=some (.dK ka))(b:ka.length<sizeLine):Km H a (kV k) v (Nb H a<|.dK<|Zd ka k v):=.inl ⟨ka,k,e,rfl,b,rfl⟩
def Km.t{H:Hp}{k:List Hc}(e:H a=some (.dT ka))(d:H b=some (.tup<|k.map kV))(c:ka.length<sizeLine) :
  Km H a (.ref b) v (Nb H a<|.dT<|Zd ka k v):=.inr ⟨ka,k,b,e,rfl,d,c,rfl⟩
section
variable{X:Cx}{aa:ca}{σ:St}{H:Hp}{s:Shared}{a:Addr}{y v:V}{u r:Value}{o:Option V}{A:Around}{E:be}
def Aa.big(I:Aa X aa σ H s):sysModules<s.heap.objs.size:=by
 exact Aw (by decide)<|(I.mod.glob.keeps I.bk).lt
def Ϲ{Q:be}(t:A.units+1<cLine)(I:Aa X aa σ H s)(g:Ih H a y (some v))(q:RelV y u)(h:∀d o,Aa X aa σ H o->RelV v d->Q d o) :
  wpAny (model X.prog X.w) A (getItem (.ref a) u) Q E s:=by
 rcases g with ⟨r,k,e,j,l⟩|⟨r,k,b,e,j,B,l⟩
 .subst j;obtain⟨z,x,D,c,m⟩:=Em I.Bb e;obtain⟨d,f,n⟩:=Hh.some_of (by rw[l];exact c.val k)
  exact wpAny_getItem_of (Dm q) m.mapOf f<|h d _ (I.tok _) n
 subst j;cases (q);obtain⟨z,x,C,c,m⟩:=zo I.Bb e;obtain⟨d,f,n⟩:=Hh.some_of (by rw[l];exact c.val k)
 obtain⟨p,w,i⟩:=Option.map_eq_some_iff.mp f;refine wpAny_getItem_heap (zt t) (Zp I.Bb B) m w ?_
 rw[i];exact h d _ (I.tok _) n
def bSs{Q:be}(p:A.units+1<cLine)(I:Aa X aa σ H s)(g:Ih H a y o)(m:RelV y u)(h:∀j,Aa X aa σ H j->Q (.bool o.isSome) j) :
  wpAny (model X.prog X.w) A (compareOp .In u<|.ref a) Q E s:=by
 rcases g with ⟨n,k,e,f,l⟩|⟨n,k,b,e,f,r,l⟩
 .subst f;obtain⟨z,d,v,c,i⟩:=Em I.Bb e;refine wpAny_in_of (Dm m) d i.mapOf ?_
  rw[<-(c.val k).Je,<-l];exact h _<|I.tok _
 subst f;cases (m);obtain⟨z,d,t,c,i⟩:=zo I.Bb e;refine wpAny_in_heap (zt p) (Zp I.Bb r) d i ?_
 have q:=(c.val k).Je;rw[RJ]at q;rw[<-q,<-l];exact h _<|I.tok _
def Ŧ{Q:be}(p:A.units+1<cLine)(I:Aa X aa σ H s)(g:Ih H a y o)(m:RelV y u)(h:∀j,Aa X aa σ H j->Q (.bool<|!o.isSome) j) :
  wpAny (model X.prog X.w) A (compareOp .NotIn u<|.ref a) Q E s:=by
 rcases g with ⟨n,k,e,f,l⟩|⟨n,k,b,e,f,r,l⟩
 .subst f;obtain⟨z,d,v,c,i⟩:=Em I.Bb e;refine wpAny_notIn_of (Dm m) d i.mapOf ?_
  rw[<-(c.val k).Je,<-l];exact h _<|I.tok _
 subst f;cases (m);obtain⟨z,d,t,c,i⟩:=zo I.Bb e;refine wpAny_notIn_heap (zt p) (Zp I.Bb r) d i ?_
 have q:=(c.val k).Je;rw[RJ]at q;rw[<-q,<-l];exact h _<|I.tok _
def Vu{t':Nat}(I:Aa X aa σ H s)(d:Qh (H a))(e:Heap.SameBut a s.heap h')(he:∃q,h'.get? a=some q)(c:rZ X.prog X.w (Nb H a ob) h' a ob) :
  Aa X aa σ (Nb H a ob) {s with heap:=h',toks:=t'}:=
 I.write d (.inl rfl) (λb q f z=>(e.2 b f).trans z) he c
def zz{d:Heap}{c:List (Hc×V)}(z:c.length<=sizeLine)(e:(a==sysModules)=false)(b:KV c vs)(f:d.DictOf (lH P w) a vs) :
  rZ P w H' d a (.dK c):=⟨z,e,vs,b,f⟩
theorem Ϻ{Q:pp}(J:A.units+1<cLine)(I:Aa X aa σ H s)(g:Km H a y v H')(x:RelV y u)(B:RelV v r)(h:∀w,Aa X aa σ H' w->Q () w) :
  wpAny (model X.prog X.w) A (setItem (.ref a) u r) Q E s:=by
 rcases g with ⟨j,k,e,o,l,p⟩|⟨j,k,b,e,o,C,l,p⟩
 .subst o p;obtain⟨z,n,F,d,t⟩:=Fm I.Bb e;have G:F.length<=sizeLine:=by rwa [<-d.length]
  exact wpAny_setItem_pairs (Dm x) t λO i m=>h _<|Vu I (by rw[e];exact True.intro) m (let ⟨q,_,_,f,_⟩:=i;⟨q,f⟩)<|zz (by have:=uI j k v;lia) n (d.put k B) i
 subst o p;cases (x);obtain⟨z,n,D,d,t⟩:=bQ5 I.Bb e;have G:D.length<=sizeLine:=by rwa [<-Paired.length d]
 refine wpAny_setItem_heap (zt J) (Zp I.Bb C) t λO i m=>h _ ?_
 obtain⟨q,P,R,f,N,M,L,_,K⟩:=i;refine Vu I (by rw[e];exact True.intro) m ⟨q,f⟩ ⟨(by have:=uI j k v;lia),n,_,(d.put k C B).keeps λc S ec=>?_,q,P,R,f,N,M,L,K⟩
 rwa [bR<|bPf ec e<|λz=>nomatch z]
end
section
variable{X:Cx}{aa:ca}{σ:St}{H:Hp}{s:Shared}{a:Addr}{ka:List (Hc×V)}{k:Hc}{u:Value}{A:Around}{E:be}
theorem bQ6{Q:be}(I:Aa X aa σ H s)(e:Rd H a (.dK ka))(h:∀t c,Aa X aa σ H c->Q (.int ka.length t) c):wpAny (model X.prog X.w) A (call (.builtin "len") [.ref a]) Q E s:=by
 obtain⟨z,d,g,b,f⟩:=Em I.Bb e;refine call_len_dict d f (by rw[<-b.length];rw[Xo]at z;lia) ?_
 rw[<-b.length];exact h _ _<|I.tok _
end
def A_{X:Cx}(I:Aa X aa σ H s)(g:Ih H a y o):s.TypeIs (.ref a) "dict":=by
 rcases g with ⟨d,k,e,_,_⟩|⟨d,k,b,e,_,_,_⟩
 .obtain⟨_,_,h,_,c⟩:=Em I.Bb e;exact c.typeIs
 obtain⟨_,_,f,_,c⟩:=zo I.Bb e;exact c.typeIs
def Rf(f d e:TE):TS:=λD b H=>e b H λv i=>f b i λx h=>d b h λy g=>∃a c,x=.ref a/\Km g a y v c/\D.nx b c
def ER(h:Heap)(a:sysModules<h.objs.size):rZ P w H (h.push {cls:=.type "dict",data:=.dict #[]}) h.objs.size (.dK []):=
 ⟨qh _,pq.mpr<|Lj<|df a,[],.nil,Heap.DictOf.new h⟩
def bN1:TE:=λ_ H Q=>∀p,H p=none->Q (.ref p) (Nb H p<|.dK [])
section
variable{X:Cx}{pos:Pos}
def Ą:PE X (.Dict [] [] pos) bN1:=λb s a H Q I h=>
 wpAny_Dict_empty ⟨.ref s.heap.objs.size,_,I.laid (λ_ _ q=>Zc _ q) (Fc _)<|ER s.heap I.big,rfl,h _<|I.Bb.fresh<|Fc _⟩
end
def OH:List (TE×TE)->St->Hp->(List (V×V)->Hp->Prop)->Prop
 |[],_,H,Q=>Q [] H
 |(c,b)::r,a,H,Q=>c a H λx g=>b a g λy f=>OH r a f λd e=>Q ((x,y)::d) e
abbrev VV:List (V×V)->List (Value×Value)->Prop:=Paired λp q=>RelV p.1 q.1/\RelV p.2 q.2
def iy(X:Cx)(d:Pos)(b:List (Option Expr))(a:List Expr)(wj:List (TE×TE)):Prop:=
 ∀(f:ca) (s:Shared) (c:St) (H:Hp) (Q:List (V×V)->Hp->Prop),Aa X f c H s->OH wj c H Q->
  wpAny (model X.prog X.w) X.A (evalPairs<|pairTrees b a X.env d) (λh i=>∃e g,Aa X f c g i/\VV e h/\Q e g) X.xe s
def ŧ{X:Cx}:iy X pos [] [] []:=λb s a H Q I h=>pairTrees_nil_walk ⟨[],H,I,.nil,h⟩
def ą{X:Cx}{k v:Expr}{wj:List (TE×TE)}(p:PE X k tk)(n:PE X v tv)(o:iy X pos ks vs wj) :
  iy X pos (some k::ks) (v::vs) ((tk,tv)::wj):=λc s a H Q I h=>
 pairTrees_cons_walk (wc (p c s a H _ I h) λu e ⟨x,A,t,g,l⟩=>wc (n c e a A _ t l) λC d ⟨y,z,r,f,j⟩=>
  wc (o c d a z _ r j) λB D ⟨m,w,q,b,i⟩=>⟨(x,y)::m,w,q,.cons ⟨g,f⟩ b,i⟩)
def zv(d a:List (Hc×V)):List (Hc×V):=a.foldl (λc b=>Zd c b.1 b.2) d
def KV.merge:∀{a:List (Hc×V)} {c:List (Hc×Value)} {b:List (Hc×V)} {vs:List (Hc×Value)},KV a c->KV b vs->KV (zv b a) (merged vs c):=by
 intro a c b vs r
 induction r generalizing b vs with
 |nil=>intro q;exact q
 |@cons p q i g h t f=>
  intro d;have e:KV (Zd b p.1 p.2) (stored vs q.1 q.2):=by
   have:=d.put p.1 h.2
   rwa [<-h.1]
  exact f e
theorem LN:∀(a b:List (Hc×V)),(zv b a).length<=b.length+a.length
 |[],b=>by show b.length<=b.length+0;lia
 |p::r,b=>by
  have d:=LN r<|Zd b p.1 p.2;have c:=uI b p.1 p.2;show (zv _ r).length<=_;rw[ze];lia
theorem OO:∀{e:List (Hc×V)} {f:List (Value×Value)},VV (e.map λg=>(kV g.1,g.2)) f->∃d,Carries (lH P w) f d/\KV e d
 |[],_,r=>by cases r;exact⟨[],True.intro,.nil⟩
 |p::e,_,r=>by
  cases r with
  |@cons a b k bs h t=>
   obtain⟨d,c,q⟩:=OO t;obtain⟨j,i⟩:=b;exact⟨(p.1,i)::d,⟨Dm h.1,rfl,c⟩,.cons ⟨rfl,h.2⟩ q⟩
def bQ7(wj:List (TE×TE)):TE:=λd H Q=>∀p,H p=none->OH wj d (Nb H p<|.dK []) λe c=>c p=some (.dK [])/\∃a:List (Hc×V),e=a.map (λb=>(kV b.1,b.2))/\a.length<=15/\Q (.ref p) (Nb c p<|.dK<|zv [] a)
theorem Ũ{X:Cx}{wj:List (TE×TE)}(h:iy X pos keys values wj)(x:keys.all (·.isSome)=true)(r:keys.length=values.length)(v:keys≠[])
  (b:keys.length<=15):PE X (.Dict keys values pos) (bQ7 wj):=by
 intro A s g H Q I q;refine wpAny_Dict_walk (knd:=lH X.prog X.w) x r v b<|wc (h A _ g _ _ (I.laid (t':=s.toks) (λ_ _ q=>Zc _ q) (Fc _)<|ER s.heap I.big)<|q _<|I.Bb.fresh<|Fc s.heap.objs.size) λB C ⟨D,F,f,a,e,n,w,lk,m⟩=>?_
 subst w;obtain⟨j,c,k⟩:=OO a;obtain⟨z,t,i,l,y⟩:=Fm f.Bb e;cases l;exact⟨j,c,y,λE d o=>⟨.ref s.heap.objs.size,_,(Vu f (by rw[e];exact True.intro) o (let ⟨q,_,_,p,_⟩:=d;⟨q,p⟩)<|zz (by
  have u:=LN n [];rw[vq]at u;rw[Xo];lia) t (k.merge .nil) d),rfl,m⟩⟩
structure M1(X:Cx)(o:Expr)(m:Str)(Va:Pos)(e:Expr)(Oa:Pos):Prop where
 base:Vg o m X.env
 Qg:Uj Oa [e] X.env
 line:Oh Va Oa
 Vl:backTo Oa (starEach [e] X.env)=[(false,eval e X.env)]
structure M2(X:Cx)(o:Expr)(m:Str)(Va:Pos)(e f:Expr)(Oa:Pos):Prop where
 base:Vg o m X.env
 Qg:Uj Oa [e,f] X.env
 line:Oh Va Oa
 Vl:backTo Oa (starEach [e,f] X.env)=[(false,eval e X.env),(false,eval f X.env)]
def fy(H:Hp)(a:Addr):Prop:=(∃b,Rd H a<|.dK b)\/∃b,Rd H a<|.dT b
def FV{X:Cx}(I:Aa X aa σ H s)(d:fy H a) :
  s.TypeIs (.ref a) "dict"/\(∀b,Value.ref a=.ref b->∃c,s.heap.get? b=some c/\c.dict=none)/\(a==sysModules)=false:=by
 rcases d with ⟨j,e⟩|⟨j,e⟩
 .obtain⟨_,g,l,_,f⟩:=Em I.Bb e;refine⟨f.typeIs,λb q=>?_,g⟩
  cases q;obtain⟨c,_,_,i,h,_⟩:=f;exact⟨c,i,h.2.1⟩
 obtain⟨_,g,k,_,f⟩:=zo I.Bb e;refine⟨f.typeIs,λb q=>?_,g⟩
 cases q;obtain⟨c,_,_,i,h,_⟩:=f;exact⟨c,i,h.2.1⟩
section
variable{X:Cx}{aa:ca}{σ:St}{H:Hp}{s:Shared}{a:Addr}{y d:V}{u r:Value}{o:Option V}{A:Around}{E:be}
def bN2{Q:be}(r:A.units+1<cLine)(I:Aa X aa σ H s)(g:Ih H a y o)(n:RelV y u)(h:∀j m,Aa X aa σ H m->RelV (o.getD .Tb) j->Q j m) :
  wpAny (model X.prog X.w) A (call (.builtin "dict.get") [.ref a,u]) Q E s:=by
 rcases g with ⟨q,k,e,i,l⟩|⟨q,k,b,e,i,t,l⟩
 .subst i;obtain⟨z,f,v,c,d⟩:=Em I.Bb e;refine Vo wt d.typeIs XA (LZ _ _) (meets_dict_get _ a (Dm n) f) ⟨_,d.mapOf,h _ _ (I.tok _) ?_⟩;rw[l];exact(c.val k).getD rfl
 subst i;cases (n);obtain⟨z,f,p,c,d⟩:=zo I.Bb e;refine Vo wt d.typeIs XA (LZ _ _) (meetsH_dict_get _ a b f) ⟨zt r,k,p,Zp I.Bb t,d,h _ _ (I.tok _) ?_⟩;rw[l];exact(c.val k).getD rfl
def bN3{Q:be}(w:A.units+1<cLine)(I:Aa X aa σ H s)(g:Ih H a y o)(p:RelV y u)(q:RelV d r)(h:∀m n,Aa X aa σ H n->RelV (o.getD d) m->Q m n) :
  wpAny (model X.prog X.w) A (call (.builtin "dict.get") [.ref a,u,r]) Q E s:=by
 rcases g with ⟨v,k,e,j,l⟩|⟨v,k,b,e,j,x,l⟩
 .subst j;obtain⟨z,i,B,c,f⟩:=Em I.Bb e;refine Vo wt f.typeIs XA (MZ _ _ _) (meets_dict_get_default _ a (Dm p) i r) ⟨_,f.mapOf,h _ _ (I.tok _) ?_⟩;rw[l];exact(c.val k).getD q
 subst j;cases (p);obtain⟨z,i,t,c,f⟩:=zo I.Bb e;refine Vo wt f.typeIs XA (MZ _ _ _) (meetsH_dict_get_default _ a b i r) ⟨zt w,k,t,Zp I.Bb x,f,h _ _ (I.tok _) ?_⟩;rw[l];exact(c.val k).getD q
end
def bN4(f e:TE):TE:=λb H Q=>f b H λx d=>∃a,x=.ref a/\fy d a/\e b d λy c=>∃o,Ih c a y o/\Q (o.getD .Tb) c
def bN5(g e f:TE):TE:=λb H Q=>g b H λx d=>∃a,x=.ref a/\fy d a/\e b d λy h=>f b h λz c=>∃o,Ih c a y o/\Q (o.getD z) c
section
variable{X:Cx}{o e f:Expr}{Va Oa:Pos}{td ty tx:TE}
def Ć(r:X.A.units+1<cLine)(t:PE X o td)(he:PE X e ty)(m:M1 X o "get" Va e Oa):PE X (.Call (.Attribute o "get" Va) [e] [] Oa) (bN4 td ty):=by
 intro c s b H Q I h;refine wpAny_Call_method m.base m.Qg m.line qt wt y0<|wc (t c s b H _ I h) λu k ⟨x,C,f,n,a,v,d,q⟩=>?_
 subst v;obtain rfl:u=Value.ref a:=n;obtain⟨j,i,_⟩:=FV f d;refine⟨j,i,?_⟩;rw[m.Vl];exact WA rfl<|GJ<|AB<|wc (he c k b C _ f q) λJ F ⟨y,B,A,l,G,g,p⟩=>QJ<|bN2 r A g l λD E z w=>⟨_,B,z,w,p⟩
def ć(A:X.A.units+1<cLine)(B:PE X o td)(he:PE X e ty)(C:PE X f tx)(m:M2 X o "get" Va e f Oa):PE X (.Call (.Attribute o "get" Va) [e,f] [] Oa) (bN5 td ty tx):=by
 intro c s b H Q I h;refine wpAny_Call_method m.base m.Qg m.line qt wt y0<|wc (B c s b H _ I h) λu n ⟨x,M,i,r,a,D,d,w⟩=>?_
 subst D;obtain rfl:u=Value.ref a:=r;obtain⟨k,j,_⟩:=FV i d;refine⟨k,j,?_⟩;rw[m.Vl];exact WA rfl<|GJ<|AB (wc (he c n b M _ i w) λS l ⟨y,L,J,q,v⟩=>
  AB (wc (C c l b L _ J v) λT P ⟨z,K,G,p,R,g,t⟩=>QJ<|bN3 A G g q p λN O F E=>⟨_,K,F,E,t⟩))
end
end L2
set_option maxHeartbeats 1000000
open PySem.W (Frag findIn mroIn nsIn notCls keepIn kia_one fnOf codeIn mg_of isFn makesIn emptyDict instObj Looks OpenLaw mg_none_of WalkO InK)
open List (foldl_cons mem_cons_self mem_cons_of_mem getD_eq_getElem?_getD length_cons length_append length_singleton map_cons length_range append_nil zip_cons_cons length_map nil_append length_filter_le mem_cons filter_cons_of_pos filter_cons_of_neg length_nil exists_mem_of_ne_nil not_mem_nil nodup_nil filter_nil all_cons sum_cons any_cons length_set drop_zero forIn_cons lookup_cons)
open Nat (zero_le zero_testBit eq_of_testBit_eq testBit_or testBit_and mod_lt not_lt_zero le_succ)
open Array (ext' getElem?_toList getD_eq_getD_getElem?)
open Int (toNat_natCast)
open Option (map_some)
open Bool (or_eq_true and_eq_true not_eq_true')
variable{α:Type}{c n np i m r q j Y Z G mo x1 t' ep:Nat}{b s1:Bool}{l z L rk ks Gs Xc:ac}{a C fa I Qa Cd yc Wb Ac Bc:PySem.Addr}{tg e elt:PySem.Expr}{x qual name:PySem.Str}{E Q Qf:PySem.Value->PySem.Shared->Prop}{v:L2.V}{S T:am}{al Pk:no}{s:PySem.Shared}{oa:im}{B A fp:List PySem.Addr}{W π:li}{o:L2.HO}{w:PySem.World}{ns:jp}{base h h':PySem.Heap}{X:L2.Cx}{H H' H1:L2.Hp}{vs Se:List L2.V}{es Pj:List PySem.Expr}{pos p0 pos' p2 p1 Va Oa px:PySem.Pos}{op:PySem.CmpOp}{gv:Int->Int->L2.V}{fd:PySem.FuncData}{ps N loose:List PySem.Str}{u dV oc:PySem.Value}{sm:PySem.Stmt}{items:Array PySem.Value}{M:PySem.Model}{env:PySem.Env}{body:List PySem.Stmt}{P prog:PySem.Program}{mg:PySem.Str->Option PySem.Value}{scope:PySem.Scope}{aa:List (PySem.Addr×PySem.Obj)}{te:L2.TE}{tt:L2.TT}{pl:PySem.Sem Bool}{gi:Array (Option PySem.Value)}{newId:String}{Ye ae fg:PySem.Tok}{XP:(PySem.Str->Option PySem.Value)->PySem.Heap->Prop}
namespace Pu
inductive D where
 |Tb|bl (b:Bool)|int (i:Int)|str (s:ac)|tup (xs:List D)|lst (xs:List D)
 |Pe (t:Bool) (ks vs:List D)
 |ins (c:String) (ns:sw) (xs:List D)
 |jk (c:String) (ns:sw) (xs:List D)
 |fn (f:String)
abbrev _root_.dL:=List D
abbrev _root_.wf:=D->Bool
inductive R (α:Type) where
 |ok (a:α)|exc (x:D)|bad
abbrev _root_.bn:=List D->R D
abbrev _root_.wP:=D->R D
@[inline] def R.bind{c b:Type}(r:R c)(f:c->R b):R b:=match r with
 |.ok a=>f a
 |.exc x=>.exc x
 |.bad=>.bad
def R.ja{c:Type}{r:R α}{f:α->R c}{b:c}(h:r.bind f=.ok b):∃a,r=.ok a/\f a=.ok b:=by
 cases r with
 |ok a=>exact⟨a,rfl,h⟩
 |exc x=>exact nomatch h
 |bad=>exact nomatch h
noncomputable section
open Classical in
def aX{a:Type}(c:Prop)(r:R a):R a:=if c then r else .bad
def aO{c:Prop}{r:R α}(h:c):aX c r=r:=xb h
def aV{c:Prop}{r:R α}{a:α}(h:aX c r=.ok a):c/\r=.ok a:=by
 unfold aX at h;split at h
 .exact⟨by assumption,h⟩
 exact nomatch h
inductive OK where
 |l|d (t:Bool) (ks:dL)|i (n:Nat) (c:String) (ns:sw)
def br:OK->List D->D
 |.l,a=>.lst a
 |.d t ks,a=>.Pe t ks a
 |.i _ c ns,a=>.ins c ns a
inductive Sl where
 |v (d:D)|o (k:OK) (xs:dL)
abbrev _root_.f8:=Option Sl
abbrev ua:=List<|Option Sl
abbrev Ex:=ua->R D
inductive Fl where
 |nx (st:ua)|rt (d:D)|bk (st:ua)|ct (st:ua)
abbrev Bd:=ua->R Fl
@[irreducible] def big:Nat:=10000000
def qX:big=10000000:=by unfold big;rfl
def fY(h:n<=10000000):n<=big:=by rwa [qX]
def Av(h:n<10000000):n<big:=by rwa [qX]
def Up{n:Int}(h:n<=10000000):n<=(big:Int):=by rwa [qX]
def Wu{n:Int}(h : -10000000<=n) : -(big:Int)<=n:=by rwa [qX]
def Ef(n d:Nat):Option Int->Nat
 |none=>d
 |some v=>if v<0 then (v+(n:Int)).toNat else min v.toNat n
def vg(n:Nat)(i:Int):Option Nat:=if 0<=i then (if i<n then some i.toNat else none) else if -(n:Int)<=i then some (i+n).toNat else none
def je{a:Type}(xs:List a)(i:Int):Option a:=(vg xs.length i).bind λj=>xs[j]?
def cut{a:Type}(xs:List a)(lo b:ut):List a:=(xs.drop<|Ef xs.length 0 lo).take<|Ef xs.length xs.length b-Ef xs.length 0 lo
def rep{a:Type}(n:Nat)(xs:List a):List a:=(List.replicate n xs).flatten
def yi{b:Type}:Option b->R b
 |some a=>.ok a
 |none=>.bad
abbrev Wf:=D->wP
def lB:Wf
 |.int i,.int j=>.ok<|.int<|i+j
 |.str x,.str y=>aX (x.length+y.length<=big)<|.ok<|.str<|x++y
 |.lst x,.lst y=>aX (x.length+y.length<=big)<|.ok<|.lst<|x++y
 |_,_=>.bad
def Lm:Wf
 |.int i,.int j=>.ok<|.int<|i-j
 |_,_=>.bad
def Ek:Wf
 |.int i,.int j=>aX (0<j/\j<1073741824)<|.ok<|.int<|i/j
 |_,_=>.bad
def oZ:Wf
 |.int i,.int j=>aX (0<j)<|.ok<|.int<|i%j
 |_,_=>.bad
def Fo:Wf
 |.int i,.int j=>aX (0<=j/\j<=1000000/\i.natAbs<18446744073709551616)<|.ok<|.int<|i^j.toNat
 |_,_=>.bad
def mi:wP
 |.int i=>.ok<|.int<|-i
 |_=>.bad
def FA:wf
 |.int _=>true
 |.str _=>true
 |_=>false
def Pc(t:Bool)(d:D):Bool:=match d with
 |.int _=>!t
 |.str _=>!t
 |.tup a=>t&&a.all FA
 |_=>false
mutual
def bg:D->D->Bool
 |.int i,.int j=>i==j
 |.str x,.str y=>x==y
 |.tup x,.tup y=>mq x y
 |_,_=>false
def mq:List D->List D->Bool
 |[],[]=>true
 |a::x,b::y=>bg a b&&mq x y
 |_,_=>false
end
def ni(a vs:dL)(k:D):Option D:=((a.zip vs).find? λp=>bg p.1 k).map (·.2)
def xW(a:dL)(k:D):Bool:=a.any λx=>bg x k
def zT(a:dL)(k:D):dL:=if xW a k=true then a else a++[k]
def zU(a vs:dL)(k v:D):dL:=if xW a k=true then (a.zip vs).map (λp=>if bg p.1 k=true then v else p.2) else vs++[v]
def qb:Wf
 |.Pe t ks vs,k=>aX (Pc t k=true)<|yi<|ni ks vs k
 |.lst x,.int i=>yi<|je x i
 |.tup x,.int i=>yi<|je x i
 |.str x,.int i=>aX (x.length<=big)<|yi<|(je x i).map λc=>.str [c]
 |_,_=>.bad
mutual
def de:D->D->Bool
 |.Tb,.Tb=>true
 |.bl a,.bl b=>a==b
 |.bl a,.int j=>(if a then (1:Int) else 0)==j
 |.int i,.bl b=>i==(if b then (1:Int) else 0)
 |.int i,.int j=>i==j
 |.str x,.str y=>x==y
 |.tup x,.tup y=>pY x y
 |.lst x,.lst y=>pY x y
 |_,_=>false
def pY:List D->List D->Bool
 |[],[]=>true
 |a::x,b::y=>de a b&&pY x y
 |_,_=>false
end
mutual
def ag:D->Nat
 |.tup x=>rT x+1
 |.lst x=>rT x+1
 |.Tb=>0
 |.bl _=>0
 |.int _=>0
 |.str _=>0
 |.Pe _ _ _=>0
 |.ins _ _ _=>0
 |.jk _ _ _=>0
 |.fn _=>0
def rT:List D->Nat
 |[]=>0
 |a::x=>max (ag a)<|rT x
end
mutual
def plain:wf
 |.tup x=>fZ x
 |.lst x=>fZ x
 |.Tb=>true
 |.bl _=>true
 |.int _=>true
 |.str _=>true
 |.Pe _ _ _=>false
 |.ins _ _ _=>false
 |.jk _ _ _=>false
 |.fn _=>false
def fZ:List D->Bool
 |[]=>true
 |a::x=>plain a&&fZ x
end
def gd:Wf:=λa b=>aX (ag a<=64/\plain a=true/\plain b=true)<|.ok<|.bl<|de a b
def Zf:Wf:=λa b=>aX (ag a<=64/\plain a=true/\plain b=true)<|.ok<|.bl<|!de a b
def ip:Wf
 |.int i,.int j=>.ok<|.bl<|decide (i<=j)
 |_,_=>.bad
def eh:Wf
 |.int i,.int j=>.ok<|.bl<|decide (j<i)
 |_,_=>.bad
def Cn:Wf
 |.int i,.int j=>.ok<|.bl<|decide (j<=i)
 |_,_=>.bad
def jE:wP
 |.Pe false ks _=>.ok<|.int ks.length
 |.lst x=>.ok<|.int x.length
 |.tup x=>.ok<|.int x.length
 |.str x=>aX (x.length<=big)<|.ok<|.int x.length
 |_=>.bad
def Mm:wf
 |.ins _ _ _=>false
 |.jk _ _ _=>false
 |.fn _=>false
 |_=>true
def Qi:wf
 |.Tb=>true
 |_=>false
def GA:wf
 |.str _=>true
 |_=>false
def WI:wf
 |.bl _=>true
 |_=>false
def isIn:wf
 |.bl _=>true
 |.int _=>true
 |_=>false
def EY:wf
 |.Pe _ _ _=>true
 |_=>false
def Ws:wf
 |.lst _=>true
 |_=>false
def sH(x y:ac)(lo:Nat):Option Nat:=(List.range' lo<|x.length+1-lo).find? λi=>decide (i+y.length<=x.length)&&((x.drop i).take y.length==y)
def uo:Option Nat->Int
 |some i=>i
 |none=>-1
def ym(x y:ac):ac:=(((x.dropWhile λc=>y.contains c).reverse).dropWhile λc=>y.contains c).reverse
abbrev Cr:=D->bn
def Xz:Cr
 |.str x,[.str y]=>.ok<|.int<|uo<|sH x y 0
 |.str x,[.str y,.int i]=>aX (0<=i)<|.ok<|.int<|uo<|sH x y i.toNat
 |_,_=>.bad
def Az:Cr
 |.str x,[.str y]=>aX (x.length<=big)<|.ok<|.str<|ym x y
 |_,_=>.bad
def Sv:D->D->R D
 |.int i,.int j=>.ok<|.int<|if j>i then j else i
 |_,_=>.bad
def CI:D->D->R D
 |.int i,.int j=>.ok<|.int<|if j<i then j else i
 |_,_=>.bad
def inD(x:D)(a:dL):Bool:=a.any λy=>de y x
def jl:D->D->R D
 |k,.Pe t ks _=>aX (Pc t k=true)<|.ok<|.bl<|xW ks k
 |x,.lst a=>aX (rT a<=60/\plain x=true/\fZ a=true)<|.ok<|.bl<|inD x a
 |x,.tup a=>aX (rT a<=60/\plain x=true/\fZ a=true)<|.ok<|.bl<|inD x a
 |.str x,.str y=>.ok<|.bl (sH y x 0).isSome
 |_,_=>.bad
def pZ:D->D->R D
 |k,.Pe t ks _=>aX (Pc t k=true)<|.ok<|.bl<|!xW ks k
 |x,.lst a=>aX (rT a<=60/\plain x=true/\fZ a=true)<|.ok<|.bl<|!inD x a
 |x,.tup a=>aX (rT a<=60/\plain x=true/\fZ a=true)<|.ok<|.bl<|!inD x a
 |.str x,.str y=>.ok<|.bl<|!(sH y x 0).isSome
 |_,_=>.bad
def nK:D->D->R D
 |x,.Tb=>.ok<|.bl<|Qi x
 |.bl a,.bl b=>.ok<|.bl<|a==b
 |_,_=>.bad
def aq:D->D->R D
 |x,.Tb=>.ok<|.bl<|!Qi x
 |.bl a,.bl b=>.ok<|.bl<|!(a==b)
 |_,_=>.bad
def aA(i:Nat):Ex:=λst=>match st[i]? with
 |some (some<|.v d)=>.ok d
 |_=>.bad
def mR(i:Nat):Ex:=λst=>match st[i]? with
 |some (some<|.v d)=>.ok d
 |some (some<|.o k a)=>.ok<|br k a
 |_=>.bad
def eC(d:D):Ex:=λ_=>.ok d
def e2(op:Wf)(f g:Ex):Ex:=λst=>(f st).bind λx=>(g st).bind λy=>op x y
def e1(op:wP)(f:Ex):Ex:=λst=>(f st).bind op
def eB(p:wf)(f:Ex):Ex:=λst=>(f st).bind λx=>aX (Mm x=true)<|.ok<|.bl<|p x
def zi{a:Type}(d:D)(f:Bool->R a):R a:=match d with
 |.bl b=>f b
 |_=>.bad
def yV{f:Bool->R α}{a:α}(h:zi d f=.ok a):∃b,d=.bl b/\f b=.ok a:=by
 cases d<;>first|exact⟨_,rfl,h⟩|exact nomatch h
def qY(f g:Ex):Ex:=λst=>(f st).bind λx=>zi x λb=>if b=true then g st else .ok (.bl false)
def Ki(f g:Ex):Ex:=λst=>(f st).bind λx=>zi x λb=>if b=true then .ok (.bl true) else g st
def uU(f:Ex):Ex:=λst=>(f st).bind λx=>zi x λb=>.ok<|.bl<|!b
def Oj(c f g:Ex):Ex:=λst=>(c st).bind λx=>zi x λb=>if b=true then f st else g st
abbrev Ee:=ua->R (List D)
def aK:Ee:=λ_=>.ok []
def aC(f:Ex)(r:Ee):Ee:=λst=>(f st).bind λx=>(r st).bind λa=>.ok<|x::a
def aj(r:Ee):Ex:=λst=>(r st).bind λa=>aX (a.length<=big)<|.ok<|.tup a
def fJ(r:Ee):Ex:=λst=>(r st).bind λa=>aX (a.length<=big)<|.ok<|.lst a
def aM(p:bn)(r:Ee):Ex:=λst=>(r st).bind p
def vm(m:Cr)(f:Ex)(r:Ee):Ex:=λst=>(f st).bind λx=>(r st).bind λa=>m x a
def qk(d:D){a:Type}(f:Int->R a):R a:=match d with
 |.int i=>f i
 |_=>.bad
def Ur{f:Int->R α}{a:α}(h:qk d f=.ok a):∃i,d=.int i/\f i=.ok a:=by
 cases d<;>first|exact⟨_,rfl,h⟩|exact nomatch h
abbrev Br:=ua->R (Option Int)
def Yz:Br:=λ_=>.ok none
def Zz(f:Ex):Br:=λst=>(f st).bind λx=>qk x λi=>.ok<|some i
def AK(x:D)(lo b:ut):R D:=match x with
 |.lst a=>.ok<|.lst<|cut a lo b
 |.str a=>aX (a.length<=big)<|.ok<|.str<|cut a lo b
 |_=>.bad
def VB(f:Ex)(lo a:Br):Ex:=λst=>(f st).bind λx=>(lo st).bind λl=>(a st).bind λh=>AK x l h
abbrev Xl:=ua->R (List D)
def Wc(f:Ex):Xl:=λst=>(f st).bind λx=>match x with
 |.lst a=>.ok a
 |.tup a=>.ok a
 |.str a=>aX (a.length<=big)<|.ok<|a.map λc=>.str [c]
 |_=>.bad
def mU(lo:Int)(n:Nat):dL:=(List.range n).map λ(k:Nat)=>.int<|lo+(k:Int)
def qZ(f:Ex):Xl:=λst=>(f st).bind λx=>qk x λj=>aX (-(big:Int)<=j/\j<=(big:Int))<|.ok<|mU 0 j.toNat
def XI(f g:Ex):Xl:=λst=>(f st).bind λx=>(g st).bind λy=>qk x λi=>qk y λj=>aX (-(big:Int)<=i/\i<=(big:Int)/\-(big:Int)<=j/\j<=(big:Int))<|.ok<|mU i (j-i).toNat
abbrev Tg:=D->ua->R ua
def bb(i:Nat):Tg:=λd st=>.ok<|st.set i<|some<|.v d
def Bv:ac->dL->ua->R ua
 |[],[],st=>.ok st
 |i::is,d::a,st=>Bv is a<|st.set i<|some<|.v d
 |_,_,_=>.bad
def PC(is:ac):Tg:=λd st=>match d with
 |.tup a=>Bv is a st
 |.lst a=>Bv is a st
 |_=>.bad
def jX(tg:Tg)(c f:Ex)(st:ua):List D->R (List D)
 |[]=>.ok []
 |d::a=>(tg d st).bind λs1=>(c s1).bind λx=>zi x λb=>if b=true then (f s1).bind λy=>(jX tg c f st a).bind λe=>.ok (y::e) else jX tg c f st a
def Wh(is:ac)(st:ua):ua:=is.foldl (λs i=>s.set i none) st
def cT(is:ac)(tg:Tg)(it:Xl)(c f:Ex):Ex:=λst=>(it st).bind λa=>aX (a.length<=big)<|(jX tg c f (Wh is st) a).bind λb=>.ok<|.lst b
def fK:Ex:=λ_=>.ok<|.bl true
def Ho(r:R Fl)(f:ua->R Fl):R Fl:=r.bind λx=>match x with
 |.nx st=>f st
 |.rt d=>.ok<|.rt d
 |.bk st=>.ok<|.bk st
 |.ct st=>.ok<|.ct st
def cJ:Bd:=λst=>.ok<|.nx st
def aY(a b:Bd):Bd:=λst=>Ho (a st) b
def bU(i:Nat)(f:Ex):Bd:=λst=>(f st).bind λd=>.ok<|.nx<|st.set i<|some<|.v d
def sI(i:Nat)(f:Ex):Bd:=λst=>(f st).bind λd=>match d with
 |.lst a=>.ok<|.nx<|st.set i<|some<|.o .l a
 |_=>.bad
def FY(tg:Tg)(f:Ex):Bd:=λst=>(f st).bind λd=>(tg d st).bind λs1=>.ok<|.nx s1
def oi(i:Nat)(f:Ex):Bd:=λst=>(f st).bind λd=>match st[i]? with
 |some (some<|.o .l a)=>aX (a.length<big)<|.ok<|.nx<|st.set i<|some<|.o .l<|a++[d]
 |_=>.bad
def Yj(i:Nat)(g f:Ex):Bd:=λst=>(f st).bind λd=>(g st).bind λx=>qk x λj=>match st[i]? with
 |some (some<|.o .l a)=>(yi<|vg a.length j).bind λk=>.ok<|.nx<|st.set i<|some<|.o .l<|a.set k d
 |_=>.bad
def HA(i:Nat)(f:Ex):Bd:=λst=>(f st).bind λd=>match d with
 |.lst a=>(match st[i]? with
  |some (some<|.o .l b)=>aX (b.length+a.length<=big)<|.ok<|.nx<|st.set i<|some<|.o .l<|b++a
  |_=>.bad)
 |_=>.bad
def Tv(i:Nat)(t:Bool):Bd:=λst=>.ok<|.nx<|st.set i<|some<|.o (.d t []) []
def Rf(i:Nat)(g f:Ex):Bd:=λst=>(f st).bind λd=>(g st).bind λk=>match st[i]? with
 |some (some<|.o (.d t ks) vs)=>aX (Pc t k=true/\vs.length<big)<|.ok<|.nx<|st.set i<|some<|.o (.d t<|zT ks k)<|zU ks vs k d
 |_=>.bad
def js(i:Nat)(c f:String)(e:Ex):Bd:=λst=>(e st).bind λd=>match st[i]? with
 |some (some<|.o (.i n a ns) b)=>aX (a=c/\f∉ns/\ns.length<900)<|.ok<|.nx<|st.set i<|some<|.o (.i n a<|ns++[f])<|b++[d]
 |_=>.bad
def iH(c f:String):wP
 |.ins b ns a=>aX (b=c)<|yi<|(ns.zip a).lookup f
 |_=>.bad
def bZ(c m:String)(p:bn)(b:dL)(f:Ex)(r:Ee):Ex:=λst=>(f st).bind λx=>(r st).bind λa=>match x with
 |.ins d ns _=>aX (d=c/\m∉ns)<|p<|x::(a++b)
 |_=>.bad
def pA:Bd:=λ_=>.bad
def rp(st:ua)(i:Nat):ua:=match st[i]? with
 |some (some<|.o k a)=>st.set i<|some<|.v<|br k a
 |_=>st
def Vi(is:ac)(b:Bd):Bd:=λst=>b<|is.foldl rp st
def bW(f:Ex):Bd:=λst=>(f st).bind λd=>.ok<|.rt d
def YI(f:Ex):Bd:=λst=>(f st).bind λ_=>.ok<|.nx st
def ud(c:Ex)(a b:Bd):Bd:=λst=>(c st).bind λx=>zi x λq=>if q=true then a st else b st
def Eb(tg:Tg)(a:Bd):dL->ua->R Fl
 |[],st=>.ok<|.nx st
 |d::c,st=>(tg d st).bind λs1=>(a s1).bind λx=>match x with
  |.nx b=>Eb tg a c b
  |.ct b=>Eb tg a c b
  |.bk b=>.ok<|.nx b
  |.rt v=>.ok<|.rt v
def mV(tg:Tg)(it:Xl)(a:Bd):Bd:=λst=>(it st).bind λb=>Eb tg a b st
def qC(c:Ex)(a:Bd):Nat->ua->R Fl
 |0,_=>.bad
 |n+1,st=>(c st).bind λx=>zi x λq=>if q=true then (a st).bind λx=>(match x with
  |.nx b=>qC c a n b
  |.ct b=>qC c a n b
  |.bk b=>.ok<|.nx b
  |.rt v=>.ok<|.rt v) else .ok (.nx st)
def Cv(n:Nat)(c:Ex)(a:Bd):Bd:=λst=>qC c a n st
def bV(a n:Nat)(b:Bd)(ds:dL):R D:=
 aX (ds.length=a) ((b<|ds.map (λd=>some<|.v d)++List.replicate (n-a) none).bind λx=>match x with
  |.nx _=>.ok .Tb
  |.rt d=>.ok d
  |_=>.bad)
def As(c:String)(a n:Nat)(b:Bd)(x:Nat)(ds:dL):R D:=
 aX (ds.length=a) ((b<|some (.o (.i x c []) [])::(ds.map (λd=>some<|.v d)++List.replicate (n-a-1) none)).bind λ(f:Fl)=>match f with
  |.nx st=>(match (st[0]?:Option (Option Sl)) with
   |some (some<|.o (.i y g ns) e)=>aX (y=x)<|.ok<|.ins g ns e
   |_=>.bad)
  |_=>.bad)
open Classical in
def Nm(c:String)(a n:Nat)(b:Bd)(ds:dL):R D:=if h:∃d,∀x,As c a n b x ds=.ok d then .ok (choose h) else .bad
def ũ{c:String} {b:Bd} (h:∀x,As c np n b x ds=.ok d):Nm c np n b ds=.ok d:=by
 unfold Nm;rw[dif_pos _];have:=z0 (p:=λd=>∀x,As c np n b x ds=.ok d) ⟨d,h⟩ 0
 rw[h 0]at this;exact this.symm
def gT{c:String} {b:Bd} (h:Nm c np n b ds=.ok d) (x:Nat):As c np n b x ds=.ok d:=by
 unfold Nm at h;split at h
 .rename_i e
  rwa [(z0 e x)]
 cases h
end
end Pu
variable{d y:Pu.D}{ds xs ys dv:List Pu.D}{f g:Pu.Ex}{st':Pu.ua}{p:List Pu.D->Pu.R Pu.D}{it:Pu.Xl}{x4:Option Pu.Sl}{bd tm:Pu.Bd}
namespace Pu
@[simp] theorem bg1:1<=big:=fY (by decide)
@[simp] theorem bg3:3<=big:=fY (by decide)
@[simp] theorem bA{b:Type}(a:α)(f:α->R b):(R.ok a).bind f=f a:=rfl
@[simp] theorem zm(b:Bool)(f:Bool->R α):zi (.bl b) f=f b:=rfl
@[simp] theorem bRt(i:Int)(f:Int->R α):qk (.int i) f=f i:=rfl
@[simp] theorem bRu(st:ua)(f:ua->R Fl):Ho (.ok<|.nx st) f=f st:=rfl
@[simp] theorem kT(i:Nat)(st:ua):aA i st=(match st[i]? with|some (some<|.v d)=>R.ok d|_=>.bad):=rfl
@[simp] theorem BX(d:D)(st:ua):eC d st=.ok d:=rfl
@[simp] theorem iq(op:Wf)(f g:Ex)(st:ua):e2 op f g st=(f st).bind λx=>(g st).bind λy=>op x y:=rfl
@[simp] theorem DI(op:wP)(f:Ex)(st:ua):e1 op f st=(f st).bind op:=rfl
@[simp] theorem bT5(p:wf)(f:Ex)(st:ua):eB p f st=(f st).bind λx=>aX (Mm x=true) (.ok<|.bl<|p x):=rfl
@[simp] theorem lT(f g:Ex)(st:ua):qY f g st=(f st).bind λx=>zi x λb=>if b=true then g st else .ok (.bl false):=rfl
@[simp] theorem bN9(f g:Ex)(st:ua):Ki f g st=(f st).bind λx=>zi x λb=>if b=true then .ok (.bl true) else g st:=rfl
@[simp] theorem Ū(f:Ex)(st:ua):uU f st=(f st).bind λx=>zi x λb=>.ok (.bl<|!b):=rfl
@[simp] theorem GV(c f g:Ex)(st:ua):Oj c f g st=(c st).bind λx=>zi x λb=>if b=true then f st else g st:=rfl
@[simp] theorem bRv(st:ua):aK st=.ok []:=rfl
@[simp] theorem bQa(f:Ex)(r:Ee)(st:ua):aC f r st=(f st).bind λx=>(r st).bind λxs=>.ok (x::xs):=rfl
@[simp] theorem ū(r:Ee)(st:ua):fJ r st=(r st).bind λxs=>aX (xs.length<=big) (.ok<|.lst xs):=rfl
@[simp] theorem bQb(p:bn)(r:Ee)(st:ua):aM p r st=(r st).bind p:=rfl
@[simp] theorem bSt(m:Cr)(f:Ex)(r:Ee)(st:ua):vm m f r st=(f st).bind λx=>(r st).bind λxs=>m x xs:=rfl
@[simp] theorem bQc(st:ua):Yz st=.ok none:=rfl
@[simp] theorem bQd(f:Ex)(st:ua):Zz f st=(f st).bind λx=>qk x λi=>.ok (some i):=rfl
@[simp] theorem bSu(f:Ex)(lo a:Br)(st:ua):VB f lo a st=(f st).bind λx=>(lo st).bind λl=>(a st).bind λh=>AK x l h:=rfl
@[simp] theorem Ŭ(f:Ex)(st:ua):qZ f st=(f st).bind λx=>qk x λj=>aX (-(big:Int)<=j/\j<=(big:Int)) (.ok<|mU 0 j.toNat):=rfl
@[simp] theorem ŭ(f g:Ex)(st:ua):XI f g st=(f st).bind λx=>(g st).bind λy=>qk x λi=>qk y λj=>aX (-(big:Int)<=i/\i<=(big:Int)/\-(big:Int)<=j/\j<=(big:Int)) (.ok<|mU i (j-i).toNat):=rfl
@[simp] theorem bQe(tg:Tg)(b:Bd)(st:ua):Eb tg b [] st=.ok (.nx st):=rfl
def wC(tg:Tg)(b:Bd)(d:D)(ds:dL)(st:ua):Eb tg b (d::ds) st=(tg d st).bind λs1=>(b s1).bind λx=>match x with
  |.nx a=>Eb tg b ds a
  |.ct a=>Eb tg b ds a
  |.bk a=>.ok<|.nx a
  |.rt v=>.ok (.rt v):=rfl
def AO(c:Ex)(b:Bd)(n:Nat)(st:ua):qC c b (n+1) st=(c st).bind λx=>zi x λq=>if q=true then (b st).bind λx=>(match x with
  |.nx s2=>qC c b n s2
  |.ct s2=>qC c b n s2
  |.bk s2=>.ok<|.nx s2
  |.rt v=>.ok<|.rt v) else .ok (.nx st):=rfl
@[simp] theorem bNa(f:Ex)(st:ua):Wc f st=(f st).bind λx=>match x with|.lst xs=>.ok xs|.tup xs=>.ok xs|.str xs=>aX (xs.length<=big) (.ok<|xs.map λc=>.str [c])|_=>.bad:=rfl
@[simp] theorem ϻ(n:Nat)(c:Ex)(b:Bd)(st:ua):Cv n c b st=qC c b n st:=rfl
@[simp] theorem Ů(i:Nat)(f:Ex)(st:ua):oi i f st=(f st).bind λd=>match st[i]? with|some (some<|.o .l xs)=>aX (xs.length<big) (.ok<|.nx<|st.set i<|some<|.o .l<|xs++[d])|_=>.bad:=rfl
@[simp] theorem Ĉ(i:Nat)(f:Ex)(st:ua):sI i f st=(f st).bind λd=>match d with|.lst xs=>.ok (.nx<|st.set i<|some<|.o .l xs)|_=>.bad:=rfl
@[simp] theorem ů(i:Nat)(f:Ex)(st:ua):HA i f st=(f st).bind λd=>match d with|.lst ys=>(match st[i]? with|some (some<|.o .l xs)=>aX (xs.length+ys.length<=big) (.ok<|.nx<|st.set i<|some<|.o .l<|xs++ys)|_=>.bad)|_=>.bad:=rfl
@[simp] theorem ĉ(i:Nat)(c f:String)(e:Ex)(st:ua):js i c f e st=(e st).bind λd=>match st[i]? with|some (some<|.o (.i n a ns) xs)=>aX (a=c/\f∉ns/\ns.length<900) (.ok<|.nx<|st.set i<|some<|.o (.i n a<|ns++[f])<|xs++[d])|_=>.bad:=rfl
@[simp] theorem yy(c f a:String)(ns:sw)(xs:dL):iH c f (.ins a ns xs)=aX (a=c) (yi<|(ns.zip xs).lookup f):=rfl
@[simp] theorem zy(c m:String)(p:bn)(a:dL)(f:Ex)(r:Ee)(st:ua):bZ c m p a f r st=(f st).bind λx=>(r st).bind λxs=>match x with|.ins b ns _=>aX (b=c/\m∉ns) (p<|x::(xs++a))|_=>.bad:=rfl
@[simp] theorem bSv(is:ac)(b:Bd)(st:ua):Vi is b st=b (is.foldl rp st):=rfl
@[simp] theorem bSw(st:ua)(i:Nat):rp st i=(match st[i]? with|some (some<|.o k xs)=>st.set i (some<|.v<|br k xs)|_=>st):=rfl
@[simp] theorem bRw(x y:ac):Xz (.str x) [.str y]=.ok (.int<|uo<|sH x y 0):=rfl
@[simp] theorem bQf(x y:ac):Az (.str x) [.str y]=aX (x.length<=big) (.ok<|.str<|ym x y):=rfl
@[simp] theorem bLd(i:Nat):uo (some i)=i:=rfl
@[simp] theorem bRx(i j:Int):Cn (.int i) (.int j)=.ok (.bl<|decide (j<=i)):=rfl
@[simp] theorem bQg(b:Int):Mm (.int b)=true:=rfl
@[simp] theorem bQh(b:ac):Mm (.str b)=true:=rfl
@[simp] theorem bQi(b:dL):Mm (.lst b)=true:=rfl
@[simp] theorem bSx(i:Nat)(d:D)(st:ua):bb i d st=.ok (st.set i<|some<|.v d):=rfl
@[simp] theorem bRy(st:ua):Wh [] st=st:=rfl
@[simp] theorem bQj(i:Nat)(is:ac)(st:ua):Wh (i::is) st=Wh is (st.set i none):=rfl
def mW(tg:Tg)(c f:Ex)(st:ua)(d:D)(ds:dL):jX tg c f st (d::ds)=(tg d st).bind λs1=>(c s1).bind λx=>zi x λb=>if b=true then (f s1).bind λy=>(jX tg c f st ds).bind λa=>.ok (y::a) else jX tg c f st ds:=rfl
@[simp] theorem Ay(is:ac)(tg:Tg)(it:Xl)(c f:Ex)(st:ua):cT is tg it c f st=(it st).bind λxs=>aX (xs.length<=big) ((jX tg c f (Wh is st) xs).bind λa=>.ok<|.lst a):=rfl
@[simp] theorem bQk(st:ua):cJ st=.ok (.nx st):=rfl
@[simp] theorem Ű(a b:Bd)(st:ua):aY a b st=Ho (a st) b:=rfl
@[simp] theorem ű(i:Nat)(f:Ex)(st:ua):bU i f st=(f st).bind λd=>.ok (.nx<|st.set i<|some<|.v d):=rfl
@[simp] theorem Hr(f:Ex)(st:ua):bW f st=(f st).bind λd=>.ok (.rt d):=rfl
@[simp] theorem bNb(c:Ex)(a b:Bd)(st:ua):ud c a b st=(c st).bind λx=>zi x λq=>if q=true then a st else b st:=rfl
@[simp] theorem Ų(tg:Tg)(it:Xl)(a:Bd)(st:ua):mV tg it a st=(it st).bind λxs=>Eb tg a xs st:=rfl
@[simp] theorem bQl(i j:Int):oZ (.int i) (.int j)=aX (0<j) (.ok<|.int<|i%j):=rfl
@[simp] theorem bRz(i j:Int):ip (.int i) (.int j)=.ok (.bl<|decide (i<=j)):=rfl
@[simp] theorem HV(x y:D):gd x y=aX (ag x<=64/\plain x=true/\plain y=true) (.ok<|.bl<|de x y):=rfl
@[simp] theorem IV(x y:D):Zf x y=aX (ag x<=64/\plain x=true/\plain y=true) (.ok<|.bl<|!de x y):=rfl
@[simp] theorem bS0(i:Int):ag (.int i)=0:=rfl
@[simp] theorem bS1(s:ac):ag (.str s)=0:=rfl
@[simp] theorem bS2(x:dL):ag (.lst x)=rT x+1:=by conv=>lhs;unfold ag
@[simp] theorem bP5:plain .Tb=true:=by unfold plain;rfl
@[simp] theorem bQm(b:Bool):plain (.bl b)=true:=rfl
@[simp] theorem bP6(i:Int):plain (.int i)=true:=rfl
@[simp] theorem bP7(s:ac):plain (.str s)=true:=rfl
@[simp] theorem bP8(x:dL):plain (.tup x)=fZ x:=by conv=>lhs;unfold plain
@[simp] theorem bP9(x:dL):plain (.lst x)=fZ x:=by conv=>lhs;unfold plain
@[simp] theorem bPa(t:Bool)(k v:dL):plain (.Pe t k v)=false:=rfl
@[simp] theorem bPb(c:String)(n:sw)(v:dL):plain (.ins c n v)=false:=rfl
@[simp] theorem bPc(c:String)(n:sw)(v:dL):plain (.jk c n v)=false:=rfl
@[simp] theorem bQn(f:String):plain (.fn f)=false:=rfl
@[simp] theorem bNc:fZ []=true:=by unfold fZ;rfl
@[simp] theorem B_(a:D)(x:dL):fZ (a::x)=(plain a&&fZ x):=by conv=>lhs;unfold fZ
@[simp] theorem bQo:rT []=0:=by unfold rT;rfl
@[simp] theorem dQ(a:D)(x:dL):rT (a::x)=max (ag a) (rT x):=by conv=>lhs;unfold rT
@[simp] theorem bS3(i j:Int):de (.int i) (.int j)=(i==j):=by unfold de;rfl
@[simp] theorem bS4(i j:ac):de (.str i) (.str j)=(i==j):=rfl
@[simp] theorem bPd(a:Bool)(b:Bool):de (.bl a) (.bl b)=(a==b):=by unfold de;rfl
@[simp] theorem bLe(x:dL)(y:dL):de (.lst x) (.lst y)=pY x y:=by conv=>lhs;unfold de
@[simp] theorem bIm:pY [] []=true:=by unfold pY;rfl
@[simp] theorem bHg(b:D)(y:dL):pY [] (b::y)=false:=rfl
@[simp] theorem bHh(b:D)(y:dL):pY (b::y) []=false:=rfl
@[simp] theorem bE1(a b:D)(x y:dL):pY (a::x) (b::y)=(de a b&&pY x y):=by conv=>lhs;unfold pY
@[simp] theorem bQp(x:dL):jE (.lst x)=.ok (.int x.length):=rfl
@[simp] theorem bS5(x:dL)(i:Int):qb (.lst x) (.int i)=yi (je x i):=rfl
@[simp] theorem bS6(x:ac)(l h:ut):AK (.str x) l h=aX (x.length<=big) (.ok<|.str<|cut x l h):=rfl
@[simp] theorem bQq(a:α):yi (some a)=.ok a:=rfl
@[simp] theorem gR{c:Prop}{r:R α}(h:c):aX c r=r:=aO h
@[simp] theorem mT{b:Bd} (h:ds.length=np):bV np n b ds=(b<|ds.map (λd=>some<|.v d)++List.replicate (n-np) none).bind λx=>match x with
  |.nx _=>.ok .Tb
  |.rt d=>.ok d
  |_=>.bad:=aO h
def bNd{xs:List α}{i:Int}(a:0<=i)(h:i<xs.length):je xs i=some (xs[i.toNat]'(by omega)):=by
 unfold je vg;rw[xb a,xb h];exact Ze _
theorem Jc{xs:List α}{i:Nat}(h:i<xs.length):je xs (i:Int)=some xs[i]:=by
 rw[bNd (by lia) (by lia)]
 simp
def Cs:wP
 |.lst x=>.ok<|.lst x
 |.tup x=>.ok<|.lst x
 |_=>.bad
def Zt:List D->R (List Bool)
 |[]=>.ok []
 |.bl b::r=>(Zt r).bind λx=>.ok<|b::x
 |_::_=>.bad
def wH:List D->R (List Int)
 |[]=>.ok []
 |.int i::r=>(wH r).bind λx=>.ok<|i::x
 |_::_=>.bad
def Io:wP
 |.lst x=>(Zt x).bind λl=>.ok<|.bl<|l.all id
 |_=>.bad
def Jk:List Int->Int
 |[]=>0
 |i::r=>r.foldl (λa b=>if b>a then b else a) i
noncomputable def Uv:wP
 |.lst x=>(wH x).bind λl=>aX (0<l.length)<|.ok<|.int<|Jk l
 |_=>.bad
theorem JV:∀{x:dL}{l:At},Zt x=.ok l->x=l.map D.bl
 |[],l,h=>by cases h;rfl
 |d::x,l,h=>by
  cases d<;>first|(cases h)|skip
  obtain⟨c,b,a⟩:=R.ja h;cases a;rw[JV b];rfl
theorem zV:∀{x:dL}{l:jp},wH x=.ok l->x=l.map D.int
 |[],l,h=>by cases h;rfl
 |d::x,l,h=>by
  cases d<;>first|(cases h)|skip
  obtain⟨c,b,a⟩:=R.ja h;cases a;rw[zV b];rfl
theorem oT:∀(l:At),Zt (l.map D.bl)=.ok l
 |[]=>rfl
 |b::l=>by show (Zt _).bind _=_;rw[oT l];rfl
theorem sO:∀(l:jp),wH (l.map D.int)=.ok l
 |[]=>rfl
 |b::l=>by show (wH _).bind _=_;rw[sO l];rfl
theorem UE:∀(r:jp)(a:Int),a<=r.foldl (λa b=>if b>a then b else a) a/\(∀x∈r,x<=r.foldl (λa b=>if b>a then b else a) a)/\(r.foldl (λa b=>if b>a then b else a) a=a\/r.foldl (λa b=>if b>a then b else a) a∈r)
 |[],a=>⟨Int.le_refl _,λ_ h=>(by cases h),.inl rfl⟩
 |b::r,a=>by
  obtain⟨d,e,c⟩:=UE r _;rw[kn];refine⟨Int.le_trans (by split<;>lia) d,λx hx=>?_,?_⟩
  .rcases Uc.mp hx with rfl|hx
   .exact Int.le_trans (by split<;>lia) d
   exact e x hx
  rcases c with c|c
  .rw[c];split
   .exact .inr Gb
   exact .inl rfl
  exact .inr<|Xb _ c
theorem Xu{l:jp}{m:Int}(c:m∈l)(b:∀x∈l,x<=m):Jk l=m:=by
 cases l with
 |nil=>cases c
 |cons i r=>
  obtain⟨h,d,a⟩:=UE r i;have g:Jk (i::r)<=m:=by
   rcases a with a|a
   .exact b _ (by show r.foldl _ i∈_;rw[a];exact Gb)
   exact b _<|Xb _ a
  have f:m<=Jk (i::r):=by
   rcases Uc.mp c with e|e
   .rwa [e]
   exact d _ e
  lia
inductive P5 where
 |nx (U2:List (List D)) (st:ua)|rt (d:D)
abbrev NB:=List dL->ua->R P5
def EI(i:Nat):Bd:=λst=>match st[i]? with
 |some (some<|.o .l xs)=>.ok<|.rt<|.lst xs
 |_=>.bad
def Gm(a:Bd)(i:Nat):Bd:=λst=>match a st with
 |.ok (.nx s)=>EI i s
 |_=>.bad
def fm(l:jp):jp:=l.foldl (λoa x=>if oa.any (· == x) then oa else oa++[x]) []
def atom:wf
 |.Tb=>true
 |.bl _=>true
 |.int _=>true
 |.str _=>true
 |_=>false
def bQr:wf
 |.lst xs=>xs.all atom
 |_=>false
noncomputable section
def bNe:wP
 |.lst xs=>aX (xs.length<=big/\xs.all bQr=true)<|.ok<|.lst xs
 |_=>.bad
def unL:D->List D
 |.lst xs=>xs
 |_=>[]
open Classical in
def bT6(c:String)(a n:Nat)(b:Bd)(ds:dL):R D:=if h:∃r,∀x,As c a n b x ds=r then choose h else .bad
end
def Ej:List Nat->List D->List D
 |c::z,d::ds=>.tup [.str [c],d] :: Ej z ds
 |_,_=>[]
def DX(f g:Ex):Xl:=λst=>(f st).bind λx=>(g st).bind λy=>match x,y with
 |.str z,.lst ds=>.ok<|Ej z ds
 |_,_=>.bad
noncomputable section
def Yu:wP
 |.int n=>aX (-(big:Int)<=n/\n<=(big:Int))<|.ok<|.lst<|mU 0 n.toNat
 |_=>.bad
def PH(i:Nat)(g f:Ex):Bd:=λst=>(g st).bind λk=>(f st).bind λd=>aX (FA k=true/\atom d=true)<|.ok<|.nx<|st.set i<|some<|.o (.d false [k]) [d]
def Om:Wf
 |.int i,.int j=>aX (0<=j/\j<=1000000/\i.natAbs<18446744073709551616)<|.ok<|.int<|i*2^j.toNat
 |_,_=>.bad
def qi:Wf
 |.int i,.int j=>aX (0<=j)<|.ok<|.int<|i/2^j.toNat
 |_,_=>.bad
def uV:Wf
 |.int i,.int j=>aX (0<=i/\0<=j)<|.ok<|.int ((i.toNat&&&j.toNat:Nat):Int)
 |_,_=>.bad
def Mj:Wf
 |.int i,.int j=>aX (0<=i/\0<=j)<|.ok<|.int ((i.toNat|||j.toNat:Nat):Int)
 |_,_=>.bad
def dA:Cr
 |.lst xs,[.int k]=>(wH xs).bind λl=>(yi<|l.findIdx? λi=>i==k).bind λn=>aX (xs.length<=big)<|.ok<|.int (n:Int)
 |_,_=>.bad
end
def xZ(i:Int):Nat:=if i=0 then 0 else i.natAbs.log2+1
def Py:wP
 |.int i=>.ok<|.int (xZ i:Nat)
 |_=>.bad
noncomputable def Dv:wP
 |.Pe false ks ds=>aX (ks.length<=big)<|.ok<|.lst<|List.zipWith (λk d=>.tup [k,d]) ks ds
 |_=>.bad
def sJ(a:Bd)(f:Ex):Bd:=λst=>match a st with
 |.ok (.nx s)=>(f s).bind λd=>match d with
  |.lst xs=>.ok<|.rt<|.lst xs
  |_=>.bad
 |_=>.bad
def Di:Wf
 |.int i,.int j=>.ok<|.bl<|decide (i<j)
 |_,_=>.bad
noncomputable def jK:Wf
 |.int i,.int j=>aX ((-18446744073709551616<i/\i<18446744073709551616)\/(-18446744073709551616<j/\j<18446744073709551616))<|.ok<|.int<|i*j
 |_,_=>.bad
@[simp] theorem bQs(i j:Int):Di (.int i) (.int j)=.ok (.bl<|decide (i<j)):=rfl
end Pu
variable{nb:Pu.NB}
namespace Pu
noncomputable section
def nh(l:jp):jp:=l.mergeSort λa b=>decide (a<=b)
def uJ(l:jp):(nh l).Perm l:=List.mergeSort_perm _ _
def Ċ(l:jp):(nh l).Pairwise (· <= ·):=by
 have h:=List.pairwise_mergeSort (le:=λa b:Int=>decide (a<=b)) (λa b c e d=>by
  have:=ck e;have:=ck d;exact Oc<|by omega) (λa b=>by
  rcases Int.le_total a b with h|h
  .simp[h]
  .simp[h]) l
 exact h.imp λh=>ck h
def KG:wP
 |.lst x=>(wH x).bind λl=>aX (l.length<=4000/\(fm l).length<64)<|.ok<|.lst<|(nh<|fm l).map D.int
 |_=>.bad
def Ds:D->D->D->R D
 |.Pe t ks vs,k,x=>aX (Pc t k=true)<|if xW ks k=true then yi (ni ks vs k) else .ok x
 |_,_,_=>.bad
def Zs(f g h:Ex):Ex:=λst=>(f st).bind λd=>(g st).bind λk=>(h st).bind λx=>Ds d k x
def EX(r:Ee)(g:Ex):Ex:=λst=>(r st).bind λxs=>(g st).bind λy=>qk y λj=>aX (xs.length<=big/\xs.length*j.toNat<=big/\-4611686018427387904<=j/\j<4611686018427387904)<|.ok<|.lst<|rep j.toNat xs
def Gk(c:String):Ex:=λ_=>.ok<|.ins c [] []
def gW(f g:Ex):Ex:=λst=>match f st with
 |.bad=>g st
 |r=>r
def bNf{st:ua} (h:gW f g st=.ok d):f st=.ok d\/g st=.ok d:=by
 unfold gW at h;split at h
 .exact .inr h
 .exact .inl h
def eA(i j:Nat)(p:bn)(f:Ex):Bd:=λst=>(f st).bind λx=>match st[j]? with
 |some (some<|.o .l ys)=>(match ys.getLast? with
  |some d=>aX (ys.length<=big)<|(p [x,d]).bind λy=>.ok<|.nx<|(st.set j<|some<|.o .l ys.dropLast).set i<|some<|.v y
  |none=>.bad)
 |_=>.bad
end
noncomputable def fw:Wf
 |.int i,.int j=>aX (0<=i/\0<=j)<|.ok<|.int<|((i.toNat|||j.toNat:Nat):Int)-((i.toNat&&&j.toNat:Nat):Int)
 |_,_=>.bad
noncomputable section
def FI:wP
 |.lst x=>(wH x).bind λl=>aX (l.length<64)<|.ok<|.lst<|(nh l).map D.int
 |_=>.bad
def Pm:List D->List D->List D->List D->List D×List D
 |ks,vs,k::b,v::a=>Pm (zT ks k) (zU ks vs k v) b a
 |ks,vs,_,_=>(ks,vs)
def gw(i:Nat)(f:Ex):Bd:=λst=>(f st).bind λd=>match d with
 |.Pe false b a=>(match st[i]? with
  |some (some<|.o (.d false ks) vs)=>aX (b.length=a.length/\vs.length+a.length<=big)<|.ok<|.nx<|st.set i<|some<|.o (.d false (Pm ks vs b a).1) (Pm ks vs b a).2
  |_=>.bad)
 |_=>.bad
def fA(i:Nat)(g f:Ex):Bd:=λst=>(g st).bind λk=>(f st).bind λd=>match st[i]? with
 |some (some<|.o (.d false ks) vs)=>aX (Pc false k=true/\vs.length<big)<|.ok<|.nx<|if xW ks k=true then st else st.set i (some<|.o (.d false<|zT ks k)<|zU ks vs k d)
 |_=>.bad
end
noncomputable def iA:wP
 |.Pe false _ ds=>(wH ds).bind λl=>aX (0<l.length)<|.ok<|.int<|Jk l
 |_=>.bad
noncomputable section
abbrev eI(n:Int):Ex:=eC<|.int n
def C_:Bd:=aY (ud (e2 Di (aA 1)<|e1 jE<|aA 0) (bW<|e2 oZ (e2 qb (aA 0)<|aA 1)<|e2 Fo (eI 10)<|eI 30) cJ)<|aY (bU 2<|eI 0)<|aY (ud (e2 eh (e1 jE<|aA 0)<|eI 0) (bU 2<|e2 oZ (e2 qb (aA 0)<|e2 oZ (aA 1)<|e1 jE<|aA 0)<|eI 999983) cJ)<|bW<|e2 oZ (e2 jK (e2 lB (e2 lB (e2 jK (aA 2)<|eI 48271)<|e2 jK (eI 7919)<|aA 1)<|eI 11)<|e2 lB (aA 1)<|eI 2)<|eI 2147483647
def mX:bn:=bV 2 3 C_
def D_:Bd:=aY (bU 3<|e2 oZ (e2 lB (aA 0)<|e2 jK (eI 15485863)<|aA 1)<|eI 2147483629)<|aY (bU 3<|e2 oZ (e2 jK (e2 oZ (e2 jK (aA 3)<|aA 3)<|eI 2147483647)<|eI 69621)<|eI 2147483629)<|bW<|e2 oZ (e2 Ek (e2 oZ (e2 jK (aA 3)<|aA 3)<|eI 2147483587)<|eI 32)<|aA 2
def dY:bn:=bV 3 4 D_
def TM(st:ua):R Fl:=(aY (oi 2<|e2 oZ (aA 0)<|aA 3)<|bU 0<|e2 Ek (aA 0)<|aA 3) st
def H8:Bd:=aY (sI 2<|fJ aK)<|aY (mV (bb 3) (Wc<|aA 1) TM)<|Vi [2]<|bW<|aA 2
def mC:bn:=bV 2 4 H8
def E_:Bd:=aY (ud (e2 gd (aA 2)<|eI 1) (bW<|e2 Sv (aA 0)<|aA 1) cJ)<|aY (ud (qY (e2 gd (aA 2)<|eI 2)<|e2 Di (e2 Ek (aA 1)<|eI 2)<|e2 Ek (aA 0)<|eI 2) (bW<|e2 CI (e2 Lm (aA 3)<|eI 1)<|e2 lB (e2 Lm (aA 0)<|e2 oZ (aA 0)<|eI 2)<|e2 oZ (aA 1)<|eI 2) cJ)<|bW<|aA 1
def yC:bn:=bV 4 4 E_
def kI(st:ua):R D:=(aM dY<|aC (aA 3)<|aC (e2 lB (eI 1)<|aA 9)<|aC (e2 qb (aA 4)<|aA 9) aK) st
def sS(st:ua):R D:=(aM dY<|aC (aA 10)<|aC (e2 lB (eI 11)<|aA 12)<|aC (e2 qb (aA 4)<|aA 12) aK) st
def zW(st:ua):R D:=(aM yC<|aC (aA 9)<|aC (aA 13)<|aC (e2 qb (aA 5)<|eI 4)<|aC (aA 6) aK) st
def sU(st:ua):R Fl:=(aY (bU 10<|aM mX<|aC (aA 0)<|aC (e2 lB (e2 lB (aA 1)<|eI 1)<|aA 9) aK)<|aY (bU 11<|aM mC<|aC (aA 10)<|aC (aA 4) aK)<|aY (ud (e2 gd (e2 oZ (aA 3)<|eI 2)<|eI 0) (bU 11<|cT [12] (bb 12) (qZ<|e1 jE<|aA 4) fK sS) cJ)<|aY (oi 7<|cT [13] (bb 13) (Wc<|VB (aA 11) Yz<|Zz<|e1 mi<|eI 1) fK zW)<|oi 8<|e2 lB (e2 qb (fJ<|aC (eI 0)<|aC (eI 0)<|aC (eI 1)<|aC (e2 Fo (eI 10)<|eI 29) aK)<|e2 qb (aA 5)<|eI 2)<|e2 qb (aA 11)<|e1 mi<|eI 1) st
def L7:Bd:=aY (bU 3<|aM mX<|aC (aA 0)<|aC (aA 1) aK)<|aY (bU 4<|fJ<|aC (aA 2)<|aC (eI 3)<|aC (eI 4)<|aC (eI 4)<|aC (eI 3) aK)<|aY (bU 5<|cT [9] (bb 9) (qZ<|eI 5) fK kI)<|aY (ud (e2 gd (e2 oZ (aA 3)<|eI 2)<|eI 1) (bU 5<|aM mC<|aC (e2 Ek (aA 3)<|eI 2)<|aC (aA 4) aK) cJ)<|aY (bU 6<|e2 lB (eI 1)<|e2 qb (aA 5)<|eI 0)<|aY (bU 4<|e2 lB (EX (aC (aA 6) aK)<|e2 lB (eI 1)<|e2 qb (aA 5)<|eI 1)<|fJ<|aC (e2 qb (fJ<|aC (eI 2)<|aC (eI 3)<|aC (eI 4)<|aC (eI 6) aK)<|e2 qb (aA 5)<|eI 3) aK)<|aY (sI 7<|fJ aK)<|aY (sI 8<|fJ aK)<|aY (mV (bb 9) (qZ<|aA 6) sU)<|Vi [7,8]<|bW<|aj<|aC (aA 7)<|aC (aA 8) aK
def mY:bn:=bV 3 14 L7
def AN(st:ua):R Fl:=(bU 3<|e2 Mj (aA 3)<|e2 Om (eI 1)<|aA 4) st
def BN(st:ua):R Fl:=(aY (bU 3<|eI 0)<|aY (mV (bb 4) (Wc<|aA 2) AN)<|oi 1<|aA 3) st
def G9:Bd:=aY (sI 1<|fJ aK)<|aY (mV (bb 2) (Wc<|aA 0) BN)<|Vi [1]<|bW<|aA 1
def oA:bn:=bV 1 5 G9
def CN(st:ua):R Fl:=(ud (e2 gd (e2 uV (e2 qi (aA 3)<|aA 6)<|eI 1)<|eI 1) (bU 5<|e2 Mj (aA 5)<|e2 uV (e2 qb (aA 0)<|aA 6)<|aA 1) cJ) st
def wI(st:ua):R Fl:=(aY (bU 5<|aA 3)<|aY (mV (bb 6) (qZ<|e1 jE<|aA 0) CN)<|aY (bU 4<|e2 Zf (aA 5)<|aA 3)<|bU 3<|aA 5) st
def DN(st:ua):R D:=(aA 4) st
def H9:Bd:=aY (bU 3<|e2 uV (aA 2)<|aA 1)<|aY (bU 4<|eC<|.bl true)<|aY (Cv 100000 DN wI)<|bW<|aA 3
def iI:bn:=bV 3 7 H9
def wJ(st:ua):R D:=(aA 5) st
def wK(st:ua):R D:=(qY (e2 gd (e2 uV (e2 qi (aA 3)<|aA 5)<|eI 1)<|eI 1)<|e2 Zf (aM iI<|aC (aA 0)<|aC (aA 3)<|aC (e2 qb (aA 0)<|aA 5) aK)<|aA 3) st
def qD(st:ua):R Fl:=(ud (e2 gd (e2 uV (aA 3)<|aA 1)<|aA 3) (aY (bU 4<|cT [5] (bb 5) (qZ<|e1 jE<|aA 0) wK wJ)<|ud (e2 gd (aA 4)<|fJ aK) (oi 2<|aA 3) cJ) cJ) st
def N6:Bd:=aY (sI 2<|fJ aK)<|aY (mV (bb 3) (XI (eI 1)<|e2 lB (aA 1)<|eI 1) qD)<|Vi [2]<|bW<|aA 2
def kJ:bn:=bV 2 6 N6
def zD(st:ua):R D:=(e2 qb (aA 0)<|aA 2) st
def AD(st:ua):R D:=(e2 gd (e2 uV (e2 qi (aA 1)<|aA 2)<|eI 1)<|eI 1) st
def QO:Bd:=bW<|e1 Uv<|cT [2] (bb 2) (qZ<|e1 jE<|aA 0) AD zD
def ky:bn:=bV 2 3 QO
def F_:Bd:=bW<|e2 gd (e2 oZ (aM ky<|aC (aA 0)<|aC (aA 1) aK)<|eI 2)<|eI 0
def uK:bn:=bV 2 2 F_
def UM(st:ua):R Fl:=(Rf 4 (aA 5)<|aM iI<|aC (aA 2)<|aC (eI 255)<|aC (aA 5) aK) st
def VM(st:ua):R D:=(aA 5) st
def WM(st:ua):R D:=(aM uK<|aC (aA 1)<|aC (aA 5) aK) st
def XM(st:ua):R D:=(aA 5) st
def YM(st:ua):R D:=(uU<|aM uK<|aC (aA 1)<|aC (aA 5) aK) st
def uW(st:ua):R Fl:=(aY (bU 10<|e2 eh (e2 uV (e2 qb (mR 4)<|aA 5)<|aA 9)<|eI 0)<|aY (bU 11<|e2 eh (e2 uV (e2 qb (mR 4)<|aA 9)<|aA 5)<|eI 0)<|aY (Yj 8 (eI 0)<|qY (e2 qb (mR 8)<|eI 0)<|uU<|aA 11)<|aY (Yj 8 (eI 1)<|qY (e2 qb (mR 8)<|eI 1)<|uU<|aA 10)<|aY (Yj 8 (eI 2)<|qY (e2 qb (mR 8)<|eI 2)<|uU<|qY (aA 10)<|aA 11)<|aY (Yj 8 (eI 3)<|qY (e2 qb (mR 8)<|eI 3)<|e2 Zf (e2 uV (aA 5)<|aA 9)<|aA 5)<|Yj 8 (eI 4)<|qY (e2 qb (mR 8)<|eI 4)<|e2 Zf (e2 uV (aA 5)<|aA 9)<|aA 9) st
def zX(st:ua):R Fl:=(mV (bb 9) (Wc<|aA 7) uW) st
def I8:Bd:=aY (bU 2<|aM oA<|aC (aA 0) aK)<|aY (bU 3<|aM kJ<|aC (aA 2)<|aC (aM iI<|aC (aA 2)<|aC (eI 255)<|aC (eI 1) aK) aK)<|aY (Tv 4 false)<|aY (mV (bb 5) (Wc<|aA 3) UM)<|aY (bU 6<|cT [5] (bb 5) (Wc<|aA 3) WM VM)<|aY (bU 7<|cT [5] (bb 5) (Wc<|aA 3) YM XM)<|aY (sI 8<|fJ<|aC (eC<|.bl true)<|aC (eC<|.bl true)<|aC (eC<|.bl true)<|aC (eC<|.bl true)<|aC (eC<|.bl true) aK)<|aY (mV (bb 5) (Wc<|aA 6) zX)<|Vi [8]<|bW<|aA 8
def tR:bn:=bV 2 12 I8
def zY:Bd:=bW<|qY (eB Ws<|aA 0)<|qY (e2 Cn (e1 jE<|aA 0)<|eI 1)<|e2 ip (e1 jE<|aA 0)<|aA 1
def gB:bn:=bV 2 2 zY
def RO:Bd:=bW<|qY (eB isIn<|aA 0)<|uU<|eB WI<|aA 0
def sV:bn:=bV 1 1 RO
def SO:Bd:=bW<|qY (aM sV<|aC (aA 0) aK)<|qY (e2 Cn (aA 0)<|eI 0)<|e2 Di (aA 0)<|aA 1
def sW:bn:=bV 2 2 SO
def UO(st:ua):R D:=(aM sW<|aC (aA 3)<|aC (aA 2) aK) st
def ċ:Bd:=bW<|qY (e2 gd (e1 jE<|aA 0)<|aA 1)<|e1 Io<|cT [3] (bb 3) (Wc<|aA 0) fK UO
def By:bn:=bV 3 4 ċ
def MN(st:ua):R D:=(aM gB<|aC (aA 1)<|aC (eI 3) aK) st
def NN(st:ua):R D:=(aM By<|aC (aA 1)<|aC (e1 jE<|e2 qb (aA 0)<|eI 0)<|aC (e1 jE<|aA 0) aK) st
def G_:Bd:=aY (ud (uU<|aM gB<|aC (aA 0)<|aC (eI 8) aK) (bW<|eC<|.bl false) cJ)<|aY (ud (uU<|e1 Io<|cT [1] (bb 1) (Wc<|aA 0) fK MN) (bW<|eC<|.bl false) cJ)<|bW<|e1 Io<|cT [1] (bb 1) (Wc<|aA 0) fK NN
def yD:bn:=bV 1 2 G_
def yW(st:ua):R D:=(qY (aM sV<|aC (aA 2) aK)<|e2 Cn (aA 2)<|eI 0) st
def H_:Bd:=aY (ud (Ki (uU<|eB Ws<|aA 0)<|e2 Zf (e1 jE<|aA 0)<|aA 1) (bW<|eC<|.bl false) cJ)<|bW<|e1 Io<|cT [2] (bb 2) (Wc<|aA 0) fK yW
def yE:bn:=bV 2 3 H_
def uL(st:ua):R D:=(e1 Cs<|aA 3) st
def lJ:Bd:=aY (ud (uU<|aM yD<|aC (aA 1) aK) pA cJ)<|aY (ud (uU<|aM yE<|aC (aA 2)<|aC (e1 jE<|aA 1) aK) pA cJ)<|aY (js 0 "Machine" "steps"<|cT [3] (bb 3) (Wc<|aA 1) fK uL)<|aY (js 0 "Machine" "ranks"<|e1 Cs<|aA 2)<|aY (js 0 "Machine" "many"<|e1 jE<|aA 1)<|js 0 "Machine" "letters"<|e1 jE<|e2 qb (aA 1)<|eI 0
def eU:bn:=Nm "Machine" 2 4 lJ
def zZ(st:ua):R Fl:=(oi 11<|e2 oZ (e2 jK (e2 lB (e2 qb (e2 qb (aA 0)<|aA 10)<|aA 12)<|e2 jK (aA 4)<|aM dY<|aC (aA 3)<|aC (e2 lB (e2 lB (eI 31)<|e2 jK (eI 3)<|aA 9)<|aA 12)<|aC (eI 2) aK)<|aA 5)<|e2 jK (eI 2)<|aA 4) st
def oE(st:ua):R D:=(aA 13) st
def oF(st:ua):R D:=(e2 gd (e2 uV (e2 qi (aA 13)<|aA 10)<|eI 1)<|eI 1) st
def oG(st:ua):R Fl:=(aY (bU 10<|e2 oZ (e2 oZ (e2 jK (aA 9)<|aA 5)<|e2 jK (eI 2)<|aA 4)<|aA 4)<|aY (sI 11<|fJ aK)<|aY (mV (bb 12) (qZ<|e1 jE<|e2 qb (aA 0)<|eI 0) zZ)<|aY (Vi [11]<|oi 7<|aA 11)<|aY (oi 8<|e2 lB (e2 qb (aA 1)<|aA 10)<|e2 jK (eI 2)<|aM dY<|aC (aA 2)<|aC (eI 3)<|aC (eI 9) aK)<|ud (e2 gd (cT [13] (bb 13) (Wc<|aA 6) oF oE)<|fJ aK) (Yj 8 (e1 mi<|eI 1)<|aM dY<|aC (aA 3)<|aC (e2 lB (eI 91)<|aA 9)<|aC (eI 10) aK) cJ) st
def M7:Bd:=aY (bU 4<|e1 jE<|aA 0)<|aY (bU 5<|e2 qb (fJ<|aC (eI 1)<|aC (e2 Lm (e2 jK (eI 2)<|aA 4)<|eI 1) aK)<|aM dY<|aC (aA 2)<|aC (eI 1)<|aC (eI 2) aK)<|aY (bU 6<|aM kJ<|aC (aM oA<|aC (aA 0) aK)<|aC (e2 qi (e2 Lm (e2 Fo (eI 2)<|eI 8)<|eI 1)<|e2 Lm (eI 8)<|aA 4) aK)<|aY (sI 7<|fJ aK)<|aY (sI 8<|fJ aK)<|aY (mV (bb 9) (qZ<|e2 jK (eI 2)<|aA 4) oG)<|Vi [7,8]<|bW<|aM eU<|aC (aA 7)<|aC (aA 8) aK
def rA:bn:=bV 4 14 M7
def I_:Bd:=bW<|fJ<|aC (Gk "EarlyNo")<|aC (Gk "EarlyYes")<|aC (Gk "Settled")<|aC (Gk "Again")<|aC (Gk "Lasting") aK
def uM:bn:=bV 0 0 I_
def N7:Bd:=bW<|eC<|.str [101,97,114,108,121,32,110,111]
def mZ:bn:=bV 1 1 N7
def X6:Bd:=bW<|eC<|.str [101,97,114,108,121,32,121,101,115]
def lV:bn:=bV 1 1 X6
def O7:Bd:=bW<|eC<|.str [115,101,116,116,108,101,100]
def nA:bn:=bV 1 1 O7
def I9:Bd:=bW<|eC<|.str [97,103,97,105,110]
def rB:bn:=bV 1 1 I9
def P7:Bd:=bW<|eC<|.str [108,97,115,116,105,110,103]
def nC:bn:=bV 1 1 P7
def χ:Bd:=bW<|e2 gd (e2 uV (e2 qi (aA 0)<|aA 1)<|eI 1)<|eI 1
def gY:bn:=bV 2 2 χ
def UN(st:ua):R D:=(aA 1) st
def VN(st:ua):R D:=(aM gY<|aC (aA 0)<|aC (aA 1) aK) st
def ψ:Bd:=bW<|cT [1] (bb 1) (qZ<|e1 Py<|aA 0) VN UN
def cC:bn:=bV 1 2 ψ
def uN(st:ua):R Fl:=(bU 1<|e2 Mj (aA 1)<|e2 Om (eI 1)<|aA 2) st
def À:Bd:=aY (bU 1<|eI 0)<|aY (mV (bb 2) (Wc<|aA 0) uN)<|bW<|aA 1
def kO:bn:=bV 1 3 À
def EN(st:ua):R Fl:=(Rf 3 (aA 4)<|e2 uV (e2 Mj (aM kO<|aC (e2 qb (aA 0)<|aA 4) aK)<|e2 Om (eI 1)<|aA 4)<|aA 1) st
def wL(st:ua):R Fl:=(ud (aM gY<|aC (e2 qb (mR 3)<|aA 4)<|aC (aA 5) aK) (Rf 3 (aA 4)<|e2 Mj (e2 qb (mR 3)<|aA 4)<|e2 qb (mR 3)<|aA 5) cJ) st
def FN(st:ua):R Fl:=(mV (bb 4) (Wc<|aA 2) wL) st
def J9:Bd:=aY (bU 2<|aM cC<|aC (aA 1) aK)<|aY (Tv 3 false)<|aY (mV (bb 4) (Wc<|aA 2) EN)<|aY (mV (bb 5) (Wc<|aA 2) FN)<|Vi [3]<|bW<|aA 3
def lK:bn:=bV 2 6 J9
def J_:Bd:=bW<|aM kO<|aC (e1 Yu<|e1 (iH "Machine" "many")<|aA 0) aK
def nD:bn:=bV 1 1 J_
def K_:Bd:=bW<|e2 qb (aM lK<|aC (e1 (iH "Machine" "steps")<|aA 0)<|aC (aM nD<|aC (aA 0) aK) aK)<|aA 1
def iT:bn:=bV 2 2 K_
def rC(st:ua):R D:=(e2 qb (e1 (iH "Machine" "ranks")<|aA 0)<|aA 5) st
def B6(st:ua):R D:=(aA 4) st
def C6(st:ua):R D:=(e2 gd (e2 gd (e2 oZ (aA 4)<|eI 2)<|eI 0)<|aA 2) st
def Y6:Bd:=aY (bU 3<|e1 KG<|cT [5] (bb 5) (Wc<|aM cC<|aC (aA 1) aK) fK rC)<|bW<|cT [4] (bb 4) (Wc<|aA 3) C6 B6
def pO:bn:=bV 3 6 Y6
def K9:Bd:=aY (bU 2<|aM cC<|aC (aA 1) aK)<|bW<|Ki (e2 eh (e1 jE<|aA 2)<|eI 1)<|e2 jl (e2 qb (aA 2)<|eI 0)<|e2 qb (aA 0)<|e2 qb (aA 2)<|eI 0
def vO:bn:=bV 2 3 K9
def ZM(st:ua):R D:=(aA 6) st
def fN(st:ua):R D:=(aM gY<|aC (e2 qb (aA 2)<|aA 6)<|aC (aA 4) aK) st
def uX(st:ua):R Fl:=(aY (bU 5<|aM kO<|aC (cT [6] (bb 6) (Wc<|aM cC<|aC (e2 qb (aA 2)<|aA 4) aK) fN ZM) aK)<|ud (qY (e2 pZ (aA 5)<|mR 3)<|aM vO<|aC (aA 0)<|aC (aA 5) aK) (oi 3<|aA 5) cJ) st
def J8:Bd:=aY (bU 2<|aM lK<|aC (aA 0)<|aC (aA 1) aK)<|aY (sI 3<|fJ aK)<|aY (mV (bb 4) (Wc<|aM cC<|aC (aA 1) aK) uX)<|Vi [3]<|bW<|aA 3
def tU:bn:=bV 2 7 J8
def L9:Bd:=bW<|aM tU<|aC (e1 (iH "Machine" "steps")<|aA 0)<|aC (aA 1) aK
def gF:bn:=bV 2 2 L9
def vP(st:ua):R D:=(e2 qb (e1 (iH "Machine" "ranks")<|aA 0)<|aA 2) st
def VO:Bd:=aY (ud (e2 gd (aA 1)<|eI 0) pA cJ)<|bW<|e1 Uv<|cT [2] (bb 2) (Wc<|aM cC<|aC (aA 1) aK) fK vP
def sZ:bn:=bV 2 3 VO
def O6(st:ua):R D:=(aA 5) st
def P6(st:ua):R D:=(e2 ip (e2 qb (e1 (iH "Machine" "ranks")<|aA 0)<|aA 5)<|aA 2) st
def oH(st:ua):R D:=(aA 4) st
def oJ(st:ua):R D:=(e2 gd (aM sZ<|aC (aA 0)<|aC (aA 4) aK)<|aA 2) st
def pP:Bd:=aY (bU 3<|aM kO<|aC (cT [5] (bb 5) (Wc<|aM cC<|aC (aA 1) aK) P6 O6) aK) cJ
def Q7:Bd:=sJ pP<|cT [4] (bb 4) (Wc<|aM gF<|aC (aA 0)<|aC (aA 3) aK) oJ oH
def nF:bn:=bV 3 6 Q7
def yF(st:ua):R Fl:=(HA 3<|aM nF<|aC (aA 0)<|aC (aA 1)<|aC (aA 4) aK) st
def Z6:Bd:=aY (sI 3<|fJ aK)<|aY (mV (bb 4) (Wc<|aM pO<|aC (aA 0)<|aC (aA 1)<|aC (aA 2) aK) yF)<|Vi [3]<|bW<|aA 3
def dB:bn:=bV 3 5 Z6
def tV(st:ua):R Fl:=(ud (qY (e2 jl (aA 8)<|aA 2)<|e2 pZ (aA 8)<|mR 3) (aY (Rf 3 (aA 8)<|e2 lB (e2 qb (mR 3)<|aA 6)<|aA 7)<|oi 4<|aA 8) cJ) st
def ON(st:ua):R Fl:=(aY (bU 6<|e2 qb (mR 4)<|aA 5)<|aY (mV (PC [7,8]) (DX (eC<|.str [97,98,99])<|e2 qb (aA 0)<|aA 6) tV)<|bU 5<|e2 lB (aA 5)<|eI 1) st
def yX(st:ua):R D:=(e2 Di (aA 5)<|e1 jE<|mR 4) st
def BO:Bd:=aY (PH 3 (aA 1)<|eC<|.str [])<|aY (sI 4<|fJ<|aC (aA 1) aK)<|aY (bU 5<|eI 0)<|aY (Cv 100000 yX ON)<|Vi [3]<|bW<|aA 3
def uO:bn:=bV 3 9 BO
def oK:Bd:=aY (bU 1<|aM uO<|aC (e1 (iH "Machine" "steps")<|aA 0)<|aC (eI 0)<|aC (e1 Yu<|e1 (iH "Machine" "many")<|aA 0) aK) cJ
def b7:Bd:=sJ oK<|e1 Dv<|aA 1
def pQ:bn:=bV 1 2 b7
def kQ:Bd:=bW<|e2 gd (aM gF<|aC (aA 0)<|aC (aA 1) aK)<|fJ<|aC (aA 1) aK
def Du:bn:=bV 2 2 kQ
def Č:Bd:=aY (ud (uU<|aM gY<|aC (aA 1)<|aC (aA 2) aK) (bW<|eC .Tb) cJ)<|bW<|Zs (aM uO<|aC (e1 (iH "Machine" "steps")<|aA 0)<|aC (aA 2)<|aC (aM cC<|aC (aA 1) aK) aK) (aA 3)<|eC .Tb
def rD:bn:=bV 4 4 Č
def kW(st:ua):R Fl:=(aY (bU 1<|e2 qb (e2 qb (e1 (iH "Machine" "steps")<|aA 0)<|aA 1)<|vm Xz (eC<|.str [97,98,99])<|aC (aA 4) aK)<|oi 3<|aA 1) st
def iJ:Bd:=aY (sI 3<|fJ<|aC (aA 1) aK)<|aY (mV (bb 4) (Wc<|aA 2) kW) cJ
def Q5:Bd:=Gm iJ 3
def dF:bn:=bV 3 5 Q5
def WN(st:ua):R Fl:=(ud (e2 pZ (aA 5)<|bZ "Machine" "rooms_along" dF [] (aA 0)<|aC (aA 2)<|aC (aA 3) aK) (aY (bU 3<|e2 lB (aA 3)<|aM rD<|aC (aA 0)<|aC (aA 1)<|aC (aA 4)<|aC (aA 5) aK)<|bU 4<|aA 5) cJ) st
def ω:Bd:=aY (ud (uU<|aM Du<|aC (aA 0)<|aC (aA 1) aK) pA cJ)<|aY (ud (uU<|aM gY<|aC (aA 1)<|aC (aA 2) aK) pA cJ)<|aY (ud (e2 gd (aM cC<|aC (aA 1) aK)<|fJ<|aC (aA 2) aK) (bW<|e2 qb (eC<|.str [97,98,99])<|vm dA (e2 qb (e1 (iH "Machine" "steps")<|aA 0)<|aA 2)<|aC (aA 2) aK) cJ)<|aY (bU 3<|eC<|.str [])<|aY (bU 4<|aA 2)<|aY (mV (bb 5) (Wc<|aM cC<|aC (aA 1) aK) WN)<|bW<|e2 lB (aA 3)<|aM rD<|aC (aA 0)<|aC (aA 1)<|aC (aA 4)<|aC (aA 2) aK
def wM:bn:=bV 3 6 ω
def CO(st:ua):R D:=(aA 5) st
def DO(st:ua):R D:=(aM gY<|aC (e2 qb (aA 1)<|eI 0)<|aC (e2 qb (aA 5)<|eI 0) aK) st
def EO(st:ua):R D:=(aM wM<|aC (aA 0)<|aC (aA 6)<|aC (aA 3) aK) st
def Á:Bd:=aY (bU 2<|cT [5] (bb 5) (Wc<|aM pQ<|aC (aA 0) aK) DO CO)<|aY (bU 3<|e2 qb (e2 qb (aA 2)<|eI 0)<|eI 0)<|aY (bU 4<|e2 qb (e2 qb (aA 2)<|eI 0)<|eI 1)<|bW<|aj<|aC (aA 4)<|aC (cT [6] (bb 6) (Wc<|aA 1) fK EO) aK
def mF:bn:=bV 2 7 Á
def V5:Bd:=ud (uU<|aM sW<|aC (aA 1)<|aC (e1 (iH "Machine" "many")<|aA 0) aK) pA cJ
def eZ:bn:=bV 2 2 V5
def VE:Bd:=bW<|qY (eB GA<|aA 0)<|e2 gd (vm Az (aA 0)<|aC (VB (eC<|.str [97,98,99]) Yz<|Zz<|aA 1) aK)<|eC<|.str []
def qR:bn:=bV 2 2 VE
def W5:Bd:=ud (uU<|aM qR<|aC (aA 1)<|aC (e1 (iH "Machine" "letters")<|aA 0) aK) pA cJ
def fB:bn:=bV 2 2 W5
def d7:Bd:=aY (YI<|bZ "Machine" "check_room" eZ [] (aA 0)<|aC (aA 1) aK)<|aY (YI<|bZ "Machine" "check_word" fB [] (aA 0)<|aC (aA 2) aK)<|bW<|e2 qb (bZ "Machine" "rooms_along" dF [] (aA 0)<|aC (aA 1)<|aC (aA 2) aK)<|e1 mi<|eI 1
def lW:bn:=bV 3 3 d7
def jA(st:ua):R Fl:=(aY (bU 8<|e2 qb (aM cC<|aC (aA 7) aK)<|eI 0)<|aY (bU 9<|aM rD<|aC (aA 0)<|aC (aA 2)<|aC (aA 6)<|aC (aA 8) aK)<|ud (e2 aq (aA 9)<|eC .Tb) (bW<|aj<|aC (e2 qb (aA 5)<|eI 0)<|aC (e2 qb (e2 qb (aA 5)<|eI 1)<|eI 0)<|aC (aA 9)<|aC (aM wM<|aC (aA 0)<|aC (aA 7)<|aC (aA 8) aK) aK) cJ) st
def jB(st:ua):R Fl:=(aY (bU 5<|aM mF<|aC (aA 0)<|aC (fJ<|aC (aA 4) aK) aK)<|aY (bU 6<|bZ "Machine" "after" lW [] (aA 0)<|aC (eI 0)<|aC (e2 qb (aA 5)<|eI 0) aK)<|mV (bb 7) (Wc<|aA 3) jA) st
def M9:Bd:=aY (bU 2<|aM iT<|aC (aA 0)<|aC (eI 0) aK)<|aY (bU 3<|aM dB<|aC (aA 0)<|aC (aA 2)<|aC (aA 1) aK)<|aY (mV (bb 4) (Wc<|aM dB<|aC (aA 0)<|aC (aA 2)<|aC (uU<|aA 1) aK) jB)<|bW<|eC .Tb
def lL:bn:=bV 2 10 M9
def K8:Bd:=bW<|aM lL<|aC (aA 1)<|aC (eC<|.bl true) aK
def iU:bn:=bV 2 2 K8
def R7:Bd:=bW<|aM lL<|aC (aA 1)<|aC (eC<|.bl false) aK
def jC:bn:=bV 2 2 R7
def f7(st:ua):R D:=(aA 3) st
def i7(st:ua):R D:=(e2 Zf (e2 qb (e1 (iH "Machine" "ranks")<|aA 0)<|aA 3)<|aA 2) st
def L8:Bd:=aY (bU 2<|aM sZ<|aC (aA 0)<|aC (aA 1) aK)<|bW<|aM kO<|aC (cT [3] (bb 3) (Wc<|aM cC<|aC (aA 1) aK) i7 f7) aK
def tW:bn:=bV 2 4 L8
def oQ:Bd:=bW<|e2 gd (e2 oZ (aM sZ<|aC (aA 0)<|aC (aA 1) aK)<|eI 2)<|eI 0
def jJ:bn:=bV 2 2 oQ
def iN(st:ua):R Fl:=(ud (e2 gd (aM jJ<|aC (aA 0)<|aC (aA 5) aK)<|aM jJ<|aC (aA 0)<|aC (aA 1) aK) (oi 3<|aA 5)<|oi 2<|aA 5) st
def kN(st:ua):R Fl:=(aY (eA 4 3 tW<|aA 0)<|mV (bb 5) (Wc<|aM gF<|aC (aA 0)<|aC (aA 4) aK) iN) st
def nN(st:ua):R D:=(e2 Zf (mR 3)<|fJ aK) st
def M8:Bd:=aY (sI 2<|fJ aK)<|aY (sI 3<|fJ<|aC (aA 1) aK)<|aY (Cv 100000 nN kN)<|Vi [2]<|bW<|aA 2
def gG:bn:=bV 2 6 M8
def jD(st:ua):R Fl:=(aY (bU 3<|aM gG<|aC (aA 0)<|aC (aA 2) aK)<|ud (e2 Zf (aA 3)<|fJ aK) (aY (bU 4<|aM mF<|aC (aA 0)<|aC (fJ<|aC (e2 qb (aA 3)<|eI 0)<|aC (aA 2) aK) aK)<|bW<|aj<|aC (e2 qb (aA 4)<|eI 0)<|aC (e2 qb (e2 qb (aA 4)<|eI 1)<|eI 0)<|aC (eC<|.str [])<|aC (e2 qb (e2 qb (aA 4)<|eI 1)<|eI 1) aK) cJ) st
def N9:Bd:=aY (mV (bb 2) (Wc<|aM dB<|aC (aA 0)<|aC (aM iT<|aC (aA 0)<|aC (eI 0) aK)<|aC (aA 1) aK) jD)<|bW<|eC .Tb
def gH:bn:=bV 2 5 N9
def N8:Bd:=aY (bU 2<|aM gH<|aC (aA 1)<|aC (eC<|.bl false) aK)<|bW<|Oj (e2 aq (aA 2)<|eC .Tb) (aA 2)<|aM gH<|aC (aA 1)<|aC (eC<|.bl true) aK
def jQ:bn:=bV 2 3 N8
def L_:Bd:=bW<|aM gH<|aC (aA 1)<|aC (eC<|.bl false) aK
def nG:bn:=bV 2 2 L_
def O8:Bd:=bW<|aM gH<|aC (aA 1)<|aC (eC<|.bl true) aK
def jR:bn:=bV 2 2 O8
def BD(st:ua):R D:=(gW (bZ "EarlyNo" "word" mZ [] (aA 1) aK)<|gW (bZ "EarlyYes" "word" lV [] (aA 1) aK)<|gW (bZ "Settled" "word" nA [] (aA 1) aK)<|gW (bZ "Again" "word" rB [] (aA 1) aK)<|bZ "Lasting" "word" nC [] (aA 1) aK) st
def CD(st:ua):R D:=(e2 nK (gW (bZ "EarlyNo" "bar" iU [] (aA 1)<|aC (aA 0) aK)<|gW (bZ "EarlyYes" "bar" jC [] (aA 1)<|aC (aA 0) aK)<|gW (bZ "Settled" "bar" jQ [] (aA 1)<|aC (aA 0) aK)<|gW (bZ "Again" "bar" nG [] (aA 1)<|aC (aA 0) aK)<|bZ "Lasting" "bar" jR [] (aA 1)<|aC (aA 0) aK)<|eC .Tb) st
def FO:Bd:=cJ
def Α:Bd:=sJ FO<|cT [1] (bb 1) (Wc<|aM uM aK) CD BD
def qF:bn:=bV 1 2 Α
def M_:Bd:=aY (ud (e2 gd (aA 0)<|eI 0) (bW<|Gk "EarlyNo") cJ)<|aY (ud (e2 gd (aA 0)<|eI 1) (bW<|Gk "EarlyYes") cJ)<|aY (ud (e2 gd (aA 0)<|eI 2) (bW<|Gk "Settled") cJ)<|aY (ud (e2 gd (aA 0)<|eI 3) (bW<|Gk "Again") cJ)<|bW<|Gk "Lasting"
def cN:bn:=bV 1 1 M_
def XN(st:ua):R D:=(Oj (aM gY<|aC (aA 1)<|aC (aA 4) aK) (aA 2)<|aA 3) st
def Β:Bd:=bW<|cT [4] (bb 4) (qZ<|e1 (iH "Machine" "many")<|aA 0) fK XN
def qG:bn:=bV 4 5 Β
def WO(st:ua):R Fl:=(bU 1<|e2 Mj (aA 1)<|aA 2) st
def č:Bd:=aY (bU 1<|eI 0)<|aY (mV (bb 2) (Wc<|aA 0) WO)<|bW<|aA 1
def Ku:bn:=bV 1 3 č
def O9(st:ua):R D:=(aA 3) st
def P9(st:ua):R D:=(e2 Zf (e2 uV (e2 qb (aA 2)<|aA 3)<|aA 1)<|eI 0) st
def Γ:Bd:=aY (bU 2<|aM lK<|aC (e1 (iH "Machine" "steps")<|aA 0)<|aC (aM nD<|aC (aA 0) aK) aK)<|bW<|aM kO<|aC (cT [3] (bb 3) (qZ<|e1 (iH "Machine" "many")<|aA 0) P9 O9) aK
def ly:bn:=bV 2 4 Γ
def E6:Bd:=aY (bU 2<|aM nD<|aC (aA 0) aK)<|aY (bU 3<|aM Ku<|aC (aM dB<|aC (aA 0)<|aC (aA 2)<|aC (aA 1) aK) aK)<|bW<|e2 fw (aA 2)<|aM ly<|aC (aA 0)<|aC (aA 3) aK
def jL:bn:=bV 2 4 E6
def Q9:Bd:=bW<|aM jL<|aC (aA 0)<|aC (eC<|.bl true) aK
def vQ:bn:=bV 1 1 Q9
def j6:Bd:=bW<|aM qG<|aC (aA 1)<|aC (aM vQ<|aC (aA 1) aK)<|aC (eI 1)<|aC (eI 0) aK
def fQ:bn:=bV 2 2 j6
def R9:Bd:=bW<|aM jL<|aC (aA 0)<|aC (eC<|.bl false) aK
def vR:bn:=bV 1 1 R9
def X5:Bd:=bW<|aM qG<|aC (aA 1)<|aC (aM vR<|aC (aA 1) aK)<|aC (eI 0)<|aC (eI 1) aK
def gP:bn:=bV 2 2 X5
def m6:Bd:=aY (bU 2<|aM Ku<|aC (aM dB<|aC (aA 1)<|aC (aM iT<|aC (aA 1)<|aC (eI 0) aK)<|aC (eC<|.bl true) aK) aK)<|bW<|aM qG<|aC (aA 1)<|aC (aA 2)<|aC (eI 0)<|aC (eI 1) aK
def iB:bn:=bV 2 3 m6
def P8:Bd:=bW<|aM gF<|aC (aA 0)<|aC (aM iT<|aC (aA 0)<|aC (eI 0) aK) aK
def pI:bn:=bV 1 1 P8
def S9:Bd:=bW<|Oj (e2 gd (e2 gd (e2 oZ (aA 0)<|eI 2)<|eI 0)<|aA 1) (aA 0)<|e2 lB (aA 0)<|eI 1
def vU:bn:=bV 2 2 S9
def QM(rec:bn)(st:ua):R Fl:=(aY (bU 7<|aM rec<|aC (aA 0)<|aC (aA 5)<|aC (aA 2) aK)<|aY (bU 4<|e2 Sv (aA 4)<|e2 lB (e1 iA<|aA 7)<|eI 1)<|gw 3<|aA 7) st
def RM(rec:bn)(st:ua):R Fl:=(fA 3 (aA 6)<|aA 4) st
def GN(rec:bn):Bd:=aY (Tv 3 false)<|aY (bU 4<|aM vU<|aC (aA 2)<|aC (aM jJ<|aC (aA 0)<|aC (aA 1) aK) aK)<|aY (mV (bb 5) (Wc<|aM gG<|aC (aA 0)<|aC (aA 1) aK)<|(QM rec))<|aY (mV (bb 6) (Wc<|aM cC<|aC (aA 1) aK)<|(RM rec))<|Vi [3]<|bW<|aA 3
def pR:Nat->List D->R D
 |0=>bV 3 8 pA
 |n+1=>bV 3 8<|GN<|pR n
def rE:bn:=pR 12
def HN(st:ua):R Fl:=(gw 2<|aM rE<|aC (aA 0)<|aC (aA 3)<|aC (aA 1) aK) st
def JN(st:ua):R D:=(Zs (mR 2) (aA 4)<|aA 1) st
def PN:Bd:=aY (Tv 2 false)<|aY (mV (bb 3) (Wc<|aM pI<|aC (aA 0) aK) HN) cJ
def T9:Bd:=sJ PN<|cT [4] (bb 4) (qZ<|e1 (iH "Machine" "many")<|aA 0) fK JN
def dM:bn:=bV 2 5 T9
def F6:Bd:=bW<|aM dM<|aC (aA 1)<|aC (eI 1) aK
def jM:bn:=bV 2 2 F6
def n6:Bd:=bW<|aM dM<|aC (aA 1)<|aC (eI 0) aK
def iC:bn:=bV 2 2 n6
def Q8:Bd:=aY (ud (e2 aq (gW (bZ "EarlyNo" "bar" iU [] (aA 0)<|aC (aA 1) aK)<|gW (bZ "EarlyYes" "bar" jC [] (aA 0)<|aC (aA 1) aK)<|gW (bZ "Settled" "bar" jQ [] (aA 0)<|aC (aA 1) aK)<|gW (bZ "Again" "bar" nG [] (aA 0)<|aC (aA 1) aK)<|bZ "Lasting" "bar" jR [] (aA 0)<|aC (aA 1) aK)<|eC .Tb) pA cJ)<|bW<|aM eU<|aC (e1 (iH "Machine" "steps")<|aA 1)<|aC (gW (bZ "EarlyNo" "ranks_for" fQ [] (aA 0)<|aC (aA 1) aK)<|gW (bZ "EarlyYes" "ranks_for" gP [] (aA 0)<|aC (aA 1) aK)<|gW (bZ "Settled" "ranks_for" iB [] (aA 0)<|aC (aA 1) aK)<|gW (bZ "Again" "ranks_for" jM [] (aA 0)<|aC (aA 1) aK)<|bZ "Lasting" "ranks_for" iC [] (aA 0)<|aC (aA 1) aK) aK
def bL:bn:=bV 2 2 Q8
def wN(st:ua):R Fl:=(ud (e2 jl (gW (bZ "EarlyNo" "word" mZ [] (aM cN<|aC (aA 2) aK) aK)<|gW (bZ "EarlyYes" "word" lV [] (aM cN<|aC (aA 2) aK) aK)<|gW (bZ "Settled" "word" nA [] (aM cN<|aC (aA 2) aK) aK)<|gW (bZ "Again" "word" rB [] (aM cN<|aC (aA 2) aK) aK)<|bZ "Lasting" "word" nC [] (aM cN<|aC (aA 2) aK) aK)<|aA 1) (aY (bU 3<|gW (bZ "EarlyNo" "marked" bL [] (aM cN<|aC (aA 2) aK)<|aC (aA 0) aK)<|gW (bZ "EarlyYes" "marked" bL [] (aM cN<|aC (aA 2) aK)<|aC (aA 0) aK)<|gW (bZ "Settled" "marked" bL [] (aM cN<|aC (aA 2) aK)<|aC (aA 0) aK)<|gW (bZ "Again" "marked" bL [] (aM cN<|aC (aA 2) aK)<|aC (aA 0) aK)<|bZ "Lasting" "marked" bL [] (aM cN<|aC (aA 2) aK)<|aC (aA 0) aK)<|ud (Ki (e2 Zf (aM qF<|aC (aA 3) aK)<|aA 1)<|qY (e2 Di (aA 2)<|eI 3)<|e2 Zf (e1 (iH "Machine" "ranks")<|gW (bZ "EarlyNo" "marked" bL [] (aM cN<|aC (aA 2) aK)<|aC (aA 3) aK)<|gW (bZ "EarlyYes" "marked" bL [] (aM cN<|aC (aA 2) aK)<|aC (aA 3) aK)<|gW (bZ "Settled" "marked" bL [] (aM cN<|aC (aA 2) aK)<|aC (aA 3) aK)<|gW (bZ "Again" "marked" bL [] (aM cN<|aC (aA 2) aK)<|aC (aA 3) aK)<|bZ "Lasting" "marked" bL [] (aM cN<|aC (aA 2) aK)<|aC (aA 3) aK)<|e1 (iH "Machine" "ranks")<|aA 3) (bW<|eC<|.bl false) cJ) cJ) st
def U9:Bd:=aY (mV (bb 2) (qZ<|eI 5) wN)<|bW<|eC<|.bl true
def vV:bn:=bV 2 4 U9
def uY(rec:bn)(st:ua):R Fl:=(aY (bU 5<|aM rec<|aC (aA 0)<|aC (aA 4)<|aC (aA 2) aK)<|ud (e2 Cn (e1 jE<|aA 5)<|e1 jE<|aA 3) (bU 3<|e2 lB (aA 5)<|fJ<|aC (aA 1) aK) cJ) st
def QN(rec:bn):Bd:=aY (bU 3<|Oj (e2 gd (aM jJ<|aC (aA 0)<|aC (aA 1) aK)<|aA 2) (fJ<|aC (aA 1) aK)<|fJ aK)<|aY (mV (bb 4) (Wc<|aM gG<|aC (aA 0)<|aC (aA 1) aK)<|(uY rec))<|bW<|aA 3
def nH:Nat->List D->R D
 |0=>bV 3 6 pA
 |n+1=>bV 3 6<|QN<|nH n
def pJ:bn:=nH 12
def oM(st:ua):R Fl:=(aY (bU 4<|aM pJ<|aC (aA 0)<|aC (aA 3)<|aC (aA 1) aK)<|ud (e2 eh (e1 jE<|aA 4)<|e1 jE<|aA 2) (bU 2<|aA 4) cJ) st
def S7:Bd:=aY (bU 2<|fJ aK)<|aY (mV (bb 3) (Wc<|aM pI<|aC (aA 0) aK) oM)<|bW<|Oj (e2 Zf (aA 2)<|fJ aK) (aM mF<|aC (aA 0)<|aC (aA 2) aK)<|eC .Tb
def gQ:bn:=bV 2 5 S7
def ų:Bd:=bW<|aj<|aC (aM gQ<|aC (aA 0)<|aC (eC<|.bl true) aK)<|aC (aM gQ<|aC (aA 0)<|aC (eC<|.bl false) aK) aK
def Qy:bn:=bV 1 1 ų
def R8:Bd:=bW<|Oj (e2 nK (aA 0)<|eC .Tb) (eI 0)<|e1 jE<|e2 qb (aA 0)<|eI 1
def pK:bn:=bV 1 1 R8
def T7:Bd:=aY (bU 1<|aM Qy<|aC (aA 0) aK)<|aY (bU 2<|aM pK<|aC (e2 qb (aA 1)<|eI 0) aK)<|aY (bU 3<|aM pK<|aC (e2 qb (aA 1)<|eI 1) aK)<|aY (ud (e2 eh (aA 3)<|aA 2) (bW<|aj<|aC (aM dM<|aC (aA 0)<|aC (eI 1) aK)<|aC (fJ<|aC (e2 qb (aA 1)<|eI 1) aK) aK) cJ)<|aY (ud (e2 eh (aA 2)<|aA 3) (bW<|aj<|aC (aM dM<|aC (aA 0)<|aC (eI 0) aK)<|aC (fJ<|aC (e2 qb (aA 1)<|eI 0) aK) aK) cJ)<|bW<|aj<|aC (aM dM<|aC (aA 0)<|aC (eI 0) aK)<|aC (fJ<|aC (e2 qb (aA 1)<|eI 0)<|aC (e2 qb (aA 1)<|eI 1) aK) aK
def nJ:bn:=bV 1 4 T7
def Â:Bd:=bW<|aM eU<|aC (e1 (iH "Machine" "steps")<|aA 0)<|aC (e2 qb (aM nJ<|aC (aA 0) aK)<|eI 0) aK
def qy:bn:=bV 1 1 Â
def uZ(st:ua):R D:=(e2 qb (e1 (iH "Machine" "ranks")<|aA 2)<|aA 5) st
def vA(st:ua):R D:=(e2 gd (e2 uV (e2 qi (aA 3)<|aA 5)<|eI 1)<|eI 1) st
def S8:Bd:=aY (bU 2<|aM qy<|aC (aA 0) aK)<|aY (bU 3<|aM iI<|aC (aM oA<|aC (e1 (iH "Machine" "steps")<|aA 0) aK)<|aC (eI 255)<|aC (eI 1) aK)<|aY (bU 4<|e1 FI<|cT [5] (bb 5) (qZ<|e1 (iH "Machine" "many")<|aA 0) vA uZ)<|aY (ud (e2 Zf (aM qF<|aC (aA 2) aK)<|aA 1) (bW<|eC<|.bl false) cJ)<|aY (ud (qY (e2 jl (eC<|.str [97,103,97,105,110])<|aA 1)<|qY (e2 pZ (eC<|.str [108,97,115,116,105,110,103])<|aA 1)<|Ki (e2 Di (e2 qb (aA 4)<|eI 0)<|eI 1)<|e2 eh (e2 qb (aA 4)<|e1 mi<|eI 1)<|eI 2) (bW<|eC<|.bl false) cJ)<|bW<|Ki (e2 pZ (eC<|.str [108,97,115,116,105,110,103])<|aA 1)<|e2 ip (e2 qb (aA 4)<|e1 mi<|eI 1)<|eI 1
def tX:bn:=bV 2 6 S8
def pT(st:ua):R D:=(e2 qb (aA 1)<|aA 9) st
def sT(st:ua):R D:=(e2 qb (aA 2)<|aA 9) st
def Ŵ(st:ua):R D:=(e1 Cs<|aA 10) st
def vT(st:ua):R Fl:=(ud (Ki (uU<|aM vV<|aC (aA 6)<|aC (aA 3) aK)<|uU<|aM tX<|aC (aA 6)<|aC (aA 3) aK) (bW<|eC<|.bl false) cJ) st
def bQt:Bd:=aY (FY (PC [7,8])<|aM mY<|aC (aA 0)<|aC (eI 0)<|aC (eI 4) aK)<|aY (bU 1<|fJ<|aC (eC<|.str [101,97,114,108,121,32,110,111])<|aC (eC<|.str [101,97,114,108,121,32,121,101,115])<|aC (eC<|.str [115,101,116,116,108,101,100])<|aC (eC<|.str [97,103,97,105,110])<|aC (eC<|.str [108,97,115,116,105,110,103]) aK)<|aY (bU 2<|aM tR<|aC (aA 7)<|aC (aA 8) aK)<|aY (bU 3<|cT [9] (bb 9) (qZ<|eI 5) sT pT)<|aY (bU 4<|aM eU<|aC (cT [10] (bb 10) (Wc<|aA 7) fK Ŵ)<|aC (e1 Cs<|aA 8) aK)<|aY (bU 5<|aM rA<|aC (aA 7)<|aC (aA 8)<|aC (aM mX<|aC (aA 0)<|aC (eI 5) aK)<|aC (aM mX<|aC (aA 0)<|aC (eI 6) aK) aK)<|aY (ud (Ki (e2 Zf (aM qF<|aC (aA 4) aK)<|aA 3)<|e2 Zf (aM qF<|aC (aA 5) aK)<|aA 3) (bW<|eC<|.bl false) cJ)<|aY (mV (bb 6) (Wc<|fJ<|aC (aA 4)<|aC (aA 5) aK) vT)<|bW<|eC<|.bl true
def Es:bn:=bV 1 11 bQt
end
instance:Coe D Sl:=⟨.v⟩
instance:Coe Int D:=⟨.int⟩
instance:Coe Nat D:=⟨λn=>.int n⟩
@[simp] theorem Ď(x:dL):Io (.lst x)=(Zt x).bind λl=>.ok (.bl<|l.all id):=rfl
@[simp] theorem bPe(x:dL):Cs (.lst x)=.ok (.lst x):=rfl
theorem ď{x:dL}{l:At}(h:x=l.map D.bl)(a:∀b∈l,b=true):Io (.lst x)=.ok (.bl true):=by
 subst h;rw[Ď,oT];simp_all
def Zl(m:Int)(x:ac):Prop:=∀c∈x,97<=c/\(c:Int)<97+m
theorem aH{a b:Bd}{st:ua}{r:R Fl}(h:a st=.ok (.nx st'))(c:b st'=r):aY a b st=r:=by
 simp_all
def fW{a b:Bd}{st:ua}{r:R Fl}(h:a st=.ok (.nx st))(c:b st=r):aY a b st=r:=aH h c
def tD{a b:Bd}{st:ua} (h:a st=.ok (.rt d)):aY a b st=.ok (.rt d):=by
 rw[Ű,h];rfl
def bB{b:Bd} {d:D} (h:ds.length=np) (a:b (ds.map (λd=>some<|.v d)++List.replicate (n-np) none)=.ok (.rt d)):bV np n b ds=.ok d:=by
 rw[mT h,a];rfl
def LV{b:Bd} {st:ua} (h:ds.length=np) (a:b (ds.map (λd=>some<|.v d)++List.replicate (n-np) none)=.ok (.nx st)):bV np n b ds=.ok .Tb:=by
 rw[mT h,a];rfl
def UD(n:Nat):mU 0 n=(List.range n).map λ(k:Nat)=>D.int (k:Int):=by
 refine Rk λk _=>?_
 rw[Int.zero_add]
theorem sy{tg:Tg}{c f:Ex}{st:ua}(g:D->D):∀(ds:dL),(∀d∈ds,∃s1,tg d st=.ok s1/\c s1=.ok (.bl true)/\f s1=.ok (g d))->jX tg c f st ds=.ok (ds.map g)
 |[],_=>rfl
 |d::ds,h=>by
  obtain⟨s1,e1,e2,b⟩:=h d Gb;rw[mW,e1];simp[e2,b,sy g ds λd a=>h d<|mem_cons_of_mem _ a]
theorem aZ{st:ua} (h:f st=.ok d):bU i f st=.ok (.nx<|st.set i d):=by simp_all
def oN{st:ua} (h:f st=.ok (.lst xs)):sI i f st=.ok (.nx<|st.set i<|some<|.o .l xs):=by rw[Ĉ,h,bA]
theorem aJ{r:Ee}{st:ua} {x:R D} (h:r st=.ok ds) (a:p ds=x):aM p r st=x:=by simp_all
theorem aL{op:Wf} {st:ua} {x:D} {z:R D} (b:f st=.ok x) (a:g st=.ok y) (h:op x y=z):e2 op f g st=z:=by simp_all
theorem rW{c:Ex}{a b:Bd}{st:ua}{r:R Fl}(h:c st=.ok (.bl true))(d:a st=r):ud c a b st=r:=by simp_all
theorem iY{c:Ex}{a b:Bd}{st:ua}{r:R Fl}(h:c st=.ok (.bl false))(d:b st=r):ud c a b st=r:=by simp_all
def tE{st:ua}{p q:Bool}(b:f st=.ok (.bl p))(a:p=true->g st=.ok (.bl q)):qY f g st=.ok (.bl<|p&&q):=by
 rw[lT,b];cases p with
 |true=>rw[a rfl];rfl
 |false=>rfl
def Fs{st:ua}{p q:Bool}(b:f st=.ok (.bl p))(a:p=false->g st=.ok (.bl q)):Ki f g st=.ok (.bl<|p||q):=by
 rw[bN9,b];cases p with
 |true=>rfl
 |false=>rw[a rfl];rfl
theorem rF{st:ua}{p:Bool}(a:f st=.ok (.bl p)):uU f st=.ok (.bl<|!p):=by simp_all
theorem bH{st:ua} (h:f st=.ok d):bW f st=.ok (.rt d):=by simp_all
theorem dN{tg:Tg} {L:Bd} {st:ua} {r:R Fl} (h:it st=.ok xs) (a:Eb tg L xs st=r):mV tg it L st=r:=by simp_all
theorem aR{r:Ee}{st:ua}{d:D} (h:f st=.ok d) (a:r st=.ok ds):aC f r st=.ok (d::ds):=by simp_all
def cW{r:Ee}{st:ua} (h:r st=.ok ds) (a:ds.length<=1000:=by exact ck rfl):fJ r st=.ok (.lst ds):=by rw[ū,h,bA,aO<|fY<|ye a<|by decide]
def tH{i j:Int}(h:0<j):oZ (.int i) (.int j)=.ok (.int<|i%j):=aO h
def Zu{i j:Int}(h:0<j/\j<1073741824):Ek (.int i) (.int j)=.ok (.int<|i/j):=aO h
def yZ(i j:Int):gd (.int i) (.int j)=.ok (.bl<|decide (i=j)):=by
 exact aO ⟨qh 64,rfl,rfl⟩
def Fv(i j:Int):Zf (.int i) (.int j)=.ok (.bl<|!decide (i=j)):=by
 exact aO ⟨qh 64,rfl,rfl⟩
def vB{st:ua} (h:f st=.ok d) (a:st[i]?=some (some<|.o .l xs)) (b:xs.length<1000000):oi i f st=.ok (.nx<|st.set i<|some<|.o .l<|xs++[d]):=by
 rw[Ů,h,a];exact aO<|Av<|Aw b<|by decide
theorem yG{st:ua} (h:f st=.ok (.int n)) (a:n<=1000000):qZ f st=.ok ((List.range n).map λ(k:Nat)=>D.int (k:Int)):=by
 rw[Ŭ,h,<-UD];exact aO ⟨Wu (by lia),Up<|by lia⟩
def gJ{E C:Ex}{is:ac}{tg:Tg} {st:ua} (h:it st=.ok xs) (a:xs.length<=1000000) (b:jX tg C E (Wh is st) xs=.ok ys):cT is tg it C E st=.ok (.lst ys):=by
 rw[Ay,h,bA,aO<|fY<|ye a<|by decide,b,bA]
def Lu{c:Ex}{b:Bd}{st:ua} {r:R Fl} (a:c st=.ok (.bl true)) (d:b st=.ok (.nx st')) (e:qC c b n st'=r):qC c b (n+1) st=r:=by
 rwa [AO,a,bA,d]
def Eu{c:Ex}{b:Bd}{st:ua} (a:c st=.ok (.bl false)):qC c b (n+1) st=.ok (.nx st):=by rw[AO,a,bA,zm,Ta ph]
def dI{tg:Tg}{L:Bd}{d:D}{st s1:ua} {r:R Fl} (a:tg d st=.ok s1) (b:L s1=.ok (.nx s2)) (c:Eb tg L ds s2=r):Eb tg L (d::ds) st=r:=by
 rwa [wC,a,bA,b]
theorem fX{i:Int} (h:je xs i=some d):qb (.lst xs) (.int i)=.ok d:=by
 simp_all
theorem GY{p q:Nat}(h:p<q):decide ((p:Int)<(q:Int))=true:=Oc (by lia)
theorem HY{p q:Nat}(h:¬ p<q):decide ((p:Int)<(q:Int))=false:=yd (by lia)
def Hk{r:R D}{p q:Bool}(h:r=.ok (.bl p))(e:p=q):r=.ok (.bl q):=by rw[h,e]
def oW{st:ua} (h:f st=.ok (.lst xs)):Wc f st=.ok xs:=by rw[bNa,h,bA]
def bNg{st:ua} (h:f st=.ok (.lst ys)) (a:st[i]?=some (some<|.o .l xs)) (b:xs.length+ys.length<=big):HA i f st=.ok (.nx<|st.set i<|some<|.o .l<|xs++ys):=by
 rw[ů,h,a];exact aO b
def good(m:Int)(x:ac):Bool:=x.all λc=>decide (97<=c/\(c:Int)<97+m)
def FR{m:Int}{x:ac}:good m x=true↔Zl m x:=by
 unfold good Zl;simp
def yT{m:Int}(b:1<=m)(d:m<=3){c:Nat}:c∈cut [97,98,99] none (some m)↔97<=c/\(c:Int)<97+m:=by
 have a:m=1\/m=2\/m=3:=by omega
 rcases a with rfl|rfl|rfl
 .show c∈[97]↔_;simp;omega
 .show c∈[97,98]↔_;simp;omega
 .show c∈[97,98,99]↔_;simp;omega
theorem RN{b:Type}(p:b->Bool):∀x:List b,x.dropWhile p=[]↔∀c∈x,p c=true
 |[]=>by simp
 |a::x=>by
  cases h:p a with
  |true=>rw[XY h,RN p x];simp[h]
  |false=>rw[YY (by simp[h])];simp[h]
theorem takeWhile_all{b:Type}(p:b->Bool):∀(x:List b)(c:b),c∈x.takeWhile p->p c=true
 |[],c,h=>by simp at h
 |a::x,c,h=>by
  cases d:p a with
  |true=>
   rw[ZY d]at h;rcases Uc.mp h with rfl|h
   .exact d
   .exact takeWhile_all p x c h
  |false=>rw[AZ (by simp[d])]at h;simp at h
def strip_nil(x y:ac):ym x y=[]↔∀c∈x,c∈y:=by
 unfold ym;rw[List.reverse_eq_nil_iff,RN];constructor
 .intro h;have d:∀c∈x.dropWhile (λc=>y.contains c),c∈y:=λc a=>by simpa using h c (by simpa using a)
  have b:∀c∈x.takeWhile (λc=>y.contains c),c∈y:=λc a=>by
   simpa using takeWhile_all (λc=>y.contains c) x c a
  intro c a;rw[<-SY (p:=λc=>y.contains c) (l:=x)]at a
  exact(Pg.mp a).elim (b c) (d c)
 .intro h c a;rw[List.mem_reverse]at a;have:c∈x:=List.IsSuffix.subset (List.dropWhile_suffix _) a;simpa using h c this
def Δ(x:ac)(m:Int)(b:1<=m)(d:m<=3)(h:x.length<=1000000):qR [.str x,.int m]=.ok (.bl<|good m x):=by
 unfold qR VE;have e:(ym x (cut [97,98,99] none<|some m)==[])=good m x:=by
  rw[To,Xk,strip_nil,FR];exact⟨λz c a=>(yT b d).mp<|z c a,λz c a=>(yT b d).mpr<|z c a⟩
 simp[GA,show x.length<=big from fY (by omega),e]
def V9(d:D)(m:D)(a:GA d=false)(b:Mm d=true):qR [d,m]=.ok (.bl false):=by
 unfold qR VE;simp[a,b]
def ba(l:ac):dL:=l.map λ(x:Nat)=>D.int (x:Int)
structure ya(S:am)(rk:ac)(c:Nat):Prop where
 one:1<=S.length
 most:S.length<=8
 c1:1<=c
 c3:c<=3
 row:∀r∈S,r.length=c/\∀x∈r,x<S.length
 Jp:rk.length=S.length
def Rb(S:am):dL:=S.map λr=>D.lst<|ba r
theorem GR{tg:Tg}{c f:Ex}{st:ua}{P:D->D->Prop}:∀(ds:dL),(∀d∈ds,∃s1 y,tg d st=.ok s1/\c s1=.ok (.bl true)/\f s1=.ok y/\P d y)->∃a,jX tg c f st ds=.ok a/\a.length=ds.length/\∀y∈a,∃d∈ds,P d y
 |[],_=>⟨[],rfl,rfl,λ_ h=>nomatch h⟩
 |d::ds,h=>by
  obtain⟨s1,y,e1,e2,i,l⟩:=h d Gb;obtain⟨a,g,e,k⟩:=GR ds λd b=>h d<|Xb _ b
  refine⟨y::a,?_,by simp[e],λz j=>?_⟩
  .rw[mW,e1];simp[e2,i,g]
  grind
theorem Cy{E:Ex}{st:ua}{v:Nat}{xs:dL}(a:st[v]?=some (some<|.v<|.lst xs))(e:xs.length<=100000)(h:∀d∈xs,E ((st.set j none).set j d)=.ok (.bl true)):e1 Io (cT [j] (bb j) (Wc<|aA v) fK E) st=.ok (.bl true):=by
 have e2:xs.map (λ_=>D.bl true)=(xs.map λ_=>true).map D.bl:=by simp
 simp[a,show xs.length<=big from fY (by lia),(sy (tg:=bb j) (c:=fK) _ xs λd c=>⟨_,rfl,rfl,h d c⟩)]
 rw[e2];exact ď rfl λb f=>by simp_all
theorem sQ{E:Ex}{st:ua}{v:Nat}{xs:dL}(a:st[v]?=some (some<|.v<|.lst xs))(c:xs.length<=100000)(h:∀d∈xs,E ((st.set j none).set j d)=.ok d):cT [j] (bb j) (Wc<|aA v) fK E st=.ok (.lst xs):=by
 simp[a,show xs.length<=big from fY (by lia),(sy (tg:=bb j) (c:=fK) id xs λd b=>⟨_,rfl,rfl,h d b⟩)]
def AQ(i:Int):sV [.int i]=.ok (.bl true):=by
 unfold sV RO;simp[isIn,WI]
def BQ{x:Nat}(h:x<n):sW [.int x,.int n]=.ok (.bl true):=by
 unfold sW SO;simp[(AQ x),h]
theorem CQ(xs:dL)(m:Int):gB [.lst xs,.int m]=.ok (.bl<|decide (1<=(xs.length:Int))&&decide ((xs.length:Int)<=m)):=by
 unfold gB zY
 by_cases h:1<=xs.length
 .have h':(1:Int)<=xs.length:=by lia
  simp[Ws,h,h']
 have h':¬ (1:Int)<=xs.length:=by lia
 simp[Ws,h']
def bC(r:ac):(ba r).length=r.length:=by unfold ba;simp
def oO(S:am):(Rb S).length=S.length:=by unfold Rb;simp
def Dy{r:ac} (h:d∈ba r):∃x∈r,d=.int (x:Nat):=by
 obtain⟨x,b,a⟩:=xf.mp h;exact⟨x,b,a.symm⟩
def Ry{S:am} (h:d∈Rb S):∃r∈S,d=.lst (ba r):=by
 obtain⟨x,b,a⟩:=xf.mp h;exact⟨x,b,a.symm⟩
theorem bNh(r:ac)(n:Nat)(h:∀x∈r,x<n)(e:r.length<=1000):By [.lst<|ba r,.int r.length,.int n]=.ok (.bl true):=by
 refine bB rfl ?_
 have c:e2 gd (e1 jE<|aA 0) (aA 1) [D.lst<|ba r,r.length,n,none]=.ok (.bl true):=by simp[bC]
 show bW _ [some _,some _,some _,none]=_;rw[Hr,lT,c,(Cy rfl (by rw[bC];lia) (λd b=>by
  obtain⟨x,a,rfl⟩:=Dy b;simp[UO,BQ<|h x a]))]
 rfl
def mD(S:am)(rk:ac)(c:Nat):D:=.ins "Machine" ["steps","ranks","many","letters"] [.lst<|Rb S,.lst<|ba rk,.int S.length,.int c]
section
def ya.eM(M:ya S rk c):∃r T,S=r::T/\r.length=c:=by
 cases S with
 |nil=>exact absurd M.one (by simp)
 |cons r T=>exact⟨r,T,rfl,(M.row r Gb).1⟩
def ya.HU(M:ya S rk c):∃r,r∈S/\je (Rb S) 0=some (.lst<|ba r)/\r.length=c:=by
 obtain⟨r,T,rfl,h⟩:=M.eM;refine⟨r,Gb,?_,h⟩;simpa [Rb] using (Jc (xs:=Rb<|r::T) (i:=0)<|by simp[Rb])
theorem Đ(M:ya S rk c):yD [.lst<|Rb S]=.ok (.bl true):=by
 obtain⟨h,m,l,i⟩:=M.HU;have o:=M.one;have n:=M.most;have g:=CQ (Rb S) 8;rw[oO]at g;have e:gB [.lst<|Rb S,.int 8]=.ok (.bl true):=by rw[g];congr 2;simp;lia
 refine bB rfl<|fW (by simp[e])<|fW ?_ ?_
 .rw[bNb,Ū,(Cy rfl (by rw[oO];lia) (λd b=>by
  obtain⟨r,a,rfl⟩:=Ry b;have f:=CQ (ba r) 3;rw[bC,(M.row r a).1]at f;have j:=M.c3;have p:=M.c1;simp[MN,f];lia))];rfl
 rw[Hr,(Cy rfl (by rw[oO];lia) (λd b=>by
  obtain⟨r,a,rfl⟩:=Ry b;have j:=M.c3;have k:(ba h).length=r.length:=by rw[bC,i,(M.row r a).1]
  simp[NN,l,k,oO,(bNh r S.length (M.row r a).2<|by rw[(M.row r a).1];lia)]))];rfl
theorem đ(M:ya S rk c):yE [.lst<|ba rk,.int S.length]=.ok (.bl true):=by
 have e:=M.most;have f:=Cy (E:=yW) (st:=[some _,S.length,none]) (j:=2) (v:=0) rfl (by rw[bC,M.Jp];lia) (λd a=>by
  obtain⟨x,b,rfl⟩:=Dy a;simp[yW,AQ])
 refine bB rfl<|fW (by simp[Ws,bC,M.Jp]) ?_
 simp_all
def wO:iH "Machine" "many" (mD S rk c)=.ok (.int S.length):=by unfold mD;rw[yy,aO rfl];rfl
def N_:iH "Machine" "letters" (mD S rk c)=.ok (.int c):=by unfold mD;rw[yy,aO rfl];rfl
def mG:iH "Machine" "steps" (mD S rk c)=.ok (.lst<|Rb S):=by unfold mD;rw[yy,aO rfl];rfl
theorem Sy(M:ya S rk c):eU [.lst<|Rb S,.lst<|ba rk]=.ok (mD S rk c):=by
 obtain⟨g,h,f,b⟩:=M.HU;have j:=M.most;refine ũ λx=>?_
 unfold As;rw[aO<|show ([D.lst<|Rb S,D.lst<|ba rk]).length=2 from rfl]
 have a:lJ [some<|.o (.i x "Machine" []) [],D.lst<|Rb S,D.lst<|ba rk,none]=.ok (.nx [some<|.o (.i x "Machine" ["steps","ranks","many","letters"]) [.lst<|Rb S,.lst<|ba rk,.int S.length,.int c],D.lst<|Rb S,D.lst<|ba rk,none]):=by
  refine fW (by simp[(Đ M)])<|fW (by simp[oO,(đ M)])<|aH (st':=[some<|.o (.i x "Machine" ["steps"]) [.lst<|Rb S],D.lst<|Rb S,D.lst<|ba rk,none]) ?_ ?_
  .rw[ĉ,(sQ rfl (by rw[oO];lia) (λd e=>by
  obtain⟨r,i,rfl⟩:=Ry e;simp[uL]))]
   simp
  refine aH (st':=[some<|.o (.i x "Machine" ["steps","ranks"]) [.lst<|Rb S,.lst<|ba rk],D.lst<|Rb S,D.lst<|ba rk,none]) (by simp)<|aH (st':=[some<|.o (.i x "Machine" ["steps","ranks","many"]) [.lst<|Rb S,.lst<|ba rk,.int S.length],D.lst<|Rb S,D.lst<|ba rk,none]) (by simp[oO]) ?_
  simp[f,bC,b]
 show (lJ [some<|.o (.i x "Machine" []) [],D.lst<|Rb S,D.lst<|ba rk,none]).bind _=_;rw[a];simp[mD]
end
def WE(x:Nat)(l:ac):ba (x::l)=.int (x:Nat)::ba l:=rfl
theorem gZ:∀l:ac,fZ (ba l)=true/\rT (ba l)=0/\pY (ba l) (ba l)=true
 |[]=>⟨rfl,by unfold ba;simp,by unfold ba;simp[pY]⟩
 |x::l=>by
  obtain⟨c,b,a⟩:=gZ l;rw[WE];simp_all
theorem ŵ(l:ac):Zf (.lst<|ba l) (.lst<|ba l)=.ok (.bl false)/\gd (.lst<|ba l) (.lst<|ba l)=.ok (.bl true):=by
 obtain⟨c,b,a⟩:=gZ l;simp_all
section
variable{S:am}{rk:ac}{c:Nat}
def Yc(S:am)(q a:Nat):Nat:=(S.getD q []).getD a 0
def vo(M:ya S rk c){q a:Nat}(b:q<S.length)(g:a<c):∃r,je (Rb S) (q:Int)=some (.lst<|ba r)/\je (ba r) (a:Int)=some (.int<|Yc S q a)/\Yc S q a<S.length:=by
 have f:=M.row S[q] (Fi b);have d:a<S[q].length:=by rw[f.1];exact g
 have e:Yc S q a=S[q][a]:=by
  simp[Yc,getD_eq_getElem?_getD,List.getElem?_eq_getElem b,List.getElem?_eq_getElem d]
 refine⟨S[q],?_,?_,?_⟩
 .rw[Jc (by rw[oO];exact b)];simp[Rb]
 .rw[Jc (by rw[bC];exact d),e];simp[ba]
 .rw[e];exact f.2 _<|Fi d
theorem Ē(h:m<=3){ch:Nat}(b:97<=ch)(a:(ch:Int)<97+m):sH [97,98,99] [ch] 0=some (ch-97):=by
 have:ch=97\/ch=98\/ch=99:=by lia
 rcases this with rfl|rfl|rfl<;>rfl
def Ŷ(M:ya S rk c){q ch:Nat}(a:q<S.length)(d:97<=ch)(b:(ch:Int)<97+c):∃r,je (Rb S) (q:Int)=some (.lst<|ba r)/\je (ba r) (((ch-97:Nat)):Int)=some (.int<|Yc S q<|ch-97)/\Yc S q (ch-97)<S.length:=vo M a (by omega)
def runs(S:am):Nat->List Nat->List Nat
 |_,[]=>[]
 |q,ch::x=>Yc S q (ch-97)::runs S (Yc S q<|ch-97) x
def wQ(S:am):Nat->List Nat->Nat
 |q,[]=>q
 |q,ch::x=>wQ S (Yc S q<|ch-97) x
end
theorem nM:∀(n:Nat)(l:ac),l.Nodup->(∀x∈l,x<n)->l.length<=n
 |0,l,_,h=>by
  cases l with
  |nil=>exact Fc _
  |cons x l=>exact absurd (h x Gb) (by lia)
 |n+1,l,a,h=>by
  have b:=nM n _ (a.erase n) λx c=>by
   grind
  grind
theorem Uy(g:Nat)(l:ac):inD (.int g) (ba l)=decide (g∈l):=by
 unfold inD ba;rw[Bw]
 by_cases h:g∈l
 .rw[Oc h,sq];exact⟨g,h,by simp⟩
 rw[yd h,CB];intro x a;have:¬ (x:Int)=g:=λz=>h (by grind)
 simp[de,this]
def Gv{q:Nat}(a:q<S.length):je (Rb S) (q:Int)=some (.lst<|ba S[q]):=by
 rw[Jc (by rwa [oO])]
 unfold Rb;rw[VJ]
section
variable{S:am}{rk:ac}{c:Nat}
def NF{m:String} {r:Ee} {st:ua} (d:f st=.ok (mD S rk c)) (a:r st=.ok xs) (b:m∉["steps","ranks","many","letters"]):bZ "Machine" m p dv f r st=p (mD S rk c::(xs++dv)):=by
 rw[zy,d,a];exact aO ⟨rfl,b⟩
def bQw(c:Nat):wf
 |.str x=>good c x
 |_=>false
def ē(M:ya S rk c)(d:D)(b:Mm d=true)(a:∀x,d=.str x->x.length<=1000000):qR [d,.int c]=.ok (.bl<|bQw c d):=by
 have f:=M.c1;have e:=M.c3;cases d<;>first|(exact V9 _ _ rfl b)|skip
 exact Δ _ _ (by omega) (by omega)<|a _ rfl
theorem XO(M:ya S rk c)(a t:f8)(i:a=some (.v<|mD S rk c)):∀(x:ac)(q:Nat)(b:ac)(l:f8),q<S.length->Zl c x->b.length+x.length<=1000000->∃d,Eb (bb 4) kW (x.map λch=>D.str [ch]) [a,q,t,some<|.o .l<|ba b,l] =
  .ok (.nx [a,wQ S q x,t,some<|.o .l<|ba<|b++runs S q x,d])
 |[],q,b,l,_,_,_=>⟨l,by simp[wQ,runs]⟩
 |ch::x,q,b,l,h,g,n=>by
  rw[ze]at n;obtain⟨k,j⟩:=g ch Gb;obtain⟨r,e1,e2,o⟩:=Ŷ M h k j;obtain⟨d,e⟩:=XO M a t i x (Yc S q<|ch-97) (b++[Yc S q<|ch-97]) (D.str [ch]) o (λz m=>g z<|Xb _ m) (by rw[af,ah];omega)
  refine⟨d,?_⟩;have f:=Ē M.c3 k j;have p:ba (b++[Yc S q<|ch-97])=ba b++[D.int<|Yc S q<|ch-97]:=by unfold ba;simp
  rw[p]at e;rw[Mf,wC,show runs S q (ch::x)=Yc S q (ch-97)::runs S (Yc S q<|ch-97) x from rfl,show b++Yc S q (ch-97)::runs S (Yc S q<|ch-97) x=b++[Yc S q<|ch-97]++runs S (Yc S q<|ch-97) x by simp,show wQ S q (ch::x)=wQ S (Yc S q<|ch-97) x from rfl,<-e]
  subst i;simp[kW,mG,e1,f,e2,bC,show b.length<big from Av (by omega)]
theorem HR(M:ya S rk c){q:Nat}(d:q<S.length)(x:ac)(b:Zl c x)(g:x.length<=500000):dF [mD S rk c,.int q,.str x]=.ok (.lst<|ba<|q::runs S q x):=by
 obtain⟨a,e⟩:=XO M _ _ rfl x q [q] none d b (by simp;lia)
 refine bB rfl ?_
 have f:iJ [mD S rk c,q,D.str x,none,none]=.ok (.nx [mD S rk c,wQ S q x,D.str x,some<|.o .l<|ba<|[q]++runs S q x,a]):=by
  refine aH (st':=[mD S rk c,q,D.str x,some<|.o .l<|ba [q],none]) (by simp[ba])<|aH (by
   simp[show x.length<=big from fY (by lia)]
   exact e) rfl
 show Gm iJ 3 [some _,some _,some _,none,none]=_;unfold Gm;rw[f];rfl
theorem DQ:∀(x:ac)(q:Nat),(q::runs S q x).getLast?=some (wQ S q x)
 |[],q=>rfl
 |ch::x,q=>by
  rw[show runs S q _=Yc S q _::runs S _ x from rfl,List.getLast?_cons_cons,(DQ x _)]
  rfl
theorem yg{xs:List α}{a:α}(h:xs.getLast?=some a):je xs (-1)=some a:=by
 have b:xs≠[]:=λz=>by rw[z]at h;cases h
 have c:=qB.mpr b;rw[CZ]at h;unfold je vg
 rwa [Ta (by decide),xb (by lia),show ((-1:Int)+xs.length).toNat=xs.length-1 by lia]
def Ã{r:ac}{a:Nat}(h:r.getLast?=some a):(ba r).getLast?=some (.int a):=by
 unfold ba;rw[List.getLast?_map,h];rfl
end
def ir(l:ac):li:=λb=>l.foldl (λb r=>b|||2^r) b
theorem CT(r:Nat):∀(l:ac)(b:Nat),(ir l b).testBit r=(b.testBit r||decide (r∈l))
 |[],b=>by simp[ir]
 |x::l,b=>by
  show (ir l _).testBit r=_;rw[CT r l];grind
def cH(l:ac):Nat:=ir l 0
def dR(l:ac)(r:Nat):(cH l).testBit r=decide (r∈l):=by
 unfold cH;rw[CT,Tt,cK]
def ŷ{a:ac}(h:∀r,r∈l↔r∈a):cH l=cH a:=dk λr=>by
 rw[dR,dR,Qo.mpr<|h r]
def aP(n:Nat):ac:=(List.range<|xZ n).filter λr=>n.testBit r
def JR(h:xZ n<=r):n.testBit r=false:=by
 unfold xZ at h
 by_cases a:(n:Int)=0
 .simp_all
 rw[Ta a]at h;exact RZ<|jg ((Nat.log2_lt<|λz=>a<|by rw[z];rfl).mp<|Ht _)<|HJ (by decide)<|by simpa using h
def aF:r∈aP n↔n.testBit r=true:=by
 unfold aP;rw[Nd,Jd];refine⟨λh=>h.2,λh=>⟨?_,h⟩⟩
 rcases Nat.lt_or_ge r _ with a|a
 .exact a
 rw[JR a]at h;cases h
def gU(n:Nat):cH (aP n)=n:=dk λr=>by
 rw[dR];cases h:n.testBit r with
 |true=>exact Oc<|aF.mpr h
 |false=>exact yd λz=>by rw[aF.mp z]at h;cases h
def kY:r∈aP (cH l)↔r∈l:=by
 rw[aF,dR,Cf]
def aW{k:Nat}(h:n<2^k)(a:r∈aP n):r<k:=by
 rw[aF]at a;rcases Nat.lt_or_ge r k with b|b
 .exact b
 rw[RZ<|jg h<|HJ (by decide) b]at a
 cases a
theorem KR{k:Nat}(h:n<2^k):xZ n<=k:=by
 unfold xZ
 by_cases a:(n:Int)=0
 .simp_all
 rw[Ta a];have:=(Nat.log2_lt<|λz=>a<|by rw[z];rfl).mpr h
 rw[Int.natAbs_natCast];lia
@[simp] theorem Ĕ(i j:Int):Om (.int i) (.int j)=aX (0<=j/\j<=1000000/\i.natAbs<18446744073709551616) (.ok<|.int<|i*2^j.toNat):=rfl
@[simp] theorem ĕ(i j:Int):qi (.int i) (.int j)=aX (0<=j) (.ok<|.int<|i/2^j.toNat):=rfl
@[simp] theorem Ė(i j:Int):uV (.int i) (.int j)=aX (0<=i/\0<=j) (.ok<|.int ((i.toNat&&&j.toNat:Nat):Int)):=rfl
@[simp] theorem Ÿ(i j:Int):Mj (.int i) (.int j)=aX (0<=i/\0<=j) (.ok<|.int ((i.toNat|||j.toNat:Nat):Int)):=rfl
@[simp] theorem bLh(i:Int):Py (.int i)=.ok (.int (xZ i:Nat)):=rfl
theorem LR(n r:Nat):(((n:Int)/2^r).toNat&&&(1:Int).toNat)=if n.testBit r=true then 1 else 0:=by
 grind
theorem Am(n r:Nat):gY [.int n,.int r]=.ok (.bl<|n.testBit r):=by
 have b:=LR n r;have c:0<=(n:Int)/2^r:=Int.ediv_nonneg (by lia)<|Int.pow_nonneg<|by decide
 refine bB rfl ?_
 show bW _ [some _,some _]=_;have a:e2 uV (e2 qi (aA 0)<|aA 1) (eI 1) [n,r]=.ok (.int<|(if n.testBit r=true then 1 else 0:Nat)):=by
  simp_all
 rw[Hr,iq,a];cases n.testBit r<;>simp
theorem iG{tg:Tg}{C E:Ex}{st:ua}{q:no}{G:Nat->D}:∀(a:ac),(∀k∈a,∃s1,tg (.int k) st=.ok s1/\C s1=.ok (.bl<|q k)/\E s1=.ok (G k))->jX tg C E st (ba a)=.ok ((a.filter q).map G)
 |[],_=>rfl
 |k::a,h=>by
  obtain⟨s1,e1,e2,e⟩:=h k Gb;have c:=iG a λk b=>h k<|Xb _ b
  show jX tg C E st (.int k::ba a)=_;rw[mW];cases d:q k with
  |true=>
   simp_all
  |false=>
   simp_all
def VD(n:Nat):mU 0 n=ba (List.range n):=by
 rw[UD];rfl
theorem lX{k:Nat}(h:n<2^k)(b:k<=2000):cC [.int n]=.ok (.lst<|ba<|aP n):=by
 have c:=KR h;refine bB rfl ?_
 show bW _ [some _,none]=_;have a:qZ (e1 Py<|aA 0) [some<|.v<|.int n,none]=.ok (ba<|List.range<|xZ n):=by
  simp[show ((xZ n))<=(big:Int) from Up (by lia)]
  exact VD _
 rw[Hr,Ay,a];simp only[bA,bC,length_range];rw[aO<|fY<|by lia,(iG (q:=λr=>n.testBit r) (G:=λr=>.int r) _<|λr _=>⟨_,rfl,by
  simp[VN,Am n r],by simp[UN]⟩)]
 rfl
theorem EQ(a:f8):∀(l:ac)(b:Nat)(x2:f8),(∀r∈l,r<=1000000)->∃c,Eb (bb 2) uN (ba l) [a,b,x2]=.ok (.nx [a,ir l b,c])
 |[],b,x2,_=>⟨x2,rfl⟩
 |r::l,b,x2,h=>by
  obtain⟨c,e⟩:=EQ a l (b|||2^r) r λr d=>h r<|Xb _ d
  refine⟨c,?_⟩;have d:=h r Gb;have g:((1:Int)*2^(r:Int).toNat)=((2^r:Nat)):=by simp
  have t:uN [a,b,r]=.ok (.nx [a,((b|||2^r:Nat)),r]):=by
   have f:e2 Om (eC<|.int 1) (aA 2) [a,b,r]=.ok (.int<|(2^r:Nat)):=by
    simp only[iq,BX,kT,bA,List.getElem?_cons_succ,List.getElem?_cons_zero];rw[Ĕ,aO ⟨by lia,(by lia),by decide⟩,g]
   unfold uN;rw[ű,iq,f];simp only[kT,bA,List.getElem?_cons_succ,List.getElem?_cons_zero];rw[Ÿ,aO ⟨MJ _,MJ _⟩,dn];rfl
  show (uN [a,b,r]).bind _=_
  rwa [t]
def Ir{l:ac}(h:∀r∈l,r<=1000000)(b:l.length<=1000000):kO [.lst<|ba l]=.ok (.int<|cH l):=by
 obtain⟨a,e⟩:=EQ _ l 0 none h;refine bB rfl<|aH (st':=[some _,some _,none]) rfl<|aH (st':=[some<|.v<|.lst<|ba l,some<|.v _,a]) ?_ rfl
 rwa [Ų]
theorem Ε{k:Nat}(h:n<2^k):(List.range k).filter (λr=>n.testBit r)=aP n:=by
 have c:=KR h;unfold aP;obtain⟨d,rfl⟩:∃d,k=xZ n+d:=⟨k-xZ n,by lia⟩
 have b:((List.range d).map (xZ n + ·)).filter (λr=>n.testBit r)=[]:=YA.mpr λx a=>by
  obtain⟨y,_,rfl⟩:=xf.mp a;rw[JR<|WJ _ _];decide
 rw[List.range_add,List.filter_append,b,dh]
inductive cc (S:am) (c:Nat) (al:no) (s:Nat):Nat->Prop where
 |here:cc S c al s s
 |on {r l:Nat}:cc S c al s r->l<c->al (Yc S r l)=true->cc S c al s (Yc S r l)
def dG(n:Nat):(aP n).Nodup:=List.nodup_range.filter _
theorem mL{l:ac}{k:Nat}(h:∀r∈l,r<k):cH l<2^k:=DZ _ λr a=>by
 rw[dR];exact yd λz=>by have:=h r z;lia
open Classical in
noncomputable def cZ(S:am)(c n r:Nat):Nat:=cH<|(List.range S.length).filter λg=>decide (cc S c (λg=>n.testBit g) r g)
section
def wR(M:ya S rk c) {s g:Nat} (b:s<S.length) (h:cc S c al s g):g<S.length:=by
 induction h with
 |here=>exact b
 |on _ d _ a=>obtain⟨_,_,_,h⟩:=vo M a d;exact h
def Bm{s g:Nat}(a:al s=true)(h:cc S c al s g):al g=true:=by
 cases h with
 |here=>exact a
 |on _ _ b=>exact b
open Classical in
def fU(M:ya S rk c){r:Nat}(a:r<S.length)(g:Nat):(cZ S c n r).testBit g=true↔cc S c (λg=>n.testBit g) r g:=by
 unfold cZ;rw[dR,Cf,Nd,Jd,Cf];exact⟨λh=>h.2,λh=>⟨wR M a h,h⟩⟩
def wU:cZ S c n r<2^S.length:=mL λg a=>Jd.mp (Nd.mp a).1
def uP(M:ya S rk c){a b:Nat}(i:a<S.length):b∈S.getD a []↔∃l,l<c/\Yc S a l=b:=by
 have j:=(M.row S[a] (Fi i)).1;have g:S.getD a []=S[a]:=by rw[ng,Ze i];rfl
 have e:∀l,Yc S a l=S[a].getD l 0:=λl=>by unfold Yc;rw[g]
 rw[g];constructor
 .intro h;obtain⟨l,f,rfl⟩:=qw.mp h;exact⟨l,by omega,by rw[e,ng,Ze f];rfl⟩
 .rintro⟨l,f,rfl⟩;have d:l<S[a].length:=by omega
  rw[e,ng,Ze d];exact Fi d
def cc.trans{a b d:Nat}(i:cc S c al a b)(h:cc S c al b d):cc S c al a d:=by
 induction h with
 |here=>exact i
 |on _ f g e=>exact .on e f g
end
theorem bNi(g:Nat)(l:ac):jl (.int g) (.lst<|ba l)=.ok (.bl<|decide (g∈l)):=by
 obtain⟨p1,p2,_⟩:=gZ l;rw[<-Uy];exact aO ⟨by simp_all,rfl,p1⟩
theorem MV(h:n<=1000000):Om (.int 1) (.int n)=.ok (.int ((2^n:Nat):Int)):=by
 have e:((2^n:Nat))=1*2^(n:Int).toNat:=by simp
 rw[e];exact aO ⟨by lia,by lia,by decide⟩
def vW(a b:Nat):uV (.int a) (.int b)=.ok (.int ((a&&&b:Nat):Int)):=by
 simp
theorem Ey(g:Nat)(l:ac):xW (ba l) (.int g)=decide (g∈l):=by
 unfold xW ba;rw[Bw]
 by_cases h:g∈l
 .rw[Oc h,sq];exact⟨g,h,by simp[bg]⟩
 rw[yd h,CB];intro x a;have:¬ (x:Int)=g:=λz=>h (by grind)
 simp[bg,this]
theorem wV(V:Nat->D){g:Nat}:∀{l:ac},g∈l->ni (ba l) (l.map V) (.int g)=some (V g)
 |[],h=>nomatch h
 |x::l,h=>by
  show ni (.int x::ba l) (V x::l.map V) _=_;unfold ni;rw[xw,List.find?_cons]
  by_cases e:x=g
  .simp[bg,e]
  have:¬ (x:Int)=g:=by lia
  simp only[bg,beq_eq_false_iff_ne.mpr this];exact wV V<|(Uc.mp h).resolve_left λz=>e z.symm
def nO(l:ac)(x:Nat):ba (l++[x])=ba l++[.int x]:=by unfold ba;simp
def Jr{a vs:dL}{g:Nat} (h:ni a vs (.int g)=some d):qb (.Pe false a vs) (.int g)=.ok d:=by
 show aX _ _=_;rw[aO (c:=Pc false _=true) rfl,h];rfl
theorem FQ(S:am):∀(x:ac)(q ch:Nat),wQ S q (x++[ch])=Yc S (wQ S q x) (ch-97)
 |[],_,_=>rfl
 |y::x,q,ch=>FQ S x _ ch
def au(al:no)(a:im)(g:Nat)(w:ac):im:=if al g=true/\g∉a.map (·.1) then a++[(g,w)] else a
structure BM(S:am)(s c:Nat)(al:no)(p j:Nat)(oa:im):Prop where
 nd:(oa.map (·.1)).Nodup
 hd:s∈oa.map (·.1)
 lt:∀x∈oa,x.1<S.length/\Zl c x.2
 pt:∀x∈oa,wQ S s x.2=x.1/\cc S c al s x.1
 ii:∀(k:Nat)(x:wE),oa[k]?=some x->x.2.length<=k
 cls:∀(i:Nat)(x:wE)(l:Nat),oa[i]?=some x->l<c->(i<p\/(i=p/\l<j))->al (Yc S x.1 l)=true->Yc S x.1 l∈oa.map (·.1)
section
variable{S:am}{rk:ac}{s c p j:Nat}{al:no}{oa:im}
def BM.start(b:s<S.length):BM S s c al 0 0 [(s,[])] where
 nd:=by simp
 hd:=by simp
 lt:=λx a=>by rw[Od.mp a];exact⟨b,λ_ h=>nomatch h⟩
 pt:=λx a=>by rw[Od.mp a];exact⟨rfl,.here⟩
 ii:=λk x a=>by
  have:=Gj a;rw[Od.mp this];exact qh _
 cls:=λi x l _ _ h=>by omega
def BM.next(b:BM S s c al p c oa):BM S s c al (p+1) 0 oa:=⟨b.nd,b.hd,b.lt,b.pt,b.ii,λi x l d a e=>b.cls i x l d a<|by omega⟩
def BM.turn(M:ya S rk c)(b:BM S s c al p j oa){x:wE}(a:oa[p]?=some x)(g:j<c):BM S s c al p (j+1) (au al oa (Yc S x.1 j)<|x.2++[97+j]):=by
 have A:=(zg.mp a).1;obtain⟨x1,m⟩:=b.lt x<|Gj a;unfold au
 by_cases h:al (Yc S x.1 j)=true/\Yc S x.1 j∉oa.map (·.1)
 .rw[xb h];obtain⟨_,_,_,q⟩:=vo M x1 g;refine⟨?_,by rw[Gi];exact Kh _ b.hd,λy hy=>?_,λy hy=>?_,λk y hy=>?_,λi y l hy hl t ha=>?_⟩
  .rw[Gi];exact Zm.mpr ⟨b.nd,by simp,λu o v d e=>h.2 (by
    rw[List.map_singleton,Od]at d;have d:v=Yc S x.1 j:=d;rw[<-d,<-e];exact o)⟩
  .rcases Pg.mp hy with hy|hy
   .exact b.lt y hy
   .rw[Od.mp hy];refine⟨q,λz hz=>?_⟩
    rcases Pg.mp hz with hz|hz
    .exact m z hz
    .rw[Od.mp hz];exact⟨by omega,by omega⟩
  .rcases Pg.mp hy with hy|hy
   .exact b.pt y hy
   .rw[Od.mp hy,FQ,(b.pt x<|Gj a).1,Nat.add_sub_cancel_left];exact⟨rfl,.on (b.pt x<|Gj a).2 g h.1⟩
  .by_cases r:k<oa.length
   .rw[Um r]at hy;exact b.ii k y hy
   .have B:=Gj hy;have w:=b.ii p x a;rw[pw (by omega)]at hy
    rw[Od.mp<|Gj hy,af,ah];omega
  .rw[Gi];have n:i<oa.length:=by omega
   rw[Um n]at hy
   by_cases f:i=p/\l=j
   .obtain⟨rfl,rfl⟩:=f;rw[a]at hy;cases hy;exact Ag _ (by simp)
   .exact Kh _ (b.cls i y l hy hl (by omega) ha)
 .rw[Ta h];refine⟨b.nd,b.hd,b.lt,b.pt,b.ii,λi y l hy hl t ha=>?_⟩
  by_cases f:i=p/\l=j
  .obtain⟨rfl,rfl⟩:=f;rw[a]at hy;cases hy;exact bj λz=>h ⟨ha,z⟩
  .exact b.cls i y l hy hl (by omega) ha
def BM.whole(b:BM S s c al oa.length 0 oa){g:Nat}(h:cc S c al s g):g∈oa.map (·.1):=by
 induction h with
 |here=>exact b.hd
 |on _ f j d=>
  obtain⟨x,e,rfl⟩:=xf.mp d;obtain⟨i,a⟩:=xt.mp e;exact b.cls i x _ a f (.inl (zg.mp a).1) j
def BM.len(b:BM S s c al p j oa):oa.length<=S.length:=by
 have h:=b.nd;have a:∀x∈oa.map (·.1),x∈List.range S.length:=λx d=>by
  obtain⟨y,e,rfl⟩:=xf.mp d;exact Jd.mpr (b.lt y e).1
 have:=nM S.length (oa.map (·.1)) h λx d=>Jd.mp<|a x d
 rwa [Kd]at this
def kD(a:im):dL:=a.map λx=>D.int (x.1:Nat)
def Bz(a:im):(kD a).length=a.length:=by unfold kD;simp
def NV(a:im)(g:Nat)(w:ac):kD (a++[(g,w)])=kD a++[.int g]:=by unfold kD;simp
def bQx{k:Nat}{x:wE}(h:oa[k]?=some x):je (kD oa) (k:Int)=some (.int x.1):=by
 have a:=(zg.mp h).1;rw[Jc (by rw[Bz];exact a)]
 unfold kD;rw[VJ,(zg.mp h).2]
def bNj{g:Nat}{w:ac}{k:Nat}{x:wE}(h:oa[k]?=some x):(au al oa g w)[k]?=some x:=by
 unfold au;split
 .rw[Um (zg.mp h).1];exact h
 .exact h
def Cz(g:Nat)(a:im):xW (kD a) (.int g)=decide (g∈a.map (·.1)):=by
 unfold xW kD;rw[Bw]
 by_cases h:g∈a.map (·.1)
 .rw[Oc h,sq];obtain⟨x,b,e⟩:=xf.mp h;exact⟨x,b,by simp[bg,e]⟩
 .rw[yd h,CB];intro x b;have:¬ (x.1:Int)=(g:Int):=λz=>h (xf.mpr ⟨x,b,by omega⟩)
  simp[bg,this]
end
def wD(a:im):dL:=a.map λx=>D.str x.2
def QH(c:(oa.map (·.1)).Nodup){x:wE}(b:x∈oa):ni (kD oa) (wD oa) (.int x.1)=some (.str x.2):=by
 unfold ni kD wD;rw[List.zip_map',List.find?_map];have:oa.find? ((λp:D×D=>bg p.1<|.int x.1) ∘ λa=>(D.int (a.1:Nat),D.str a.2))=some x:=by
  induction oa with
  |nil=>cases b
  |cons y oa d=>
   rw[List.find?_cons];rw[Mf,dj]at c;rcases Uc.mp b with rfl|b
   .simp[bg]
   .have:¬ (y.1:Int)=(x.1:Int):=λz=>c.1 (xf.mpr ⟨x,b,by omega⟩)
    simp only[Function.comp,bg,beq_eq_false_iff_ne.mpr this];exact d c.2 b
 rw[this];rfl
section
variable{S:am}{rk:ac}{s c p j:Nat}{al:no}{oa:im}
def lh(S:am)(s:Nat)(e:ac)(a:im)(p:Nat)(d c b:f8):ua:=
 [some<|.v<|.lst<|Rb S,some<|.v<|.int s,some<|.v<|.lst<|ba e,some<|.o (.d false<|kD a)<|wD a,some<|.o .l<|kD a,some<|.v<|.int p,d,c,b]
def bNk(a:im):(wD a).length=a.length:=by unfold wD;simp
def bNl(a:im)(g:Nat)(w:ac):wD (a++[(g,w)])=wD a++[.str w]:=by unfold wD;simp
def Ä(M:ya S rk c)(a:ac)(b:BM S s c (λg=>decide (g∈a)) p j oa){x:wE}(d:oa[p]?=some x)(ch g:Nat) :
  tV (lh S s a oa p x.1 (D.str [ch]) g)=.ok (.nx<|lh S s a (au (λg=>decide (g∈a)) oa g<|x.2++[ch]) p x.1 (D.str [ch]) g):=by
 have o:=M.most;have q:=b.len;have r:=b.ii p x d;have u:p<oa.length:=(zg.mp d).1;obtain⟨p1,p2,_⟩:=gZ a;have k:e2 jl (aA 8) (aA 2) (lh S s a oa p x.1 (D.str [ch]) g)=.ok (.bl<|decide (g∈a)):=aL rfl rfl (by rw[<-Uy];exact aO ⟨by rw[p2];decide,rfl,p1⟩)
 have i:e2 pZ (aA 8) (mR 3) (lh S s a oa p x.1 (D.str [ch]) g)=.ok (.bl (!decide (g∈oa.map (·.1)))):=aL rfl rfl (by rw[<-Cz];exact aO rfl)
 have t:=tE k λ_=>i
 unfold au
 by_cases h:decide (g∈a)=true/\g∉oa.map (·.1)
 .rw[xb h];rw[h.1,yd h.2]at t;have f:xW (kD oa) (.int g)=false:=by rw[Cz,yd h.2]
  have n:zT (kD oa) (.int g)=kD (oa++[(g,x.2++[ch])]):=by
   unfold zT;rw[f,NV];rfl
  have m:zU (kD oa) (wD oa) (.int g) (.str<|x.2++[ch])=wD (oa++[(g,x.2++[ch])]):=by
   unfold zU;rw[f,bNl];rfl
  refine rW t<|aH (st':=[D.lst<|Rb S,s,D.lst<|ba a,some<|.o (.d false<|kD<|oa++[(g,x.2++[ch])])<|wD<|oa++[(g,x.2++[ch])],some<|.o .l<|kD oa,p,x.1,D.str [ch],g]) ?_ ?_
  .have e:e2 lB (e2 qb (mR 3)<|aA 6) (aA 7) (lh S s a oa p x.1 (D.str [ch]) g)=.ok (.str<|x.2++[ch]):=by
    refine aL (x:=.str x.2) (y:=.str [ch]) (aL rfl rfl ?_) rfl<|aO<|fY<|by show x.2.length+1<=_;omega
    show aX (Pc false (.int x.1)=true) (yi<|ni (kD oa) (wD oa)<|.int x.1)=_;rw[aO (c:=Pc false (.int x.1)=true) rfl,QH b.nd<|Gj d];rfl
   unfold Rf;rw[e,<-n,<-m];exact aO ⟨rfl,Av<|by rw[bNk];omega⟩
  .rw[vB (xs:=kD oa) (d:=.int g) rfl rfl (by rw[Bz];omega),<-NV oa g (x.2++[ch])]
   rfl
 .rw[Ta h];refine iY (Hk t ?_) rfl;cases l:decide (g∈a) with
  |false=>rfl
  |true=>rw[Oc<|bj λz=>h ⟨l,z⟩];rfl
theorem YO(M:ya S rk c)(a:ac):∀(m j:Nat) (d:im) (k i:f8) (x:wE),j+m=c->BM S s c (λg=>decide (g∈a)) p j d->d[p]?=some x->
  ∃h o n,Eb (PC [7,8]) tV ((List.range' j m).map λl=>D.tup [.str [97+l],.int<|Yc S x.1 l]) (lh S s a d p x.1 k i)=.ok (.nx<|lh S s a h p x.1 o n)/\BM S s c (λg=>decide (g∈a)) p c h/\h[p]?=some x
 |0,j,d,k,i,x,q,b,f=>⟨d,k,i,rfl,by rw[show c=j by omega]at b ⊢; exact b,f⟩
 |m+1,j,d,k,i,x,q,b,f=>by
  obtain⟨h,o,n,e,r,t⟩:=YO M a m (j+1) _ (D.str [97+j]) (Yc S x.1 j) x (by omega) (b.turn M f<|by omega)<|bNj f
  refine⟨h,o,n,?_,r,t⟩;rw[List.range'_succ,Mf,wC];show (tV<|lh S s a d p x.1 (D.str [97+j])<|Yc S x.1 j).bind _=_;rw[Ä M a b f];exact e
def Ź(M:ya S rk c){h:Nat}(g:h<S.length):Ej [97,98,99] (ba S[h])=(List.range' 0 c).map λl=>D.tup [.str [97+l],.int<|Yc S h l]:=by
 have f:=(M.row S[h] (Fi g)).1;have e:∀l,Yc S h l=S[h].getD l 0:=λl=>by simp[Yc,getD_eq_getElem?_getD,List.getElem?_eq_getElem g]
 have j:=M.c1;have i:=M.c3;simp only[e];generalize S[h]=r at f
 match r,f with
 |[],f=>simp at f;omega
 |[a],f=>subst f;rfl
 |[a,b],f=>subst f;rfl
 |[a,b,d],f=>subst f;rfl
 |_::_::_::_::r,f=>simp at f;omega
theorem ZO(M:ya S rk c)(d:ac):∀(m p:Nat) (a:im) (n k j:f8) (f:Nat),S.length+1<=m+p->m<=f->BM S s c (λg=>decide (g∈d)) p 0 a->p<=a.length->
  ∃l t q o,qC yX ON f (lh S s d a p n k j)=.ok (.nx<|lh S s d l l.length t q o)/\BM S s c (λg=>decide (g∈d)) l.length 0 l
 |0,p,a,n,k,j,f,C,D,b,B=>by have:=b.len;omega
 |m+1,p,a,n,k,j,f,C,D,b,B=>by
  obtain⟨f,rfl⟩:∃g,f=g+1:=⟨f-1,by omega⟩
  have i:yX (lh S s d a p n k j)=.ok (.bl<|decide ((p:Int)<((kD a).length:Nat))):=aL rfl rfl rfl;rw[Bz]at i
  by_cases h:p<a.length
  .have r:a[p]?=some a[p]:=Ze h;generalize a[p]=x at r;obtain⟨u,_⟩:=b.lt x<|Gj r;obtain⟨l,q,o,e,G,H⟩:=YO M d c 0 a k j x (by omega) b r
   have A:p<l.length:=(zg.mp H).1;obtain⟨z,y,w,v,E,F⟩:=ZO M d m (p+1) l x.1 q o f (by omega) (by omega) G.next (by omega)
   refine⟨z,y,w,v,Lu (Hk i<|GY h) (st':=lh S s d l (p+1) x.1 q o) ?_ E,F⟩;refine aH (st':=lh S s d a p x.1 k j) (aZ<|aL rfl rfl<|fX<|bQx r)<|aH (st':=lh S s d l p x.1 q o) (dN (xs:=Ej [97,98,99]<|ba S[x.1]) ?_ ?_)<|aZ rfl
   .show ((e2 qb (aA 0)<|aA 6)<|lh S s d a p x.1 k j).bind _=_;rw[aL (rfl:aA 0 (lh S s d a p x.1 k j)=.ok (.lst<|Rb S)) rfl<|fX<|Gv u];rfl
   .rw[Ź M u];exact e
  .have:p=a.length:=by omega
   subst this;exact⟨a,n,k,j,Eu<|Hk i<|HY h,b⟩
def LG(M:ya S rk c){s:Nat}(j:s<S.length)(d:ac):∃a,uO [.lst<|Rb S,.int s,.lst<|ba d]=.ok (.Pe false (kD a)<|wD a)/\BM S s c (λg=>decide (g∈d)) a.length 0 a:=by
 have k:=M.most;obtain⟨a,i,h,f,e,b⟩:=ZO M d (S.length+1) 0 [(s,[])] none none none 100000 (by omega) (by omega) (BM.start j) (by simp)
 refine⟨a,bB rfl ?_,b⟩;unfold BO;refine aH (st':=[D.lst<|Rb S,s,D.lst<|ba d,some<|.o (.d false<|kD [(s,[])])<|wD [(s,[])],none,none,none,none,none]) (by simp[PH,FA,atom,kD,wD])<|aH (st':=[D.lst<|Rb S,s,D.lst<|ba d,some<|.o (.d false<|kD [(s,[])])<|wD [(s,[])],some<|.o .l<|kD [(s,[])],none,none,none,none]) (by simp[kD])<|aH (st':=lh S s d [(s,[])] 0 none none none) (by simp[lh])<|aH (st':=lh S s d a a.length i h f) (by rw[ϻ];exact e) ?_
 simp[lh,br]
end
def Wn(a:im):dL:=a.map λx=>D.tup [.int (x.1:Nat),.str x.2]
theorem OV:∀a:im,List.zipWith (λk d=>D.tup [k,d]) (kD a) (wD a)=Wn a
 |[]=>rfl
 |x::l=>congrArg (D.tup [.int (x.1:Nat),.str x.2] :: ·)<|OV l
def ź(a:im):(Wn a).length=a.length:=by unfold Wn;rw[Kd]
section
variable{S:am}{rk:ac}{c:Nat}{oa:im}
abbrev bSy(S:am)(c:Nat)(a:im):Prop:=BM S 0 c (λg=>decide (g∈List.range S.length)) a.length 0 a
def Ζ(M:ya S rk c):∃a,pQ [mD S rk c]=.ok (.lst<|Wn a)/\bSy S c a:=by
 have g:=M.most;obtain⟨a,e,b⟩:=LG M (show 0<S.length from M.one)<|List.range S.length
 have h:=b.len;refine⟨a,bB rfl ?_,b⟩;have f:oK [mD S rk c,none]=.ok (.nx [mD S rk c,D.Pe false (kD a)<|wD a]):=by
  refine aH (st':=[mD S rk c,D.Pe false (kD a)<|wD a]) (aZ<|aJ (aR (show iH "Machine" "steps" (mD S rk c)=_ from mG)<|aR rfl<|aR (d:=.lst<|ba<|List.range S.length) ?_ rfl) e) rfl
  show R.bind (iH "Machine" "many"<|mD S rk c) Yu=_;rw[wO,bA,<-(show mU 0 S.length=ba (List.range S.length) by rw[UD];rfl)]
  exact aO ⟨Wu (by omega),Up<|by omega⟩
 show sJ oK (e1 Dv<|aA 1) [mD S rk c,none]=_;unfold sJ;rw[f];show R.bind (aX ((kD a).length<=big)<|.ok<|D.lst<|List.zipWith (λk d=>D.tup [k,d]) (kD a)<|wD a) _=_
 rw[aO<|fY<|by rw[Bz];omega,OV]
 rfl
end
inductive Pw (B:wp) (K:Nat->Prop):Nat->Nat->Prop where
 |one {a b:Nat}:B a b->Pw B K a b
 |mid {a m b:Nat}:K m->Pw B K a m->Pw B K m b->Pw B K a b
theorem Pw.cut{B:wp}{K g:Nat->Prop}{k a b:Nat}(l:∀m,g m->K m\/m=k)(h:Pw B g a b):Pw B K a b\/(Pw B K a k/\Pw B K k b):=by
 induction h with
 |one h=>exact .inl<|.one h
 |mid c _ _ j f=>
  rename_i a m b _ _;rcases l m c with c|rfl
  .rcases j with x|⟨x1,i⟩
   .rcases f with y|⟨e,d⟩
    .exact .inl (.mid c x y)
    exact .inr ⟨.mid c x e,d⟩
   rcases f with y|⟨e,d⟩
   .exact .inr ⟨x1,.mid c i y⟩
   simp_all
  grind
def Pw.mono{B:wp}{K c:Nat->Prop}{a b:Nat}(g:∀m,K m->c m)(h:Pw B K a b):Pw B c a b:=by
 induction h with
 |one h=>exact .one h
 |mid f _ _ e d=>exact .mid (g _ f) e d
def rG(V:li)(m:Nat):li:=λr=>if (V r).testBit m=true then V r|||V m else V r
theorem DT{B:wp}{R:Nat->Prop}(o:∀a b,R a->B a b->R b):∀(d ds:ac)(V:li),(∀k∈d,R k)->(∀r,R r->∀g,(V r).testBit g=true↔Pw B (· ∈ ds) r g)->∀r,R r->∀g,((d.foldl rG V) r).testBit g=true↔Pw B (· ∈ ds++d) r g
 |[],ds,V,_,h,r,c,g=>by rw[dh];exact h r c g
 |k::d,ds,V,l,h,r,c,g=>by
  have e:ds++k::d=(ds++[k])++d:=by simp
  rw[e];refine DT o d _ _ (λx n=>l x<|Xb _ n) (λr c g=>?_) r c g
  have i:∀{a b:Nat},Pw B _ a b->Pw B (· ∈ ds++[k]) a b:=λz=>z.mono λm f=>Kh _ f
  unfold rG
  by_cases j:(V r).testBit k=true
  .rw[xb j,Zo,Wt,h r c g,h k (l k Gb) g];constructor
   .rintro(z|z)
    .exact i z
    exact .mid (by simp) (i<|(h r c k).mp j)<|i z
   intro z;rcases z.cut (λm f=>by simpa using f) with y|⟨_,y⟩
   .exact .inl y
   exact .inr y
  rw[Ta j,h r c g];constructor
  .exact i
  intro z;rcases z.cut (λm f=>by simpa using f) with y|⟨y,_⟩
  .exact y
  exact absurd ((h r c k).mpr y) j
section
variable{S:am}{rk:ac}{c n:Nat}
def vM(S:am)(n:Nat):li:=λr=>(cH (S.getD r [])|||2^r)&&&n
def ė{g:Nat}:(vM S n r).testBit g=true↔(r=g\/g∈S.getD r [])/\n.testBit g=true:=by
 unfold vM;rw[ik,Zo,dR,Nat.testBit_two_pow,fj,Wt,Cf,Cf];exact⟨λh=>⟨h.1.symm,h.2⟩,λh=>⟨h.1.symm,h.2⟩⟩
def Å(M:ya S rk c)(o:n<2^S.length) (e:r∈aP n) (g:Nat):(((aP n).foldl rG<|vM S n) r).testBit g=true↔cc S c (λg=>n.testBit g) r g:=by
 have m:=DT (B:=λa b=>(a=b\/b∈S.getD a [])/\n.testBit b=true) (R:=(· ∈ aP n)) (λa b _ h=>aF.mpr h.2) (aP n) [] (vM S n) (λk u=>u) (λr _ g=>by
  rw[ė];constructor
  .exact λh=>.one h
  .intro h;cases h with
   |one h=>exact h
   |mid h _ _=>cases h) r e g
 rw[m,Vt];clear m;constructor
 .intro h;have v:∀{a b:Nat},Pw (λa b=>(a=b\/b∈S.getD a [])/\n.testBit b=true) (· ∈ aP n) a b->a∈aP n->cc S c (λg=>n.testBit g) a b:=by
   intro a b h
   induction h with
   |one h=>
    intro d;obtain⟨rfl|i,w⟩:=h
    .exact .here
    .obtain⟨l,f,rfl⟩:=(uP M<|aW o d).mp i;exact .on .here f w
   |mid t _ _ s q=>exact λd=>cc.trans (s d)<|q t
  exact v h e
 .intro h
  induction h with
  |here=>exact .one ⟨.inl rfl,aF.mp e⟩
  |on i f d p=>
   have j:_∈aP n:=aF.mpr<|Bm (al:=λg=>n.testBit g) (aF.mp e) i
   exact .mid j p<|.one ⟨.inr<|(uP M<|aW o j).mpr ⟨_,f,rfl⟩,d⟩
def Ę(M:ya S rk c)(d:n<2^S.length) (b:r∈aP n):((aP n).foldl rG<|vM S n) r=cZ S c n r:=dk λg=>by
 have e:=(Å M d b g).trans (fU M (aW d b) g).symm;cases a:(((aP n).foldl rG<|vM S n) r).testBit g with
 |true=>exact(e.mp a).symm
 |false=>
  cases f:(cZ S c n r).testBit g with
  |true=>rw[e.mpr f]at a;cases a
  |false=>rfl
def Vy(a b:Nat):Mj (.int a) (.int b)=.ok (.int ((a|||b:Nat):Int)):=by
 simp
def si(S:am)(n:Nat)(a:ac)(V:li)(x4 b:f8):ua:=[some<|.v<|.lst<|Rb S,some<|.v<|.int n,some<|.v<|.lst<|ba<|aP n,some<|.o (.d false<|ba a)<|a.map λr=>D.int (V r:Nat),x4,b]
def MG{V:li}{r:Nat}{x:D}(a:r∉ks):zT (ba ks) (.int r)=ba (ks++[r])/\zU (ba ks) (ks.map λr=>D.int (V r:Nat)) (.int r) x=(ks.map λr=>D.int (V r:Nat))++[x]:=by
 have b:xW (ba ks) (.int r)=false:=by rw[Ey,yd a]
 unfold zT zU;rw[b,nO];exact⟨rfl,rfl⟩
theorem ET{V:li}{r x:Nat}(a:r∈ks):zT (ba ks) (.int r)=ba ks/\zU (ba ks) (ks.map λr=>D.int (V r:Nat)) (.int r) (.int x)=ks.map λk=>D.int ((if k=r then x else V k:Nat):Int):=by
 have b:xW (ba ks) (.int r)=true:=by rw[Ey,Oc a]
 unfold zT zU;rw[b];refine⟨rfl,?_⟩;unfold ba;rw[List.zip_map',Jj];refine Rk λk _=>?_
 show (if bg _ _=true then D.int x else D.int _)=_
 by_cases e:k=r
 .rw[xb e,xb (by rw[e];simp[bg])]
 have:¬ (k:Int)=r:=by lia
 rw[Ta e,Ta (by simp[bg,this])]
theorem NG{st:ua}{k:D}{a vs:dL}(h:f st=.ok d)(e:g st=.ok k)(b:st[i]?=some (some<|.o (.d false a) vs))(c:Pc false k=true)(j:vs.length<1000):Rf i g f st=.ok (.nx<|st.set i<|some<|.o (.d false<|zT a k)<|zU a vs k d):=by
 unfold Rf;rw[h,e,b];exact aO ⟨c,Av<|by lia⟩
theorem GQ(M:ya S rk c):∀(b a:ac)(x4:f8),(a++b).Nodup->(∀r∈a++b,r<S.length)->∃h,Eb (bb 4) EN (ba b) (si S n a (vM S n) x4 none)=.ok (.nx<|si S n (a++b) (vM S n) h none)
 |[],a,x4,_,_=>⟨x4,by rw[dh];rfl⟩
 |r::b,a,x4,d,f=>by
  have q:=M.most;have j:a++r::b=(a++[r])++b:=by simp
  rw[j]at d f;obtain⟨h,e⟩:=GQ M b (a++[r]) r d f;refine⟨h,?_⟩;rw[j];have m:r∉a:=λz=>(Zm.mp (Zm.mp d).1).2.2 r z r (Od.mpr rfl) rfl
  have i:r<S.length:=f r (by simp)
  have s:a.length<=S.length:=nM S.length a (Zm.mp (Zm.mp d).1).1 λx g=>f x (by simp[g])
  have o:S.getD r []=S[r]:=by rw[ng,Ze i];rfl
  have k:=M.row S[r] (Fi i);have t:=M.c3;have p:=Ir (l:=S[r]) (λx g=>by have:=k.2 x g;omega) (by rw[k.1];omega)
  obtain⟨p1,p2⟩:=MG (V:=vM S n) (x:=.int (vM S n r:Nat)) m;refine dI rfl (s2:=si S n (a++[r]) (vM S n) r none) ?_ e;have l:e2 uV (e2 Mj (aM kO<|aC (e2 qb (aA 0)<|aA 4) aK)<|e2 Om (eI 1)<|aA 4) (aA 1) (si S n a (vM S n) r none)=.ok (.int (vM S n r:Nat)):=by
   unfold vM;rw[o];exact aL (aL (aJ (aR (aL rfl rfl<|fX<|Gv i) rfl) p) (aL rfl rfl<|MV<|by omega)<|Vy _ _) rfl<|vW _ _
  refine(NG l rfl rfl rfl<|by rw[Kd];omega).trans ?_
  rw[p1,p2];unfold si;rw[Gi];rfl
def Æ{V:li} (f:ks.length<1000) (b:r∈ks) (d:m∈ks):wL (si S n ks V (some<|.v<|.int r)<|some<|.v<|.int m)=.ok (.nx<|si S n ks (λk=>if k=r then rG V m r else V k) (some<|.v<|.int r)<|some<|.v<|.int m):=by
 have c:e2 qb (mR 3) (aA 4) (si S n ks V (some<|.v _)<|some<|.v<|.int m)=.ok _:=aL rfl rfl<|Jr<|wV _ b;have t:=aJ (aR c<|show aC (aA 5) aK _=.ok [.int m] from rfl)<|Am (V r) m
 by_cases a:(V r).testBit m=true
 .rw[a]at t;obtain⟨p1,p2⟩:=ET b;refine rW t ((NG (aL c (aL rfl rfl<|Jr<|wV _ d)<|Vy _ _) rfl rfl rfl<|by rw[Kd];omega).trans ?_)
  rw[p1,p2];unfold rG;rw[xb a];rfl
 rw[mm.mpr a]at t;refine iY t ?_
 have:(λk=>if k=r then rG V m r else V k)=V:=funext λk=>by
  by_cases e:k=r
  .rw[xb e,e];unfold rG;rw[Ta a]
  rw[Ta e]
 rw[this];rfl
theorem HQ{c:ac}{V:li}{m:Nat}(s:c.length<1000)(q:m∈c):∀(b:ac)(W:li)(x4:f8),(∀r∈b,r∈c)->W m=V m->(∀r∈b,W r=V r\/W r=rG V m r)->∃d l,Eb (bb 4) wL (ba b) (si S n c W x4 m)=.ok (.nx<|si S n c d l m)/\∀r,d r=if r∈b then rG V m r else W r
 |[],W,x4,_,_,_=>⟨W,x4,rfl,λr=>by rw[Ta (by simp)]⟩
 |r::b,W,x4,p,f,o=>by
  have i:rG W m r=rG V m r:=by
   rcases o r Gb with h|h
   .unfold rG;rw[h,f]
   unfold rG at h ⊢;rw[h,f]
   by_cases j:(V r).testBit m=true
   .rw[xb j]
    by_cases t:(V r|||V m).testBit m=true
    .rw[xb t,Nat.or_assoc,Nat.or_self]
    rw[Ta t]
   rw[Ta j,Ta j]
  have g:rG V m m=V m:=by
   unfold rG;split
   .exact Nat.or_self _
   rfl
  obtain⟨d,l,e,h⟩:=HQ s q b (λk=>if k=r then rG W m r else W k) r (λx a=>p x<|Xb _ a) (by
   by_cases e:m=r
   .rw[xb e,i,<-e,g]
   rw[Ta e,f]) (λx a=>by
   by_cases e:x=r
   .rw[xb e,i,e];exact .inr rfl
   rw[Ta e];exact o x<|Xb _ a)
  refine⟨d,l,dI rfl (Æ s (p r Gb) q) e,λx=>?_⟩
  rw[h x]
  by_cases a:x∈b
  .rw[xb a,xb<|Xb _ a]
  rw[Ta a]
  by_cases e:x=r
  .rw[xb e,xb (by rw[e];exact Gb),i,e]
  rw[Ta e,Ta (by simp[e,a])]
def bP{a:ac}{V:li}(h:∀k∈a,V k=W k):si S n a V x4 x5=si S n a W x4 x5:=by
 unfold si;rw[Rk λk b=>congrArg (λx:Nat=>D.int x)<|h k b]
theorem IQ(d:(aP n).length<1000):∀(a:ac)(V:li)(x4 b:f8),(∀m∈a,m∈aP n)->∃p q,Eb (bb 5) FN (ba a) (si S n (aP n) V x4 b)=.ok (.nx<|si S n (aP n) (a.foldl rG V) p q)
 |[],V,x4,b,_=>⟨x4,b,rfl⟩
 |m::a,V,x4,b,c=>by
  obtain⟨W,i,e,h⟩:=HQ d (c m Gb) _ V x4 (λr l=>l) rfl λr _=>.inl rfl
  obtain⟨g,f,s⟩:=IQ d a _ i _ λx j=>c x<|Xb _ j
  refine⟨g,f,dI rfl (dN rfl e) ?_⟩
  rwa [bP λk o=>by rw[h k,xb o]]
def MR(M:ya S rk c)(a:n<2^S.length):lK [.lst<|Rb S,.int n]=.ok (.Pe false (ba<|aP n)<|(aP n).map λr=>D.int (cZ S c n r:Nat)):=by
 have j:=M.most;have g:=lX a (by omega)
 have l:(aP n).length<=S.length:=nM S.length _ (dG _) λx b=>aW a b
 obtain⟨x4,e1⟩:=GQ (n:=n) M (aP n) [] none (dG n) λr d=>aW a d
 obtain⟨i,h,e2⟩:=IQ (S:=S) (n:=n) (by omega) (aP n) (vM S n) x4 none λm e=>e
 refine bB rfl<|aH (st':=[D.lst<|Rb S,n,D.lst<|ba<|aP n,none,none,none]) (aZ<|aJ rfl g)<|aH (st':=si S n [] (vM S n) none none) rfl<|aH (dN rfl e1)<|aH (dN rfl e2) ?_;rw[bP λk f=>Ę M a f]
 rfl
end
noncomputable def fV(S:am)(c n r:Nat):Nat:=cH<|(aP<|cZ S c n r).filter λg=>(cZ S c n g).testBit r
def Qb(S:am)(m:Nat):Bool:=decide (1<(aP m).length)||decide ((aP m).headD 0∈S.getD ((aP m).headD 0) [])
noncomputable def eV(S:am)(c n:Nat):ac:=(aP n).foldl (λps r=>if fV S c n r∉ps/\Qb S (fV S c n r)=true then ps++[fV S c n r] else ps) []
section
variable{S:am}{rk:ac}{c n:Nat}
def Wy{n:Nat}:fV S c n r<2^S.length:=mL λg a=>aW wU (Nd.mp a).1
def ę(M:ya S rk c) (e:m<2^S.length) (j:m≠0):vO [.lst<|Rb S,.int m]=.ok (.bl<|Qb S m):=by
 have k:=M.most;have f:=lX e (by omega)
 obtain⟨r,T,a⟩:∃r T,aP m=r::T:=by
  cases h:aP m with
  |nil=>
   refine absurd ?_ j;have:=gU m;rw[h]at this;exact this.symm
  |cons r T=>exact⟨r,T,rfl⟩
 rw[a]at f;have d:r<S.length:=aW e (by rw[a];exact Gb)
 refine bB rfl<|aH (st':=[D.lst<|Rb S,m,D.lst<|ba<|r::T]) (aZ<|aJ rfl f)<|bH ?_;have g:e1 jE (aA 2) [D.lst<|Rb S,m,D.lst<|ba<|r::T]=.ok (.int ((T.length+1:Nat):Int)):=by
  show R.ok (D.int (((ba<|r::T).length:Nat):Int))=_;rw[bC];rfl
 have b:e2 qb (aA 2) (eI 0) [D.lst<|Rb S,m,D.lst<|ba<|r::T]=.ok (.int r):=aL rfl rfl<|fX<|Jc (i:=0)<|by rw[bC];exact Nat.succ_pos _
 have i:S.getD r []=S[r]:=by rw[ng,Ze d];rfl
 have t:=Fs (aL g (rfl:eC (.int 1) _=_) (rfl:eh _ _=_)) λ_=>aL b (aL (rfl:aA 0 _=.ok (.lst<|Rb S)) b<|fX<|Gv d)<|bNi r S[r]
 refine Hk t ?_
 unfold Qb;rw[a];show (decide ((1:Int)<((T.length+1:Nat):Int))||decide (r∈S[r]))=(decide (1<T.length+1)||decide (r∈S.getD r []))
 rw[i];congr 1;exact Qo.mpr (by omega)
noncomputable def Xn(S:am)(c n:Nat)(ps:ac)(x4 a:f8):ua:=[some<|.v<|.lst<|Rb S,some<|.v<|.int n,some<|.v<|.Pe false (ba<|aP n)<|(aP n).map λr=>D.int (cZ S c n r:Nat),some<|.o .l<|ba ps,x4,a,none]
def Η(M:ya S rk c)(q:n<2^S.length) (e:r∈aP n) (ps:ac) (p:ps.length<=1000) (b:f8):∃y,uX (Xn S c n ps r b)=.ok (.nx<|Xn S c n (if fV S c n r∉ps/\Qb S (fV S c n r)=true then ps++[fV S c n r] else ps) r y):=by
 have C:=M.most;have m:=aW q e;have d:=aF.mp e;have A:=lX (wU (S:=S) (c:=c) (n:=n) (r:=r)) (by omega)
 have f:∀g∈aP (cZ S c n r),g∈aP n:=λg a=>aF.mpr<|Bm (al:=λg=>n.testBit g) d<|(fU M m g).mp<|aF.mp a
 have l:∀{g:Nat},g∈aP n->ni (ba<|aP n) ((aP n).map λr=>D.int (cZ S c n r:Nat)) (.int g)=some (.int (cZ S c n g:Nat)):=λ{g} h=>wV (λr=>D.int (cZ S c n r:Nat)) h
 have E:(aP<|cZ S c n r).length<=S.length:=nM S.length _ (dG _) λx o=>aW wU o
 have v:=iG (tg:=bb 6) (C:=fN) (E:=ZM) (st:=Xn S c n ps r b) (q:=λg=>(cZ S c n g).testBit r) (G:=λg=>.int g) (aP<|cZ S c n r)<|λg a=>⟨_,rfl,aJ (aR (aL rfl rfl<|Jr<|l<|f g a) rfl)<|Am (cZ S c n g) r,rfl⟩
 have s:Wc (aM cC<|aC (e2 qb (aA 2)<|aA 4) aK) (Xn S c n ps r b)=.ok (ba<|aP<|cZ S c n r):=oW<|aJ (aR (aL rfl rfl<|Jr<|l e) rfl) A;have w:=gJ (is:=[6]) s (by rw[bC];omega) v
 have j:kO [.lst<|ba<|(aP<|cZ S c n r).filter λg=>(cZ S c n g).testBit r]=.ok (.int<|fV S c n r):=Ir (λg a=>by have:=aW wU (Nd.mp a).1;omega) (by have:=Ro (λg=>(cZ S c n g).testBit r)<|aP<|cZ S c n r;omega)
 have B:fV S c n r≠0:=λz=>by
  have:(fV S c n r).testBit r=true:=by
   unfold fV;rw[dR,Cf,Nd];have k:(cZ S c n r).testBit r=true:=(fU M m r).mpr .here;exact⟨aF.mpr k,k⟩
  rw[z,Tt]at this;cases this
 have i:=ę M (Wy (S:=S) (c:=c) (n:=n) (r:=r)) B;obtain⟨p1,p2,_⟩:=gZ ps;refine⟨some<|.v<|.int<|fV S c n r,aH (st':=Xn S c n ps r<|fV S c n r) (aZ<|aJ (aR w rfl) j) ?_⟩;have t:=tE (st:=Xn S c n ps r<|fV S c n r) (aL (f:=aA 5) (g:=mR 3) rfl rfl<|show pZ (.int<|fV S c n r) (.lst<|ba ps)=.ok (.bl<|!decide (fV S c n r∈ps)) by rw[<-Uy];exact aO ⟨by rw[p2];exact qh 60,rfl,p1⟩) λ_=>aJ (r:=aC (aA 0)<|aC (aA 5) aK) rfl i
 by_cases h:fV S c n r∉ps/\Qb S (fV S c n r)=true
 .rw[xb h];refine rW (Hk t<|by rw[yd h.1,h.2];rfl) ?_
  rw[vB (xs:=ba ps) (d:=.int<|fV S c n r) rfl rfl (by rw[bC];omega),<-nO]
  rfl
 .rw[Ta h];refine iY (Hk t ?_) rfl;cases u:Qb S (fV S c n r) with
  |false=>rw[Nt]
  |true=>rw[Oc<|bj λz=>h ⟨z,u⟩];rfl
theorem dP(M:ya S rk c)(e:n<2^S.length):∀(a:ac)(ps:ac)(x4 b:f8),(∀r∈a,r∈aP n)->ps.length+a.length<=1000->∃k d,Eb (bb 4) uX (ba a) (Xn S c n ps x4 b)=.ok (.nx<|Xn S c n (a.foldl (λps r=>if fV S c n r∉ps/\Qb S (fV S c n r)=true then ps++[fV S c n r] else ps) ps) k d)
 |[],ps,x4,b,_,_=>⟨x4,b,rfl⟩
 |r::a,ps,x4,b,h,j=>by
  rw[ze]at j;obtain⟨d,e1⟩:=Η M e (h r Gb) ps (by omega) b
  obtain⟨g,f,e2⟩:=dP M e a (if fV S c n r∉ps/\Qb S (fV S c n r)=true then ps++[fV S c n r] else ps) r d (λr i=>h r<|Xb _ i) (by
   split
   .rw[af,ah];omega
   .omega)
  exact⟨g,f,dI rfl e1 e2⟩
def O_(M:ya S rk c)(a:n<2^S.length):tU [.lst<|Rb S,.int n]=.ok (.lst<|ba<|eV S c n):=by
 have i:=M.most;have d:=lX a (by omega)
 have j:(aP n).length<=S.length:=nM S.length _ (dG _) λx b=>aW a b
 obtain⟨g,f,e⟩:=dP M a (aP n) [] none none (λ_ h=>h) (by simp;omega)
 exact bB rfl<|aH (aZ<|aJ rfl<|MR M a)<|aH (st':=Xn S c n [] none none) (oN<|cW rfl)<|aH (dN (oW<|aJ rfl d) e) rfl
def Fy(M:ya S rk c)(a:n<2^S.length):gF [mD S rk c,.int n]=.ok (.lst<|ba<|eV S c n):=
 bB rfl (bH<|aJ (aR (mG) rfl)<|O_ M a)
def qH:iH "Machine" "ranks" (mD S rk c)=.ok (.lst<|ba rk):=by unfold mD;rw[yy,aO rfl];rfl
theorem Kr:∀(l m:ac),pY (ba l) (ba m)=decide (l=m)
 |[],[]=>by simp[ba,pY]
 |[],y::m=>by simp[ba]
 |x::l,[]=>by simp[ba]
 |x::l,y::m=>by
  rw[WE,WE];unfold pY;rw[Kr l m]
  by_cases h:x=y
  .simp_all
  have:¬ (x:Int)=y:=by lia
  simp[de,h,this]
def cc.mono(m:∀g,al g=true->Pk g=true){a b:Nat}(h:cc S c al a b):cc S c Pk a b:=by
 induction h with
 |here=>exact .here
 |on _ e f d=>exact .on d e<|m _ f
def Ie(n:Nat):no:=λg=>n.testBit g
def Qh(S:am)(c n a b:Nat):Prop:=cc S c (Ie n) a b/\cc S c (Ie n) b a
def lM(M:ya S rk c){g:Nat}(b:r<S.length):(fV S c n r).testBit g=true↔Qh S c n r g:=by
 unfold fV;rw[dR,Cf,Nd,aF,fU M b];constructor
 .rintro⟨a,d⟩;exact⟨a,(fU M (wR M b a) r).mp d⟩
 .rintro⟨a,d⟩;exact⟨a,(fU M (wR M b a) r).mpr d⟩
def NR(M:ya S rk c){g:Nat}(i:r<S.length)(h:cc S c (Ie n) r g)(b:cc S c (Ie n) g r):cc S c (Ie<|fV S c n r) r g:=by
 induction h with
 |here=>exact .here
 |on j a d e=>
  rename_i y l;have f:cc S c (Ie n) y r:=cc.trans (.on .here a d) b;exact .on (e f) a<|(lM M i).mpr ⟨.on j a d,b⟩
def Qh.symm{a b:Nat}(h:Qh S c n a b):Qh S c n b a:=⟨h.2,h.1⟩
theorem Qh.trans{a b d:Nat}(f:Qh S c n a b)(e:Qh S c n b d):Qh S c n a d:=⟨cc.trans f.1 e.1,cc.trans e.2 f.2⟩
def OR(M:ya S rk c){g:Nat}(b:r<S.length)(h:Qh S c n r g):fV S c n g=fV S c n r:=dk λx=>by
 have d:=wR M b h.1;have e:(fV S c n g).testBit x=true↔(fV S c n r).testBit x=true:=by
  rw[lM M d,lM M b];exact⟨λz=>h.trans z,λz=>h.symm.trans z⟩
 cases a:(fV S c n g).testBit x with
 |true=>exact(e.mp a).symm
 |false=>
  cases f:(fV S c n r).testBit x with
  |true=>rw[e.mpr f]at a;cases a
  |false=>rfl
def Tc(S:am)(c n:Nat):Prop:=n≠0/\(∀a∈aP n,∀b∈aP n,cc S c (Ie n) a b)/\Qb S n=true
theorem PR(f:li)(q:no):∀(a ps:ac)(m:Nat),m∈a.foldl (λps r=>if f r∉ps/\q (f r)=true then ps++[f r] else ps) ps↔m∈ps\/∃r∈a,f r=m/\q m=true
 |[],ps,m=>by simp
 |r::a,ps,m=>by
  rw[kn,PR f q a];grind
def mH:m∈eV S c n↔∃r∈aP n,fV S c n r=m/\Qb S m=true:=by
 unfold eV;rw[PR (λr=>fV S c n r)<|Qb S]
 simp
theorem QR(f:li)(q:no)(m:Nat):∀(a:ac),(∀r∈a,f r=m)->a.foldl (λps r=>if f r∉ps/\q (f r)=true then ps++[f r] else ps) [m]=[m]
 |[],_=>rfl
 |r::a,h=>by
  rw[kn,Ta λz=>z.1 (by rw[h r Gb];simp)]
  exact QR f q m a λr b=>h r<|Xb _ b
def OG(M:ya S rk c) (b:n<2^S.length) (a:r∈aP n) {g:Nat} (d:g∈aP (fV S c n r)):g∈aP n:=by
 have h:=(lM M<|aW b a).mp<|aF.mp d;exact aF.mpr<|Bm (al:=Ie n) (aF.mp a) h.1
def Ě(M:ya S rk c) (b:n<2^S.length) (a:r∈aP n):r∈aP (fV S c n r):=aF.mpr<|(lM M<|aW b a).mpr ⟨.here,.here⟩
def Ç(M:ya S rk c)(k:n<2^S.length):eV S c n=[n]↔Tc S c n:=by
 constructor
 .intro h;have o:n∈eV S c n:=by rw[h];simp
  obtain⟨r,d,e,j⟩:=mH.mp o;have m:=aW k d;exact⟨(λz=>by rw[z]at d;cases d),λa q b p=>cc.trans ((lM M m).mp<|by rw[e];exact aF.mp q).2 ((lM M m).mp<|by rw[e];exact aF.mp p).1,j⟩
 rintro⟨t,i,j⟩;have all:∀r∈aP n,fV S c n r=n:=λr d=>dk λg=>by
  have e:(fV S c n r).testBit g=true↔n.testBit g=true:=by
   rw[lM M<|aW k d];constructor
   .exact λz=>Bm (aF.mp d) z.1
   exact λz=>⟨i r d g<|aF.mpr z,i g (aF.mpr z) r d⟩
  cases f:(fV S c n r).testBit g with
  |true=>exact(e.mp f).symm
  |false=>
   cases s:n.testBit g with
   |true=>rw[e.mpr s]at f;cases f
   |false=>rfl
 unfold eV;cases h:aP n with
 |nil=>
  refine absurd ?_ t;have:=gU n;rw[h]at this;exact this.symm
 |cons r T=>
  rw[h]at all;have l:=all r Gb;rw[kn,xb ⟨by simp,by rwa [l]⟩,l,Vt]
  exact QR (λr=>fV S c n r) (Qb S) n T λr d=>all r<|Xb _ d
def XE(M:ya S rk c) (g:n<2^S.length) (f:r∈aP n) (k:Qb S (fV S c n r)=true):Tc S c (fV S c n r):=by
 have d:=aW g f;refine⟨(λz=>by have:=Ě M g f;rw[z,aF,Tt]at this;cases this),λa ha b hb=>?_,k⟩
 have e:=(lM M d).mp<|aF.mp ha;have i:=(lM M d).mp<|aF.mp hb;have j:=wR M d e.1;have h:=NR (n:=n) M j e.2 e.1;rw[OR M d e]at h;exact cc.trans h<|NR M d i.1 i.2
def FT(M:ya S rk c){m:Nat}(k:n<2^S.length)(j:Tc S c m)(i:∀g∈aP m,g∈aP n)(e:r∈aP m):∀g∈aP m,g∈aP (fV S c n r):=λg d=>by
 have f:∀{a b:Nat},cc S c (Ie m) a b->cc S c (Ie n) a b:=λh=>cc.mono (λg d=>aF.mp<|i g<|aF.mpr d) h
 exact aF.mpr<|(lM M<|aW k<|i r e).mpr ⟨f<|j.2.1 r e g d,f<|j.2.1 g d r e⟩
end
def QG{l:jp}(h:l≠[]):Jk l∈l/\∀x∈l,x<=Jk l:=by
 cases l with
 |nil=>exact(h rfl).elim
 |cons i r=>
  obtain⟨c,b,a⟩:=UE r i;refine⟨?_,λx hx=>?_⟩
  .rcases a with a|a
   .show r.foldl _ i∈_;rw[a];exact Gb
   exact Xb _ a
  rcases Uc.mp hx with rfl|hx
  .exact c
  exact b x hx
section
variable{S:am}{rk:ac}{c n:Nat}
def lN(rk:ac)(n:Nat):Int:=Jk<|(aP n).map λr=>(rk.getD r 0:Int)
theorem RH(M:ya S rk c)(a:n<2^S.length)(e:n≠0):sZ [mD S rk c,.int n]=.ok (.int<|lN rk n):=by
 have t:=M.most;have u:=nM S.length _ (dG _) λx j=>aW a j
 have v:0<(aP n).length:=by
  cases h:aP n with
  |nil=>
   refine absurd ?_ e;have:=gU n;rw[h]at this;exact this.symm
  |cons r T=>simp
 have f:=sy (tg:=bb 2) (c:=fK) (f:=vP) (st:=[some<|.v<|mD S rk c,some<|.v<|.int n,none]) (λd=>match d with|.int i=>.int (rk.getD i.toNat 0)|d=>d) (ba<|aP n) λd o=>by
  obtain⟨r,k,rfl⟩:=Dy o;have g:r<rk.length:=by rw[M.Jp];exact aW a k
  have s:je (ba rk) r=some (.int<|rk.getD r 0):=by
   rw[Jc (by rwa [bC])]
   simp[ba,getD_eq_getElem?_getD,List.getElem?_eq_getElem g]
  refine⟨_,rfl,rfl,?_⟩;simp[vP,qH,s]
 have q:(ba<|aP n).map (λd=>match d with|.int i=>D.int (rk.getD i.toNat 0)|d=>d)=((aP n).map λr=>(rk.getD r 0:Int)).map D.int:=by
  unfold ba;simp
 rw[q]at f;have p:cT [2] (bb 2) (Wc<|aM cC<|aC (aA 1) aK) fK vP [some<|.v<|mD S rk c,some<|.v<|.int n,none]=.ok (.lst<|((aP n).map λr=>(rk.getD r 0:Int)).map D.int):=by
  have m:Wc (aM cC<|aC (aA 1) aK) [some<|.v<|mD S rk c,some<|.v<|.int n,none]=.ok (ba<|aP n):=by simp[(lX a<|by lia)]
  rw[Ay,m];simp only[bA,bC];rw[aO<|fY<|by lia,show Wh [2] [some<|Sl.v<|mD S rk c,some<|.v<|.int n,none]=[some<|.v<|mD S rk c,some<|.v<|.int n,none] from rfl,f]
  rfl
 refine bB rfl ?_
 unfold VO;have b:¬ n=0:=by lia
 refine fW (by simp[b,e]) ?_
 show bW _ [some<|.v<|mD S rk c,some<|.v<|.int n,none]=_;rw[Hr,DI,p];have l:Uv (.lst<|((aP n).map λr=>(rk.getD r 0:Int)).map D.int)=.ok (.int<|lN rk n):=by
  show (wH _).bind _=_;rw[sO,bA,aO (by rwa [Kd])]
  rfl
 rw[bA,l];rfl
end
section
def Θ(M:ya S rk c)(a:n<2^S.length):Du [mD S rk c,.int n]=.ok (.bl<|decide (eV S c n=[n])):=by
 obtain⟨p1,p2,_⟩:=gZ<|eV S c n;refine bB rfl ?_
 unfold kQ;have e1:[D.int n]=ba [n]:=rfl;simp[(Fy M a),p1,p2];rw[e1,(Kr _ [n])]
def Ż(M:ya S rk c)(a:n<2^S.length)(b:n≠0):jJ [mD S rk c,.int n]=.ok (.bl<|decide (lN rk n%2=0)):=by
 have e:=RH M a b;refine bB rfl ?_
 unfold oQ
 by_cases h:lN rk n%2=0
 .simp[e,h]
 simp[e,h]
end
def iw{a b n r:Nat}{st:ua}(g:st[a]?=some (some<|.v<|.int (n:Int)))(f:st[b]?=some (some<|.v<|.int (r:Int))):(e2 gd (e2 uV (e2 qi (aA a)<|aA b)<|eC<|.int 1)<|eC<|.int 1) st=.ok (.bl<|n.testBit r):=by
 have e:=LR n r;have h:0<=(n:Int)/2^r:=Int.ediv_nonneg (by omega)<|Int.pow_nonneg<|by decide
 have d:e2 qi (aA a) (aA b) st=.ok (.int<|(n:Int)/2^r):=by simp[g,f]
 have c:e2 uV (e2 qi (aA a)<|aA b) (eC<|.int 1) st=.ok (.int ((if n.testBit r=true then 1 else 0:Nat):Int)):=by
  rw[iq,d,bA,BX,bA,Ė,aO ⟨h,by decide⟩,e]
 rw[iq,c];cases n.testBit r<;>simp
section
def sub_len{l m:ac}(e:l.Nodup)(c:∀x∈l,x∈m)(he:l.length=m.length){x:Nat}(b:x∈m):x∈l:=by
 refine bj λd=>?_
 have:(x::l).length<=m.length:=TY (dj.mpr ⟨d,e⟩) λy a=>by
  rcases Uc.mp a with rfl|a
  .exact b
  .exact c y a
 rw[ze]at this;omega
def bNm{m o:Nat}:o|||m=o↔∀g∈aP m,g∈aP o:=by
 constructor
 .intro h g a;rw[aF]at a ⊢;rw[<-h,Zo,a,Bool.or_true]
 .intro h;refine dk λg=>?_
  rw[Zo];cases b:m.testBit g with
  |false=>rw[Bool.or_false]
  |true=>rw[aF.mp<|h g<|aF.mpr b];rfl
def Dz{m o:Nat}(b:∀g∈aP m,g∈aP o)(a:∀g∈aP o,g∈aP m):m=o:=by
 rw[<-gU m,<-gU o];exact ŷ λr=>⟨b r,a r⟩
def RR{m o:Nat}(d:Tc S c m)(a:∀g∈aP m,g∈aP o):Qb S o=true:=by
 have b:=d.2.2;have l:∃r,r∈aP m:=by
  cases h:aP m with
  |nil=>
   refine absurd ?_ d.1;have:=gU m;rw[h]at this;exact this.symm
  |cons r T=>exact⟨r,by simp⟩
 obtain⟨r,f⟩:=l;have n:(aP m).length<=(aP o).length:=TY (dG m) λx e=>a x e
 unfold Qb at b ⊢
 by_cases k:1<(aP o).length
 .rw[Oc k];rfl
 .have j:(aP m).length=(aP o).length:=by
   have:0<(aP m).length:=TZ f;omega
  have:m=o:=Dz a λg i=>sub_len (dG m) a j i
  rw[<-this];exact b
def eqE{a b:Ex}{m o:Nat}{st:ua}(d:a st=.ok (.int (m:Int)))(c:b st=.ok (.int (o:Int))):e2 gd a b st=.ok (.bl<|decide (m=o)):=by
 rw[iq,d,bA,c,bA]
 by_cases h:m=o
 .subst h;simp
 .have:¬ (m:Int)=(o:Int):=by omega
  simp[h,this]
def V1{a b:Ex}{m o:Nat}{st:ua}(d:a st=.ok (.int (m:Int)))(c:b st=.ok (.int (o:Int))):e2 Zf a b st=.ok (.bl<|!decide (m=o)):=by
 rw[iq,d,bA,c,bA]
 by_cases h:m=o
 .subst h;simp
 .have:¬ (m:Int)=(o:Int):=by omega
  simp[h,this]
def av{a m:Nat}{st:ua}(b:st[a]?=some (some<|.v<|.int (m:Int))):aA a st=.ok (.int (m:Int)):=by simp[b]
theorem ż(M:ya S rk c)(e:n<2^S.length)(i:n≠0):ky [.lst<|ba rk,.int n]=.ok (.int<|lN rk n):=by
 have l:=M.most;have m:0<(aP n).length:=by
  cases h:aP n with
  |nil=>
   refine absurd ?_ i;have:=gU n;rw[h]at this;exact this.symm
  |cons r T=>simp
 have a:=iG (tg:=bb 2) (C:=AD) (E:=zD) (st:=[some<|.v<|.lst<|ba rk,some<|.v<|.int n,none]) (G:=λr=>.int<|rk.getD r 0) (List.range rk.length)<|λr d=>⟨_,rfl,by
  unfold AD;exact iw rfl rfl,by
  have b:=Jd.mp d;have k:je (ba rk) r=some (.int<|rk.getD r 0):=by
   rw[Jc (by rwa [bC])]
   simp[ba,getD_eq_getElem?_getD,List.getElem?_eq_getElem b]
  simp[zD,k]⟩
 rw[M.Jp,Ε e]at a;have j:(aP n).map (λr=>D.int<|rk.getD r 0)=((aP n).map λr=>(rk.getD r 0:Int)).map D.int:=by simp
 rw[j]at a;refine bB rfl ?_
 unfold QO;show bW _ [some<|.v<|.lst<|ba rk,some<|.v<|.int n,none]=_;have g:qZ (e1 jE<|aA 0) [some<|.v<|.lst<|ba rk,some<|.v<|.int n,none]=.ok (ba<|List.range S.length):=by
  rw[<-VD];simp[bC,M.Jp,show S.length<=(big:Int) from Up (by lia)]
 have f:Uv (.lst<|((aP n).map λr=>(rk.getD r 0:Int)).map D.int)=.ok (.int<|lN rk n):=by
  show (wH _).bind _=_;rw[sO,bA,aO (by rwa [Kd])]
  rfl
 rw[Hr,DI,Ay,g];simp only[bA,bC,length_range];rw[aO<|fY<|by lia,show Wh [2] [some<|Sl.v<|.lst<|ba rk,some<|.v<|.int n,none]=[some<|.v<|.lst<|ba rk,some<|.v<|.int n,none] from rfl,a,bA,bA,f]
 rfl
def SH:cH (List.range n)<2^n:=mL λr a=>Jd.mp a
theorem IT(M:ya S rk c):nD [mD S rk c]=.ok (.int<|cH<|List.range S.length):=by
 have b:=M.most;refine bB rfl<|bH<|aJ (aR ?_ rfl)<|Ir (λr a=>by have:=Jd.mp a;lia)<|by rw[Vk];lia
 show R.bind (iH "Machine" "many"<|mD S rk c) Yu=_;rw[wO,<-VD];exact aO ⟨Wu (by lia),Up<|by lia⟩
def JT(M:ya S rk c){st:ua}(h:st[0]?=some (some<|.v<|mD S rk c)):aM lK (aC (e1 (iH "Machine" "steps")<|aA 0)<|aC (aM nD<|aC (aA 0) aK) aK) st=.ok (.Pe false (ba<|aP<|cH<|List.range S.length)<|(aP<|cH<|List.range S.length).map λr=>D.int (cZ S c (cH<|List.range S.length) r:Nat)):=by
 have e:aA 0 st=.ok (mD S rk c):=by unfold aA;rw[h]
 exact aJ (aR (show R.bind _ _=_ by rw[e,bA,mG])<|aR (aJ (aR e rfl)<|IT M) rfl)<|MR M SH
def MT{r:Nat}(a:r<S.length):qb (.Pe false (ba<|aP<|cH<|List.range S.length)<|(aP<|cH<|List.range S.length).map λr=>D.int (cZ S c (cH<|List.range S.length) r:Nat)) (.int r)=.ok (.int (cZ S c (cH<|List.range S.length) r:Nat)):=Jr<|wV _<|kY.mpr<|Jd.mpr a
def SR(M:ya S rk c) (a:r<S.length):iT [mD S rk c,.int r]=.ok (.int<|cZ S c (cH<|List.range S.length) r):=
 bB rfl (bH<|aL (JT M rfl) rfl<|MT a)
end
def Ž{l:Nat}(h:l<3):qb (.str [97,98,99]) (.int l)=.ok (.str [97+l]):=by
 show aX _ _=_;rw[aO<|fY<|by show 3<=_;omega,Jc (xs:=[97,98,99]) (i:=l) (by show l<3;exact h)]
 have:l=0\/l=1\/l=2:=by omega
 rcases this with rfl|rfl|rfl<;>rfl
def bNn(l m:ac):gd (.lst<|ba l) (.lst<|ba m)=.ok (.bl<|decide (l=m)):=by
 obtain⟨p1,p2,_⟩:=gZ l;obtain⟨a,_,_⟩:=gZ m;have:=Kr l m;simp[p1,p2,a,this]
section
variable{S:am}{rk:ac}{c n s g r:Nat}{al:no}
def jw(S:am)(rk:ac)(c n r:Nat)(x:ac)(h:Nat)(a:f8):ua:=[some<|.v<|mD S rk c,some<|.v<|.int n,some<|.v<|.int r,some<|.v<|.str x,some<|.v<|.int h,a]
def eP{e:Ee}{st:ua}(b:f st=.ok (mD S rk c))(a:e st=.ok xs):bZ "Machine" "rooms_along" p [] f e st=p (mD S rk c::xs):=by
 rw[zy,b,a];show aX _ (p<|mD S rk c::(xs++[]))=_;rw[dh];exact aO ⟨rfl,by decide⟩
def TR(M:ya S rk c)(i:n<2^S.length)(q:Tc S c n){a b:Nat}(h:a∈aP n)(p:b∈aP n):∃u,rD [mD S rk c,.int n,.int a,.int b]=.ok (.str u)/\Zl c u/\u.length<=8:=by
 have r:=M.most;have f:=aF.mp h;obtain⟨oa,e,m⟩:=LG M (aW i h)<|aP n;have j:b∈oa.map (·.1):=m.whole<|(q.2.1 a h b p).mono λg o=>Oc<|aF.mpr o
 obtain⟨x,d,rfl⟩:=xf.mp j;obtain⟨k,l⟩:=xt.mp d;have v:=m.ii k x l;have t:=(zg.mp l).1;have s:=m.len;refine⟨x.2,bB rfl<|fW (iY (rF (p:=true)<|aJ rfl<|by rw[Am,f]) rfl)<|bH ?_,(m.lt x d).2,by omega⟩
 unfold Zs;rw[aJ (aR (show iH "Machine" "steps" (mD S rk c)=_ from mG)<|aR rfl<|aR (aJ rfl<|lX i<|by omega) rfl) e]
 show aX (Pc false (.int x.1)=true) _=_;rw[aO (c:=Pc false (.int x.1)=true) rfl,xb (by rw[Cz];exact Oc j),QH m.nd d]
 rfl
theorem AE(M:ya S rk c)(l:n<2^S.length)(w:Tc S c n)(v:r∈aP n):∀(d:ac)(x:ac)(h j:Nat)(i:f8),(∀g∈d,g∈aP n)->Zl c x->h∈aP n->x.length<=j*8->j+d.length<=8->
  ∃a b f,Eb (bb 5) WN (ba d) (jw S rk c n r x h i)=.ok (.nx<|jw S rk c n r a b f)/\b∈aP n/\a.length<=64
 |[],x,h,j,i,_,q,p,B,o=>⟨x,h,i,rfl,p,by have o:j+0<=8:=o;omega⟩
 |g::d,x,h,j,i,m,q,p,B,o=>by
  rw[ze]at o;have F:=aW l v;obtain⟨p1,p2,_⟩:=gZ<|r::runs S r x;have t:e2 pZ (aA 5) (bZ "Machine" "rooms_along" dF [] (aA 0)<|aC (aA 2)<|aC (aA 3) aK) (jw S rk c n r x h g)=.ok (.bl<|!decide (g∈r::runs S r x)):=aL rfl ((eP rfl rfl).trans<|HR M F x q<|by omega) (by
   rw[<-Uy];exact aO ⟨by rw[p2];exact qh 60,rfl,p1⟩)
  cases A:(!decide (g∈r::runs S r x)) with
  |false=>
   rw[A]at t;obtain⟨a,b,f,e,k⟩:=AE M l w v d x h j g (λy s=>m y<|Xb _ s) q p B (by omega)
   exact⟨a,b,f,dI rfl (iY t rfl) e,k⟩
  |true=>
   rw[A]at t;obtain⟨u,D,C,G⟩:=TR M l w p<|m g Gb;obtain⟨a,b,f,e,k⟩:=AE M l w v d (x++u) g (j+1) g (λy s=>m y<|Xb _ s) (λz E=>(Pg.mp E).elim (q z)<|C z) (m g Gb) (by rw[af];omega) (by omega)
   exact⟨a,b,f,dI rfl (rW t<|aH (st':=jw S rk c n r (x++u) h g) (aZ<|aL rfl (aJ rfl D)<|aO<|fY<|by omega)<|aZ rfl) e,k⟩
def iP(M:ya S rk c)(a:n<2^S.length)(g:Tc S c n)(b:r∈aP n):∃u,wM [mD S rk c,.int n,.int r]=.ok (.str u):=by
 have E:=M.most;have N:=M.c3;have p:=aW a b;have A:=lX a (by omega)
 have L:(aP n).length<=8:=ye (nM S.length _ (dG _) λy F=>aW a F) E
 have v:ud (uU<|aM Du<|aC (aA 0)<|aC (aA 1) aK) pA cJ [mD S rk c,n,r,none,none,none]=.ok (.nx [mD S rk c,n,r,none,none,none]):=iY ((rF (p:=true)<|aJ rfl<|by rw[Θ M a,Oc<|(Ç M a).mpr g])) rfl
 have t:ud (uU<|aM gY<|aC (aA 1)<|aC (aA 2) aK) pA cJ [mD S rk c,n,r,none,none,none]=.ok (.nx [mD S rk c,n,r,none,none,none]):=iY ((rF (p:=true)<|aJ rfl<|by rw[Am,aF.mp b])) rfl
 have d:=aL (op:=gd) (f:=aM cC<|aC (aA 1) aK) (g:=fJ<|aC (aA 2) aK) (st:=[mD S rk c,n,r,none,none,none]) (aJ rfl A) (cW (ds:=ba [r]) rfl)<|bNn (aP n) [r]
 by_cases o:aP n=[r]
 .rw[Oc o]at d;have j:=g.2.2;unfold Qb at j;rw[o]at j;have w:r∈S.getD r []:=by
   have:=ck<|show decide (r∈S.getD r [])=true from j
   exact this
  have s:S.getD r []=S[r]:=by rw[ng,Ze p];rfl
  rw[s]at w;have O:=(M.row S[r] (Fi p)).1;have G:((S[r].map λ(x:Nat)=>(x:Int)).findIdx? λi=>i==(r:Int)).isSome=true:=by
   rw[J0,sq];exact⟨(r:Int),xf.mpr ⟨r,w,rfl⟩,by simp⟩
  obtain⟨k,B⟩:=GZ.mp G;obtain⟨q,f,_⟩:=RY.mp B;rw[Kd]at q;have l:S[r][k]=r:=by
   rw[VJ,Xk]at f;exact Int.ofNat_inj.mp f
  have P:Yc S r k=r:=by
   unfold Yc;rw[s,ng,Ze q];exact l
  have m:vm dA (e2 qb (e1 (iH "Machine" "steps")<|aA 0)<|aA 2) (aC (aA 2) aK) [mD S rk c,n,r,none,none,none]=.ok (.int k):=by
   unfold vm;rw[aL (show e1 (iH "Machine" "steps") (aA 0) [mD S rk c,n,r,none,none,none]=_ from mG) rfl<|fX<|Gv p]
   show (wH<|ba S[r]).bind _=_;rw[show ba S[r]=(S[r].map λ(x:Nat)=>(x:Int)).map D.int by rw[Jj];rfl,sO,bA,B]
   show R.bind (.ok k) _=_;rw[bA];exact aO<|fY<|by rw[Kd,Kd];omega
  exact⟨[97+k],bB rfl<|fW v<|fW t<|tD<|(rW d<|bH<|aL rfl m<|Ž<|by omega)⟩
 .rw[yd o]at d;obtain⟨x,h,H,e,f,K⟩:=AE M a g b (aP n) [] r 0 none (λ_ z=>z) (λ_ z=>nomatch z) b (qh _) (by omega)
  obtain⟨y,C,J,I⟩:=TR M a g f b;exact⟨x++y,bB rfl (fW v<|fW t<|fW ((iY d rfl))<|aH ((aZ rfl))<|aH (st':=jw S rk c n r [] r none) ((aZ rfl))<|aH ((dN (oW<|aJ rfl A) e))<|(bH<|aL rfl (aJ rfl C)<|aO<|fY<|by omega)) ⟩
end
theorem NT{x:Int}:∀(l a:jp),x∈l.foldl (λa x=>if a.any (· == x) then a else a++[x]) a↔x∈a\/x∈l
 |[],a=>by simp
 |y::l,a=>by
  rw[kn,NT l]
  by_cases h:a.any (· == y)=true
  .rw[xb h];have c:y∈a:=by
    obtain⟨z,b,e⟩:=sq.mp h;rw[<-eq_of_beq e];exact b
   constructor
   .rintro(z|z)
    .exact .inl z
    .exact .inr (Xb _ z)
   .rintro(z|z)
    .exact .inl z
    .rcases Uc.mp z with rfl|z
     .exact .inl c
     .exact .inr z
  .rw[Ta h,Pg,Od,Uc,or_assoc]
def bNo{x:Int}{l:jp}:x∈nh (fm l)↔x∈l:=by
 rw[(uJ _).mem_iff];unfold fm;rw[NT];simp
def TH(l:jp):∀a:jp,(l.foldl (λa x=>if a.any (· == x) then a else a++[x]) a).length<=a.length+l.length:=by
 induction l with
 |nil=>intro a;exact Fc _
 |cons y l b=>
  intro a;rw[kn,ze];refine ye (b _) ?_
  split
  .omega
  .rw[af,ah];omega
section
variable{S:am}{rk:ac}{c n al:Nat}{p:Int}{w:Bool}
def pU(a:n≠0):aP n≠[]:=λz=>a (by
 have:=gU n;rw[z]at this;exact this.symm)
def Gy(d:n≠0):(∃r∈aP n,(rk.getD r 0:Int)=lN rk n)/\∀r∈aP n,(rk.getD r 0:Int)<=lN rk n:=by
 obtain⟨c,b⟩:=QG (l:=(aP n).map λr=>(rk.getD r 0:Int)) (by simpa using pU d)
 obtain⟨r,a,e⟩:=xf.mp c;exact⟨⟨r,a,e⟩,λr a=>b _<|xf.mpr ⟨r,a,rfl⟩⟩
def bNp{r:Nat}(a:r∈aP n)(e:(rk.getD r 0:Int)=p)(b:∀r∈aP n,(rk.getD r 0:Int)<=p):lN rk n=p:=
 Xu (xf.mpr ⟨r,a,e⟩) λx c=>by
  obtain⟨r,a,rfl⟩:=xf.mp c;exact b r a
def Yg(rk:ac)(al:Nat)(p:Int):Nat:=cH<|(aP al).filter λr=>decide ((rk.getD r 0:Int)<=p)
def RG:r∈aP (Yg rk al p)↔r∈aP al/\(rk.getD r 0:Int)<=p:=by
 unfold Yg;rw[kY,Nd,Cf]
def Vr(b:al<2^S.length):Yg rk al p<2^S.length:=mL λr a=>aW b (Nd.mp a).1
noncomputable def yH(S:am)(c:Nat)(rk:ac)(al:Nat)(p:Int):ac:=(eV S c<|Yg rk al p).filter λm=>decide (lN rk m=p)
noncomputable def bt(rk:ac)(al:Nat)(w:Bool):jp:=(nh<|fm<|(aP al).map λr=>(rk.getD r 0:Int)).filter λp=>decide (p%2=0)==w
noncomputable def qI(S:am)(c:Nat)(rk:ac)(al:Nat)(w:Bool):ac:=(bt rk al w).flatMap<|yH S c rk al
noncomputable def Ao(S:am)(c:Nat)(rk:ac)(al:Nat)(p:Int)(r:Nat):Bool:=Qb S (fV S c (Yg rk al p) r)&&decide (lN rk (fV S c (Yg rk al p) r)=p)
def È(M:ya S rk c)(d:al<2^S.length){r:Nat}(b:r∈aP (Yg rk al p))(a:Ao S c rk al p r=true):Tc S c (fV S c (Yg rk al p) r)/\(∀g∈aP (fV S c (Yg rk al p) r),g∈aP al)/\lN rk (fV S c (Yg rk al p) r)=p:=by
 unfold Ao at a;rw[fj,Cf]at a;exact⟨XE M (Vr d) b a.1,λg a=>(RG.mp<|OG M (Vr d) b a).1,a.2⟩
def JQ(M:ya S rk c)(i:al<2^S.length){m:Nat}(f:Tc S c m)(n:∀g∈aP m,g∈aP al)(l:lN rk m=p) (e:r∈aP m):r∈aP (Yg rk al p)/\Ao S c rk al p r=true/\∀g∈aP m,g∈aP (fV S c (Yg rk al p) r):=by
 obtain⟨⟨g,d,j⟩,h⟩:=Gy (rk:=rk) f.1;rw[l]at j h;have a:∀g∈aP m,g∈aP (Yg rk al p):=λg d=>RG.mpr ⟨n g d,h g d⟩
 have b:=FT M (Vr i) f a e;refine⟨a r e,?_,b⟩;unfold Ao;rw[RR f b,Oc<|bNp (b g d) j λy k=>(RG.mp<|OG M (Vr i) (a r e) k).2]
 rfl
def KQ(M:ya S rk c)(d:al<2^S.length){m:Nat}(h:m∈yH S c rk al p):m<2^S.length/\Tc S c m/\(∀g∈aP m,g∈aP al)/\lN rk m=p:=by
 obtain⟨f,e⟩:=Nd.mp h;obtain⟨r,a,rfl,b⟩:=mH.mp f;exact⟨Wy,È M d a<|by unfold Ao;rw[b,e];rfl⟩
def Xy:p∈bt rk al w↔(∃r∈aP al,(rk.getD r 0:Int)=p)/\(decide (p%2=0)==w)=true:=by
 unfold bt;rw[Nd,bNo,xf]
end
theorem UR{tg:Tg}{C E:Ex}{st:ua}{q:Int->Bool}:∀(a:jp),(∀k∈a,∃s1,tg (.int k) st=.ok s1/\C s1=.ok (.bl<|q k)/\E s1=.ok (.int k))->jX tg C E st (a.map D.int)=.ok ((a.filter q).map D.int)
 |[],_=>rfl
 |k::a,h=>by
  obtain⟨s1,g,f,e⟩:=h k Gb;have b:=UR a λk d=>h k<|Xb _ d
  rw[Mf,mW,g,bA,f,bA,zm];cases c:q k with
  |true=>rw[Xm c,Mf,xb rfl,e,bA,b];rfl
  |false=>rw[Ym (by rw[c];decide),Ta ph,b]
def bNq(p q:Bool):gd (.bl p) (.bl q)=.ok (.bl<|p==q):=aO ⟨qh 64,rfl,rfl⟩
def PV(l:ac):gd (.lst<|ba l) (.lst [])=.ok (.bl<|decide (l=[])):=by
 obtain⟨p1,p2,_⟩:=gZ l;have:=Kr l [];rw[show ba []=[] from rfl]at this
 simp[p1,p2,this]
section
variable {al:Nat} {p:Int} {w:Bool}
def FX(M:ya S rk c){r:Nat}(b:r<S.length):je (ba rk) (r:Int)=some (.int (rk.getD r 0:Nat)):=by
 have a:r<rk.length:=by rw[M.Jp];exact b
 rw[Jc (by rw[bC];exact a)]
 simp[ba,getD_eq_getElem?_getD,List.getElem?_eq_getElem a]
def cv(b:n<2^S.length):(aP n).length<=S.length:=nM S.length _ (dG _) λx a=>aW b a
def ž(M:ya S rk c)(a:al<2^S.length):pO [mD S rk c,.int al,.bl w]=.ok (.lst<|(bt rk al w).map D.int):=by
 have i:=M.most;have h:=lX a (by omega)
 have e:=cv a;have b:=iG (tg:=bb 5) (C:=fK) (E:=rC) (st:=[mD S rk c,al,D.bl w,none,none,none]) (q:=λ_=>true) (G:=λr=>.int (rk.getD r 0:Nat)) (aP al)<|λr d=>⟨_,rfl,rfl,aL (show iH "Machine" "ranks" (mD S rk c)=_ from qH) rfl<|fX<|FX M<|aW a d⟩
 rw[xB.mpr λ_ _=>rfl]at b
 have g:(aP al).map (λr=>D.int (rk.getD r 0:Nat))=((aP al).map λr=>(rk.getD r 0:Int)).map D.int:=by rw[Jj];rfl
 rw[g]at b;have f:e1 KG (cT [5] (bb 5) (Wc<|aM cC<|aC (aA 1) aK) fK rC) [mD S rk c,al,D.bl w,none,none,none]=.ok (.lst<|(nh<|fm<|(aP al).map λr=>(rk.getD r 0:Int)).map D.int):=by
  rw[DI,gJ (oW<|aJ rfl h) (by rw[bC];omega) b,bA]
  show (wH _).bind _=_;rw[sO,bA];exact aO ⟨by rw[Kd];omega,vw (TH _ [])<|by rw[Kd,vq];omega⟩
 have j:(nh<|fm<|(aP al).map λr=>(rk.getD r 0:Int)).length<=S.length:=by
  rw[(uJ _).length_eq];refine ye (TH _ []) ?_
  rw[Kd];simpa using e
 refine bB rfl<|aH (aZ f)<|bH<|gJ (oW rfl) (by rw[Kd];omega)<|UR (q:=λp=>decide (p%2=0)==w) _ λk _=>⟨_,rfl,aL (aL (aL rfl rfl<|tH<|by decide) rfl<|yZ _ _) rfl<|bNq _ _,rfl⟩
def LQ:(eV S c n).length<=(aP n).length:=by
 have d:∀(a ps:ac),(a.foldl (λps r=>if fV S c n r∉ps/\Qb S (fV S c n r)=true then ps++[fV S c n r] else ps) ps).length<=ps.length+a.length:=λa=>by
  induction a with
  |nil=>intro ps;exact Fc _
  |cons r a b=>
   intro ps;rw[kn,ze];refine ye (b _) ?_
   split
   .rw[af,ah];omega
   .omega
 have:=d (aP n) [];unfold eV;simpa using this
def OT(M:ya S rk c)(d:n<2^S.length) (h:m∈eV S c n):m<2^S.length/\m≠0:=by
 obtain⟨r,a,rfl,b⟩:=mH.mp h;exact⟨Wy,(XE M d a b).1⟩
def É(M:ya S rk c)(a:al<2^S.length):nF [mD S rk c,.int al,.int p]=.ok (.lst<|ba<|yH S c rk al p):=by
 have i:=M.most;have h:=lX a (by omega)
 have j:=cv a;have b:=Vr (rk:=rk) (p:=p) a;have g:pP [mD S rk c,al,p,none,none,none]=.ok (.nx [mD S rk c,al,p,Yg rk al p,none,none]):=by
  refine aH (aZ<|aJ (aR (gJ (oW<|aJ rfl h) (by rw[bC];omega)<|iG (q:=λr=>decide ((rk.getD r 0:Int)<=p)) (G:=λr=>.int r) (aP al) λr d=>⟨_,rfl,aL (aL (show iH "Machine" "ranks" (mD S rk c)=_ from qH) rfl<|fX<|FX M<|aW a d) rfl rfl,rfl⟩) rfl)<|Ir (l:=(aP al).filter λr=>decide ((rk.getD r 0:Int)<=p)) (λr d=>by have:=aW a (Nd.mp d).1;omega) (by have:=Ro (λr=>decide ((rk.getD r 0:Int)<=p))<|aP al;omega)) rfl
 have k:=ye (LQ (S:=S) (c:=c) (n:=Yg rk al p))<|cv b;have f:=gJ (is:=[4]) (it:=Wc<|aM gF<|aC (aA 0)<|aC (aA 3) aK) (st:=[mD S rk c,al,p,Yg rk al p,none,none]) (oW<|aJ rfl<|Fy M b) (by rw[bC];omega)<|iG (tg:=bb 4) (C:=oJ) (E:=oH) (q:=λm=>decide (lN rk m=p)) (G:=λr=>.int r) (eV S c<|Yg rk al p) λm e=>⟨_,rfl,aL (aJ rfl<|RH M (OT M b e).1 (OT M b e).2) rfl<|yZ _ _,rfl⟩
 refine bB rfl ?_
 show sJ pP _ [mD S rk c,al,p,none,none,none]=_;unfold sJ;rw[g];show R.bind (cT [4] (bb 4) (Wc<|aM gF<|aC (aA 0)<|aC (aA 3) aK) oJ oH [mD S rk c,al,p,Yg rk al p,none,none]) _=_;rw[f];rfl
theorem MQ(M:ya S rk c)(a:al<2^S.length):∀(ps:jp)(F:ac)(x4:f8),F.length+8*ps.length<=1000->∃b,Eb (bb 4) yF (ps.map D.int) [mD S rk c,al,D.bl w,some<|.o .l<|ba F,x4]=.ok (.nx [mD S rk c,al,D.bl w,some<|.o .l<|ba<|F++ps.flatMap (yH S c rk al),b])
 |[],F,x4,_=>⟨x4,by rw[List.flatMap_nil,dh];rfl⟩
 |p::ps,F,x4,g=>by
  rw[ze]at g;have d:=M.most;have h:(yH S c rk al p).length<=8:=ye (Ro _ _)<|ye (LQ (S:=S) (c:=c))<|ye (cv<|Vr a) d;obtain⟨b,e⟩:=MQ M a ps (F++yH S c rk al p) p (by rw[af];omega)
  rw[Sk]at e;have f:=bNg (i:=3) (f:=aM nF<|aC (aA 0)<|aC (aA 1)<|aC (aA 4) aK) (st:=[mD S rk c,al,D.bl w,some<|.o .l<|ba F,p]) (aJ rfl<|É (p:=p) M a) rfl<|fY<|by rw[bC,bC];omega
  refine⟨b,dI rfl f ?_⟩;rw[<-(show ba (F++yH S c rk al p)=ba F++ba (yH S c rk al p) from Gi),List.flatMap_cons]
  exact e
def jv(M:ya S rk c)(a:al<2^S.length):dB [mD S rk c,.int al,.bl w]=.ok (.lst<|ba<|qI S c rk al w):=by
 have b:=M.most;have d:(bt rk al w).length<=8:=by
  refine ye (Ro _ _) ?_
  rw[(uJ _).length_eq];refine ye (TH _ []) ?_
  rw[Kd];have:=cv a;simp only[length_nil];omega
 obtain⟨x4,e⟩:=MQ (w:=w) M a (bt rk al w) [] none (by simp only[length_nil];omega)
 exact bB rfl<|aH (oN<|cW rfl)<|aH (dN (oW<|aJ rfl<|ž M a) e) rfl
end
def Ê{a b c:Bd}{st:ua}:aY (aY a b) c st=aY a (aY b c) st:=by
 show Ho (Ho (a st) b) c=Ho (a st) λs=>Ho (b s) c
 cases h:a st with
 |ok x=>cases x<;>rfl
 |exc e=>rfl
 |bad=>rfl
inductive Fits:List Nat->List Nat->Prop
 |nil:Fits [] []
 |cons {x m:Nat} {xs ms:ac}:x<m->Fits xs ms->Fits (x::xs) (m::ms)
theorem Fits.cut:∀{c n s:Nat}{xs:ac},Fits xs (List.replicate c n++[s])->∃r x,xs=r++[x]/\r.length=c/\(∀z∈r,z<n)/\x<s
 |0,n,s,_,.cons h .nil=>⟨[],_,rfl,rfl,λ_ z=>(nomatch z),h⟩
 |c+1,n,s,xs,h=>by
  rw[Wm,List.cons_append]at h;cases h with
  |cons f d=>
   rename_i x xs;obtain⟨r,y,e,l,a,b⟩:=d.cut;refine⟨x::r,y,by rw[e];rfl,by rw[ze,l],λz hz=>?_,b⟩
   rcases Uc.mp hz with q|q
   .rw[q];exact f
   .exact a z q
def QT{k:Nat}(h:k<ns.length):je (ns.map D.int) (k:Int)=some (.int<|ns.getD k 0):=by
 rw[Jc (by rw[Kd];exact h)]
 simp[getD_eq_getElem?_getD,List.getElem?_eq_getElem h]
def RT(S:am)(r:ac):Rb (S++[r])=Rb S++[.lst<|ba r]:=by unfold Rb;simp
def ě(l:dL)(d:D):cut (l++[d]) none (some<|-1)=l:=by
 have e:((-1:Int)+((l++[d]).length:Nat)).toNat=l.length:=by rw[af,ah];omega
 show ((l++[d]).drop 0).take ((if (-1:Int)<0 then ((-1:Int)+((l++[d]).length:Nat)).toNat else min (-1:Int).toNat (l++[d]).length)-0)=l
 rw[xb (by decide),e]
 simp
theorem UT{E:Ex}{st:ua}{tg:Tg}{n:Nat}:∀r:ac,(∀g∈r,∃s1 v,tg (.int (g:Nat)) st=.ok s1/\E s1=.ok (.int (v:Nat))/\v<n)->∃a,jX tg fK E st (ba r)=.ok (ba a)/\a.length=r.length/\∀z∈a,z<n
 |[],_=>⟨[],rfl,rfl,λ_ z=>(nomatch z)⟩
 |g::r,h=>by
  obtain⟨s1,v,b,i,c⟩:=h g Gb;obtain⟨a,e,l,d⟩:=UT r λg f=>h g<|Xb _ f
  refine⟨v::a,?_,by rw[ze,ze,l],λz hz=>?_⟩
  .show jX tg fK E st (.int (g:Nat)::ba r)=.ok (.int (v:Nat)::ba a);rw[mW,b];simp only[bA,show fK s1=.ok (.bl true) from rfl,zm,if_true,i,e]
  .rcases Uc.mp hz with q|q
   .rw[q];exact c
   .exact d z q
def wW{i j:Int}(h : -18446744073709551616<i/\i<18446744073709551616):jK (.int i) (.int j)=.ok (.int<|i*j):=aO<|.inl h
def Hv{i j:Int}(h : -18446744073709551616<j/\j<18446744073709551616):jK (.int i) (.int j)=.ok (.int<|i*j):=aO<|.inr h
def Jo{i j:Int}(h:0<j):∃v,oZ (.int i) (.int j)=.ok (.int v)/\0<=v/\v<j:=⟨i%j,tH h,Int.emod_nonneg _ (by omega),Int.emod_lt_of_pos _ h⟩
def Hy(ns:jp)(k:Nat)(m:k<=100000):∃v:Int,0<=v/\mX [.lst<|ns.map D.int,.int k]=.ok (.int v):=by
 have b:∀x,e1 jE (aA 0) [D.lst<|ns.map D.int,k,x]=.ok (.int (ns.length:Nat)):=λx=>by
  show R.ok (D.int (((ns.map D.int).length:Nat):Int))=_;rw[Kd]
 by_cases h:k<ns.length
 .obtain⟨v,e,a,_⟩:=Jo (i:=ns.getD k 0) (j:=1000000000000000000000000000000) (by decide)
  refine⟨v,a,bB rfl<|tD<|rW (aL rfl (b none)<|by show R.ok (D.bl<|decide ((k:Int)<(ns.length:Nat)))=_;rw[GY h])<|bH<|aL (aL rfl rfl<|fX<|QT h) (aL rfl rfl (y:=.int 30)<|aO<|by decide) e⟩
 .have c:∀r:Int,∃v:Int,0<=v/\e2 oZ (e2 jK (e2 lB (e2 lB (e2 jK (aA 2)<|eI 48271)<|e2 jK (eI 7919)<|aA 1)<|eI 11)<|e2 lB (aA 1)<|eI 2) (eI 2147483647) [D.lst<|ns.map D.int,k,r]=.ok (.int v):=λr=>by
   obtain⟨v,e,a,_⟩:=Jo (i:=(r*48271+7919*(k:Int)+11)*((k:Int)+2)) (j:=2147483647) (by decide)
   exact⟨v,a,aL (aL (aL (aL (aL rfl rfl<|Hv<|by decide) (aL rfl rfl<|wW<|by decide) rfl) rfl rfl) (aL rfl rfl rfl)<|Hv<|by omega) rfl e⟩
  have d:e2 Di (aA 1) (e1 jE<|aA 0) [D.lst<|ns.map D.int,k,none]=.ok (.bl false):=aL rfl (b none) (by show R.ok (D.bl<|decide ((k:Int)<(ns.length:Nat)))=_;rw[HY h])
  by_cases f:ns.length=0
  .obtain⟨v,a,e⟩:=c 0;refine⟨v,a,bB rfl<|aH (iY d rfl)<|aH (aZ rfl)<|aH (iY (aL (b _) rfl ?_) rfl)<|bH e⟩;show R.ok (D.bl<|decide ((0:Int)<(ns.length:Nat)))=_;rw[f];rfl
  .have g:k%ns.length<ns.length:=mod_lt _<|OJ f;have l:((k%ns.length:Nat):Int)=(k:Int)%(ns.length:Nat):=by push_cast;rfl
   have e:=QT g;rw[l]at e;obtain⟨r,j,_,_⟩:=Jo (i:=ns.getD (k%ns.length) 0) (j:=999983) (by decide)
   obtain⟨v,a,i⟩:=c r;refine⟨v,a,bB rfl<|aH (iY d rfl)<|aH (aZ rfl)<|aH (rW (aL (b _) rfl ?_)<|aZ<|aL (aL rfl (aL rfl (b _)<|tH<|by omega)<|fX e) rfl j)<|bH i⟩
   show R.ok (D.bl<|decide ((0:Int)<(ns.length:Nat)))=_;rw[Oc (by omega)]
def Dr(c k:Int){m:Int}(h:0<m):∃v,dY [.int c,.int k,.int m]=.ok (.int v)/\0<=v/\v<m:=by
 obtain⟨a,i,x,w⟩:=Jo (i:=c+15485863*k) (j:=2147483629) (by decide)
 obtain⟨n,o,u,t⟩:=Jo (i:=a*a) (j:=2147483647) (by decide)
 obtain⟨b,g,s,r⟩:=Jo (i:=n * 69621) (j:=2147483629) (by decide)
 obtain⟨d,f,q,p⟩:=Jo (i:=b*b) (j:=2147483587) (by decide)
 obtain⟨v,e,l,j⟩:=Jo (i:=d/32) h;refine⟨v,bB rfl<|aH (aZ<|aL (aL rfl (aL rfl rfl<|wW<|by decide) rfl) rfl i)<|aH (aZ<|aL (aL (aL (aL rfl rfl<|wW<|by omega) rfl o) rfl<|Hv<|by decide) rfl g)<|bH<|aL (aL (aL (aL rfl rfl<|wW<|by omega) rfl f) rfl<|Zu<|by decide) rfl e,l,j⟩
theorem NQ{x1:f8}:∀(a:ac)(c:Int)(row:ac)(x3:f8),(∀m∈a,1<=m/\m<=1000)->row.length+a.length<=1000->∃d f b,Eb (bb 3) TM (ba a) [c,x1,some<|.o .l<|ba row,x3]=.ok (.nx [d,x1,some<|.o .l<|ba<|row++f,b])/\Fits f a
 |[],c,row,x3,_,_=>⟨c,[],x3,by rw[dh];rfl,.nil⟩
 |m::a,c,row,x3,h,j=>by
  obtain⟨o,n⟩:=h m Gb;rw[ze]at j;have l:c%(m:Int)=((c%(m:Int)).toNat:Int):=by have:=Int.emod_nonneg c (show (m:Int)≠0 by omega);omega
  have g:(c%(m:Int)).toNat<m:=by have:=Int.emod_lt_of_pos c (show (0:Int)<m by omega);omega
  obtain⟨d,f,b,e,k⟩:=NQ (x1:=x1) a (c/(m:Int)) (row++[(c%(m:Int)).toNat]) m (λm i=>h m<|Xb _ i) (by rw[af,ah];omega)
  rw[Sk,A0]at e;refine⟨d,_,b,dI rfl (aH (vB (aL rfl rfl<|tH<|by omega) rfl<|by rw[bC];omega)<|aZ<|aL rfl rfl<|Zu<|by omega) ?_,.cons g k⟩
  rw[nO,<-l]at e;exact e
def VT(c:Int)(a:ac)(h:∀m∈a,1<=m/\m<=1000)(f:a.length<=1000):∃row,mC [.int c,.lst<|ba a]=.ok (.lst<|ba row)/\Fits row a:=by
 obtain⟨g,row,d,e,b⟩:=NQ (x1:=some<|.v<|.lst<|ba a) a c [] none h (by rw[vq];omega)
 exact⟨row,bB rfl<|aH (oN<|cW rfl)<|aH (dN rfl e)<|bH rfl,b⟩
theorem OF{tg:Tg}{E:Ex}{st:ua}:∀(d:ac)(j:Nat),(∀i m:Nat,d[i]?=some m->∃s1 v,tg (.int ((j+i:Nat):Int)) st=.ok s1/\E s1=.ok (.int v)/\0<=v/\v<(m:Int))->∃row,jX tg fK E st (ba<|List.range' j d.length)=.ok (ba row)/\Fits row d
 |[],_,_=>⟨[],rfl,.nil⟩
 |m::d,j,h=>by
  obtain⟨s1,v,f,o,g,p⟩:=h 0 m rfl;obtain⟨row,e,l⟩:=OF d (j+1) λi m k=>by
   obtain⟨s1,v,a,b,c⟩:=h (i+1) m (by simpa using k)
   exact⟨s1,v,by rw[show j+1+i=j+(i+1) by omega];exact a,b,c⟩
  refine⟨v.toNat::row,?_,.cons (by omega) l⟩
  rw[ze,List.range'_succ];show jX tg fK E st (.int (j:Nat)::ba (List.range' (j+1) d.length))=_;rw[mW,show tg (.int (j:Nat)) st=.ok s1 from f]
  have n:ba (v.toNat::row)=.int v::ba row:=by
   show D.int ((v.toNat:Nat):Int)::ba row=_;rw[Int.toNat_of_nonneg g]
  rw[n];simp only[bA,show fK s1=.ok (.bl true) from rfl,zm,if_true,o,e]
def yI{i x:Nat}(h:l[i]?=some x):je (ba l) (i:Int)=some (.int (x:Nat)):=by
 have a:=(zg.mp h).1;rw[Jc (by rw[bC];exact a),<-Ze]
 unfold ba;rw[cj,h];rfl
def Ë(l:ac)(x:Nat):je (ba<|l++[x]) (-1)=some (.int (x:Nat)):=by
 rw[nO];unfold je vg;rw[Ta (by decide),xb (by rw[af,ah];omega)]
 have e:((-1:Int)+((ba l++[D.int (x:Nat)]).length:Nat)).toNat=(ba l).length:=by rw[af,ah];omega
 show (ba l++[D.int (x:Nat)])[((-1:Int)+((ba l++[D.int (x:Nat)]).length:Nat)).toNat]?=_;rw[e];simp
def ſ(k:Nat)(d:D):rep k [d]=List.replicate k d:=by
 unfold rep
 induction k with
 |zero=>rfl
 |succ k a=>rw[Wm,rq,a];rfl
def Ĝ{k g w:Nat}(f:k<n)(e:g<n):∃v:Nat,yC [.int k,.int g,.int w,.int n]=.ok (.int v)/\v<n:=by
 have d:Sv (.int k) (.int g)=.ok (.int ((max k g:Nat):Int)):=by
  show R.ok (D.int<|if (g:Int)>(k:Int) then (g:Int) else (k:Int))=_
  congr 2;split<;>omega
 by_cases h:w=1
 .refine⟨max k g,bB rfl<|tD<|rW (aL rfl rfl<|(yZ _ _).trans ?_)<|bH<|aL rfl rfl d,by omega⟩
  rw[Oc (by omega)]
 .have b:e2 gd (aA 2) (eI 1) [k,g,w,n]=.ok (.bl false):=aL rfl rfl ((yZ _ _).trans<|by rw[yd (by omega)])
  have a:qY (e2 gd (aA 2)<|eI 2) (e2 Di (e2 Ek (aA 1)<|eI 2)<|e2 Ek (aA 0)<|eI 2) [k,g,w,n]=.ok (.bl<|decide ((w:Int)=2)&&decide ((g:Int)/2<(k:Int)/2)):=tE (aL rfl rfl<|yZ _ _) λ_=>aL (aL rfl rfl<|Zu<|by decide) (aL rfl rfl<|Zu<|by decide) rfl
  cases c:decide ((w:Int)=2)&&decide ((g:Int)/2<(k:Int)/2)
  .exact⟨g,bB rfl<|aH (iY b rfl)<|aH (iY (a.trans<|by rw[c]) rfl)<|bH rfl,e⟩
  .refine⟨min (n-1)<|k-k%2+g%2,bB rfl<|aH (iY b rfl)<|tD<|rW (a.trans<|by rw[c])<|bH<|aL (aL rfl rfl rfl) (aL (aL rfl (aL rfl rfl<|tH<|by decide) rfl) (aL rfl rfl<|tH<|by decide) rfl) ?_,by omega⟩
   show R.ok (D.int<|if (k:Int)-(k:Int)%2+(g:Int)%2<(n:Int)-1 then (k:Int)-(k:Int)%2+(g:Int)%2 else (n:Int)-1)=_
   congr 2;split<;>omega
abbrev Zj(ns:jp)(f:Int)(b ds:ac)(n:Nat)(S rk:dL)(a x10 cf:f8):ua:=[some<|.v<|.lst<|ns.map D.int,some<|.v<|.int 0,some<|.v<|.int 4,some<|.v<|.int f,some<|.v<|.lst<|ba b,some<|.v<|.lst<|ba ds,some<|.v<|.int n,some<|.o .l S,some<|.o .l rk,a,x10,cf,none,none]
section
variable{f:Int}{s d0 d1 d2 d3 d4:Nat}
def Ι(hn:1<=n/\n<=6)(hc:c<=3)(hs:1<=s/\s<=6)(O:d2<4)(S:am)(rk:ac)(hS:S.length<=100)(H:rk.length<=100)(k:Nat)(K:k<n)(x10 cf:f8) :
  ∃r v Y X,sU (Zj ns f (List.replicate c n++[s]) [d0,d1,d2,d3,d4] n (Rb S) (ba rk) k x10 cf)=.ok (.nx<|Zj ns f (List.replicate c n++[s]) [d0,d1,d2,d3,d4] n (Rb<|S++[r]) (ba<|rk++[v]) k Y X)/\r.length=c/\∀z∈r,z<n:=by
 have B:∀m∈List.replicate c n++[s],1<=m/\m<=1000:=λm o=>by
  rcases Pg.mp o with h|h
  .rw[(List.mem_replicate.mp h).2];omega
  .rw[Od.mp h];omega
 have J:(List.replicate c n++[s]).length=c+1:=by simp
 obtain⟨a,c0,A⟩:=Hy ns (0+1+k) (by omega)
 rw[show ((0+1+k:Nat):Int)=0+1+(k:Int) by omega]at A
 obtain⟨d,V,M⟩:=VT a (List.replicate c n++[s]) B (by omega)
 have P:∃l,(ud (e2 gd (e2 oZ (aA 3)<|eI 2)<|eI 0) (bU 11<|cT [12] (bb 12) (qZ<|e1 jE<|aA 4) fK sS) cJ) (Zj ns f (List.replicate c n++[s]) [d0,d1,d2,d3,d4] n (Rb S) (ba rk) k a<|D.lst<|ba d)=.ok (.nx<|Zj ns f (List.replicate c n++[s]) [d0,d1,d2,d3,d4] n (Rb S) (ba rk) k a<|D.lst<|ba l)/\Fits l (List.replicate c n++[s]):=by
  have t:(e2 gd (e2 oZ (aA 3)<|eI 2)<|eI 0) (Zj ns f (List.replicate c n++[s]) [d0,d1,d2,d3,d4] n (Rb S) (ba rk) k a<|D.lst<|ba d)=.ok (.bl<|decide (f%2=0)):=aL (aL rfl rfl<|tH<|by decide) rfl<|yZ _ _
  cases y:decide (f%2=0)
  .exact⟨d,iY (t.trans<|by rw[y]) rfl,M⟩
  .obtain⟨l,e,q⟩:=OF (tg:=bb 12) (E:=sS) (st:=Zj ns f (List.replicate c n++[s]) [d0,d1,d2,d3,d4] n (Rb S) (ba rk) k a<|D.lst<|ba d) (List.replicate c n++[s]) 0 λi m o=>by
    obtain⟨v,e,E,C⟩:=Dr a (11+((0+i:Nat):Int)) (m:=(m:Int)) (by have:=B m<|Gj o;omega)
    exact⟨_,v,rfl,aJ (aR rfl<|aR (aL rfl rfl rfl)<|aR (aL rfl rfl<|fX<|yI<|by rw[Ut];exact o) rfl) e,E,C⟩
   refine⟨l,rW (t.trans<|by rw[y])<|aZ<|gJ (yG (n:=(List.replicate c n++[s]).length) ?_<|by omega) (by simp;omega) ?_,q⟩
   .show R.ok (D.int ((ba<|List.replicate c n++[s]).length:Nat))=_;rw[bC]
   .rw[<-IJ]at e;exact e
 obtain⟨l,u,q⟩:=P;obtain⟨r,x,rfl,w,I,Z⟩:=q.cut;have T:∃j,jX (bb 13) fK zW (Zj ns f (List.replicate c n++[s]) [d0,d1,d2,d3,d4] n (Rb S) (ba rk) k a<|D.lst<|ba<|r++[x]) (ba r)=.ok (ba j)/\j.length=r.length/\∀z∈j,z<n:=UT r λg L=>by
  obtain⟨v,e,G⟩:=Ĝ (w:=d4) K<|I g L;exact⟨_,v,rfl,aJ (aR rfl<|aR rfl<|aR (aL rfl rfl<|fX (d:=.int d4) rfl) rfl) e,G⟩
 obtain⟨j,Q,p,F⟩:=T;obtain⟨b,W⟩:∃b:Nat,e2 qb (fJ<|aC (eI 0)<|aC (eI 0)<|aC (eI 1)<|aC (e2 Fo (eI 10)<|eI 29) aK) (e2 qb (aA 5)<|eI 2) (Zj ns f (List.replicate c n++[s]) [d0,d1,d2,d3,d4] n (Rb<|S++[j]) (ba rk) k a<|D.lst<|ba<|r++[x])=.ok (.int (b:Nat)):=by
  have U:fJ (aC (eI 0)<|aC (eI 0)<|aC (eI 1)<|aC (e2 Fo (eI 10)<|eI 29) aK) (Zj ns f (List.replicate c n++[s]) [d0,d1,d2,d3,d4] n (Rb<|S++[j]) (ba rk) k a<|D.lst<|ba<|r++[x])=.ok (.lst<|ba [0,0,1,10^29]):=cW<|aR rfl<|aR rfl<|aR rfl<|aR (aL rfl rfl<|aO<|by decide) rfl
  obtain⟨b,N⟩:∃b,[0,0,1,10^29][d2]?=some b:=⟨_,Ze<|by simpa using O⟩
  exact⟨b,aL U (aL rfl rfl<|fX (d:=.int d2) rfl)<|fX<|yI N⟩
 refine⟨j,b+x,a,D.lst<|ba<|r++[x],aH (aZ<|aJ (aR rfl<|aR (aL (aL rfl rfl rfl) rfl rfl) rfl) A)<|aH (aZ<|aJ rfl V)<|aH u<|aH (st':=Zj ns f (List.replicate c n++[s]) [d0,d1,d2,d3,d4] n (Rb<|S++[j]) (ba rk) k a<|D.lst<|ba<|r++[x]) ?_ ?_,by rw[p,w],F⟩
 .rw[RT];refine vB (d:=.lst<|ba j) (gJ (oW (xs:=ba r) ?_) (by rw[bC,w];omega) Q) rfl (by rw[oO];omega)
  show R.ok (D.lst<|cut (ba<|r++[x]) none<|some<|-1)=_;rw[nO,ě]
 .have:ba (rk++[b+x])=ba rk++[.int<|(b:Int)+(x:Int)]:=by rw[nO];push_cast;rfl
  rw[this];exact vB (d:=.int<|(b:Int)+(x:Int)) (aL W (aL rfl rfl<|fX<|Ë r x) rfl) rfl (by rw[bC];omega)
theorem kP(o:1<=n/\n<=6)(q:c<=3)(m:1<=s/\s<=6)(u:d2<4):∀(a:ac) (S:am) (rk:ac) (d x10 cf:f8),(∀x∈a,x<n)->S.length+a.length<=100->rk.length=S.length->(∀r∈S,r.length=c/\∀z∈r,z<n)->
  ∃b g y l k,Eb (bb 9) sU (ba a) (Zj ns f (List.replicate c n++[s]) [d0,d1,d2,d3,d4] n (Rb S) (ba rk) d x10 cf)=.ok (.nx<|Zj ns f (List.replicate c n++[s]) [d0,d1,d2,d3,d4] n (Rb b) (ba g) y l k)/\b.length=S.length+a.length/\g.length=b.length/\∀r∈b,r.length=c/\∀z∈r,z<n
 |[],S,rk,d,x10,cf,_,_,j,i=>⟨S,rk,d,x10,cf,rfl,rfl,j,i⟩
 |x::a,S,rk,d,x10,cf,p,F,j,i=>by
  rw[ze]at F;obtain⟨r,v,l,k,t,B,A⟩:=Ι (ns:=ns) (f:=f) (d0:=d0) (d1:=d1) (d3:=d3) (d4:=d4) o q m u S rk (by omega) (by omega) x (p x Gb) x10 cf
  obtain⟨b,g,w,J,I,e,H,K,G⟩:=kP o q m u a (S++[r]) (rk++[v]) x l k (λx E=>p x<|Xb _ E) (by rw[af,ah];omega) (by rw[af,af,ah,ah,j]) (λD C=>by
   rcases Pg.mp C with h|h
   .exact i D h
   .rw[Od.mp h];exact⟨B,A⟩)
  exact⟨b,g,w,J,I,dI rfl t e,by rw[H,af,ah,ze];omega,K,G⟩
def ĝ(ns:jp):∃S rk c,mY [.lst<|ns.map D.int,.int 0,.int 4]=.ok (.tup [.lst<|Rb S,.lst<|ba rk])/\ya S rk c/\S.length<=4:=by
 obtain⟨f,P,F⟩:=Hy ns 0 (by omega)
 obtain⟨ds,p,a⟩:∃ds,(aY (bU 5<|cT [9] (bb 9) (qZ<|eI 5) fK kI)<|ud (e2 gd (e2 oZ (aA 3)<|eI 2)<|eI 1) (bU 5<|aM mC<|aC (e2 Ek (aA 3)<|eI 2)<|aC (aA 4) aK) cJ) [D.lst<|ns.map D.int,some<|.v<|.int 0,some<|.v<|.int 4,f,D.lst<|ba [4,3,4,4,3],none,none,none,none,none,none,none,none,none]=.ok (.nx [D.lst<|ns.map D.int,some<|.v<|.int 0,some<|.v<|.int 4,f,D.lst<|ba [4,3,4,4,3],D.lst<|ba ds,none,none,none,none,none,none,none,none])/\Fits ds [4,3,4,4,3]:=by
  obtain⟨b,e,B⟩:=OF (tg:=bb 9) (E:=kI) (st:=[D.lst<|ns.map D.int,some<|.v<|.int 0,some<|.v<|.int 4,f,D.lst<|ba [4,3,4,4,3],none,none,none,none,none,none,none,none,none]) [4,3,4,4,3] 0 λi m d=>by
   have K:0<m:=by
    have:=Gj d;simp at this;omega
   obtain⟨v,e,u,q⟩:=Dr f (1+((0+i:Nat):Int)) (m:=(m:Int)) (by omega)
   exact⟨_,v,rfl,aJ (aR rfl<|aR (aL rfl rfl rfl)<|aR (aL rfl rfl<|fX<|yI<|by rw[Ut];exact d) rfl) e,u,q⟩
  obtain⟨H,G,j⟩:=VT (f/2) [4,3,4,4,3] (λm d=>by simp at d;omega) (by decide)
  have t:(e2 gd (e2 oZ (aA 3)<|eI 2)<|eI 1) [D.lst<|ns.map D.int,some<|.v<|.int 0,some<|.v<|.int 4,f,D.lst<|ba [4,3,4,4,3],D.lst<|ba b,none,none,none,none,none,none,none,none]=.ok (.bl<|decide (f%2=1)):=aL (aL rfl rfl<|tH<|by decide) rfl<|yZ _ _
  have k:(bU 5<|cT [9] (bb 9) (qZ<|eI 5) fK kI) [D.lst<|ns.map D.int,some<|.v<|.int 0,some<|.v<|.int 4,f,D.lst<|ba [4,3,4,4,3],none,none,none,none,none,none,none,none,none]=.ok (.nx [D.lst<|ns.map D.int,some<|.v<|.int 0,some<|.v<|.int 4,f,D.lst<|ba [4,3,4,4,3],D.lst<|ba b,none,none,none,none,none,none,none,none]):=aZ<|gJ (yG (n:=5) rfl<|by omega) (by simp) e
  cases o:decide (f%2=1)
  .exact⟨b,aH k<|iY (t.trans<|by rw[o]) rfl,B⟩
  .exact⟨H,aH k<|rW (t.trans<|by rw[o])<|aZ<|aJ (aR (aL rfl rfl<|Zu<|by decide) rfl) G,j⟩
 cases a with|cons O a=>cases a with|cons N a=>cases a with|cons C a=>cases a with|cons M a=>cases a with|cons L a=>
 cases a;rename_i d0 d1 d2 d3 d4;obtain⟨s,A,es⟩:∃s,[2,3,4,6][d3]?=some s/\1<=s/\s<=6:=by
  have:d3=0\/d3=1\/d3=2\/d3=3:=by omega
  rcases this with rfl|rfl|rfl|rfl<;>exact⟨_,rfl,by decide⟩
 obtain⟨S,rk,J,T,Q,e,y,w,n⟩:=kP (ns:=ns) (f:=f) (n:=1+d0) (c:=1+d1) (s:=s) (d0:=d0) (d1:=d1) (d2:=d2) (d3:=d3) (d4:=d4) (by omega) (by omega) es C (List.range<|1+d0) [] [] none none none (λx g=>Jd.mp g) (by simp;omega) rfl<|λ_ h=>(nomatch h)
 rw[Vk,vq,Ut]at y;refine⟨S,rk,1+d1,bB rfl<|aH (aZ<|aJ rfl F)<|aH (aZ (d:=.lst<|ba [4,3,4,4,3])<|cW rfl) ?_,⟨by omega,by omega,by omega,by omega,λr l=>⟨(n r l).1,λx g=>by have:=(n r l).2 x g;omega⟩,w⟩,by omega⟩
 obtain⟨I,z,U⟩:=R.ja<|show Ho _ _=_ from p
 refine(Ê (a:=bU 5<|cT [9] (bb 9) (qZ<|eI 5) fK kI)).symm.trans (aH p<|aH (aZ (d:=.int ((1+d0:Nat):Int))<|aL rfl (aL rfl rfl<|fX (d:=.int d0) rfl) ?_)<|aH (aZ (d:=.lst<|ba<|List.replicate (1+d1) (1+d0)++[s])<|aL (x:=.lst<|List.replicate (1+d1)<|.int ((1+d0:Nat):Int)) (y:=.lst [.int (s:Nat)]) ?_ ?_ ?_)<|aH (oN<|cW rfl)<|aH (oN<|cW rfl)<|aH (dN (yG rfl<|by omega) e)<|bH ?_)
 .show R.ok (D.int<|1+(d0:Int))=_
  push_cast;rfl
 .show (R.ok [D.int ((1+d0:Nat):Int)]).bind _=_;rw[bA,show (e2 lB (eI 1)<|e2 qb (aA 5)<|eI 1) _=.ok (.int ((1+d1:Nat):Int)) from aL rfl (aL rfl rfl<|fX (d:=.int d1) rfl) (by show R.ok (D.int<|1+(d1:Int))=_;push_cast;rfl),bA]
  show aX _ (R.ok<|D.lst<|rep ((1+d1:Nat):Int).toNat [.int ((1+d0:Nat):Int)])=_;rw[aO ⟨fY (by simp),fY (by simp;omega),by omega,by omega⟩,dn,ſ]
 .have E:fJ (aC (eI 2)<|aC (eI 3)<|aC (eI 4)<|aC (eI 6) aK) (List.set [some<|Sl.v<|D.lst<|ns.map D.int,some<|.v<|.int 0,some<|.v<|.int 4,f,D.lst<|ba [4,3,4,4,3],D.lst<|ba [d0,d1,d2,d3,d4],none,none,none,none,none,none,none,none] 6 ((1+d0:Nat):Int))=.ok (.lst<|ba [2,3,4,6]):=cW rfl;exact cW<|aR (aL E (aL rfl rfl<|fX (d:=.int d3) rfl)<|fX<|yI A) rfl
 .show aX _ _=_;rw[aO<|fY<|by simp;omega]
  unfold ba;rw[Gi,List.map_replicate];rfl
 .show (R.ok [D.lst<|Rb S,.lst<|ba rk]).bind _=_;rw[bA];exact aO<|fY<|show 2<=10000000 by decide
end
section
variable{S:am}{rk:ac}{c n:Nat}
abbrev iK(m n:Nat):Prop:=∀g∈aP m,g∈aP n
def rH(a:n≠0):aP n≠[]:=λz=>a (by
 have:=gU n;rw[z]at this;exact this.symm)
def oR(d:n≠0):(∃r∈aP n,(rk.getD r 0:Int)=lN rk n)/\∀r∈aP n,(rk.getD r 0:Int)<=lN rk n:=by
 obtain⟨c,b⟩:=QG (l:=(aP n).map λr=>(rk.getD r 0)) (by simpa using rH d)
 obtain⟨r,a,e⟩:=xf.mp c;exact⟨⟨r,a,e⟩,λr a=>b _<|xf.mpr ⟨r,a,rfl⟩⟩
def ib(rk:ac)(m:Nat):Bool:=decide (lN rk m%2=0)
def Ce(m:Nat):Nat:=(aP m).length
def Fh(rk:ac)(m:Nat):Nat:=cH<|(aP m).filter λr=>!decide ((rk.getD r 0:Int)=lN rk m)
def mK:r∈aP (Fh rk m)↔r∈aP m/\(rk.getD r 0:Int)≠lN rk m:=by
 unfold Fh;rw[kY];simp
def qT{k:Nat}(h:m<2^k):Fh rk m<2^k:=mL λr a=>aW h (Nd.mp a).1
def dX(M:ya S rk c) (b:m<2^S.length) (h:q∈eV S c m):Tc S c q/\iK q m/\q<2^S.length:=by
 obtain⟨r,a,rfl,d⟩:=mH.mp h;exact⟨XE M b a d,λg e=>OG M b a e,Wy⟩
def SG(M:ya S rk c){m z:Nat}(f:m<2^S.length)(b:Tc S c z)(d:iK z m):∃q∈eV S c m,iK z q:=by
 obtain⟨r,e⟩:=Hj _<|rH b.1;have a:=FT M f b d e;exact⟨_,mH.mpr ⟨r,d r e,rfl,RR b a⟩,a⟩
def yJ(M:ya S rk c){p g:Nat}(e:m<2^S.length)(h:p∈eV S c m)(f:q∈eV S c m)(l:g∈aP p)(k:g∈aP q):p=q:=by
 obtain⟨a,j,rfl,_⟩:=mH.mp h;obtain⟨b,i,rfl,_⟩:=mH.mp f;have d:=aW e i;exact OR M d<|((lM M d).mp<|aF.mp k).trans ((lM M<|aW e j).mp<|aF.mp l).symm
def GI{p:Nat}(h:iK m p)(c:r∈aP p)(b:r∉aP m):Ce m<Ce p:=by
 have:=(dj.mpr ⟨b,dG m⟩).length_le_of_subset λx a=>by
  rcases Uc.mp a with z|z
  .rwa [z]
  exact h x z
 rwa [ze]at this
def UG(M:ya S rk c){p:Nat}(i:p≠0)(f:p<2^S.length)(h:q∈eV S c (Fh rk p)):Ce q<Ce p/\iK q p:=by
 obtain⟨⟨r,d,e⟩,_⟩:=oR i;obtain⟨_,b,_⟩:=dX M (qT f) h;exact⟨GI (λg a=>(mK.mp<|b g a).1) d λz=>(mK.mp<|b r z).2 e,λg a=>(mK.mp<|b g a).1⟩
inductive ig (S:am) (c:Nat) (rk:ac) (w:Bool):wp
 |out {P Y:Nat}:Y∈eV S c (Fh rk P)->ib rk Y≠w->ig S c rk w P Y
 |go {P Q Y:Nat}:Q∈eV S c (Fh rk P)->ib rk Q=w->ig S c rk w Q Y->ig S c rk w P Y
theorem gC(M:ya S rk c){w:Bool}{P:Nat}(h:ig S c rk w P Y):P≠0->P<2^S.length->Tc S c Y/\iK Y (Fh rk P)/\Y<2^S.length/\Ce Y<Ce P/\ib rk Y≠w:=by
 induction h with
 |out f j=>
  intro i e;obtain⟨a,b,d⟩:=dX M (qT e) f;exact⟨a,b,d,(UG M i e f).1,j⟩
 |go f j _ k=>
  intro i e;obtain⟨a,b,d⟩:=dX M (qT e) f;obtain⟨o,n,m,q,l⟩:=k a.1 d;have r:=UG M i e f;exact⟨o,λg p=>b g (mK.mp<|n g p).1,m,by lia,l⟩
theorem bNr(M:ya S rk c){w:Bool}{P:Nat}(h:ig S c rk w P Y):P≠0->P<2^S.length->∀{Z g:Nat},ig S c rk w P Z->g∈aP Y->g∈aP Z->Y=Z:=by
 induction h with
 |out i s=>
  intro t b Z g m k j;cases m with
  |out f e=>exact yJ M (qT b) i f k j
  |go f e n=>
   obtain⟨a,_,d⟩:=dX M (qT b) f;obtain⟨_,l,_⟩:=gC M n a.1 d;have:=yJ M (qT b) i f k (mK.mp<|l g j).1;grind
 |go i s f r=>
  intro t b Z g m k j;obtain⟨a,_,d⟩:=dX M (qT b) i;obtain⟨_,l,_⟩:=gC M f a.1 d;have p:=(mK.mp<|l g k).1;cases m with
  |out e n=>
   have:=yJ M (qT b) i e p j;simp_all
  |go e n o=>
   obtain⟨v,_,u⟩:=dX M (qT b) e;obtain⟨_,q,_⟩:=gC M o v.1 u;have:=yJ M (qT b) i e p (mK.mp<|q g j).1;subst this;exact r a.1 d o k j
theorem bJ0{z p:Nat}(j:z≠0)(c:iK z p) (d:r∈aP z) (e:(rk.getD r 0:Int)=lN rk p):lN rk z=lN rk p:=by
 obtain⟨⟨b,g,m⟩,i⟩:=oR (rk:=rk) j;have a:p≠0:=λf=>by
  have:=c r d;rw[f]at this;exact absurd (aF.mp this) (by simp)
 obtain⟨_,h⟩:=oR (rk:=rk) a;have l:=i r d;have k:=h b<|c b g;lia
theorem wF(M:ya S rk c){w:Bool}:∀(k P:Nat),Ce P<=k->P≠0->P<2^S.length->ib rk P=w->∀{Z:Nat},Tc S c Z->iK Z P->(∃Y,ig S c rk w P Y/\iK Z Y)\/(ib rk Z=w/\∃r∈aP Z,∀Y,ig S c rk w P Y->r∉aP Y)
 |0,P,u,l,_,_,_,_,_=>absurd (Vm.mp<|Nat.le_zero.mp u)<|rH l
 |k+1,P,u,l,b,B,Z,o,t=>by
  by_cases s:∃r∈aP Z,(rk.getD r 0)=lN rk P
  .obtain⟨r,h,e⟩:=s;refine .inr ⟨?_,r,h,λY hy lx=>?_⟩
   .unfold ib at B ⊢
    rwa [bJ0 o.1 t h e]
   obtain⟨_,m,_⟩:=gC M hy l b;exact(mK.mp<|m r lx).2 e
  obtain⟨Q,f,q⟩:=SG M (qT b) o λg v=>mK.mpr ⟨t g v,λe=>s ⟨g,v,e⟩⟩
  obtain⟨A,D,z⟩:=dX M (qT b) f;have E:=UG M l b f
  by_cases i:ib rk Q=w
  .rcases wF M k Q (by lia) A.1 z i o q with ⟨Y,hy,n⟩|⟨e1,r,h,C⟩
   .exact .inl ⟨Y,.go f i hy,n⟩
   refine .inr ⟨e1,r,h,λY hy lx=>?_⟩
   have y:=q r h;cases hy with
   |out j p=>
    rw[<-(yJ M (qT b) f j y lx)]at p;exact p i
   |go j p x=>
    obtain⟨a,_,d⟩:=dX M (qT b) j;obtain⟨_,m,_⟩:=gC M x a.1 d;have:=yJ M (qT b) f j y (mK.mp<|m r lx).1;subst this;exact C Y x lx
  exact .inl ⟨Q,.out f i,q⟩
def Cm(base:Nat)(good:Bool):Nat:=if (decide (base%2=0))==good then base else base+1
theorem OQ(base:Nat)(good:Bool):(Cm base good%2=0↔good=true)/\base<=Cm base good:=by
 unfold Cm;grind
def Bo(f:li)(a:Nat)(l:ac):Nat:=l.foldl (λa y=>max a<|f y+1) a
theorem uy(f:li):∀(l:ac)(a:Nat),a<=Bo f a l/\(∀y∈l,f y+1<=Bo f a l)/\(Bo f a l=a\/∃y∈l,Bo f a l=f y+1)
 |[],a=>⟨Fc _,λ_ h=>(nomatch h),.inl rfl⟩
 |y::l,a=>by
  obtain⟨g,d,c⟩:=uy f l<|max a<|f y+1;have e:Bo f a (y::l)=Bo f _ l:=rfl;rw[e];refine⟨by lia,λz hz=>?_,?_⟩
  .rcases Uc.mp hz with q|q
   .rw[q];lia
   exact d z q
  rcases c with q|⟨z,hz,q⟩
  .by_cases b:f y+1<=a
   .exact .inl (by lia)
   exact .inr ⟨y,Gb,by lia⟩
  exact .inr ⟨z,Xb _ hz,q⟩
def xm(S:am)(c:Nat)(rk:ac)(L:xL):Prop:=∀X,X≠0->X<2^S.length->∀Y,Y∈L X↔ig S c rk (ib rk X) X Y
def Bi(rk:ac)(L:xL)(base:Nat):Nat->Nat->Nat
 |0,_=>0
 |k+1,X=>Bo (Bi rk L base k) (Cm base<|ib rk X)<|L X
def rj(rk:ac)(L:xL)(base:Nat):Nat->Nat->Nat->Nat
 |0,_,_=>0
 |k+1,X,g=>match (L X).find? λY=>Y.testBit g with
  |some Y=>rj rk L base k Y g
  |none=>Bi rk L base (k+1) X
section
variable{L:xL}{base:Nat}
def vC{X:Nat}(h:X≠0):1<=Ce X:=qB.mpr<|rH h
def bJ1{k X:Nat}:Cm base (ib rk X)<=Bi rk L base (k+1) X:=(uy _ _ _).1
def bQy(b:xm S c rk L){k X:Nat}(d:X≠0)(a:X<2^S.length)(h:ig S c rk (ib rk X) X Y):Bi rk L base k Y<Bi rk L base (k+1) X:=(uy _ (L X) _).2.1 Y<|(b X d a Y).mpr h
def GX(d:xm S c rk L){k X:Nat}(e:X≠0)(b:X<2^S.length):Bi rk L base (k+1) X=Cm base (ib rk X)\/∃Y,ig S c rk (ib rk X) X Y/\Bi rk L base (k+1) X=Bi rk L base k Y+1:=by
 rcases (uy _ (L X) _).2.2 with h|⟨Y,a,h⟩
 .exact .inl h
 exact .inr ⟨Y,(d X e b Y).mp a,h⟩
theorem QV(M:ya S rk c)(f:xm S c rk L):∀(k X:Nat),Ce X<=k->X≠0->X<2^S.length->(Bi rk L base k X%2=0↔ib rk X=true)
 |0,X,l,a,_=>by have:=vC a;lia
 |k+1,X,l,a,d=>by
  rcases GX f a d with e|⟨Y,m,e⟩
  .rw[e];exact(OQ base _).1
  obtain⟨h,_,g,o,b⟩:=gC M m a d;have n:=QV M f k Y (by lia) h.1 g
  cases j:ib rk X<;>cases i:ib rk Y<;>rw[j,i]at b<;>first|exact(b rfl).elim|skip
  .constructor
   .lia
   intro z;cases z
  constructor
  .intro _;rfl
  lia
def qA(M:ya S rk c)(h:xm S c rk L){k X g:Nat}(d:X≠0)(b:X<2^S.length)(f:ig S c rk (ib rk X) X Y)(e:g∈aP Y):rj rk L base (k+1) X g=rj rk L base k Y g:=by
 show (match (L X).find? λY=>Y.testBit g with|some Y=>rj rk L base k Y g|none=>Bi rk L base (k+1) X)=_
 cases a:(L X).find? λY=>Y.testBit g with
 |none=>
  exact((List.find?_eq_none.mp a Y<|(h X d b Y).mpr f)<|aF.mp e).elim
 |some Z=>
  have i:=YJ a;rw[bNr M f d b ((h X d b Z).mp<|RA a) e<|aF.mpr i]
def Ez(d:xm S c rk L){k X g:Nat}(f:X≠0)(b:X<2^S.length)(h:∀Y,ig S c rk (ib rk X) X Y->g∉aP Y):rj rk L base (k+1) X g=Bi rk L base (k+1) X:=by
 show (match (L X).find? λY=>Y.testBit g with|some Y=>rj rk L base k Y g|none=>Bi rk L base (k+1) X)=_
 cases a:(L X).find? λY=>Y.testBit g with
 |none=>rfl
 |some Z=>
  have e:=YJ a;exact(h Z ((d X f b Z).mp<|RA a)<|aF.mpr e).elim
theorem Hs(M:ya S rk c)(e:xm S c rk L):∀(k X:Nat),Ce X<=k->X≠0->X<2^S.length->∀g,base<=rj rk L base k X g/\rj rk L base k X g<=Bi rk L base k X
 |0,X,l,a,_,_=>by have:=vC a;lia
 |k+1,X,l,a,d,g=>by
  have p:=(OQ base<|ib rk X).2;have q:=bJ1 (rk:=rk) (L:=L) (base:=base) (k:=k) (X:=X)
  by_cases h:∃Y,ig S c rk (ib rk X) X Y/\g∈aP Y
  .obtain⟨Y,b,f⟩:=h;obtain⟨j,_,i,n,_⟩:=gC M b a d;have m:=Hs M e k Y (by lia) j.1 i g
   have o:=bQy (base:=base) e (k:=k) a d b;rw[qA M e a d b f];lia
  rw[Ez e a d λY b f=>h ⟨Y,b,f⟩]
  lia
theorem RV(M:ya S rk c)(f:xm S c rk L):∀(k X:Nat),Ce X<=k->X≠0->X<2^S.length->∀{Z:Nat},Tc S c Z->iK Z X->∃T,(∃g∈aP Z,rj rk L base k X g=T)/\(∀g∈aP Z,rj rk L base k X g<=T)/\(T%2=0↔ib rk Z=true)
 |0,X,i,a,_,_,_,_=>by have:=vC a;lia
 |k+1,X,i,a,d,Z,l,o=>by
  rcases wF M (k+1) X i a d rfl l o with ⟨Y,j,b⟩|⟨e,r,p,q⟩
  .obtain⟨n,_,m,u,_⟩:=gC M j a d;obtain⟨T,⟨g,h,v⟩,t,s⟩:=RV M f k Y (by lia) n.1 m l b
   exact⟨T,⟨g,h,by rwa [qA M f a d j<|b g h]⟩,λg h=>by rw[qA M f a d j<|b g h];exact t g h,s⟩
  refine⟨Bi rk L base (k+1) X,⟨r,p,Ez f a d q⟩,λg _=>(Hs M f (k+1) X i a d g).2,?_⟩
  rw[e];exact QV M f (k+1) X i a d
inductive Row (S:am) (c:Nat) (rk:ac) (base:Nat):wp
 |one {Z:Nat}:Tc S c Z->Row S c rk base Z (Cm base<|ib rk Z)
 |up {Y Z v:Nat}:Row S c rk base Y v->Tc S c Z->iK Y Z->ib rk Y≠ib rk Z->Row S c rk base Z (v+1)
def Row.lp{v:Nat}(h:Row S c rk base Z v):Tc S c Z:=by
 cases h with
 |one h=>exact h
 |up _ h _ _=>exact h
theorem UH(M:ya S rk c)(d:xm S c rk L):∀(k X:Nat),Ce X<=k->Tc S c X->X<2^S.length->Row S c rk base X (Bi rk L base k X)
 |0,X,l,a,_=>by have:=vC a.1;lia
 |k+1,X,l,a,b=>by
  rcases GX d a.1 b with e|⟨Y,n,e⟩
  .rw[e];exact .one a
  obtain⟨j,i,h,o,f⟩:=gC M n a.1 b;rw[e];exact .up (UH M d k Y (by lia) j h) a (λg m=>(mK.mp<|i g m).1) f
end
theorem km(M:ya S rk c)(b:n<2^S.length):(aP n).length<=8:=by
 have:=nM S.length _ (dG n) λx a=>aW b a
 have:=M.most;lia
theorem VR(M:ya S rk c)(b:n<2^S.length){a:Nat}{st:ua}(h:st[a]?=some (some<|.v<|.int (n:Int))):aM cC (aC (aA a) aK) st=.ok (.lst<|ba<|aP n):=
 aJ (aR (av h) rfl) (lX b (by have:=M.most;lia))
theorem Κ(M:ya S rk c)(a:n<2^S.length)(e:n≠0):tW [mD S rk c,.int n]=.ok (.int<|Fh rk n):=by
 have f:=km M a;exact bB rfl<|aH (aZ<|aJ rfl<|RH M a e)<|bH<|aJ (aR (gJ (oW<|VR M a rfl) (by rw[bC];lia) (iG (aP n) λr b=>by
  have d:r<rk.length:=by rw[M.Jp];exact aW a b
  exact⟨_,rfl,(aL (aL (qH) rfl<|fX (by
   rw[Jc (by rwa [bC])]
   simp[ba,List.getElem?_eq_getElem d])) rfl<|Fv _ _),rfl⟩)) rfl)<|Ir (λr b=>by have:=aW a (Nd.mp b).1;have:=M.most;lia) (by have:=Ro (λr=>!decide ((rk.getD r 0)=lN rk n))<|aP n;lia)
theorem lP(f:li)(q:no):∀(c ps:ac),ps.Nodup->(c.foldl (λps r=>if f r∉ps/\q (f r)=true then ps++[f r] else ps) ps).Nodup
 |[],_,h=>h
 |r::c,ps,h=>by
  rw[kn];refine lP f q c _ ?_
  split
  .refine Zm.mpr ⟨h,dj.mpr ⟨RB,Yt⟩,λa g b d e=>?_⟩
   simp_all
  exact h
def P_:(eV S c m).Nodup:=lP _ _ _ _ Yt
def Yf(l:ac):Nat:=(l.map Ce).sum
def VG(l m:ac):Yf (l++m)=Yf l+Yf m:=by unfold Yf;simp
def bNs{l:ac}(f:l.Nodup)(u:∀q∈l,iK q m)(d:∀p∈l,∀q∈l,∀g,g∈aP p->g∈aP q->p=q):Yf l<=Ce m:=by
 have h:∀l:ac,l.Nodup->(∀p∈l,∀q∈l,∀g,g∈aP p->g∈aP q->p=q)->(l.flatMap aP).Nodup/\(l.flatMap aP).length=Yf l:=λl=>by
  induction l with
  |nil=>exact λ_ _=>⟨Yt,rfl⟩
  |cons p l s=>
   intro f d;obtain⟨k,n⟩:=dj.mp f;obtain⟨t,w⟩:=s n λp v q c=>d p (Xb _ v) q<|Xb _ c
   refine⟨Zm.mpr ⟨dG p,t,λa ha b j e=>?_⟩,?_⟩
   .obtain⟨q,c,j⟩:=Jt.mp j;subst e;rw[d p Gb q (Xb _ c) a ha j]at k;exact k c
   unfold Yf Ce;simp
 obtain⟨r,o⟩:=h l f d;rw[<-o];exact r.length_le_of_subset λg i=>by
  obtain⟨q,c,i⟩:=Jt.mp i;exact u q c g i
theorem Ì(M:ya S rk c){p:Nat}(n:p≠0)(d:p<2^S.length):Yf (eV S c<|Fh rk p)<Ce p:=by
 obtain⟨⟨r,i,e⟩,_⟩:=oR n;have h:=bNs (m:=Fh rk p) P_ (λq j=>(dX M (qT d) j).2.1) λa m b l g h f=>yJ M (qT d) m l h f
 have f:Ce (Fh rk p)<Ce p:=GI (λg k=>(mK.mp k).1) i λz=>(mK.mp z).2 e
 lia
theorem PQ(q:no):∀(l:ac),(∀x∈l,1<=Ce x)->(l.filter λx=>!q x).length+Yf (l.filter q)<=Yf l
 |[],_=>Fc _
 |x::l,h=>by
  have c:=PQ q l λx b=>h x<|Xb _ b
  have e:Yf (x::l)=Ce x+Yf l:=by unfold Yf;simp
  cases a:q x
  .grind
  rw[Ym (by simp[a]),Xm (by simp[a])]
  have e2:Yf (x::l.filter q)=Ce x+Yf (l.filter q):=by unfold Yf;simp
  lia
abbrev Gx(S:am)(rk:ac)(c n:Nat)(F T:ac)(x4 a:f8):ua:=[some<|.v<|mD S rk c,some<|.v<|.int n,some<|.o .l<|ba F,some<|.o .l<|ba T,x4,a]
def Yy(M:ya S rk c)(b:n<2^S.length)(e:n≠0){a:Nat}{st:ua}(h:st[a]?=some (some<|.v<|.int (n:Int)))(d:st[0]?=some (some<|.v<|mD S rk c)):aM jJ (aC (aA 0)<|aC (aA a) aK) st=.ok (.bl<|ib rk n):=
 aJ (aR (by simp[d])<|aR (av h) rfl) (Ż M b e)
def WG(p q:Bool):gd (.bl p) (.bl q)=.ok (.bl<|p==q):=aO ⟨qh 64,rfl,rfl⟩
theorem YE(M:ya S rk c)(g:n<2^S.length)(i:n≠0){x4:f8}:∀(l F T:ac)(f:f8),(∀q∈l,q≠0/\q<2^S.length)->F.length+l.length<=1000->T.length+l.length<=1000->
  ∃d,Eb (bb 5) iN (ba l) (Gx S rk c n F T x4 f)=.ok (.nx<|Gx S rk c n (F++l.filter λq=>!(ib rk q==ib rk n)) (T++l.filter λq=>ib rk q==ib rk n) x4 d)
 |[],F,T,f,_,_,_=>⟨f,by rw[Dw,Dw,dh,dh];rfl⟩
 |q::l,F,T,f,h,o,m=>by
  rw[ze]at o m;obtain⟨k,j⟩:=h q Gb;have b:(e2 gd (aM jJ<|aC (aA 0)<|aC (aA 5) aK)<|aM jJ<|aC (aA 0)<|aC (aA 1) aK) (Gx S rk c n F T x4 q)=.ok (.bl<|ib rk q==ib rk n):=aL (Yy M j k rfl rfl) (Yy M g i rfl rfl)<|WG _ _;cases a:ib rk q==ib rk n
  .obtain⟨d,e⟩:=YE M g i l (F++[q]) T q (λq a=>h q<|Xb _ a) (by simp;lia) (by lia)
   refine⟨d,dI rfl (iY (b.trans<|by rw[a])<|vB rfl rfl<|by rw[bC];lia) ?_⟩
   rw[Xm (by simp[a]),Ym (by simp[a])]
   rw[Sk]at e
   rwa [<-nO]
  obtain⟨d,e⟩:=YE M g i l F (T++[q]) q (λq a=>h q<|Xb _ a) (by lia) (by simp;lia)
  refine⟨d,dI rfl (rW (b.trans<|by rw[a])<|vB rfl rfl<|by rw[bC];lia) ?_⟩
  rw[Ym (by simp[a]),Xm (by simp[a])]
  rw[Sk]at e
  rwa [<-nO]
def PF{w:Bool}{P:Nat}:ig S c rk w P Y↔(Y∈eV S c (Fh rk P)/\ib rk Y≠w)\/∃Q∈eV S c (Fh rk P),ib rk Q=w/\ig S c rk w Q Y:=by
 constructor
 .intro h;cases h with
  |out b a=>exact .inl ⟨b,a⟩
  |go b a d=>exact .inr ⟨_,b,a,d⟩
 rintro(⟨b,a⟩|⟨Q,b,a,d⟩)
 .exact .out b a
 exact .go b a d
theorem Iv(T:ac):Zf (.lst<|ba T) (.lst [])=.ok (.bl<|!decide (T=[])):=by
 obtain⟨c,b,_⟩:=gZ T;have d:ag (.lst<|ba T)=1:=by unfold ag;rw[b]
 have a:de (.lst<|ba T) (.lst [])=decide (T=[]):=by exact Kr T []
 rw[IV,aO ⟨by lia,(by exact c),rfl⟩,a]
theorem bJ2{st:ua}{x:D} (c:f st=.ok x) (a:st[j]?=some (some<|.o .l<|ys++[d])) (e:ys.length<1000) (b:p [x,d]=.ok y):eA i j p f st=.ok (.nx<|(st.set j<|some<|.o .l ys).set i y):=by
 unfold eA;rw[c,bA,a];dsimp only;rw[List.getLast?_append,List.getLast?_singleton,Option.some_or];dsimp only;rw[aO<|fY<|by rw[af,ah];lia,b,bA,List.dropLast_concat]
theorem Λ(M:ya S rk c)(I:n<2^S.length)(N:n≠0):∀(k f:Nat)(F T:ac)(x4 m:f8),Yf T<=k->k<f->(∀q∈T,q≠0/\q<2^S.length)->F.length+Yf T<=100->
  ∃r B t,qC nN kN f (Gx S rk c n F T x4 m)=.ok (.nx<|Gx S rk c n r [] B t)/\r.length<=100/\∀Y,Y∈r↔Y∈F\/∃P∈T,ig S c rk (ib rk n) P Y:=by
 intro k
 induction k with
 |zero=>
  intro f F T x4 m v K o s;obtain⟨f,rfl⟩:∃g,f=g+1:=⟨f-1,by lia⟩
  cases T with
  |nil=>exact⟨F,x4,m,Eu<|aL rfl (cW rfl)<|Iv [],by lia,λY=>⟨.inl,λz=>z.elim id λ⟨_,h,_⟩=>nomatch h⟩⟩
  |cons p T=>
   have:=vC (o p Gb).1;unfold Yf at v;simp at v;lia
 |succ k u=>
  intro f F T x4 m v K o s;obtain⟨f,rfl⟩:∃g,f=g+1:=⟨f-1,by lia⟩
  rcases B0 T with rfl|⟨j,p,rfl⟩
  .exact⟨F,x4,m,Eu<|aL rfl (cW rfl)<|Iv [],by lia,λY=>⟨.inl,λz=>z.elim id λ⟨_,h,_⟩=>nomatch h⟩⟩
  rw[F0]at *;obtain⟨p0,p1⟩:=o p<|Ag _ Gb;have G:=vC p0;have es:Yf (j++[p])=Yf j+Ce p:=by rw[VG];unfold Yf;simp
  have H:=Ì M p0 p1;have a:∀q∈eV S c (Fh rk p),q≠0/\q<2^S.length:=λq b=>⟨(dX M (qT p1) b).1.1,(dX M (qT p1) b).2.2⟩
  have E:=PQ (λq=>ib rk q==ib rk n) (eV S c<|Fh rk p) λq b=>vC (a q b).1
  have x:∀l:ac,(∀q∈l,q≠0)->l.length<=Yf l:=λl s=>by
   induction l with
   |nil=>exact Fc _
   |cons q l u=>
    have e:Yf (q::l)=Ce q+Yf l:=by unfold Yf;simp
    have:=vC<|s q Gb;have:=u λq b=>s q<|Xb _ b
    rw[ze];lia
  have R:=x _ λq b=>(a q b).1
  have J:=x j λq b=>(o q<|Kh _ b).1
  obtain⟨t,e1⟩:=YE M I N (eV S c<|Fh rk p) F j m a (by lia) (by lia)
  obtain⟨r,A,y,O,C,D⟩:=u f (F++(eV S c<|Fh rk p).filter λq=>!(ib rk q==ib rk n)) (j++(eV S c<|Fh rk p).filter λq=>ib rk q==ib rk n) (Fh rk p) t (by rw[VG];lia) (by lia) (λq b=>by
   rcases Pg.mp b with h|h
   .exact o q (Kh _ h)
   exact a q (Nd.mp h).1) (by rw[VG,af];lia)
  refine⟨r,A,y,Lu (aL rfl (cW rfl) ?_) (aH ?_<|dN (oW<|aJ rfl<|Fy M<|qT p1) e1) O,C,λY=>?_⟩
  .rw[show br .l (ba<|j++[p])=.lst (ba<|j++[p]) from rfl,Iv]
   simp
  .exact bJ2 rfl (by rw[<-nO];rfl) (by rw[bC];lia) (Κ M p1 p0)
  rw[D Y];constructor
  .rintro(h|⟨P,w,h⟩)
   .rcases Pg.mp h with h|h
    .exact .inl h
    obtain⟨i,d⟩:=Nd.mp h;exact .inr ⟨p,Ag _ Gb,PF.mpr<|.inl ⟨i,by simpa using d⟩⟩
   rcases Pg.mp w with h'|h'
   .exact .inr ⟨P,Kh _ h',h⟩
   obtain⟨i,d⟩:=Nd.mp h';exact .inr ⟨p,Ag _ Gb,PF.mpr<|.inr ⟨P,i,by simpa using d,h⟩⟩
  rintro(h|⟨P,w,h⟩)
  .exact .inl (Kh _ h)
  rcases Pg.mp w with h'|h'
  .exact .inr ⟨P,Kh _ h',h⟩
  rw[Od.mp h']at h;rcases PF.mp h with ⟨i,d⟩|⟨Q,i,d,L⟩
  .exact .inl (Ag _<|Nd.mpr ⟨i,by simpa using d⟩)
  exact .inr ⟨Q,Ag _<|Nd.mpr ⟨i,by simpa using d⟩,L⟩
theorem WR(M:ya S rk c)(a:n<2^S.length)(b:n≠0):∃F,gG [mD S rk c,.int n]=.ok (.lst<|ba F)/\F.length<=100/\∀Y,Y∈F↔ig S c rk (ib rk n) n Y:=by
 have e1:Yf [n]=Ce n:=by unfold Yf;simp
 have h:Ce n<=8:=km M a;obtain⟨F,f,d,e,l,i⟩:=Λ M a b 8 100000 [] [n] none none (by lia) (by lia) (λq g=>by simp_all) (by simp;lia)
 refine⟨F,bB rfl ?_,l,λY=>?_⟩
 .exact aH (oN<|cW rfl) (aH (oN<|cW rfl)<|aH e<|bH rfl)
 grind
theorem XR{x0 x1 x2:f8}:∀(l:ac)(b:Nat)(x4:f8),(∀r∈l,r<=1000000)->∃a,Eb (bb 4) AN (ba l) [x0,x1,x2,b,x4]=.ok (.nx [x0,x1,x2,ir l b,a])
 |[],b,x4,_=>⟨x4,rfl⟩
 |r::l,b,x4,h=>by
  obtain⟨a,e⟩:=XR (x0:=x0) (x1:=x1) (x2:=x2) l (b|||2^r) r λr c=>h r<|Xb _ c
  exact⟨a,dI (d:=.int (r:Nat)) rfl (aZ<|aL rfl (aL rfl rfl<|MV<|h r Gb)<|Vy _ _) e⟩
theorem mP(M:ya S rk c){x0:f8}:∀(T:am) (F:ac) (x2 x3 x4:f8),(∀r∈T,r∈S)->F.length+T.length<=100->∃d b a,Eb (bb 2) BN (Rb T) [x0,some<|.o .l<|ba F,x2,x3,x4]=.ok (.nx [x0,some<|.o .l<|ba<|F++T.map cH,d,b,a])
 |[],F,x2,x3,x4,_,_=>⟨x2,x3,x4,by rw[List.map_nil,dh];rfl⟩
 |r::T,F,x2,x3,x4,h,k=>by
  rw[ze]at k;have l:=M.most;obtain⟨f,g⟩:=XR (x0:=x0) (x1:=some<|.o .l<|ba F) (x2:=some<|.v<|.lst<|ba r) r 0 x4 λx i=>by have:=(M.row r<|h r Gb).2 x i;omega
  obtain⟨d,b,a,e⟩:=mP M (x0:=x0) T (F++[cH r]) (D.lst<|ba r) (cH r) f (λr j=>h r<|Xb _ j) (by rw[af,ah];omega)
  rw[Sk,A0,nO]at e;exact⟨d,b,a,dI (d:=.lst<|ba r) rfl (aH (aZ rfl)<|aH (dN rfl g)<|vB (d:=.int (cH r:Nat)) rfl rfl<|by rw[bC];omega) e⟩
def gh(S:am):ac:=S.map cH
def ZE(M:ya S rk c):oA [.lst<|Rb S]=.ok (.lst<|ba<|gh S):=by
 have f:=M.most;obtain⟨d,b,a,e⟩:=mP M (x0:=some<|.v<|.lst<|Rb S) S [] none none none (λ_ h=>h) (by rw[vq];omega)
 exact bB rfl<|aH (oN<|cW rfl)<|aH (dN rfl e)<|bH rfl
def HX{k:Nat}(a:k<S.length):(gh S)[k]?=some (cH<|S.getD k []):=by
 unfold gh;rw[cj,Ze a,ng,Ze a];rfl
def VH:(gh S).length=S.length:=Kd _
def bQz(M:ya S rk c){k:Nat}(b:k<S.length):cH (S.getD k [])<2^S.length:=mL λr a=>by
 rw[ng,Ze b]at a;exact(M.row _<|Fi b).2 r a
def xi(S:am)(ins:Nat)(F:Nat)(a:ac)(w:Nat):Nat:=a.foldl (λw k=>if F.testBit k=true then w|||(cH (S.getD k [])&&&ins) else w) w
theorem WH{ins:Nat}(g:Nat):∀(b:ac)(w:Nat),(xi S ins F b w).testBit g=true↔w.testBit g=true\/∃k∈b,F.testBit k=true/\g∈S.getD k []/\ins.testBit g=true
 |[],w=>⟨.inl,λz=>z.elim id λ⟨_,h,_⟩=>nomatch h⟩
 |k::b,w=>by
  have l:=WH (ins:=ins) (F:=F) g b<|if F.testBit k=true then w|||(cH (S.getD k [])&&&ins) else w
  show (xi S ins F b _).testBit g=true↔_;rw[l];constructor
  .rintro(h|⟨j,c,h⟩)
   .by_cases a:F.testBit k=true
    .rw[xb a,Zo,Wt,ik,fj,dR,Cf]at h;rcases h with h|h
     .exact .inl h
     .exact .inr ⟨k,Gb,a,h.1,h.2⟩
    .rw[Ta a]at h;exact .inl h
   .exact .inr ⟨j,Xb _ c,h⟩
  .rintro(h|⟨j,c,i,f,d⟩)
   .refine .inl ?_
    by_cases a:F.testBit k=true
    .rw[xb a,Zo,h];rfl
    .rw[Ta a];exact h
   .rcases Uc.mp c with e|c
    .subst e;refine .inl ?_
     rw[xb i,Zo,ik,dR,Oc f,d,Wt];exact .inr rfl
    .exact .inr ⟨j,c,i,f,d⟩
abbrev cst(S:am)(ins b F:Nat)(m:Bool)(c a:f8):ua:=[some<|.v<|.lst<|ba<|gh S,some<|.v<|.int ins,some<|.v<|.int b,some<|.v<|.int F,some<|.v<|.bl m,c,a]
theorem QF{ins b:Nat}{m:Bool}:∀(a:ac)(w:Nat)(c:f8),(∀k∈a,k<S.length)->∃f,Eb (bb 6) CN (ba a) (cst S ins b F m w c)=.ok (.nx<|cst S ins b F m (xi S ins F a w) f)
 |[],w,c,_=>⟨c,rfl⟩
 |k::a,w,c,h=>by
  obtain⟨f,e⟩:=QF (ins:=ins) (b:=b) (F:=F) (m:=m) a (if F.testBit k=true then w|||(cH (S.getD k [])&&&ins) else w) k λk d=>h k<|Xb _ d
  have t:(e2 gd (e2 uV (e2 qi (aA 3)<|aA 6)<|eI 1)<|eI 1) (cst S ins b F m w k)=.ok (.bl<|F.testBit k):=iw rfl rfl;refine⟨f,dI (d:=.int (k:Nat)) (s1:=cst S ins b F m w k) (s2:=cst S ins b F m (if F.testBit k=true then w|||(cH (S.getD k [])&&&ins) else w:Nat) k) rfl ?_ e⟩
  cases d:F.testBit k
  .rw[Ta ph];exact iY (t.trans<|by rw[d]) rfl
  .rw[xb rfl];exact rW (t.trans<|by rw[d])<|aZ<|aL rfl (aL (aL rfl rfl<|fX<|yI<|HX<|h k Gb) rfl<|vW _ _)<|Vy _ _
def xj(S:am)(c ins b g:Nat):Prop:=∃s,b.testBit s=true/\ins.testBit s=true/\cc S c (Ie ins) s g
def bJ3(M:ya S rk c){ins a g:Nat}{s:Nat}(h:a<S.length)(b:cc S c (Ie ins) s a)(f:g∈S.getD a [])(e:ins.testBit g=true):cc S c (Ie ins) s g:=by
 obtain⟨l,d,rfl⟩:=(uP M h).mp f;exact .on b d e
def Μ(M:ya S rk c){ins b:Nat}(hb:b<2^S.length):∀(k f F:Nat)(A n:f8),S.length<=(aP F).length+k->k+2<=f->F<2^S.length->(∀g,F.testBit g=true->xj S c ins b g)->(∀g,b.testBit g=true->ins.testBit g=true->F.testBit g=true)->
  ∃y P i,qC DN wI f (cst S ins b F true A n)=.ok (.nx<|cst S ins b y false P i)/\y < 2^S.length/\∀g,y.testBit g=true↔xj S c ins b g:=by
 have n8:=M.most;intro k
 induction k with
 |zero=>
  intro f F A n v Y p w B;obtain⟨f,rfl⟩:∃g,f=g+2:=⟨f-2,by omega⟩
  have lt:∀g,F.testBit g=true->g<S.length:=λg d=>aW p<|aF.mpr d
  obtain⟨i,e⟩:=QF (S:=S) (ins:=ins) (b:=b) (F:=F) (m:=true) (List.range S.length) F n λk v=>Jd.mp v
  have all:∀g,g<S.length->F.testBit g=true:=λg d=>aF.mp (by
   refine bj λL=>?_
   have:=(dj.mpr ⟨L,dG F⟩).length_le_of_subset (l₂:=List.range S.length) λx V=>by
    rcases Uc.mp V with q|q
    .rw[q];exact Jd.mpr d
    .exact Jd.mpr (aW p q)
   rw[ze,Vk]at this;omega)
  have same:xi S ins F (List.range S.length) F=F:=dk λg=>by
   have:=WH (S:=S) (ins:=ins) (F:=F) g (List.range S.length) F;cases d:F.testBit g with
   |true=>exact this.mpr<|.inl d
   |false=>
    cases H:(xi S ins F (List.range S.length) F).testBit g with
    |false=>rfl
    |true=>
     rcases this.mp H with q|⟨a,h,_,j,_⟩
     .rw[d]at q;cases q
     .have:=all g (by
       have h:=Jd.mp h;rw[ng,Ze h]at j;exact(M.row _<|Fi h).2 g j)
      rw[d]at this;cases this
  rw[same]at e;refine⟨F,F,i,Lu rfl (aH (aZ rfl)<|aH (dN (yG (n:=S.length) (by show R.ok (D.int ((ba<|gh S).length:Nat))=_;rw[bC,VH])<|by omega) e)<|aH (aZ (d:=.bl false)<|aL rfl rfl<|(Fv _ _).trans<|by rw[Oc rfl];rfl)<|aZ rfl)<|Eu rfl,p,λg=>⟨w g,λd=>?_⟩⟩
  .obtain⟨s,s1,t,o⟩:=d;exact all g<|wR M (lt s<|B s s1 t) o
 |succ k T=>
  intro f F A n v Y p w B;obtain⟨f,rfl⟩:∃g,f=g+1:=⟨f-1,by omega⟩
  have lt:∀g,F.testBit g=true->g<S.length:=λg d=>aW p<|aF.mpr d
  obtain⟨i,e⟩:=QF (S:=S) (ins:=ins) (b:=b) (F:=F) (m:=true) (List.range S.length) F n λk v=>Jd.mp v
  have E:=λg=>WH (S:=S) (ins:=ins) (F:=F) g (List.range S.length) F
  have body:∀m,(!decide (((xi S ins F (List.range S.length) F:Nat):Int)=(F:Int)))=m->wI (cst S ins b F true A n)=.ok (.nx<|cst S ins b (xi S ins F (List.range S.length) F) m (xi S ins F (List.range S.length) F) i):=λm W=>by
   refine aH (aZ rfl)<|aH (dN (yG (n:=S.length) (by show R.ok (D.int ((ba<|gh S).length:Nat))=_;rw[bC,VH])<|by omega) e)<|aH (aZ (d:=.bl m)<|aL rfl rfl<|(Fv _ _).trans<|by rw[W])<|aZ rfl
  by_cases same:xi S ins F (List.range S.length) F=F
  .have C:=body false (by rw[same,Oc rfl];rfl)
   rw[same]at C;obtain⟨f,rfl⟩:∃g,f=g+1:=⟨f-1,by omega⟩
   refine⟨F,_,i,Lu rfl C<|Eu rfl,p,λg=>⟨w g,λd=>?_⟩⟩
   obtain⟨s,s1,t,o⟩:=d
   induction o with
   |here=>exact B s s1 t
   |on o X h G=>
    rename_i r l;have J:=G;have u:=lt r J;rw[<-same];exact(E _).mpr (.inr ⟨r,Jd.mpr u,J,(uP M u).mpr ⟨l,X,rfl⟩,h⟩)
  .have C:=body true (by rw[yd λz=>same (by omega)];rfl)
   have sub:∀g,F.testBit g=true->(xi S ins F (List.range S.length) F).testBit g=true:=λg d=>(E g).mpr<|.inl d
   have Z:xi S ins F (List.range S.length) F<2^S.length:=DZ _ λg d=>by
    cases H:(xi S ins F (List.range S.length) F).testBit g with
    |false=>rfl
    |true=>
     rcases (E g).mp H with q|⟨a,h,_,j,_⟩
     .have:=lt g q;omega
     .have h:=Jd.mp h;rw[ng,Ze h]at j;have:=(M.row _<|Fi h).2 g j;omega
   have K:(aP F).length<(aP<|xi S ins F (List.range S.length) F).length:=by
    refine bj λL=>same ?_
    have I:(aP F).length=(aP<|xi S ins F (List.range S.length) F).length:=Nat.le_antisymm ((dG F).length_le_of_subset λg d=>aF.mpr<|sub g<|aF.mp d) (by omega)
    refine Dz (λg d=>?_) λg d=>aF.mpr<|sub g<|aF.mp d
    exact sub_len (dG F) (λg d=>aF.mpr<|sub g<|aF.mp d) I d
   obtain⟨y,O,N,e3,Q,U⟩:=T f (xi S ins F (List.range S.length) F) (xi S ins F (List.range S.length) F) i (by omega) (by omega) Z (λg d=>by
    rcases (E g).mp d with q|⟨a,h,h3,j,h5⟩
    .exact w g q
    .obtain⟨s,s1,t,o⟩:=w a h3;exact⟨s,s1,t,bJ3 M (Jd.mp h) o j h5⟩) (λg g1 g2=>sub g<|B g g1 g2)
   exact⟨y,O,N,Lu rfl C e3,Q,U⟩
def YR(M:ya S rk c){ins b:Nat}(f:b<2^S.length):∃F:Nat,iI [.lst<|ba<|gh S,.int ins,.int b]=.ok (.int F)/\F<2^S.length/\∀g,F.testBit g=true↔xj S c ins b g:=by
 have n:=M.most;have a:b&&&ins<2^S.length:=vw Nat.and_le_left f;obtain⟨F,m,k,e,l,i⟩:=Μ M (ins:=ins) (b:=b) f S.length 100000 (b&&&ins) none none (by omega) (by omega) a (λg d=>by
  rw[ik,fj]at d;exact⟨g,d.1,d.2,.here⟩) (λg j h=>by rw[ik,j,h];rfl)
 exact⟨F,bB rfl<|aH (aZ<|aL rfl rfl<|vW _ _)<|aH (aZ rfl)<|aH e<|bH rfl,l,i⟩
def Í(M:ya S rk c) {a b:Nat} (j:a<S.length) (h:cc S c al a b):a=b\/∃s∈S.getD a [],al s=true/\cc S c al s b:=by
 induction h with
 |here=>exact .inl rfl
 |on h d f g=>
  rename_i r l;rcases g with e|⟨s,i,m,k⟩
  .subst e;exact .inr ⟨_,(uP M j).mpr ⟨l,d,rfl⟩,f,.here⟩
  .exact .inr ⟨s,i,m,.on k d f⟩
def Ğ(M:ya S rk c) (y:m≠0) (x:m<2^S.length):Tc S c m↔∀k,m.testBit k=true->∀g,m.testBit g=true->xj S c m (cH<|S.getD k []) g:=by
 have lt:∀g,m.testBit g=true->g<S.length:=λg v=>aW x<|aF.mpr v
 constructor
 .rintro⟨_,q,p⟩ k j g v;have z:∀{b},cc S c (Ie m) k b->b≠k->∃s∈S.getD k [],m.testBit s=true/\cc S c (Ie m) s b:=λ{b} h t=>by
   rcases Í M (lt k j) h with e|e
   .exact(t e.symm).elim
   .exact e
  have i:∀s,s∈S.getD k []->m.testBit s=true->cc S c (Ie m) s g->xj S c m (cH<|S.getD k []) g:=λs q p C=>⟨s,by rw[dR,Oc q],p,C⟩
  by_cases e:g=k
  .subst e
   by_cases w:∃b,m.testBit b=true/\b≠g
   .obtain⟨b,n,E⟩:=w;obtain⟨s,s1,f,o⟩:=z (q g (aF.mpr j) b<|aF.mpr n) E;exact i s s1 f<|cc.trans o<|q b (aF.mpr n) g<|aF.mpr j
   .have only:∀b∈aP m,b=g:=λb n=>bj λt=>w ⟨b,aF.mp n,t⟩
    have u:aP m=[g]:=by
     have r:=dG m;have B:=aF.mpr j;cases d:aP m with
     |nil=>rw[d]at B;cases B
     |cons a T=>
      rw[d]at only r;have A:=only a Gb;cases T with
      |nil=>rw[A]
      |cons b T=>
       have D:=only b (Xb _ Gb);rw[A,D]at r;exact absurd Gb (dj.mp r).1
    unfold Qb at p;rw[u]at p;have:g∈S.getD g []:=by simpa using p
    exact i g this j .here
  .obtain⟨s,s1,f,o⟩:=z (q k (aF.mpr j) g<|aF.mpr v) e;exact i s s1 f o
 .intro h;refine⟨y,λa ha b n=>?_,?_⟩
  .obtain⟨s,s1,f,o⟩:=h a (aF.mp ha) b<|aF.mp n;rw[dR,Cf]at s1;obtain⟨l,u,rfl⟩:=(uP M<|aW x ha).mp s1;exact cc.trans (.on .here u f) o
  .unfold Qb;rw[Wt,Cf,Cf];cases d:aP m with
   |nil=>
    refine(y ?_).elim;have:=gU m;rw[d]at this;exact this.symm
   |cons a T=>
    cases T with
    |cons b T=>exact .inl (by simp)
    |nil=>
     have ha:m.testBit a=true:=aF.mp (by rw[d];exact Gb)
     obtain⟨s,s1,f,_⟩:=h a ha a ha;have:s∈aP m:=aF.mpr f;rw[d]at this;rw[dR,Cf,Od.mp this]at s1;exact .inr s1
end
def Q_(n:Nat):mU 1 n=ba (List.range' 1 n):=by
 unfold mU ba;rw[List.range'_eq_map_range,Jj];refine Rk λk _=>?_
 show D.int (1+(k:Int))=D.int ((1+k:Nat):Int)
 push_cast
 rfl
section
variable{S:am}{rk:ac}{c n:Nat}
open Classical in
noncomputable def Ko(S:am)(c al:Nat):ac:=(List.range' 1 al).filter λm=>decide (m&&&al=m)&&decide (Tc S c m)
def Lr{o:Nat}:m&&&o=m↔iK m o:=by
 constructor
 .intro h g a;have:=aF.mp a;rw[<-h,ik,fj]at this;exact aF.mpr this.2
 .intro h;refine dk λg=>?_
  rw[ik];cases a:m.testBit g with
  |false=>rfl
  |true=>rw[aF.mp<|h g<|aF.mpr a];rfl
open Classical in
def XG{al m:Nat}:m∈Ko S c al↔Tc S c m/\iK m al:=by
 unfold Ko;rw[Nd,fj,Cf,Cf,Lr,List.mem_range'_1];constructor
 .exact λh=>⟨h.2.2,h.2.1⟩
 .intro h;have a:=h.1.1;have:m<=al:=by rw[<-Lr.mpr h.2];exact Nat.and_le_right
  exact⟨by omega,h.2,h.1⟩
def ğ(M:ya S rk c){k:Nat}(l:m≠0)(j:k<S.length):∃F:Nat,iI [.lst<|ba<|gh S,.int m,.int (cH (S.getD k []):Nat)]=.ok (.int F)/\(F=m↔∀g,m.testBit g=true->xj S c m (cH<|S.getD k []) g):=by
 obtain⟨F,e,_,b⟩:=YR M (ins:=m)<|bQz M j;refine⟨F,e,?_⟩;constructor
 .rintro rfl g a;exact(b g).mp a
 .intro h;refine dk λg=>?_
  cases a:m.testBit g with
  |true=>exact(b g).mpr (h g a)
  |false=>
   cases i:F.testBit g with
   |false=>rfl
   |true=>
    obtain⟨s,_,f,d⟩:=(b g).mp i;have:m.testBit g=true:=Bm (al:=Ie m) f d;rw[a]at this;cases this
abbrev Lo(S:am)(al:Nat)(F:ac)(x3 x4:f8):ua:=[some<|.v<|.lst<|ba<|gh S,some<|.v<|.int al,some<|.o .l<|ba F,x3,x4,none]
open Classical in
def Ġ(M:ya S rk c){al m:Nat}(i:m≠0)(l:al<2^S.length){F:ac}(u:F.length<=1000)(x4:f8):∃j,qD (Lo S al F m x4)=.ok (.nx<|Lo S al (if decide (m&&&al=m)&&decide (Tc S c m) then F++[m] else F) m j):=by
 have s:=M.most;have t:e2 gd (e2 uV (aA 3)<|aA 1) (aA 3) (Lo S al F m x4)=.ok (.bl<|decide (m&&&al=m)):=eqE (aL rfl rfl<|vW _ _)<|av rfl
 by_cases h:m&&&al=m
 .rw[Oc h]at t;rw[Oc h,Bool.true_and];have f:m<2^S.length:=by rw[<-h];exact vw Nat.and_le_right l
  have q:jX (bb 5) wK wJ (Lo S al F m x4) (ba<|List.range S.length)=.ok (ba<|(List.range S.length).filter λk=>m.testBit k && !decide (∀g,m.testBit g=true->xj S c m (cH<|S.getD k []) g)):=iG (List.range S.length) λk a=>by
   have a:=Jd.mp a;obtain⟨r,e,n⟩:=ğ M i a;refine⟨_,rfl,tE (iw rfl rfl) λ_=>?_,rfl⟩
   refine aL (aJ (aR rfl<|aR rfl<|aR (aL rfl rfl<|fX<|yI<|HX a) rfl) e) rfl<|(Fv _ _).trans ?_;have:decide ((r:Int)=(m:Int))=decide (∀g,m.testBit g=true->xj S c m (cH<|S.getD k []) g):=Qo.mpr<|Iff.trans ⟨λz=>by omega,λz=>by omega⟩ n
   rw[this]
  have lp:((List.range S.length).filter λk=>m.testBit k && !decide (∀g,m.testBit g=true->xj S c m (cH<|S.getD k []) g))=[]↔Tc S c m:=by
   rw[Ğ M i f,YA];constructor
   .intro d k a;have:=d k<|Jd.mpr<|aW f<|aF.mpr a;rw[a,Bool.true_and,Wo,SA]at this;exact bj λz=>this z
   .intro d k _ z;rw[fj,Wo,SA]at z;exact z.2<|d k z.1
  have o:=gJ (is:=[5]) (it:=qZ<|e1 jE<|aA 0) (st:=Lo S al F m x4) (yG (n:=S.length) (by show R.ok (D.int ((ba<|gh S).length:Nat))=_;rw[bC,VH])<|by omega) (by simp;omega) q
  refine⟨some<|.v<|.lst<|ba<|(List.range S.length).filter λk=>m.testBit k && !decide (∀g,m.testBit g=true->xj S c m (cH<|S.getD k []) g),rW t<|aH (aZ o) ?_⟩
  by_cases b:Tc S c m
  .rw[Oc b,xb rfl];have p:=nO F m;unfold Lo;rw[p];exact rW (aL rfl (cW rfl)<|(PV _).trans<|by rw[Oc<|lp.mpr b])<|vB (d:=.int (m:Nat)) rfl rfl<|by rw[bC];omega
  .rw[yd b,Ta ph];exact iY (aL rfl (cW rfl)<|(PV _).trans<|by rw[yd λz=>b<|lp.mp z]) rfl
 .rw[yd h]at t;rw[yd h,Bool.false_and,Ta ph];exact⟨x4,iY t rfl⟩
open Classical in
theorem RF(M:ya S rk c){al:Nat}(i:al<2^S.length):∀(a F:ac)(x3 x4:f8),(∀m∈a,m≠0)->F.length+a.length<=1000->∃d b,Eb (bb 3) qD (ba a) (Lo S al F x3 x4)=.ok (.nx<|Lo S al (F++a.filter λm=>decide (m&&&al=m)&&decide (Tc S c m)) d b)
 |[],F,x3,x4,_,_=>⟨x3,x4,by rw[Dw,dh];rfl⟩
 |m::a,F,x3,x4,h,l=>by
  rw[ze]at l;obtain⟨k,f⟩:=Ġ M (h m Gb) i (F:=F) (by omega) x4
  cases g:decide (m&&&al=m)&&decide (Tc S c m)
  .rw[g,Ta ph]at f;obtain⟨d,b,e⟩:=RF M i a F m k (λm j=>h m<|Xb _ j) (by omega)
   refine⟨d,b,dI (d:=.int (m:Nat)) rfl f ?_⟩;rw[Ym (by rw[g];decide)]
   exact e
  .rw[g,xb rfl]at f;obtain⟨d,b,e⟩:=RF M i a (F++[m]) m k (λm j=>h m<|Xb _ j) (by rw[af,ah];omega)
   refine⟨d,b,dI (d:=.int (m:Nat)) rfl f ?_⟩;rw[Xm (by rw[g])]
   rw[Sk]at e;exact e
def SV(M:ya S rk c):2^S.length<=256:=by
 have:2^S.length<=2^8:=HJ (by decide) M.most
 omega
def WT(M:ya S rk c){al:Nat}(a:al<2^S.length):(Ko S c al).length<=256:=by
 have:=SV M;unfold Ko;refine ye (Ro _ _) ?_
 rw[List.length_range'];omega
def XT(M:ya S rk c){al:Nat}(a:al<2^S.length):kJ [.lst<|ba<|gh S,.int al]=.ok (.lst<|ba<|Ko S c al):=by
 have g:=SV M;obtain⟨f,d,e⟩:=RF M a (List.range' 1 al) [] none none (λm b=>by have:=(List.mem_range'_1.mp b).1;omega) (by rw[vq,List.length_range'];omega)
 refine bB rfl<|aH (oN<|cW rfl)<|aH (dN (xs:=ba<|List.range' 1 al) ?_ e)<|bH rfl;rw[ŭ];show aX _ (R.ok<|mU 1 ((al:Int)+1-1).toNat)=_;rw[aO ?_,show ((al:Int)+1-1).toNat=al by omega,Q_]
 exact⟨Wu (by omega),Up (by omega),Wu (by omega),Up<|by omega⟩
end
def Jv{e:Ex}{st:ua} {j:Int} (he:e st=.ok d) (b:g st=.ok (.int j)) (a:st[i]?=some (some<|.o .l xs)) (f:0<=j) (c:j<xs.length):Yj i g e st=.ok (.nx<|st.set i<|some<|.o .l<|xs.set j.toNat d):=by
 unfold Yj;rw[he,bA,b,bA];show (match st[i]? with|some (some<|.o .l xs)=>_|_=>_)=_
 rw[a];show (yi<|vg xs.length j).bind _=_;unfold vg;rw[xb f,xb c];rfl
section
variable{S:am}{rk:ac}{c n:Nat}
open Classical in
noncomputable def kf(S:am)(c m:Nat):Nat:=cH<|(List.range S.length).filter λg=>decide (xj S c 255 m g)
open Classical in
def Vv(M:ya S rk c){m:Nat}(d:m<2^S.length):iI [.lst<|ba<|gh S,.int 255,.int m]=.ok (.int (kf S c m:Nat))/\∀g,(kf S c m).testBit g=true↔xj S c 255 m g:=by
 obtain⟨F,e,l,b⟩:=YR M (ins:=255) d;have f:F=kf S c m:=dk λg=>by
  unfold kf;rw[dR];cases a:F.testBit g with
  |true=>exact(Oc<|Nd.mpr ⟨Jd.mpr<|aW l<|aF.mpr a,Oc<|(b g).mp a⟩).symm
  |false=>
   refine(yd λz=>?_).symm
   have:=(b g).mpr<|ck (Nd.mp z).2;rw[a]at this;cases this
 rw[<-f];exact⟨e,b⟩
def ZR(M:ya S rk c)(a:n<2^S.length)(b:n≠0):uK [.lst<|ba rk,.int n]=.ok (.bl<|ib rk n):=bB rfl<|bH<|aL (aL (aJ rfl<|ż M a b) rfl<|tH<|by decide) rfl<|yZ _ _
def toN(A:li)(G B:Nat):Bool:=decide ((0:Int)<((A G&&&B:Nat):Int))
def rn(A:li)(G B:Nat):Bool:=!toN A B G
def vn(A:li)(G B:Nat):Bool:=!toN A G B
def xn(A:li)(G B:Nat):Bool:=!(toN A G B&&toN A B G)
def yn(G B:Nat):Bool:=!decide (G&&&B=G)
def gp(G B:Nat):Bool:=!decide (G&&&B=B)
abbrev um(b0 b1 b2 b3 b4:Bool):dL:=[.bl b0,.bl b1,.bl b2,.bl b3,.bl b4]
abbrev Lp(S:am)(rk L:ac)(A:li)(Gs Bs:ac)(t:dL)(b a x10 cf:f8):ua:=[some<|.v<|.lst<|Rb S,some<|.v<|.lst<|ba rk,some<|.v<|.lst<|ba<|gh S,some<|.v<|.lst<|ba L,some<|.o (.d false<|ba L)<|L.map λm=>D.int (A m:Nat),b,some<|.v<|.lst<|ba Gs,some<|.v<|.lst<|ba Bs,some<|.o .l t,a,x10,cf]
def bJ4{A:li}{B:Nat}(b:G∈L)(c:B∈L){b0 b1 b2 b3 b4:Bool}{x10 cf:f8}:∃e d,uW (Lp S rk L A Gs Bs (um b0 b1 b2 b3 b4) G B x10 cf)=.ok (.nx<|Lp S rk L A Gs Bs (um (b0&&rn A G B) (b1&&vn A G B) (b2&&xn A G B) (b3&&yn G B)<|b4&&gp G B) G B e d):=by
 have a:∀{m:Nat},m∈L->qb (.Pe false (ba L)<|L.map λm=>D.int (A m:Nat)) (.int m)=.ok (.int (A m:Nat)):=λh=>Jr<|wV (λm=>D.int (A m:Nat)) h
 refine⟨some<|.v<|.bl<|toN A G B,D.bl<|toN A B G,?_⟩;exact aH (st':=Lp S rk L A Gs Bs (um b0 b1 b2 b3 b4) G B (D.bl<|toN A G B) cf) (aZ<|aL (aL (aL rfl rfl<|a b) rfl<|vW _ _) rfl rfl)<|aH (st':=Lp S rk L A Gs Bs (um b0 b1 b2 b3 b4) G B (D.bl<|toN A G B)<|D.bl<|toN A B G) (aZ<|aL (aL (aL rfl rfl<|a c) rfl<|vW _ _) rfl rfl)<|aH (Jv (d:=.bl<|b0&&rn A G B) (j:=0) (tE (aL rfl rfl rfl) λ_=>rF rfl) rfl rfl (by decide)<|by simp)<|aH (Jv (d:=.bl<|b1&&vn A G B) (j:=1) (tE (aL rfl rfl rfl) λ_=>rF rfl) rfl rfl (by decide)<|by simp)<|aH (Jv (d:=.bl<|b2&&xn A G B) (j:=2) (tE (aL rfl rfl rfl) λ_=>rF<|tE rfl λ_=>rfl) rfl rfl (by decide)<|by simp)<|aH (Jv (d:=.bl<|b3&&yn G B) (j:=3) (tE (aL rfl rfl rfl) λ_=>V1 (aL rfl rfl<|vW _ _)<|av rfl) rfl rfl (by decide)<|by simp)<|Fw (Jv (xs:=[.bl<|b0&&rn A G B,.bl<|b1&&vn A G B,.bl<|b2&&xn A G B,.bl<|b3&&yn G B,.bl b4]) (d:=.bl<|b4&&gp G B) (j:=4) (tE (aL rfl rfl rfl) λ_=>V1 (aL rfl rfl<|vW _ _)<|av rfl) rfl rfl (by decide)<|by simp) rfl
theorem TV{L Gs:ac}{A:li}{G:Nat}(f:G∈L):∀(l:ac)(b0 b1 b2 b3 b4:Bool)(a x10 cf:f8),(∀B∈l,B∈L)->∃b d c,Eb (bb 9) uW (ba l) (Lp S rk L A Gs Bs (um b0 b1 b2 b3 b4) G a x10 cf)=.ok (.nx<|Lp S rk L A Gs Bs (um (b0&&l.all (rn A G)) (b1&&l.all (vn A G)) (b2&&l.all (xn A G)) (b3&&l.all (yn G))<|b4&&l.all (gp G)) G b d c)
 |[],b0,b1,b2,b3,b4,a,x10,cf,_=>⟨a,x10,cf,by simp only[List.all_nil,Bool.and_true];rfl⟩
 |B::l,b0,b1,b2,b3,b4,a,x10,cf,h=>by
  obtain⟨k,j,g⟩:=bJ4 (S:=S) (rk:=rk) (Gs:=Gs) (Bs:=Bs) (A:=A) f (h B Gb) (b0:=b0) (b1:=b1) (b2:=b2) (b3:=b3) (b4:=b4) (x10:=x10) (cf:=cf);obtain⟨b,d,c,e⟩:=TV (Gs:=Gs) (Bs:=Bs) (A:=A) f l _ _ _ _ _ B k j λB i=>h B<|Xb _ i
  refine⟨b,d,c,dI (d:=.int (B:Nat)) rfl g<|e.trans ?_⟩;simp only[all_cons,Bool.and_assoc]
theorem WV{L Gs Bs:ac}{A:li}(c:∀B∈Bs,B∈L):∀(l:ac)(b0 b1 b2 b3 b4:Bool)(b a x10 cf:f8),(∀G∈l,G∈L)->∃f d i g,Eb (bb 5) zX (ba l) (Lp S rk L A Gs Bs (um b0 b1 b2 b3 b4) b a x10 cf)=.ok (.nx<|Lp S rk L A Gs Bs (um (b0&&l.all λG=>Bs.all<|rn A G) (b1&&l.all λG=>Bs.all<|vn A G) (b2&&l.all λG=>Bs.all<|xn A G) (b3&&l.all λG=>Bs.all<|yn G)<|b4&&l.all λG=>Bs.all<|gp G) f d i g)
 |[],b0,b1,b2,b3,b4,b,a,x10,cf,_=>⟨b,a,x10,cf,by simp only[List.all_nil,Bool.and_true];rfl⟩
 |G::l,b0,b1,b2,b3,b4,b,a,x10,cf,h=>by
  obtain⟨j,n,m,k⟩:=TV (S:=S) (rk:=rk) (Gs:=Gs) (Bs:=Bs) (A:=A) (h G Gb) Bs b0 b1 b2 b3 b4 a x10 cf c;obtain⟨f,d,i,g,e⟩:=WV (Gs:=Gs) (A:=A) c l _ _ _ _ _ G j n m λB c=>h B<|Xb _ c
  refine⟨f,d,i,g,dI (d:=.int (G:Nat)) rfl (dN rfl k)<|e.trans ?_⟩;simp only[all_cons,Bool.and_assoc]
theorem oP(M:ya S rk c):∀(l p:ac)(a:f8){x0 x1 x3:f8},(p++l).Nodup->(p++l).length<1000->(∀m∈l,m<2^S.length)->∃b,Eb (bb 5) UM (ba l) [x0,x1,D.lst<|ba<|gh S,x3,some<|.o (.d false<|ba p)<|p.map λm=>D.int (kf S c m:Nat),a,none,none,none,none,none,none]=.ok (.nx [x0,x1,D.lst<|ba<|gh S,x3,some<|.o (.d false<|ba<|p++l)<|(p++l).map λm=>D.int (kf S c m:Nat),b,none,none,none,none,none,none])
 |[],p,a,x0,x1,x3,_,_,_=>⟨a,by rw[dh];rfl⟩
 |m::l,p,a,x0,x1,x3,d,f,h=>by
  obtain⟨s,q,i⟩:=Zm.mp d;have j:m∉p:=λz=>i m z m Gb rfl
  obtain⟨g,o⟩:=MG (V:=kf S c) (x:=.int (kf S c m:Nat)) j;have n:p++m::l=p++[m]++l:=by simp
  rw[n]at d f ⊢;obtain⟨b,e⟩:=oP M l (p++[m]) m (x0:=x0) (x1:=x1) (x3:=x3) d f λm k=>h m<|Xb _ k
  refine⟨b,dI (d:=.int (m:Nat)) (s2:=[x0,x1,D.lst<|ba<|gh S,x3,some<|.o (.d false<|ba<|p++[m])<|(p++[m]).map λm=>D.int (kf S c m:Nat),m,none,none,none,none,none,none]) rfl ((NG (k:=.int m) (d:=.int (kf S c m:Nat)) (aJ rfl (Vv M<|h m Gb).1) rfl rfl rfl<|by rw[Kd];rw[af,af]at f;omega).trans ?_) e⟩
  rw[g,o];have:(p++[m]).map (λm=>D.int (kf S c m:Nat))=(p.map λr=>D.int (kf S c r:Nat))++[.int (kf S c m:Nat)]:=by simp
  rw[this];rfl
noncomputable abbrev IA(S:am)(c:Nat):Nat:=kf S c 1
noncomputable abbrev jh(S:am)(c:Nat):ac:=Ko S c<|IA S c
noncomputable def du(S:am)(c:Nat)(rk:ac):ac:=(jh S c).filter λm=>ib rk m
noncomputable def Gw(S:am)(c:Nat)(rk:ac):ac:=(jh S c).filter λm=>!ib rk m
noncomputable def wk(S:am)(c:Nat)(rk:ac)(k:Nat->Nat->Bool):Bool:=(du S c rk).all λG=>(Gw S c rk).all<|k G
noncomputable abbrev wj(S:am)(c:Nat)(rk:ac):dL:=um (wk S c rk<|rn<|kf S c) (wk S c rk<|vn<|kf S c) (wk S c rk<|xn<|kf S c) (wk S c rk yn)<|wk S c rk gp
def bJ6(M:ya S rk c):IA S c<2^S.length:=mL λg a=>Jd.mp (Nd.mp a).1
def Î(M:ya S rk c):tR [.lst<|Rb S,.lst<|ba rk]=.ok (.lst<|wj S c rk):=by
 have w:=M.one;have q:1<2^S.length:=PJ (by omega)
 have e:=bJ6 M;have x:(jh S c).length<=256:=WT M e;have d:∀m∈jh S c,m<2^S.length/\m≠0:=λm a=>by
  obtain⟨p,o⟩:=XG.mp a;refine⟨?_,p.1⟩;rw[<-gU m];exact mL λr k=>aW e<|o r k
 have j:(jh S c).Nodup:=List.Pairwise.filter _ List.nodup_range';obtain⟨i,h⟩:=oP M (jh S c) [] none (x0:=some<|.v<|.lst<|Rb S) (x1:=some<|.v<|.lst<|ba rk) (x3:=some<|.v<|.lst<|ba<|jh S c) j (by rw[Vt];omega) λm a=>(d m a).1
 have s:∀b,jX (bb 5) WM VM [D.lst<|Rb S,D.lst<|ba rk,D.lst<|ba<|gh S,D.lst<|ba<|jh S c,some<|.o (.d false<|ba<|jh S c)<|(jh S c).map λm=>D.int (kf S c m:Nat),b,none,none,none,none,none,none] (ba<|jh S c)=.ok (ba<|du S c rk):=λb=>iG (jh S c) λm a=>⟨_,rfl,aJ rfl<|ZR M (d m a).1 (d m a).2,rfl⟩
 have t:∀b f,jX (bb 5) YM XM [D.lst<|Rb S,D.lst<|ba rk,D.lst<|ba<|gh S,D.lst<|ba<|jh S c,some<|.o (.d false<|ba<|jh S c)<|(jh S c).map λm=>D.int (kf S c m:Nat),b,f,none,none,none,none,none] (ba<|jh S c)=.ok (ba<|Gw S c rk):=λb f=>iG (jh S c) λm a=>⟨_,rfl,rF<|aJ rfl<|ZR M (d m a).1 (d m a).2,rfl⟩
 obtain⟨v,u,z,y,g⟩:=WV (S:=S) (rk:=rk) (L:=jh S c) (Gs:=du S c rk) (Bs:=Gw S c rk) (A:=kf S c) (λB n=>(Nd.mp n).1) (du S c rk) true true true true true i none none none λG l=>(Nd.mp l).1
 simp only[Bool.true_and]at g;refine bB rfl<|aH (aZ<|aJ rfl<|ZE M)<|aH (aZ<|aJ (aR rfl<|aR (aJ (ds:=[.lst<|ba<|gh S,.int 255,.int (1:Nat)]) rfl (Vv M q).1) rfl)<|XT M e) ?_;exact aH rfl<|aH (dN rfl h)<|aH (aZ<|gJ rfl (by rw[bC];omega)<|s _)<|aH (aZ<|gJ rfl (by rw[bC];omega)<|t _ _)<|aH (oN<|cW rfl)<|aH (dN rfl g)<|bH rfl
end
theorem QQ{b:Type}{tg:Tg}{C E:Ex}{st:ua}{F:b->D}{q:b->Bool}:∀(a:List b),(∀k∈a,∃s1,tg (F k) st=.ok s1/\C s1=.ok (.bl<|q k)/\E s1=.ok (F k))->jX tg C E st (a.map F)=.ok ((a.filter q).map F)
 |[],_=>rfl
 |k::a,h=>by
  obtain⟨s1,i,g,f⟩:=h k Gb;have c:=QQ a λk e=>h k<|Xb _ e
  rw[Mf,mW,i,bA,g,bA,zm];cases d:q k with
  |true=>rw[Xm d,Mf,xb rfl,f,bA,c];rfl
  |false=>rw[Ym (by rw[d];decide),Ta ph,c]
def Vp(d:D)(xs:dL):je (d::xs) 0=some d:=by
 unfold je vg;rw[xb (by decide),xb (by rw[ze];omega)]
 rfl
def XH{r:Ee}{st:ua} (h:r st=.ok ds) (a:ds.length<=1000):aj r st=.ok (.tup ds):=by
 show (r st).bind _=_;rw[h];exact aO<|fY<|ye a<|by decide
section
variable{S:am}{rk:ac}{c n:Nat}
def Ï{s:Nat}(h:∀g,al g=Pk g){g:Nat}:cc S c al s g↔cc S c Pk s g:=by
 have:al=Pk:=funext h;rw[this]
def bNt(n:Nat):(λg=>decide (g∈aP n))=λg=>n.testBit g:=funext λg=>by
 cases h:n.testBit g with
 |true=>exact Oc<|aF.mpr h
 |false=>exact yd λz=>by rw[aF.mp z]at h;cases h
def bJ7(M:ya S rk c){s:Nat}(m:n<2^S.length)(l:s<S.length)(g:Nat):(rD [mD S rk c,.int n,.int s,.int g]=.ok .Tb/\¬ (n.testBit s=true/\cc S c (Ie n) s g))\/∃u,rD [mD S rk c,.int n,.int s,.int g]=.ok (.str u)/\cc S c (Ie n) s g:=by
 have o:=M.most;cases k:n.testBit s with
 |false=>exact .inl ⟨bB rfl<|tD<|rW (rF (p:=false)<|aJ rfl<|by rw[Am,k])<|bH rfl,λz=>nomatch z.1⟩
 |true=>
  obtain⟨oa,e,b⟩:=LG M l<|aP n;rw[bNt]at b;have j:∀{d:D},Ds (.Pe false (kD oa)<|wD oa) (.int g) .Tb=.ok d->rD [mD S rk c,.int n,.int s,.int g]=.ok d:=λh=>bB rfl<|fW (iY (rF (p:=true)<|aJ rfl<|by rw[Am,k]) rfl)<|bH (by
   unfold Zs;rw[aJ (aR (show iH "Machine" "steps" (mD S rk c)=_ from mG)<|aR rfl<|aR (aJ rfl<|lX m<|by omega) rfl) e]
   exact h)
  have f:=Cz g oa
  by_cases a:g∈oa.map (·.1)
  .rw[Oc a]at f;obtain⟨x,i,rfl⟩:=xf.mp a;refine .inr ⟨x.2,j ?_,(b.pt x i).2⟩;show aX (Pc false (.int x.1)=true) _=_;rw[aO (c:=Pc false (.int x.1)=true) rfl,xb f,QH b.nd i];rfl
  .rw[yd a]at f;refine .inl ⟨j ?_,λz=>a<|b.whole z.2⟩
   show aX (Pc false (.int g)=true) _=_;rw[aO (c:=Pc false (.int g)=true) rfl,Ta (by rw[f];decide)]
def bJ8(M:ya S rk c):eZ [mD S rk c,.int 0]=.ok .Tb:=LV rfl<|iY (rF (p:=true)<|aJ (aR rfl<|aR (show e1 (iH "Machine" "many") (aA 0) _=.ok (.int (S.length:Nat)) from wO) rfl)<|BQ (x:=0) (by have:=M.one;omega)) rfl
def bJ9(M:ya S rk c){x:ac}(a:Zl c x)(b:x.length<=1000):fB [mD S rk c,.str x]=.ok .Tb:=LV rfl<|iY (rF (p:=true)<|aJ (aR rfl<|aR (show e1 (iH "Machine" "letters") (aA 0) _=.ok (.int (c:Nat)) from N_) rfl)<|(ē M (.str x) rfl<|λy e=>by cases e;omega).trans (by
 show R.ok (D.bl<|good c x)=_;rw[FR.mpr a])) rfl
def ġ(M:ya S rk c){x:ac}(a:Zl c x)(b:x.length<=1000):lW [mD S rk c,.int 0,.str x]=.ok (.int (wQ S 0 x:Nat)):=by
 refine bB rfl<|fW ?_<|fW ?_<|bH<|aL (x:=.lst<|ba<|0::runs S 0 x) ?_ rfl<|fX<|yg<|Ã<|DQ x 0
 .show (bZ "Machine" "check_room" eZ [] (aA 0) (aC (aA 1) aK) _).bind _=_;rw[NF (S:=S) (rk:=rk) (c:=c) rfl rfl (by decide)]
  show (eZ [mD S rk c,.int 0]).bind _=_;rw[bJ8 M];rfl
 .show (bZ "Machine" "check_word" fB [] (aA 0) (aC (aA 2) aK) _).bind _=_;rw[NF (S:=S) (rk:=rk) (c:=c) rfl rfl (by decide)]
  show (fB [mD S rk c,.str x]).bind _=_;rw[bJ9 M a b];rfl
 .exact(eP rfl rfl).trans (HR M (q:=0) (by have:=M.one;omega) x a<|by omega)
noncomputable def ie(S:am)(c:Nat):Nat:=cZ S c (cH<|List.range S.length) 0
def pB:ie S c<2^S.length:=wU
def bJa{g:Nat}:(cH<|List.range S.length).testBit g=decide (g∈List.range S.length):=by rw[dR]
def Mr(M:ya S rk c)(g:Nat):(ie S c).testBit g=true↔cc S c (λg=>decide (g∈List.range S.length)) 0 g:=by
 rw[ie,fU M (by have:=M.one;omega)]
 exact Ï λg=>bJa
def YG(M:ya S rk c){X:Nat}{row:ac}(m:∀L∈X::row,Tc S c L/\L<2^S.length/\iK X L)(F:iK X (ie S c))(R:row.length<=100):∃f us,mF [mD S rk c,.lst<|ba<|X::row]=.ok (.tup [.str f,.lst us])/\Zl c f/\f.length<=8/\wQ S 0 f∈aP X/\us.length=row.length+1/\∀y∈us,∃u,y=.str u:=by
 obtain⟨oa,e,b⟩:=Ζ M;have O:=M.most;have I:=m X Gb;have bl:=b.len;have p:jX (bb 5) DO CO [mD S rk c,D.lst<|ba<|X::row,none,none,none,none,none] (Wn oa)=.ok (Wn<|oa.filter λx=>X.testBit x.1):=QQ oa λx P=>⟨_,rfl,aJ (aR (aL rfl rfl<|fX<|Vp (.int X)<|ba row)<|aR (aL (z:=.ok<|.int (x.1:Nat)) rfl rfl rfl) rfl)<|Am _ _,rfl⟩
 obtain⟨g,o⟩:=Hj _<|pU I.1.1;have i:g∈oa.map (·.1):=b.whole<|(Mr M g).mp<|aF.mp<|F g o;obtain⟨s,N,K⟩:=xf.mp i;cases j:oa.filter λx=>X.testBit x.1 with
 |nil=>
  have:=YA.mp j s N;rw[K]at this;exact(this<|aF.mp o).elim
 |cons y T=>
  have C:y∈oa.filter λx=>X.testBit x.1:=by rw[j];exact Gb
  obtain⟨a,r⟩:=Nd.mp C;obtain⟨k,n⟩:=xt.mp a;have G:=(zg.mp n).1;have Q:=b.ii k y n;have q:y.1∈aP X:=aF.mpr r;obtain⟨us,l,t,E⟩:=GR (tg:=bb 6) (c:=fK) (f:=EO) (st:=[mD S rk c,D.lst<|ba<|X::row,D.lst<|Wn<|y::T,(y.1:Nat),D.str y.2,none,none]) (P:=λ_ z=>∃u,z=.str u) (ba<|X::row) λd H=>by
   obtain⟨L,J,rfl⟩:=Dy H;obtain⟨A,w,v⟩:=m L J;obtain⟨u,l⟩:=iP M w A<|v y.1 q;exact⟨_,.str u,rfl,rfl,aJ rfl l,u,rfl⟩
  rw[j]at p;refine⟨y.2,us,bB rfl<|aH (aZ<|gJ (oW<|aJ rfl e) (by rw[ź];omega) p)<|aH (aZ (d:=.int (y.1:Nat))<|aL (aL rfl rfl<|fX<|Vp (.tup [.int (y.1:Nat),.str y.2])<|Wn T) rfl rfl)<|aH (aZ (d:=.str y.2)<|aL (aL rfl rfl<|fX<|Vp (.tup [.int (y.1:Nat),.str y.2])<|Wn T) rfl rfl)<|bH ?_,(b.lt y a).2,by omega,by rw[(b.pt y a).1];exact q,by rw[t,bC,ze],λz B=>(E z B).elim λ_ h=>h.2⟩
  exact XH (aR rfl<|aR (gJ rfl (by rw[bC,ze];omega) l) rfl) (show 2<=1000 by decide)
def YT(h:iK m n'){a b:Nat}(d:cc S c (Ie m) a b):cc S c (Ie n') a b:=cc.mono (λg e=>aF.mp<|h g<|aF.mpr e) d
def Ei(S:am)(c L G:Nat):Prop:=∃a∈aP L,∃b∈aP G,cc S c (Ie<|ie S c) a b
def ZG(M:ya S rk c){L a b:Nat}(k:Tc S c L)(f:iK L (ie S c))(l:Tc S c G)(g:iK G (ie S c))(e:a∈aP L)(d:b∈aP G):Ei S c L G↔cc S c (Ie<|ie S c) a b:=by
 constructor
 .rintro⟨x,j,y,i,h⟩;exact cc.trans (YT f<|k.2.1 a e x j)<|cc.trans h<|YT g<|l.2.1 y i b d
 .exact λh=>⟨a,e,b,d,h⟩
def De(S:am)(c m:Nat):Prop:=Tc S c m/\m<2^S.length/\iK m (ie S c)
def qU(M:ya S rk c){w:Bool} (h:m∈qI S c rk (ie S c) w):De S c m/\ib rk m=w:=by
 obtain⟨p,a,b⟩:=Jt.mp h;obtain⟨g,f,e,d⟩:=KQ M pB b;refine⟨⟨f,g,e⟩,?_⟩;have:=(Xy.mp a).2;unfold ib;rw[d];exact eq_of_beq this
def vy(M:ya S rk c){m:Nat}(h:De S c m):∃F∈qI S c rk (ie S c) (ib rk m),iK m F:=by
 obtain⟨f,l,i⟩:=h;obtain⟨r,j⟩:=Hj _<|pU f.1;obtain⟨a,b,d⟩:=JQ (rk:=rk) M pB f i rfl j;refine⟨fV S c (Yg rk (ie S c)<|lN rk m) r,Jt.mpr ⟨lN rk m,Xy.mpr ⟨?_,?_⟩,?_⟩,d⟩
 .obtain⟨⟨g,k,e⟩,_⟩:=Gy (rk:=rk) f.1;exact⟨g,i g k,e⟩
 .unfold ib;exact HB _
 .unfold Ao at b;rw[fj,Cf]at b;exact Nd.mpr ⟨mH.mpr ⟨r,a,rfl,b.1⟩,Oc b.2⟩
noncomputable abbrev xX(S:am)(rk:ac)(c:Nat)(g:Bool)(Gs:ac)(x4 f e d b a:f8):ua:=[some<|.v<|mD S rk c,some<|.v<|.bl g,some<|.v<|.int<|ie S c,some<|.v<|.lst<|ba Gs,x4,f,e,d,b,a]
def bJb{G g:Nat}{T:ac}(M:ya S rk c)(d:G<2^S.length)(b:aP G=g::T){a:Nat}{st:ua}(h:st[a]?=some (some<|.v<|.int (G:Int))):e2 qb (aM cC<|aC (aA a) aK) (eI 0) st=.ok (.int (g:Nat)):=aL (aJ (aR (show aA a st=.ok (.int (G:Int)) by unfold aA;rw[h]) rfl)<|lX d (by have:=M.most;omega)) rfl<|fX<|by rw[b];exact Vp _ _
theorem RQ(M:ya S rk c){g:Bool}{Gs:ac}{L a:Nat}{f:ac}{us:dL}{u:D}{T:dL}(F:us=u::T)(k:De S c L)(m:a∈aP L){x4:f8}:∀(l:ac)(j d b:f8),(∀G∈l,De S c G)->
  ((∃p o n,Eb (bb 7) jA (ba l) (xX S rk c g Gs x4 (D.tup [.str f,.lst us]) a j d b)=.ok (.nx<|xX S rk c g Gs x4 (D.tup [.str f,.lst us]) a p o n))/\∀G∈l,¬ Ei S c L G)\/((∃ds,Eb (bb 7) jA (ba l) (xX S rk c g Gs x4 (D.tup [.str f,.lst us]) a j d b)=.ok (.rt<|.tup ds))/\∃G∈l,Ei S c L G)
 |[],j,d,b,_=>.inl ⟨⟨j,d,b,rfl⟩,λ_ h=>(nomatch h)⟩
 |G::l,j,d,b,h=>by
  obtain⟨x,I,Q⟩:=h G Gb;have J:a<S.length:=aW k.2.1 m;cases s:aP G with
  |nil=>exact(pU x.1 s).elim
  |cons e V=>
   have H:e∈aP G:=by rw[s];exact Gb
   have i:=ZG M k.1 k.2.2 x Q m H;have E:bU 8 (e2 qb (aM cC<|aC (aA 7) aK)<|eI 0) (xX S rk c g Gs x4 (D.tup [.str f,.lst us]) a G d b)=.ok (.nx<|xX S rk c g Gs x4 (D.tup [.str f,.lst us]) a G e b):=aZ<|bJb M I s rfl;rcases bJ7 M (pB (S:=S) (c:=c)) J e with ⟨A,N⟩|⟨w,A,K⟩
   .have r:¬ Ei S c L G:=λz=>N ⟨aF.mp<|k.2.2 a m,i.mp z⟩
    have t:jA (xX S rk c g Gs x4 (D.tup [.str f,.lst us]) a G d b)=.ok (.nx<|xX S rk c g Gs x4 (D.tup [.str f,.lst us]) a G e<|some<|.v .Tb):=aH E<|aH (aZ<|aJ rfl A)<|iY (aL rfl rfl rfl) rfl;rcases RQ M (g:=g) (Gs:=Gs) (f:=f) F k m (x4:=x4) l G e (some<|.v .Tb) λG P=>h G (Xb _ P) with ⟨⟨p,o,n,B⟩,U⟩|⟨⟨ds,B⟩,C,y,O⟩
    .refine .inl ⟨⟨p,o,n,dI (d:=.int (G:Nat)) rfl t B⟩,λC y=>?_⟩
     rcases Uc.mp y with q|q
     .rw[q];exact r
     .exact U C q
    .exact .inr ⟨⟨ds,dI (d:=.int (G:Nat)) rfl t B⟩,C,Xb _ y,O⟩
   .obtain⟨v,R⟩:=iP M I x H;refine .inr ⟨⟨[.str f,u,.str w,.str v],?_⟩,G,Gb,i.mpr K⟩;have t:jA (xX S rk c g Gs x4 (D.tup [.str f,.lst us]) a G d b)=.ok (.rt<|.tup [.str f,u,.str w,.str v]):=by
     subst F;exact aH E<|aH (aZ<|aJ rfl A)<|rW (aL rfl rfl rfl)<|bH<|XH (aR (aL (z:=.ok<|.str f) rfl rfl rfl)<|aR (aL (x:=.lst<|u::T) (aL rfl rfl rfl) rfl<|fX<|Vp u T)<|aR rfl<|aR (aJ rfl R) rfl)<|show 4<=1000 by decide
    show Eb (bb 7) jA (.int (G:Nat)::ba l) _=_;rw[wC];show (jA<|xX S rk c g Gs x4 (D.tup [.str f,.lst us]) a G d b).bind _=_;rw[t];rfl
theorem sP(M:ya S rk c){g:Bool}{Gs:ac}(A:∀G∈Gs,De S c G):∀(l:ac)(x4 i e d b a:f8),(∀L∈l,De S c L)->
  ((∃N K J p o n,Eb (bb 4) jB (ba l) (xX S rk c g Gs x4 i e d b a)=.ok (.nx<|xX S rk c g Gs N K J p o n))/\∀L∈l,∀G∈Gs,¬ Ei S c L G)\/((∃ds,Eb (bb 4) jB (ba l) (xX S rk c g Gs x4 i e d b a)=.ok (.rt<|.tup ds))/\∃L∈l,∃G∈Gs,Ei S c L G)
 |[],x4,i,e,d,b,a,_=>.inl ⟨⟨x4,i,e,d,b,a,rfl⟩,λ_ h=>(nomatch h)⟩
 |L::l,x4,i,e,d,b,a,h=>by
  have k:=h L Gb;obtain⟨f,j,V,U,Y,R,Q,_⟩:=YG M (X:=L) (row:=[]) (λr m=>by rw[Od.mp m];exact⟨k.1,k.2.1,λ_ z=>z⟩) k.2.2 (by simp)
  obtain⟨u,T,O⟩:∃u T,j=u::T:=by
   cases j with
   |nil=>simp at Q
   |cons u T=>exact⟨u,T,rfl⟩
  have y:bU 5 (aM mF<|aC (aA 0)<|aC (fJ<|aC (aA 4) aK) aK) (xX S rk c g Gs L i e d b a)=.ok (.nx<|xX S rk c g Gs L (D.tup [.str f,.lst j]) e d b a):=aZ<|aJ (aR rfl<|aR (cW (ds:=ba [L]) rfl) rfl) V;have x:bU 6 (bZ "Machine" "after" lW [] (aA 0)<|aC (eI 0)<|aC (e2 qb (aA 5)<|eI 0) aK) (xX S rk c g Gs L (D.tup [.str f,.lst j]) e d b a)=.ok (.nx<|xX S rk c g Gs L (D.tup [.str f,.lst j]) (wQ S 0 f) d b a):=aZ (by
   rw[NF (S:=S) (rk:=rk) (c:=c) (xs:=[.int 0,.str f]) rfl (aR rfl<|aR (aL (z:=.ok<|.str f) rfl rfl rfl) rfl) (by decide)]
   exact ġ M U<|by omega)
  rcases RQ M (g:=g) (Gs:=Gs) (f:=f) O k R (x4:=some<|.v<|.int L) Gs d b a A with ⟨⟨p,o,n,v⟩,W⟩|⟨⟨ds,v⟩,s⟩
  .have t:jB (xX S rk c g Gs L i e d b a)=.ok (.nx<|xX S rk c g Gs L (D.tup [.str f,.lst j]) (wQ S 0 f) p o n):=aH y<|aH x<|dN rfl v;rcases sP M (g:=g) A l L (D.tup [.str f,.lst j]) (wQ S 0 f) p o n λL k=>h L (Xb _ k) with ⟨⟨I,H,F,E,C,B,w⟩,X⟩|⟨⟨ds,w⟩,r,m,P⟩
   .refine .inl ⟨⟨I,H,F,E,C,B,dI (d:=.int (L:Nat)) rfl t w⟩,λr m=>?_⟩
    rcases Uc.mp m with q|q
    .rw[q];exact W
    .exact X r q
   .exact .inr ⟨⟨ds,dI (d:=.int (L:Nat)) rfl t w⟩,r,Xb _ m,P⟩
  .refine .inr ⟨⟨ds,?_⟩,L,Gb,s⟩;have t:jB (xX S rk c g Gs L i e d b a)=.ok (.rt<|.tup ds):=aH y<|aH x<|dN rfl v;show Eb (bb 4) jB (.int (L:Nat)::ba l) _=_;rw[wC];show (jB<|xX S rk c g Gs L i e d b a).bind _=_;rw[t];rfl
def Og(S:am)(c:Nat)(rk:ac)(g:Bool):Prop:=∃L G,De S c L/\De S c G/\ib rk L=!g/\ib rk G=g/\Ei S c L G
def ZI(M:ya S rk c):iT [mD S rk c,.int 0]=.ok (.int<|ie S c):=SR M (r:=0) (by have:=M.one;omega)
def Ð(M:ya S rk c)(g:Bool):(lL [mD S rk c,.bl g]=.ok .Tb/\¬ Og S c rk g)\/((∃ds,lL [mD S rk c,.bl g]=.ok (.tup ds))/\Og S c rk g):=by
 have n:(∃L∈qI S c rk (ie S c) (!g),∃G∈qI S c rk (ie S c) g,Ei S c L G)↔Og S c rk g:=by
  constructor
  .rintro⟨L,d,G,f,h⟩;obtain⟨j,i⟩:=qU M d;obtain⟨m,l⟩:=qU M f;exact⟨L,G,j,m,i,l,h⟩
  .rintro⟨L,G,j,m,i,l,a,v,b,u,h⟩;obtain⟨x,r,s⟩:=vy (rk:=rk) M j;obtain⟨y,q,t⟩:=vy (rk:=rk) M m;rw[i]at r;rw[l]at q;exact⟨x,r,y,q,a,s a v,b,t b u,h⟩
 have p:bU 2 (aM iT<|aC (aA 0)<|aC (eI 0) aK) [mD S rk c,D.bl g,none,none,none,none,none,none,none,none]=.ok (.nx [mD S rk c,D.bl g,ie S c,none,none,none,none,none,none,none]):=aZ<|aJ rfl<|ZI M;have o:bU 3 (aM dB<|aC (aA 0)<|aC (aA 2)<|aC (aA 1) aK) [mD S rk c,D.bl g,ie S c,none,none,none,none,none,none,none]=.ok (.nx<|xX S rk c g (qI S c rk (ie S c) g) none none none none none none):=aZ<|aJ rfl<|jv M pB;have it:Wc (aM dB<|aC (aA 0)<|aC (aA 2)<|aC (uU<|aA 1) aK) (xX S rk c g (qI S c rk (ie S c) g) none none none none none none)=.ok (ba<|qI S c rk (ie S c)<|!g):=oW<|aJ (aR rfl<|aR rfl<|aR (rF rfl) rfl)<|jv M pB;rcases sP M (g:=g) (Gs:=qI S c rk (ie S c) g) (λG f=>(qU M f).1) (qI S c rk (ie S c)<|!g) none none none none none none (λL d=>(qU M d).1) with ⟨⟨H,F,E,C,B,A,e⟩,w⟩|⟨⟨ds,e⟩,k⟩
 .exact .inl ⟨bB rfl<|aH p<|aH o<|aH (dN it e)<|bH rfl,λz=>by
   obtain⟨L,d,G,f,h⟩:=n.mpr z;exact w L d G f h⟩
 .exact .inr ⟨⟨ds,bB rfl<|aH p<|aH o<|tD<|dN it e⟩,n.mp k⟩
abbrev Kk(S:am)(rk:ac)(c:Nat)(g:Bool)(x2 x3 x4:f8):ua:=[some<|.v<|mD S rk c,some<|.v<|.bl g,x2,x3,x4]
theorem GO(M:ya S rk c){g:Bool}:∀(l:ac)(x2 x3 x4:f8),(∀L∈l,De S c L)->
  ((∃A y x,Eb (bb 2) jD (ba l) (Kk S rk c g x2 x3 x4)=.ok (.nx<|Kk S rk c g A y x))/\∀L∈l,∀Y,¬ ig S c rk (ib rk L) L Y)\/((∃ds,Eb (bb 2) jD (ba l) (Kk S rk c g x2 x3 x4)=.ok (.rt<|.tup ds))/\∃L∈l,∃Y,ig S c rk (ib rk L) L Y)
 |[],x2,x3,x4,_=>.inl ⟨⟨x2,x3,x4,rfl⟩,λ_ h=>(nomatch h)⟩
 |L::l,x2,x3,x4,h=>by
  have a:=h L Gb;obtain⟨F,K,P,o⟩:=WR M a.2.1 a.1.1;have n:bU 3 (aM gG<|aC (aA 0)<|aC (aA 2) aK) (Kk S rk c g L x3 x4)=.ok (.nx<|Kk S rk c g L (D.lst<|ba F) x4):=aZ<|aJ rfl K;have p:e2 Zf (aA 3) (fJ aK) (Kk S rk c g L (D.lst<|ba F) x4)=.ok (.bl<|!decide (F=[])):=aL rfl (cW rfl)<|Iv F;cases F with
  |nil=>
   have t:jD (Kk S rk c g L x3 x4)=.ok (.nx<|Kk S rk c g L (D.lst<|ba []) x4):=aH n<|iY p rfl;have N:∀Y,¬ ig S c rk (ib rk L) L Y:=λY d=>by cases (o Y).mpr d
   rcases GO M (g:=g) l L (D.lst<|ba []) x4 λL a=>h L (Xb _ a) with ⟨⟨w,s,r,j⟩,O⟩|⟨⟨ds,j⟩,e,b,H⟩
   .refine .inl ⟨⟨w,s,r,dI (d:=.int (L:Nat)) rfl t j⟩,λe b=>?_⟩
    rcases Uc.mp b with q|q
    .rw[q];exact N
    .exact O e q
   .exact .inr ⟨⟨ds,dI (d:=.int (L:Nat)) rfl t j⟩,e,Xb _ b,H⟩
  |cons Y F=>
   have d:=(o Y).mp Gb;obtain⟨G,E,C,_,_⟩:=gC M d a.1.1 a.2.1;have m:iK Y L:=λg i=>(mK.mp<|E g i).1
   obtain⟨f,k,J,_,_,_,I,_⟩:=YG M (X:=Y) (row:=[L]) (λe b=>by
    rcases Uc.mp b with q|q
    .rw[q];exact⟨G,C,λ_ z=>z⟩
    .rw[Od.mp q];exact⟨a.1,a.2.1,m⟩) (λg i=>a.2.2 g<|m g i) (by simp)
   obtain⟨u,v,B⟩:∃u v,k=[u,v]:=by
    match k,I with
    |[u,v],_=>exact⟨u,v,rfl⟩
   subst B;refine .inr ⟨⟨[.str f,u,.str [],v],?_⟩,L,Gb,Y,d⟩;have t:jD (Kk S rk c g L x3 x4)=.ok (.rt<|.tup [.str f,u,.str [],v]):=aH n<|rW p<|aH (aZ<|aJ (aR rfl<|aR (cW (ds:=ba [Y,L])<|aR (aL rfl rfl<|fX<|Vp (.int Y)<|ba F)<|aR rfl rfl) rfl) J)<|bH<|XH (aR (aL (z:=.ok<|.str f) rfl rfl rfl)<|aR (aL (x:=.lst [u,v]) (z:=.ok u) (aL rfl rfl rfl) rfl rfl)<|aR rfl<|aR (aL (x:=.lst [u,v]) (z:=.ok v) (aL rfl rfl rfl) rfl rfl) rfl)<|show 4<=1000 by decide
   show Eb (bb 2) jD (.int (L:Nat)::ba l) _=_;rw[wC];show (jD<|Kk S rk c g L x3 x4).bind _=_;rw[t];rfl
def Fe(S:am)(c:Nat)(rk:ac)(g:Bool):Prop:=∃L Y,De S c L/\Tc S c Y/\iK Y L/\ib rk L=g/\ib rk Y=!g
def Ñ(M:ya S rk c)(g:Bool):(gH [mD S rk c,.bl g]=.ok .Tb/\¬ Fe S c rk g)\/((∃ds,gH [mD S rk c,.bl g]=.ok (.tup ds))/\Fe S c rk g):=by
 have it:Wc (aM dB<|aC (aA 0)<|aC (aM iT<|aC (aA 0)<|aC (eI 0) aK)<|aC (aA 1) aK) (Kk S rk c g none none none)=.ok (ba<|qI S c rk (ie S c) g):=oW<|aJ (aR rfl<|aR (aJ rfl<|ZI M)<|aR rfl rfl)<|jv M pB;have n:(∃L∈qI S c rk (ie S c) g,∃Y,ig S c rk (ib rk L) L Y)↔Fe S c rk g:=by
  constructor
  .rintro⟨L,b,Y,w⟩;obtain⟨a,d⟩:=qU M b;obtain⟨u,t,_,_,f⟩:=gC M w a.1.1 a.2.1;refine⟨L,Y,a,u,λg i=>(mK.mp<|t g i).1,d,?_⟩
   rw[d]at f;cases h:ib rk Y<;>cases g<;>first|rfl|(rw[h]at f;exact(f rfl).elim)
  .rintro⟨L,Y,a,p,q,d,m⟩;obtain⟨l,k,r⟩:=vy (rk:=rk) M a;rw[d]at k;obtain⟨o,s⟩:=qU M k;refine⟨l,k,?_⟩;rcases wF M (Ce l) l (Fc _) o.1.1 o.2.1 rfl p (λg i=>r g<|q g i) with ⟨Z,v,_⟩|⟨e,_⟩
   .exact⟨Z,v⟩
   .rw[s,m]at e;cases g<;>cases e
 rcases GO M (g:=g) (qI S c rk (ie S c) g) none none none (λL b=>(qU M b).1) with ⟨⟨m,A,y,e⟩,x⟩|⟨⟨ds,e⟩,j⟩
 .exact .inl ⟨bB rfl<|aH (dN it e)<|bH rfl,λz=>by
   obtain⟨L,b,Y,h⟩:=n.mpr z;exact x L b Y h⟩
 .exact .inr ⟨⟨ds,bB rfl<|tD<|dN it e⟩,n.mp j⟩
end
def Ģ{p:Prop}{r:R α}(h:¬ p):aX p r=.bad:=Ta h
def Zy{st:ua} (h:f st=.ok d):gW f g st=.ok d:=by unfold gW;rw[h]
def pL{st:ua}{r:R D}(h:f st=.bad)(a:g st=r):gW f g st=r:=by unfold gW;rwa [h]
def Kv{c m:String} {r:Ee} {st:ua} (h:f st=.ok (.ins c [] [])) (a:r st=.ok xs) (b:p (.ins c [] [] :: xs)=.ok d):bZ c m p [] f r st=.ok d:=by
 rw[zy,h,a];show aX _ (p<|.ins c [] [] :: (xs++[]))=_;rw[dh,b];exact aO ⟨rfl,RB⟩
def tY{c m:String} {r:Ee} {st:ua} (h:f st=.ok (.ins c' [] [])) (a:r st=.ok xs) (b:c'≠c):bZ c m p [] f r st=.bad:=by
 rw[zy,h,a];exact Ģ λz=>b z.1
theorem fF{b:Type}{tg:Tg}{C E:Ex}{st:ua}{F G:b->D}{q:b->Bool}:∀(a:List b),(∀k∈a,∃s1,tg (F k) st=.ok s1/\C s1=.ok (.bl<|q k)/\(q k=true->E s1=.ok (G k)))->jX tg C E st (a.map F)=.ok ((a.filter q).map G)
 |[],_=>rfl
 |k::a,h=>by
  obtain⟨s1,e,d,i⟩:=h k Gb;have f:=fF a λk c=>h k<|Xb _ c
  rw[Mf,mW,e,bA,d,bA,zm];cases g:q k with
  |true=>simp_all
  |false=>grind
def kindS:sw:=["EarlyNo","EarlyYes","Settled","Again","Lasting"]
def lC(k:Nat):D:=.ins (kindS.getD k "Lasting") [] []
def FC{m:String}{c j i g e:bn} {r:Ee} {st:ua} {k:Nat} (l:k<5) (h:f st=.ok (lC k)) (a:r st=.ok xs) (b:([c,j,i,g,e].getD k c) (lC k::xs)=.ok d):gW (bZ "EarlyNo" m c [] f r) (gW (bZ "EarlyYes" m j [] f r)<|gW (bZ "Settled" m i [] f r)<|gW (bZ "Again" m g [] f r)<|bZ "Lasting" m e [] f r) st=.ok d:=by
 have:k=0\/k=1\/k=2\/k=3\/k=4:=by omega
 rcases this with rfl|rfl|rfl|rfl|rfl
 .exact Zy (Kv h a b)
 .exact pL (tY h a<|by decide) (Zy<|Kv h a b)
 .exact pL (tY h a<|by decide) (pL (tY h a<|by decide)<|Zy<|Kv h a b)
 .exact pL (tY h a<|by decide) (pL (tY h a<|by decide)<|pL (tY h a<|by decide)<|Zy<|Kv h a b)
 .exact pL (tY h a<|by decide) (pL (tY h a<|by decide)<|pL (tY h a<|by decide)<|pL (tY h a<|by decide)<|Kv h a b)
def ģ{k:Nat}(a:k<5):cN [.int k]=.ok (lC k):=by
 have t:∀j:Nat,e2 gd (aA 0) (eC<|.int j) [k]=.ok (.bl<|decide ((k:Int)=(j:Int))):=λj=>aL rfl rfl<|yZ _ _
 have:k=0\/k=1\/k=2\/k=3\/k=4:=by omega
 rcases this with rfl|rfl|rfl|rfl|rfl
 .exact bB rfl (tD<|rW (t 0)<|bH rfl)
 .exact bB rfl (aH (iY (t 0) rfl)<|tD<|rW (t 1)<|bH rfl)
 .exact bB rfl (aH (iY (t 0) rfl)<|aH (iY (t 1) rfl)<|tD<|rW (t 2)<|bH rfl)
 .exact bB rfl (aH (iY (t 0) rfl)<|aH (iY (t 1) rfl)<|aH (iY (t 2) rfl)<|tD<|rW (t 3)<|bH rfl)
 .exact bB rfl (aH (iY (t 0) rfl)<|aH (iY (t 1) rfl)<|aH (iY (t 2) rfl)<|aH (iY (t 3) rfl)<|bH rfl)
def IX{c:Ex}{st:ua}{r:R D}(h:c st=.ok (.bl true))(a:f st=r):Oj c f g st=r:=by rw[GV,h];exact a
def JX{c:Ex}{st:ua}{r:R D}(h:c st=.ok (.bl false))(a:g st=r):Oj c f g st=r:=by rw[GV,h];exact a
section
open Classical in
noncomputable def qN(S:am)(c:Nat)(rk:ac):no
 |0=>!decide (Og S c rk true)
 |1=>!decide (Og S c rk false)
 |2=>!decide (Fe S c rk false) && !decide (Fe S c rk true)
 |3=>!decide (Fe S c rk false)
 |_=>!decide (Fe S c rk true)
open Classical in
def bSz(M:ya S rk c){k:Nat}(n:k<5):∃d,([iU,jC,jQ,nG,jR].getD k iU) [lC k,mD S rk c]=.ok d/\Qi d=qN S c rk k:=by
 have j:∀g,∃d,lL [mD S rk c,.bl g]=.ok d/\Qi d=!decide (Og S c rk g):=λg=>by
  rcases Ð M g with ⟨e,h⟩|⟨⟨ds,e⟩,h⟩
  .exact⟨_,e,by rw[yd h];rfl⟩
  .exact⟨_,e,by rw[Oc h];rfl⟩
 have b:∀g,∃d,gH [mD S rk c,.bl g]=.ok d/\Qi d=!decide (Fe S c rk g):=λg=>by
  rcases Ñ M g with ⟨e,h⟩|⟨⟨ds,e⟩,h⟩
  .exact⟨_,e,by rw[yd h];rfl⟩
  .exact⟨_,e,by rw[Oc h];rfl⟩
 have:k=0\/k=1\/k=2\/k=3\/k=4:=by omega
 rcases this with rfl|rfl|rfl|rfl|rfl
 .obtain⟨d,e,a⟩:=j true;exact⟨d,(bB rfl (bH<|aJ rfl e):iU [lC 0,mD S rk c]=.ok d),a⟩
 .obtain⟨d,e,a⟩:=j false;exact⟨d,(bB rfl (bH<|aJ rfl e):jC [lC 1,mD S rk c]=.ok d),a⟩
 .obtain⟨d,e,a⟩:=b false;obtain⟨i,m,l⟩:=b true;have t:e2 aq (aA 2) (eC .Tb) [lC 2,mD S rk c,d]=.ok (.bl<|!Qi d):=aL rfl rfl (by cases d<;>rfl)
  have g:∀z,Oj (e2 aq (aA 2)<|eC .Tb) (aA 2) (aM gH<|aC (aA 1)<|aC (eC<|.bl true) aK) [lC 2,mD S rk c,d]=.ok z->jQ [lC 2,mD S rk c]=.ok z:=λz h=>bB rfl<|aH (aZ<|aJ rfl e)<|bH h
  cases f:Qi d<;>rw[f]at t
  .exact⟨d,g d<|IX t rfl,by show _=(!decide (Fe S c rk false) && !decide (Fe S c rk true));rw[<-a,f];rfl⟩
  .exact⟨i,g i<|JX t<|aJ rfl m,by show _=(!decide (Fe S c rk false) && !decide (Fe S c rk true));rw[<-a,f,l];rfl⟩
 .obtain⟨d,e,a⟩:=b false;exact⟨d,(bB rfl (bH<|aJ rfl e):nG [lC 3,mD S rk c]=.ok d),a⟩
 .obtain⟨d,e,a⟩:=b true;exact⟨d,(bB rfl (bH<|aJ rfl e):jR [lC 4,mD S rk c]=.ok d),a⟩
def Nr(M:ya S rk c) (f:∀g,g<S.length->Pk g=true) {s g:Nat} (e:s<S.length) (h:cc S c al s g):cc S c Pk s g:=by
 induction h with
 |here=>exact .here
 |on h b _ d=>
  obtain⟨_,_,_,a⟩:=vo M (wR M e h) b;exact .on d b<|f _ a
def HI(M:ya S rk c):∀g,g<S.length->Ie 255 g=true:=λg b=>by
 have a:=M.most;have:g=0\/g=1\/g=2\/g=3\/g=4\/g=5\/g=6\/g=7:=by omega
 rcases this with rfl|rfl|rfl|rfl|rfl|rfl|rfl|rfl<;>rfl
def Ĥ(M:ya S rk c):IA S c=ie S c:=dk λg=>by
 have l:=M.one;have f:=(Vv M (m:=1)<|PJ<|by omega).2 g
 have d:=Mr M g;have:xj S c 255 1 g↔cc S c (λg=>decide (g∈List.range S.length)) 0 g:=by
  constructor
  .rintro⟨s,s1,_,b⟩;have e:s=0:=by
    refine bj λz=>?_
    have:(1:Nat).testBit s=false:=by
     obtain⟨k,rfl⟩:∃k,s=k+1:=⟨s-1,by omega⟩
     rw[Nat.testBit_succ];simp
    rw[this]at s1;cases s1
   rw[e]at b;exact Nr M (λg i=>Oc<|Jd.mpr i) (by omega) b
  .exact λh=>⟨0,rfl,rfl,Nr M (HI M) (by omega) h⟩
 cases a:(ie S c).testBit g with
 |true=>exact f.mpr<|this.mpr<|d.mp a
 |false=>
  cases j:(IA S c).testBit g with
  |false=>rfl
  |true=>
   have:=d.mpr<|this.mp<|f.mp j;rw[a]at this;cases this
def ZT(M:ya S rk c):m∈jh S c↔De S c m:=by
 unfold jh;rw[XG,Ĥ M];constructor
 .rintro⟨d,a⟩;refine⟨d,?_,a⟩;rw[<-gU m];exact mL λr b=>aW pB<|a r b
 .exact λh=>⟨h.1,h.2.2⟩
def hU(M:ya S rk c):m∈du S c rk↔De S c m/\ib rk m=true:=by unfold du;rw[Nd,ZT M]
def kU(M:ya S rk c):m∈Gw S c rk↔De S c m/\ib rk m=false:=by unfold Gw;rw[Nd,ZT M,Wo]
def zA(M:ya S rk c){k:Nat->Nat->Bool}:wk S c rk k=true↔∀G B,De S c G->De S c B->ib rk G=true->ib rk B=false->k G B=true:=by
 unfold wk;rw[ww];constructor
 .intro h G B a b d e;exact ww.mp (h G<|(hU M).mpr ⟨a,d⟩) B<|(kU M).mpr ⟨b,e⟩
 .intro h G a;rw[ww];intro B b;obtain⟨d,f⟩:=(hU M).mp a;obtain⟨e,g⟩:=(kU M).mp b;exact h G B d e f g
def my(M:ya S rk c) {a b:Nat} (j:a∈aP (ie S c)) (h:cc S c al a b):cc S c (Ie<|ie S c) a b:=by
 have e:=aW pB j;have d:∀b,cc S c al a b->cc S c (Ie<|ie S c) a b/\(ie S c).testBit b=true:=λb h=>by
  induction h with
  |here=>exact⟨.here,aF.mp j⟩
  |on h f n g=>
   rename_i r l;have k:=wR M e h;obtain⟨_,_,_,m⟩:=vo M k f;have i:(ie S c).testBit (Yc S r l)=true:=(Mr M _).mpr<|.on ((Mr M r).mp g.2) f<|Oc<|Jd.mpr m;exact⟨.on g.1 f i,i⟩
 exact(d b h).1
def yK(M:ya S rk c){B:Nat}(e:De S c G)(o:De S c B):toN (kf S c) G B=true↔Ei S c G B:=by
 have f:=(Vv M e.2.1).2;unfold toN;rw[Cf];constructor
 .intro h;have m:kf S c G&&&B≠0:=by omega
  obtain⟨g,k⟩:=Hj _<|pU m;have:=aF.mp k;rw[ik,fj]at this;obtain⟨s,s1,_,j⟩:=(f g).mp this.1;exact⟨s,aF.mpr s1,g,aF.mpr this.2,my M (e.2.2 s<|aF.mpr s1) j⟩
 .rintro⟨a,i,b,n,h⟩;have d:=aW e.2.1 i;have l:(kf S c G).testBit b=true:=(f b).mpr ⟨a,aF.mp i,HI M a d,Nr M (HI M) d h⟩;have p:kf S c G&&&B≠0:=λz=>by
   have:(kf S c G&&&B).testBit b=true:=by rw[ik,l,aF.mp n];rfl
   rw[z]at this;simp at this
  omega
open Classical in
def bR0(M:ya S rk c):wk S c rk (rn<|kf S c)=qN S c rk 0:=by
 show _=!decide (Og S c rk true)
 by_cases h:Og S c rk true
 .rw[Oc h];obtain⟨L,G,d,a,f,b,g⟩:=h;refine mm.mpr λz=>?_
  have:=(zA M).mp z G L a d b f;unfold rn at this;rw[(yK M d a).mpr g]at this;cases this
 .rw[yd h];refine(zA M).mpr λG B a e b i=>?_
  unfold rn;rw[Wo];exact mm.mpr λz=>h ⟨B,G,e,a,i,b,(yK M e a).mp z⟩
open Classical in
def bR1(M:ya S rk c):wk S c rk (vn<|kf S c)=qN S c rk 1:=by
 show _=!decide (Og S c rk false)
 by_cases h:Og S c rk false
 .rw[Oc h];obtain⟨L,G,d,a,f,b,g⟩:=h;refine mm.mpr λz=>?_
  have:=(zA M).mp z L G d a f b;unfold vn at this;rw[(yK M d a).mpr g]at this;cases this
 .rw[yd h];refine(zA M).mpr λG B a e b i=>?_
  unfold vn;rw[Wo];exact mm.mpr λz=>h ⟨G,B,a,e,b,i,(yK M a e).mp z⟩
def Hm(M:ya S rk c){L:Nat}(b:De S c L)(f:Tc S c Y)(a:iK Y L):De S c Y:=by
 refine⟨f,?_,λg e=>b.2.2 g<|a g e⟩
 rw[<-gU Y];exact mL λr d=>aW b.2.1<|a r d
open Classical in
def bR2(M:ya S rk c):wk S c rk yn=qN S c rk 3:=by
 show _=!decide (Fe S c rk false)
 by_cases h:Fe S c rk false
 .rw[Oc h];obtain⟨L,Y,b,f,a,e,d⟩:=h;refine mm.mpr λz=>?_
  have:=(zA M).mp z Y L (Hm M b f a) b d e;unfold yn at this;rw[Oc<|Lr.mpr a]at this;cases this
 .rw[yd h];refine(zA M).mpr λG B g i j k=>?_
  unfold yn;rw[Wo];exact yd λz=>h ⟨B,G,i,g.1,Lr.mp z,k,j⟩
open Classical in
def bR3(M:ya S rk c):wk S c rk gp=qN S c rk 4:=by
 show _=!decide (Fe S c rk true)
 by_cases h:Fe S c rk true
 .rw[Oc h];obtain⟨L,Y,b,f,a,e,d⟩:=h;refine mm.mpr λz=>?_
  have:=(zA M).mp z L Y b (Hm M b f a) e d;unfold gp at this;rw[Nat.and_comm,Oc<|Lr.mpr a]at this;cases this
 .rw[yd h];refine(zA M).mpr λG B g i j k=>?_
  unfold gp;rw[Wo];exact yd λz=>h ⟨G,B,g,i.1,Lr.mp (by rw[Nat.and_comm];exact z),j,k⟩
def AU(M:ya S rk c){B:Nat}(a:De S c G)(d:De S c B)(p:Ei S c G B)(o:Ei S c B G):∃X,De S c X/\iK G X/\iK B X:=by
 obtain⟨X,h,f⟩:=SG M pB a.1 a.2.2;obtain⟨s,r,q⟩:=dX M pB h;obtain⟨k,l,i,_⟩:=mH.mp h;obtain⟨g,e⟩:=Hj _<|pU a.1.1;have j:=aW pB l;refine⟨X,⟨s,q,r⟩,f,λb hb=>?_⟩
 have n:Qh S c (ie S c) k g:=(lM M j).mp (by rw[i];exact aF.mp<|f g e)
 have m:Qh S c (ie S c) g b:=⟨(ZG M a.1 a.2.2 d.1 d.2.2 e hb).mp p,(ZG M d.1 d.2.2 a.1 a.2.2 hb e).mp o⟩;have:=(lM M j).mpr<|n.trans m;rw[i]at this;exact aF.mpr this
open Classical in
def bR4(M:ya S rk c):wk S c rk (xn<|kf S c)=qN S c rk 2:=by
 show _=(!decide (Fe S c rk false) && !decide (Fe S c rk true));have d:∀{L Y:Nat},De S c L->Tc S c Y->iK Y L->Ei S c Y L/\Ei S c L Y:=λ{L Y} f k e=>by
  obtain⟨g,n⟩:=Hj _<|pU k.1;exact⟨⟨g,n,g,e g n,.here⟩,⟨g,e g n,g,n,.here⟩⟩
 by_cases h:Fe S c rk false\/Fe S c rk true
 .have:(!decide (Fe S c rk false) && !decide (Fe S c rk true))=false:=by
   rcases h with h|h
   .rw[Oc h];rfl
   .rw[Oc h,Bool.and_comm];rfl
  rw[this];refine mm.mpr λz=>?_
  have m:∀G B,De S c G->De S c B->ib rk G=true->ib rk B=false->Ei S c G B->Ei S c B G->False:=λG B i j p q l v=>by
   have:=(zA M).mp z G B i j p q;unfold xn at this;rw[(yK M i j).mpr l,(yK M j i).mpr v]at this;cases this
  rcases h with ⟨L,Y,f,k,e,l,o⟩|⟨L,Y,f,k,e,l,o⟩
  .obtain⟨a,b⟩:=d f k e;exact m Y L (Hm M f k e) f o l a b
  .obtain⟨a,b⟩:=d f k e;exact m L Y f (Hm M f k e) l o b a
 .rw[yd λz=>h<|.inl z,yd λz=>h<|.inr z]
  refine(zA M).mpr λG B i j p q=>?_
  unfold xn;rw[Wo];refine mm.mpr λz=>?_
  rw[fj,yK M i j,yK M j i]at z;obtain⟨X,s,t,u⟩:=AU M i j z.1 z.2;cases r:ib rk X
  .exact h (.inl ⟨X,G,s,i.1,t,r,p⟩)
  .exact h (.inr ⟨X,B,s,j.1,u,r,q⟩)
end
section
variable{S:am}{rk:ac}{c n base:Nat}
open Classical in
noncomputable def ak(S:am)(rk:ac)(c X:Nat):ac:=if h:∃F,gG [mD S rk c,.int X]=.ok (.lst<|ba F)/\F.length<=100/\∀Y,Y∈F↔ig S c rk (ib rk X) X Y then h.choose else []
def kH(M:ya S rk c)(a:n<2^S.length)(b:n≠0):gG [mD S rk c,.int n]=.ok (.lst<|ba<|ak S rk c n)/\(ak S rk c n).length<=100/\∀Y,Y∈ak S rk c n↔ig S c rk (ib rk n) n Y:=by
 have h:=WR M a b;unfold ak;rw[dif_pos h];exact h.choose_spec
def tZ(M:ya S rk c):xm S c rk (ak S rk c):=λX b a Y=>(kH M a b).2.2 Y
noncomputable def Qm(S:am)(c:Nat):Nat:=cZ S c (cH<|List.range S.length) 0
def vX:Qm S c<2^S.length:=wU
noncomputable def xY(S:am)(c:Nat):ac:=eV S c<|Qm S c
theorem aS(M:ya S rk c):pI [mD S rk c]=.ok (.lst<|ba<|xY S c):=
 bB rfl (bH<|aJ (aR rfl<|aR (aJ rfl<|SR M (by have:=M.one;lia)) rfl)<|Fy M vX)
abbrev dW(W:li)(l:ac):dL:=l.map λg=>D.int (W g:Nat)
theorem YV{W:li} {g:Nat} (d:l.Nodup):∃c,zT (ba l) (.int g)=ba c/\zU (ba l) (dW W l) (.int g) (.int (W g:Nat))=dW W c/\c.Nodup/\c.length<=l.length+1/\∀x,x∈c↔x∈l\/x=g:=by
 by_cases h:g∈l
 .obtain⟨e1,e2⟩:=ET h;refine⟨l,e1,e2.trans<|Rk λk _=>?_,d,by lia,λx=>⟨.inl,λz=>z.elim id λz=>z ▸ h⟩⟩
  grind
 obtain⟨e1,e2⟩:=MG h;refine⟨l++[g],e1,e2.trans (by simp),Zm.mpr ⟨d,dj.mpr ⟨RB,Yt⟩,λa i b f e=>?_⟩,by simp,λx=>by simp⟩
 simp_all
noncomputable abbrev Ui(S:am)(rk:ac)(c base k X g:Nat):Nat:=rj rk (ak S rk c) base k X g
noncomputable abbrev Ip(S:am)(rk:ac)(c base k X:Nat):Nat:=Bi rk (ak S rk c) base k X
theorem bNv(M:ya S rk c){k X:Nat}(i:Ce X<=k)(b:X<2^S.length)(a:Tc S c X):∃r∈aP X,Ui S rk c base k X r=Ip S rk c base k X:=by
 have m:=vC a.1;obtain⟨k,rfl⟩:∃j,k=j+1:=⟨k-1,by lia⟩
 rcases wF M (k+1) X i a.1 b rfl a (λ_ h=>h) with ⟨Y,l,e⟩|⟨_,r,f,g⟩
 .obtain⟨_,_,_,d,_⟩:=gC M l a.1 b;have:=(dG X).length_le_of_subset e;unfold Ce at d;lia
 exact⟨r,f,Ez (tZ M) a.1 b g⟩
theorem ZV{W:li}:∀(m l:ac),l.Nodup->∃a,Pm (ba l) (dW W l) (ba m) (dW W m)=(ba a,dW W a)/\a.Nodup/\∀x,x∈a↔x∈l\/x∈m
 |[],l,b=>⟨l,by cases h:ba l<;>rfl,b,λx=>by simp⟩
 |g::m,l,b=>by
  obtain⟨f,e1,e2,d,_,k⟩:=YV b;obtain⟨e,i,c,j⟩:=ZV m f d;refine⟨e,?_,c,λx=>?_⟩
  .show Pm _ _ (ba m) _=_;rw[e1,e2,i]
  grind
theorem AW{st:ua}{m:ac}(h:f st=.ok (.Pe false (ba m)<|dW W m))(g:st[i]?=some (some<|.o (.d false<|ba l)<|dW W l))(b:l.Nodup)(k:l.length<=1000)(j:m.length<=1000):∃a,gw i f st=.ok (.nx<|st.set i<|some<|.o (.d false<|ba a)<|dW W a)/\a.Nodup/\∀x,x∈a↔x∈l\/x∈m:=by
 obtain⟨a,e,c,d⟩:=ZV m l b;refine⟨a,?_,c,d⟩;unfold gw;rw[h,bA,g];dsimp only;rw[aO ⟨by rw[bC,Kd],fY<|by rw[Kd,Kd];lia⟩,e]
theorem bJc{st:ua} {v:Nat} (n:g st=.ok (.int r)) (o:f st=.ok (.int v)) (b:st[i]?=some (some<|.o (.d false<|ba l)<|dW W l)) (c:l.Nodup) (q:l.length<1000) (m:r∉l->W r=v):∃a,fA i g f st=.ok (.nx<|st.set i<|some<|.o (.d false<|ba a)<|dW W a)/\a.Nodup/\∀x,x∈a↔x∈l\/x=r:=by
 have p:st.set i (some<|.o (.d false<|ba l)<|dW W l)=st:=by
  refine SJ λj=>?_
  rw[Bg]
  by_cases e:i=j
  .subst e;rw[xb rfl,xb<|(zg.mp b).1,b]
  rw[Ta e]
 unfold fA;rw[n,bA,o,bA,b];dsimp only;rw[aO ⟨rfl,Av<|by rw[Kd];lia⟩,Ey]
 by_cases h:r∈l
 .exact⟨l,by rw[Oc h,xb rfl,p],c,λx=>⟨.inl,λz=>z.elim id λz=>z ▸ h⟩⟩
 obtain⟨a,e1,e2,d,_,k⟩:=YV c;refine⟨a,?_,d,k⟩;rw[yd h,Ta ph,e1,<-m h,e2]
theorem ĥ(base:Nat)(b:Bool):vU [.int base,.bl b]=.ok (.int<|Cm base b):=by
 have t:(e2 gd (e2 gd (e2 oZ (aA 0)<|eI 2)<|eI 0)<|aA 1) [base,D.bl b]=.ok (.bl<|decide (base%2=0)==b):=by
  refine aL (aL (aL rfl rfl<|tH<|by lia) rfl<|yZ _ _) rfl<|(WG _ _).trans ?_
  have:decide ((base:Int)%2=0)=decide (base%2=0):=Qo.mpr (by lia)
  rw[this]
 refine bB rfl<|bH ?_;show (e2 gd _ _ [some _,some _]).bind _=_;rw[t,bA,zm];unfold Cm;cases h:decide (base%2=0)==b
 .exact aL rfl rfl (by rfl)
 rfl
abbrev Js(S:am)(rk:ac)(c X base:Nat)(W:li)(l:ac)(r:Nat)(d b a:f8):ua:=[some<|.v<|mD S rk c,some<|.v<|.int X,some<|.v<|.int base,some<|.o (.d false<|ba l)<|dW W l,some<|.v<|.int r,d,b,a]
def Gives(S:am)(rk:ac)(c base k X:Nat)(p:bn):Prop:=∃l,p [mD S rk c,.int X,.int base]=.ok (.Pe false (ba l)<|dW (Ui S rk c base k X) l)/\l.Nodup/\∀g,g∈l↔g∈aP X
def bJd(M:ya S rk c){k:Nat}(d:Ce Y<=k)(f:Y<2^S.length)(b:Tc S c Y) (j:∀g,g∈l↔g∈aP Y):iA (.Pe false (ba l)<|dW (Ui S rk c base k Y) l)=.ok (.int<|Ip S rk c base k Y):=by
 obtain⟨r,i,m⟩:=bNv M d f b;show (wH _).bind _=_;have e:dW (Ui S rk c base k Y) l=(l.map λg=>((Ui S rk c base k Y g):Int)).map D.int:=by simp
 have a:=(j r).mpr i;rw[e,sO,bA,aO (by rw[Kd];exact TZ a)]
 congr 2;refine Xu (xf.mpr ⟨r,a,by rw[m]⟩) λx h=>?_
 obtain⟨g,_,rfl⟩:=xf.mp h;exact Int.ofNat_le.mpr (Hs M (tZ M) k Y d b.1 f g).2
theorem JO(M:ya S rk c){k X:Nat}(L:Ce X<=k+1)(w:X≠0)(q:X<2^S.length){rec:bn}(A:∀Y,Ce Y<=k->Tc S c Y->Y<2^S.length->Gives S rk c base k Y rec){u:f8}:∀(b l:ac)(r:Nat)(j i:f8),(∀Y∈b,ig S c rk (ib rk X) X Y)->l.Nodup->(∀g∈l,g∈aP X)->
  ∃a t s,Eb (bb 5) (QM rec) (ba b) (Js S rk c X base (Ui S rk c base (k+1) X) l r j u i)=.ok (.nx<|Js S rk c X base (Ui S rk c base (k+1) X) a (Bo (Ip S rk c base k) r b) t u s)/\a.Nodup/\(∀g∈a,g∈aP X)/\∀g,g∈a↔g∈l\/∃Y∈b,g∈aP Y
 |[],l,r,j,i,_,n,o=>⟨l,j,i,rfl,n,o,λg=>⟨.inl,λz=>z.elim id λ⟨_,h,_⟩=>nomatch h⟩⟩
 |Y::b,l,r,j,i,h,n,o=>by
  have p:=h Y Gb;obtain⟨y,I,v,Q,_⟩:=gC M p w q;obtain⟨m,e1,F,d⟩:=A Y (by lia) y v
  have N:dW (Ui S rk c base k Y) m=dW (Ui S rk c base (k+1) X) m:=Rk λg e=>by
   show D.int ((rj rk (ak S rk c) base k Y g))=D.int ((rj rk (ak S rk c) base (k+1) X g));rw[qA M (tZ M) w q p<|(d g).mp e]
  have J:=ye (F.length_le_of_subset λg e=>(d g).mp e)<|km M v
  have K:=ye (n.length_le_of_subset o)<|km M q;obtain⟨H,B,E,x⟩:=AW (i:=3) (f:=aA 7) (st:=Js S rk c X base (Ui S rk c base (k+1) X) l (max r<|Ip S rk c base k Y+1) Y u<|D.Pe false (ba m)<|dW (Ui S rk c base k Y) m) (by rw[<-N];rfl) rfl n (by lia) (by lia)
  obtain⟨a,t,s,O,C,P,G⟩:=JO M L w q A b H (max r<|Ip S rk c base k Y+1) Y (D.Pe false (ba m)<|dW (Ui S rk c base k Y) m) (λY p=>h Y<|Xb _ p) E<|λg e=>((x g).mp e).elim (o g) λz=>(mK.mp<|I g<|(d g).mp z).1
  refine⟨a,t,s,dI rfl (aH (aZ<|aJ rfl e1)<|aH (aZ<|aL rfl (aL (bJd M (by lia) v y d) rfl rfl) rfl) ?_) O,C,P,λg=>?_⟩
  .refine Fw ?_ B;have:(if (((Ip S rk c base k Y))+1)>(r:Int) then (((Ip S rk c base k Y):Int)+1) else r)=((max r<|Ip S rk c base k Y+1)):=by
    split<;>lia
   rw[this];rfl
  rw[G g,x g,d g];constructor
  .rintro((h|h)|⟨Z,f,h⟩)
   .exact .inl h
   .exact .inr ⟨Y,Gb,h⟩
   exact .inr ⟨Z,Xb _ f,h⟩
  rintro(h|⟨Z,f,h⟩)
  .exact .inl (.inl h)
  rcases Uc.mp f with z|f
  .exact .inl (.inr<|z ▸ h)
  exact .inr ⟨Z,f,h⟩
theorem BP{rec:bn}{X:Nat}{W:li}{r:Nat}:∀(a l:ac)(d:f8),l.Nodup->l.length+a.length<=100->(∀g∈a,g∉l->W g=r)->∃b e,Eb (bb 6) (RM rec) (ba a) (Js S rk c X base W l r x5 d x7)=.ok (.nx<|Js S rk c X base W b r x5 e x7)/\b.Nodup/\∀g,g∈b↔g∈l\/g∈a
 |[],l,d,f,_,_=>⟨l,d,rfl,f,λg=>by simp⟩
 |g::a,l,d,f,s,h=>by
  rw[ze]at s;obtain⟨o,e1,k,i⟩:=bJc (i:=3) (g:=aA 6) (f:=aA 4) (st:=Js S rk c X base W l r x5 (some<|.v _) x7) rfl rfl rfl f (by lia)<|h g Gb
  have q:=by
   have:=k.length_le_of_subset (l₂:=g::l) λx j=>by
    rcases (i x).mp j with z|z
    .exact Xb _ z
    rw[z];exact Gb
   rwa [ze]at this
  obtain⟨b,e,t,m,n⟩:=BP a o _ k (by lia) λx j p=>h x (Xb _ j) λz=>p<|(i x).mpr<|.inl z
  refine⟨b,e,dI rfl e1 t,m,λx=>?_⟩
  rw[n x,i x,Uc];constructor
  .rintro((h|h)|h)
   .exact .inl h
   .exact .inr (.inl h)
   exact .inr<|.inr h
  rintro(h|h|h)
  .exact .inl (.inl h)
  .exact .inl (.inr h)
  exact .inr h
theorem bS(M:ya S rk c):∀(k X:Nat),Ce X<=k->Tc S c X->X<2^S.length->Gives S rk c base k X (pR k)
 |0,X,l,w,_=>by have:=vC w.1;lia
 |k+1,X,l,b,a=>by
  have s:=km M a;obtain⟨x,_,e⟩:=kH M a b.1;obtain⟨p,B,z,e1,i,s1,j⟩:=JO M l b.1 a (λY v u t=>bS M k Y v u t) (ak S rk c X) [] _ none none (λY d=>(e Y).mp d) Yt (λ_ h=>nomatch h)
  have r:=ye (i.length_le_of_subset s1) s;obtain⟨o,A,y,m,n⟩:=BP (aP X) p none i (by lia) λg C q=>Ez (tZ M) b.1 a λY d f=>q<|(j g).mpr<|.inr ⟨Y,(e Y).mpr d,f⟩
  refine⟨o,bB rfl ?_,m,λg=>?_⟩
  .exact aH rfl (aH (aZ<|aJ (aR rfl<|aR (Yy M a b.1 rfl rfl) rfl)<|ĥ _ _)<|aH (dN (oW<|aJ rfl x) e1)<|aH (dN (oW<|VR M a rfl) y)<|bH rfl)
  rw[n g,j g];constructor
  .rintro((h|⟨Y,d,h⟩)|h)
   .exact nomatch h
   .exact(mK.mp<|(gC M ((e Y).mp d) b.1 a).2.1 g h).1
   exact h
  exact .inr
noncomputable def Jh(S:am)(rk:ac)(c base g:Nat):Nat:=match (xY S c).find? λX=>X.testBit g with
 |some X=>Ui S rk c base 12 X g
 |none=>base
def qv(M:ya S rk c){X g:Nat}(d:X∈xY S c)(b:g∈aP X):Jh S rk c base g=Ui S rk c base 12 X g:=by
 unfold Jh;cases a:(xY S c).find? λX=>X.testBit g with
 |none=>exact(List.find?_eq_none.mp a X d<|aF.mp b).elim
 |some Z=>
  have e:=YJ a;rw[yJ M vX d (RA a) b<|aF.mpr e]
def Iy{g:Nat}(h:∀X∈xY S c,g∉aP X):Jh S rk c base g=base:=by
 unfold Jh;cases a:(xY S c).find? λX=>X.testBit g with
 |none=>rfl
 |some Z=>exact(h Z (RA a)<|aF.mpr<|by simpa using List.find?_some a).elim
noncomputable abbrev II(S:am)(rk:ac)(c base:Nat)(l:ac)(x3:f8):ua:=[some<|.v<|mD S rk c,some<|.v<|.int base,some<|.o (.d false<|ba l)<|dW (Jh S rk c base) l,x3,none]
theorem CP(M:ya S rk c):∀(e l:ac)(x3:f8),(∀X∈e,X∈xY S c)->l.Nodup->(∀g∈l,g<S.length)->∃a o,Eb (bb 3) HN (ba e) (II S rk c base l x3)=.ok (.nx<|II S rk c base a o)/\a.Nodup/\(∀g∈a,g<S.length)/\∀g,g∈a↔g∈l\/∃X∈e,g∈aP X
 |[],l,x3,_,f,j=>⟨l,x3,rfl,f,j,λg=>⟨.inl,λz=>z.elim id λ⟨_,h,_⟩=>nomatch h⟩⟩
 |X::e,l,x3,h,f,j=>by
  have k:=h X Gb;obtain⟨A,E,n⟩:=dX M vX k;have D:=M.most;obtain⟨m,e1,u,i⟩:=bS M 12 X (ye (km M n)<|by lia) A n
  have B:dW (Ui S rk c base 12 X) m=dW (Jh S rk c base) m:=Rk λg b=>by rw[qv M k<|(i g).mp b]
  have x:=ye (u.length_le_of_subset λg b=>(i g).mp b)<|km M n
  have y:=nM _ _ f j;rw[B]at e1;obtain⟨w,q,t,p⟩:=AW (i:=2) (f:=aM rE<|aC (aA 0)<|aC (aA 3)<|aC (aA 1) aK) (st:=II S rk c base l X) (aJ rfl e1) rfl f (by lia) (by lia)
  obtain⟨a,o,C,s,r,v⟩:=CP M e w X (λX k=>h X<|Xb _ k) t<|λg b=>((p g).mp b).elim (j g) λz=>aW n<|(i g).mp z
  refine⟨a,o,dI rfl q C,s,r,λg=>?_⟩
  rw[v g,p g,i g];constructor
  .rintro((h|h)|⟨Z,d,h⟩)
   .exact .inl h
   .exact .inr ⟨X,Gb,h⟩
   exact .inr ⟨Z,Xb _ d,h⟩
  rintro(h|⟨Z,d,h⟩)
  .exact .inl (.inl h)
  rcases Uc.mp d with z|d
  .exact .inl (.inr<|z ▸ h)
  exact .inr ⟨Z,d,h⟩
def cS{b:Bd} {st s:ua} (h:b st=.ok (.nx s)) (a:f s=.ok (.lst xs)):sJ b f st=.ok (.rt<|.lst xs):=by
 unfold sJ;rw[h];dsimp only;rw[a,bA]
noncomputable def oX(S:am)(rk:ac)(c base:Nat):ac:=(List.range S.length).map<|Jh S rk c base
theorem az(M:ya S rk c)(base:Nat):dM [mD S rk c,.int base]=.ok (.lst<|ba<|oX S rk c base):=by
 obtain⟨l,d,e,f,j,m⟩:=CP M _ [] none (λ_ h=>h) Yt (λ_ h=>nomatch h)
 have i:=M.most;refine bB rfl<|cS (aH rfl<|aH (dN (oW<|aJ rfl<|aS M) e) rfl)<|gJ (yG wO<|by lia) (by simp;lia)<|Fw (iG _ λg k=>⟨_,rfl,rfl,by
  show aX _ _=_;rw[aO<|show Pc false _=true from rfl,Ey]
  by_cases h:g∈l
  .rw[Oc h,wV _ h];rfl
  rw[yd h,Ta ph,Iy λX b a=>h<|(m g).mpr<|.inr ⟨X,b,a⟩]⟩) ?_
 rw[xB.mpr<|λ_ _=>rfl]
 unfold oX ba;rw[Jj];rfl
inductive Ch (S:am) (c:Nat) (rk:ac) (g:Bool):wp
 |one {Z:Nat}:Tc S c Z->ib rk Z=g->Ch S c rk g Z 1
 |up {Y Z m:Nat}:Ch S c rk g Y m->Tc S c Z->iK Y Z->ib rk Y≠ib rk Z->Ch S c rk g Z (m+1)
def Ch.lp{g:Bool} (h:Ch S c rk g Z m):Tc S c Z:=by
 cases h with
 |one h _=>exact h
 |up _ h _ _=>exact h
def BW(b:iK Y Z)(d:Y≠Z):Ce Y<Ce Z:=by
 by_cases h:∀r∈aP Z,r∈aP Y
 .exact(d<|Dz b h).elim
 .obtain⟨r,a⟩:=Classical.not_forall.mp h;obtain⟨a,c⟩:=Classical.not_imp.mp a;exact GI b a c
def Ks{g:Bool} (h:Ch S c rk g Z m):1<=m/\m<=Ce Z:=by
 induction h with
 |one h _=>exact⟨Fc _,vC h.1⟩
 |up _ _ b d a=>exact⟨by omega,vw a.2<|BW b λz=>d<|by rw[z]⟩
theorem YH{P:Nat->Prop}:∀B:Nat,(∀m,P m->m<=B)->∃v,(v=0\/P v)/\∀m,P m->m<=v
 |0,h=>⟨0,.inl rfl,h⟩
 |B+1,h=>by
  by_cases b:P (B+1)
  .exact⟨B+1,.inr b,h⟩
  .exact YH B λm a=>by
    have:=h m a;have:m≠B+1:=λz=>b<|z ▸ a
    omega
noncomputable def Kx(S:am)(c:Nat)(rk:ac)(g:Bool)(Z:Nat):Nat:=(YH (P:=Ch S c rk g Z) (Ce Z) λm a=>(Ks a).2).choose
def BU(g:Bool)(Z:Nat):(Kx S c rk g Z=0\/Ch S c rk g Z (Kx S c rk g Z))/\∀m,Ch S c rk g Z m->m<=Kx S c rk g Z:=(YH (P:=Ch S c rk g Z) (Ce Z) λm a=>(Ks a).2).choose_spec
open Classical in
noncomputable def gm(S:am)(c:Nat):ac:=(List.range<|2^S.length).filter λm=>decide (Tc S c m/\iK m (Qm S c))
open Classical in
def uQ{m:Nat}:m∈gm S c↔m<2^S.length/\Tc S c m/\iK m (Qm S c):=by
 unfold gm;rw[Nd,Jd];exact⟨λh=>⟨h.1,ck h.2⟩,λh=>⟨h.1,Oc h.2⟩⟩
def SF(M:ya S rk c){X:Nat}(h:X∈xY S c):X∈gm S c:=by
 obtain⟨a,b,d⟩:=dX M vX h;exact uQ.mpr ⟨d,a,b⟩
def dS(M:ya S rk c) (h:Z∈gm S c):∃X∈xY S c,iK Z X:=by
 obtain⟨_,b,d⟩:=uQ.mp h;exact SG M vX b d
def Lv(M:ya S rk c){X:Nat}(h:X∈xY S c):Ce X<=12/\Tc S c X/\X<2^S.length:=by
 obtain⟨a,_,d⟩:=dX M vX h;exact⟨ye (km M d) (by omega),a,d⟩
noncomputable def nP(S:am)(c:Nat)(rk:ac)(g:Bool):Int:=if (gm S c).map (λZ=>((Kx S c rk g Z:Nat):Int))=[] then 0 else Jk ((gm S c).map λZ=>((Kx S c rk g Z:Nat):Int))
def Mu(g:Bool):0<=nP S c rk g/\(∀Z∈gm S c,∀m:Nat,Ch S c rk g Z m->(m:Int)<=nP S c rk g)/\(nP S c rk g=0\/∃Z∈gm S c,∃m:Nat,Ch S c rk g Z m/\(m:Int)=nP S c rk g):=by
 unfold nP;split
 .rename_i h;have h:=List.map_eq_nil_iff.mp h;rw[h];exact⟨by omega,λ_ z=>(nomatch z),.inl rfl⟩
 .rename_i h;obtain⟨i,f⟩:=QG h;obtain⟨Z,d,e⟩:=xf.mp i;obtain⟨s1,j⟩:=BU (S:=S) (c:=c) (rk:=rk) g Z;rw[<-e];refine⟨by omega,λY hY m hm=>?_,?_⟩
  .have a:=f _<|xf.mpr ⟨Y,hY,rfl⟩;have b:=(BU (S:=S) (c:=c) (rk:=rk) g Y).2 m hm;rw[<-e]at a;omega
  .rcases s1 with s1|s1
   .exact .inl (by omega)
   .exact .inr ⟨Z,d,_,s1,rfl⟩
def SQ:(oX S rk c base).length=S.length:=by unfold oX;simp
def bz(M:ya S rk c):ya S (oX S rk c base) c:=⟨M.one,M.most,M.c1,M.c3,M.row,SQ⟩
def eS(h:r<S.length):(oX S rk c base).getD r 0=Jh S rk c base r:=by
 unfold oX;rw[ng,cj,yB h];rfl
def bJe(M:ya S rk c) (h:Z∈gm S c):lN (oX S rk c base) Z%2=lN rk Z%2:=by
 obtain⟨X,k,i⟩:=dS M h;obtain⟨m,l,_⟩:=uQ.mp h;obtain⟨x1,o,n⟩:=Lv M k;obtain⟨T,⟨g,j,q⟩,d,f⟩:=RV (base:=base) M (tZ M) 12 X x1 o.1 n l i;have b:∀r∈aP Z,((oX S rk c base).getD r 0:Int)=((rj rk (ak S rk c) base 12 X r:Nat):Int):=λr a=>by
  rw[eS<|aW m a,qv M k<|i r a]
 have e:lN (oX S rk c base) Z=(T:Int):=by
  refine Xu (xf.mpr ⟨g,j,by rw[b g j,q]⟩) λx p=>?_
  obtain⟨r,a,rfl⟩:=xf.mp p;rw[b r a];exact Int.ofNat_le.mpr<|d r a
 rw[e];unfold ib at f;rw[Cf]at f;omega
def bJf(M:ya S rk c)(g:Nat):base<=Jh S rk c base g:=by
 by_cases h:∃X∈xY S c,g∈aP X
 .obtain⟨X,a,b⟩:=h;obtain⟨x1,e,d⟩:=Lv M a;rw[qv M a b];exact(Hs (base:=base) M (tZ M) 12 X x1 e.1 d g).1
 .rw[Iy λX a b=>h ⟨X,a,b⟩]
  exact Fc _
end
def Ò(l:ac)(k:Nat):cH (l++[k])=cH l|||2^k:=by
 unfold cH ir;rw[List.foldl_append];rfl
theorem Jy(p:no):∀k,(((List.range k).filter p).map λr=>2^r).sum=cH ((List.range k).filter p)
 |0=>rfl
 |k+1=>by
  rw[List.range_succ,List.filter_append];have b:=Jy p k;have a:cH ((List.range k).filter p)<2^k:=mL λr d=>Jd.mp (Nd.mp d).1
  cases c:p k with
  |true=>
   rw[Xm c,Dw,Ò,Gi,List.sum_append,b,List.map_singleton,List.sum_singleton,Nat.or_comm];have:=Nat.two_pow_add_eq_or_of_lt a 1;rw[Nat.mul_one]at this;rw[<-this,Nat.add_comm]
  |false=>rw[Ym (by rw[c];decide),Dw,dh,b]
section
variable{S:am}{rk:ac}{c n:Nat}
noncomputable def rY(S:am)(c G:Nat):no:=λr=>decide (0<cZ S c (cH<|List.range S.length) r&&&G)
def Ħ(M:ya S rk c)(G:Nat):ly [mD S rk c,.int G]=.ok (.int<|cH<|(List.range S.length).filter<|rY S c G):=by
 have b:=M.most;refine bB rfl<|aH (aZ<|JT M rfl)<|bH<|aJ (aR (d:=.lst<|ba<|(List.range S.length).filter<|rY S c G) (gJ (xs:=ba<|List.range S.length) ?_ (by rw[bC,Vk];omega) ?_) rfl)<|Ir (l:=(List.range S.length).filter<|rY S c G) (λr a=>by have:=Jd.mp (Nd.mp a).1;omega) (by have:=Ro (rY S c G)<|List.range S.length;rw[Vk]at this;omega)
 .exact yG (by show iH "Machine" "many" (mD S rk c)=_;exact wO) (by omega)
 .exact iG (q:=rY S c G) (G:=λr=>.int r) (List.range S.length) (λr a=>⟨_,rfl,Hk (aL (aL (aL rfl rfl<|MT<|Jd.mp a) rfl<|vW _ _) rfl<|Fv _ _) (by
   unfold rY
   by_cases h:0<cZ S c (cH<|List.range S.length) r&&&G
   .rw[Oc h,yd (by omega)];rfl
   .rw[yd h,Oc (by omega)];rfl),rfl⟩)
end
def bJg{a b:Nat}:0<a&&&b↔∃g,a.testBit g=true/\b.testBit g=true:=by
 constructor
 .intro h;obtain⟨g,c⟩:=Nat.exists_testBit_of_ne_zero<|Nat.pos_iff_ne_zero.mp h;rw[ik,fj]at c;exact⟨g,c⟩
 .rintro⟨g,e,d⟩;refine OJ λz=>?_
  have:(a&&&b).testBit g=true:=by rw[ik,e,d];rfl
  rw[z,Tt]at this;cases this
section
variable{S:am}{rk:ac}{c n al:Nat}{q:Nat}{w:Bool}
def jn(L:ac)(b:Nat):Nat:=L.foldl (λb m=>b|||m) b
theorem Fz{g:Nat}:∀(L:ac)(b:Nat),g∈aP (jn L b)↔g∈aP b\/∃m∈L,g∈aP m
 |[],b=>by
  constructor
  .exact .inl
  .rintro(z|⟨m,h,_⟩)
   .exact z
   .cases h
 |m::L,b=>by
  show g∈aP (jn L<|b|||m)↔_
  rw[Fz L,aF,Zo,Wt,<-aF,<-aF];constructor
  .rintro((z|z)|⟨o,a,c⟩)
   .exact .inl z
   .exact .inr ⟨m,Gb,z⟩
   .exact .inr ⟨o,Xb _ a,c⟩
  .rintro(z|⟨o,a,c⟩)
   .exact .inl (.inl z)
   .rcases Uc.mp a with rfl|a
    .exact .inl (.inr c)
    .exact .inr ⟨o,a,c⟩
def bR5(a b:Nat):Mj (.int a) (.int b)=.ok (.int ((a|||b:Nat):Int)):=by
 have:Mj (.int (a:Int)) (.int (b:Int))=.ok (.int (((a:Int).toNat|||(b:Int).toNat:Nat):Int)):=aO ⟨by omega,by omega⟩
 rw[this,dn,dn]
theorem CU(x0:f8):∀(L:ac)(b:Nat)(x2:f8),∃a,Eb (bb 2) WO (ba L) [x0,b,x2]=.ok (.nx [x0,jn L b,a])
 |[],b,x2=>⟨x2,rfl⟩
 |m::L,b,x2=>by
  obtain⟨a,e⟩:=CU x0 L (b|||m) m
  exact⟨a,dI rfl (aZ<|aL rfl rfl<|bR5 b m) e⟩
def LX(L:ac):Ku [.lst<|ba L]=.ok (.int<|jn L 0):=by
 obtain⟨a,e⟩:=CU (D.lst<|ba L) L 0 none;exact bB rfl<|aH (aZ rfl)<|aH (dN (oW rfl) e) rfl
def Ν(p:no):∀k,cH ((List.range k).filter p)+cH ((List.range k).filter λr=>!p r)=cH (List.range k):=λk=>by
 have d:=Jy p k;have c:=Jy (λr=>!p r) k
 have b:=Jy (λ_=>true) k
 have e:(List.range k).filter (λ_=>true)=List.range k:=xB.mpr λ_ _=>rfl
 rw[e]at b;rw[<-d,<-c,<-b];generalize List.range k=l
 induction l with
 |nil=>rfl
 |cons a l f=>
  cases h:p a with
  |true=>rw[Xm h,Ym (by rw[h];decide),Mf,Mf,sum_cons,sum_cons];omega
  |false=>rw[Ym (by rw[h];decide),Xm (by rw[h];rfl),Mf,Mf,sum_cons,sum_cons];omega
def bJh(p:no)(k:Nat):fw (.int (cH (List.range k):Nat)) (.int (cH ((List.range k).filter p):Nat))=.ok (.int (cH ((List.range k).filter λr=>!p r):Nat)):=by
 have e:fw (.int (cH (List.range k):Nat)) (.int (cH ((List.range k).filter p):Nat))=.ok (.int<|(((cH (List.range k):Int).toNat|||(cH ((List.range k).filter p):Int).toNat:Nat):Int)-(((cH (List.range k):Int).toNat&&&(cH ((List.range k).filter p):Int).toNat:Nat):Int)):=aO ⟨by omega,by omega⟩
 have b:cH (List.range k)|||cH ((List.range k).filter p)=cH (List.range k):=bNm.mpr λg c=>kY.mpr (Nd.mp<|kY.mp c).1
 have a:cH (List.range k)&&&cH ((List.range k).filter p)=cH ((List.range k).filter p):=dk λr=>by
  rw[ik,dR,dR]
  by_cases h:r∈(List.range k).filter p
  .rw[Oc h,Oc (Nd.mp h).1];rfl
  .rw[yd h,Nt]
 rw[e,dn,dn,b,a];have:=Ν p k;congr 2;omega
noncomputable def pM(S:am)(c:Nat)(rk:ac)(w:Bool):Nat:=jn (qI S c rk (cH<|List.range S.length) w) 0
def fS(M:ya S rk c):jL [mD S rk c,.bl w]=.ok (.int<|cH<|(List.range S.length).filter λr=>!rY S c (pM S c rk w) r):=
 bB rfl (aH (aZ<|aJ rfl<|IT M)<|aH (aZ<|aJ (aR (aJ rfl<|jv M SH) rfl)<|LX _)<|bH<|aL rfl (aJ rfl<|Ħ M _)<|bJh _ _)
def Xp(M:ya S rk c) (A:r<S.length):rY S c (pM S c rk w) r=true↔∃m,m<2^S.length/\Tc S c m/\(∀g∈aP m,g∈aP (cZ S c (cH<|List.range S.length) r))/\(decide (lN rk m%2=0)==w)=true:=by
 have o:cH (List.range S.length)<2^S.length:=SH;unfold rY;rw[Cf,bJg];have b:∀{g},(cZ S c (cH<|List.range S.length) r).testBit g=true↔cc S c (Ie<|cH<|List.range S.length) r g:=λ{g}=>fU M A g
 have a:∀{m:Nat},m<2^S.length->∀g∈aP m,g∈aP (cH<|List.range S.length):=λj g k=>kY.mpr<|Jd.mpr<|aW j k
 constructor
 .rintro⟨g,i,d⟩;rcases (Fz _ _).mp (aF.mpr d) with z|⟨m,j,e⟩
  .rw[aF,Tt]at z;cases z
  .obtain⟨p,B,v⟩:=Jt.mp j;obtain⟨n,l,G,q⟩:=KQ M o v;refine⟨m,n,l,λx hx=>aF.mpr<|b.mpr ?_,by rw[q];exact(Xy.mp B).2⟩
   exact cc.trans (b.mp i)<|cc.mono (λy u=>aF.mp<|a n y<|aF.mpr u)<|l.2.1 g e x hx
 .rintro⟨m,i,d,D,C⟩;have E:=pU d.1;obtain⟨g,T,k⟩:∃g T,aP m=g::T:=by
   cases h:aP m with
   |nil=>exact(E h).elim
   |cons g T=>exact⟨g,T,rfl⟩
  have e:g∈aP m:=by rw[k];exact Gb
  obtain⟨t,f,s⟩:=JQ M o d (a i) rfl e;obtain⟨⟨x,hx,F⟩,_⟩:=Gy (rk:=rk) d.1;refine⟨g,aF.mp<|D g e,aF.mp<|(Fz _ _).mpr<|.inr ⟨fV S c (Yg rk (cH<|List.range S.length)<|lN rk m) g,?_,s g e⟩⟩;refine Jt.mpr ⟨lN rk m,Xy.mpr ⟨⟨x,a i x hx,F⟩,C⟩,Nd.mpr ⟨mH.mpr ⟨g,t,rfl,?_⟩,?_⟩⟩
  .unfold Ao at f;exact(K0.mp f).1
  .unfold Ao at f;exact(K0.mp f).2
end
section
variable{S:am}{rk:ac}{c:Nat}
def CW{m v:Nat}(b:m≠0)(h:∀r∈aP m,l.getD r 0=v):ib l m=decide (v%2=0):=by
 obtain⟨⟨r,a,e⟩,_⟩:=Gy (rk:=l) b;unfold ib;rw[<-e,h r a];exact Qo.mpr (by omega)
def uf(S:am)(f:li):ac:=(List.range S.length).map f
def Gz{f:li} (a:r<S.length):(uf S f).getD r 0=f r:=by
 unfold uf;rw[ng,cj,yB a];rfl
def bJi{f:li}:(uf S f).length=S.length:=by unfold uf;rw[Kd,Vk]
def sv(M:ya S rk c)(f:li):ya S (uf S f) c:=⟨M.one,M.most,M.c1,M.c3,M.row,bJi⟩
def Mv{f:li}{m v:Nat}(b:De S c m)(h:∀r∈aP m,f r=v):ib (uf S f) m=decide (v%2=0):=CW b.1.1 λr a=>by rw[Gz<|aW b.2.1 a,h r a]
noncomputable def uh(S:am)(c:Nat)(rk:ac)(g:Bool)(r:Nat):Nat:=if rY S c (pM S c rk g) r=g then 0 else 1
def DW(M:ya S rk c){x:Nat}(h:x<S.length):(cH<|List.range S.length).testBit x=true:=aF.mp<|kY.mpr<|Jd.mpr h
def ħ(M:ya S rk c){m:Nat}(a:r∈aP (ie S c))(e:m<2^S.length)(d:Tc S c m)(b:∀g∈aP m,g∈aP (cZ S c (cH<|List.range S.length) r)):De S c m:=by
 refine⟨d,e,λg hg=>aF.mpr<|(Mr M g).mpr ?_⟩
 have f:=M.one;refine cc.trans ((Mr M r).mp<|aF.mp a)<|Nr M (λg hg=>Oc<|Jd.mpr hg) (aW pB a)<|(fU M (aW pB a) g).mp<|aF.mp<|b g hg
def DU(M:ya S rk c) (a:m<2^S.length/\Tc S c m) (d:r∈aP m):rY S c (pM S c rk<|ib rk m) r=true:=by
 have b:=aW a.1 d;refine(Xp M b).mpr ⟨m,a.1,a.2,λx hx=>aF.mpr<|(fU M b x).mpr ?_,by unfold ib;exact HB _⟩
 exact Nr M (λg e=>DW M e) b<|a.2.2.1 r d x hx
def DP(M:ya S rk c){g:Bool}(h:¬ Og S c rk g) (b:De S c m):ib (uf S<|uh S c rk g) m=ib rk m:=by
 by_cases d:ib rk m=g
 .rw[Mv (v:=if true=g then 0 else 1) b λr a=>by unfold uh;rw[<-d,DU M ⟨b.2.1,b.1⟩ a],d]
  cases g<;>rfl
 .have:∀r∈aP m,rY S c (pM S c rk g) r=false:=λr a=>mm.mpr λz=>by
   have f:=aW b.2.1 a;obtain⟨k,o,j,i,n⟩:=(Xp M f).mp z;have l:=ħ M (b.2.2 r a) o j i;obtain⟨x,e⟩:=Hj _<|pU j.1;refine h ⟨m,k,b,l,by cases g<;>revert d<;>cases ib rk m<;>decide,eq_of_beq n,r,a,x,e,my M (b.2.2 r a)<|(fU M f x).mp<|aF.mp<|i x e⟩
  rw[Mv (v:=if false=g then 0 else 1) b λr a=>by unfold uh;rw[this r a]]
  revert d;cases g<;>cases ib rk m<;>decide
noncomputable def Au(S:am)(c:Nat)(rk:ac):Nat:=jn (qI S c rk (ie S c) true) 0
noncomputable def sj(S:am)(c:Nat)(rk:ac)(r:Nat):Nat:=if (Au S c rk).testBit r=true then 0 else 1
def Wr(M:ya S rk c):(Au S c rk).testBit r=true↔∃m,De S c m/\ib rk m=true/\r∈aP m:=by
 unfold Au;rw[<-aF,Fz];constructor
 .rintro(z|⟨m,g,a⟩)
  .rw[aF,Tt]at z;cases z
  .obtain⟨d,b⟩:=qU M g;exact⟨m,d,b,a⟩
 .rintro⟨m,d,b,a⟩;obtain⟨F,e,f⟩:=vy (rk:=rk) M d;rw[b]at e;exact .inr ⟨F,e,f r a⟩
def W9(M:ya S rk c)(k:¬ Fe S c rk false)(j:¬ Fe S c rk true) (a:De S c m):ib (uf S<|sj S c rk) m=ib rk m:=by
 cases d:ib rk m
 .rw[Mv (v:=1) a λr hr=>?_]
  .rfl
  .unfold sj;rw[Ta λz=>?_]
   obtain⟨G,f,l,g⟩:=(Wr M).mp z;obtain⟨X,e,h,i⟩:=AU M f a ⟨r,g,r,hr,.here⟩ ⟨r,hr,r,g,.here⟩;cases b:ib rk X
   .exact k ⟨X,G,e,f.1,h,b,l⟩
   .exact j ⟨X,m,e,a.1,i,b,d⟩
 .rw[Mv (v:=0) a λr hr=>by unfold sj;rw[xb<|(Wr M).mpr ⟨m,a,d,hr⟩]]
  rfl
def Er:De S c m↔m∈gm S c:=by
 rw[uQ];exact⟨λh=>⟨h.2.1,h.1,h.2.2⟩,λh=>⟨h.2.1,h.1,h.2.2⟩⟩
def TF(M:ya S rk c){base:Nat}(a:De S c m):ib (oX S rk c base) m=ib rk m:=by
 unfold ib;rw[bJe M<|Er.mp a]
def EU(M:ya S rk c){b:Nat}(o:b<2)(h:¬ Fe S c rk (decide (b=0))){v:Nat}(l:Row S c rk b Z v):De S c Z->v<=b+1/\(ib rk Z=decide (b=0)->v=b):=by
 have:b=0\/b=1:=by omega
 induction l with
 |one k=>
  rename_i Z;intro _;rcases this with rfl|rfl<;>cases ib rk Z<;>decide
 |up _ k a g i=>
  rename_i Y Z v f;intro d;have m:=Hm M d f.lp a;obtain⟨n,j⟩:=i m;have e:ib rk Z=decide (b=0)->False:=λe=>h ⟨Z,Y,d,f.lp,a,e,by revert g;rw[e];cases ib rk Y<;>cases decide (b=0) <;> decide⟩
  refine⟨?_,λz=>(e z).elim⟩
  have:ib rk Y=decide (b=0):=by
   revert g e;cases ib rk Y<;>cases ib rk Z<;>cases decide (b=0) <;> simp
  have:=j this;omega
def FU(M:ya S rk c){b:Nat}(j:b<2)(h:¬ Fe S c rk (decide (b=0)))(r:Nat):b<=Jh S rk c b r/\Jh S rk c b r<=b+1:=by
 refine⟨bJf M r,?_⟩
 by_cases i:∃X∈xY S c,r∈aP X
 .obtain⟨X,a,d⟩:=i;obtain⟨g,f,e⟩:=Lv M a;rw[qv M a d];have l:=(Hs (base:=b) M (tZ M) 12 X g f.1 e r).2;have k:=(EU M j h (UH M (tZ M) 12 X g f e)<|Er.mpr<|SF M a).1;exact ye l k
 .rw[Iy λX a d=>i ⟨X,a,d⟩]
  omega
end
def zh(π:li)(Z:Nat):Nat:=cH<|(aP Z).map π
structure Gh(S T:am)(rk Xc:ac)(c:Nat)(π:li):Prop where
 lt:∀x,x<T.length->π x<S.length
 st:∀x,x<T.length->∀k,k<c->π (Yc T x k)=Yc S (π x) k
 z:π 0=0
 ev:∀Z,Tc T c Z->Z<2^T.length->ib Xc Z=ib rk (zh π Z)
section
variable{S T:am}{rk Xc:ac}{c:Nat}{π:li}{g:Bool}
def jT{Z:Nat}:r∈aP (zh π Z)↔∃x∈aP Z,π x=r:=by
 unfold zh;rw[kY,xf]
def sA(C:Gh S T rk Xc c π) (d:Z<2^T.length):zh π Z<2^S.length:=mL λr b=>by
 obtain⟨x,a,rfl⟩:=xf.mp b;exact C.lt x<|aW d a
def xA(h:Z≠0):zh π Z≠0:=λz=>by
 obtain⟨x,a⟩:=Hj _<|rH h;have:π x∈aP (zh π Z):=jT.mpr ⟨x,a,rfl⟩;rw[z]at this;exact absurd (aF.mp this) (by simp)
def ZH(C:Gh S T rk Xc c π)(n:ya T Xc c) {a b:Nat} (l:a<T.length) (e:∀g,Pk g=true->al (π g)=true) (h:cc T c Pk a b):cc S c al (π a) (π b):=by
 induction h with
 |here=>exact .here
 |@on r k m d i f=>
  have j:=wR n l m;have:=e _ i;rw[C.st r j k d]at this ⊢;exact .on f d this
def GU(M:ya S rk c){x:Nat}(s:Z<2^S.length)(h:Tc S c Z)(d:x∈aP Z):∃k,k<c/\Yc S x k∈aP Z:=by
 by_cases f:∃b∈aP Z,b≠x
 .obtain⟨b,f,m⟩:=f;have:∀{b},cc S c (Ie Z) x b->b≠x->∃k,k<c/\Yc S x k∈aP Z:=λ{b} h=>by
   induction h with
   |here=>exact λz=>absurd rfl z
   |@on r k j o q n=>
    intro _
    by_cases e:r=x
    .subst e;exact⟨k,o,aF.mpr q⟩
    .exact n e
  exact this (h.2.1 x d b f) m
 .have all:∀b∈aP Z,b=x:=λb u=>bj λz=>f ⟨b,u,z⟩
  have g:=h.2.2;unfold Qb at g;have one:¬ 1<(aP Z).length:=λz=>by
   have i:=dG Z;generalize aP Z=L at i all z
   match L,z with
   |a::b::l,_=>
    have e1:=all a (by simp)
    have e2:=all b (by simp)
    simp[e1,e2]at i
  have p:(aP Z).headD 0=x:=by
   generalize aP Z=L at all d;cases L with
   |nil=>nomatch d
   |cons a l=>exact all a Gb
  rw[yd one,cK,Cf,p]at g;obtain⟨k,j,t⟩:=(uP M<|aW s d).mp g;exact⟨k,j,by rw[t];exact d⟩
def gS(M:ya S rk c){Z:Nat}(e:Z<2^S.length)(j:Z≠0)(h:∀x∈aP Z,∃k,k<c/\Yc S x k∈aP Z):Qb S Z=true:=by
 unfold Qb
 by_cases a:1<(aP Z).length
 .rw[Oc a];rfl
 .rw[yd a,cK,Cf];have b:=rH j;generalize f:aP Z=L at a b h
  match L,a with
  |[x],_=>
   have d:x∈aP Z:=by rw[f];exact Od.mpr rfl
   obtain⟨k,i,g⟩:=h x<|Od.mpr rfl;exact(uP M<|aW e d).mpr ⟨k,i,Od.mp g⟩
  |[],_=>exact absurd rfl b
  |x::y::l,a=>simp at a
def Wv(C:Gh S T rk Xc c π)(M:ya S rk c)(i:ya T Xc c) (e:Z<2^T.length) (h:Tc T c Z):Tc S c (zh π Z):=by
 refine⟨xA h.1,λa ha b hb=>?_,gS M (sA C e) (xA h.1) λr hr=>?_⟩
 .obtain⟨x,d,rfl⟩:=jT.mp ha;obtain⟨y,j,rfl⟩:=jT.mp hb;exact ZH C i (aW e d) (λg l=>aF.mp<|jT.mpr ⟨g,aF.mpr l,rfl⟩)<|h.2.1 x d y j
 .obtain⟨x,d,rfl⟩:=jT.mp hr;obtain⟨k,f,m⟩:=GU i e h d;exact⟨k,f,by rw[<-C.st x (aW e d) k f];exact jT.mpr ⟨_,m,rfl⟩⟩
def sub_lt{k:Nat}(h:iK Y Z)(b:Z<2^k):Y<2^k:=by
 rw[<-gU Y];exact mL λr a=>aW b<|h r a
def bNw(h:iK Y Z):iK (zh π Y) (zh π Z):=λr b=>by
 obtain⟨x,a,e⟩:=jT.mp b;exact jT.mpr ⟨x,h x a,e⟩
def bR6(C:Gh S T rk Xc c π)(M:ya S rk c)(f:ya T Xc c) (h:Ch T c Xc g Z m):Z<2^T.length->Ch S c rk g (zh π Z) m:=by
 induction h with
 |one b e=>exact λa=>.one (Wv C M f a b) (by rw[<-C.ev _ b a];exact e)
 |@up Y Z m l b d j k=>
  intro a;have i:=sub_lt d a;exact .up (k i) (Wv C M f a b) (bNw d) (by rw[<-C.ev _ l.lp i,<-C.ev _ b a];exact j)
def Zg(π:li)(n Y:Nat):Nat:=cH<|(List.range n).filter λx=>Y.testBit<|π x
def uv{x:Nat}:x∈aP (Zg π n Y)↔x<n/\π x∈aP Y:=by
 unfold Zg;rw[kY,Nd,Jd,aF]
structure Cl(S T:am)(c:Nat)(π:li)(Y A:Nat):Prop where
 lt:A<2^T.length
 ne:A≠0
 pr:∀x∈aP A,π x∈aP Y
 on:∀x∈aP A,∀k,k<c->Yc S (π x) k∈aP Y->Yc T x k∈aP A
theorem iS(f:li):∀{l:ac},l≠[]->∃x∈l,∀y∈l,f x<=f y
 |[x],_=>⟨x,Od.mpr rfl,λy a=>by rw[Od.mp a];exact Fc _⟩
 |x::z::l,_=>by
  obtain⟨y,a,h⟩:=iS f (l:=z::l) (by simp)
  by_cases b:f x<=f y
  .refine⟨x,Gb,λw hw=>?_⟩
   rcases Uc.mp hw with rfl|hw
   .exact Fc _
   .have:=h w hw;omega
  .refine⟨y,Xb _ a,λw hw=>?_⟩
   rcases Uc.mp hw with rfl|hw
   .omega
   .exact h w hw
def Ξ{a b:Nat}(h:cc T c al a b):(∀z,cc T c al a z->Pk z=true)->cc T c Pk a b:=by
 induction h with
 |here=>exact λ_=>.here
 |on i e g f=>exact λd=>.on (f d) e<|d _<|.on i e g
def dU(b:ya T Xc c){x y:Nat}(a:x<T.length):y∈aP (cZ T c n x)↔cc T c (Ie n) x y:=by
 rw[aF];exact fU b a y
def AH(C:Gh S T rk Xc c π)(d:ya T Xc c){x:Nat}(b:x<T.length)(g:π x∈aP Y):Cl S T c π Y (cZ T c (Zg π T.length Y) x):=by
 have lt:∀y∈aP (cZ T c (Zg π T.length Y) x),y<T.length:=λy a=>wR d b<|(dU d b).mp a
 have f:∀y∈aP (cZ T c (Zg π T.length Y) x),π y∈aP Y:=λy a=>(uv.mp<|aF.mpr<|Bm (al:=Ie<|Zg π T.length Y) (aF.mp<|uv.mpr ⟨b,g⟩)<|(dU d b).mp a).2
 refine⟨wU,λz=>?_,f,λy a k hk hY=>?_⟩
 .have:x∈aP (cZ T c (Zg π T.length Y) x):=(dU d b).mpr .here;rw[z]at this;exact absurd (aF.mp this) (by simp)
 .obtain⟨_,_,_,e⟩:=vo d (lt y a) hk;exact(dU d b).mpr (.on ((dU d b).mp a) hk<|aF.mp<|uv.mpr ⟨e,by rw[C.st y (lt y a) k hk];exact hY⟩)
def term(C:Gh S T rk Xc c π)(M:ya S rk c)(i:ya T Xc c){A:Nat}(E:Tc S c Y)(L:Y<2^S.length)(q:Cl S T c π Y A):∃D,iK D A/\Cl S T c π Y D/\Tc T c D/\zh π D=Y:=by
 obtain⟨x,g,u⟩:=iS (λx=>Ce<|cZ T c (Zg π T.length Y) x)<|rH q.ne
 have d:∀y∈aP A,y<T.length:=λy f=>aW q.lt f
 have v:∀{a b:Nat},a∈aP A->cc T c (Ie<|Zg π T.length Y) a b->b∈aP A:=λ{a b} m h=>by
  induction h with
  |here=>exact m
  |@on r k t o g s=>
   have:=(uv.mp<|aF.mpr g).2;rw[C.st r (d r s) k o]at this;exact q.on r s k o this
 have l:=AH C i (d x g)<|q.pr x g;have sub:iK (cZ T c (Zg π T.length Y) x) A:=λy f=>v g<|(dU i<|d x g).mp f
 have same:∀y∈aP (cZ T c (Zg π T.length Y) x),cZ T c (Zg π T.length Y) y=cZ T c (Zg π T.length Y) x:=λy f=>by
  have H:=sub y f;have s1:iK (cZ T c (Zg π T.length Y) y) (cZ T c (Zg π T.length Y) x):=λz j=>(dU i<|d x g).mpr<|cc.trans ((dU i<|d x g).mp f)<|(dU i<|d y H).mp j
  refine bj λI=>?_
  have:=BW s1 I;have:=u y H;omega
 have Sf:∀y∈aP (cZ T c (Zg π T.length Y) x),∀k,k<c->Yc S (π y) k∈aP Y->Yc T y k∈aP (cZ T c (Zg π T.length Y) x):=l.on;refine⟨_,sub,l,⟨l.ne,λa m b hb=>?_,gS i l.lt l.ne λy f=>?_⟩,Dz (λr hr=>?_) λr hr=>?_⟩
 .have G:=hb;rw[<-same a m]at G;have B:=d a<|sub a m;refine Ξ ((dU i B).mp G) λz j=>aF.mp ?_
  rw[<-same a m];exact(dU i B).mpr j
 .obtain⟨k,t,K⟩:=GU M L E<|l.pr y f;exact⟨k,t,Sf y f k t K⟩
 .obtain⟨y,f,rfl⟩:=jT.mp hr;exact l.pr y f
 .have n:∀{p r:Nat},cc S c (Ie Y) p r->∀y∈aP (cZ T c (Zg π T.length Y) x),π y=p->∃z∈aP (cZ T c (Zg π T.length Y) x),π z=r:=λ{p r} h=>by
   induction h with
   |here=>exact λy f e=>⟨y,f,e⟩
   |@on r k t o m s=>
    intro y f e;obtain⟨z,j,F⟩:=s y f e;have J:Yc S (π z) k∈aP Y:=by rw[F];exact aF.mpr m
    exact⟨_,Sf z j k o J,by rw[C.st z (aW l.lt j) k o,F]⟩
  have w:x∈aP (cZ T c (Zg π T.length Y) x):=(dU i<|d x g).mpr .here;obtain⟨z,j,e⟩:=n (E.2.1 (π x) (q.pr x g) r hr) x w rfl;exact jT.mpr ⟨z,j,e⟩
def bJj(C:Gh S T rk Xc c π)(M:ya S rk c)(G:ya T Xc c) (h:Ch S c rk g Z m):Z<2^S.length->∀D,Cl S T c π Z D->Tc T c D->zh π D=Z->Ch T c Xc g D m:=by
 induction h with
 |one B e=>exact λ_ D b d j=>.one d (by rw[C.ev _ d b.lt,j];exact e)
 |@up Y Z m p B l w y=>
  intro A D b d j;have u:=sub_lt l A;have f:∀x,x∈aP (cH<|(aP D).filter λx=>Y.testBit<|π x)↔x∈aP D/\π x∈aP Y:=λx=>by rw[kY,Nd,aF (n:=Y)]
  have F:Cl S T c π Y (cH<|(aP D).filter λx=>Y.testBit<|π x):=by
   refine⟨mL λr i=>aW b.lt (Nd.mp i).1,λz=>?_,λx a=>((f x).mp a).2,λx a k hk hy=>?_⟩
   .obtain⟨r,i⟩:=Hj _<|rH p.lp.1;have q:=l r i;rw[<-j]at q;obtain⟨x,a,rfl⟩:=jT.mp q;have:=(f x).mpr ⟨a,i⟩;rw[z]at this;exact absurd (aF.mp this) (by simp)
   .have t:=((f x).mp a).1;exact(f _).mpr ⟨b.on x t k hk<|l _ hy,by rw[C.st x (aW b.lt t) k hk];exact hy⟩
  obtain⟨E,v,s,n,o⟩:=term C M G p.lp u F;refine .up (y u E s n o) d (λx a=>((f x).mp<|v x a).1) ?_
  rw[C.ev _ n s.lt,C.ev _ d b.lt,o,j];exact w
def aI(C:Gh S T rk Xc c π)(M:ya S rk c)(a:ya T Xc c){x:Nat}(d:x∈aP (Qm T c)):π x∈aP (Qm S c):=by
 have h:=(dU a a.one).mp d;have:=ZH C a (al:=Ie<|cH<|List.range S.length) a.one (λg e=>by
  show (cH<|List.range S.length).testBit (π g)=true;rw[dR,Cf];have b:g∈aP (cH<|List.range T.length):=aF.mpr e;rw[kY]at b;exact Jd.mpr<|C.lt g<|Jd.mp b) h
 rw[C.z]at this;exact(dU M M.one).mpr this
def jS(C:Gh S T rk Xc c π)(M:ya S rk c)(a:ya T Xc c) (i:r∈aP (Qm S c)):∃x∈aP (Qm T c),π x=r:=by
 have h:=(dU M M.one).mp i;have:∀{r:Nat},cc S c (Ie<|cH<|List.range S.length) 0 r->∃x∈aP (Qm T c),π x=r:=λ{r} h=>by
  induction h with
  |here=>exact⟨0,(dU a a.one).mpr .here,C.z⟩
  |@on r k l d j g=>
   obtain⟨x,e,rfl⟩:=g;have f:=aW vX e;obtain⟨_,_,_,b⟩:=vo a f d;refine⟨Yc T x k,(dU a a.one).mpr<|.on ((dU a a.one).mp e) d ?_,C.st x f k d⟩;show (cH<|List.range T.length).testBit _=true;rw[dR,Cf];exact Jd.mpr b
 exact this h
def bJk(C:Gh S T rk Xc c π)(M:ya S rk c)(a:ya T Xc c)(g:Bool):nP S c rk g=nP T c Xc g:=by
 obtain⟨B,w,q⟩:=Mu (S:=S) (c:=c) (rk:=rk) g;obtain⟨A,v,p⟩:=Mu (S:=T) (c:=c) (rk:=Xc) g;have z:nP S c rk g<=nP T c Xc g:=by
  rcases q with q|⟨Z,k,m,j,e⟩
  .omega
  .obtain⟨b,d,i⟩:=uQ.mp k;obtain⟨r,h⟩:=Hj _<|rH d.1;obtain⟨x,f,rfl⟩:=jS C M a<|i r h;have s:=aW vX f;obtain⟨D,t,o,l,u⟩:=term C M a d b<|AH C a s h;rw[<-e];refine v D (uQ.mpr ⟨o.lt,l,λy hy=>?_⟩) m (bJj C M a j b D o l u)
   have n:=(dU a s).mp<|t y hy;refine(dU a a.one).mpr (cc.trans ((dU a a.one).mp f)<|cc.mono (λg hg=>?_) n)
   show (cH<|List.range T.length).testBit g=true;rw[dR,Cf];exact Jd.mpr (uv.mp<|aF.mpr hg).1
 have n:nP T c Xc g<=nP S c rk g:=by
  rcases p with p|⟨Z,k,m,j,e⟩
  .omega
  .obtain⟨b,d,i⟩:=uQ.mp k;rw[<-e];refine w (zh π Z) (uQ.mpr ⟨sA C b,Wv C M a b d,λr h=>?_⟩) m (bR6 C M a j b)
   obtain⟨x,f,rfl⟩:=jT.mp h;exact aI C M a<|i x f
 omega
end
def Rm{op:wP} {st:ua} {x:D} {z:R D} (h:f st=.ok x) (a:op x=z):e1 op f st=z:=by
 show (f st).bind _=_;rw[h];exact a
section
variable{S:am}{rk:ac}{c n:Nat}{g:Bool}
inductive ve (S:am) (c:Nat) (rk:ac) (g:Bool):List Nat->Nat->Prop
 |one {Z:Nat}:Tc S c Z->ib rk Z=g->ve S c rk g [Z] Z
 |up {Y Z:Nat} {l:ac}:ve S c rk g l Y->Tc S c Z->iK Y Z->ib rk Y≠ib rk Z->ve S c rk g (l++[Z]) Z
def ve.ch(h:ve S c rk g l Z):Ch S c rk g Z l.length:=by
 induction h with
 |one h e=>exact .one h e
 |up _ f d b a=>rw[af];exact .up a f d b
def ve.sub{l:ac} (h:ve S c rk g l Z):∀x∈l,Tc S c x/\iK x Z:=by
 induction h with
 |one h _=>exact λx a=>by rw[Od.mp a];exact⟨h,λ_ z=>z⟩
 |up _ f e _ b=>
  intro x a;rcases Pg.mp a with a|a
  .exact⟨(b x a).1,λr d=>e r<|(b x a).2 r d⟩
  .rw[Od.mp a];exact⟨f,λ_ z=>z⟩
def ve.first{l:ac} (h:ve S c rk g l Z):l≠[]/\∀a∈l.head?,∀x∈l,iK a x:=by
 induction h with
 |one _ _=>exact⟨by simp,λa ha x hx=>by cases ha;rw[Od.mp hx];exact λ_ z=>z⟩
 |@up Y Z l i k j _ d=>
  refine⟨by simp,λa ha x hx=>?_⟩
  have e:a∈l.head?:=by
   cases l with
   |nil=>exact(d.1 rfl).elim
   |cons b l=>exact ha
  rcases Pg.mp hx with hx|hx
  .exact d.2 a e x hx
  .rw[Od.mp hx];exact λr f=>j r<|(i.sub a<|List.mem_of_mem_head? e).2 r f
def yA(S:am)(rk:ac)(c:Nat)(g:Bool)(X:Nat)(l:ac):Prop:=(l=[]\/ve S c rk g l X)/\∀Z m,Ch S c rk g Z m->iK Z X->m<=l.length
def yA.len(M:ya S rk c){X:Nat} (a:X<2^S.length) (h:yA S rk c g X l):l.length<=8:=by
 rcases h.1 with h|h
 .rw[h];exact qh _
 .exact ye (Ks h.ch).2 (km M a)
noncomputable abbrev jm(S:am)(rk:ac)(c X:Nat)(g:Bool)(l:ac)(x4 a:f8):ua:=[some<|.v<|mD S rk c,some<|.v<|.int X,some<|.v<|.bl g,some<|.v<|.lst<|ba l,x4,a]
def Fu(l:ac)(x:Nat):ba l++[D.int x]=ba (l++[x]):=by unfold ba;rw[Gi];rfl
def bJl(h:xs.length+ys.length<=1000):lB (.lst xs) (.lst ys)=.ok (.lst<|xs++ys):=aO<|fY<|ye h<|by decide
def cz{st:ua} (h:st[i]?=some (some<|.v<|.lst<|ba l)):e1 jE (aA i) st=.ok (.int (l.length:Nat)):=Rm (x:=.lst<|ba l) (by unfold aA;rw[h]) (by show R.ok (D.int ((ba l).length:Nat))=_;rw[bC])
theorem TQ(M:ya S rk c){k X:Nat}(I:Ce X<=k+1)(v:Tc S c X)(A:X<2^S.length){rec:bn}(E:∀Y,Ce Y<=k->Tc S c Y->Y<2^S.length->∃l,rec [mD S rk c,.int Y,.bl g]=.ok (.lst<|ba l)/\yA S rk c g Y l) :
  ∀(i l:ac)(x4 h:f8),(∀Y∈i,ig S c rk (ib rk X) X Y)->(l=[]\/ve S c rk g l X)->(ib rk X=g->l≠[])->∃a n j,Eb (bb 4) (uY rec) (ba i) (jm S rk c X g l x4 h)=.ok (.nx<|jm S rk c X g a n j)/\(a=[]\/ve S c rk g a X)/\(ib rk X=g->a≠[])/\l.length<=a.length/\∀Y∈i,∀Z m,Ch S c rk g Z m->iK Z Y->m+1<=a.length
 |[],l,x4,h,_,u,q=>⟨l,x4,h,rfl,u,q,Fc _,λ_ z=>nomatch z⟩
 |Y::i,l,x4,h,p,u,q=>by
  obtain⟨y,G,x,W,F⟩:=gC M (p Y Gb) v.1 A;obtain⟨r,e,o⟩:=E Y (by omega) y x
  have V:=o.len M x;have s:iK Y X:=λz H=>(mK.mp<|G z H).1
  have t:l.length<=r.length->r≠[]:=λb z=>by
   rw[z]at b o
   by_cases J:ib rk X=g
   .exact q J (Vm.mp<|Nat.le_zero.mp b)
   .have:=o.2 Y 1 (.one y (by cases hx:ib rk X<;>cases hy:ib rk Y<;>cases g<;>simp_all)) λ_ z=>z
    exact absurd this (by decide)
  have B:∀d,(aY (bU 5<|aM rec<|aC (aA 0)<|aC (aA 4)<|aC (aA 2) aK)<|ud (e2 Cn (e1 jE<|aA 5)<|e1 jE<|aA 3) (bU 3<|e2 lB (aA 5)<|fJ<|aC (aA 1) aK) cJ) (jm S rk c X g l Y h)=.ok (.nx<|jm S rk c X g d Y<|D.lst<|ba r)->(d=[]\/ve S c rk g d X)->(ib rk X=g->d≠[])->l.length<=d.length->r.length+1<=d.length->∃a n j,Eb (bb 4) (uY rec) (ba<|Y::i) (jm S rk c X g l x4 h)=.ok (.nx<|jm S rk c X g a n j)/\(a=[]\/ve S c rk g a X)/\(ib rk X=g->a≠[])/\l.length<=a.length/\∀w∈Y::i,∀Z m,Ch S c rk g Z m->iK Z w->m+1<=a.length:=λd K T Q a3 a4=>by
   obtain⟨a,n,j,f,P,O,b3,N⟩:=TQ M I v A E i d Y (D.lst<|ba r) (λY L=>p Y<|Xb _ L) T Q
   refine⟨a,n,j,dI rfl K f,P,O,by omega,λw hY' Z m hc hs=>?_⟩
   rcases Uc.mp hY' with rfl|hY'
   .have:=o.2 Z m hc hs;omega
   .exact N w hY' Z m hc hs
  have es:bU 5 (aM rec<|aC (aA 0)<|aC (aA 4)<|aC (aA 2) aK) (jm S rk c X g l Y h)=.ok (.nx<|jm S rk c X g l Y<|D.lst<|ba r):=aZ<|aJ rfl e;have C:e2 Cn (e1 jE<|aA 5) (e1 jE<|aA 3) (jm S rk c X g l Y<|D.lst<|ba r)=.ok (.bl<|decide (l.length<=r.length)):=aL (cz (l:=r) rfl) (cz (l:=l) rfl) (by
   show R.ok (D.bl<|decide ((r.length:Int) ≥ (l.length:Int)))=_;congr 2;exact Qo.mpr<|by omega)
  by_cases b:l.length<=r.length
  .have U:=t b;refine B (r++[X]) (aH es<|rW (Hk C<|Oc b) ?_) (.inr ?_) (λ_ z=>by simp at z) (by rw[af];omega) (by rw[af];exact Fc _)
   .refine(aZ<|aL (x:=.lst<|ba r) (y:=.lst [.int X]) rfl (cW rfl)<|bJl<|by rw[bC,ah];omega).trans ?_
    rw[Fu];rfl
   .exact .up (o.1.resolve_left U) v s F
  .exact B l (aH es<|iY (Hk C<|yd b) rfl) u q (Fc _) (by omega)
theorem kS(M:ya S rk c):∀(k X:Nat),Ce X<=k->Tc S c X->X<2^S.length->∃l,nH k [mD S rk c,.int X,.bl g]=.ok (.lst<|ba l)/\yA S rk c g X l
 |0,X,j,d,_=>by have:=vC d.1;omega
 |k+1,X,j,d,i=>by
  obtain⟨u,H,o⟩:=kH M i d.1
  let b:ac:=if ib rk X=g then [X] else []
  have y:bU 3 (Oj (e2 gd (aM jJ<|aC (aA 0)<|aC (aA 1) aK)<|aA 2) (fJ<|aC (aA 1) aK)<|fJ aK) [mD S rk c,X,D.bl g,none,none,none]=.ok (.nx<|jm S rk c X g b none none):=by
   refine aZ ?_
   have x:e2 gd (aM jJ<|aC (aA 0)<|aC (aA 1) aK) (aA 2) [mD S rk c,X,D.bl g,none,none,none]=.ok (.bl<|ib rk X==g):=aL (Yy M i d.1 rfl rfl) rfl<|WG _ _;show (e2 gd _ _ _).bind _=_;rw[x,bA]
   by_cases a:ib rk X=g
   .rw[show b=[X] from xb a,a,HB,zm,xb rfl]
    exact cW rfl
   .rw[show b=[] from Ta a,pq.mpr a,zm,Ta ph]
    exact cW rfl
  have E:b=[]\/ve S c rk g b X:=by
   by_cases a:ib rk X=g
   .rw[show b=[X] from xb a];exact .inr<|.one d a
   .exact .inl (Ta a)
  have C:ib rk X=g->b≠[]:=λa=>by rw[show b=[X] from xb a];simp
  obtain⟨l,G,F,e,B,A,_,t⟩:=TQ M j d i (rec:=nH k) (λY n w p=>kS M k Y n w p) (ak S rk c X) b none none (λY h=>(o Y).mp h) E C
  refine⟨l,bB rfl<|aH y<|aH (dN (oW<|aJ rfl u) e)<|bH rfl,B,λZ m hc hs=>?_⟩
  rcases wF M (k+1) X j d.1 i rfl hc.lp hs with ⟨Y,h,f⟩|⟨s,_⟩
  .have:=t Y ((o Y).mpr h) Z m hc f;omega
  .cases hc with
   |one _ a=>exact qB.mpr<|A<|by rw[<-s];exact a
   |up n _ p q=>
    rcases wF M (k+1) X j d.1 i rfl n.lp (λr v=>hs r<|p r v) with ⟨Y,h,f⟩|⟨z,_⟩
    .exact t Y ((o Y).mpr h) _ _ n f
    .rw[s,z]at q;exact(q rfl).elim
noncomputable abbrev yL(S:am)(rk:ac)(c:Nat)(g:Bool)(l:ac)(x3 x4:f8):ua:=[some<|.v<|mD S rk c,some<|.v<|.bl g,some<|.v<|.lst<|ba l,x3,x4]
theorem FP(M:ya S rk c):∀(i l:ac)(x3 x4:f8),(∀X∈i,X∈xY S c)->(l=[]\/∃X∈xY S c,ve S c rk g l X)->∃a k j,Eb (bb 3) oM (ba i) (yL S rk c g l x3 x4)=.ok (.nx<|yL S rk c g a k j)/\(a=[]\/∃X∈xY S c,ve S c rk g a X)/\l.length<=a.length/\∀X∈i,∀Z m,Ch S c rk g Z m->iK Z X->m<=a.length
 |[],l,x3,x4,_,h=>⟨l,x3,x4,rfl,h,Fc _,λ_ z=>nomatch z⟩
 |X::i,l,x3,x4,n,h=>by
  have o:=n X Gb;obtain⟨s1,v,u⟩:=Lv M o;obtain⟨r,e,q⟩:=kS (g:=g) M 12 X s1 v u;have es:bU 4 (aM pJ<|aC (aA 0)<|aC (aA 3)<|aC (aA 1) aK) (yL S rk c g l X x4)=.ok (.nx<|yL S rk c g l X<|D.lst<|ba r):=aZ<|aJ rfl e;have t:e2 eh (e1 jE<|aA 4) (e1 jE<|aA 2) (yL S rk c g l X<|D.lst<|ba r)=.ok (.bl<|decide (l.length<r.length)):=aL (cz (l:=r) rfl) (cz (l:=l) rfl) (by
   show R.ok (D.bl<|decide ((r.length:Int)>(l.length:Int)))=_;congr 2;exact Qo.mpr<|by omega)
  have s:∀d,(aY (bU 4<|aM pJ<|aC (aA 0)<|aC (aA 3)<|aC (aA 1) aK)<|ud (e2 eh (e1 jE<|aA 4)<|e1 jE<|aA 2) (bU 2<|aA 4) cJ) (yL S rk c g l X x4)=.ok (.nx<|yL S rk c g d X<|D.lst<|ba r)->(d=[]\/∃X∈xY S c,ve S c rk g d X)->l.length<=d.length->r.length<=d.length->∃a k j,Eb (bb 3) oM (ba<|X::i) (yL S rk c g l x3 x4)=.ok (.nx<|yL S rk c g a k j)/\(a=[]\/∃X∈xY S c,ve S c rk g a X)/\l.length<=a.length/\∀p∈X::i,∀Z m,Ch S c rk g Z m->iK Z p->m<=a.length:=λd w A E C=>by
   obtain⟨a,k,j,f,y,B,x⟩:=FP M i d X (D.lst<|ba r) (λX o=>n X<|Xb _ o) A
   refine⟨a,k,j,dI rfl w f,y,by omega,λp hX' Z m hc hs=>?_⟩
   rcases Uc.mp hX' with rfl|hX'
   .exact ye (q.2 Z m hc hs) (by omega)
   .exact x p hX' Z m hc hs
  by_cases b:l.length<r.length
  .exact s r (aH es<|rW (Hk t<|Oc b)<|aZ rfl) (.inr ⟨X,o,q.1.resolve_left λz=>by rw[z]at b;exact absurd b<|Yo _⟩) (by omega) (Fc _)
  .exact s l (aH es<|iY (Hk t<|yd b) rfl) h (Fc _) (by omega)
def j7(M:ya S rk c):∃l d b,Eb (bb 3) oM (ba<|xY S c) (yL S rk c g [] none none)=.ok (.nx<|yL S rk c g l d b)/\(l=[]\/∃X∈xY S c,ve S c rk g l X)/\(l.length:Int)=nP S c rk g:=by
 obtain⟨l,d,b,e,a,_,o⟩:=FP (g:=g) M (xY S c) [] none none (λ_ h=>h)<|.inl rfl
 refine⟨l,d,b,e,a,?_⟩;obtain⟨q,p,i⟩:=Mu (S:=S) (c:=c) (rk:=rk) g;have r:(l.length:Int)<=nP S c rk g:=by
  rcases a with a|⟨X,f,a⟩
  .rw[a];exact q
  .exact p X (SF M f) _ a.ch
 rcases i with i|⟨Z,n,m,k,s⟩
 .omega
 .obtain⟨X,f,j⟩:=dS M n;have:=o X f Z m k j;omega
def Ο(M:ya S rk c) {X:Nat} (q:X∈xY S c) (h:ve S c rk g l X):∃w i,mF [mD S rk c,.lst<|ba l]=.ok (.tup [.str w,.lst i])/\i.length=l.length:=by
 obtain⟨s,n,j⟩:=dX M vX q;have b:=h.sub;have k:=(Ks h.ch).2;have:=km M j;unfold Ce at k;cases l with
 |nil=>exact(h.first.1 rfl).elim
 |cons a l=>
  obtain⟨f,m,e,_,_,_,o,_⟩:=YG (X:=a) (row:=l) M (λL d=>⟨(b L d).1,sub_lt (b L d).2 j,h.first.2 a rfl L d⟩) (λr p=>n r<|(b a Gb).2 r p) (by rw[ze]at k;omega)
  exact⟨f,m,e,o⟩
def Ĩ(M:ya S rk c)(g:Bool):(nP S c rk g=0/\gQ [mD S rk c,.bl g]=.ok .Tb)\/∃w a,gQ [mD S rk c,.bl g]=.ok (.tup [.str w,.lst a])/\(a.length:Int)=nP S c rk g/\a≠[]:=by
 obtain⟨l,f,b,e,p,k⟩:=j7 (g:=g) M;have m:e2 Zf (aA 2) (fJ aK) (yL S rk c g l f b)=.ok (.bl<|!decide (l=[])):=aL (x:=.lst<|ba l) rfl (cW rfl)<|Iv l;have run:∀{d},Oj (e2 Zf (aA 2)<|fJ aK) (aM mF<|aC (aA 0)<|aC (aA 2) aK) (eC .Tb) (yL S rk c g l f b)=.ok d->gQ [mD S rk c,.bl g]=.ok d:=λh=>bB rfl<|aH (aZ<|cW rfl)<|aH (dN (oW<|aJ rfl<|aS M) e)<|bH h
 rcases p with rfl|⟨X,o,i⟩
 .refine .inl ⟨by rw[<-k];rfl,run ?_⟩
  show (e2 Zf _ _ _).bind _=_;rw[m,bA];rfl
 .have n:l≠[]:=λz=>by
   have:=(Ks i.ch).1;rw[z]at this;exact absurd this (by decide)
  obtain⟨w,a,e1,j⟩:=Ο M o i;refine .inr ⟨w,a,run ?_,by rw[j];exact k,λz=>n<|Vm.mp<|by rw[<-j,z];rfl⟩
  show (e2 Zf _ _ _).bind _=_;rw[m,bA,yd n];exact aJ (p:=mF) (r:=aC (aA 0)<|aC (aA 2) aK) (st:=yL S rk c g l f b) rfl e1
def JA(b:Int)(d:D):Prop:=(b=0/\d=.Tb)\/∃w a,d=.tup [.str w,.lst a]/\(a.length:Int)=b/\b≠0
def AA{r:Ee}{st:ua}{a b:D}(h:r st=.ok [a,b]):aj r st=.ok (.tup [a,b]):=by
 show (r st).bind _=_;rw[h];exact aO<|fY<|show 2<=10000000 by decide
def Vq(a b:D):qb (.tup [a,b]) (.int 0)=.ok a/\qb (.tup [a,b]) (.int 1)=.ok b:=⟨rfl,rfl⟩
def EW(M:ya S rk c)(g:Bool):∃d,gQ [mD S rk c,.bl g]=.ok d/\JA (nP S c rk g) d:=by
 rcases Ĩ M g with ⟨h,e⟩|⟨w,b,e,a,f⟩
 .exact⟨_,e,.inl ⟨h,rfl⟩⟩
 .refine⟨_,e,.inr ⟨w,b,rfl,a,?_⟩⟩;rw[<-a];have:=qB.mpr f;omega
def bJn(M:ya S rk c):∃d1 d2,Qy [mD S rk c]=.ok (.tup [d1,d2])/\JA (nP S c rk true) d1/\JA (nP S c rk false) d2:=by
 obtain⟨d1,a,d⟩:=EW M true;obtain⟨d2,e,b⟩:=EW M false;exact⟨d1,d2,bB rfl<|bH<|AA<|aR (aJ rfl a)<|aR (aJ rfl e) rfl,d,b⟩
def IU{b:Int} (h:JA b d):pK [d]=.ok (.int b):=by
 rcases h with ⟨rfl,rfl⟩|⟨w,a,rfl,e,c⟩
 .exact bB rfl (bH rfl)
 .rw[<-e];exact bB rfl<|bH rfl
noncomputable def rJ(S:am)(c:Nat)(rk:ac):Nat:=if nP S c rk true<nP S c rk false then 1 else 0
def Ó(M:ya S rk c):∃ps:dL,nJ [mD S rk c]=.ok (.tup [.lst<|ba<|oX S rk c<|rJ S c rk,.lst ps])/\ps.length=if nP S c rk true=nP S c rk false then 2 else 1:=by
 obtain⟨b,a,e,l,k⟩:=bJn M;have j:∀{st:ua},st[0]?=some (some<|.v<|mD S rk c)->aM dM (aC (aA 0)<|aC (eI 0) aK) st=.ok (.lst<|ba<|oX S rk c 0):=λh=>aJ (aR (d:=mD S rk c) (by unfold aA;rw[h]) rfl)<|az M 0
 have m:∀{st:ua},st[0]?=some (some<|.v<|mD S rk c)->aM dM (aC (aA 0)<|aC (eI 1) aK) st=.ok (.lst<|ba<|oX S rk c 1):=λh=>aJ (aR (d:=mD S rk c) (by unfold aA;rw[h]) rfl)<|az M 1
 let st:ua:=[mD S rk c,D.tup [b,a],nP S c rk true,nP S c rk false]
 have run:∀{r},(aY (ud (e2 eh (aA 3)<|aA 2) (bW<|aj<|aC (aM dM<|aC (aA 0)<|aC (eI 1) aK)<|aC (fJ<|aC (e2 qb (aA 1)<|eI 1) aK) aK) cJ)<|aY (ud (e2 eh (aA 2)<|aA 3) (bW<|aj<|aC (aM dM<|aC (aA 0)<|aC (eI 0) aK)<|aC (fJ<|aC (e2 qb (aA 1)<|eI 0) aK) aK) cJ)<|bW<|aj<|aC (aM dM<|aC (aA 0)<|aC (eI 0) aK)<|aC (fJ<|aC (e2 qb (aA 1)<|eI 0)<|aC (e2 qb (aA 1)<|eI 1) aK) aK) st=.ok (.rt r)->nJ [mD S rk c]=.ok r:=λh=>bB rfl<|aH (aZ<|aJ rfl e)<|aH (aZ<|aJ (aR (aL rfl rfl (Vq b a).1) rfl)<|IU l)<|aH (aZ<|aJ (aR (aL rfl rfl (Vq b a).2) rfl)<|IU k) h
 have d:e2 eh (aA 3) (aA 2) st=.ok (.bl<|decide (nP S c rk true<nP S c rk false)):=rfl;have g:e2 eh (aA 2) (aA 3) st=.ok (.bl<|decide (nP S c rk false<nP S c rk true)):=rfl;unfold rJ
 by_cases f:nP S c rk true<nP S c rk false
 .rw[Oc f]at d;rw[xb f,Ta (by omega)]
  exact⟨[a],run<|tD<|rW d<|bH<|AA<|aR (m rfl)<|aR (cW<|aR (aL rfl rfl (Vq b a).2) rfl) rfl,rfl⟩
 .rw[yd f]at d;rw[Ta f]
  by_cases i:nP S c rk false<nP S c rk true
  .rw[Oc i]at g;rw[Ta (by omega)]
   exact⟨[b],run<|aH (iY d rfl)<|tD<|rW g<|bH<|AA<|aR (j rfl)<|aR (cW<|aR (aL rfl rfl (Vq b a).1) rfl) rfl,rfl⟩
  .rw[yd i]at g;rw[xb (by omega)]
   exact⟨[b,a],run<|aH (iY d rfl)<|aH (iY g rfl)<|bH<|AA<|aR (j rfl)<|aR (cW<|aR (aL rfl rfl (Vq b a).1)<|aR (aL rfl rfl (Vq b a).2) rfl) rfl,rfl⟩
def Ρ(M:ya S rk c):qy [mD S rk c]=.ok (mD S (oX S rk c<|rJ S c rk) c):=by
 obtain⟨ps,e,_⟩:=Ó M;exact bB rfl<|bH<|aJ (aR (Rm rfl mG)<|aR (aL (aJ rfl e) rfl (Vq _ _).1) rfl)<|Sy<|bz M
end
def FK{a:α}{k:Nat}(b:k<5):[a,a,a,a,a].getD k a=a:=by
 have:k=0\/k=1\/k=2\/k=3\/k=4:=by omega
 rcases this with rfl|rfl|rfl|rfl|rfl<;>rfl
def wo:am:=[[101,97,114,108,121,32,110,111],[101,97,114,108,121,32,121,101,115],[115,101,116,116,108,101,100],[97,103,97,105,110],[108,97,115,116,105,110,103]]
def jq(k:Nat):D:=.str<|wo.getD k []
def MX{st:ua} {k:Nat} (a:k<5) (h:f st=.ok (lC k)):gW (bZ "EarlyNo" "word" mZ [] f aK) (gW (bZ "EarlyYes" "word" lV [] f aK)<|gW (bZ "Settled" "word" nA [] f aK)<|gW (bZ "Again" "word" rB [] f aK)<|bZ "Lasting" "word" nC [] f aK) st=.ok (jq k):=FC a h (xs:=[]) rfl (by
 have:k=0\/k=1\/k=2\/k=3\/k=4:=by omega
 rcases this with rfl|rfl|rfl|rfl|rfl<;>exact bB rfl<|bH rfl)
theorem GP:∀l:am,fZ (l.map D.str)=true/\rT (l.map D.str)=0/\pY (l.map D.str) (l.map D.str)=true
 |[]=>⟨by unfold fZ;rfl,by unfold rT;rfl,by unfold pY;rfl⟩
 |b::l=>by
  obtain⟨d,c,a⟩:=GP l;refine⟨?_,?_,?_⟩
  .rw[Mf,B_,d];unfold plain;rfl
  .rw[Mf,dQ,c];unfold ag;rfl
  .rw[Mf];unfold pY;rw[a];unfold de;simp
def wy(h:fZ xs=true/\rT xs=0/\pY xs xs=true):Zf (.lst xs) (.lst xs)=.ok (.bl false)/\gd (.lst xs) (.lst xs)=.ok (.bl true):=by
 obtain⟨e,d,c⟩:=h;have f:ag (.lst xs)=1:=by unfold ag;rw[d]
 have b:de (.lst xs) (.lst xs)=true:=by(conv=>lhs;unfold de);exact c
 have a:plain (.lst xs)=true:=by(conv=>lhs;unfold plain);exact e
 rw[IV,HV,aO ⟨by omega,a,a⟩,aO ⟨by omega,a,a⟩,b]
 exact⟨rfl,rfl⟩
noncomputable abbrev kZ(q:no):dL:=((List.range 5).filter q).map jq
section
variable{S:am}{rk:ac}{c:Nat}
def NX(M:ya S rk c)(n a b:Nat):qG [mD S rk c,.int n,.int a,.int b]=.ok (.lst<|ba<|uf S λr=>if n.testBit r=true then a else b):=by
 have f:=M.most;have d:=iG (tg:=bb 4) (C:=fK) (E:=XN) (st:=[mD S rk c,n,a,b,none]) (q:=λ_=>true) (G:=λr=>.int ((if n.testBit r=true then a else b:Nat):Int)) (List.range S.length) λr g=>⟨_,rfl,rfl,by
  have t:aM gY (aC (aA 1)<|aC (aA 4) aK) [mD S rk c,n,a,b,(r:Nat)]=.ok (.bl<|n.testBit r):=aJ (aR rfl<|aR rfl rfl)<|Am _ _;cases e:n.testBit r<;>rw[e]at t
  .exact JX t rfl
  .exact IX t rfl⟩
 rw[xB.mpr<|λ_ _=>rfl,show (List.range S.length).map (λr=>D.int ((if n.testBit r=true then a else b:Nat):Int))=ba (uf S λr=>if n.testBit r=true then a else b) by unfold ba uf;rw[Jj];rfl]at d
 exact bB rfl<|bH<|gJ (yG (show e1 (iH "Machine" "many") (aA 0) _=.ok (.int (S.length:Nat)) from wO)<|by omega) (by simp;omega) d
noncomputable def Tj(S:am)(c:Nat)(rk:ac):xL
 |0=>uf S<|uh S c rk true
 |1=>uf S<|uh S c rk false
 |2=>uf S<|sj S c rk
 |3=>oX S rk c 1
 |_=>oX S rk c 0
def JU(M:ya S rk c)(k:Nat):ya S (Tj S c rk k) c:=by
 unfold Tj;split
 .exact sv M _
 .exact sv M _
 .exact sv M _
 .exact bz M
 .exact bz M
open Classical in
def ĩ(M:ya S rk c){k:Nat}(a:qN S c rk k=true){m:Nat}(b:De S c m):ib (Tj S c rk k) m=ib rk m:=by
 unfold qN at a;split at a
 .exact DP M (λz=>by rw[Oc z]at a;cases a) b
 .exact DP M (λz=>by rw[Oc z]at a;cases a) b
 .exact W9 M (λz=>by rw[Oc z]at a;cases a) (λz=>by rw[Oc z,Bool.and_comm]at a;cases a) b
 .exact TF M b
 .unfold Tj;split<;>first|contradiction|exact TF M b
def bNx(M:ya S rk c){k:Nat}(f:k<5):([fQ,gP,iB,jM,iC].getD k fQ) [lC k,mD S rk c]=.ok (.lst<|ba<|Tj S c rk k):=by
 have d:∀(g:Bool)(a b:Nat),(∀r,(if (!rY S c (pM S c rk g) r)=true then a else b)=uh S c rk g r)->qG [mD S rk c,.int (cH ((List.range S.length).filter λr=>!rY S c (pM S c rk g) r):Nat),.int a,.int b]=.ok (.lst<|ba<|uf S<|uh S c rk g):=λg a b h=>by
  rw[NX M];congr 3;refine Rk λr e=>?_
  rw[<-h r,dR];congr 1;refine propext ⟨λz=>(Nd.mp<|ck z).2,λz=>Oc<|Nd.mpr ⟨e,z⟩⟩
 have:k=0\/k=1\/k=2\/k=3\/k=4:=by omega
 rcases this with rfl|rfl|rfl|rfl|rfl
 .have h:=d true 1 0 λr=>by unfold uh;cases rY S c (pM S c rk true) r<;>rfl
  exact(bB rfl (bH<|aJ (aR rfl<|aR (aJ rfl (bB rfl (bH<|aJ rfl<|fS M):vQ [mD S rk c]=_))<|aR rfl<|aR rfl rfl) h):fQ [lC 0,mD S rk c]=_)
 .have h:=d false 0 1 λr=>by unfold uh;cases rY S c (pM S c rk false) r<;>rfl
  exact(bB rfl (bH<|aJ (aR rfl<|aR (aJ rfl (bB rfl (bH<|aJ rfl<|fS M):vR [mD S rk c]=_))<|aR rfl<|aR rfl rfl) h):gP [lC 1,mD S rk c]=_)
 .exact(bB rfl (aH (aZ<|aJ (aR (aJ (aR rfl<|aR (aJ rfl<|ZI M) rfl)<|jv M pB) rfl)<|LX _)<|bH<|aJ rfl<|NX M (Au S c rk) 0 1):iB [lC 2,mD S rk c]=_)
 .exact(bB rfl (bH<|aJ rfl<|az M 1):jM [lC 3,mD S rk c]=_)
 .exact(bB rfl (bH<|aJ rfl<|az M 0):iC [lC 4,mD S rk c]=_)
def IY(M:ya S rk c){k:Nat}(a:k<5){st:ua} (f:st[i]?=some (some<|.v<|mD S rk c)) (b:st[j]?=some (some<|.v<|lC k)):∃d,gW (bZ "EarlyNo" "bar" iU [] (aA j)<|aC (aA i) aK) (gW (bZ "EarlyYes" "bar" jC [] (aA j)<|aC (aA i) aK)<|gW (bZ "Settled" "bar" jQ [] (aA j)<|aC (aA i) aK)<|gW (bZ "Again" "bar" nG [] (aA j)<|aC (aA i) aK)<|bZ "Lasting" "bar" jR [] (aA j)<|aC (aA i) aK) st=.ok d/\Qi d=qN S c rk k:=by
 obtain⟨d,e,h⟩:=bSz M a;exact⟨d,FC a (by unfold aA;rw[b]) (aR (by unfold aA;rw[f]) rfl) e,h⟩
def Ô(M:ya S rk c){k:Nat}(a:k<5)(b:qN S c rk k=true):bL [lC k,mD S rk c]=.ok (mD S (Tj S c rk k) c):=by
 obtain⟨d,e,h⟩:=IY M a (st:=[lC k,mD S rk c]) (i:=1) (j:=0) rfl rfl;rw[b]at h;exact bB rfl<|aH (iY (aL e rfl<|show aq d .Tb=.ok (.bl false) by cases d<;>first|rfl|cases h) rfl)<|bH<|aJ (aR (show e1 (iH "Machine" "steps") (aA 1) _=.ok (.lst<|Rb S) from mG)<|aR (FC a rfl (aR rfl rfl)<|bNx M a) rfl)<|Sy<|JU M k
def Of(M:ya S rk c):qF [mD S rk c]=.ok (.lst<|kZ<|qN S c rk):=by
 have b:uM []=.ok (.lst<|(List.range 5).map lC):=bB rfl<|bH<|cW rfl;have f:jX (bb 1) CD BD [mD S rk c,none] ((List.range 5).map lC)=.ok (kZ<|qN S c rk):=fF (List.range 5) λk a=>⟨_,rfl,(by
  obtain⟨d,e,h⟩:=IY M (Jd.mp a) (st:=[mD S rk c,lC k]) (i:=0) (j:=1) rfl rfl;rw[<-h];exact aL e rfl rfl),λ_=>MX (Jd.mp a) rfl⟩
 exact bB rfl<|cS rfl<|gJ (oW<|aJ rfl b) (by simp) f
def Ī(M:ya S rk c)(h:∀m,De S c m->ib Xc m=ib rk m)(g:Bool):Fe S c Xc g↔Fe S c rk g:=by
 unfold Fe;constructor
 .rintro⟨L,Y,a,d,b,f,e⟩;exact⟨L,Y,a,d,b,by rw[<-h L a];exact f,by rw[<-h Y (Hm M a d b)];exact e⟩
 .rintro⟨L,Y,a,d,b,f,e⟩;exact⟨L,Y,a,d,b,by rw[h L a];exact f,by rw[h Y<|Hm M a d b];exact e⟩
def ī(h:∀m,De S c m->ib Xc m=ib rk m)(g:Bool):Og S c Xc g↔Og S c rk g:=by
 unfold Og;constructor
 .rintro⟨L,G,b,a,f,e,d⟩;exact⟨L,G,b,a,by rw[<-h L b];exact f,by rw[<-h G a];exact e,d⟩
 .rintro⟨L,G,b,a,f,e,d⟩;exact⟨L,G,b,a,by rw[h L b];exact f,by rw[h G a];exact e,d⟩
def JY{S:am}{rk:ac}{c:Nat}(b:∀g,Og T c Xc g↔Og S c rk g)(a:∀g,Fe T c Xc g↔Fe S c rk g):qN T c Xc=qN S c rk:=by
 have e:Og T c Xc=Og S c rk:=funext λg=>propext<|b g
 have d:Fe T c Xc=Fe S c rk:=funext λg=>propext<|a g
 funext k;unfold qN;rw[e,d]
def FW(M:ya S rk c)(h:∀m,De S c m->ib Xc m=ib rk m):qN S c Xc=qN S c rk:=JY (ī h)<|Ī M h
end
section
def lS(M:ya S rk c){g:Bool}{x:Nat}(a:r<S.length)(f:x∈aP (cZ S c (cH<|List.range S.length) r))(h:rY S c (pM S c rk g) x=true):rY S c (pM S c rk g) r=true:=by
 have d:=(fU M a x).mp<|aF.mp f;have b:=wR M a d;obtain⟨m,l,k,j,i⟩:=(Xp M b).mp h;exact(Xp M a).mpr ⟨m,l,k,λy e=>aF.mpr<|(fU M a y).mpr<|d.trans<|(fU M b y).mp<|aF.mp<|j y e,i⟩
def OX(M:ya S rk c){g:Bool} (i:m<2^S.length) (n:Tc S c m) {x:Nat} (k:x∈aP m) (l:rY S c (pM S c rk g) x=b):ib (uf S<|uh S c rk g) m=(b==g):=by
 have all:∀r∈aP m,rY S c (pM S c rk g) r=b:=λr e=>by
  have o:∀{a d},a∈aP m->d∈aP m->rY S c (pM S c rk g) a=true->rY S c (pM S c rk g) d=true:=λ{a d} q f h=>lS M (aW i f) (aF.mpr<|(fU M (aW i f) a).mpr<|Nr M (λy p=>DW M p) (aW i f)<|n.2.1 d f a q) h
  cases j:rY S c (pM S c rk g) r
  .cases b
   .rfl
   .rw[o k e l]at j;cases j
  .rw[<-l,o e k j]
 rw[CW (v:=if b=g then 0 else 1) n.1 λr e=>by rw[Gz<|aW i e];unfold uh;rw[all r e]]
 cases b<;>cases g<;>rfl
def bNy(M:ya S rk c){g:Bool} (f:r<S.length):rY S c (pM S c (uf S<|uh S c rk g) g) r=rY S c (pM S c rk g) r:=by
 have M1:ya S (uf S<|uh S c rk g) c:=sv M _;refine To.mpr ⟨λh=>?_,λh=>?_⟩
 .obtain⟨m,d,a,k,j⟩:=(Xp M1 f).mp h;obtain⟨x,b⟩:=Hj _<|pU a.1;refine lS M f (k x b) ?_
  have e:=OX M d a b (g:=g) rfl;have i:ib (uf S<|uh S c rk g) m=g:=eq_of_beq j;rw[e]at i;revert i;cases rY S c (pM S c rk g) x<;>cases g<;>decide
 .obtain⟨m,d,a,k,j⟩:=(Xp M f).mp h;obtain⟨x,b⟩:=Hj _<|pU a.1;have i:ib rk m=g:=eq_of_beq j;have l:=DU M ⟨d,a⟩ b;rw[i]at l;have e:=OX M d a b l;refine(Xp M1 f).mpr ⟨m,d,a,k,?_⟩;show (ib (uf S<|uh S c rk g) m==g)=true;rw[e];cases g<;>rfl
def UQ{f a:li}(h:∀r,r<S.length->f r=a r):uf S f=uf S a:=Rk λr b=>h r<|Jd.mp b
def mS(M:ya S rk c)(g:Bool):uf S (uh S c (uf S<|uh S c rk g) g)=uf S (uh S c rk g):=UQ λr a=>by
 unfold uh;rw[show rY S c (pM S c (uf S λr=>if rY S c (pM S c rk g) r=g then 0 else 1) g) r=_ from bNy M a]
def Ĭ(M:ya S rk c):uf S (sj S c<|uf S<|sj S c rk)=uf S (sj S c rk):=UQ λr d=>by
 have M1:ya S (uf S<|sj S c rk) c:=sv M _;have:(Au S c<|uf S<|sj S c rk).testBit r=(Au S c rk).testBit r:=To.mpr ⟨λh=>by
  obtain⟨m,a,f,e⟩:=(Wr M1).mp h;refine bj λz=>?_
  obtain⟨⟨x,i,b⟩,g⟩:=oR (rk:=uf S<|sj S c rk) a.1.1;have u:=g r e;rw[Gz d]at u;rw[Gz<|aW a.2.1 i]at b;have:lN (uf S<|sj S c rk) m%2=0:=ck f;generalize lN (uf S<|sj S c rk) m=t at u b this;unfold sj at u b;rw[Ta z]at u;split at b<;>omega,λh=>by
  obtain⟨m,a,f,e⟩:=(Wr M).mp h;exact(Wr M1).mpr ⟨m,a,by rw[Mv (v:=0) a λr d=>by unfold sj;rw[xb<|(Wr M).mpr ⟨m,a,f,d⟩]];rfl,e⟩⟩
 show (if _ then 0 else 1)=(if _ then 0 else 1)
 rw[this]
def ĭ(M:ya S rk c){k:Nat}(a:k<3):Tj S c (Tj S c rk k) k=Tj S c rk k:=by
 have:k=0\/k=1\/k=2:=by omega
 rcases this with rfl|rfl|rfl
 .exact mS M true
 .exact mS M false
 .exact Ĭ M
def vv(M:ya S rk c)(g:Bool):Fe S c rk g↔2<=nP S c rk (!g):=by
 obtain⟨H,F,s⟩:=Mu (S:=S) (c:=c) (rk:=rk)<|!g;constructor
 .rintro⟨L,Y,q,k,E,D,p⟩;exact F L (Er.mp q) 2<|.up (.one k p) q.1 E<|by rw[D,p];cases g<;>decide
 .intro h;have two:∀{Z m:Nat},Ch S c rk (!g) Z m->2<=m->∃L Y,Tc S c L/\Tc S c Y/\iK Y L/\iK L Z/\ib rk L=g/\ib rk Y=!g:=λ{Z m} x=>by
   induction x with
   |one _ _=>exact λz=>absurd z (by decide)
   |@up Y Z m A C n l u=>
    intro o
    by_cases k:2<=m
    .obtain⟨L,G,i,f,d,b,a⟩:=u k;exact⟨L,G,i,f,d,λr w=>n r<|b r w,a⟩
    .cases A with
     |one j e=>
      refine⟨Z,Y,C,j,n,λ_ z=>z,?_,e⟩
      rw[e]at l;revert l;cases g<;>cases ib rk Z<;>decide
     |up B _ _ _=>exact absurd (Ks B).1 (by omega)
  rcases s with s|⟨Z,y,m,o,e⟩
  .omega
  obtain⟨L,Y,i,f,d,b,a,t⟩:=two o (by omega)
  have v:=Er.mpr y;exact⟨L,Y,Hm M v i b,f,d,a,t⟩
def bJo(C:Gh S T rk Xc c π)(M:ya S rk c)(a:ya T Xc c)(g:Bool):Fe T c Xc g↔Fe S c rk g:=by rw[vv a,vv M,bJk C M a]
def GW(C:Gh S T rk Xc c π)(M:ya S rk c)(a:ya T Xc c) (h:De T c Z):De S c (zh π Z):=⟨Wv C M a h.2.1 h.1,sA C h.2.1,λr d=>by
 obtain⟨x,b,rfl⟩:=jT.mp d;exact aI C M a<|h.2.2 x b⟩
def oS(C:Gh S T rk Xc c π)(M:ya S rk c)(a:ya T Xc c){x:Nat}(h:De S c Z)(d:x∈aP (ie T c))(k:π x∈aP Z):∃D,De T c D/\zh π D=Z/\∀y∈aP D,cc T c (Ie<|ie T c) x y:=by
 have f:=aW pB d;obtain⟨D,g,l,i,j⟩:=term C M a h.1 h.2.1<|AH C a f k;have e:∀y∈aP D,cc T c (Ie<|ie T c) x y:=λy b=>my a d<|(dU a f).mp<|g y b
 exact⟨D,⟨i,l.lt,λy b=>aF.mpr<|Bm (al:=Ie<|ie T c) (aF.mp d)<|e y b⟩,j,e⟩
def bJp(C:Gh S T rk Xc c π)(M:ya S rk c)(e:ya T Xc c)(g:Bool):Og T c Xc g↔Og S c rk g:=by
 unfold Og;constructor
 .rintro⟨L,G,d,n,v,u,a,f,b,s,t⟩;exact⟨zh π L,zh π G,GW C M e d,GW C M e n,by rw[<-C.ev _ d.1 d.2.1];exact v,by rw[<-C.ev _ n.1 n.2.1];exact u,π a,jT.mpr ⟨a,f,rfl⟩,π b,jT.mpr ⟨b,s,rfl⟩,ZH C e (aW d.2.1 f) (λx l=>aF.mp<|aI C M e<|aF.mpr l) t⟩
 .rintro⟨L,G,d,n,v,u,a,f,b,s,t⟩;obtain⟨Q,P,N⟩:=jS C M e<|d.2.2 a f;obtain⟨D,m,w,_⟩:=oS C M e d P (by rw[N];exact f)
  have F:=f;rw[<-w]at F;obtain⟨x,l,rfl⟩:=jT.mp F;have i:∀{r:Nat},cc S c (Ie<|ie S c) (π x) r->∃y,cc T c (Ie<|ie T c) x y/\π y=r:=λ{r} h=>by
   induction h with
   |here=>exact⟨x,.here,rfl⟩
   |@on r k d B f H=>
    obtain⟨y,j,rfl⟩:=H;have O:=m.2.2 x l;have p:=aF.mpr<|Bm (al:=Ie<|ie T c) (aF.mp O) j;have q:=aW pB p;have J:cc T c (λ_=>true) y (Yc T y k):=.on .here B rfl
    exact⟨Yc T y k,j.trans<|my e p J,C.st y q k B⟩
  obtain⟨y,j,rfl⟩:=i t;have p:=aF.mpr<|Bm (al:=Ie<|ie T c) (aF.mp<|m.2.2 x l) j;obtain⟨E,o,I,K⟩:=oS C M e n p s;obtain⟨z,A⟩:=Hj _<|pU o.1.1;exact⟨D,E,m,o,by rw[C.ev _ m.1 m.2.1,w];exact v,by rw[C.ev _ o.1 o.2.1,I];exact u,x,l,z,A,j.trans<|K z A⟩
def PX(C:Gh S T rk Xc c π)(M:ya S rk c)(a:ya T Xc c):qN T c Xc=qN S c rk:=JY (bJp C M a)<|bJo C M a
end
theorem bNz(T:ac):gd (.lst<|ba T) (.lst [])=.ok (.bl<|decide (T=[])):=by
 obtain⟨c,b,_⟩:=gZ T;have d:ag (.lst<|ba T)=1:=by unfold ag;rw[b]
 have a:de (.lst<|ba T) (.lst [])=decide (T=[]):=by exact Kr T []
 rw[HV,aO ⟨by lia,(by exact c),rfl⟩,a]
def Į{e:Ex}{st:ua}{x:D} (he:e st=.ok d) (a:st[i]?=some (some<|.o .l<|xs++[x])):Yj i (e1 mi<|eI 1) e st=.ok (.nx<|st.set i<|some<|.o .l<|xs++[d]):=by
 unfold Yj;rw[he,bA,show e1 mi (eI 1) st=.ok (.int<|-1) from rfl,bA]
 show (match st[i]? with|some (some<|.o .l xs)=>_|_=>_)=_
 rw[a];show (yi<|vg (xs++[x]).length<|-1).bind _=_;have:vg (xs++[x]).length (-1)=some xs.length:=by
  unfold vg;rw[Ta (by decide),xb (by rw[af];simp;omega),af]
  congr 1;simp;omega
 rw[this];show R.ok (Fl.nx<|st.set i<|some<|.o .l<|(xs++[x]).set xs.length d)=_;rw[List.set_append_right _ _<|Fc _,Nat.sub_self];rfl
def ue(n t k:Nat):Nat:=k*t%(2*n)%n
def bR9:∀n,n<5->1<=n->∀g,g<n->∀v,v<2->∀t,t=1\/t=2*n-1->ue n t ((g+n*v)*t%(2*n))=g:=by
 have:∀n,n<5->1<=n->∀g,g<n->∀v,v<2->ue n 1 ((g+n*v)*1%(2*n))=g/\ue n (2*n-1) ((g+n*v)*(2*n-1)%(2*n))=g:=by decide
 intro n d c g b v a t e;rcases e with rfl|rfl
 .exact(this n d c g b v a).1
 .exact(this n d c g b v a).2
section
variable{S:am}{rk:ac}{c:Nat}
abbrev oh(S:am)(rk L:ac)(a b:Int)(t:Nat)(R:dL)(Q:ac)(c x10 cf d:f8):ua:=[some<|.v<|.lst<|Rb S,some<|.v<|.lst<|ba rk,some<|.v<|.int a,some<|.v<|.int b,some<|.v<|.int (S.length:Nat),some<|.v<|.int (t:Nat),some<|.v<|.lst<|ba L,some<|.o .l R,some<|.o .l<|ba Q,c,x10,cf,d,none]
def NM(S:am)(t r j v:Nat):Prop:=v<2*S.length/\ue S.length t v=Yc S r j
theorem HW(M:ya S rk c)(A:S.length<=4){L Q:ac}{R:dL}{a b:Int}{t r k:Nat}(l:t=1\/t=2*S.length-1)(n:r<S.length):∀(m j:Nat)(F:ac)(d:f8),j+m<=c->F.length+m<=100->∃G g,Eb (bb 12) zZ (ba<|List.range' j m) (oh S rk L a b t R Q (k:Nat) (r:Nat) (some<|.o .l<|ba F) d)=.ok (.nx<|oh S rk L a b t R Q (k:Nat) (r:Nat) (some<|.o .l<|ba<|F++G) g)/\G.length=m/\∀i,i<m->NM S t r (j+i) (G.getD i 0)
 |0,j,F,d,_,_=>⟨[],d,by rw[dh];rfl,rfl,λ_ h=>absurd h<|Yo _⟩
 |m+1,j,F,d,H,J=>by
  have s:=M.one;obtain⟨q,o,C,y⟩:=vo M n (show j<c by omega)
  obtain⟨v,B,p,E⟩:=Dr b (31+3*(k:Int)+(j:Int)) (m:=2) (by decide)
  obtain⟨w,rfl⟩:=DJ p;have u:w<2:=by omega
  have val:(e2 oZ (e2 jK (e2 lB (e2 qb (e2 qb (aA 0)<|aA 10)<|aA 12)<|e2 jK (aA 4)<|aM dY<|aC (aA 3)<|aC (e2 lB (e2 lB (eI 31)<|e2 jK (eI 3)<|aA 9)<|aA 12)<|aC (eI 2) aK)<|aA 5)<|e2 jK (eI 2)<|aA 4) (oh S rk L a b t R Q (k:Nat) (r:Nat) (some<|.o .l<|ba F) (j:Nat))=.ok (.int (((Yc S r j+S.length*w)*t%(2*S.length):Nat):Int)):=by
   have p1:aM dY (aC (aA 3)<|aC (e2 lB (e2 lB (eI 31)<|e2 jK (eI 3)<|aA 9)<|aA 12)<|aC (eI 2) aK) (oh S rk L a b t R Q (k:Nat) (r:Nat) (some<|.o .l<|ba F) (j:Nat))=.ok (.int (w:Nat)):=aJ (aR rfl<|aR (aL (x:=.int<|31+3*(k:Int)) (aL (y:=.int<|3*(k:Int)) rfl (aL rfl rfl<|wW<|by decide) rfl) rfl rfl)<|aR rfl rfl) B
   refine aL (aL (aL (aL (aL rfl rfl<|fX o) rfl<|fX C) (aL rfl p1<|wW<|by omega) rfl) rfl<|Hv<|by rcases l with rfl|rfl<;>omega) (aL rfl rfl<|wW<|by decide)<|(tH<|by omega).trans ?_
   push_cast
   rfl
  obtain⟨G,g,f,x,z⟩:=HW (L:=L) (Q:=Q) (R:=R) (a:=a) (b:=b) (k:=k) M A l n m (j+1) (F++[(Yc S r j+S.length*w)*t%(2*S.length)]) (j:Nat) (by omega) (by rw[af];simp;omega)
  refine⟨(Yc S r j+S.length*w)*t%(2*S.length)::G,g,dI rfl (vB val rfl<|by rw[bC];omega) ?_,by rw[ze,x],λi I=>?_⟩
  .have e:ba F++[D.int (((Yc S r j+S.length*w)*t%(2*S.length):Nat):Int)]=ba (F++[(Yc S r j+S.length*w)*t%(2*S.length)]):=Fu _ _;show Eb _ _ _ (oh S rk L a b t R Q _ _ (some<|.o .l<|ba F++[_]) _)=_;rw[e];exact f.trans (by rw[Sk];rfl)
  .cases i with
   |zero=>exact⟨mod_lt _ (by omega),bR9 S.length (by omega) s _ y w u t l⟩
   |succ i=>
    have:=z i (by omega)
    rw[show j+1+i=j+(i+1) by omega]at this
    exact this
structure jo(S:am)(rk L:ac)(c t mo:Nat)(k:Nat)(T:am)(Q:ac):Prop where
 tl:T.length=k
 ql:Q.length=k
 row:∀i,i<k->(T.getD i []).length=c/\∀j,j<c->NM S t (ue S.length t i) j ((T.getD i []).getD j 0)
 rk:∀i,i<k->(∃m∈L,m.testBit (ue S.length t i)=true)->Q.getD i 0=rk.getD (ue S.length t i) 0+mo
def getD_snoc{l:List α}{x d:α} (h:i<=l.length):(l++[x]).getD i d=if i=l.length then x else l.getD i d:=by
 rw[ng,ng,List.getElem?_append]
 by_cases e:i=l.length
 .subst e;simp
 .rw[xb (by omega),Ta e]
def į(M:ya S rk c)(O:S.length<=4){Q:ac} {a b:Int} {t k g:Nat} (u:t=1\/t=2*S.length-1) (Z:L.length<=256) (I:dY [.int a,.int 3,.int 9]=.ok (.int (g:Nat))) (h:jo S rk L c t (2*g) k T Q) (Y:k<100) (x10 cf n:f8):∃B C W V l,oG (oh S rk L a b t (Rb T) Q (k:Nat) x10 cf n)=.ok (.nx<|oh S rk L a b t (Rb B) C (k:Nat) W V l)/\jo S rk L c t (2*g) (k+1) B C:=by
 have s:=M.one;have x:ue S.length t k<S.length:=mod_lt _ s;obtain⟨G,l,f,J,N⟩:=HW (L:=L) (Q:=Q) (R:=Rb T) (a:=a) (b:=b) (k:=k) M O u x c 0 [] n (by omega) (by have:=M.c3;simp;omega)
 have H:qZ (e1 jE<|e2 qb (aA 0)<|eI 0) (oh S rk L a b t (Rb T) Q (k:Nat) (ue S.length t k:Nat) (some<|.o .l<|ba []) n)=.ok (ba<|List.range' 0 c):=by
  have U:e1 jE (e2 qb (aA 0)<|eI 0) (oh S rk L a b t (Rb T) Q (k:Nat) (ue S.length t k:Nat) (some<|.o .l<|ba []) n)=.ok (.int (c:Nat)):=Rm (aL rfl rfl<|fX<|Gv (q:=0) s) (by
   show R.ok (D.int ((ba<|S[0]).length:Nat))=_;rw[bC,(M.row _<|Fi _).1])
  rw[yG U (by have:=M.c3;omega),IJ]
  rfl
 obtain⟨v,P,F,X⟩:=Dr b (91+(k:Int)) (m:=10) (by decide)
 obtain⟨w,rfl⟩:=DJ F;have E:ue S.length t k<rk.length:=by rw[M.Jp];exact x
 have p:rk[ue S.length t k]?=some (rk.getD (ue S.length t k) 0):=by rw[Ze E,ng,Ze E];rfl
 let d:Nat:=rk.getD (ue S.length t k) 0+2*g
 have r:cT [13] (bb 13) (Wc<|aA 6) oF oE (oh S rk L a b t (Rb<|T++[G]) (Q++[d]) (k:Nat) (ue S.length t k:Nat) (D.lst<|ba G) l)=.ok (.lst<|ba<|L.filter λm=>m.testBit<|ue S.length t k):=gJ rfl (by rw[bC];omega)<|iG (G:=λm=>.int (m:Nat)) L λm _=>⟨_,rfl,iw rfl rfl,rfl⟩
 have A:∀z:Nat,((∃m∈L,m.testBit (ue S.length t k)=true)->z=d)->jo S rk L c t (2*g) (k+1) (T++[G]) (Q++[z]):=λz q=>by
  refine⟨by rw[af,h.tl];rfl,by rw[af,h.ql];rfl,λi K=>?_,λi K hm=>?_⟩
  .rw[getD_snoc (by rw[h.tl];omega),h.tl]
   split
   .rename_i e;subst e;refine⟨J,λj hj=>?_⟩
    have:=N j hj
    rwa [Ut]at this
   .exact h.row i (by omega)
  .rw[getD_snoc (by rw[h.ql];omega),h.ql]
   split
   .rename_i e;subst e;exact q hm
   .exact h.rk i (by omega) hm
 have run:∀z:Nat,ud (e2 gd (cT [13] (bb 13) (Wc<|aA 6) oF oE)<|fJ aK) (Yj 8 (e1 mi<|eI 1)<|aM dY<|aC (aA 3)<|aC (e2 lB (eI 91)<|aA 9)<|aC (eI 10) aK) cJ (oh S rk L a b t (Rb<|T++[G]) (Q++[d]) (k:Nat) (ue S.length t k:Nat) (D.lst<|ba G) l)=.ok (.nx<|oh S rk L a b t (Rb<|T++[G]) (Q++[z]) (k:Nat) (ue S.length t k:Nat) (D.lst<|ba G) l)->oG (oh S rk L a b t (Rb T) Q (k:Nat) x10 cf n)=.ok (.nx<|oh S rk L a b t (Rb<|T++[G]) (Q++[z]) (k:Nat) (ue S.length t k:Nat) (D.lst<|ba G) l):=λz q=>by
  refine aH (aZ (d:=.int (ue S.length t k:Nat))<|aL (aL (aL rfl rfl<|Hv<|by rcases u with rfl|rfl<;>omega) (aL rfl rfl<|wW<|by decide)<|tH<|by omega) rfl<|(tH<|by omega).trans ?_)<|aH (oN (xs:=ba [])<|cW rfl)<|aH (dN H f)<|aH (st':=oh S rk L a b t (Rb<|T++[G]) Q (k:Nat) (ue S.length t k:Nat) (D.lst<|ba G) l) ?_<|aH (st':=oh S rk L a b t (Rb<|T++[G]) (Q++[d]) (k:Nat) (ue S.length t k:Nat) (D.lst<|ba G) l) ?_ q
  .unfold ue;push_cast;rfl
  .refine(vB (d:=.lst<|ba G) (xs:=Rb T) rfl rfl<|by rw[oO,h.tl];omega).trans ?_
   rw[RT];rfl
  .refine(vB (d:=.int (d:Nat)) (xs:=ba Q) (aL (aL rfl rfl<|fX<|yI p) (aL rfl (aJ rfl I)<|wW<|by decide) ?_) rfl<|by rw[bC,h.ql];omega).trans ?_
   .show R.ok (D.int<|(rk.getD (ue S.length t k) 0:Nat)+2*(g:Int))=_;rw[show ((d:Nat):Int)=(rk.getD (ue S.length t k) 0:Nat)+2*(g:Int) from by show ((rk.getD (ue S.length t k) 0+2*g:Nat):Int)=_;push_cast;rfl]
   .rw[Fu];rfl
 have o:=aL (f:=cT [13] (bb 13) (Wc<|aA 6) oF oE) (g:=fJ aK) r (cW rfl)<|bNz _;cases y:decide ((L.filter λm=>m.testBit<|ue S.length t k)=[]) <;> rw[y]at o
 .exact⟨_,_,_,_,_,run d<|iY o rfl,A d λ_=>rfl⟩
 .refine⟨_,_,_,_,_,run w<|rW o<|(Į (xs:=ba Q) (x:=.int (d:Nat)) (d:=.int (w:Nat)) (aJ (aR rfl<|aR (aL rfl rfl rfl)<|aR rfl rfl) P) ?_).trans ?_,A w λ⟨m,hm,hb⟩=>?_⟩
  .show some (some<|Sl.o OK.l<|ba<|Q++[d])=_;rw[<-Fu]
  .rw[Fu];rfl
  .have:=YA.mp (ck y) m hm;exact absurd hb this
theorem KU(M:ya S rk c)(v:S.length<=4){L:ac}{a b:Int}{t n:Nat}(r:t=1\/t=2*S.length-1)(u:L.length<=256)(s:dY [.int a,.int 3,.int 9]=.ok (.int (n:Nat))):∀(m k:Nat) (T:am) (Q:ac) (g x10 cf d:f8),k+m<=100->jo S rk L c t (2*n) k T Q->∃i j x q p o,Eb (bb 9) oG (ba<|List.range' k m) (oh S rk L a b t (Rb T) Q g x10 cf d)=.ok (.nx<|oh S rk L a b t (Rb i) j x q p o)/\jo S rk L c t (2*n) (k+m) i j
 |0,k,T,Q,g,x10,cf,d,_,h=>⟨T,Q,g,x10,cf,d,rfl,h⟩
 |m+1,k,T,Q,g,x10,cf,d,E,h=>by
  obtain⟨A,B,q,p,o,e,z⟩:=į (a:=a) (b:=b) M v r u s h (by omega) x10 cf d
  obtain⟨i,j,w,D,C,l,f,y⟩:=KU (a:=a) (b:=b) M v r u s m (k+1) A B (k:Nat) q p o (by omega) z
  exact⟨i,j,w,D,C,l,dI rfl e f,by rw[show k+(m+1)=k+1+m by omega];exact y⟩
def BH(M:ya S rk c)(k:S.length<=4) {t:Nat} {Q:ac} (h:jo S rk L c t mo (2*S.length) T Q):ya T Q c:=by
 have g:=M.one;refine⟨by rw[h.tl];omega,by rw[h.tl];omega,M.c1,M.c3,λr hr=>?_,by rw[h.ql,h.tl]⟩
 obtain⟨i,d,rfl⟩:=List.getElem_of_mem hr;obtain⟨a,f⟩:=h.row i (by rw[<-h.tl];exact d)
 have e:T.getD i []=T[i]:=by rw[ng,Ze d];rfl
 rw[e]at a f;refine⟨a,λx hx=>?_⟩
 obtain⟨j,b,rfl⟩:=List.getElem_of_mem hx;have:=(f j<|by rw[<-a];exact b).1
 rwa [ng,Ze b,<-h.tl]at this
def bJq(M:ya S rk c)(w:S.length<=4) {t:Nat} {Q:ac} (v:∀m,Tc S c m->m<2^S.length->m∈L) (h:jo S rk L c t (2*mo) (2*S.length) T Q):Gh S T rk Q c (ue S.length t):=by
 have p:=M.one;have e:=BH M w h;have st:∀x,x<T.length->∀k,k<c->ue S.length t (Yc T x k)=Yc S (ue S.length t x) k:=λx a k s=>((h.row x<|by rw[<-h.tl];exact a).2 k s).2
 have f:Gh S T rk ((List.range T.length).map λx=>rk.getD (ue S.length t x) 0) c (ue S.length t):=⟨λx _=>mod_lt _ p,st,by unfold ue;simp,λZ hZ hl=>by
  have b:∀x∈aP Z,((List.range T.length).map λx=>rk.getD (ue S.length t x) 0).getD x 0=rk.getD (ue S.length t x) 0:=λx a=>by
   rw[ng,cj,yB<|aW hl a];rfl
  obtain⟨⟨x,a,n⟩,g⟩:=oR (rk:=(List.range T.length).map λx=>rk.getD (ue S.length t x) 0) hZ.1
  obtain⟨⟨r,l,z⟩,i⟩:=oR (rk:=rk)<|xA (π:=ue S.length t) hZ.1;obtain⟨y,d,rfl⟩:=jT.mp l;have j:=g y d;have o:=i _<|jT.mpr ⟨x,a,rfl⟩;rw[b y d]at j;rw[b x a]at n;unfold ib;rw[show lN ((List.range T.length).map λx=>rk.getD (ue S.length t x) 0) Z=lN rk (zh (ue S.length t) Z) by omega]⟩
 refine⟨f.lt,f.st,f.z,λZ hZ hl=>?_⟩
 have u:=Wv f M ⟨e.one,e.most,e.c1,e.c3,e.row,by rw[Kd,Vk]⟩ hl hZ
 have q:=v _ u<|sA f hl;have b:∀x∈aP Z,Q.getD x 0=rk.getD (ue S.length t x) 0+2*mo:=λx a=>h.rk x (by rw[<-h.tl];exact aW hl a) ⟨_,q,aF.mp<|jT.mpr ⟨x,a,rfl⟩⟩
 obtain⟨⟨x,a,n⟩,g⟩:=oR (rk:=Q) hZ.1;obtain⟨⟨r,l,z⟩,i⟩:=oR (rk:=rk)<|xA (π:=ue S.length t) hZ.1;obtain⟨y,d,rfl⟩:=jT.mp l;have j:=g y d;have o:=i _<|jT.mpr ⟨x,a,rfl⟩;rw[b y d]at j;rw[b x a]at n;unfold ib;refine Qo.mpr ?_
 rw[show lN Q Z=lN rk (zh (ue S.length t) Z)+2*mo by omega]
 omega
def Τ(M:ya S rk c)(d:S.length<=4)(a b:Int):∃T i π,rA [.lst<|Rb S,.lst<|ba rk,.int a,.int b]=.ok (mD T i c)/\ya T i c/\Gh S T rk i c π:=by
 have A:=M.one;obtain⟨v,p,j,x⟩:=Dr a 3 (m:=9) (by decide)
 obtain⟨mo,rfl⟩:=DJ j;obtain⟨u,q,z,y⟩:=Dr a 1 (m:=2) (by decide)
 have all:2^S.length-1<2^S.length:=Nat.sub_lt (Nat.two_pow_pos _) (by decide)
 obtain⟨t,n,r⟩:∃t:Nat,(t=1\/t=2*S.length-1)/\qb (.lst [.int 1,.int<|2*(S.length:Int)-1]) (.int u)=.ok (.int (t:Nat)):=by
  have:u=0\/u=1:=by omega
  rcases this with rfl|rfl
  .exact⟨1,.inl rfl,rfl⟩
  .refine⟨2*S.length-1,.inr rfl,?_⟩;rw[show ((2*S.length-1:Nat):Int)=2*(S.length:Int)-1 by omega]
   rfl
 have l:e2 qi (e2 Lm (e2 Fo (eI 2)<|eI 8)<|eI 1) (e2 Lm (eI 8)<|aA 4) [D.lst<|Rb S,D.lst<|ba rk,a,b,(S.length:Nat),(t:Nat),none,none,none,none,none,none,none,none]=.ok (.int ((2^S.length-1:Nat):Int)):=by
  refine aL (x:=.int 255) (y:=.int<|8-(S.length:Int)) (aL (x:=.int 256) (aL rfl rfl ?_) rfl rfl) (aL rfl rfl rfl) ?_
  .show aX _ _=_;rw[aO (by decide)]
   rfl
  .have:S.length=1\/S.length=2\/S.length=3\/S.length=4:=by omega
   rw[ĕ,aO (by omega)]
   rcases this with e|e|e|e<;>rw[e] <;> rfl
 have s:jo S rk (Ko S c<|2^S.length-1) c t (2*mo) 0 [] []:=⟨rfl,rfl,λ_ h=>absurd h<|Yo _,λ_ h=>absurd h<|Yo _⟩
 obtain⟨T,Q,w,E,C,B,f,h⟩:=KU (a:=a) (b:=b) M d n (WT M all) p (2*S.length) 0 [] [] none none none none (by omega) s
 rw[Ut]at h;refine⟨T,Q,ue S.length t,?_,BH M d h,bJq M d (λm o h2=>XG.mpr ⟨o,λg hg=>aF.mpr ?_⟩) h⟩
 .have k:qZ (e2 jK (eI 2)<|aA 4) (oh S rk (Ko S c<|2^S.length-1) a b t (Rb []) [] none none none none)=.ok (ba<|List.range' 0<|2*S.length):=by
   rw[yG (n:=2*S.length) (aL rfl rfl<|(wW<|by decide).trans<|by push_cast;rfl) (by omega),IJ]
   rfl
  refine bB rfl<|aH (aZ (d:=.int (S.length:Nat))<|Rm (x:=.lst<|Rb S) rfl<|by show R.ok (D.int ((Rb S).length:Nat))=_;rw[oO])<|aH (aZ<|aL (cW (ds:=[.int 1,.int<|2*(S.length:Int)-1])<|aR rfl<|aR (aL (aL rfl rfl<|wW<|by decide) rfl rfl) rfl) (aJ rfl q) r)<|aH (aZ<|aJ (aR (aJ rfl<|ZE M)<|aR l rfl)<|XT M all)<|aH (oN (xs:=[])<|cW rfl)<|aH (oN (xs:=[])<|cW rfl)<|aH (dN k f) ?_
  exact bH<|aJ rfl<|Sy<|BH M d h
 .rw[Nat.testBit_two_pow_sub_one];exact Oc<|aW h2 hg
end
def bRa(x:ac)(l:am):inD (.str x) (l.map D.str)=decide (x∈l):=by
 unfold inD;rw[Bw]
 induction l with
 |nil=>rfl
 |cons a l b=>
  rw[ap,b];show (de (.str a) (.str x)||_)=_
  rw[show de (.str a) (.str x)=(a==x) by conv=>lhs;unfold de,Bool.eq_iff_iff,or_eq_true,beq_iff_eq,decide_eq_true_eq,decide_eq_true_eq,mem_cons,eq_comm]
def bJr(q:no){k:Nat}(c:k<5):inD (jq k) (kZ q)=q k:=by
 have e:kZ q=(((List.range 5).filter q).map λk=>wo.getD k []).map D.str:=by rw[Jj];rfl
 rw[e,jq,bRa,To,Cf,xf];have inj:∀a,a<5->∀b,b<5->wo.getD a []=wo.getD b []->a=b:=by decide
 constructor
 .rintro⟨j,d,h⟩;obtain⟨g,f⟩:=Nd.mp d
  rwa [inj j (Jd.mp g) k c h]at f
 .exact λh=>⟨k,Nd.mpr ⟨Jd.mpr c,h⟩,rfl⟩
def wX(q:no):fZ (kZ q)=true/\rT (kZ q)=0/\pY (kZ q) (kZ q)=true:=by
 have e:kZ q=(((List.range 5).filter q).map λk=>wo.getD k []).map D.str:=by rw[Jj];rfl
 rw[e];exact GP _
def CH(q:no){k:Nat}(c:k<5):jl (jq k) (.lst<|kZ q)=.ok (.bl<|q k)/\pZ (jq k) (.lst<|kZ q)=.ok (.bl<|!q k):=by
 obtain⟨b,a,_⟩:=wX q;rw[<-bJr q c];exact⟨aO ⟨by rw[a];exact qh 60,rfl,b⟩,aO ⟨by rw[a];exact qh 60,rfl,b⟩⟩
def bJs{W:jp}(h:W≠[]):(∃w∈W,qb (.lst<|W.map D.int) (.int 0)=.ok (.int w))/\∃w∈W,qb (.lst<|W.map D.int) (.int<|-1)=.ok (.int w):=by
 constructor
 .cases W with
  |nil=>exact(h rfl).elim
  |cons w W=>exact⟨w,Gb,fX<|Vp _ _⟩
 .exact⟨W.getLast h,List.getLast_mem h,fX<|yg<|by rw[List.getLast?_map,List.getLast?_eq_some_getLast h];rfl⟩
section
open Classical in
def bJt(M:ya S rk c)(h:qN S c rk 4=true)(r:Nat):Jh S rk c (rJ S c rk) r<=1:=by
 have k:¬ Fe S c rk true:=λz=>by
  have:(!decide (Fe S c rk true))=true:=h;rw[Oc z]at this;cases this
 unfold rJ;split
 .rename_i x;have w:¬ 2<=nP S c rk false:=λz=>k ((vv M true).mpr z)
  obtain⟨y,u,_⟩:=Mu (S:=S) (c:=c) (rk:=rk) true;have b:∀{Z},De S c Z->ib rk Z=false:=λ{Z} l=>by
   cases q:ib rk Z
   .rfl
   .have:=u Z (Er.mp l) 1<|.one l.1 q;omega
  by_cases j:∃X∈xY S c,r∈aP X
  .obtain⟨X,a,d⟩:=j;obtain⟨g,f,e⟩:=Lv M a;have m:=Er.mpr<|SF M a;rw[qv M a d];have t:=(Hs (base:=1) M (tZ M) 12 X g f.1 e r).2;have s:=(EU (b:=1) M (by decide) (λ⟨L,Y,p,o,n,v,i⟩=>by
    rw[b<|Hm M p o n]at i;cases i) (UH M (tZ M) 12 X g f e) m).2 (b m)
   exact ye t<|Rt s
  .rw[Iy λX a d=>j ⟨X,a,d⟩]
   decide
 .exact(FU (b:=0) M (by decide) k r).2
open Classical in
def LU(M:ya S rk c)(f:qN S c rk 3=true)(d:qN S c rk 4=false)(r:Nat):1<=Jh S rk c (rJ S c rk) r/\Jh S rk c (rJ S c rk) r<=2:=by
 have a:¬ Fe S c rk false:=λz=>by
  have:(!decide (Fe S c rk false))=true:=f;rw[Oc z]at this;cases this
 have b:Fe S c rk true:=bj λz=>by
  have:(!decide (Fe S c rk true))=false:=d;rw[yd z]at this;cases this
 have e:rJ S c rk=1:=by
  have g:=(vv M true).mp b;have h:¬ 2<=nP S c rk true:=λz=>a<|(vv M false).mpr z
  unfold rJ;rw[xb (by rw[show (!true)=false from rfl]at g;omega)]
 rw[e];exact FU (b:=1) M (by decide) a r
def Υ(M:ya S rk c):tX [mD S rk c,.lst<|kZ<|qN S c rk]=.ok (.bl true):=by
 have A:=M.one;have y:=M.most;have M1:ya S (oX S rk c<|rJ S c rk) c:=bz M;obtain⟨P,L⟩:=Vv M (m:=1)<|PJ<|by omega
 have N:(kf S c 1).testBit 0=true:=(L 0).mpr ⟨0,rfl,rfl,.here⟩
 let i:=(List.range S.length).filter λr=>(kf S c 1).testBit r
 let V:jp:=i.map λr=>((Jh S rk c (rJ S c rk) r:Nat):Int)
 have K:V≠[]:=by
  have:(0:Nat)∈i:=Nd.mpr ⟨Jd.mpr A,N⟩;exact λz=>RB<|List.map_eq_nil_iff.mp z ▸ this
 have W:V.length<=8:=by
  rw[Kd];refine ye (Ro _ _) ?_
  rw[Vk];exact y
 have h:cT [5] (bb 5) (qZ<|e1 (iH "Machine" "many")<|aA 0) vA uZ [mD S rk c,D.lst<|kZ<|qN S c rk,mD S (oX S rk c<|rJ S c rk) c,(kf S c 1:Nat),none,none]=.ok (.lst<|V.map D.int):=by
  have s:=iG (tg:=bb 5) (C:=vA) (E:=uZ) (st:=[mD S rk c,D.lst<|kZ<|qN S c rk,mD S (oX S rk c<|rJ S c rk) c,(kf S c 1:Nat),none,none]) (q:=λr=>(kf S c 1).testBit r) (G:=λr=>.int (Jh S rk c (rJ S c rk) r:Nat)) (List.range S.length) λr H=>⟨_,rfl,iw rfl rfl,aL (x:=.lst<|ba<|oX S rk c<|rJ S c rk) (Rm rfl qH) rfl<|fX<|yI (by
   have j:=Jd.mp H;have:=eS (rk:=rk) (c:=c) (base:=rJ S c rk) j;rw[<-this,ng,Ze (by rw[SQ];exact j)]
   rfl)⟩
  rw[show ((List.range S.length).filter λr=>(kf S c 1).testBit r).map (λr=>D.int (Jh S rk c (rJ S c rk) r:Nat))=V.map D.int by rw[Jj];rfl]at s
  exact gJ (yG (show e1 (iH "Machine" "many") (aA 0) _=.ok (.int (S.length:Nat)) from wO)<|by omega) (by simp;omega) s
 have f:FI (.lst<|V.map D.int)=.ok (.lst<|(nh V).map D.int):=by
  show (wH _).bind _=_;rw[sO,bA,aO (by omega)]
 have J:nh V≠[]:=λz=>K (by have:=(uJ V).length_eq;rw[z]at this;exact Vm.mp this.symm)
 obtain⟨⟨d,C,F⟩,a,B,E⟩:=bJs J;have l:∀w∈nh V,∃r:Nat,w=(Jh S rk c (rJ S c rk) r:Nat):=λw G=>by
  obtain⟨r,_,e⟩:=xf.mp<|(uJ V).mem_iff.mp G;exact⟨r,e.symm⟩
 obtain⟨x,X⟩:=l d C;obtain⟨k,U⟩:=l a B;have n:=Of M1;rw[FW M λm I=>TF M I]at n
 let st:ua:=[mD S rk c,D.lst<|kZ<|qN S c rk,mD S (oX S rk c<|rJ S c rk) c,(kf S c 1:Nat),D.lst<|(nh V).map D.int,none]
 have O:e2 qb (aA 4) (eI 0) st=.ok (.int d):=aL rfl rfl F;have q:e2 qb (aA 4) (e1 mi<|eI 1) st=.ok (.int a):=aL (y:=.int<|-1) rfl rfl E;have T:e2 jl (eC<|.str [97,103,97,105,110]) (aA 1) st=.ok (.bl<|qN S c rk 3):=aL rfl rfl (CH (k:=3) _<|by decide).1
 have t:e2 pZ (eC<|.str [108,97,115,116,105,110,103]) (aA 1) st=.ok (.bl<|!qN S c rk 4):=aL rfl rfl (CH (k:=4) _<|by decide).2
 have v:qY (e2 jl (eC<|.str [97,103,97,105,110])<|aA 1) (qY (e2 pZ (eC<|.str [108,97,115,116,105,110,103])<|aA 1)<|Ki (e2 Di (e2 qb (aA 4)<|eI 0)<|eI 1)<|e2 eh (e2 qb (aA 4)<|e1 mi<|eI 1)<|eI 2) st=.ok (.bl false):=by
  have o:=tE (g:=qY (e2 pZ (eC<|.str [108,97,115,116,105,110,103])<|aA 1)<|Ki (e2 Di (e2 qb (aA 4)<|eI 0)<|eI 1)<|e2 eh (e2 qb (aA 4)<|e1 mi<|eI 1)<|eI 2) (q:=false) T λp=>(tE (g:=Ki (e2 Di (e2 qb (aA 4)<|eI 0)<|eI 1)<|e2 eh (e2 qb (aA 4)<|e1 mi<|eI 1)<|eI 2) (q:=false) t λg=>by
   have b:qN S c rk 4=false:=by revert g;cases qN S c rk 4<;>decide
   have Y:=(LU M p b x).1;have Q:=(LU M p b k).2;exact Fs (p:=false) (q:=false) (aL O rfl<|show R.ok (D.bl<|decide (d<1))=_ by rw[yd (by omega)]) λ_=>aL q rfl<|show R.ok (D.bl<|decide (2<a))=_ by rw[yd (by omega)]).trans (by rw[Nt])
  rwa [Nt]at o
 have u:Ki (e2 pZ (eC<|.str [108,97,115,116,105,110,103])<|aA 1) (e2 ip (e2 qb (aA 4)<|e1 mi<|eI 1)<|eI 1) st=.ok (.bl true):=by
  have o:=Fs (g:=e2 ip (e2 qb (aA 4)<|e1 mi<|eI 1)<|eI 1) (q:=true) t λg=>by
   have b:qN S c rk 4=true:=by revert g;cases qN S c rk 4<;>decide
   have Q:=bJt M b k;exact aL q rfl (show R.ok (D.bl<|decide (a<=1))=_ by rw[Oc (by omega)])
  rwa [Bool.or_true]at o
 exact bB rfl<|aH (aZ<|aJ rfl<|Ρ M)<|aH (aZ<|aJ (aR (aJ (aR (Rm rfl mG) rfl)<|ZE M)<|aR rfl<|aR rfl rfl) P)<|aH (aZ<|Rm h f)<|fW (iY (aL (aJ rfl n) rfl (wy<|wX _).1) rfl)<|fW (iY v rfl)<|bH u
def QX(M:ya S rk c){k:Nat}(a:k<5)(d:qN S c rk k=true) {r:Ee} {st:ua} (h:f st=.ok (lC k)) (b:r st=.ok [mD S rk c]):gW (bZ "EarlyNo" "marked" bL [] f r) (gW (bZ "EarlyYes" "marked" bL [] f r)<|gW (bZ "Settled" "marked" bL [] f r)<|gW (bZ "Again" "marked" bL [] f r)<|bZ "Lasting" "marked" bL [] f r) st=.ok (mD S (Tj S c rk k) c):=FC a h b (by rw[FK a];exact Ô M a d)
def Õ(M:ya S rk c){k:Nat}(a:k<5)(x3:f8):∃h,wN [mD S rk c,D.lst<|kZ<|qN S c rk,(k:Nat),x3]=.ok (.nx [mD S rk c,D.lst<|kZ<|qN S c rk,(k:Nat),h]):=by
 have d:∀x:f8,aM cN (aC (aA 2) aK) [mD S rk c,D.lst<|kZ<|qN S c rk,(k:Nat),x]=.ok (lC k):=λx=>aJ rfl<|ģ a
 have t:=aL (MX a<|d x3) (g:=aA 1) rfl (CH (qN S c rk) a).1;cases b:qN S c rk k<;>rw[b]at t
 .exact⟨_,iY t rfl⟩
 have M1:=JU M k;have f:qN S c (Tj S c rk k)=qN S c rk:=FW M λm j=>ĩ M b j
 have e:=Of M1;rw[f]at e;refine⟨_,rW t<|aH (aZ<|QX M a b (d x3) rfl)<|iY (Fs (p:=false) (q:=false) (aL (aJ rfl e) rfl (wy<|wX _).1) λ_=>?_) rfl⟩
 have i:e2 Di (aA 2) (eI 3) [mD S rk c,D.lst<|kZ<|qN S c rk,(k:Nat),mD S (Tj S c rk k) c]=.ok (.bl<|decide ((k:Int)<3)):=rfl;refine(tE (q:=false) i λh3=>?_).trans (by rw[Nt])
 have l:k<3:=by have:=ck h3;omega
 have g:=QX M1 a (by rw[f];exact b) (d<|mD S (Tj S c rk k) c) (r:=aC (aA 3) aK) rfl
 rw[ĭ M l]at g;exact aL (Rm g qH) (Rm rfl qH) (ŵ _).1
def Ö(M:ya S rk c):vV [mD S rk c,.lst<|kZ<|qN S c rk]=.ok (.bl true):=by
 have n:∀(ks:ac)(d a:f8),(∀k∈ks,k<5)->∃i b,Eb (bb 2) wN (ba ks) [mD S rk c,D.lst<|kZ<|qN S c rk,d,a]=.ok (.nx [mD S rk c,D.lst<|kZ<|qN S c rk,i,b]):=by
  intro ks
  induction ks with
  |nil=>exact λd a _=>⟨d,a,rfl⟩
  |cons k ks m=>
   intro d a h;obtain⟨b,e⟩:=Õ M (h k Gb) a;obtain⟨l,j,f⟩:=m (k:Nat) b λk g=>h k<|Xb _ g
   exact⟨l,j,dI rfl e f⟩
 obtain⟨i,b,e⟩:=n (List.range 5) none none λk g=>Jd.mp g
 exact bB rfl<|aH (dN (yG (n:=5) rfl<|by omega) e)<|bH rfl
end
def law_true(ns:jp)(I:ns.length<=63):Es [.lst<|ns.map D.int]=.ok (.bl true):=by
 obtain⟨S,rk,c,z,M,y⟩:=ĝ ns;have G:=M.most;obtain⟨a,_,E⟩:=Hy ns 5 (by omega)
 obtain⟨b,_,B⟩:=Hy ns 6 (by omega)
 obtain⟨T,Xc,π,A,h,C⟩:=Τ M y a b;have v:=Of M;have q:=Of h;rw[PX C M h]at q;have u:wj S c rk=(List.range 5).map λk=>D.bl (qN S c rk k):=by
  show um _ _ _ _ _=_;rw[bR0 M,bR1 M,bR4 M,bR2 M,bR3 M];rfl
 have w:∀k,k<5->qb (.lst<|wj S c rk) (.int (k:Nat))=.ok (.bl<|qN S c rk k):=λk g=>by
  rw[u];have:k=0\/k=1\/k=2\/k=3\/k=4:=by omega
  rcases this with rfl|rfl|rfl|rfl|rfl<;>rfl
 have i:∀k,k<5->qb (.lst<|wo.map D.str) (.int (k:Nat))=.ok (jq k):=λk g=>by
  have:k=0\/k=1\/k=2\/k=3\/k=4:=by omega
  rcases this with rfl|rfl|rfl|rfl|rfl<;>rfl
 have F:jX (bb 9) sT pT [some<|.v<|.lst<|ns.map D.int,some<|.v<|.lst<|wo.map D.str,some<|.v<|.lst<|wj S c rk,none,none,none,none,some<|.v<|.lst<|Rb S,some<|.v<|.lst<|ba rk,none,none] (ba<|List.range 5)=.ok (kZ<|qN S c rk):=fF (List.range 5) λk g=>⟨_,rfl,aL rfl rfl<|w k<|Jd.mp g,λ_=>aL rfl rfl<|i k<|Jd.mp g⟩
 have turn:∀{f:am} {e:ac} (M1:ya f e c) (s:qN f c e=qN S c rk) {p x1 o x4 n m l:f8},vT [p,x1,o,some<|.v<|.lst<|kZ<|qN S c rk,x4,n,some<|.v<|mD f e c,m,l,none,none]=.ok (.nx [p,x1,o,some<|.v<|.lst<|kZ<|qN S c rk,x4,n,some<|.v<|mD f e c,m,l,none,none]):=λ{f e} M1 s=>by
  intros
  have j:=Ö M1;have t:=Υ M1;rw[s]at j t;exact iY (Fs (p:=false) (q:=false) (rF (p:=true)<|aJ (ds:=[mD f e c,.lst<|kZ<|qN S c rk]) rfl j) λ_=>rF (p:=true)<|aJ (ds:=[mD f e c,.lst<|kZ<|qN S c rk]) rfl t) rfl
 refine bB rfl<|aH (st':=[some<|.v<|.lst<|ns.map D.int,none,none,none,none,none,none,some<|.v<|.lst<|Rb S,some<|.v<|.lst<|ba rk,none,none]) ?_ ?_
 .show R.bind (mY [.lst<|ns.map D.int,.int 0,.int 4]) _=_;rw[z];rfl
 refine aH (aZ (d:=.lst<|wo.map D.str)<|cW rfl)<|aH (aZ<|aJ rfl<|Î M)<|aH (aZ<|gJ (yG (n:=5) rfl<|by omega) (by simp) F) ?_
 refine aH (aZ<|aJ (aR (sQ (j:=10) (v:=7) (xs:=Rb S) rfl (by rw[oO];omega) λd x=>by
  obtain⟨r,H,rfl⟩:=Ry x;rfl)<|aR (d:=.lst<|ba rk) rfl rfl)<|Sy M) ?_
 exact aH (aZ<|aJ (aR rfl<|aR rfl<|aR (aJ rfl E)<|aR (aJ rfl B) rfl) A)<|fW (iY (Fs (p:=false) (q:=false) (aL (aJ rfl v) rfl (wy<|wX _).1) λ_=>aL (aJ rfl q) rfl (wy<|wX _).1) rfl)<|aH (dN (oW<|cW rfl)<|dI rfl (turn M rfl)<|dI rfl (turn h<|PX C M h) rfl)<|bH rfl
end Pu
namespace Pu
open PySem PySem.Spec PyProof.Rows L2
abbrev ki:=L2.St
def qJ:Hc->D
 |.inl i=>.int i
 |.inr x=>.str x.cps.toList
structure oo(K:Frag)(C:Addr):Prop where
 ga:findIn K (.ref C) "__getattribute__"=some (some<|.builtin "BaseException.__getattribute__")
 gn:findIn K (.ref C) "__getattr__"=some none
 mb:mroIn K C (.type "BaseException")=some true
 cl:(PySem.W.clsIn K C).isSome=true
 fd:findIn K (.ref C) "__class__"=some (some<|.builtin "object.__class__")
 sp:PySem.W.specialIn K (.builtin "object.__class__") "__get__"=some (some<|.builtin "getset_descriptor.__get__")
 tk:PySem.W.takesIn K (.builtin "object.__class__")=some true
 mr:mroIn K C (.type "object")=some true
structure ExcAt(K:Frag)(c:String)(C:Addr)(bm:cr):Prop where
 ns:nsIn K mainGlobals (ofString c)=some (some<|.ref C)
 ob:∃(B newId Uq:String)(O0:cr),ExcBaseFacts B newId Uq O0/\∀h,K.In h->∃N nm q bs NK sn sub ab col dd k0 k1 k2 k3 k5 mN,
  h.get? C=some (excClassObj nm q C N bs bm NK sn sub ab col dd k0 k1 k2 k3 k5 newId)/\h.Ns N mN/\mN "__init__"=none/\OwnTail h O0 bm
 ic:oo K C
def RX(a C:Addr)(h:Heap):Prop:=∃o,h.get? a=some o/\o.cls=.ref C/\notCls o=true
structure Ak(K:Frag)(c:String)(C:Addr):Prop where
 ns:nsIn K mainGlobals (ofString c)=some (some<|.ref C)
 ic:oo K C
def ExcAt.is{K:Frag}{c:String} (h:ExcAt K c C bm):Ak K c C:=⟨h.ns,h.ic⟩
def T2(x C:Addr)(d:o0)(h:Heap):Prop:=∃o,h.get? x=some o/\o.cls=.ref C/\notCls o=true/\o.dict=d
def S2(b:Addr)(fs:ul)(h:Heap):Prop:=∃a,h.Ns1 b a/\(∀f,Hh (fs.lookup f)<|a f)/\PySem.Within a (fs.map (·.1))
def P2:List D->Bool
 |.str _::_=>true
 |_=>false
mutual
def Sb(K:Frag)(H:Hp):D->V->Prop
 |.Tb,v=>v=V.Tb
 |.bl b,v=>v=V.bl b
 |.int i,v=>v=V.int i
 |.str s,v=>v=V.str ⟨s.toArray⟩
 |.tup ds,v=>∃a vs,v=V.ref a/\H a=some (.tup vs)/\bJ K H ds vs
 |.lst ds,v=>∃a vs,v=V.ref a/\fe K H a vs/\bJ K H ds vs/\(P2 ds=true->H a=some (.lst vs))
 |.Pe t ks ds,v=>∃a vs,v=V.ref a/\((t=false/\∃d:List (Hc×V),H a=some (.dK d)/\d.map (λp=>qJ p.1)=ks/\vs=d.map (·.2))\/(t=true/\∃d:List (List Hc×V),H a=some (.dT d)/\d.map (λp=>D.tup<|p.1.map qJ)=ks/\vs=d.map (·.2)))/\bJ K H ds vs
 |.ins c ns ds,v=>∃a C e fs vs,v=V.ref a/\H a=some (.ins C e fs)/\nsIn K mainGlobals (ofString c)=some (some<|.ref C)/\fs.map (·.1)=ns.map ofString/\vs=fs.map (·.2)/\bJ K H ds vs
 |.jk c ns ds,v=>∃a g C,v=V.ref a/\H a=some (.ext g)/\(∀h,g h->RX a C h)/\Ak K c C/\∃e fs vs,((ns=[]/\vs=[])\/(g=T2 a C (some e)/\e≠a/\H e=some (.ext<|S2 e fs)/\fs.map (·.1)=ns.map ofString/\vs=fs.map (·.2)))/\bJ K H ds vs
 |.fn f,v=>∃a,v=V.ref a/\nsIn K mainGlobals (ofString f)=some (some<|.ref a)
def bJ(K:Frag)(H:Hp):List D->List V->Prop
 |[],vs=>vs=[]
 |d::ds,vs=>∃v r,vs=v::r/\Sb K H d v/\bJ K H ds r
end
def Nu{K:Frag} {xs:ls} (e:bK H H') (h:Mg K H a xs):Mg K H' a xs:=by
 rcases h with (h|⟨o,h⟩)|h
 .exact .inl (.inl<|e _ _ h)
 .exact .inl (.inr ⟨o,e _ _ h⟩)
 exact .inr h
mutual
theorem Sb.mono{K:Frag}{H l:Hp}(s:bK H l):∀{d:D}{v:V},Sb K H d v->Sb K l d v
 |.Tb,_,h=>h
 |.bl _,_,h=>h
 |.int _,_,h=>h
 |.str _,_,h=>by unfold Sb at h ⊢; exact h
 |.tup _,_,h=>by
  unfold Sb at h ⊢;obtain⟨a,vs,e,q,r⟩:=h;exact⟨a,vs,e,s _ _ q,bJ.mono s r⟩
 |.lst _,_,h=>by
  obtain⟨a,vs,e,q,r,t⟩:=h;exact⟨a,vs,e,s.seq q,bJ.mono s r,λz=>s _ _<|t z⟩
 |.Pe _ _ _,_,h=>by
  obtain⟨a,vs,e,q,r⟩:=h;refine⟨a,vs,e,?_,bJ.mono s r⟩;rcases q with ⟨g,i,c,b⟩|⟨g,i,c,b⟩
  .exact .inl ⟨g,i,s _ _ c,b⟩
  exact .inr ⟨g,i,s _ _ c,b⟩
 |.ins _ _ _,_,h=>by
  unfold Sb at h ⊢;obtain⟨a,C,k,fs,vs,e,c,b,o,n,r⟩:=h;exact⟨a,C,k,fs,vs,e,s _ _ c,b,o,n,bJ.mono s r⟩
 |.fn _,_,h=>h
 |.jk _ _ _,_,h=>by
  obtain⟨a,m,C,e,q,j,p,k,fs,vs,f,r⟩:=h;refine⟨a,m,C,e,s _ _ q,j,p,k,fs,vs,?_,bJ.mono s r⟩;rcases f with f|⟨f,x,w,u⟩
  .exact .inl f
  exact .inr ⟨f,x,s _ _ w,u⟩
theorem bJ.mono{K:Frag}{H a:Hp}(s:bK H a):∀{ds:dL}{vs:ls},bJ K H ds vs->bJ K a ds vs
 |[],_,h=>by unfold bJ at h ⊢; exact h
 |d::ds,_,h=>by
  obtain⟨v,r,e,q,t⟩:=h;exact⟨v,r,e,Sb.mono s q,bJ.mono s t⟩
end
section
variable{K:Frag}{H:Hp}
def yM:Sb K H .Tb v↔v=V.Tb:=Iff.rfl
def dJ:Sb K H (.bl b) v↔v=V.bl b:=Iff.rfl
def bY{i:Int}:Sb K H (.int i) v↔v=V.int i:=Iff.rfl
def gK{s:ac}:Sb K H (.str s) v↔v=V.str ⟨s.toArray⟩:=Iff.rfl
def Ky:Sb K H (.tup ds) v↔∃a vs,v=V.ref a/\H a=some (.tup vs)/\bJ K H ds vs:=by conv=>lhs;unfold Sb
def jU(h:Sb K H (.tup ds) v):∃a vs,v=V.ref a/\Mg K H a vs/\bJ K H ds vs:=
 let ⟨a,vs,e,q,r⟩:=Ky.mp h;⟨a,vs,e,Mg.of q,r⟩
def VF:Sb K H (.lst ds) v↔∃a vs,v=V.ref a/\fe K H a vs/\bJ K H ds vs/\(P2 ds=true->H a=some (.lst vs)):=by conv=>lhs;unfold Sb
structure ZC(K:Frag)(H:Hp)(ds:dL)(v:V):Prop where
 mp:Sb K H (.lst ds) v->∃a vs,v=V.ref a/\fe K H a vs/\bJ K H ds vs
 mpr:(∃a vs,v=V.ref a/\H a=some (.lst vs)/\bJ K H ds vs)->Sb K H (.lst ds) v
def lO:ZC K H ds v:=⟨λh=>let ⟨a,vs,e,q,r,_⟩:=VF.mp h;⟨a,vs,e,q,r⟩,λ⟨a,vs,e,h,r⟩=>VF.mpr ⟨a,vs,e,fe.of h,r,λ_=>h⟩⟩
def vY{t:Bool}{c:dL}:Sb K H (.Pe t c ds) v↔∃a vs,v=V.ref a/\((t=false/\∃b:List (Hc×V),H a=some (.dK b)/\b.map (λp=>qJ p.1)=c/\vs=b.map (·.2))\/(t=true/\∃b:List (List Hc×V),H a=some (.dT b)/\b.map (λp=>D.tup<|p.1.map qJ)=c/\vs=b.map (·.2)))/\bJ K H ds vs:=by conv=>lhs;unfold Sb
def dz{c:String}{ns:sw}:Sb K H (.ins c ns ds) v↔∃a C b fs vs,v=V.ref a/\H a=some (.ins C b fs)/\nsIn K mainGlobals (ofString c)=some (some<|.ref C)/\fs.map (·.1)=ns.map ofString/\vs=fs.map (·.2)/\bJ K H ds vs:=by conv=>lhs;unfold Sb
def bJu{c:String}{ns:sw}:Sb K H (.jk c ns ds) v↔∃a d C,v=V.ref a/\H a=some (.ext d)/\(∀h,d h->RX a C h)/\Ak K c C/\∃b fs vs,((ns=[]/\vs=[])\/(d=T2 a C (some b)/\b≠a/\H b=some (.ext<|S2 b fs)/\fs.map (·.1)=ns.map ofString/\vs=fs.map (·.2)))/\bJ K H ds vs:=by conv=>lhs;unfold Sb
def bO0{f:String}:Sb K H (.fn f) v↔∃a,v=V.ref a/\nsIn K mainGlobals (ofString f)=some (some<|.ref a):=by conv=>lhs;unfold Sb
def eN:bJ K H [] vs↔vs=[]:=Iff.rfl
def cB{d:D}:bJ K H (d::ds) vs↔∃v r,vs=v::r/\Sb K H d v/\bJ K H ds r:=by conv=>lhs;unfold bJ
def bJ.nil:bJ K H [] []:=eN.mpr rfl
def bJ.cons{d:D}{ds:dL}{v:V}{vs:ls}(h:Sb K H d v)(t:bJ K H ds vs):bJ K H (d::ds) (v::vs):=cB.mpr ⟨v,vs,rfl,h,t⟩
theorem bJ.length:∀{ds:dL}{vs:ls},bJ K H ds vs->vs.length=ds.length
 |[],_,h=>by rw[eN.mp h];rfl
 |_::ds,_,h=>by
  obtain⟨v,r,rfl,_,t⟩:=cB.mp h;rw[ze,ze,bJ.length t]
theorem bJ.get:∀{ds:dL}{vs:ls}{i:Nat}{d:D},bJ K H ds vs->ds[i]?=some d->∃v,vs[i]?=some v/\Sb K H d v
 |[],_,_,_,_,e=>by simp at e
 |_::ds,_,0,d,h,e=>by
  obtain⟨v,r,rfl,q,t⟩:=cB.mp h;simp at e;subst e;exact⟨v,rfl,q⟩
 |_::ds,_,i+1,d,h,e=>by
  obtain⟨v,r,rfl,q,t⟩:=cB.mp h;obtain⟨u,e1,e2⟩:=bJ.get t (by simpa using e)
  exact⟨u,by simpa using e1,e2⟩
theorem bJ.append:∀{ds a:dL}{vs us:ls},bJ K H ds vs->bJ K H a us->bJ K H (ds++a) (vs++us)
 |[],_,_,_,h,t=>by rwa [eN.mp h]
 |_::_,_,_,_,h,t=>by
  obtain⟨v,r,rfl,q,w⟩:=cB.mp h;exact .cons q<|bJ.append w t
theorem bJ.set{d:D}{v:V}(a:Sb K H d v):∀{ds:dL}{vs:ls}(i:Nat),bJ K H ds vs->bJ K H (ds.set i d) (vs.set i v)
 |[],_,_,h=>by rw[eN.mp h];exact .nil
 |_::_,_,0,h=>by
  obtain⟨v,r,rfl,q,w⟩:=cB.mp h;exact .cons a w
 |_::_,_,i+1,h=>by
  obtain⟨v,r,rfl,q,w⟩:=cB.mp h;exact .cons q<|bJ.set a i w
theorem bJ.take:∀{ds:dL}{vs:ls}(n:Nat),bJ K H ds vs->bJ K H (ds.take n) (vs.take n)
 |_,_,0,_=>.nil
 |[],_,_+1,h=>by rw[eN.mp h];exact .nil
 |_::_,_,n+1,h=>by
  obtain⟨v,r,rfl,q,w⟩:=cB.mp h;exact .cons q<|bJ.take n w
theorem bJ.drop:∀{ds:dL}{vs:ls}(n:Nat),bJ K H ds vs->bJ K H (ds.drop n) (vs.drop n)
 |_,_,0,h=>h
 |[],_,_+1,h=>by rw[eN.mp h];exact .nil
 |_::_,_,n+1,h=>by
  obtain⟨v,r,rfl,q,w⟩:=cB.mp h;exact bJ.drop n w
theorem bJ.rep{ds:dL}{vs:ls}(h:bJ K H ds vs):∀n:Nat,bJ K H (Pu.rep n ds) (List.replicate n vs).flatten
 |0=>.nil
 |n+1=>by
  unfold Pu.rep;rw[Wm,rq,Wm,rq];exact h.append<|bJ.rep h n
end
def hide(A:bv)(H:Hp):Hp:=λb=>if b∈A then none else H b
def kE{b:Addr}(h:b∈A):hide A H b=none:=xb h
def cU{b:Addr}(h:b∉A):hide A H b=H b:=Ta h
def bN(A:bv)(H:Hp):bK (hide A H) H:=λb o h=>by
 unfold hide at h;split at h
 .cases h
 exact h
theorem bK.hide{A:bv}{H a:Hp}(s:bK H a):bK (hide A H) (hide A a):=λb o h=>by
 unfold Pu.hide at h ⊢;split at h
 .cases h
 rename_i q;rw[Ta q];exact s b o h
def oU{d:bv} (h:∀a∈d,a∈A):bK (hide A H) (hide d H):=λb o q=>by
 by_cases c:b∈A
 .rw[kE c]at q;cases q
 rw[cU c]at q
 rwa [cU λz=>c<|h b z]
def pS(H:Hp):hide [] H=H:=by
 funext b;exact cU (by simp)
def Ou(h:a∈A):hide A (Nb H a o)=hide A H:=by
 funext b
 by_cases c:b∈A
 .rw[kE c,kE c]
 rw[cU c,cU c];exact bR λz=>c<|z ▸ h
def cL{p:Addr} (h:H p=none):bK H (Nb H p o):=λb u q=>by
 rwa [bR<|bI q h]
def nT:HO->Bool
 |.tup _=>false
 |_=>true
def SX{o:Option HO}(h:o.any nT=true):∃u,o=some u/\nT u=true:=by
 cases o with
 |none=>cases h
 |some u=>exact⟨u,rfl,h⟩
def Own(A:bv)(H:Hp):Prop:=∀a∈A,(H a).any nT=true
def Own.mono(h:Own A H)(s:bK H H'):Own A H':=λa b=>by
 obtain⟨o,e,n⟩:=SX<|h a b
 rwa [s a o e]
def Own.free(h:Own A H){p:Addr}(e:H p=none):p∉A:=λz=>by
 have q:=h p z;rw[e]at q;cases q
def jN{K:Frag} {p:Addr} (w:Own A H) (e:H p=none) (h:bJ K (hide A H) ds vs):Sb K (hide A<|Nb H p<|.lst vs) (.lst ds) (.ref p):=
 lO.mpr ⟨p,vs,rfl,(by rw[cU<|w.free e];exact cG),h.mono<|bK.hide<|cL e⟩
def KO{K:Frag} {p:Addr} (w:Own A H) (e:H p=none) (h:bJ K (hide A H) ds vs):Sb K (hide A<|Nb H p<|.tup vs) (.tup ds) (.ref p):=
 Ky.mpr ⟨p,vs,rfl,(by rw[cU<|w.free e];exact cG),h.mono<|bK.hide<|cL e⟩
def qo(K:Frag):OK->Addr->HO->List V->Prop
 |.l,_,o,vs=>o=.lst vs
 |.d t ks,_,o,vs=>(t=false/\∃b:List (Hc×V),o=.dK b/\b.map (λp=>qJ p.1)=ks/\vs=b.map (·.2))\/(t=true/\∃b:List (List Hc×V),o=.dT b/\b.map (λp=>D.tup<|p.1.map qJ)=ks/\vs=b.map (·.2))
 |.i n c ns,a,o,vs=>a=n/\∃C d fs,o=.ins C d fs/\nsIn K mainGlobals (ofString c)=some (some<|.ref C)/\fs.map (·.1)=ns.map ofString/\vs=fs.map (·.2)
def qo.rep{K:Frag} {k:OK} (e:qo K k a o vs) (h:H a=some o) (r:bJ K H ds vs):Sb K H (br k ds) (.ref a):=by
 cases k with
 |l=>subst e;exact lO.mpr ⟨a,vs,rfl,h,r⟩
 |d t ks=>
  refine vY.mpr ⟨a,vs,rfl,?_,r⟩;rcases e with ⟨b,f,rfl,q⟩|⟨b,f,rfl,q⟩
  .exact .inl ⟨b,f,h,q⟩
  exact .inr ⟨b,f,h,q⟩
 |i n c ns=>
  obtain⟨_,C,p,fs,rfl,m,j,g⟩:=e;exact dz.mpr ⟨a,C,p,fs,vs,rfl,h,m,j,g,r⟩
def qo.nt{K:Frag}{k:OK} (b:qo K k a o vs):nT o=true:=by
 cases k with
 |l=>rw[b];rfl
 |d t ks=>rcases b with ⟨_,_,rfl,_⟩|⟨_,_,rfl,_⟩ <;> rfl
 |i n c ns=>obtain⟨_,_,_,_,rfl,_⟩:=b;rfl
structure RS(K:Frag)(B A:bv)(H:Hp)(st:ua)(σ:ki):Prop where
 len:st.length=σ.length
 own:Own (A++B) H
 Mh:∀a∈A,a∉B
 val:∀(i:Nat) d,st[i]?=some (some<|.v d)->∃v,σ[i]?=some (some v)/\Sb K (hide (A++B) H) d v
 lst:∀(i:Nat) k xs,st[i]?=some (some<|.o k xs)->∃a o vs,σ[i]?=some (some<|.ref a)/\a∈A/\H a=some o/\qo K k a o vs/\bJ K (hide (A++B) H) xs vs/\
  ∀(j:Nat) k' ys,st[j]?=some (some<|.o k' ys)->σ[j]?=some (some<|.ref a)->j=i
theorem RS.mono{K:Frag}{B A:bv}{H b:Hp}{st:ua}(r:RS K B A H st σ)(s:bK H b):RS K B A b st σ where
 len:=r.len
 own:=r.own.mono s
 Mh:=r.Mh
 val:=λi d e=>let ⟨v,e1,q⟩:=r.val i d e;⟨v,e1,q.mono<|bK.hide s⟩
 lst:=λi k xs e=>let ⟨a,o,vs,e1,m,h,c,q,u⟩:=r.lst i k xs e;⟨a,o,vs,e1,m,s _ _ h,c,q.mono<|bK.hide s,u⟩
def Le(A:bv)(H:Hp)(b:bv)(a:Hp):Prop:=bK (hide A H)<|hide b a
theorem Le.refl{A:bv}{H:Hp}:Le A H A H:=bK.refl _
def Le.of(s:bK H H'):Le A H A H':=bK.hide s
theorem Le.trans{A f e:bv}{H d c:Hp}(a:Le A H f d)(b:Le f d e c):Le A H e c:=bK.trans a b
def tI(K:Frag)(B:bv)(f:Ex):TE:=λa H Q=>∃A st d,RS K B A H st a/\f st=.ok d/\∀v H',bK H H'->Sb K (hide (A++B) H') d v->Q v H'
def oV(K:Frag)(A:bv)(H:Hp)(d:D)(v:V):Prop:=
 Sb K (hide A H) d v\/∃a k o ds vs,d=br k ds/\v=V.ref a/\H a=some o/\qo K k a o vs/\bJ K (hide A H) ds vs
theorem oV.mono{K:Frag}{A:bv}{H b:Hp}{d:D}{v:V}(s:bK H b)(h:oV K A H d v):oV K A b d v:=by
 rcases h with h|⟨a,k,o,ds,vs,e1,e2,e,c,q⟩
 .exact .inl (h.mono<|bK.hide s)
 exact .inr ⟨a,k,o,ds,vs,e1,e2,s _ _ e,c,q.mono<|bK.hide s⟩
def tP(K:Frag)(B:bv)(f:Ex):TE:=λa H Q=>∃A st d,RS K B A H st a/\f st=.ok d/\∀v H',bK H H'->oV K (A++B) H' d v->Q v H'
def tA(K:Frag)(B:bv)(f:Ee):TA:=λa H Q=>∃A st ds,RS K B A H st a/\f st=.ok ds/\∀vs H',bK H H'->bJ K (hide (A++B) H') ds vs->Q vs H'
def tT(K:Frag)(B:bv)(f:Ex):TT:=λa H Q=>∃A st b,RS K B A H st a/\f st=.ok (.bl b)/\∀H',bK H H'->Q b H'
def tO(K:Frag)(B:bv)(f:Br):TO:=λa H Q=>∃A st o,RS K B A H st a/\f st=.ok o/\∀H',bK H H'->Q o H'
def KA(K:Frag)(B A:bv)(H:Hp)(r:Fl)(c:Ends):Prop:=match r with
 |.nx st'=>∀a b H',Le A H a H'->RS K B a H' st' b->c.nx b H'
 |.bk st'=>∀a b H',Le A H a H'->RS K B a H' st' b->c.bk b H'
 |.ct st'=>∀a b H',Le A H a H'->RS K B a H' st' b->c.ct b H'
 |.rt d=>∀a v H',Le A H a H'->Sb K (hide (a++B) H') d v->c.rt v H'
def KA.mono{K:Frag} {r:Fl} (l:Le A H A1 H1) (p:KA K B A H r Dn):KA K B A1 H1 r Dn:=by
 cases r with
 |nx st=>exact λb c H' a=>p b c H'<|l.trans a
 |bk st=>exact λb c H' a=>p b c H'<|l.trans a
 |ct st=>exact λb c H' a=>p b c H'<|l.trans a
 |rt d=>exact λb v H' a=>p b v H'<|l.trans a
def tS(K:Frag)(B:bv)(b:Bd):TS:=λc a H=>∃A st r,RS K B A H st a/\b st=.ok r/\KA K B A H r c
def dt(K:Frag)(B A:bv)(H:Hp)(J:It)(ds:dL):Prop:=∀b H',Le A H b H'->Own (b++B) H'->∀(i:Nat),
 (∀d,ds[i]?=some d->J.go i H'/\∀x a,J.Bu i H' x a->bK H' a/\Sb K (hide (b++B) a) d x)/\(ds.length<=i->J.stop i H')
def vk(K:Frag)(B:bv)(f:Xl):TI:=λa H R=>∃A st ds,RS K B A H st a/\f st=.ok ds/\∀J H',bK H H'->dt K B A H' J ds->R J H'
def tG(K:Frag)(B:bv)(g:Tg):TG:=λv b H Q=>∃A st d s1,RS K B A H st b/\Sb K (hide (A++B) H) d v/\g d st=.ok s1/\∀a,RS K B A H s1 a->Q a H
section
def cQ{t t':TE}(h:PE X e t)(m:∀a H Q,t' a H Q->t a H Q):PE X e t':=λaa s a H Q I q=>h aa s a H Q I<|m a H Q q
def fI{t t':TT}(h:PT X e t)(m:∀a H Q,t' a H Q->t a H Q):PT X e t':=λaa s a H Q I q=>h aa s a H Q I<|m a H Q q
def IW{t t':TT}(h:PW X e t)(m:∀a H Q,t' a H Q->t a H Q):PW X e t':=λw aa s a H Q I q=>h w aa s a H Q I<|m a H Q q
def JW{t t':TA}(h:PA X es t)(m:∀a H Q,t' a H Q->t a H Q):PA X es t':=λpos aa s a H Q I q=>h pos aa s a H Q I<|m a H Q q
def KW{e:Option Expr}{t t':TO}(h:PO X e t)(m:∀a H Q,t' a H Q->t a H Q):PO X e t':=λaa s a H Q I q=>h aa s a H Q I<|m a H Q q
def lQ{st:Stmt}{t t':TS}(h:PS X st t)(m:∀D a H,t' D a H->t D a H):PS X st t':=λaa s a H D I q=>h aa s a H D I<|m D a H q
def Pr{st:List Stmt}{t t':TS}(h:jf X st t)(m:∀D a H,t' D a H->t D a H):jf X st t':=λaa s a H D I q=>h aa s a H D I<|m D a H q
def LW{t t':TG}(h:PG X e t)(m:∀v a H Q,t' v a H Q->t v a H Q):PG X e t':=λaa s a H v u Q I r q=>h aa s a H v u Q I r<|m v a H Q q
def gI{t t':TI}(h:L2.PI X tg e t)(m:∀a H R,t' a H R->t a H R):L2.PI X tg e t':=λaa s a H R I q=>h aa s a H R I<|m a H R q
end
section
variable {a b:Expr} {h:Ex}
def aD(f:X.N[i]?=some x:=by rfl)(c:Rh X.env.scope x:=by exact Wj rfl)(a:Bf x:=by decide)
  (g:Vj x:=by decide):PE X (.Name x pos) (tI X.K B<|aA i):=by
 refine cQ (uT f c a g) ?_
 rintro h H Q ⟨A,st,d,b,a,q⟩;unfold aA at a;split at a
 .rename_i j e;cases a;obtain⟨v,e1,r⟩:=b.val i _ e;exact⟨v,e1,q v H (bK.refl _) r⟩
 cases a
end
end Pu
variable{σ τ:Pu.ki}
namespace Pu
open PySem PySem.Spec PyProof.Rows L2
section
variable{X:Cx}{B:bv}{a b e:Expr}{f g:Ex}{pos:Pos}
def tu(h:PE X e (tC v))(r:∀H,Sb X.K H d v):PE X e (tI X.K B<|eC d):=cQ h (by
 rintro σ H Q ⟨A,st,c,b,a,q⟩;cases a;exact q v H (bK.refl _)<|r _)
def dC{i:Int}:PE X (.Constant (.int i) j pos) (tI X.K B<|eC<|.int i):=tu bM1 λ_=>bY.mpr rfl
def tK{q:Bool}:PE X (.Constant (.bool q) j pos) (tI X.K B<|eC<|.bl q):=tu bPh λ_=>dJ.mpr rfl
def Im:PE X (.Constant .none j pos) (tI X.K B<|eC .Tb):=tu bM2 λ_=>yM.mpr rfl
def uR(s:ac)(a:x=⟨s.toArray⟩:=by first|rfl|decide|decide+kernel):PE X (.Constant (.str x) j pos) (tI X.K B<|eC<|.str s):=tu bM3 λ_=>gK.mpr (by rw[a])
def Hz{y:Str}{t:Tok}(s:ac)(b:X.mg x=some (.str y t))(c:Gl X x:=by rfl)(a:y=⟨s.toArray⟩:=by first|rfl|decide|decide+kernel)(d:Bf x:=by decide):PE X (.Name x pos) (tI X.K B<|eC<|.str s):=
 tu (ZS (v:=.str y) c b ⟨t,rfl⟩ d) λ_=>gK.mpr (by rw[a])
def MW{i:Int}{t:Tok}(a:X.mg x=some (.int i t))(b:Gl X x:=by rfl)(c:Bf x:=by decide):PE X (.Name x pos) (tI X.K B<|eC<|.int i):=
 tu (ZS (v:=.int i) b a ⟨t,rfl⟩ c) λ_=>bY.mpr rfl
def Ca(h:PE X e (tI X.K B f)):PE X e (tP X.K B f):=cQ h (by
 rintro σ H Q ⟨A,st,d,a,b,q⟩;exact⟨A,st,d,a,b,λv H' s r=>q v H' s<|.inl r⟩)
def nQ(j:X.N[i]?=some x:=by rfl)(g:Rh X.env.scope x:=by exact Wj rfl)(b:Bf x:=by decide)
  (l:Vj x:=by decide):PE X (.Name x pos) (tP X.K B<|mR i):=by
 refine cQ (uT j g b l) ?_
 rintro σ H Q ⟨A,st,d,c,b,q⟩;unfold mR at b;split at b
 .rename_i n e;cases b;obtain⟨v,e1,r⟩:=c.val i _ e;exact⟨v,e1,q v H (bK.refl _)<|.inl r⟩
 .rename_i k xs e;cases b;obtain⟨a,o,vs,e1,m,h,f,r,_⟩:=c.lst i _ _ e;exact⟨_,e1,q _ H (bK.refl _)<|.inr ⟨a,_,o,xs,vs,rfl,rfl,h,f,r⟩⟩
 cases b
section
variable{K:Frag}
theorem oV.Tb(h:oV K A H .Tb v):v=V.Tb:=by
 rcases h with h|⟨_,k,_,_,_,e,_⟩
 .exact yM.mp h
 cases k<;>cases e
theorem oV.bl{q:Bool}(h:oV K A H (.bl q) v):v=V.bl q:=by
 rcases h with h|⟨_,k,_,_,_,e,_⟩
 .exact dJ.mp h
 cases k<;>cases e
theorem oV.int{i:Int}(h:oV K A H (.int i) v):v=V.int i:=by
 rcases h with h|⟨_,k,_,_,_,e,_⟩
 .exact bY.mp h
 cases k<;>cases e
theorem oV.str{s:ac}(h:oV K A H (.str s) v):v=V.str ⟨s.toArray⟩:=by
 rcases h with h|⟨_,k,_,_,_,e,_⟩
 .exact gK.mp h
 cases k<;>cases e
theorem oV.tup{ds:dL}(h:oV K A H (.tup ds) v):∃a vs,v=V.ref a/\Mg K H a vs/\bJ K (hide A H) ds vs:=by
 rcases h with h|⟨_,k,_,_,_,e,_⟩
 .obtain⟨a,vs,e,q,r⟩:=jU h;exact⟨a,vs,e,Nu (bN _ _) q,r⟩
 cases k<;>cases e
theorem oV.lst{ds:dL}(h:oV K A H (.lst ds) v):∃a vs,v=V.ref a/\fe K H a vs/\bJ K (hide A H) ds vs:=by
 rcases h with h|⟨a,k,o,c,vs,e,e2,h,b,r⟩
 .obtain⟨a,vs,e,q,r⟩:=lO.mp h;exact⟨a,vs,e,(bN _ _).seq q,r⟩
 cases k<;>cases e;subst b;exact⟨a,vs,e2,fe.of h,r⟩
end
def Th(K:Frag)(r:R2)(o:Wf):Prop:=∀(A:bv)(H:Hp)(x y d:D)(v u:V)(Q:VK),Own A H->oV K A H x v->oV K A H y u->o x y=.ok d->
 (∀w H',bK H H'->Sb K (hide A H') d w->Q w H')->r v u H Q
def Iz{r:R2}{o:Wf}(s:Th X.K r o) {Q:VK} (h:tI X.K B (e2 o f g) σ H Q):Tx r (tP X.K B f) (tP X.K B g) σ H Q:=by
 obtain⟨A,st,d,b,m,q⟩:=h;obtain⟨x,l,p⟩:=R.ja m;obtain⟨y,k,n⟩:=R.ja p;exact⟨A,st,x,b,l,λv H1 s1 i=>⟨A,st,y,b.mono s1,k,λu t a e=>s _ t x y d v u Q (b.own.mono<|s1.trans a) (i.mono a) e n λw H' c j=>q w H' (s1.trans<|a.trans c) j⟩⟩
def Lk{op:Operator}{r:R2}{o:Wf}(c:Ge X (binaryOp op) r)(i:Th X.K r o)(e:PE X a (tP X.K B f))(d:PE X b (tP X.K B g)):PE X (.BinOp a op b pos) (tI X.K B<|e2 o f g):=
 cQ (gX c e d) λ_ _ _ h=>Iz i h
def jF{r:R2}{o:Wf}(c:Ge X (compareOp op) r)(j:Th X.K r o)(i:PE X a (tP X.K B f))(e:PE X b (tP X.K B g))(d:behindInMarks op b=false:=by first|exact DV _|rfl):PE X (.Compare a [op] [b] pos) (tI X.K B<|e2 o f g):=
 cQ (Ř c i e d) λ_ _ _ h=>Iz j h
def KY{f:Ex} {Q:Da} (h:tT X.K B f σ H Q):tI X.K B f σ H λx a=>∃k,x=.bl k/\Q k a:=by
 obtain⟨A,st,k,b,c,q⟩:=h;exact⟨A,st,.bl k,b,c,λv a s r=>⟨k,dJ.mp r,q a s⟩⟩
def bQ{r:R2}{o:Wf}(c:Ge X (compareOp op) r)(j:Th X.K r o)(i:PE X a (tP X.K B f))(e:PE X b (tP X.K B g))(d:behindInMarks op b=false:=by first|exact DV _|rfl):PT X (.Compare a [op] [b] pos) (tT X.K B<|e2 o f g):=
 fI (ř c i e d) λ_ _ _ h=>Iz j<|KY h
def jG{f:Ex}(h:PE X e (tI X.K B f))(he:∀whole,isTrue e X.env whole=(do let v <- whole;standAt e.pos;holding [v] (truthy v)):=by intro _;rfl):PT X e (tT X.K B f):=
 fI (bM4 h he) λ_ _ _ q=>KY q
def yN{K:Frag}{g:Int->Int->D} {o:Wf} (c:∀H i j,Sb K H (g i j)<|gv i j) (f:∀x y d,o x y=.ok d->∃i j,x=.int i/\y=.int j/\d=g i j):Th K (Ai gv) o:=by
 intro A H x y d v u Q w b a e q;obtain⟨i,j,rfl,rfl,rfl⟩:=f x y d e;exact⟨i,j,b.int,a.int,q _ H (bK.refl _)<|c _ _ _⟩
def Nv{K:Frag}{C:Int->Int->Prop}{g:Int->Int->D} {o:Wf} (f:∀H i j,Sb K H (g i j)<|gv i j) (h:∀x y d,o x y=.ok d->∃i j,x=.int i/\y=.int j/\C i j/\d=g i j):Th K (rI C gv) o:=by
 intro A H x y d v u Q w b a e q;obtain⟨i,j,rfl,rfl,c,rfl⟩:=h x y d e;exact⟨i,j,b.int,a.int,c,q _ H (bK.refl _)<|f _ _ _⟩
def Xv(h:PE X a (tP X.K B f))(c:PE X b (tP X.K B g)):PE X (.BinOp a .Sub b pos) (tI X.K B<|e2 Lm f g):=
 Lk bMh (yN (λ_ _ _=>bY.mpr rfl) λx y d e=>by
  unfold Lm at e;split at e
  .cases e;exact⟨_,_,rfl,rfl,rfl⟩
  cases e) h c
def Ov(i:PE X a (tP X.K B f))(h:PE X b (tP X.K B g)):PE X (.BinOp a .FloorDiv b pos) (tI X.K B<|e2 Ek f g):=
 Lk Ŗ (Nv (λ_ _ _=>bY.mpr rfl) λx y d e=>by
  unfold Ek at e;split at e
  .obtain⟨c,e⟩:=aV e;cases e;exact⟨_,_,rfl,rfl,c,rfl⟩
  cases e) i h
def pN(i:PE X a (tP X.K B f))(h:PE X b (tP X.K B g)):PE X (.BinOp a .Mod b pos) (tI X.K B<|e2 oZ f g):=
 Lk bMj (Nv (λ_ _ _=>bY.mpr rfl) λx y d e=>by
  unfold oZ at e;split at e
  .obtain⟨c,e⟩:=aV e;cases e;exact⟨_,_,rfl,rfl,c,rfl⟩
  cases e) i h
def JI(i:PE X a (tP X.K B f))(h:PE X b (tP X.K B g)):PE X (.BinOp a .Pow b pos) (tI X.K B<|e2 Fo f g):=
 Lk bMk (Nv (λ_ _ _=>bY.mpr rfl) λx y d e=>by
  unfold Fo at e;split at e
  .obtain⟨c,e⟩:=aV e;cases e;exact⟨_,_,rfl,rfl,c,rfl⟩
  cases e) i h
def bRc(K:Frag):R2:=λx y H Q=>∃l b xs a,x=.ref l/\y=.ref b/\fe K H l xs/\fe K H b a/\xs.length+a.length<=sizeLine/\∀p,H p=none->Q (.ref p) (Nb H p<|.lst<|xs++a)
theorem bJw:Ge X (binaryOp .Add) (bRc X.K):=by
 intro aa s σ H x y v u Q I t p h;obtain⟨l,b,xs,K,rfl,rfl,C,D,O,q⟩:=h;cases t;cases p;obtain⟨e,r,⟨⟨G,F,i,m⟩,n,g,B,_,A⟩,z⟩:=I.list C;obtain⟨d,f,⟨⟨j,J,data2,a⟩,w,k,o,_,c⟩,L⟩:=I.list D;subst B A o c;have N:=r.length;have M:=f.length;refine concat_meets ⟨_,g,rfl⟩ ⟨_,k,rfl⟩ noFill_list_add seq_list_add PySem.F.slot_list_add PySem.F.entry_list_add (PySem.F.args_list_add_2 _ _) (list_addW l b e.toArray d.toArray n w F J m a<|by simp;lia) ⟨g,k,?_⟩
 have E:e.toArray++d.toArray=(e++d).toArray:=by simp
 rw[E];exact⟨.ref _,_,I.Wq (r.append f) (by rw[af];omega),rfl,q _ I.fresh⟩
def bJx(x y:ac):(⟨x.toArray⟩:Str)++(⟨y.toArray⟩:Str)=⟨(x++y).toArray⟩:=by
 show Str.append _ _=_;unfold Str.append;simp
def str_len(x:ac):(⟨x.toArray⟩:Str).length=x.length:=by simp[Str.length]
def lim(h:n<=big):n<=sizeLine:=ye (by rwa [qX]at h) (by decide)
def lG(r:PE X a (tP X.K B f))(o:PE X b (tP X.K B g)):PE X (.BinOp a .Add b pos) (tI X.K B<|e2 lB f g):=by
 refine Lk (bMg.or<|μ.or bJw) ?_ r o;intro A H x y d v u Q w i h e q;cases x<;>cases y<;>first|(cases e;done)|skip
 .cases e;exact .inl ⟨_,_,i.int,h.int,q _ H (bK.refl _)<|bY.mpr rfl⟩
 .obtain⟨c,e⟩:=aV e;cases e;exact .inr<|.inl ⟨_,_,i.str,h.str,lim c,q _ H (bK.refl _)<|gK.mpr<|by rw[bJx]⟩
 obtain⟨c,e⟩:=aV e;cases e;obtain⟨l,xs,e1,t,k⟩:=i.lst;obtain⟨m,ys,e2,s,j⟩:=h.lst;exact .inr<|.inr ⟨l,m,xs,ys,e1,e2,t,s,by rw[(k.length),(j.length)];exact lim c,λp n=>q _ _ (cL n)<|jN w n<|k.append j⟩
def jI{K:Frag}:Th K (Ai λi j=>.bl<|decide (i<=j)) ip:=yN (λ_ _ _=>dJ.mpr rfl) λx y d e=>by
 unfold ip at e;split at e
 .cases e;exact⟨_,_,rfl,rfl,rfl⟩
 cases e
def xo{K:Frag}:Th K (Ai λi j=>.bl<|decide (j<i)) eh:=yN (λ_ _ _=>dJ.mpr rfl) λx y d e=>by
 unfold eh at e;split at e
 .cases e;exact⟨_,_,rfl,rfl,rfl⟩
 cases e
def Jz{K:Frag}:Th K (Ai λi j=>.bl<|decide (j<=i)) Cn:=yN (λ_ _ _=>dJ.mpr rfl) λx y d e=>by
 unfold Cn at e;split at e
 .cases e;exact⟨_,_,rfl,rfl,rfl⟩
 cases e
theorem oV.ref{K:Frag}{A:bv}{H:Hp}{d:D}{v:V}(h:oV K A H d v)(j:d≠.Tb)(g:∀b,d≠.bl b)(f:∀i,d≠.int i)(c:∀s,d≠.str s):∃a,v=V.ref a:=by
 rcases h with h|⟨a,_,_,_,_,_,e,_⟩
 .cases d with
  |Tb=>exact(j rfl).elim
  |bl b=>exact(g b rfl).elim
  |int i=>exact(f i rfl).elim
  |str s=>exact(c s rfl).elim
  |tup _=>obtain⟨a,_,e,_⟩:=jU h;exact⟨a,e⟩
  |lst _=>obtain⟨a,_,e,_⟩:=lO.mp h;exact⟨a,e⟩
  |Pe _ _ _=>obtain⟨a,_,e,_⟩:=vY.mp h;exact⟨a,e⟩
  |ins _ _ _=>obtain⟨a,_,_,_,_,e,_⟩:=dz.mp h;exact⟨a,e⟩
  |jk _ _ _=>obtain⟨a,_,_,e,_⟩:=bJu.mp h;exact⟨a,e⟩
  |fn _=>obtain⟨a,e,_⟩:=bO0.mp h;exact⟨a,e⟩
 exact⟨a,e⟩
def MU{K:Frag} (h:oV K A H d v):decide (v=V.Tb)=Qi d:=by
 cases d with
 |Tb=>rw[h.Tb];rfl
 |bl _=>rw[h.bl];rfl
 |int _=>rw[h.int];rfl
 |str _=>rw[h.str];rfl
 |tup _=>obtain⟨a,vs,e,_⟩:=h.tup;rw[e];rfl
 |lst _=>obtain⟨a,vs,e,_⟩:=h.lst;rw[e];rfl
 |Pe _ _ _=>obtain⟨a,e⟩:=h.ref (by intro z;cases z) (by intro _ z;cases z) (by intro _ z;cases z) (by intro _ z;cases z);rw[e];rfl
 |ins _ _ _=>obtain⟨a,e⟩:=h.ref (by intro z;cases z) (by intro _ z;cases z) (by intro _ z;cases z) (by intro _ z;cases z);rw[e];rfl
 |jk _ _ _=>obtain⟨a,e⟩:=h.ref (by intro z;cases z) (by intro _ z;cases z) (by intro _ z;cases z) (by intro _ z;cases z);rw[e];rfl
 |fn _=>obtain⟨a,e⟩:=h.ref (by intro z;cases z) (by intro _ z;cases z) (by intro _ z;cases z) (by intro _ z;cases z);rw[e];rfl
def İ(n:Nat)(i:Int):L2.vg n i=Pu.vg n i:=rfl
theorem bJ.je{K:Frag}{H:Hp}{ds:dL}{vs:ls}{i:Int}{d:D}(r:bJ K H ds vs)(e:Pu.je ds i=some d):∃v,L2.je vs i=some v/\Sb K H d v:=by
 unfold Pu.je at e;unfold L2.je;rw[r.length,İ];cases h:Pu.vg ds.length i with
 |none=>rw[h]at e;cases e
 |some j=>
  rw[h]at e;exact r.get e
def bq{o:Option α}{a:α}(h:yi o=.ok a):o=some a:=by
 cases o with
 |none=>cases h
 |some b=>cases h;rfl
def bO1{K:Frag}{x:D}(o:EY x=false)(A:bv)(H:Hp)(p y d:D)(v u:V)(Q:VK)(w:Own A H)(b:oV K A H x v)(a:oV K A H y u)(e:qb x y=.ok d)(q:∀w m,bK H m->Sb K (hide A m) d w->Q w m):ZL K v u H Q:=by
 cases x<;>first|(cases o;done)|skip
 all_goals cases y
 all_goals first|(cases e)|skip
 .rename_i s i;obtain⟨n,e⟩:=aV e;cases h:Pu.je s i with
  |none=>rw[h]at e;cases e
  |some c=>
   rw[h]at e;cases e;refine .inr<|.inr ⟨_,i,c,b.str,a.int,lim n,?_,q _ H (bK.refl _)<|gK.mpr rfl⟩
   rwa [List.toList_toArray]
 .rename_i ds i;have h:=bq<|e;obtain⟨l,xs,e1,k,g⟩:=b.tup;obtain⟨z,j,f⟩:=g.je h;exact .inr<|.inl ⟨l,xs,i,z,e1,a.int,k,j,q _ H (bK.refl _) f⟩
 rename_i ds i;have h:=bq<|e;obtain⟨l,xs,e1,k,g⟩:=b.lst;obtain⟨z,j,f⟩:=g.je h;exact .inl ⟨l,xs,i,z,e1,a.int,k,j,q _ H (bK.refl _) f⟩
def vD(h:PE X a (tI X.K B f)):PE X (.BoolOp .And [a] pos) (tI X.K B f):=BV h
def TX(h:PE X a (tI X.K B f)):PE X (.BoolOp .Or [a] pos) (tI X.K B f):=BV h
def yO{rest:List Expr}(o:PE X a (tI X.K B f))(n:PE X (.BoolOp .And (b::rest) pos) (tI X.K B g)):PE X (.BoolOp .And (a::b::rest) pos) (tI X.K B<|qY f g):=by
 refine cQ (bM8 o n) ?_
 rintro σ H Q ⟨A,st,d,c,m,q⟩;obtain⟨x,l,p⟩:=R.ja m;obtain⟨k,rfl,e⟩:=yV p;refine⟨A,st,_,c,l,λv H1 s1 i=>⟨k,dJ.mp i,?_⟩⟩
 cases k with
 |true=>exact⟨A,st,d,c.mono s1,e,λw H' h j=>q w H' (s1.trans h) j⟩
 |false=>cases e;exact q _ H1 s1<|dJ.mpr rfl
def LY{rest:List Expr}(o:PE X a (tI X.K B f))(n:PE X (.BoolOp .Or (b::rest) pos) (tI X.K B g)):PE X (.BoolOp .Or (a::b::rest) pos) (tI X.K B<|Ki f g):=by
 refine cQ (bPl o n) ?_
 rintro σ H Q ⟨A,st,d,c,m,q⟩;obtain⟨x,l,p⟩:=R.ja m;obtain⟨k,rfl,e⟩:=yV p;refine⟨A,st,_,c,l,λv H1 s1 i=>⟨k,dJ.mp i,?_⟩⟩
 cases k with
 |true=>cases e;exact q _ H1 s1<|dJ.mpr rfl
 |false=>exact⟨A,st,d,c.mono s1,e,λw H' h j=>q w H' (s1.trans h) j⟩
def Yv(h:PE X a (tI X.K B f)):PE X (.UnaryOp .Not a pos) (tI X.K B<|uU f):=by
 refine cQ (bM9 h) ?_
 rintro σ H Q ⟨A,st,d,b,g,q⟩;obtain⟨x,e,j⟩:=R.ja g;obtain⟨k,rfl,i⟩:=yV j;cases i;exact⟨A,st,_,b,e,λv H1 s1 c=>⟨k,dJ.mp c,q _ H1 s1<|dJ.mpr rfl⟩⟩
def Xr(h:PT X a (tT X.K B f)):PW X (.BoolOp .And [a] pos) (tT X.K B f):=Œ h
def Zv(h:PT X a (tT X.K B f)):PW X (.BoolOp .Or [a] pos) (tT X.K B f):=bM5 h
def kq{rest:List Expr}(m:PT X a (tT X.K B f))(l:PW X (.BoolOp .And (b::rest) pos) (tT X.K B g)):PW X (.BoolOp .And (a::b::rest) pos) (tT X.K B<|qY f g):=by
 refine IW (bM6 m l) ?_
 rintro σ H Q ⟨A,st,d,c,j,q⟩;obtain⟨x,i,n⟩:=R.ja j;obtain⟨k,rfl,e⟩:=yV n;refine⟨A,st,k,c,i,λH1 s1=>?_⟩
 cases k with
 |true=>exact⟨A,st,d,c.mono s1,e,λH' h=>q H'<|s1.trans h⟩
 |false=>cases e;exact q H1 s1
def mw{rest:List Expr}(m:PT X a (tT X.K B f))(l:PW X (.BoolOp .Or (b::rest) pos) (tT X.K B g)):PW X (.BoolOp .Or (a::b::rest) pos) (tT X.K B<|Ki f g):=by
 refine IW (bPi m l) ?_
 rintro σ H Q ⟨A,st,d,c,j,q⟩;obtain⟨x,i,n⟩:=R.ja j;obtain⟨k,rfl,e⟩:=yV n;refine⟨A,st,k,c,i,λH1 s1=>?_⟩
 cases k with
 |true=>cases e;exact q H1 s1
 |false=>exact⟨A,st,d,c.mono s1,e,λH' h=>q H'<|s1.trans h⟩
def Bj(g:PT X a (tT X.K B f)):PT X (.UnaryOp .Not a pos) (tT X.K B<|uU f):=by
 refine fI (bM7 g) ?_
 rintro σ H Q ⟨A,st,d,b,e,q⟩;obtain⟨x,c,i⟩:=R.ja e;obtain⟨k,rfl,h⟩:=yV i;cases h;exact⟨A,st,k,b,c,λH1 s1=>q H1 s1⟩
def Ls{c:Expr}{t:Ex}(n:PT X c (tT X.K B t))(p:PE X a (tI X.K B f))(o:PE X b (tI X.K B g)):PE X (.IfExp c a b pos) (tI X.K B<|Oj t f g):=by
 refine cQ (ú n p o) ?_
 rintro σ H Q ⟨A,st,d,h,m,q⟩;obtain⟨x,l,r⟩:=R.ja m;obtain⟨k,rfl,j⟩:=yV r;refine⟨A,st,k,h,l,λH1 s1=>?_⟩
 cases k with
 |true=>exact⟨A,st,d,h.mono s1,j,λw H' e i=>q w H' (s1.trans e) i⟩
 |false=>exact⟨A,st,d,h.mono s1,j,λw H' e i=>q w H' (s1.trans e) i⟩
def aG:PA X [] (tA X.K B aK):=JW iZ (by
 rintro σ H Q ⟨A,st,d,b,a,q⟩;cases a;exact q [] H (bK.refl _) .nil)
def aB{r:Ee}(k:PE X e (tI X.K B f))(i:PA X es (tA X.K B r))(h:Lf e es X.env:=by rfl):PA X (e::es) (tA X.K B<|aC f r):=by
 refine JW (dD k i h) ?_
 rintro σ H Q ⟨A,st,ds,b,j,q⟩;obtain⟨x,g,m⟩:=R.ja j;obtain⟨xs,n,l⟩:=R.ja m;cases l;exact⟨A,st,x,b,g,λv H1 s1 d=>⟨A,st,xs,b.mono s1,n,λvs o a c=>q _ o (s1.trans a)<|.cons (d.mono<|bK.hide a) c⟩⟩
def Co{r:Ee} (h:PA X es (tA X.K B r)):PE X (.Tuple es x1 pos) (tI X.K B<|aj r):=by
 refine cQ (bMu h) ?_
 rintro σ H Q ⟨A,st,d,a,g,q⟩;obtain⟨xs,f,j⟩:=R.ja g;obtain⟨c,i⟩:=aV j;cases i;exact⟨A,st,xs,a,f,λvs H1 s1 b=>⟨by rw[b.length];exact lim c,λp e=>q _ _ (s1.trans<|cL e)<|KO (a.own.mono s1) e b⟩⟩
def mO{r:Ee}(h:PA X es (tA X.K B r)):PE X (.List es pos) (tI X.K B<|fJ r):=by
 refine cQ (NH h) ?_
 rintro σ H Q ⟨A,st,d,a,g,q⟩;obtain⟨xs,f,j⟩:=R.ja g;obtain⟨c,i⟩:=aV j;cases i;exact⟨A,st,xs,a,f,λvs H1 s1 b=>⟨by rw[b.length];exact lim c,λp e=>q _ _ (s1.trans<|cL e)<|jN (a.own.mono s1) e b⟩⟩
def Mb(K:Frag)(a:Nat)(p:bn):Sp:=λvs H Q _=>∃A ds d,Own A H/\bJ K (hide A H) ds vs/\ds.length=a/\p ds=.ok d/\∀v H',bK H H'->Sb K (hide A H') d v->Q v H'
def bO2{k:Nat} {r:Ee} (F:xa X.prog X.w X.K X.mg X.base zb k fa fd ps (Mb X.K np p)) (i:Ub k X.A) (j:X.mg x=some (.ref fa))
  (m:keepIn X.K (.ref fa)=true) (s:Binds X.K fd ps []) (l:∀ds d,p ds=.ok d->ds.length=np) (t:PA X (e::es) (tA X.K B r)) (n:Gl X x:=by rfl) (g:Bf x:=by decide)
  (he:Lf e es X.env:=by rfl) (Af:Si pos es X.env:=by rfl) :
  PE X (.Call (.Name x p0) (e::es) [] pos) (tI X.K B<|aM p r):=by
 refine cQ (IG F i n j m s .nil gq t g he Af) ?_
 rintro σ H Q ⟨A,st,d,a,o,q⟩;obtain⟨xs,h,b⟩:=R.ja o;refine⟨A,st,xs,a,h,λvs H1 s1 r1=>?_⟩
 show Mb X.K np p _ H1 Q E0;rw[dh];exact⟨A++B,xs,d,a.own.mono s1,r1,l _ _ b,b,λw H' c f=>q w H' (s1.trans c) f⟩
end
def Qr(a b:Hc):bg (qJ a) (qJ b)=decide (a=b):=by
 cases a with
 |inl i=>
  cases b with
  |inl j=>unfold qJ bg;rw[pV]
  |inr y=>unfold qJ bg;rw[rV]
 |inr x=>
  cases b with
  |inl j=>unfold qJ bg;rw[AV]
  |inr y=>
   unfold qJ bg;rw[qV,To,Xk,Cf];constructor
   .intro h;cases x;congr 1;exact ext' h
   rintro rfl;rfl
theorem qS:∀(a b:List Hc),mq (a.map qJ) (b.map qJ)=decide (a=b)
 |[],[]=>by unfold mq;simp
 |[],_::_=>by unfold mq;simp
 |_::_,[]=>by unfold mq;simp
 |x::a,y::b=>by
  rw[Mf,Mf];unfold mq;rw[Qr,(qS a b),To,fj,Cf,Cf,Cf,List.cons.injEq]
def rS(a b:List Hc):bg (.tup<|a.map qJ) (.tup<|b.map qJ)=decide (a=b):=by
 rw[<-qS]
 conv=>lhs;unfold bg
section
variable{κ:Type}[DecidableEq κ]{E:κ->D}(hE:∀a b,bg (E a) (E b)=decide (a=b)){K:Frag}{H:Hp}
include hE
theorem DH(k:κ):∀(b:List (κ×V)) (ds:dL),bJ K H ds (b.map (·.2))->(∀d,ni (b.map λp=>E p.1) ds (E k)=some d->∃v,yU b k=some v/\Sb K H d v)/\(yU b k).isSome=xW (b.map λp=>E p.1) (E k)
 |[],ds,r=>⟨λd h=>by cases ds<;>simp[ni]at h,rfl⟩
 |(a,v)::b,ds,r=>by
  cases ds with
  |nil=>have:=eN.mp r;simp at this
  |cons d ds=>
   obtain⟨m,n,e,l,j⟩:=cB.mp r;injection e with e1 e2
   subst e1 e2;obtain⟨i,g⟩:=DH k b ds j
   by_cases f:a=k
   .have c:bg (E a) (E k)=true:=by rwa [hE,Cf]
    refine⟨λd' h=>?_,?_⟩
    .unfold ni at h;rw[Mf,xw,UZ (by simpa using c)]at h
     cases h;exact⟨v,Iu f,l⟩
    rw[Iu f];unfold xW;rw[Mf,ap,c];rfl
   have c:bg (E a) (E k)=false:=by rwa [hE,SA]
   refine⟨λd' h=>?_,?_⟩
   .rw[Ju f];refine i d' ?_
    unfold ni at h ⊢
    rwa [Mf,xw,VZ (by simpa using c)]at h
   rw[Ju f,g];unfold xW;rw[Mf,ap,c];rfl
def uS(k:κ)(a:List (κ×V)):(a.any λb=>decide (b.1=k))=xW (a.map λp=>E p.1) (E k):=by
 unfold xW;rw[Bw];congr 1;funext p;simp[hE]
def gz(k:κ)(v:V)(d:D)(i:Sb K H d v)(b:List (κ×V))(ds:dL)(r:bJ K H ds (b.map (·.2))) :
  (Zd b k v).map (λp=>E p.1)=zT (b.map λp=>E p.1) (E k)/\bJ K H (zU (b.map λp=>E p.1) ds (E k) d) ((Zd b k v).map (·.2)):=by
 unfold Zd zT zU;rw[uS hE]
 by_cases c:xW (b.map λp=>E p.1) (E k)=true
 .rw[xb c,xb c,xb c];constructor
  .rw[Jj];refine Rk λp _=>?_
   simp;split<;>rfl
  clear c
  induction b generalizing ds with
  |nil=>have:=r.length;cases ds with|nil=>exact .nil|cons _ _=>simp at this
  |cons p b g=>
   obtain⟨a,w⟩:=p;cases ds with
   |nil=>have:=eN.mp r;simp at this
   |cons o ds=>
    obtain⟨l,m,e,n,j⟩:=cB.mp r;injection e with e1 e2
    subst e1 e2;rw[Mf,Mf,xw,Mf];refine .cons ?_<|g ds j
    by_cases f:a=k
    .rwa [xb (by rwa [hE,Cf]),xb f]
    have h:bg (E a) (E k)=false:=by rwa [hE,SA]
    rwa [Ta (by rw[h];exact ph),Ta f]
 rw[Ta c,Ta c,Ta c];refine⟨by rw[Gi];rfl,?_⟩
 rw[Gi];exact r.append<|.cons i .nil
end
def ny{K:Frag} (r:Sb K H d v) (h:Pc false d=true):∃k:Hc,d=qJ k/\v=kV k:=by
 cases d<;>first|(cases h;done)|skip
 .exact⟨.inl _,rfl,bY.mp r⟩
 exact⟨.inr _,rfl,gK.mp r⟩
theorem YN{K:Frag}{H:Hp}:∀{ds:dL}{vs:ls},bJ K H ds vs->ds.all FA=true->∃a:List Hc,ds=a.map qJ/\vs=a.map kV
 |[],vs,r,_=>⟨[],rfl,eN.mp r⟩
 |d::ds,vs,r,h=>by
  obtain⟨v,g,rfl,c,b⟩:=cB.mp r;rw[all_cons,fj]at h;obtain⟨a,e1,e2⟩:=YN b h.2;obtain⟨k,f,e⟩:=ny c (by cases d<;>first|(cases h.1;done)|rfl)
  exact⟨k::a,by rw[e1,f];rfl,by rw[e2,e];rfl⟩
def LO{K:Frag} (r:Sb K H d v) (h:Pc true d=true):∃(a:List Hc)(b:Addr),d=.tup (a.map qJ)/\v=.ref b/\H b=some (.tup<|a.map kV):=by
 cases d<;>first|(cases h)|skip
 obtain⟨b,vs,e,f,c⟩:=Ky.mp r;obtain⟨a,e1,e2⟩:=YN c (by
  unfold Pc at h;simpa using h)
 exact⟨a,b,by rw[e1],e,by rwa [<-e2]⟩
def iz{K:Frag} {t:Bool} {j:dL} {k:D} {u:V} (E:oV K A H (.Pe t j ds) v) (B:Sb K H k u) (C:Pc t k=true) :
  ∃a o,v=.ref a/\Ih H a u o/\o.isSome=xW j k/\∀d,ni j ds k=some d->∃w,o=some w/\Sb K (hide A H) d w:=by
 have l:∃a vs,v=V.ref a/\((t=false/\∃c:List _,H a=some (.dK c)/\c.map (λp=>qJ p.1)=j/\vs=c.map (·.2))\/(t=true/\∃c:List _,H a=some (.dT c)/\c.map (λp=>D.tup<|p.1.map qJ)=j/\vs=c.map (·.2)))/\bJ K (hide A H) ds vs:=by
  rcases E with h|⟨a,G,o,J,vs,e,e2,h,F,r⟩
  .obtain⟨a,vs,e,q,r⟩:=vY.mp h;refine⟨a,vs,e,?_,r⟩;rcases q with ⟨i,c,f,g⟩|⟨i,c,f,g⟩
   .exact .inl ⟨i,c,bN _ _ _ _ f,g⟩
   exact .inr ⟨i,c,bN _ _ _ _ f,g⟩
  cases G<;>cases e;refine⟨a,vs,e2,?_,r⟩;rcases F with ⟨i,c,f,g⟩|⟨i,c,f,g⟩
  .subst f;exact .inl ⟨i,c,h,g⟩
  subst f;exact .inr ⟨i,c,h,g⟩
 obtain⟨a,vs,e,q,r⟩:=l;rcases q with ⟨rfl,c,f,rfl,rfl⟩|⟨rfl,c,f,rfl,rfl⟩
 .obtain⟨m,e1,e2⟩:=ny B C;subst e1 e2;obtain⟨s,n⟩:=DH Qr m c ds r;exact⟨a,_,e,Ih.k f,n,λd x=>let ⟨w,z,y⟩:=s d x;⟨w,z,y⟩⟩
 obtain⟨m,b,e1,e2,I⟩:=LO B C;subst e1 e2;obtain⟨s,n⟩:=DH rS m c ds r;exact⟨a,_,e,Ih.t f I,n,λd x=>let ⟨w,z,y⟩:=s d x;⟨w,z,y⟩⟩
section
variable{X:Cx}{B:bv}{a b e:Expr}{f g:Ex}{pos:Pos}
def MY:R2:=λx y H Q=>∃p v,x=.ref p/\Ih H p y (some v)/\Q v H
theorem bJy(n:X.A.units+64<cLine):Yl X MY:=by
 intro a b aa s σ H x y v u Q I f e h i;obtain⟨p,z,rfl,g,q⟩:=h;cases f;refine Ha<|Ha<|ZJ (A_ I g) PySem.F.slot_dict_getitem.lookup ?_;have c:wpAny (model X.prog X.w) X.A (subscripted b false (.ref p) u) (λr d=>wpAny (model X.prog X.w) X.A (letTemporaryGo a (.ref p) r >>= λ_=>pure r) (EP X aa σ Q) X.xe d) X.xe s:=by
  rw[i];exact wpAny_operating<|Wk (Ϲ (by lia) I g e λm d l k=>⟨z,H,l,k,q⟩) (λr d j=>Ha<|wpAny_letTemporaryGo<|Ob j) λ_ _ x=>x
 first
  |exact Ob<|Ha c
  |exact Ha _
  |exact Ha c
def bJz{K:Frag}:Th K (λx y H Q=>ZL K x y H Q\/MY x y H Q) qb:=by
 intro A H x y d v u Q w c b e q
 by_cases f:EY x=true
 .cases x<;>first|(cases f)|skip
  rename_i t ks vs;have p:aX (Pc t y=true) (yi<|ni ks vs y)=.ok d:=by cases y<;>exact e
  obtain⟨i,e2⟩:=aV p;obtain⟨a,o,n,g,_,l⟩:=iz c (by
   rcases b with h|⟨a,k,o,ds,r,e1,_⟩
   .exact h.mono (bN _ _)
   subst e1;cases k<;>cases t<;>cases i) i
  obtain⟨z,m,j⟩:=l d<|bq e2;subst m;exact .inr ⟨a,z,n,g,q _ H (bK.refl _) j⟩
 exact .inl<|bO1 (by simpa using f) A H x y d v u Q w c b e q
def cR(i:PE X a (tP X.K B f))(e:PE X b (tP X.K B g))(d:fT b:=by intro _ _;rfl)(c:X.A.units+64<cLine:=by exact Ub.units<|by assumption):PE X (.Subscript a b pos) (tI X.K B<|e2 qb f g):=
 cQ (bQ0 (bMx.or<|bJy c) i e d) λ_ _ _ h=>Iz bJz h
def Ø:pH X (.builtin "len") (λxs H Q=>∃a b,xs=[V.ref a]/\H a=some (.dK b)/\Q (.int b.length) H):=by
 intro aa s σ H xs f Q I r h;obtain⟨a,b,rfl,d,q⟩:=h;obtain⟨u,rfl,c⟩:=r.one;obtain rfl:u=Value.ref a:=c;exact bQ6 I (.inl d) λt g e=>⟨.int b.length,H,e,⟨t,rfl⟩,q⟩
def bK0{K:Frag} {d:dL} (f:oV K A H (.Pe false d ds) v):∃a b,v=.ref a/\H a=some (.dK b)/\b.length=d.length:=by
 rcases f with h|⟨a,j,o,k,vs,e,e2,h,i,r⟩
 .obtain⟨a,vs,e,q,r⟩:=vY.mp h;rcases q with ⟨_,b,g,rfl,_⟩|⟨c,_⟩
  .exact⟨a,b,e,bN _ _ _ _ g,by simp⟩
  cases c
 cases j<;>cases e;rcases i with ⟨_,b,rfl,rfl,_⟩|⟨c,_⟩
 .exact⟨a,b,e2,h,by simp⟩
 cases c
end
section
variable{K:Frag} {st:ua}
def xy{k:OK} (h:(st.set i<|some<|.v d)[j]?=some (some<|.o k xs)):j≠i/\st[j]?=some (some<|.o k xs):=by
 rw[Bg]at h
 by_cases e:i=j
 .subst e;rw[xb rfl]at h;split at h<;>simp at h
 rw[Ta e]at h;exact⟨λz=>e z.symm,h⟩
def Le.app (l:Le A H A' H'):bK (hide (A++B) H) (hide (A'++B) H'):=λb u q=>by
 have d:=bN _ _ _ _ q;have c:b∉A++B:=λz=>by rw[kE z]at q;cases q
 have a:=l b u (by rwa [cU λz=>c<|Kh _ z])
 rw[cU λz=>(Pg.mp z).elim (λz=>by rw[kE z]at a;cases a) λz=>c<|Ag _ z]
 exact bN _ _ _ _ a
theorem RS.set(r:RS K B A H st σ){d:D}{v:V}(i:Nat)(h:Sb K (hide (A++B) H) d v):RS K B A H (st.set i<|some<|.v d) (σ.set i<|some v) where
 len:=by rw[rm,rm,r.len]
 own:=r.own
 Mh:=r.Mh
 val:=λj t e=>by
  rw[Bg]at e
  by_cases b:i=j
  .subst b;rw[xb rfl]at e;split at e
   .simp at e;subst e;exact⟨v,by rw[Bg,xb rfl,xb (by rwa [<-r.len])],h⟩
   cases e
  rw[Ta b]at e;obtain⟨u,e1,q⟩:=r.val j t e;exact⟨u,by rwa [Bg,Ta b],q⟩
 lst:=λj g xs e=>by
  obtain⟨n,s⟩:=xy e;obtain⟨a,o,vs,e1,m,p,f,q,u⟩:=r.lst j g xs s;refine⟨a,o,vs,by rwa [Bg,Ta λz=>n z.symm],m,p,f,q,λk k' ys ek fh=>?_⟩
  obtain⟨l,c⟩:=xy ek;rw[Bg,Ta λz=>l z.symm]at fh
  exact u k k' ys c fh
def bK1{p:Addr} (n:nT o=true) (w:Own (A++B) H):Own ((p::A)++B) (Nb H p o):=λa b=>by
 by_cases e:a=p
 .subst e;rwa [cG]
 rw[bR e];exact w a<|(Uc.mp b).resolve_left e
def Ly{p:Addr} (d:H p=none):bK (hide (A++B) H) (hide ((p::A)++B)<|Nb H p o):=λb u q=>by
 have c:=bN _ _ _ _ q;have e:b∉A++B:=λz=>by rw[kE z]at q;cases q
 have a:=bI c d
 rwa [cU<|show b∉(p::A)++B from λz=>(Uc.mp z).elim a e,bR a]
def Kz{p:Addr} (d:H p=none):Le A H (p::A) (Nb H p o):=λb u q=>by
 have c:=bN _ _ _ _ q;have a:=bI c d
 rwa [cU λz=>(Uc.mp z).elim a (λz=>by rw[kE z]at q;cases q),bR a]
def RS.xr(r:RS K B A H st σ){p:Addr}{v:OK} (i:Nat) (c:H p=none) (t:qo K v p o vs) (h:bJ K (hide (A++B) H) ds vs) :
  RS K B (p::A) (Nb H p o) (st.set i<|some<|.o v ds) (σ.set i<|some<|.ref p) where
 len:=by rw[rm,rm,r.len]
 own:=bK1 t.nt r.own
 Mh:=λa l w=>by
  rcases Uc.mp l with rfl|l
  .exact r.own.free c (Ag _ w)
  exact r.Mh a l w
 val:=λj C e=>by
  rw[Bg]at e
  by_cases b:i=j
  .subst b;rw[xb rfl]at e;split at e<;>simp at e
  rw[Ta b]at e;obtain⟨u,e1,q⟩:=r.val j C e;exact⟨u,by rwa [Bg,Ta b],q.mono<|Ly c⟩
 lst:=λj y xs e=>by
  rw[Bg]at e
  by_cases b:i=j
  .subst b;rw[xb rfl]at e;split at e
   .simp at e;obtain⟨z,e⟩:=e;subst z e;refine⟨p,o,vs,by rw[Bg,xb rfl,xb (by rwa [<-r.len])],Gb,cG,t,h.mono<|Ly c,λk k' ys ek fh=>?_⟩
    by_cases d:i=k
    .exact d.symm
    rw[Bg,Ta d]at ek fh;obtain⟨a,n,x,e1,m,f,_⟩:=r.lst k k' ys ek;rw[e1]at fh;cases fh;rw[c]at f;cases f
   cases e
  rw[Ta b]at e;obtain⟨a,n,x,e1,m,f,g,q,u⟩:=r.lst j y xs e;have s:=bI f c;refine⟨a,n,x,by rwa [Bg,Ta b],Xb _ m,by rwa [bR s],g,q.mono<|Ly c,λk k' ys ek fh=>?_⟩
  by_cases d:i=k
  .subst d;rw[Bg,xb rfl]at fh;split at fh
   .simp at fh;exact absurd fh.symm s
   cases fh
  rw[Bg,Ta d]at ek fh;exact u k k' ys ek fh
def RS.write(r:RS K B A H st σ) {y k1:OK} {o':HO} {Jg:ls} (E:st[i]?=some (some<|.o y xs)) (C:σ[i]?=some (some<|.ref a)) (x:qo K k1 a o' Jg) (h:bJ K (hide (A++B) H) ds Jg) :
  RS K B A (Nb H a o') (st.set i<|some<|.o k1 ds) σ/\Le A H A (Nb H a o'):=by
 obtain⟨P,o,vs,e1,m,O,_,q,u⟩:=r.lst i y xs E;rw[C]at e1;cases e1;have F:hide (A++B) (Nb H a o')=hide _ H:=Ou<|Kh _ m;refine⟨⟨by rw[rm,r.len],λb hb=>?_,r.Mh,λj d e=>?_,λj kj ys e=>?_⟩,?_⟩
 .by_cases e:b=a
  .subst e;rw[cG];exact x.nt
  rw[bR e];exact r.own b hb
 .rw[F];rw[Bg]at e
  by_cases f:i=j
  .subst f;rw[xb rfl]at e;split at e<;>simp at e
  rw[Ta f]at e;exact r.val j d e
 .rw[F];have w:∀{k:Nat}{s:OK}{p:dL},(st.set i<|some<|.o k1 ds)[k]?=some (some<|.o s p)->∃n g,st[k]?=some (some<|.o n g):=λ{k s p} l=>by
   rw[Bg]at l
   by_cases D:i=k
   .subst D;exact⟨_,_,E⟩
   rw[Ta D]at l;exact⟨_,_,l⟩
  rw[Bg]at e
  by_cases f:i=j
  .subst f;rw[xb rfl]at e;split at e
   .simp at e;obtain⟨J,e⟩:=e;subst J e;exact⟨a,o',Jg,C,m,cG,x,h,λk s p l t=>let ⟨n,g,v⟩:=w l;u k n g v t⟩
   cases e
  rw[Ta f]at e;obtain⟨c,oc,g,G,N,ch,I,M,L⟩:=r.lst j kj ys e;exact⟨c,oc,g,G,N,by rwa [bR (λz=>by subst z;exact f (u j kj ys e G).symm)],I,M,λk s p l t=>let ⟨n,g,v⟩:=w l;L k n g v t⟩
 unfold Le;rw[Ou m];exact bK.refl _
theorem RS.rp(r:RS K B A H st σ)(i:Nat):∃s,RS K B s H (Pu.rp st i) σ/\Le A H s H:=by
 unfold Pu.rp;split
 .rename_i D xs e;obtain⟨a,o,vs,e1,m,O,C,q,u⟩:=r.lst i D xs e;have g:∀b∈A.filter (λc=>decide (c≠a)),b∈A:=λb h=>(Nd.mp h).1
  have f:∀b∈A.filter _++B,b∈A++B:=λb h=>(Pg.mp h).elim (λz=>Kh _<|g b z)<|Ag _
  have sm:bK (hide _ H) _:=oU f;have F:a∉A.filter (λc=>decide (c≠a))++B:=λz=>(Pg.mp z).elim (λz=>ck (Nd.mp z).2 rfl)<|r.Mh a m
  refine⟨A.filter λc=>decide _,⟨by rw[rm,r.len],λb h=>r.own b<|f b h,λb h=>r.Mh b<|g b h,λj d ej=>?_,λj kj ys ej=>?_⟩,oU g⟩
  .rw[Bg]at ej
   by_cases l:i=j
   .subst l;rw[xb rfl]at ej;split at ej
    .simp at ej;subst ej;exact⟨_,e1,C.rep (by rwa [cU F])<|q.mono sm⟩
    cases ej
   rw[Ta l]at ej;obtain⟨v,e2,x⟩:=r.val j d ej;exact⟨v,e2,x.mono sm⟩
  obtain⟨G,p⟩:=xy ej;obtain⟨c,oc,w,n,N,ch,E,M,L⟩:=r.lst j kj ys p;exact⟨c,oc,w,n,Nd.mpr ⟨N,Oc<|λz=>by subst z;exact G<|u j kj ys p n⟩,ch,E,M.mono sm,λk y t J I=>L k y t (xy J).2 I⟩
 exact⟨A,r,Le.refl⟩
def RS.fz(is:ac):∀{A:bv}{st:ua},RS K B A H st σ->∃a,RS K B a H (is.foldl Pu.rp st) σ/\Le A H a H:=by
 induction is with
 |nil=>exact λr=>⟨_,r,Le.refl⟩
 |cons i is f=>
  intro A st r;obtain⟨h,c,e⟩:=r.rp i;obtain⟨g,b,d⟩:=f c;exact⟨g,b,e.trans d⟩
end
section
variable{X:Cx}{B:bv}{a b e:Expr}{f g:Ex}{pos:Pos}{bd tm:Bd}{sm:Stmt}{rest:List Stmt}
def eO:jf X [] (tS X.K B cJ):=Pr œ (by
 rintro c σ H ⟨A,st,r,a,b,p⟩;cases b;exact p A σ H Le.refl a)
def aN(h:PS X sm (tS X.K B bd))(g:jf X rest (tS X.K B tm)):jf X (sm::rest) (tS X.K B<|aY bd tm):=by
 refine Pr (LF h g) ?_
 rintro k σ H ⟨A,st,r,c,f,p⟩;obtain⟨x,e,a⟩:=R.ja f;refine⟨A,st,x,c,e,?_⟩;cases x with
 |nx s1=>exact λi j H' l b=>⟨i,s1,r,b,a,p.mono l⟩
 |rt d=>cases a;exact p
 |bk s1=>cases a;exact p
 |ct s1=>cases a;exact p
def aU(a:PS X sm (tS X.K B bd)):jf X [sm] (tS X.K B bd):=GG a
def Fj(is:ac)(h:PS X sm (tS X.K B bd)):PS X sm (tS X.K B<|Vi is bd):=lQ h (by
 rintro e σ H ⟨A,st,r,b,c,p⟩;obtain⟨d,a,l⟩:=RS.fz is b;exact⟨d,_,r,a,c,p.mono l⟩)
def bD(h:PE X e (tI X.K B f)):PS X (.Return (some e) pos) (tS X.K B<|bW f):=lQ (KH h) (by
 rintro i σ H ⟨A,st,r,a,b,p⟩;obtain⟨d,c,g⟩:=R.ja b;cases g;exact⟨A,st,d,a,c,λv H' s q=>p A v H' (Le.of s) q⟩)
def UX(h:PE X e (tI X.K B f))(b:qj e none pos.line X.env:=by rfl):PS X (.Expr e pos) (tS X.K B<|YI f):=lQ (Uu h b) (by
 rintro j σ H ⟨A,st,r,a,c,p⟩;obtain⟨d,g,i⟩:=R.ja c;cases i;exact⟨A,st,d,a,g,λv H' s q=>p A σ H' (Le.of s)<|a.mono s⟩)
def bM(he:PE X e (tI X.K B f))(l:X.N.Nodup:=by assumption)(h:X.N[i]?=some x:=by rfl)(b:Loc X.env.scope x:=by exact Yn rfl)(c:qj e (some<|.Name x pos') pos.line X.env:=by rfl)
  (j:sk X x:=by first|exact .inl rfl|exact .inr rfl|assumption):PS X (.Assign [.Name x pos'] e pos) (tS X.K B<|bU i f):=lQ (yv l h b he c j) (by
 rintro n σ H ⟨A,st,r,a,g,p⟩;obtain⟨d,k,m⟩:=R.ja g;cases m;exact⟨A,st,d,a,k,λv H' s q=>p A _ H' (Le.of s)<|(a.mono s).set i q⟩)
def tF(K:Frag)(B:bv)(f:Ex):TE:=λσ H Q=>∃A st ds,RS K B A H st σ/\f st=.ok (.lst ds)/\∀p vs H',bK H H'->H' p=none->bJ K (hide (A++B) H') ds vs->Q (.ref p) (Nb H' p<|.lst vs)
def wY{r:Ee}(h:PA X es (tA X.K B r)):PE X (.List es pos) (tF X.K B<|fJ r):=by
 refine cQ (NH h) ?_
 rintro σ H Q ⟨A,st,d,b,g,q⟩;obtain⟨xs,e,j⟩:=R.ja g;obtain⟨c,i⟩:=aV j;cases i;exact⟨A,st,_,b,e,λvs H1 s1 a=>⟨by rw[a.length];exact lim c,λp f=>q p vs H1 s1 f a⟩⟩
def qK(he:PE X e (tF X.K B f))(o:X.N.Nodup:=by assumption)(l:X.N[i]?=some x:=by rfl)(h:Loc X.env.scope x:=by exact Yn rfl)(j:qj e (some<|.Name x pos') pos.line X.env:=by rfl)
  (m:sk X x:=by first|exact .inl rfl|exact .inr rfl|assumption):PS X (.Assign [.Name x pos'] e pos) (tS X.K B<|sI i f):=lQ (yv o l h he j m) (by
 rintro t σ H ⟨A,st,r,b,k,p⟩;obtain⟨d,n,g⟩:=R.ja k;cases d<;>first|(cases g;done)|skip
 cases g;exact⟨A,st,_,b,n,λa vs H' s c q=>p _ _ _ ((Le.of s).trans<|Kz c)<|(b.mono s).xr i c rfl q⟩)
def jO{c:Expr}{t:Ex}{x y:List Stmt}(g:PT X c (tT X.K B t))(i:jf X x (tS X.K B bd))(h:jf X y (tS X.K B tm)):PS X (.If c x y pos) (tS X.K B<|ud t bd tm):=lQ (bPo g i h) (by
 rintro l σ H ⟨A,st,r,a,e,p⟩;obtain⟨d,f,j⟩:=R.ja e;obtain⟨k,rfl,b⟩:=yV j;refine⟨A,st,k,a,f,λH1 s1=>?_⟩
 cases k with
 |true=>exact⟨A,st,r,a.mono s1,b,p.mono<|Le.of s1⟩
 |false=>exact⟨A,st,r,a.mono s1,b,p.mono<|Le.of s1⟩)
def bO(h:X.N.Nodup:=by assumption)(e:X.N[i]?=some x:=by rfl)(b:Loc X.env.scope x:=by exact Yn rfl)
  (g:sk X x:=by first|exact .inl rfl|exact .inr rfl|assumption):PG X (.Name x pos) (tG X.K B<|bb i):=LW (Ŕ h e b g) (by
 rintro v σ H Q ⟨A,st,d,s1,a,c,f,q⟩;cases f;exact q _<|a.set i c)
def OC(K:Frag)(B:bv)(is:ac):dm:=λvs σ H Q=>∃A st ds s1,RS K B A H st σ/\bJ K (hide (A++B) H) ds vs/\Bv is ds st=.ok s1/\∀a,RS K B A H s1 a->Q a H
def NU{t t':dm}(h:Dk X es t)(m:∀v a H Q,t' v a H Q->t v a H Q):Dk X es t':=λaa s a H v u Q I r q=>h aa s a H v u Q I r<|m v a H Q q
def NW:Dk X [] (OC X.K B []):=NU ŕ (by
 rintro v σ H Q ⟨A,st,ds,s1,b,c,a,q⟩;cases ds with
 |nil=>cases a;exact⟨eN.mp c,q σ b⟩
 |cons _ _=>exact nomatch a)
def jz{i:Nat}{is:ac} (o:Dk X es (OC X.K B is)) (n:X.N.Nodup:=by assumption) (l:X.N[i]?=some x:=by rfl) (h:Loc X.env.scope x:=by exact Yn rfl)
  (m:sk X x:=by first|exact .inl rfl|exact .inr rfl|assumption)
  (j:(assignEach (.Name x pos::es) X.env).map (·.2)=assign (.Name x pos) X.env::(assignEach es X.env).map (·.2):=by rfl):Dk X (.Name x pos::es) (OC X.K B<|i::is):=NU (û (bO n l h m) o j) (by
 rintro v σ H Q ⟨A,st,ds,s1,c,k,b,q⟩;cases ds with
 |nil=>exact nomatch b
 |cons d ds=>
  obtain⟨u,r,e,g,f⟩:=cB.mp k;exact⟨u,r,e,A,st,d,st.set i _,c,g,rfl,λp a=>⟨A,_,ds,s1,a,f,b,q⟩⟩)
def HP{l it:Addr} (a:h.IsList l items) (s:Heap.SameBut it h h') (b:l≠it):h'.IsList l items:=by
 obtain⟨o,e,r⟩:=a;exact⟨o,(s.2 l b).trans e,r⟩
theorem VQ{M:Program}{w:World}{A:Around}{E:be}{it t:Addr}{a:wv}(h:t≠it):∀(n i:Nat)(s:Shared)(Q:List Value->Shared->Prop),s.heap.IsListIter it t i->s.heap.IsList t a->i+n<=a.size->
  (∀f,f.IsListIter it t (i+n)->Heap.SameBut it s.heap f->Q ((a.toList.drop i).take n) {s with heap:=f})->wpAny (model M w) A (draw (.ref it) n) Q E s
 |0,i,s,Q,b,_,_,e=>by
  exact Ob (by simpa using e s.heap b (Heap.SameBut.refl ..))
 |n+1,i,s,Q,b,g,j,e=>by
  have d:i<a.size:=by lia
  refine Ha<|wpAny_pyNext_list_item b g (x:=a[i]) (by simp) λp o c=>Ha<|Hi<|VQ h n (i+1) _ _ o (HP g c h) (by lia) λl q m=>Ob ?_
  have k:a.toList.drop i=a[i] :: a.toList.drop (i+1):=by simp[List.drop_eq_getElem_cons,d]
  have:=e l (by rwa [show i+(n+1)=i+1+n by lia])<|c.trans m
  rwa [k]at this
theorem G6{M:Program} {A:Around} {s:Shared} {f:Pos} {t:Addr} {Q:pp} (p:A.handled=none) (d:s.heap.IsList t items)
  (n:(assignEach Pj env).length=items.size) (m:(assignEach Pj env).findIdx? (·.1)=none)
  (h:∀k,Heap.ExtBut s.heap.objs.size s.heap k->wpAny (model M w) A (assignInOrder ((assignEach Pj env).map (·.2)) items.toList) Q E {s with heap:=k}) :
  wpAny (model M w) A (assign (.Tuple Pj x1 f) env<|.ref t) Q E s:=by
 have c:t≠s.heap.objs.size:=by obtain⟨o,g,_⟩:=d;exact df<|Dd g
 refine Ha<|Pt ?_;unfold unpack;rw[n,m];refine Ha<|Hi<|Ha<|Ha<|ZJ d.typeIs PySem.F.slot_list_iter.lookup<|Ob<|Ha<|Hi<|DB d ?_;have l:(s.heap.push {cls:=.type "list_iterator",data:=.fields #[.ref t,rawInt 0]}).IsList t items:=by
  obtain⟨o,g,r⟩:=d;exact⟨o,Zc _ g,r⟩
 refine Ha<|Hi<|VQ c items.size 0 _ _ ⟨_,vf _ rfl,rfl,rfl⟩ l (by lia) λx v a=>?_
 have u:List.take items.size (List.drop 0 items.toList)=items.toList:=by
  exact WZ (by simp)
 rw[u,Ta (by simp)]
 refine Ha<|Hi<|wpAny_pyNext_list_end p v (HP l a c) (by simp) λq i=>Ob<|h q λb o j e=>i b o j<|a.extBut b o j<|Zc _ e
def bT0(K:Frag)(n:Nat)(t:dm):TG:=λv σ H Q=>∃a xs,v=.ref a/\(Mg K H a xs\/fe K H a xs)/\xs.length=n/\t xs σ H Q
def bO3{k:Nat}{t:dm} (j:X.calm=true) (h:Dk X es t)
  (g:(assignEach es X.env).length=n:=by rfl) (l:(assignEach es X.env).findIdx? (·.1)=none:=by rfl):PG X (.Tuple es k pos) (bT0 X.K n t):=by
 intro aa s σ H v u Q I r d;obtain⟨a,xs,e1,c,i,d⟩:=d;rcases c with c|c
 .exact bMc j h g l aa s σ H v u Q I r ⟨a,xs,e1,c,i,d⟩
 subst e1;cases r;obtain⟨w,f,p,q⟩:=I.list c;exact G6 (I.ok.hd j) p.isList (by simp[g,<-i,f.length]) l λh' m=>h aa _ σ H xs _ Q (I.kept λb o e=>m b o (df<|Dd e) e) (by simpa using f) d
def IP{s1:ua}:∀(is:ac)(ds:dL)(st:ua),Bv is ds st=.ok s1->ds.length=is.length:=by
 intro is
 induction is with
 |nil=>intro ds st h;cases ds with|nil=>rfl|cons _ _=>exact nomatch h
 |cons i is a=>intro ds st h;cases ds with|nil=>exact nomatch h|cons _ ds=>exact congrArg _<|a ds _ h
def VX{is:ac} {k:Nat} (l:X.calm=true) (h:Dk X es (OC X.K B is)) (j:(assignEach es X.env).length=is.length:=by rfl) (m:(assignEach es X.env).findIdx? (·.1)=none:=by rfl):PG X (.Tuple es k pos) (tG X.K B<|PC is):=LW (bO3 l h j m) (by
 rintro v σ H Q ⟨A,st,d,s1,g,i,b,q⟩;cases d<;>first|(cases b)|skip
 .rename_i ds;obtain⟨a,vs,e,f,c⟩:=jU i;exact⟨a,vs,e,.inl<|Nu (bN _ _) f,by rw[c.length];exact IP is ds st b,A,st,ds,s1,g,c,b,q⟩
 rename_i ds;obtain⟨a,vs,e,f,c⟩:=lO.mp i;exact⟨a,vs,e,.inr<|(bN _ _).seq f,by rw[c.length];exact IP is ds st b,A,st,ds,s1,g,c,b,q⟩)
def bRf{t:Tg}(he:PE X e (tI X.K B f))(j:PG X tg (tG X.K B t))(h:swapsWithSole [tg] e pos.line X.env=pure false:=by rfl)(g:swappedStores [tg] e X.env=pure none:=by rfl)
  (n:(assignEach [tg] X.env).map (·.2)=[assign tg X.env]:=by rfl):PS X (.Assign [tg] e pos) (tS X.K B<|FY t f):=lQ (LH he j h g n) (by
 rintro u σ H ⟨A,st,r,c,i,p⟩;obtain⟨d,k,m⟩:=R.ja i;obtain⟨s1,b,l⟩:=R.ja m;cases l;exact⟨A,st,d,c,k,λv H' s q=>⟨A,st,d,s1,c.mono s,q,b,λo a=>p A o H' (Le.of s) a⟩⟩)
theorem iV {t:Tg} (S:L2.PI X tg iter (vk X.K B it)) (T:PG X tg (tG X.K B t)) (W:jf X body (tS X.K B bd)) (P:PassesOwn (model X.prog X.w) X.A X.env X.xe:=by exact PassesOwn.never) (V:X.calm=true:=by rfl)
  (N:∀x,foldedSetIterable iter X.env x=pure x:=by intro _;rfl):PS X (.For tg iter body [] pos) (tS X.K B<|mV t it bd):=lQ (bMe P V S T W N) (by
 rintro Dn σ H ⟨A,st,r,z,O,p⟩;obtain⟨ds,U,h3⟩:=R.ja O;refine⟨A,st,ds,z,U,λJ H1 s1 HL=>⟨λi m u H'=>∃c st',m=ds.length-i/\i<=ds.length/\RS X.K B c H' st' u/\Eb t bd (ds.drop i) st'=.ok r/\Le A H1 c H',⟨ds.length,A,st,rfl,qh _,z.mono s1,by rwa [drop_zero],Le.refl⟩,?_⟩⟩
 rintro i m u H' ⟨c,st',rfl,Q,b,j,l⟩;obtain⟨M,L⟩:=HL c H' l b.own i
 by_cases a:i<ds.length
 .obtain⟨Z,G⟩:=M _<|Ze a;rw[EZ a]at j;obtain⟨w,Nf,Y⟩:=R.ja j;obtain⟨C,gf,k⟩:=R.ja Y;refine .inr ⟨Z,λD f=>∃o n,i+1<=ds.length/\RS X.K B o f n D/\Eb t bd (ds.drop<|i+1) n=.ok r/\Le A H1 o f,?_,λx f y=>?_⟩
  .rintro D f ⟨o,n,WK,F,RK,K⟩;exact⟨ds.length-(i+1),by omega,o,n,rfl,WK,F,RK,K⟩
  obtain⟨sm,I⟩:=G x f y;have h:=l.trans<|Le.of sm;refine⟨c,st',ds[i],w,b.mono sm,I,Nf,λxk E=>⟨c,w,C,E,gf,?_⟩⟩
  cases C with
  |nx g=>exact λv EM H4 s q=>⟨v,g,a,q,k,h.trans s⟩
  |ct g=>exact λv EM H4 s q=>⟨v,g,a,q,k,h.trans s⟩
  |bk g=>cases k;exact p.mono<|(Le.of s1).trans h
  |rt d=>cases k;exact p.mono<|(Le.of s1).trans h
 have e:i=ds.length:=by lia
 subst e;rw[List.drop_length]at j;cases j;exact .inl ⟨L<|Fc _,p c u H' ((Le.of s1).trans l) b⟩)
def EH{c:Expr}{t:Ex} (G:PT X c (tT X.K B t)) (I:jf X body (tS X.K B bd)) (E:PassesOwn (model X.prog X.w) X.A X.env X.xe:=by exact PassesOwn.never):PS X (.While c body [] pos) (tS X.K B<|Cv n t bd):=lQ (ü E G I) (by
 rintro O σ H ⟨A,st,r,z,D,p⟩;refine⟨λm o H'=>∃b st',RS X.K B b H' st' o/\qC t bd m st'=.ok r/\Le A H b H',⟨n,A,st,z,D,Le.refl⟩,?_⟩
 rintro m o H' ⟨b,st',a,u,l⟩;cases m with
 |zero=>exact nomatch u
 |succ m=>
  obtain⟨d,F,J⟩:=R.ja u;obtain⟨k,rfl,v⟩:=yV J;refine⟨b,st',k,a,F,λH1 s1=>?_⟩
  cases k with
  |false=>
   cases v;exact p b o H1 (l.trans<|Le.of s1)<|a.mono s1
  |true=>
   obtain⟨w,K,f⟩:=R.ja v;refine⟨λx q=>∃h g,RS X.K B h q g x/\qC t bd m g=.ok r/\Le A H h q,?_,b,st',w,a.mono s1,K,?_⟩
   .rintro x q ⟨h,g,y,L,C⟩;exact⟨m,Ht m,h,g,y,L,C⟩
   cases w with
   |nx e=>exact λs N M j i=>⟨s,e,i,f,l.trans<|(Le.of s1).trans j⟩
   |ct e=>exact λs N M j i=>⟨s,e,i,f,l.trans<|(Le.of s1).trans j⟩
   |bk e=>cases f;exact p.mono<|l.trans<|Le.of s1
   |rt d=>cases f;exact p.mono<|l.trans<|Le.of s1)
def bO4{K:Frag} {l:Addr} (h:fe K (hide (A++B) H) l vs) (r:bJ K (hide (A++B) H) ds vs):dt K B A H (WC K l) ds:=by
 intro m H' b g i;have a:=(bN _ _).seq<|(Le.app b).seq h;refine⟨λd hd=>?_,λj=>⟨vs,a,by rwa [r.length]⟩⟩
 obtain⟨v,e,f⟩:=r.get hd;refine⟨⟨vs,v,a,e⟩,λx k y=>⟨by rw[y.1];exact bK.refl _,?_⟩⟩
 have c:=y.2 vs a;rw[y.1];rw[e]at c;cases c;exact f.mono<|Le.app b
def bO5{K:Frag} {l:Addr} (h:Mg K (hide (A++B) H) l vs) (r:bJ K (hide (A++B) H) ds vs):dt K B A H (XC K l) ds:=by
 intro m H' b g i;have a:=Nu (bN _ _)<|Nu (Le.app b) h;refine⟨λd hd=>?_,λj=>⟨vs,a,by rwa [r.length]⟩⟩
 obtain⟨v,e,f⟩:=r.get hd;refine⟨⟨vs,v,a,e⟩,λx k y=>⟨by rw[y.1];exact bK.refl _,?_⟩⟩
 have c:=y.2 vs a;rw[y.1];rw[e]at c;cases c;exact f.mono<|Le.app b
def OW{K:Frag} {lo:Int}:dt K B A H (Cu lo n) (mU lo n):=by
 intro j H' f c i;have a:(mU lo n).length=n:=by simp[mU]
 refine⟨λd hd=>?_,λh=>by rwa [a]at h⟩
 have b:=by
  have:=(zg.mp hd).1
  rwa [a]at this
 have e:=by
  unfold mU at hd;rw[cj,yB b]at hd;exact(Uk hd).symm
 subst e;exact⟨b,λx g y=>⟨by rw[y.1];exact bK.refl _,bY.mpr y.2⟩⟩
def gy(z:ac):It:=⟨λi _=>i<z.length,λi H x H'=>H'=H/\∃c,z[i]?=some c/\x=.str ⟨#[c]⟩,λi _=>z.length<=i⟩
def ı{K:Frag} {it:Addr} {n:String} {t:Tok} (p:n="str_ascii_iterator"\/n="str_iterator"):Turn P w K tg (gy z) [it] it (λi h=>h.IsStrIter it n ⟨z.toArray⟩ t i) where
 mem:=by simp
 obj:=λi h st b a=>by
  have e:=by simpa using a
  subst e;obtain⟨o,e,c,d⟩:=st;exact⟨o,e,λv z=>by rw[d]at z;cases z⟩
 keep:=λi h h' st k=>let ⟨o,e,r⟩:=st;⟨o,k it (by simp) o e,r⟩
 item:=by
  intro X N M O l i aa s σ H E I q st F;subst N M O;obtain⟨D,C,S,B,A,y⟩:=q it (by simp)
  have m:∀v h' f,SignAt ⟨z.toArray⟩ i v->Heap.IsStrIter h' it n ⟨z.toArray⟩ t (i+1)->(∀b o,b∉[it]->s.heap.get? b=some o->h'.get? b=some o)->
    ∃u,some v=some u/\wpAny (model X.prog X.w) X.A (letOwnedTupleGo tg (.ref it) u) (λ_ L=>∃x H',Aa X aa σ H' L/\RelV x u/\(gy z).Bu i H x H'/\Heap.IsStrIter L.heap it n ⟨z.toArray⟩ t (i+1)/\∀b∈[it],H' b=none) E {s with heap:=h',toks:=f}:=by
   intro v h' f j st' g;obtain⟨c,u,G,rfl⟩:=j;obtain⟨o,e,T,d⟩:=id st';refine⟨_,rfl,Vz e T d (by rcases p with rfl|rfl<;>decide) ⟨.str _,H,(I.turned (λb o a e=>g b o (by simpa using a) e) D C B A y),⟨u,rfl⟩,⟨rfl,c,?_,rfl⟩,st',λb a=>(q b a).1⟩⟩
   simpa using G
  have R:=by simpa using F
  rcases p with rfl|rfl
  .exact(Walks.strAscii (I.ok.hd l) it ⟨z.toArray⟩ t).item i s _ _ R st λv h' f j st' g=>m v h' f j st' g
  exact(Walks.strWide (I.ok.hd l) it ⟨z.toArray⟩ t).item i s _ _ R st λv h' f j st' g=>m v h' f j st' g
 done:=by
  intro X N M O l i aa s σ H E I q st F;obtain⟨D,C,S,B,A,y⟩:=q it (by simp)
  have Q:z.length<=i:=F;rcases p with rfl|rfl
  .exact wpAny_pyNext_ascii_end (I.ok.hd l) st (by simpa using Q) λh' J=>⟨rfl,I.turned (λb o a e=>J b o a e) D C B A y⟩
  exact wpAny_pyNext_wide_end (I.ok.hd l) st (by simpa using Q) λh' J=>⟨rfl,I.turned (λb o a e=>J b o a e) D C B A y⟩
 self:=λ_ _ _ _ _ st h=>by
  rcases p with rfl|rfl
  .exact wpAny_pyIter_striter_ascii st h
  exact wpAny_pyIter_striter_wide st h
def bO6{K:Frag}:dt K B A H (gy z) (z.map λc=>.str [c]):=by
 intro k H' f e i;refine⟨λd hd=>?_,λh=>(by simpa using h:z.length<=i)⟩
 rw[cj]at hd;cases a:z[i]? with
 |none=>rw[a]at hd;cases hd
 |some c=>
  rw[a]at hd;cases hd;refine⟨(zg.mp a).1,λx j y=>⟨by rw[y.1];exact bK.refl _,?_⟩⟩
  obtain⟨g,b,rfl⟩:=y.2;rw[a]at b;cases b;exact gK.mpr rfl
def bT1(K:Frag)(b:TE):TI:=λσ H R=>b σ H λx H1=>(∃a,x=.ref a/\(((∃xs,fe K H1 a xs)/\R (WC K a) H1)\/((∃xs,Mg K H1 a xs)/\R (XC K a) H1)))\/∃z:ac,x=.str ⟨z.toArray⟩/\R (gy z) H1
def bO7{l:Expr}(k:PE X l tl):L2.PI X tg l (bT1 X.K tl):=by
 intro aa s σ H R I h;refine wc (k aa s σ H _ I h) λv s1 ⟨x,H1,c,f,i⟩=>?_
 rcases i with ⟨a,e,q⟩|⟨z,rfl,q⟩
 rotate_left
 .obtain⟨t,rfl⟩:=f;refine wpAny_pyIter_strU (⟨s1.heap.objs.size,[s1.heap.objs.size],_,_,H1,rfl,c.kept λb o e=>Zc _ e,ı (by unfold strIterType;split<;>simp),⟨_,vf _ rfl,rfl,rfl⟩,λb hb=>?_,q⟩)
  have e:=by simpa using hb
  subst e;exact c.ll (Fc _)<|c.Bb.fresh<|Fc _
 subst e;cases f;rcases q with ⟨⟨xs,d⟩,q⟩|⟨⟨xs,d⟩,q⟩
 .obtain⟨m,g,p,j⟩:=c.list d;refine DB p.isList (⟨s1.heap.objs.size,[s1.heap.objs.size],_,_,H1,rfl,c.kept λb o e=>Zc _ e,ϩ a _,⟨_,vf _ rfl,rfl,rfl⟩,λb hb=>?_,q⟩)
  have e:=by simpa using hb
  subst e;exact c.ll (Fc _)<|c.Bb.fresh<|Fc _
 obtain⟨m,g,p,j⟩:=c.tuple d;refine wpAny_pyIter_tuple (p)<|⟨s1.heap.objs.size,[s1.heap.objs.size],_,_,H1,rfl,c.kept λb o e=>Zc _ e,η a _,⟨_,vf _ rfl,rfl,rfl⟩,λb hb=>?_,q⟩
 have e:=by simpa using hb
 subst e;exact c.ll (Fc _)<|c.Bb.fresh<|Fc _
def jH{l:Expr}(i:PE X l (tI X.K B f)):L2.PI X tg l (vk X.K B<|Wc f):=gI (bO7 i) (by
 rintro σ H k ⟨A,st,ds,g,j,q⟩;obtain⟨x,h,b⟩:=R.ja j;refine⟨A,st,x,g,h,λv H1 s1 r1=>?_⟩
 cases x<;>first|(cases b;done)|skip
 .obtain⟨_,b⟩:=aV b;cases b;exact .inr ⟨_,gK.mp r1,q _ H1 s1 bO6⟩
 .cases b;obtain⟨a,vs,e,c,d⟩:=jU r1;exact .inl ⟨a,e,.inr ⟨⟨vs,Nu (bN _ _) c⟩,q _ H1 s1<|bO5 c d⟩⟩
 cases b;obtain⟨a,vs,e,c,d⟩:=lO.mp r1;exact .inl ⟨a,e,.inl ⟨⟨vs,(bN _ _).seq c⟩,q _ H1 s1<|bO4 c d⟩⟩)
theorem wZ{p:Pos}(h:X.mg "range"=none)(l:PE X a (tP X.K B f))(i:Gl X "range":=by rfl)(b:starEach [a] X.env=[(false,eval a X.env)]:=by rfl):L2.PI X tg (.Call (.Name "range" p) [a] [] pos) (vk X.K B<|qZ f):=gI (Ϫ i h (dD l iZ b) b) (by
 rintro σ H r ⟨A,st,ds,d,k,q⟩;obtain⟨x,g,o⟩:=R.ja k;obtain⟨j,rfl,n⟩:=Ur o;obtain⟨c,m⟩:=aV n;rw[qX]at c;cases m;exact⟨A,st,_,d,g,λv H1 s1 e=>⟨j,by rw[e.int],by lia,by lia,q _ H1 s1 OW⟩⟩)
def bRg{p:Pos}(r:X.mg "range"=none)(z:PE X a (tP X.K B f))(w:PE X b (tP X.K B g))(s:Gl X "range":=by rfl)(o:starEach [a,b] X.env=[(false,eval a X.env),(false,eval b X.env)]:=by rfl)(e:starEach [b] X.env=[(false,eval b X.env)]:=by rfl)
  (J:starEach [a,b] X.env=(false,eval a X.env)::starEach [b] X.env:=by rfl):L2.PI X tg (.Call (.Name "range" p) [a,b] [] pos) (vk X.K B<|XI f g):=gI (ϫ s r (dD z (dD w iZ e) J) o e) (by
 rintro σ H K ⟨A,st,ds,d,t,q⟩;obtain⟨x,n,G⟩:=R.ja t;obtain⟨y,m,D⟩:=R.ja G;obtain⟨i,rfl,C⟩:=Ur D;obtain⟨j,rfl,F⟩:=Ur C;obtain⟨c,E⟩:=aV F;rw[qX]at c;cases E;exact⟨A,st,_,d,n,λv H1 s1 l=>⟨A,st,_,d.mono s1,m,λu I h k=>⟨i,j,by rw[l.int,k.int],⟨by omega,by omega,by omega,by omega⟩,q _ I (s1.trans h) OW⟩⟩⟩)
end
def XF{K:Frag} (w:Own B H) (r:bJ K (hide B H) ds vs):RS K B [] H (ds.map (λd=>some<|Sl.v d)++List.replicate (N.length-ds.length) none) (L2.start N vs):=by
 have c:∀(i:Nat)(s:Sl),(ds.map (λd=>some _)++List.replicate (N.length-ds.length) none)[i]?=some (some s)->∃d,ds[i]?=some d/\s=.v d:=λi s e=>by
  by_cases b:i<ds.length
  .rw[Um (by simpa using b),List.getElem?_map,List.getElem?_eq_getElem b]at e
   simp at e;exact⟨ds[i],Ze b,e.symm⟩
  rw[pw (by simpa using b),List.getElem?_replicate]at e
  split at e<;>simp at e
 refine⟨by unfold L2.start;simp[(r.length)],by rwa [Vt],λa g=>absurd g (by simp),λi d e=>?_,λi k xs e=>?_⟩
 .obtain⟨h,e1,e2⟩:=c i _ e;cases e2;obtain⟨v,f,j⟩:=r.get e1;refine⟨v,?_,by rwa [Vt]⟩
  unfold L2.start;rw[Um (by simpa using ((List.getElem?_eq_some_iff.mp f).1)),List.getElem?_map,f]
  rfl
 obtain⟨h,e1,e2⟩:=c i _ e;cases e2
def My(ds:dL)(d:D)(h:bV np n bd ds=.ok d):ds.length=np:=(aV h).1
structure Ba(P:Program)(w:World)(K:Frag)(mg:db)(base:Heap)(x:Str)(k np:Nat)(p:bn):Prop where
 ex:∃(fa:Addr)(fd:FuncData)(ps:pi),xa P w K mg base zb k fa fd ps (Mb K np p)/\mg x=some (.ref fa)/\keepIn K (.ref fa)=true/\Binds K fd ps []
 len:∀ds d,p ds=.ok d->ds.length=np
def Ba.of{K:Frag} {k:Nat} (h:xa P w K mg base zb k fa fd ps (Mb K np p)) (m:mg x=some (.ref fa))
  (a:keepIn K (.ref fa)=true) (b:Binds K fd ps []) (l:∀ds d,p ds=.ok d->ds.length=np):Ba P w K mg base x k np p:=⟨⟨fa,fd,ps,h,m,a,b⟩,l⟩
section
variable{X:Cx}{B:bv}{a b e:Expr}{f g:Ex}{pos:Pos}
def iM{k:Nat} {r:Ee} (h:Ba X.prog X.w X.K X.mg X.base x k np p) (c:Ub j X.A) (d:k<=j) (g:PA X (e::es) (tA X.K B r)) (f:Gl X x:=by rfl) (a:Bf x:=by decide)
  (he:Lf e es X.env:=by rfl) (Af:Si pos es X.env:=by rfl):PE X (.Call (.Name x p0) (e::es) [] pos) (tI X.K B<|aM p r):=by
 obtain⟨fa,fd,ps,F,m,b,bd⟩:=h.ex;exact bO2 F (c.mono d) m b bd h.len g f a he Af
def Φ{K:Frag} {a:Addr} (b:fe K H a (ns.map V.int)):bJ K H [.lst<|ns.map D.int] [.ref a]:=by
 refine .cons (VF.mpr ⟨a,_,rfl,b,?_,λz=>by cases ns<;>cases z⟩) .nil
 clear b
 induction ns with
 |nil=>exact .nil
 |cons n ns c=>exact .cons (bY.mpr rfl) c
def bO8{K:Frag} {a:Addr} {E:XK} (d:fe K H a (ns.map V.int)) (h:p [.lst<|ns.map D.int]=.ok (.bl true)):Mb K 1 p [.ref a] H (λv _=>v=.bl true) E:=
 ⟨[],[.lst _],.bl true,λb c=>absurd c (by simp),Φ d,rfl,h,λv H' _ r=>dJ.mp r⟩
def lY(n:X.mg "len"=none)(r:PE X a (tP X.K B f))(o:Gl X "len":=by rfl)(i:Lf a [] X.env:=by rfl):PE X (.Call (.Name "len" p0) [a] [] pos) (tI X.K B<|e1 jE f):=by
 refine cQ (qW (E9.or<|F9.or Ø) o n PySem.boot_len (dD r iZ i) (he:=i)) ?_
 rintro σ H Q ⟨A,st,d,j,p,q⟩;obtain⟨x,m,g⟩:=R.ja p;refine⟨A,st,x,j,m,λv H1 s1 r1=>?_⟩
 cases x<;>first|(cases g;done)|skip
 .obtain⟨c,b⟩:=aV g;cases b;exact .inr<|.inl ⟨_,by rw[r1.str],by exact lim c,q _ H1 s1<|bY.mpr rfl⟩
 .cases g;obtain⟨l,vs,e,b,h⟩:=r1.tup;exact .inl ⟨l,vs,by rw[e],.inr b,by rw[h.length];exact q _ H1 s1<|bY.mpr rfl⟩
 .cases g;obtain⟨l,vs,e,b,h⟩:=r1.lst;exact .inl ⟨l,vs,by rw[e],.inl b,by rw[h.length];exact q _ H1 s1<|bY.mpr rfl⟩
 rename_i t ks ds;cases t<;>first|(cases g;done)|skip
 cases g;obtain⟨a,k,e,b,s⟩:=bK0 r1;exact .inr<|.inr ⟨a,k,by rw[e],b,by rw[s];exact q _ H1 s1<|bY.mpr rfl⟩
def QW:PO X none (tO X.K B Yz):=KW Š (by
 rintro σ H Q ⟨A,st,o,b,a,q⟩;cases a;exact q H<|bK.refl _)
def RW(h:PE X e (tP X.K B f)):PO X (some e) (tO X.K B<|Zz f):=KW (š h) (by
 rintro σ H Q ⟨A,st,o,a,d,q⟩;obtain⟨x,c,j⟩:=R.ja d;obtain⟨i,rfl,g⟩:=Ur j;cases g;exact⟨A,st,_,a,c,λv H1 s1 b=>⟨i,b.int,q H1 s1⟩⟩)
theorem vS{c:Type}(x:List c):∀(k a:Nat),((List.range k).map (a + ·)).filterMap (x[·]?)=(x.drop a).take k
 |0,a=>rfl
 |k+1,a=>by
  rw[XZ,Mf,oB,Jj];have e:((λb=>a+b) ∘ Nat.succ)=λb=>(a+1)+b:=by funext b;simp;lia
  rw[e,(vS x k<|a+1)]
  by_cases h:a<x.length
  .rw[Nat.add_zero,Ze h];simp only[List.drop_eq_getElem_cons h,List.take_succ_cons]
  rw[Nat.add_zero,ZA (by lia)]
  simp[List.drop_eq_nil_of_le (by lia:x.length<=a),List.drop_eq_nil_of_le (by lia:x.length<=a+1)]
theorem OU(n d:Nat)(o:ut):(match o with|none=>(d:Int)|some i=>if (1:Int)>0 then max 0 (min (if i<0 then i+(n:Int) else i) (n:Int)) else max (-1) (min (if i<0 then i+(n:Int) else i)<|(n:Int)-1))=((Ef n d o:Nat):Int):=by
 cases o with
 |none=>rfl
 |some i=>
  show (if (1)>0 then _ else _)=(((if i<0 then (i+n).toNat else min i.toNat n):Nat):Int)
  rw[xb (by decide)]
  by_cases h:i<0
  .rw[xb h,xb h];lia
  rw[Ta h,Ta h];lia
theorem Ĳ(lo a:ut)(n:Nat):Builtin.Str.strSliceIndices lo a 1 n=(List.range<|Ef n n a-Ef n 0 lo).map (Ef n 0 lo + ·):=by
 refine Fw (congrArg (λz=>sliceRange z _ 1)<|((OU n 0 lo)))<|Fw (congrArg (λz=>sliceRange _ z 1)<|((OU n n a))) ?_
 unfold sliceRange;simp only[show (1:Int)>0 by decide,if_true]
 have b:(if ((Ef n 0 lo):Int)<((Ef n n a):Int) then (((Ef n n a):Int)-((Ef n 0 lo):Int)+1-1)/1 else 0).toNat=Ef n n a-Ef n 0 lo:=by
  by_cases h:((Ef n 0 lo):Int)<((Ef n n a):Int)
  .rw[xb h];lia
  rw[Ta h];lia
 rw[b];refine Rk λk _=>?_
 lia
theorem bK2(n d:Nat)(b:d<=n)(o:ut):Ef n d o<=n:=by
 cases o with
 |none=>exact b
 |some v=>
  show (if v<0 then (v+n).toNat else min v.toNat n)<=n
  by_cases a:v<0
  .rw[xb a];lia
  rw[Ta a];lia
theorem Ù(x:ac)(lo b:ut):Txt.slice ⟨x.toArray⟩ lo b=⟨(cut x lo b).toArray⟩:=by
 unfold Txt.slice cut;rw[str_len,Ĳ];have c:=bK2 x.length x.length (Fc _) b
 by_cases h:Ef x.length x.length b-Ef x.length 0 lo=x.length
 .have a:Ef x.length 0 lo=0\/x.length=0:=by lia
  rw[xb (by simp[h]),h]
  rcases a with a|a
  .rw[a,drop_zero,List.take_length]
  rw[Vm.mp a];simp
 rw[Ta (by simp[h])]
 have e:(λ(i:Nat)=>(⟨x.toArray⟩:Str).cps[i]?)=λi=>x[i]?:=by simp
 rw[e,vS]
def bT2:lw:=λx lo a H Q=>∃z:ac,x=.str ⟨z.toArray⟩/\z.length<=sizeLine/\Q (.str ⟨(cut z lo a).toArray⟩) H
def bO9:Tp X bT2:=by
 intro aa s σ H x v o n lo g p Q I l b pl f h;obtain⟨z,rfl,m,q⟩:=h;obtain⟨t,rfl⟩:=l;refine⟨"str",_,PySem.F.slot_str_getitem.lookup,typeIs_str _ _ _,?_⟩;have c:(Txt.slice ⟨z.toArray⟩ lo g).length<=sizeLine:=ye (Txt.slice_le _ _ _) m;have a:∀t' k,EP X aa σ Q (.str (Txt.slice _ lo g) t') {s with toks:=k}:=λt' k=>⟨.str _,H,I.tok k,⟨t',by rw[Ù]⟩,q⟩
 cases pl with
 |none=>
  cases f with
  |none=>exact UA (l:=none) (u:=none) (st:=none) b rfl<|LB ⟨c,a⟩
  |int j d=>exact UA (l:=none) (u:=some (j,d)) (st:=none) b rfl<|LB ⟨c,a⟩
 |int i e=>
  cases f with
  |none=>exact UA (l:=some (i,e)) (u:=none) (st:=none) b rfl<|LB ⟨c,a⟩
  |int j d=>exact UA (l:=some (i,e)) (u:=some (j,d)) (st:=none) b rfl<|LB ⟨c,a⟩
def ĳ{K:Frag} (lo a:ut) (r:bJ K H ds vs):bJ K H (cut ds lo a) (dw vs lo a):=by
 unfold cut dw;rw[r.length];exact(r.drop _).take _
def NY{lo:Option Expr}{l u:Br} (z:PE X a (tP X.K B f)) (w:PO X lo (tO X.K B l)) (t:PO X hi (tO X.K B u)):PE X (.Subscript a (.Slice lo hi none p2) pos) (tI X.K B<|VB f l u):=by
 refine cQ (Ă (ţ.or bO9) z w t) ?_
 rintro σ H Q ⟨A,st,d,b,y,q⟩;obtain⟨x,s,F⟩:=R.ja y;obtain⟨o,r,E⟩:=R.ja F;obtain⟨j,m,g⟩:=R.ja E;refine⟨A,st,x,b,s,λv H1 s1 r1=>⟨A,st,o,b.mono s1,r,λG s2=>⟨A,st,j,b.mono<|s1.trans s2,m,λH3 s3=>?_⟩⟩⟩
 have h:=r1.mono<|s2.trans s3;cases x<;>first|(cases g;done)|skip
 .obtain⟨c,D⟩:=aV g;cases D;exact .inr ⟨_,h.str,lim c,q _ H3 (s1.trans<|s2.trans s3)<|gK.mpr rfl⟩
 cases g;obtain⟨p,vs,e,C,k⟩:=h.lst;exact .inl ⟨p,vs,e,C,λn i=>q _ _ (s1.trans<|s2.trans<|s3.trans<|cL i)<|jN (b.own.mono<|s1.trans<|s2.trans s3) i<|ĳ _ _ k⟩
end
def ij(cells:tz):List (Str×NameKind)->List (Str×Addr)->List (Str×Addr)
 |[],oa=>oa
 |(n,k)::r,oa=>if k == .free then ij cells r ((n,(cells.lookup n).getD 0)::oa) else ij cells r oa
theorem BE{env:Env}:∀(names:List (Str×NameKind)) (a:tz),(∀y∈names,y.2=.free->∃c,env.cells.lookup y.1=some c)->
  (forIn names a λx f=>if x.2 == .free then (do let c <- cellOf env x.1;pure (ForInStep.yield<|(x.1,c)::f)) else pure (ForInStep.yield f):Sem (List<|Str×Addr))=pure (ij env.cells names a)
 |[],a,_=>rfl
 |(n,k)::r,a,h=>by
  rw[forIn_cons];unfold ij
  by_cases d:k=.free
  .subst d;obtain⟨c,e⟩:=h (n,.free) Gb rfl;have e2:cellOf env n=pure c:=by unfold cellOf;rw[e]
   simp only[e2,e];exact BE r _ λy b=>h y<|Xb _ b
  have g:(k==NameKind.free)=false:=by simpa using d
  simp only[g];exact BE r _ λy b=>h y<|Xb _ b
def T8{a:Scope} (h:∀y∈a.names,y.2=.free->∃c,env.cells.lookup y.1=some c):closureFor a env=pure (ij env.cells a.names []):=by
 unfold closureFor;rw[<-(BE a.names [] h)];simp
theorem FH{cells:tz}:∀(names:List (Str×NameKind)) (b:tz) (x:Str) (c:Addr),(∀y∈names,y.2=.free->∃c,cells.lookup y.1=some c)->(x,c)∈ij cells names b->((x,NameKind.free)∈names/\cells.lookup x=some c)\/(x,c)∈b
 |[],b,x,c,_,h=>.inr h
 |(n,k)::r,b,x,c,g,h=>by
  unfold ij at h;have f:=λy j=>g y<|Xb _ j
  by_cases i:k=.free
  .subst i;obtain⟨l,e⟩:=g (n,.free) Gb rfl;rcases FH r _ x c f h with ⟨a,d⟩|a
   .exact .inl ⟨Xb _ a,d⟩
   rcases Uc.mp a with a|a
   .cases a;refine .inl ⟨Gb,?_⟩;rw[e];rfl
   exact .inr a
  rw[Ta (by simpa using i)]at h
  rcases FH r _ x c f h with ⟨a,d⟩|a
  .exact .inl ⟨Xb _ a,d⟩
  exact .inr a
theorem GH{cells:tz}:∀(names:List (Str×NameKind)) (a:tz) (x:Str),((x,NameKind.free)∈names\/∃c,(x,c)∈a)->∃c,(x,c)∈ij cells names a
 |[],a,x,h=>by
  rcases h with h|h
  .cases h
  exact h
 |(n,k)::r,a,x,h=>by
  unfold ij
  by_cases b:k=.free
  .subst b;refine GH r _ x ?_
   rcases h with h|⟨c,h⟩
   .rcases Uc.mp h with h|h
    .cases h;exact .inr ⟨_,Gb⟩
    exact .inl h
   exact .inr ⟨c,Xb _ h⟩
  rw[Ta (by simpa using b)]
  refine GH r _ x ?_
  rcases h with h|h
  .rcases Uc.mp h with h|h
   .cases h;exact absurd rfl b
   exact .inl h
  exact .inr h
theorem zB{a:Type}:∀{l:List (Str×a)} {x:Str} {c:a},(x,c)∈l->∃d,l.lookup x=some d
 |(n,v)::r,x,c,h=>by
  rw[Ii];cases b:x==n with
  |true=>exact⟨v,rfl⟩
  |false=>
   rcases Uc.mp h with h|h
   .cases h;simp at b
   exact zB h
theorem rK{env:Env}:∀(names:List (Str×NameKind)) (x:Str),(names.map λ(n,k)=>if (k==NameKind.free&&env.scope.kind == .function&&env.kindOf n==some .cell) then (n,NameKind.cell) else (n,k)).lookup x =
  (names.lookup x).map λk=>if (k==NameKind.free&&env.scope.kind == .function&&env.kindOf x==some .cell) then NameKind.cell else k
 |[],_=>rfl
 |(n,k)::r,x=>by
  have c:=@rK env r x;show List.lookup x ((if (k==NameKind.free&&env.scope.kind == .function&&env.kindOf n==some .cell)=true then (n,NameKind.cell) else (n,k))::_)=_
  cases b:x==n with
  |true=>
   have e:=Xk.mp b;subst e
   by_cases a:(k==NameKind.free&&env.scope.kind == .function&&env.kindOf x==some .cell)=true
   .rw[xb a,Ii,Ii,b];simp only[map_some];rw[xb a]
   rw[Ta a,Ii,Ii,b];simp only[map_some];rw[Ta a]
  |false=>
   by_cases a:(k==NameKind.free&&env.scope.kind == .function&&env.kindOf n==some .cell)=true
   .rwa [xb a,Ii,Ii,b]
   rwa [Ta a,Ii,Ii,b]
theorem uA:∀(names:List (Str×NameKind)) (n:Nat) (a:tz),cellsFrom n names a=cellsFrom n names []++a
 |[],_,_=>rfl
 |(x,k)::r,n,a=>by
  unfold cellsFrom;split
  .rw[uA r (n+1) _,uA r (n+1) [(x,n)],Sk];rfl
  exact uA r n a
theorem DD:∀(names:List (Str×NameKind)) (n:Nat) (a:tz) (x:Str) (c:Addr),(x,c)∈cellsFrom n names a->(x,c)∈a\/(x,NameKind.cell)∈names
 |[],_,_,_,_,h=>.inl h
 |(y,k)::r,n,a,x,c,h=>by
  unfold cellsFrom at h;split at h
  .rename_i b;rcases DD r _ _ x c h with z|z
   .rcases Uc.mp z with z|z
    .cases z;exact .inr (by rw[show k=NameKind.cell from by simpa using b];exact Gb)
    exact .inl z
   exact .inr<|Xb _ z
  rcases DD r _ _ x c h with z|z
  .exact .inl z
  exact .inr<|Xb _ z
theorem uB:∀(names:List (Str×NameKind)) (n:Nat) (a:tz) (x:Str),((x,NameKind.cell)∈names\/∃c,(x,c)∈a)->∃c,(x,c)∈cellsFrom n names a
 |[],_,_,x,h=>h.elim (λz=>nomatch z) id
 |(y,k)::r,n,a,x,h=>by
  unfold cellsFrom;split
  .refine uB r _ _ x ?_
   rcases h with h|⟨c,h⟩
   .rcases Uc.mp h with h|h
    .cases h;exact .inr ⟨n,Gb⟩
    exact .inl h
   exact .inr ⟨c,Xb _ h⟩
  rename_i b;refine uB r _ _ x ?_
  rcases h with h|h
  .rcases Uc.mp h with h|h
   .cases h;exact absurd rfl b
   exact .inl h
  exact .inr h
theorem JP{a:Type}(x:Str):∀(l r:List (Str×a)),(l++r).lookup x=(l.lookup x).or (r.lookup x)
 |[],r=>rfl
 |(y,v)::l,r=>by
  rw[List.cons_append,Ii,Ii];cases b:x==y with
  |true=>rfl
  |false=>exact JP x l r
theorem uC{b:Type}:∀{l:List (Str×b)} {x:Str} {v:b},(l.map (·.1)).Nodup->(x,v)∈l->l.lookup x=some v
 |(y,w)::l,x,v,a,h=>by
  rw[Mf,dj]at a;rw[Ii];rcases Uc.mp h with h|h
  .cases h;simp
  have c:(x==y)=false:=by
   rw[pq];intro z;exact a.1<|xf.mpr ⟨(x,v),h,z⟩
  rw[c];exact uC a.2 h
def Ú{A:Around} {s:Shared} {scope:Scope} {d:Addr} {Q:Env->Shared->Prop}
  (g:∀c,c.Ns s.heap.objs.size (λ_=>none)->(∀b o,s.heap.get? b=some o->c.get? b=some o)->CellsOk c (s.heap.objs.size+1) (cellsFrom (s.heap.objs.size+1) scope.names [])->
   Q {scope:=scope,locals:=s.heap.objs.size,globals:=d,cells:=cellsFrom (s.heap.objs.size+1) scope.names cl,qual:=qual,func:=none,code:=env.code,frame:=env.frame,builtins:=env.builtins} {s with heap:=c}) :
  wpAny M A (newFunctionEnv scope d cl [] qual none .none<|some env) Q E s:=by
 simp only[newFunctionEnv];refine Ha<|wpAny_alloc<|Ha<|wpAny_layCells _ (λname a cells=>by cases f:a==NameKind.cell<;>simp) _ _ _ _<|Ha<|Ob<|Ob ?_
 have ok:=cellsFrom_ok scope.names (s.heap.push {cls:=.type "dict",data:=.dict #[]}) _ [] ⟨λ_ _ e=>(nomatch e),List.Pairwise.nil⟩ (by rw[bh];exact Fc _)
 rw[bh]at ok;rw[(bh ..)];exact g _ ((Heap.Ns.new s.heap _).keeps<|pushCells_keeps _ _) (λb o q=>pushCells_keeps _ _ b o<|Zc _ q) ok
structure Lc(X:Cx)(scope:Scope)(is:ac):Prop where
 kind:scope.kind=.function
 nd:(scope.names.map (·.1)).Nodup
 free:∀x∈scope.names,x.2=.free->X.env.kindOf x.1=some .cell\/X.env.kindOf x.1=some .free
 own:∀(i:Nat) x,X.N[i]?=some x->(scope.names.lookup x=some .local\/scope.names.lookup x=some .cell)->i∈is
section
variable{X:Cx}{scope:Scope}{is:ac}
theorem Lc.names(S:Lc X scope is):∀x∈scope.names,x.2=.local->scope.names.lookup x.1=some .local:=λx a e=>uC S.nd (by rwa [<-e])
def fL(X:Cx)(a:Scope)(C:Addr)(Ea:Shared)(Na:Hp)(b:bv):Cx:=
 {X with Ea:=Ea,Na:=Na,env:=compEnvC a (cellsFrom (C+1) a.names<|ij X.env.cells a.names []) C X.env,outer:=X.stack,stack:=X.stack,ex:=b,fn:=λx=>a.names.lookup x==some .cell,pn:=[],xe:=λ_ _=>False,calm:=true}
theorem Lc.cells(S:Lc X scope is)(ok:X.Ok):∀y∈scope.names,y.2=.free->∃c,X.env.cells.lookup y.1=some c:=λy a b=>ok.has y.1<|S.free y a b
def Lc.lk(S:Lc X scope is)(ok:X.Ok){n:Nat}{x:Str}{c:Addr}(h:(cellsFrom n scope.names<|ij X.env.cells scope.names []).lookup x=some c) :
  ((cellsFrom n scope.names []).lookup x=some c/\scope.names.lookup x=some .cell)\/(scope.names.lookup x=some .free/\X.env.cells.lookup x=some c):=by
 rw[uA,JP]at h;cases e:(cellsFrom n scope.names []).lookup x with
 |some d=>
  rw[e]at h;cases h;rcases DD _ _ _ _ _ (Ij e) with z|z
  .cases z
  exact .inl ⟨rfl,uC S.nd z⟩
 |none=>
  rw[e]at h;rcases FH scope.names [] x c (S.cells ok) (Ij h) with ⟨b,a⟩|a
  .exact .inr ⟨uC S.nd b,a⟩
  cases a
def Mo(is:ac)(a:ki):ki:=is.foldl (λτ i=>τ.set i none) a
def xS(is:ac):∀a:ki,(Mo is a).length=a.length:=by
 induction is with
 |nil=>exact λ_=>rfl
 |cons i is b=>intro a;show (Mo is _).length=_;rw[b,rm]
def Ĵ(is:ac):∀(b:ki)(j:Nat)(v:V),(Mo is b)[j]?=some (some v)->b[j]?=some (some v)/\j∉is:=by
 induction is with
 |nil=>exact λb j v h=>⟨h,by simp⟩
 |cons i is c=>
  intro b j v h;obtain⟨a,d⟩:=c _ j v h;rw[Bg]at a
  by_cases e:i=j
  .subst e;rw[xb rfl]at a;split at a<;>cases a
  rw[Ta e]at a;exact⟨a,λz=>(Uc.mp z).elim (λz=>e z.symm) d⟩
theorem Χ{s:Shared}{E:bv} (S:Lc X scope is) (n:X.calm=true) (I:Aa X aa σ H s) (B:∀b∈E,Dj X aa H b) (w:∀b∈E,b<s.heap.objs.size)
  (V:h'.Ns s.heap.objs.size λ_=>none) (t:∀b o,s.heap.get? b=some o->h'.get? b=some o) (G:CellsOk h' (s.heap.objs.size+1) (cellsFrom (s.heap.objs.size+1) scope.names [])) :
  Aa (fL X scope s.heap.objs.size s H E) [] (Mo is σ) H {s with heap:=h',toks:=t'}:=by
 have lk:=@Lc.lk X scope is S I.ok<|s.heap.objs.size+1;have Q:=λb j=>df<|w b j
 have K:∀x c,X.env.cells.lookup x=some c->c<s.heap.objs.size:=λx c e=>by
  obtain⟨v,q⟩:=I.cell x c e;exact q.lt
 have d:=λx c e=>(G.empty x c<|Ij e).2
 have r:∀x k,(k=.cell\/k=.free)->scope.names.lookup x=some k->∃c,(cellsFrom (s.heap.objs.size+1) scope.names<|ij X.env.cells scope.names []).lookup x=some c:=λx k t e=>by
  have D:=Ij e;rcases t with rfl|rfl
  .obtain⟨c,q⟩:=uB scope.names (s.heap.objs.size+1) (ij X.env.cells scope.names []) x<|.inl D;exact zB q
  obtain⟨c,q⟩:=uB scope.names (s.heap.objs.size+1) (ij X.env.cells scope.names []) x<|.inr<|GH scope.names [] x<|.inl D;exact zB q
 have C:∀x,(relabel scope X.env).names.lookup x=some .cell\/(relabel scope X.env).names.lookup x=some .free->scope.names.lookup x=some .cell\/scope.names.lookup x=some .free:=λx h=>by
  unfold relabel at h;rw[rK]at h;cases e:scope.names.lookup x with
  |none=>rw[e]at h;rcases h with h|h<;>cases h
  |some k=>
   rw[e]at h;simp only[map_some]at h
   by_cases n:(k==NameKind.free&&X.env.scope.kind == .function&&X.env.kindOf x==some .cell)=true
   .simp only[and_eq_true,beq_iff_eq]at n;exact .inr (by rw[n.1.1])
   rwa [Ta n]at h
 refine⟨⟨I.ok.mod,?_,I.ok.glob,I.ok.blt,Fc _,λx y c h1 h2=>?_,λx h=>?_,λx c F e=>?_,λ_=>I.ok.hd n,I.ok.frames,.inl rfl,λb j=>⟨Q b j,λx c e z=>?_⟩,I.bs,?_,λb o e j=>?_,λb j z=>?_,I.stack,I.vj⟩,
  rfl,I.bare,Un.kept t,⟨_,V,λi x v e1 e2 g=>?_⟩,λx c e=>?_,I.Bb.fresh<|Fc _,λx c e=>?_,(λp U=>absurd (show p∈([]) from U)<|by simp),I.Bb.kept t,by rw[xS];exact I.len⟩
 .exact S.kind
 .rcases lk h1 with ⟨a,_⟩|⟨_,a⟩ <;> rcases lk h2 with ⟨A,_⟩|⟨_,A⟩
  .exact name_of_addr G.apart (Ij a) (Ij A)
  .exact absurd (jg (K y c A)<|TJ<|d x c a) (Lh _)
  .exact absurd (jg (K x c a)<|TJ<|d y c A) (Lh _)
  exact I.ok.inj x y c a A
 .rcases C x h with e|e
  .exact r x _ (.inl rfl) e
  exact r x _ (.inr rfl) e
 .have F:=Xk.mp F;rcases lk e with ⟨a,_⟩|⟨a,_⟩
  .have:=d x c a;show s.heap.objs.size<=c;lia
  rw[F]at a;cases a
 .rcases lk e with ⟨a,_⟩|⟨_,a⟩
  .have h2:=w b j;rw[<-z]at h2;exact absurd (jg h2<|TJ<|d x c a)<|Lh _
  exact(B b j).2.2.2.2.1 x c a z
 .exact ye I.ok.mn I.sz
 .rcases (B b j).2.2.2.1 with z|z
  .exact I.ok.Pl b o e z
  exact absurd (jg (Dd e)<|ye I.ok.mn z)<|Lh _
 .rcases Uc.mp (I.Yi b z) with z|z
  .exact(B b j).2.1 z
  exact(B b j).2.2.1 z
 .obtain⟨e2,M⟩:=Ĵ is σ i v e2;have g:(relabel scope X.env).names.lookup x=some .local\/(relabel scope X.env).names.lookup x=some .cell\/(relabel scope X.env).names.lookup x=some .free:=g;have l:scope.names.lookup x=some .free:=by
   have f:=g;unfold relabel at f;rw[rK]at f;cases e:scope.names.lookup x with
   |none=>rw[e]at f;rcases f with f|f|f<;>cases f
   |some k=>
    rw[e]at f;simp only[map_some]at f
    by_cases n:(k==NameKind.free&&X.env.scope.kind == .function&&X.env.kindOf x==some .cell)=true
    .simp only[and_eq_true,beq_iff_eq]at n;rw[n.1.1]
    rw[Ta n]at f;rcases f with f|f|f
    .exact absurd (S.own i x e1<|.inl<|by rw[e,f]) M
    .exact absurd (S.own i x e1<|.inr<|by rw[e,f]) M
    exact f
  have P:(relabel scope X.env).names.lookup x=some .cell\/(relabel scope X.env).names.lookup x=some .free:=by
   rcases g with g|g|g
   .unfold relabel at g;rw[rK,l]at g;simp only[map_some]at g;split at g<;>cases g
   .exact .inl g
   exact .inr g
  have J:=S.free _ (Ij l) rfl;obtain⟨m,D,W⟩:=I.loc;obtain⟨u,O,R⟩:=W i x v e1 e2<|.inr J;refine⟨u,O,.inr ⟨P,?_⟩⟩;rcases R with ⟨T,_⟩|⟨_,c,Y,N⟩
  .rcases J with q|q<;>rw[T]at q<;>cases q
  obtain⟨Z,L⟩:=r x _ (.inr rfl) l;rcases lk L with ⟨_,a⟩|⟨_,a⟩
  .rw[l]at a;cases a
  rw[Y]at a;cases a;exact⟨c,L,N.keeps t⟩
 .rcases lk e with ⟨a,_⟩|⟨_,a⟩
  .exact⟨_,(G.empty x c<|Ij a).1⟩
  obtain⟨v,q⟩:=I.cell x c a;exact⟨v,q.keeps t⟩
 rcases lk e with ⟨a,_⟩|⟨_,a⟩
 .exact I.Bb.fresh (by have:=d x c a;lia)
 exact I.Df x c a
end
def U7(e a d c:Expr)(b:Scope)(f:Pos)(it g:Value)(env:Env) :
  compTurn (.ListComp e [⟨a,d,[c],0⟩] b f) 0 it g env=(standAt d.pos >>= λ_=>pyNext it >>= λr=>match r with
   |none=>pure<|.done .next
   |some v=>letOwnedTupleGo a it v >>= λ_=>assign a env v >>= λ_=>isTrue c env (eval c env) >>= λok=>
    if ok=true then (eval e env >>= λx=>call (.builtin "list.append") [g,x] >>= λ_=>again<|.compLoop (.ListComp e [⟨a,d,[c],0⟩] b f) 0 it g env)
    else again (.compLoop (.ListComp e [⟨a,d,[c],0⟩] b f) 0 it g env)):=by
 unfold compTurn;simp;rfl
def m7(d a c:Expr)(b:Scope)(e:Pos)(it f:Value)(env:Env) :
  compTurn (.ListComp d [⟨a,c,[],0⟩] b e) 0 it f env=(standAt c.pos >>= λ_=>pyNext it >>= λr=>match r with
   |none=>pure<|.done .next
   |some v=>letOwnedTupleGo a it v >>= λ_=>assign a env v >>= λ_=>
    (eval d env >>= λx=>call (.builtin "list.append") [f,x] >>= λ_=>again<|.compLoop (.ListComp d [⟨a,c,[],0⟩] b e) 0 it f env)):=by
 unfold compTurn;simp;rfl
section
variable{X:Cx}{scope:Scope}{is:ac}{elt tg iter:Expr}{pos:Pos}{wi:TI}{g:TG}{te:TE}{tt:TT}
def N2(is:ac)(e:TI)(g:TG)(f:TT)(te:TE):TE:=λσ H Q=>e σ H λJ H1=>∀p,H1 p=none->∃W:Nat->Nat->ki->zn,(∃m,W 0 m (Mo is σ) []<|Nb H1 p<|.lst [])/\
 ∀i m τ vs H,W i m τ vs H->H p=some (.lst vs)/\((J.stop i H/\Q (.ref p) H)\/(J.go i H/\∀x H',J.Bu i H x H'->g x τ H' λb h=>f b h λk d=>
  if k=true then te b d λy c=>c p=some (.lst vs)/\vs.length<sizeLine/\∃a,a < m/\W (i+1) a b (vs++[y]) (Nb c p<|.lst<|vs++[y]) else ∃a,a < m/\W (i+1) a b vs d))
def xv{j:bv} (I:Aa X aa σ H s) (g:∀b∈j,Dj X aa H b) (p:s.heap.objs.size<=C) (J:Aa (fL X scope C s H j) [] σ5 H5 s5)
  (f:Heap.SameBut C s5.heap h'):Aa X aa σ H5 {s5 with heap:=h'}:=by
 have k:H5 C=none:=J.free;have h:∀b o,s.heap.get? b=some o->b≠C:=λb o e z=>by
  subst z;exact absurd (jg (Dd e) p)<|Lh _
 have t:=λb o e=>by
  refine(J.Bb b o e).Sf (λc v hc q=>f.extBut c v ?_ q) (λ_ q=>q) λ_ _ q=>q
  rintro rfl;rcases hc with z|z
  .subst z;rw[k]at e;cases e
  rw[k]at z;cases z
 obtain⟨u,w,r,tt,os⟩:=s5;have i:=J.os;subst i;exact I.call (d':=r) (t':=tt) (⟨λb o e n a d=>f.extBut b o (h b o e)<|J.base.keep b o e n a d,λb o e n a d=>by
   obtain⟨l,q⟩:=J.base.slot b o e n a d;exact⟨l,f.extBut b _ (h b o e) q⟩,J.base.free,λb o e d=>by
   obtain⟨m,q⟩:=J.base.there b o e d;exact⟨m,f.extBut b _ (h b o e) q⟩,J.base.Eh,J.base.Rg,J.base.Dh⟩) t J.bare λb a=>⟨(g b a).2.2.2.1,(g b a).2.1,(g b a).2.2.2.2.1,(g b a).2.2.2.2.2⟩
theorem WQ{Y:Cx} {p:Addr} {k:Sem α} {Q:α->na} (he:PE Y elt te) (c:∀e a,Y.xe e a->E e a) (I:Aa Y aa τ H s) (d:te τ H λy b=>b p=some (.lst vs)/\vs.length<sizeLine/\∀a,Aa Y aa τ (Nb b p<|.lst<|vs++[y]) a->wpAny (model Y.prog Y.w) Y.A k Q E a) :
  wpAny (model Y.prog Y.w) Y.A (eval elt Y.env >>= λx=>call (.builtin "list.append") [.ref p,x] >>= λ_=>k) Q E s:=by
 refine Ha<|Wk (he aa s τ H _ I d) (λu s1 ⟨y,b,I4,r4,hp,g,q⟩=>?_) c
 obtain⟨z,f,n,r,h,e⟩:=I4.Sj hp;refine Ha<|xq EJ ⟨_,e,rfl⟩ PySem.F.entry_list_append (KZ _ _) (PySem.list_append p f.toArray n u<|by rw[Ng];lia) ⟨e,(q _<|I4.Sn hp e (by simp) (r.append<|.cons r4 .nil) ?_)⟩
 rw[af,ah];lia
end
def Û{Y:Cx} {env:Env} {g:TG} {it p:Addr} {B:bv} {F:wS} {R:Result->na} {Rn:Pos} {rest:Sem Fin}
  (T:Turn Y.prog Y.w Y.K tg J B it F) (O:Y.calm=true) (hE:Y.xe=λ_ _=>False) (hg:PG Y tg g) (hq:(Code.compLoop e 0 (.ref it) (.ref p) Y.env).quiet=true)
  (Hq:∀(s:Shared)(Q:Fin->na),wpAny (model Y.prog Y.w) Y.A (pyNext (.ref it) >>= λr=>match r with
    |none=>pure<|.done .next
    |some v=>letOwnedTupleGo tg (.ref it) v >>= λ_=>assign tg Y.env v >>= λ_=>rest) Q (λ_ _=>False) s->
   wpAny (model Y.prog Y.w) (Y.A.under<|.compLoop e 0 (.ref it) (.ref p) Y.env) ((model Y.prog Y.w).den<|.compLoop e 0 (.ref it) (.ref p) Y.env) Q (λ_ _=>False) s)
  (Hl:∀(τ:ki)(H:Hp)(s:Shared) (S:ca) (vs:ls) (N:AC) (Q:Fin->na),Aa Y S τ H s->
   (tt τ H λk f=>if k=true then te τ f λy D=>D p=some (.lst vs)/\vs.length<sizeLine/\N (Nb D p<|.lst<|vs++[y]) (vs++[y]) else N f vs)->
   (∀A a t,Aa Y S τ a A->N a t->Q (.again<|.compLoop e 0 (.ref it) (.ref p) Y.env) A)->wpAny (model Y.prog Y.w) Y.A rest Q (λ_ _=>False) s)
  (W:Nat->Nat->ki->zn) {Z:s0}
  (step:∀i m τ vs H,W i m τ vs H->H p=some (.lst vs)/\((J.stop i H/\Z H)\/(J.go i H/\∀x a,J.Bu i H x a->g x τ a λE H2=>tt E H2 λk f=>
   if k=true then te E f λy D=>D p=some (.lst vs)/\vs.length<sizeLine/\∃c,c < m/\W (i+1) c E (vs++[y]) (Nb D p<|.lst<|vs++[y]) else ∃c,c < m/\W (i+1) c E vs f)))
  (hR:∀τ H s,Aa Y [] τ H s->Z H->R (.ok .next) s) (I:Aa Y [] τ H s) (st:F i s.heap) (P:∀b∈B,Dj Y [] H b) (w:W i m τ vs H) :
  codeAny (model Y.prog Y.w) Y.A (.compLoop e 0 (.ref it) (.ref p) Y.env) R s:=by
 have L:∀{a:Hp},(∀b∈B,a b=none)->∀b∈B,Dj Y [] a b:=λhn b h=>⟨hn b h,(P b h).2⟩
 refine codeAny_loop hq (λn A=>∃i U Jg a,Aa Y [] U a A/\F i A.heap/\(∀b∈B,a b=none)/\W i n U Jg a) (λn s3 hI=>?_) m ⟨i,τ,vs,H,I,st,λb h=>(P b h).1,w⟩
 obtain⟨i,C,Q2,f,I3,V,X,w3⟩:=hI;refine Wk (Hq s3 _ ?_) (λ_ _ q=>q)<|λ_ _ q=>q.elim
 obtain⟨hp,G⟩:=step i n C Q2 f w3;rcases G with ⟨z,qe⟩|⟨go,G⟩
 .refine Ha (wc (T.done Y rfl rfl rfl O i [] s3 C f _ I3 (L X) V z) λr s4 ⟨hr,I4⟩=>?_)
  subst hr;exact Ob<|hR C f s4 I4 qe
 refine Ha<|wc (T.item Y rfl rfl rfl O i [] s3 C f _ I3 (L X) V go) λr s4 ⟨u,hr,h4⟩=>?_
 subst hr;refine Ha<|wc h4 λ_ s5 ⟨x,H5,I5,r5,y5,l,K⟩=>?_
 have Bl:=hg _ s5 C H5 x u _ (I5.pinned (L K)<|T.obj _ _ l) r5<|G x H5 y5;rw[hE]at Bl;refine Ha<|wc Bl λ_ s6 ⟨j,H6,I6,q6⟩=>?_
 refine Hl j H6 s6 _ Q2 (λa t=>∃c,c < n/\W (i+1) c j t a) _ I6 q6 λs7 H7 t M ⟨c,hm,w7⟩=>⟨rfl,c,hm,i+1,j,t,H7,M.Vf,T.keep _ _ _ l λb h o e=>(M.pin (b,o)<|Ag _<|Ag _<|jy h e).1,λb h=>?_,w7⟩
 obtain⟨o,e,d⟩:=T.obj _ _ l b h;exact(M.pin (b,o)<|Ag _<|Ag _<|jy h e).2.1
section
variable{X:Cx}{scope:Scope}{is:ac}{elt tg iter c:Expr}{pos:Pos}{wi:TI}{g:TG}{te:TE}{tt:TT}
def wG{Zx:Option (Value->Sem Unit)} {l:ca} {s:Shared} {H:Hp} {Q:VK} {f:List Expr} {rest:Env->Value->Value->Sem Fin} (S:Lc X scope is) (hc:X.calm=true) (hi:L2.PI X tg iter wi) (hg:∀C j i a,PG (fL X scope C j i a) tg g)
  (Oq:∀it oa env,(Code.compLoop (.ListComp elt [⟨tg,iter,f,0⟩] scope pos) 0 it oa env).quiet=true)
  (Hq:∀C j i a it p (s:Shared) (Q:Fin->na),wpAny (model X.prog X.w) X.A (pyNext (.ref it) >>= λr=>match r with
    |none=>pure<|.done .next
    |some v=>letOwnedTupleGo tg (.ref it) v >>= λ_=>assign tg (fL X scope C j i a).env v >>= λ_=>rest (fL X scope C j i a).env (.ref it)<|.ref p) Q (λ_ _=>False) s->
   wpAny (model X.prog X.w) (X.A.under<|.compLoop (.ListComp elt [⟨tg,iter,f,0⟩] scope pos) 0 (.ref it) (.ref p) (fL X scope C j i a).env) ((model X.prog X.w).den<|.compLoop (.ListComp elt [⟨tg,iter,f,0⟩] scope pos) 0 (.ref it) (.ref p) (fL X scope C j i a).env) Q (λ_ _=>False) s)
  (Hl:∀C j i a it p (n:ki) (H:Hp) (s:Shared) (l:ca) (vs:ls) (N:AC) (Q:Fin->na),Aa (fL X scope C j i a) l n H s->
   (tt n H λk u=>if k=true then te n u λy U=>U p=some (.lst vs)/\vs.length<sizeLine/\N (Nb U p<|.lst<|vs++[y]) (vs++[y]) else N u vs)->
   (∀K V ws,Aa (fL X scope C j i a) l n V K->N V ws->Q (.again<|.compLoop (.ListComp elt [⟨tg,iter,f,0⟩] scope pos) 0 (.ref it) (.ref p) (fL X scope C j i a).env) K)->
   wpAny (model X.prog X.w) X.A (rest (fL X scope C j i a).env (.ref it)<|.ref p) Q (λ_ _=>False) s)
  (hs:∀x,foldedSetIterable iter X.env x=pure x) (I:Aa X l σ H s) (h:N2 is wi g tt te σ H Q)
  (SK:∀C p B w E D u a n,D.heap.objs.size<=C->Aa X l σ u D->(∀b∈a,Dj X l u b)->Aa (fL X scope C D u a) [] n B w->w.heap.Ns C E->Q (.ref p) B->compPost (model X.prog X.w) X.A X.xe Zx Qf (.ref p) C (.ok .next) w) :
  wpAny (model X.prog X.w) X.A (comprehension (.ListComp elt [⟨tg,iter,f,0⟩] scope pos) scope X.env ppos (newList []) false (eval iter X.env) Zx) Qf X.xe s:=by
 refine wpAny_comprehension_free rfl hs (T8<|S.cells I.ok) S.kind S.names<|wc (hi l s σ H _ I h) λv s1 h1=>wc h1 λIL t h2=>?_
 obtain⟨it,a,tn,J,H2,e,R,T,Z,M,hW⟩:=h2;subst e;refine Et<|Ú λOi Lq F Gq=>?_
 have P:Aa X l σ _ {t with heap:=t.heap.push {cls:=.type "list",data:=.seq ([]).toArray} }:=R.Wq .nil<|qh _
 obtain⟨W,⟨m,w0⟩,step⟩:=hW t.heap.objs.size R.fresh;have z:=λb d=>let ⟨o,e,_⟩:=T.obj 0 _ Z b d;Dd e
 have G:∀b∈a,Dj X l (Nb H2 t.heap.objs.size<|.lst []) b:=λb d=>⟨by rw[bR<|df<|z b d];exact(M b d).1,(M b d).2⟩
 have L:=F;have A:=Χ (t':=t.toks) S hc P G (λb d=>jg (z b d)<|by rw[bh];exact bp _) Lq L Gq
 have Y:=T.keep 0 _ _ Z λb _ o e=>L b o<|Zc _ e
 have q:=Û (Y:=fL X scope _ _ _ a) (env:=X.env) (Rn:=pos) T rfl rfl (hg _ _ _ a) (Oq _ _ _) (Hq _ _ _ a it t.heap.objs.size) (Hl _ _ _ a it t.heap.objs.size) W step
  (λn B w O q5=>by
   obtain⟨E,Mi,_⟩:=O.loc;exact SK _ _ B w E _ _ a n (Fc _) P G O Mi q5) A Y (λb d=>⟨(G b d).1,(A.ok.XB b d).1,A.ok.kl b d,.inl d,λx c e=>(A.ok.XB b d).2 x c e,λp hp=>absurd (show p∈([]) from hp)<|by simp⟩) w0
 exact codeAny_compStart_list q<|T.self _ 0 _ _ _ Y q
def tL{it a:Value}:(Code.compLoop e 0 it a env).quiet=true:=rfl
def eJ {Y : Cx} {it p : Addr}  {Q : Fin -> Shared -> Prop} (h : wpAny (model X.prog X.w) X.A (pyNext (.ref it) >>= fun r => match r with
        |none=>pure<|.done .next
        |some v=>letOwnedTupleGo tg (.ref it) v >>= λ_=>assign tg Y.env v >>= λ_=>(eval elt Y.env >>= λx=>call (.builtin "list.append") [.ref p,x] >>= λ_=>again<|.compLoop (.ListComp elt [⟨tg,iter,[],0⟩] scope pos) 0 (.ref it) (.ref p) Y.env)) Q (λ_ _=>False) s) :
      wpAny (model X.prog X.w) (X.A.under<|.compLoop (.ListComp elt [⟨tg,iter,[],0⟩] scope pos) 0 (.ref it) (.ref p) Y.env) ((model X.prog X.w).den<|.compLoop (.ListComp elt [⟨tg,iter,[],0⟩] scope pos) 0 (.ref it) (.ref p) Y.env) Q (λ_ _=>False) s:=by
 refine wpAny_noted ?_
 rw[m7];exact Ha<|Pt<|Wk h (λ_ _ q=>q) λ_ _ q=>q.elim
def hJ {Y : Cx} {it p : Addr}  {Q : Fin -> Shared -> Prop} (h : wpAny (model X.prog X.w) X.A (pyNext (.ref it) >>= fun r => match r with
        |none=>pure<|.done .next
        |some v=>letOwnedTupleGo tg (.ref it) v >>= λ_=>assign tg Y.env v >>= λ_=>(isTrue c Y.env (eval c Y.env) >>= λok=>if ok=true then (eval elt Y.env >>= λx=>call (.builtin "list.append") [.ref p,x] >>= λ_=>again<|.compLoop (.ListComp elt [⟨tg,iter,[c],0⟩] scope pos) 0 (.ref it) (.ref p) Y.env)
          else again (.compLoop (.ListComp elt [⟨tg,iter,[c],0⟩] scope pos) 0 (.ref it) (.ref p) Y.env))) Q (λ_ _=>False) s) :
      wpAny (model X.prog X.w) (X.A.under<|.compLoop (.ListComp elt [⟨tg,iter,[c],0⟩] scope pos) 0 (.ref it) (.ref p) Y.env) ((model X.prog X.w).den<|.compLoop (.ListComp elt [⟨tg,iter,[c],0⟩] scope pos) 0 (.ref it) (.ref p) Y.env) Q (λ_ _=>False) s:=by
 refine wpAny_noted ?_
 rw[U7];exact Ha<|Pt<|Wk h (λ_ _ q=>q) λ_ _ q=>q.elim
def bK3:TT:=λ_ H Q=>Q true H
def KI{Y:Cx}(m:Y.xe=λ_ _=>False)(he:PE Y elt te){it p:Addr}(c:ki)(H:Hp)(s:Shared)(g:ca)(vs:ls)(N:AC)(Q:Fin->na)(I:Aa Y g c H s)
  (h:bK3 c H λk j=>if k=true then te c j λy f=>f p=some (.lst vs)/\vs.length<sizeLine/\N (Nb f p<|.lst<|vs++[y]) (vs++[y]) else N j vs)
  (mono:∀(Q i:VK),(∀v d,Q v d->i v d)->te c H Q->te c H i)
  (q:∀e d l,Aa Y g c d e->N d l->Q (.again<|.compLoop (.ListComp elt [⟨tg,iter,[],0⟩] scope pos) 0 (.ref it) (.ref p) Y.env) e) :
  wpAny (model Y.prog Y.w) Y.A (eval elt Y.env >>= λx=>call (.builtin "list.append") [.ref p,x] >>= λ_=>again<|.compLoop (.ListComp elt [⟨tg,iter,[],0⟩] scope pos) 0 (.ref it) (.ref p) Y.env) Q (λ_ _=>False) s:=by
 exact WQ he (by rw[m];exact λ_ _ z=>z) I<|mono _ _ (λy f ⟨a,b,n⟩=>⟨a,b,λe o=>Ob<|q e _ _ o n⟩) h
end
section
variable{K:Frag} {st:ua}
def bK4(is:ac):∀st:ua,(Wh is st).length=st.length:=by
 induction is with
 |nil=>exact λ_=>rfl
 |cons i is a=>intro st;show (Wh is _).length=_;rw[a,rm]
def mz(is:ac):∀(st:ua)(j:Nat)(x:Sl),(Wh is st)[j]?=some (some x)->st[j]?=some (some x)/\j∉is:=by
 induction is with
 |nil=>exact λσ j v h=>⟨h,by simp⟩
 |cons i is b=>
  intro σ j v h;obtain⟨a,c⟩:=b _ j v h;rw[Bg]at a
  by_cases e:i=j
  .subst e;rw[xb rfl]at a;split at a<;>cases a
  rw[Ta e]at a;exact⟨a,λz=>(Uc.mp z).elim (λz=>e z.symm) c⟩
def YF(is:ac):∀(a:ki)(j:Nat),j∉is->(Mo is a)[j]?=a[j]?:=by
 induction is with
 |nil=>exact λa j _=>rfl
 |cons i is b=>
  intro a j h;show (Mo is _)[j]?=_;rw[b _ j λz=>h<|Xb _ z,Bg,Ta<|show ¬ i=j from λz=>h<|z ▸ Gb]
theorem RS.Wh(is:ac)(r:RS K B A H st σ):RS K B A H (Pu.Wh is st) (Mo is σ) where
 len:=by rw[bK4,xS,r.len]
 own:=r.own
 Mh:=r.Mh
 val:=λi d e=>by
  obtain⟨e1,h⟩:=mz is st i _ e;rw[YF is σ i h];exact r.val i d e1
 lst:=λi c xs e=>by
  obtain⟨e1,h⟩:=mz is st i _ e;obtain⟨a,o,vs,e2,m,g,b,q,u⟩:=r.lst i c xs e1;refine⟨a,o,vs,by rwa [YF is σ i h],m,g,b,q,λj k' ys ej WB=>?_⟩
  obtain⟨k,f⟩:=mz is st j _ ej;rw[YF is σ j f]at WB;exact u j k' ys k WB
def RS.weaken(r:RS K B A H st σ)(g:st'.length=st.length)(h:∀(j:Nat)(x:Sl),st'[j]?=some (some x)->st[j]?=some (some x)):RS K B A H st' σ where
 len:=g.trans r.len
 own:=r.own
 Mh:=r.Mh
 val:=λi d e=>r.val i d<|h i _ e
 lst:=λi c xs e=>by
  obtain⟨a,o,vs,e2,m,k,b,q,u⟩:=r.lst i c xs<|h i _ e;exact⟨a,o,vs,e2,m,k,b,q,λj f ys l n=>u j f ys (h j _ l) n⟩
def mem_mid{p b:Addr}:b∈A++p::B↔b=p\/b∈A++B:=by
 simp;constructor
 .rintro(h|h|h)
  .exact .inr (.inl h)
  .exact .inl h
  exact .inr<|.inr h
 rintro(h|h|h)
 .exact .inr (.inl h)
 .exact .inl h
 exact .inr<|.inr h
def zS{p:Addr} (d:H p=none):bK (hide (A++B) H) (hide (A++p::B)<|Nb H p o):=λb u q=>by
 have c:=bN _ _ _ _ q;have a:=bI c d
 rwa [cU<|(λz=>(mem_mid.mp z).elim a<|λz=>by rw[kE z]at q;cases q),bR a]
def RS.grow(r:RS K B A H st σ){p:Addr} (b:H p=none):RS K (p::B) A (Nb H p<|.lst vs) st σ where
 len:=r.len
 own:=λa c=>by
  by_cases e:a=p
  .subst e;rw[cG];rfl
  rw[bR e];exact r.own a<|(mem_mid.mp c).resolve_left e
 Mh:=λa c d=>by
  rcases Uc.mp d with rfl|d
  .exact r.own.free b (Kh _ c)
  exact r.Mh a c d
 val:=λj i e=>let ⟨u,e1,q⟩:=r.val j i e;⟨u,e1,q.mono<|zS b⟩
 lst:=λj g xs e=>by
  obtain⟨a,o,k,e1,m,h,f,q,u⟩:=r.lst j g xs e;exact⟨a,o,k,e1,m,by rwa [bR<|bI h b],f,q.mono<|zS b,u⟩
def RS.put{p:Addr}(r:RS K (p::B) A H st σ):RS K (p::B) A (Nb H p<|.lst vs) st σ:=by
 have c:hide _ (Nb H p<|.lst vs)=hide (A++p::B) H:=Ou<|mem_mid.mpr<|.inl rfl;refine⟨r.len,λb hb=>?_,r.Mh,λj d e=>by rw[c];exact r.val j d e,λj kk xs e=>?_⟩
 .by_cases e:b=p
  .subst e;rw[cG];rfl
  rw[bR e];exact r.own b hb
 obtain⟨a,o,g,e1,m,h,f,q,u⟩:=r.lst j kk xs e;refine⟨a,o,g,e1,m,?_,f,by rwa [c],u⟩
 have:a≠p:=λz=>r.Mh a m<|z ▸ Gb
 rwa [bR this]
end
def Eo(is:ac)(t:Tg):Prop:=∀d st a,t d st=.ok a->a.length=st.length/\∀(j:Nat),j∉is->a[j]?=st[j]?
def Ms:Eo [i] (bb i):=λd st a h=>by
 cases h;refine⟨rm,λj hj=>?_⟩
 rw[Bg,Ta λz=>hj (by simp[z])]
def GC:List Str->Bool
 |[]=>true
 |x::r=>!r.contains x&&GC r
theorem WX:∀{l:pi},GC l=true->l.Nodup
 |[],_=>.nil
 |x::r,h=>by
  unfold GC at h;simp only[and_eq_true]at h;exact dj.mpr ⟨λz=>by rw[List.contains_iff_mem.mpr z]at h;exact Bool.noConfusion h.1,WX h.2⟩
def OY(a:Scope)(b:List (Str×NameKind))(N:pi)(is:ac):Bool:=
 a.kind == .function&&GC (a.names.map (·.1))&&a.names.all (λx=>x.2 !=.free||b.lookup x.1==some .cell||b.lookup x.1==some .free) &&
  (List.range N.length).all λi=>(a.names.lookup (N.getD i "") !=some .local&&a.names.lookup (N.getD i "") !=some .cell)||is.contains i
def Lc.of{is:ac}(h:OY scope X.env.scope.names X.N is=true):Lc X scope is:=by
 unfold OY at h;simp only[and_eq_true,List.all_eq_true]at h;obtain⟨⟨⟨f,g⟩,d⟩,c⟩:=h;refine⟨by simpa using f,WX g,λx hx hf=>?_,λi x e hl=>?_⟩
 .have:=d x hx;simp at this;rcases this with (z|z)|z
  .exact absurd hf z
  .exact .inl z
  exact .inr z
 have:=c i<|Jd.mpr<|(zg.mp e).1;rw[ng,e]at this;simp at this;rcases this with ⟨b,a⟩|z
 .rcases hl with hl|hl
  .exact absurd hl b
  exact absurd hl a
 simpa using z
def bK5{K:Frag} (Q b:VK) (m:∀v a,Q v a->b v a) (h:tI K B f τ H Q):tI K B f τ H b:=
 let ⟨A,st,d,c,e,q⟩:=h;⟨A,st,d,c,e,λv a s r=>m v a<|q v a s r⟩
def yr(K:Frag)(f:Ex):TE:=λτ H Q=>∃B,tI K B f τ H Q
def O2(K:Frag)(f:Ex):TT:=λτ H Q=>∃B,tT K B f τ H Q
def K2(K:Frag)(t:Tg):TG:=λv τ H Q=>∃B,tG K B t v τ H Q
def ft(h:∀B,PE X e<|tI X.K B f):PE X e (yr X.K f):=λaa s σ H Q I ⟨B,q⟩=>h B aa s σ H Q I q
def tJ(h:∀B,PT X e<|tT X.K B f):PT X e (O2 X.K f):=λaa s σ H Q I ⟨B,q⟩=>h B aa s σ H Q I q
def jt{t:Tg}(h:∀B,PG X e<|tG X.K B t):PG X e (K2 X.K t):=λaa s σ H v u Q I r ⟨B,q⟩=>h B aa s σ H v u Q I r q
def Gr{K:Frag} (Q a:VK) (m:∀v b,Q v b->a v b) (h:yr K f τ H Q):yr K f τ H a:=let ⟨B,q⟩:=h;⟨B,bK5 Q a m q⟩
theorem Qs{K:Frag} {is:ac} {t:Tg} {c:Ex} {H:Hp} (r:Eo is t)
  (F:∀o H Q,O2 K c o H Q->tt o H Q) {st:ua} (S:RS K B A H st σ) (hx:it st=.ok xs) (hl:xs.length<=big) (hy:jX t c f (Wh is st) xs=.ok ys) {Q:VK}
  (q:∀p vs H1 d,bK H H1->H1 p=none->bK H1 d->d p=some (.lst vs)->bJ K (hide (A++p::B) d) ys vs->Q (.ref p) d):N2 is (vk K B it) (K2 K t) tt (yr K f) σ H Q:=by
 refine⟨A,st,xs,S,hx,λJ H1 s1 HL p hp=>⟨λi m o vs d=>m=xs.length-i/\i<=xs.length/\vs.length<=i/\d p=some (.lst vs)/\bK H1 d/\RS K _ A d _ o/\
   ∃ds rest,bJ K (hide (A++p::B) d) ds vs/\jX t c f _ (xs.drop i)=.ok rest/\ds++rest=ys,⟨xs.length,rfl,qh _,qh _,cG,cL hp,((S.mono s1).Wh is).grow hp,[],ys,.nil,by rwa [drop_zero],rfl⟩,?_⟩⟩
 rintro i m o vs d ⟨rfl,hi,hvl,l,n,N,ds,rest,s,C,L⟩;refine⟨l,?_⟩;have U:∀a,a∈(p::A)++B↔a∈A++p::B:=λa=>by
  rw[mem_mid];exact Uc
 obtain⟨i1,Z⟩:=HL _ d (λb u z=>by
  have M:=bN _ _ _ _ z;rw[cU<|(λw=>(Uc.mp w).elim (bI M hp)<|λw=>by rw[kE w]at z;cases z)]
  exact n b u M) (λa I=>N.own a<|(U a).mp I) i
 by_cases g:i<xs.length
 .obtain⟨go,W⟩:=i1 _<|Ze g;rw[EZ g]at C;obtain⟨E,T,h5⟩:=R.ja C;obtain⟨cb,G,h6⟩:=R.ja h5;obtain⟨k,rfl,V⟩:=yV h6;refine .inr ⟨go,λx H2 y=>?_⟩
  obtain⟨D,Y⟩:=W x H2 y;have l:=D _ _ l;have n:=n.trans D;have s:=s.mono<|bK.hide D;obtain⟨P,X⟩:=r _ _ _ T;have h:∀(j:Nat)(z:Sl),(Wh is st)[j]?=some (some z)->E[j]?=some _:=λj z ez=>by rwa [X j (mz is st j z ez).2]
  refine⟨p::B,A,Wh is st,xs[i],E,(N.mono D),(Y.mono<|oU λa I=>(U a).mpr I),T,λwm zu=>F _ _ _ ⟨p::B,A,E,k,zu,G,λH3 s3=>?_⟩⟩
  cases k with
  |true=>
   obtain⟨O,G1,h8⟩:=R.ja V;obtain⟨Rx,Pq,h9⟩:=R.ja h8;cases h9;refine⟨p::B,A,E,O,zu.mono s3,G1,λv H4 s4 r4=>⟨s4 _ _<|s3 _ _ l,?_,xs.length-(i+1),by lia,rfl,g,by rw[af,ah];lia,cG,?_,?_,ds++[O],Rx,?_,Pq,by rwa [Sk]⟩⟩
   .have:sizeLine=16777216:=rfl;have hbg:=qX;lia
   .exact λb u z=>by rw[bR<|bI z hp];exact s4 _ _<|s3 _ _<|n b u z
   .exact(((zu.mono s3).mono s4).weaken (by rw[P]) h).put
   rw[Ou<|mem_mid.mpr<|.inl rfl];exact(s.mono<|bK.hide<|s3.trans s4).append (.cons r4 .nil)
  |false=>exact⟨xs.length-(i+1),by lia,rfl,g,by lia,s3 _ _ l,n.trans s3,(zu.mono s3).weaken (by rw[P]) h,ds,rest,s.mono<|bK.hide s3,V,L⟩
 have e:i=xs.length:=by lia
 subst e;rw[List.drop_length]at C;cases C;rw[dh]at L;subst L;exact .inl ⟨Z<|Fc _,q p vs H1 d s1 hp n l s⟩
section
variable {iter c:Expr} {t:Tg} {u:Ex}
def LI{Y:Cx} (l:Y.xe=λ_ _=>False) (he:PE Y elt te) (w:PT Y c tt) {it p:Addr} (d:ki) (H:Hp) (s:Shared) (g:ca) (vs:ls) (N:AC) (Q:Fin->na) (I:Aa Y g d H s)
  (h:tt d H λk r=>if k=true then te d r λy i=>i p=some (.lst vs)/\vs.length<sizeLine/\N (Nb i p<|.lst<|vs++[y]) (vs++[y]) else N r vs)
  (mono:∀H (Q m:VK),(∀v e,Q v e->m v e)->te d H Q->te d H m)
  (q:∀f e u,Aa Y g d e f->N e u->Q (.again<|.compLoop (.ListComp elt [⟨tg,iter,[c],0⟩] scope pos) 0 (.ref it) (.ref p) Y.env) f) :
  wpAny (model Y.prog Y.w) Y.A (isTrue c Y.env (eval c Y.env) >>= fun ok => if ok = true then (eval elt Y.env >>= fun x => call (.builtin "list.append") [.ref p, x] >>= fun _ => again<|.compLoop (.ListComp elt [⟨tg, iter, [c], 0⟩] scope pos) 0 (.ref it) (.ref p) Y.env)
        else again (.compLoop (.ListComp elt [⟨tg,iter,[c],0⟩] scope pos) 0 (.ref it) (.ref p) Y.env)) Q (λ_ _=>False) s:=by
 have t:=w g s d H _ I h;rw[l]at t;refine Ha<|wc t λk s1 ⟨H1,o,j⟩=>?_
 cases k with
 |true=>
  exact WQ he (by rw[l];exact λ_ _ z=>z) o<|mono _ _ _ (λy i ⟨a,b,n⟩=>⟨a,b,λf A=>Ob<|q f _ _ A n⟩) j
 |false=>
  exact Ob<|q s1 H1 vs o j
def Lz{Q:VK}{st:ua} {p:Addr} {b:Hp} (c:RS X.K B A H st σ) (q:∀v b,bK H b->Sb X.K (hide (A++B) b) (.lst ys) v->Q v b) (s1:bK H H1) (d:H1 p=none) (s2:bK H1 b)
  (f:b p=some (.lst vs)) (r:bJ X.K (hide (A++p::B) b) ys vs):Q (.ref p) b:=
 q _ b (s1.trans s2) (lO.mpr ⟨p,vs,rfl,(by rwa [cU<|(c.own.mono s1).free d]),r.mono<|oU λa e=>mem_mid.mpr<|.inr e⟩)
def vG{is:ac}(z:L2.PI X tg iter (vk X.K B it))(D:∀(B:bv)(C:Addr)(c:Shared)(b:Hp)(a:bv),PG (fL X scope C c b a) tg<|tG X.K B t)
  (he:∀(B:bv)(C:Addr)(c:Shared)(b:Hp)(a:bv),PE (fL X scope C c b a) elt<|tI X.K B f) (F:X.calm=true:=by rfl) (e:Eo is t:=by exact Ms) (S:Lc X scope is:=by exact .of rfl) (v:∀x,foldedSetIterable iter X.env x=pure x:=by intro _;rfl) :
  PE X (.ListComp elt [⟨tg,iter,[],0⟩] scope pos) (tI X.K B<|cT is t it fK f):=by
 intro aa s σ H Q I h;obtain⟨A,st,d,g,E,q⟩:=h;obtain⟨xs,o,L⟩:=R.ja E;obtain⟨y,K⟩:=aV L;obtain⟨ys,n,J⟩:=R.ja K;cases J;refine wG (rest:=λenv it p=>eval elt env >>= λx=>call _ [p,x] >>= λ_=>again<|.compLoop _ 0 it p env) S F z (λC c b a=>jt λB=>D B C c b a) (λ_ _ _=>tL)
  (λC c b a it p s Q h=>eJ h) (λC c b a it p τ H s aa vs N Q I h q=>KI rfl (ft λB=>he B C c b a) τ H s aa vs N Q I h (λQ O m h=>Gr Q O m h) q) v I
  (Qs e (λτ H Q ⟨B,A,st,k,g,hk,q⟩=>?_) g o y n λp vs H1 H' s1 w i u r=>Lz g q s1 w i u r) λC p W Y l Z H3 a τ G V M U T j=>⟨l,T,λh' P=>⟨.ref p,W,xv V M G U P,rfl,j⟩⟩
 cases hk;exact q H<|bK.refl _
def rM{is:ac}(E:L2.PI X tg iter (vk X.K B it))(F:∀(B:bv)(C:Addr)(e:Shared)(b:Hp)(a:bv),PG (fL X scope C e b a) tg<|tG X.K B t)
  (w:∀(B:bv)(C:Addr)(e:Shared)(b:Hp)(a:bv),PT (fL X scope C e b a) c<|tT X.K B u)
  (he:∀(B:bv)(C:Addr)(e:Shared)(b:Hp)(a:bv),PE (fL X scope C e b a) elt<|tI X.K B f) (J:X.calm=true:=by rfl) (g:Eo is t:=by exact Ms) (S:Lc X scope is:=by exact .of rfl) (y:∀x,foldedSetIterable iter X.env x=pure x:=by intro _;rfl) :
  PE X (.ListComp elt [⟨tg,iter,[c],0⟩] scope pos) (tI X.K B<|cT is t it u f):=by
 intro aa s σ H Q I h;obtain⟨A,st,d,i,G,q⟩:=h;obtain⟨xs,o,O⟩:=R.ja G;obtain⟨D,M⟩:=aV O;obtain⟨ys,n,L⟩:=R.ja M;cases L;exact wG (te:=yr X.K f) (rest:=λenv it p=>isTrue c env (eval c env) >>= λok=>if ok=true then (eval elt env >>= λx=>call _ [p,x] >>= λ_=>again<|.compLoop _ 0 it p env) else again (.compLoop _ 0 it p env)) S J E (λC e b a=>jt λB=>F B C e b a) (λ_ _ _=>tL)
  (λC e b a it p s Q h=>hJ h) (λC e b a it p τ H s aa vs N Q I h q=>LI rfl (ft λB=>he B C e b a) (tJ λB=>w B C e b a) τ H s aa vs N Q I h (λ_ Q T m h=>Gr Q T m h) q) y I
  (Qs g (λτ H Q h=>h) i o D n λp vs H1 H' s1 z j v r=>Lz i q s1 z j v r) λC p Z s5 l s3 H3 a τ K Y P W V k=>⟨l,V,λh' U=>⟨.ref p,Z,xv Y P K W U,rfl,k⟩⟩
end
end Pu
namespace Pu
open PySem PySem.Spec PyProof.Rows L2 PySem.SeqAt
section
variable{X:Cx}{aa:ca}{σ:ki}{H:Hp}{s:Shared}
def PU(I:Aa X aa σ H s) {xs c:ls} (g:fe X.K H a xs) (f:Mg X.K H a c):False:=by
 obtain⟨j,_,⟨o,n,e,d,_⟩,_⟩:=I.list g;obtain⟨i,_,⟨h,e2,b,_⟩,_⟩:=I.tuple f;rw[e]at e2;cases e2;rw[d]at b;simp at b
mutual
theorem Sb.inj(I:Aa X aa σ H s):∀{x y:D}{v:V},plain x=true->plain y=true->Sb X.K H x v->Sb X.K H y v->x=y
 |x,y,v,px,i,h,h'=>by
  cases x<;>first|(simp at px;done)|skip
  all_goals cases y<;>first|(simp at i)|skip
  case tup.tup=>
   obtain⟨a,vs,e,b,g⟩:=jU h;obtain⟨j,k,c,d,f⟩:=jU h';subst e;cases c;cases I.kh b d;rw[bJ.inj I (by simpa using px) (by simpa using i) g f]
  case lst.lst=>
   obtain⟨a,vs,e,b,g⟩:=lO.mp h;obtain⟨j,k,c,d,f⟩:=lO.mp h';subst e;cases c;cases I.Hg b d;rw[bJ.inj I (by simpa using px) (by simpa using i) g f]
  case tup.lst=>
   obtain⟨a,vs,e,b,g⟩:=jU h;obtain⟨j,k,c,d,f⟩:=lO.mp h';subst e;cases c;exact(PU I d b).elim
  case lst.tup=>
   obtain⟨a,vs,e,b,g⟩:=lO.mp h;obtain⟨j,k,c,d,f⟩:=jU h';subst e;cases c;exact(PU I b d).elim
  all_goals first|(obtain⟨_,_,h',_⟩:=h';subst h';cases h)|(obtain⟨_,_,h,_⟩:=h;subst h;cases h')|(subst h;cases h';first|rfl|done)|(subst h)
theorem bJ.inj(I:Aa X aa σ H s):∀{xs a:dL}{vs:ls},fZ xs=true->fZ a=true->bJ X.K H xs vs->bJ X.K H a vs->xs=a
 |[],a,vs,px,b,h,h'=>by
  have e:=eN.mp h;subst e;cases a with
  |nil=>rfl
  |cons y a=>obtain⟨_,_,h',_⟩:=cB.mp h';cases h'
 |x::xs,a,vs,px,b,h,h'=>by
  obtain⟨v,r,e,f,d⟩:=cB.mp h;subst e;cases a with
  |nil=>exact nomatch eN.mp h'
  |cons y a=>
   obtain⟨j,k,g,c,i⟩:=cB.mp h';cases g;simp at px b;rw[Sb.inj I px.1 b.1 f c,bJ.inj I px.2 b.2 d i]
end
mutual
theorem AS:∀x:D,plain x=true->de x x=true
 |.Tb,_=>rfl
 |.bl b,_=>by simp
 |.int i,_=>by simp
 |.str x,_=>by simp
 |.tup x,h=>by exact kF x (by simpa using h)
 |.lst x,h=>kF x (by simpa using h)
 |.Pe _ _ _,h=>by simp at h
 |.ins _ _ _,h=>by simp at h
 |.jk _ _ _,h=>by simp at h
 |.fn _,h=>by simp at h
theorem kF:∀x:dL,fZ x=true->pY x x=true
 |[],_=>rfl
 |a::x,h=>by
  simp at h;unfold pY;rw[AS a h.1,kF x h.2];rfl
end
def pairE(xs a:dL)(j:Nat):Bool:=de (xs.getD j .Tb)<|a.getD j .Tb
theorem Ny:∀xs a:dL,((List.range<|min xs.length a.length).all (pairE xs a)&&xs.length==a.length)=pY xs a
 |[],[]=>rfl
 |[],_::_=>rfl
 |_::_,[]=>rfl
 |x::xs,y::a=>by
  have e:pY (x::xs) (y::a)=(de x y&&pY xs a):=by conv=>lhs;unfold pY
  rw[e,<-(Ny xs a)];have b:min (x::xs).length (y::a).length=min xs.length a.length+1:=by simp only[length_cons];omega
  rw[b,XZ,all_cons,List.all_map];have e1:pairE (x::xs) (y::a) 0=de x y:=rfl;have e2:(pairE (x::xs) (y::a) ∘ Nat.succ)=pairE xs a:=rfl;rw[e1,e2,Bool.and_assoc];simp
def Ψ(h:xs.length≠ys.length):pY xs ys=false:=by
 rw[<-Ny];simp[h]
inductive Vw (X:Cx) (H:Hp) (s:Shared):D->Value->Prop
 |Tb:Vw X H s .Tb .none
 |bl (b:Bool):Vw X H s (.bl b) (.bool b)
 |int (i:Int) (t:Tok):Vw X H s (.int i) (.int i t)
 |str (x:ac) (t:Tok):Vw X H s (.str x) (.str ⟨x.toArray⟩ t)
 |tup {x:dL} {ws:ls} {Pa:cr} {l:Addr} (hq:s.heap.IsTuple l Pa.toArray) (hr:bJ X.K H x ws) (hv:Ia ws Pa):Vw X H s (.tup x) (.ref l)
 |lst {x:dL} {ws:ls} {Pa:cr} {l:Addr} (hq:s.heap.IsList l Pa.toArray) (hr:bJ X.K H x ws) (hv:Ia ws Pa):Vw X H s (.lst x) (.ref l)
def Vw.of(I:Aa X aa σ H s){x:D} {a:Value} (h:Sb X.K H x v) (r:RelV v a) (p:plain x=true):Vw X H s x a:=by
 cases x with
 |Tb=>have e:=yM.mp h;subst e;subst r;exact .Tb
 |bl b=>have e:=dJ.mp h;subst e;subst r;exact .bl b
 |int i=>have e:=bY.mp h;subst e;obtain⟨t,e⟩:∃t,a=Value.int i t:=r;subst e;exact .int i t
 |str x=>have e:=gK.mp h;subst e;obtain⟨t,e⟩:∃t,a=Value.str _ t:=r;subst e;exact .str x t
 |tup x=>obtain⟨l,g,e,f,d⟩:=jU h;subst e;have e:=r;subst e;obtain⟨j,c,pl,_⟩:=I.tuple f;exact .tup pl d c
 |lst x=>obtain⟨l,g,e,f,d⟩:=lO.mp h;subst e;subst r;obtain⟨j,c,pl,_⟩:=I.list f;exact .lst pl.isList d c
 |_=>simp at p
def bK6{A:Around}{x:D}{a b:Value}{k:Bool}(f:Vw X H s x a)(d:Vw X H s y b)(h:RcAt A s a b k)(g:a=b->k=true):EqAt A s a b k:=λprog w E Q c=>by
 refine Hi<|qm (λe=>?_) λ_=>?_
 .rw[g<|eq_of_beq e]at c;exact Ha<|Xt<|Ob c
 cases f<;>cases d<;>exact Ha<|h prog w E _<|Dt c
def ĵ{u:V}{a:Value}(h:RelV v a)(b:RelV u a):v=u:=by
 cases v<;>(first|subst h|(obtain⟨_,h⟩:=h;subst h)) <;> cases u<;>first|(cases b;done)|(cases b;rfl)|(obtain⟨_,b⟩:=b;cases b;done)|(obtain⟨_,b⟩:=b;cases b;rfl)
def BS(x y:ac):de (.str x) (.str y)=((⟨x.toArray⟩:Str)==⟨y.toArray⟩):=by rw[<-str_beq];simp
def bRj{A:Around}{a b:Value}{k c:Bool}(h:RcAt A s a b k)(e:k=c):RcAt A s a b c:=e ▸ h
def bRk{A:Around}{a b:Value}{k c:Bool}(h:RcNeAt A s a b k)(e:k=c):RcNeAt A s a b c:=e ▸ h
def CS(I:Aa X aa σ H s){x:D}{A:Around}{u:V}{a b:Value}(i:Sb X.K H x v)(g:Sb X.K H y u)(f:RelV v a)(d:RelV u b)(j:plain x=true)(c:plain y=true)(h:RcAt A s a b (de x y)):EqAt A s a b (de x y):=
 bK6 (Vw.of I i f j) (Vw.of I g d c) h λe=>by rw[Sb.inj I j c i<|ĵ (e ▸ f) d ▸ g];exact AS y c
mutual
theorem Mz(I:Aa X aa σ H s)(x y:D)(A:Around)(v u:V)(a b:Value)(n:Sb X.K H x v)(m:Sb X.K H y u)(l:RelV v a)(k:RelV u b)(r:A.units+ag x<cLine)(i:plain x=true)(h:plain y=true):RcAt A s a b (de x y)/\RcNeAt A s a b (!de x y):=by
 have c:=vw (WJ _ _) r;have p:=Vw.of I n l i;have o:=Vw.of I m k h;clear n m l k;cases p<;>cases o
 case tup.tup x _ i1 _ hq hr hv y _ i2 _ Xe rf Pn=>
  have t:ag (.tup x)=rT x+1:=by conv=>lhs;unfold ag
  have:=sF I x y A.in1 _ _ _ _ hr rf hv Pn (by lia) (by simpa using i) (by simpa using h)
  have e:de (.tup x) (.tup y)=pY x y:=by conv=>lhs;unfold de
  rw[e,<-Ny,<-hr.length,<-rf.length,hv.length,Pn.length,<-Ng,<-Ng];exact⟨RcAt.tuples hq Xe c λj f d=>by simpa using this j (by simpa using f) (by simpa using d),RcNeAt.tuples hq Xe c λj f d=>by simpa using this j (by simpa using f) (by simpa using d)⟩
 case lst.lst x _ i1 _ hq hr hv y _ i2 _ Xe rf Pn=>
  have t:ag (.lst x)=rT x+1:=by conv=>lhs;unfold ag
  have:=sF I x y A.in1 _ _ _ _ hr rf hv Pn (by lia) (by simpa using i) (by simpa using h)
  have e:de (.lst x) (.lst y)=pY x y:=by conv=>lhs;unfold de
  have q:i1.length=x.length:=by rw[<-hv.length,hr.length]
  have w:i2.length=y.length:=by rw[<-Pn.length,rf.length]
  rw[e]
  by_cases g:i1.length=i2.length
  .rw[show pY x y=(List.range i1.toArray.size).all (pairE x y) by rw[<-Ny,Ng,q];simp[show x.length=y.length by lia]]
   exact⟨RcAt.lists hq Xe (by simpa using g) c λj f d=>by simpa using this j _ _,RcNeAt.lists hq Xe (by simpa using g) c λj f d=>by simpa using this j (by simpa using f) (by simpa using d)⟩
  rw[Ψ (by lia)]
  exact⟨RcAt.lists_lengths hq Xe (by simpa using g) c,RcNeAt.lists_lengths hq Xe (by simpa using g) c⟩
 all_goals
  constructor
  .apply bRj
   .with_reducible first|exact RcAt.none_none|exact RcAt.none_bool _|exact RcAt.none_int _ _|exact RcAt.none_str _ _|exact RcAt.none_tuple ‹_› c|exact RcAt.none_list ‹_› c|exact RcAt.bool_none _|exact RcAt.bool_bool _ _|exact RcAt.bool_int _ _ _|exact RcAt.bool_str _ _ _|exact RcAt.bool_tuple _ ‹_› c|exact RcAt.bool_list _ ‹_› c|exact RcAt.int_none _ _|exact RcAt.int_bool _ _ _|exact RcAt.int_int _ _ _ _|exact RcAt.int_str _ _ _ _|exact RcAt.int_tuple _ _ ‹_› c|exact RcAt.int_list _ _ ‹_› c|exact RcAt.str_none _ _|exact RcAt.str_bool _ _ _|exact RcAt.str_int _ _ _ _|exact RcAt.str_str _ _ _ _|exact RcAt.str_tuple _ _ ‹_› c|exact RcAt.str_list _ _ ‹_› c|exact RcAt.tuple_none ‹_› c|exact RcAt.tuple_bool _ ‹_› c|exact RcAt.tuple_int _ _ ‹_› c|exact RcAt.tuple_str _ _ ‹_› c|exact RcAt.tuple_list ‹_› ‹_› c|exact RcAt.list_none ‹_› c|exact RcAt.list_bool _ ‹_› c|exact RcAt.list_int _ _ ‹_› c|exact RcAt.list_str _ _ ‹_› c|exact RcAt.list_tuple ‹_› ‹_› c
   first|exact(BS _ _).symm|(unfold de;rfl)
  apply bRk
  .with_reducible first|exact RcNeAt.none_none|exact RcNeAt.none_bool _|exact RcNeAt.none_int _ _|exact RcNeAt.none_str _ _|exact RcNeAt.none_tuple ‹_› c|exact RcNeAt.none_list ‹_› c|exact RcNeAt.bool_none _|exact RcNeAt.bool_bool _ _|exact RcNeAt.bool_int _ _ _|exact RcNeAt.bool_str _ _ _|exact RcNeAt.bool_tuple _ ‹_› c|exact RcNeAt.bool_list _ ‹_› c|exact RcNeAt.int_none _ _|exact RcNeAt.int_bool _ _ _|exact RcNeAt.int_int _ _ _ _|exact RcNeAt.int_str _ _ _ _|exact RcNeAt.int_tuple _ _ ‹_› c|exact RcNeAt.int_list _ _ ‹_› c|exact RcNeAt.str_none _ _|exact RcNeAt.str_bool _ _ _|exact RcNeAt.str_int _ _ _ _|exact RcNeAt.str_str _ _ _ _|exact RcNeAt.str_tuple _ _ ‹_› c|exact RcNeAt.str_list _ _ ‹_› c|exact RcNeAt.tuple_none ‹_› c|exact RcNeAt.tuple_bool _ ‹_› c|exact RcNeAt.tuple_int _ _ ‹_› c|exact RcNeAt.tuple_str _ _ ‹_› c|exact RcNeAt.tuple_list ‹_› ‹_› c|exact RcNeAt.list_none ‹_› c|exact RcNeAt.list_bool _ ‹_› c|exact RcNeAt.list_int _ _ ‹_› c|exact RcNeAt.list_str _ _ ‹_› c|exact RcNeAt.list_tuple ‹_› ‹_› c
  first|exact congrArg _ (BS _ _).symm|(rfl)
theorem sF(I:Aa X aa σ H s):∀(xs f:dL)(A:Around)(vs us:ls)(d bs:cr),bJ X.K H xs vs->bJ X.K H f us->Ia vs d->Ia us bs->A.units+rT xs<cLine->fZ xs=true->fZ f=true->∀(j:Nat)(k:j<d.length)(i:j<bs.length),EqAt A s d[j] bs[j] (pairE xs f j)
 |[],_,A,vs,us,d,bs,h,g,b,a,n,px,c,j,k,i=>by
  have e:=eN.mp h;subst e;cases b;exact absurd k<|Yo _
 |x::xs,[],A,vs,us,d,bs,h,g,b,a,n,px,c,j,k,i=>by
  have e:=eN.mp g;subst e;cases a;exact absurd i<|Yo _
 |x::xs,y::f,A,vs,us,d,bs,h,g,b,a,n,px,c,j,k,i=>by
  obtain⟨v,r,e,p1,p2⟩:=cB.mp h;subst e;obtain⟨u,p,e,o,q⟩:=cB.mp g;subst e;have t:rT (x::xs)=max (ag x) (rT xs):=by conv=>lhs;unfold rT
  rw[t]at n;simp at px c;cases b with
  |cons b m=>
   cases a with
   |cons a l=>
    cases j with
    |zero=>exact CS I p1 o b a px.1 c.1 (Mz I x y A v u _ _ p1 o b a (by lia) px.1 c.1).1
    |succ j=>exact sF I xs f A r p _ _ p2 q m l (by lia) px.2 c.2 j _ _
end
def Ķ(I:Aa X aa σ H s)(x y:D)(A:Around)(v u:V)(a b:Value)(f:Sb X.K H x v)(e:Sb X.K H y u)(d:RelV v a)(c:RelV u b)(i:A.units+ag x<cLine)(h:plain x=true)(g:plain y=true):EqAt A s a b (de x y):=
 CS I f e d c h g (Mz I x y A v u _ _ f e d c i h g).1
def ķ(I:Aa X aa σ H s)(x y:D)(A:Around)(v u:V)(a b:Value)(f:Sb X.K H x v)(e:Sb X.K H y u)(d:RelV v a)(c:RelV u b)(i:A.units+ag x<cLine)(h:plain x=true)(g:plain y=true):RcAt A s a b (de x y):=(Mz I x y A v u a b f e d c i h g).1
def ĸ(I:Aa X aa σ H s)(x y:D)(A:Around)(v u:V)(a b:Value)(f:Sb X.K H x v)(e:Sb X.K H y u)(d:RelV v a)(c:RelV u b)(i:A.units+ag x<cLine)(h:plain x=true)(g:plain y=true):RcNeAt A s a b (!de x y):=(Mz I x y A v u a b f e d c i h g).2
end
end Pu
namespace Pu
open PySem PySem.Spec PyProof.Rows L2
section
variable{X:Cx}{B:bv}{a b e:Expr}{f g:Ex}{pos:Pos}
theorem oV.rep{K:Frag}{A:bv}{H:Hp}{d:D}{v:V}(h:oV K A H d v):Sb K H d v:=by
 rcases h with h|⟨a,k,o,ds,vs,e1,e2,c,b,q⟩
 .exact h.mono (bN _ _)
 subst e1 e2;exact b.rep c<|q.mono<|bN _ _
def LA(K:Frag)(a:Bool):R2:=λv u H Q=>∃x y,Sb K H x v/\Sb K H y u/\(ag x<=64/\plain x=true/\plain y=true)/\Q (.bl<|if a then !de x y else de x y) H
theorem eX(i:X.A.units+64<cLine:=by exact Ub.units<|by assumption):Ge X (compareOp .Eq) (LA X.K false):=by
 intro aa s σ H v u a b Q I g f h;obtain⟨x,y,e,d,c,q⟩:=h;exact ķ I x y X.A v u a b e d g f (by lia) c.2.1 c.2.2 X.prog X.w X.xe _ ⟨.bl _,H,I,rfl,q⟩
theorem qL(i:X.A.units+64<cLine:=by exact Ub.units<|by assumption):Ge X (compareOp .NotEq) (LA X.K true):=by
 intro aa s σ H v u a b Q I g f h;obtain⟨x,y,e,d,c,q⟩:=h;exact ĸ I x y X.A v u a b e d g f (by lia) c.2.1 c.2.2 X.prog X.w X.xe _ ⟨.bl _,H,I,rfl,q⟩
def eY{K:Frag}:Th K (LA K false) gd:=by
 intro A H x y d v u Q w b a e q;obtain⟨c,e⟩:=aV e;cases e;exact⟨x,y,b.rep,a.rep,c,q _ H (bK.refl _)<|dJ.mpr rfl⟩
def qM{K:Frag}:Th K (LA K true) Zf:=by
 intro A H x y d v u Q w b a e q;obtain⟨c,e⟩:=aV e;cases e;exact⟨x,y,b.rep,a.rep,c,q _ H (bK.refl _)<|dJ.mpr rfl⟩
def tyD:D->String
 |.Tb=>"NoneType"
 |.bl _=>"bool"
 |.int _=>"int"
 |.str _=>"str"
 |.tup _=>"tuple"
 |.lst _=>"list"
 |.Pe _ _ _=>"dict"
 |.ins _ _ _=>""
 |.jk _ _ _=>""
 |.fn _=>""
structure IsT(T:String)(p:wf):Prop where
 boot:bootBuiltins T=some (.type T)
 ϣ:∀(K:Frag)(d:D),Mm d=true->PySem.W.kitOne K (.type<|tyD d) (.type T)=some (p d)
def Ĺ{T:String}{p:wf}(h:IsT T p):pH X (.builtin "isinstance") (λxs H Q=>∃v d,xs=[v,.ty T]/\Mm d=true/\Sb X.K H d v/\Q (.bl<|p d) H):=by
 intro aa s σ H xs C Q I r q;obtain⟨v,d,rfl,j,i,q⟩:=q;obtain⟨u,D,rfl,g,A⟩:=r.two;subst A;have a:∀k,EP X aa σ Q _ {s with toks:=k}:=λk=>⟨.bl<|p d,H,I.tok k,rfl,q⟩
 have e:=h.ϣ X.K d j;cases d with
 |Tb=>have z:=yM.mp i;subst z;have z:=g;subst z;exact kia_one PySem.W.kitx_none I.ug True.intro e (λz=>nomatch z) a
 |bl x=>have z:=dJ.mp i;subst z;have z:=g;subst z;exact kia_one PySem.W.kitx_bool I.ug True.intro e (λz=>nomatch z) a
 |int x=>have z:=bY.mp i;subst z;obtain⟨t,z⟩:∃t,u=Value.int x t:=g;subst z;exact kia_one PySem.W.kitx_int I.ug True.intro e (λz=>nomatch z) a
 |str x=>have z:=gK.mp i;subst z;obtain⟨t,z⟩:∃t,u=Value.str _ t:=g;subst z;exact kia_one PySem.W.kitx_str I.ug True.intro e (λz=>nomatch z) a
 |tup x=>
  obtain⟨l,vs,z,b,_⟩:=jU i;subst z;have z:=g;subst z;obtain⟨B,_,⟨o,f,c,_⟩,_⟩:=I.tuple b;exact kia_one PySem.W.kitx_tuple I.ug ⟨o,f,c⟩ e (λz=>nomatch z) a
 |lst x=>
  obtain⟨l,vs,z,b,_⟩:=lO.mp i;subst z;have z:=g;subst z;obtain⟨B,_,⟨o,n,f,c,_⟩,_⟩:=I.list b;exact kia_one PySem.W.kitx_list I.ug ⟨o,f,c⟩ e (λz=>nomatch z) a
 |Pe t ks x=>
  obtain⟨l,vs,z,b,_⟩:=vY.mp i;subst z;have z:=g;subst z;have y:∃o,s.heap.get? l=some o/\o.ExactDict:=by
   rcases b with ⟨_,w,b,_⟩|⟨_,w,b,_⟩
   .obtain⟨_,_,E,_,m⟩:w.length<=sizeLine/\(l==sysModules)=false/\∃vs,KV w vs/\s.heap.DictOf _ l vs:=I.Bb l _ b;obtain⟨o,es,n,f,c,_⟩:=m;exact⟨o,f,c⟩
   obtain⟨_,_,xs,_,o,es,ep,f,c,_⟩:=I.Bb l _ b;exact⟨o,f,c⟩
  obtain⟨o,f,c⟩:=y;exact kia_one PySem.W.kitx_dict I.ug ⟨o,f,c.1⟩ e (λz=>nomatch z) a
 |ins _ _ _=>exact nomatch j
 |jk _ _ _=>exact nomatch j
 |fn _=>exact nomatch j
def Qu{T:Str}{S:String}{p:wf} (l:IsT S p) (s:X.mg "isinstance"=none) (c:X.mg T=none) (w:PE X a (tP X.K B f)) (i:bootBuiltins T=some (.type S):=by first|rfl|exact l.boot) (t:Gl X "isinstance":=by rfl) (e:Gl X T:=by rfl) (b:T≠"__name__":=by decide) (g:Bf T:=by decide)
  (k:starEach [a,.Name T p1] X.env=(false,eval a X.env)::starEach [.Name T p1] X.env:=by rfl) (y:starEach [.Name T p1] X.env=(false,eval (.Name T p1) X.env)::starEach [] X.env:=by rfl) :
  PE X (.Call (.Name "isinstance" p0) [a,.Name T p1] [] pos) (tI X.K B<|eB p f):=by
 have h:PE X (.Name T p1) (tC<|.ty S):=ő e c i rfl b g;refine cQ (qW (Ĺ l) t s boot_isinstance (dD w (dD h iZ y) k) (he:=k)) ?_
 rintro σ H Q ⟨A,st,d,m,u,q⟩;obtain⟨x,r,j⟩:=R.ja u;obtain⟨o,j⟩:=aV j;cases j;exact⟨A,st,x,m,r,λv H1 s1 n=>⟨v,x,rfl,o,n.rep,q _ H1 s1<|dJ.mpr rfl⟩⟩
def ty_str:IsT "str" GA:=⟨rfl,λK d a=>by cases d<;>first|(cases a;done)|kernel_rfl⟩
def ty_bool:IsT "bool" WI:=⟨rfl,λK d a=>by cases d<;>first|(cases a;done)|kernel_rfl⟩
def ty_int:IsT "int" isIn:=⟨rfl,λK d a=>by cases d<;>first|(cases a;done)|kernel_rfl⟩
def ty_list:IsT "list" Ws:=⟨rfl,λK d a=>by cases d<;>first|(cases a;done)|kernel_rfl⟩
end
end Pu
namespace Pu
open PySem PySem.Spec PyProof.Rows L2 PySem.SeqAt PySem.StrLaws
def Ω(x y:ac)(i:Nat):Builtin.Str.subAt ⟨x.toArray⟩ ⟨y.toArray⟩ i=((x.drop i).take y.length==y):=by
 rw[subAt_eq];simp[Str.length]
theorem DS(s sub:Str)(b:Nat):∀(l:ac)(st:Array Nat×Nat),1<=st.1.size->(forIn l st<|occBody s sub b 1).run.fst=st.1
 |[],st,h=>rfl
 |a::l,st,h=>by
  rw[forIn_cons];unfold occBody;rw[Ta (λz=>by lia)]
  exact DS s sub b l (st.1,st.2) h
theorem ES(s sub:Str)(b:Nat):∀(l:ac)(free:Nat),(∀i∈l,free<=i)->
  (forIn l ((#[]:Array Nat),free)<|occBody s sub b 1).run.fst.toList=(l.find? λi=>decide (i+sub.length<=b)&&Builtin.Str.subAt s sub i).toList
 |[],free,_=>rfl
 |a::l,free,d=>by
  rw[forIn_cons]
  by_cases c:a+sub.length<=b/\Builtin.Str.subAt s sub a=true
  .rw[UZ (p:=λi=>decide _&&Builtin.Str.subAt s sub i) (by rw[c.2,Oc c.1];rfl)]
   have e2:occBody s sub b 1 a ((#[]),free)=pure (ForInStep.yield ((#[]).push a,a+sub.length)):=by
    exact xb ⟨⟨⟨by simp,(d a Gb)⟩,c.1⟩,c.2⟩
   rw[e2];show (forIn l (((#[]).push a),a+sub.length)<|occBody s sub b 1).run.fst.toList=_;rw[DS s sub b l _ (by simp)]
   rfl
  rw[VZ (p:=λi=>decide _&&Builtin.Str.subAt s sub i)<|λz=>c<|by simpa using z]
  have e2:occBody s sub b 1 a ((#[]),free)=pure (ForInStep.yield ((#[]),free)):=by
   exact Ta λh=>c ⟨h.1.2,h.2⟩
  rw[e2];exact ES s sub b l free λi e=>d i<|Xb _ e
theorem vF(x y:ac)(lo:Nat):Builtin.Str.occurrences ⟨x.toArray⟩ ⟨y.toArray⟩ lo (⟨x.toArray⟩:Str).length 1=(sH x y lo).toList:=by
 rw[occ_eq,ES _ _ _ _ _ (λi a=>by simp at a;lia)]
 unfold sH;simp[Ω,str_len]
def bK8(x y:ac):Txt.find ⟨x.toArray⟩ ⟨y.toArray⟩=uo (sH x y 0):=by
 unfold Txt.find;rw[vF];cases sH x y 0<;>rfl
theorem ĺ(x y:ac)(i:Int)(h:0<=i):Txt.find3 ⟨x.toArray⟩ ⟨y.toArray⟩ i=uo (sH x y i.toNat):=by
 have e:fromIndex (⟨x.toArray⟩:Str).length i=i.toNat:=by unfold fromIndex;rw[Ta (by lia)];lia
 unfold Txt.find3;rw[e,vF];cases sH x y i.toNat<;>rfl
theorem xF{b:Type}(p:b->Bool):∀x:List b,x.drop (x.takeWhile p).length=x.dropWhile p
 |[]=>rfl
 |a::x=>by
  cases h:p a with
  |true=>rw[ZY h,XY h,ze,List.drop_succ_cons,xF p x]
  |false=>rw[AZ (by simp[h]),YY (by simp[h])];rfl
def SN(p:α->Bool)(x:List α):(x.takeWhile p).length+(x.dropWhile p).length=x.length:=by
 rw[<-af,SY]
theorem Ļ(x y:ac):Txt.stripChars ⟨x.toArray⟩ ⟨y.toArray⟩=⟨(ym x y).toArray⟩:=by
 have d:y.toArray.contains=λc=>y.contains c:=by funext c;simp
 have a:Builtin.Str.strSub ⟨x.toArray⟩ (stripLo y.toArray.contains true ⟨x.toArray⟩) (stripHi y.toArray.contains true ⟨x.toArray⟩<|stripLo y.toArray.contains true ⟨x.toArray⟩)=⟨(ym x y).toArray⟩:=by
  unfold stripLo stripHi;rw[d];unfold ym;generalize g:(λc=>y.contains c)=q
  have f:=SN q x;have b:=SN q (x.dropWhile q).reverse;rw[List.length_reverse]at b;unfold Builtin.Str.strSub;simp only[str_len];simp;rw[xF];have e:((x.dropWhile q).reverse.dropWhile q).reverse=(x.dropWhile q).take ((x.dropWhile q).length-((x.dropWhile q).reverse.takeWhile q).length):=by
   rw[((xF q _).symm),List.drop_reverse,List.reverse_reverse]
  rw[e];congr 1;lia
 unfold Txt.stripChars Txt.stripBy
 by_cases h:stripSame y.toArray.contains true true ⟨x.toArray⟩=true
 .rw[xb h];unfold stripSame at h;rw[fj,Xk,Xk]at h;rw[h.2,h.1]at a;rw[<-a];unfold Builtin.Str.strSub;simp[str_len]
 rwa [Ta h]
section
variable {a b o:Expr}
def PY{id:String}{m:Cr}{r:Ee} {q:lv} (a:Slot "str" name id) (h:typeOf (.builtin id)=pure (.type "method_descriptor")) (z:Ck X id q)
  (C:∀x xs d,m x xs=.ok d->∃s,x=.str s) (I:∀(A:bv)(H:Hp)(x d:D)(xs:dL)(v:V)(vs:ls)(Q:VK),Own A H->oV X.K A H x v->bJ X.K (hide A H) xs vs->m x xs=.ok d->(∀w b,bK H b->Sb X.K (hide A b) d w->Q w b)->q v vs H Q)
  (y:PE X o (tP X.K B f)) (F:PA X (e::es) (tA X.K B r))
  (p:Vg o name X.env:=by rfl)
  (l:Uj Oa (e::es) X.env:=by rfl)
  (n:Oh Va Oa:=by rfl) (u:Lf e es X.env:=by rfl) (K:Si Oa es X.env:=by rfl) :
  PE X (.Call (.Attribute o name Va) (e::es) [] Oa) (tI X.K B<|vm m f r):=by
 refine cQ (Zr PySem.F.plainAttrs_str a h z y F p l n u K) ?_
 rintro σ H Q ⟨A,st,d,c,E,k⟩;obtain⟨x,t,G⟩:=R.ja E;obtain⟨xs,J,g⟩:=R.ja G;obtain⟨s,rfl⟩:=C x xs d g;refine⟨A,st,_,c,t,λv H1 s1 r1=>⟨?_,A,st,xs,c.mono s1,J,λvs H2 s2 r2=>?_⟩⟩
 .rw[r1.str];rfl
 exact I _ H2 _ d xs v vs Q (c.own.mono<|s1.trans s2) (r1.mono s2) r2 g λw b i j=>k w b (s1.trans<|s2.trans i) j
def BA{K:Frag} (h:bJ K H [d] vs):∃v,vs=[v]/\Sb K H d v:=by
 obtain⟨v,r,rfl,b,a⟩:=cB.mp h;rw[eN.mp a];exact⟨v,rfl,b⟩
def bRm{K:Frag} {e:D} (h:bJ K H [d,e] vs):∃v u,vs=[v,u]/\Sb K H d v/\Sb K H e u:=by
 obtain⟨v,r,rfl,c,b⟩:=cB.mp h;obtain⟨u,rfl,a⟩:=BA b;exact⟨v,u,rfl,c,a⟩
def bK9:Ck X "str.find" (λx vs H Q=>∃(s:ac),x=.str ⟨s.toArray⟩/\((∃y:ac,vs=[.str ⟨y.toArray⟩]/\Q (.int<|uo<|sH s y 0) H)\/∃(y:ac)(i:Int),vs=[.str ⟨y.toArray⟩,.int i]/\0<=i/\Q (.int<|uo<|sH s y i.toNat) H)):=by
 intro aa s σ H x vs v e Q I c a h;obtain⟨z,rfl,h⟩:=h;obtain⟨t,rfl⟩:=c;rcases h with ⟨y,rfl,q⟩|⟨y,i,rfl,d,q⟩
 .obtain⟨u,rfl,b,rfl⟩:=a.one;exact SC.find ⟨.int _,H,I.tok _,⟨_,rfl⟩,by rwa [bK8]⟩
 obtain⟨u,f,rfl,⟨b,rfl⟩,⟨g,rfl⟩⟩:=a.two;exact SC.find3 ⟨.int _,H,I.tok _,⟨_,rfl⟩,by rwa [ĺ _ _ _ d]⟩
def ļ:Ck X "str.strip" (λx vs H Q=>∃(s y:ac),x=.str ⟨s.toArray⟩/\vs=[.str ⟨y.toArray⟩]/\s.length<=sizeLine/\Q (.str ⟨(ym s y).toArray⟩) H):=by
 intro aa s σ H x vs v c Q I a b h;obtain⟨z,y,rfl,rfl,e,q⟩:=h;obtain⟨t,rfl⟩:=a;obtain⟨u,rfl,d,rfl⟩:=b.one;exact SC.stripChars (λt' k=>⟨.str _,H,I.tok _,⟨_,by rw[Ļ]⟩,q⟩) (by rwa [str_len])
end
end Pu
namespace Pu
open PySem PySem.Spec PyProof.Rows L2 PySem.SeqAt
section
variable{X:Cx}{B:bv}{a b e o:Expr}{f g:Ex}{pos:Pos}{r:Ee}{es:List Expr}{Va Oa:Pos}
def bOd(l:PE X o (tP X.K B f))(m:PA X (e::es) (tA X.K B r))(i:Vg o "find" X.env:=by rfl)
  (b:Uj Oa (e::es) X.env:=by rfl)
  (g:Oh Va Oa:=by rfl) (j:Lf e es X.env:=by rfl) (p:Si Oa es X.env:=by rfl) :
  PE X (.Call (.Attribute o "find" Va) (e::es) [] Oa) (tI X.K B<|vm Xz f r):=by
 refine PY PySem.F.slot_str_find PySem.F.type_str_find bK9 (λx xs d h=>?_) (λA H x d xs v vs Q w rx JC h k=>?_) l m i b g j p
 .cases x<;>first|exact⟨_,rfl⟩|exact nomatch h
 unfold Xz at h;split at h
 .cases h;obtain⟨u,rfl,a⟩:=BA JC;exact⟨_,rx.str,.inl ⟨_,by rw[gK.mp a],k _ H (bK.refl _)<|bY.mpr rfl⟩⟩
 .obtain⟨c,h⟩:=aV h;cases h;obtain⟨u,q,rfl,a,n⟩:=bRm JC;exact⟨_,rx.str,.inr ⟨_,_,by rw[gK.mp a,bY.mp n],c,k _ H (bK.refl _)<|bY.mpr rfl⟩⟩
 cases h
def bKa(l:PE X o (tP X.K B f))(m:PA X (e::es) (tA X.K B r))(i:Vg o "strip" X.env:=by rfl)
  (b:Uj Oa (e::es) X.env:=by rfl)
  (g:Oh Va Oa:=by rfl) (j:Lf e es X.env:=by rfl) (n:Si Oa es X.env:=by rfl) :
  PE X (.Call (.Attribute o "strip" Va) (e::es) [] Oa) (tI X.K B<|vm Az f r):=by
 refine PY PySem.F.slot_str_strip PySem.F.type_str_strip ļ (λx xs d h=>?_) (λA H x d xs v vs Q w rx JC h k=>?_) l m i b g j n
 .cases x<;>first|exact⟨_,rfl⟩|exact nomatch h
 unfold Az at h;split at h
 .obtain⟨c,h⟩:=aV h;cases h;obtain⟨u,rfl,a⟩:=BA JC;exact⟨_,_,rx.str,by rw[gK.mp a],lim c,k _ H (bK.refl _)<|gK.mpr rfl⟩
 cases h
def SW(k:X.mg "max"=none)(n:X.calm=true)(p:PE X a (tP X.K B f))(o:PE X b (tP X.K B g))(l:Gl X "max":=by rfl)(h:starEach [a,b] X.env=(false,eval a X.env)::starEach [b] X.env:=by rfl)
  (s:Lf b [] X.env:=by rfl) (Af:(backTo pos<|starEach [b] X.env).any (·.1)=false:=by rfl):PE X (.Call (.Name "max" p0) [a,b] [] pos) (tI X.K B<|e2 Sv f g):=by
 refine cQ (qW (Ϯ n) l k rfl (dD p (dD o iZ s) h) (he:=h) (Af:=Af)) ?_
 rintro σ H Q ⟨A,st,d,e,m,q⟩;obtain⟨x,j,r⟩:=R.ja m;obtain⟨y,i,c⟩:=R.ja r;refine⟨A,st,x,e,j,λv H1 s1 r1=>⟨A,st,y,e.mono s1,i,λu H2 s2 r2=>?_⟩⟩
 unfold Sv at c;split at c
 case h_2=>cases c
 cases c;exact⟨_,_,by rw[r1.int,r2.int],q _ H2 (s1.trans s2)<|bY.mpr rfl⟩
def bOe(k:X.mg "min"=none)(n:X.calm=true)(p:PE X a (tP X.K B f))(o:PE X b (tP X.K B g))(l:Gl X "min":=by rfl)(h:starEach [a,b] X.env=(false,eval a X.env)::starEach [b] X.env:=by rfl)
  (s:Lf b [] X.env:=by rfl) (Af:(backTo pos<|starEach [b] X.env).any (·.1)=false:=by rfl):PE X (.Call (.Name "min" p0) [a,b] [] pos) (tI X.K B<|e2 CI f g):=by
 refine cQ (qW (ϯ n) l k rfl (dD p (dD o iZ s) h) (he:=h) (Af:=Af)) ?_
 rintro σ H Q ⟨A,st,d,e,m,q⟩;obtain⟨x,j,r⟩:=R.ja m;obtain⟨y,i,c⟩:=R.ja r;refine⟨A,st,x,e,j,λv H1 s1 r1=>⟨A,st,y,e.mono s1,i,λu H2 s2 r2=>?_⟩⟩
 unfold CI at c;split at c
 case h_2=>cases c
 cases c;exact⟨_,_,by rw[r1.int,r2.int],q _ H2 (s1.trans s2)<|bY.mpr rfl⟩
def Ss(h:PE X a (tP X.K B f)):PE X (.UnaryOp .USub a pos) (tI X.K B<|e1 mi f):=by
 refine cQ (bPt bMp h) ?_
 rintro σ H Q ⟨A,st,d,c,g,q⟩;obtain⟨x,e,b⟩:=R.ja g;refine⟨A,st,x,c,e,λv H1 s1 r1=>?_⟩
 cases x<;>first|(cases b;done)|skip
 cases b;exact⟨_,r1.int,q _ H1 s1<|bY.mpr rfl⟩
def NA(a:Bool):R2:=λx y H Q=>(y=.Tb/\Q (.bl<|if a then !decide (x=.Tb) else decide (x=.Tb)) H)\/∃c d,x=.bl c/\y=.bl d/\Q (.bl<|if a then !(c==d) else (c==d)) H
def UW:Ge X (compareOp .Is) (NA false):=by
 intro aa s σ H x y v u Q I b a h;rcases h with h|⟨c,d,rfl,rfl,q⟩
 .exact bMq aa s σ H x y v u Q I b a h
 cases b;cases a;exact is_bool ⟨.bl _,H,I,rfl,q⟩
def AF:Ge X (compareOp .IsNot) (NA true):=by
 intro aa s σ H x y v u Q I b a h;rcases h with h|⟨c,d,rfl,rfl,q⟩
 .exact ŗ aa s σ H x y v u Q I b a h
 .cases b;cases a;exact isnot_bool ⟨.bl<|!(c==d),H,I,rfl,q⟩
def VW{K:Frag}:Th K (NA false) nK:=by
 intro A H x y d v u Q w b a e q;cases y<;>first|(cases x<;>(cases e;done))|skip
 .cases e;exact .inl ⟨a.Tb,q _ H (bK.refl _)<|dJ.mpr<|by rw[<-MU b];rfl⟩
 cases x<;>first|(cases e;done)|skip
 cases e;exact .inr ⟨_,_,b.bl,a.bl,q _ H (bK.refl _)<|dJ.mpr rfl⟩
def BF{K:Frag}:Th K (NA true) aq:=by
 intro A H x y d v u Q w b a e q;cases y<;>first|(cases x<;>(cases e;done))|skip
 .cases e;exact .inl ⟨a.Tb,q _ H (bK.refl _)<|dJ.mpr<|by rw[<-MU b];rfl⟩
 .cases x<;>first|(cases e;done)|skip
  cases e;exact .inr ⟨_,_,b.bl,a.bl,q _ H (bK.refl _)<|dJ.mpr rfl⟩
open Classical in
noncomputable def Nk(K:Frag)(H:Hp)(x:D)(u:Value):Bool:=if ∃d z,Sb K H d z/\RelV z u/\plain d=true/\de d x=true then true else false
def QU(I:Aa X aa σ H s){x:D}{z:V} (r:Sb X.K H d z) (c:RelV z u) (f:plain d=true):Nk X.K H x u=de d x:=by
 unfold Nk;split
 .rename_i h;obtain⟨k,j,g,a,b,e⟩:=h;have:=RelV.inj c a;subst this;rw[Sb.inj I f b r g,e]
 rename_i h;cases i:de d x with
 |false=>rfl
 |true=>exact(h ⟨d,z,r,c,f,i⟩).elim
theorem Qv{g:ca}{b:ki}{H:Hp}{s:Shared}(I:Aa X g b H s){x:D}:∀{ds:dL}{a:ls}{us:cr},bJ X.K H ds a->Ia a us->fZ ds=true->us.any (Nk X.K H x)=inD x ds
 |[],a,us,r,v,_=>by
  have e:=eN.mp r;subst e;cases v;rfl
 |d::ds,a,us,r,v,p=>by
  obtain⟨z,h,e,f,c⟩:=cB.mp r;subst e;simp at p;cases v with
  |cons v vs=>
   rw[ap,QU I f v p.1,Qv I c vs p.2];unfold inD;rw[ap]
theorem Rv{n:ca}{k:ki}{H:Hp}{s:Shared}(I:Aa X n k H s){A:Around}{x:D}{c:V}{f:Value}(h:Sb X.K H x c)(g:RelV c f)(i:plain x=true):∀{ds:dL}{b:ls}{us:cr},bJ X.K H ds b->Ia b us->fZ ds=true->A.units+rT ds<cLine->∀u∈us,EqAt A s u f (Nk X.K H x u)
 |[],b,us,r,v,_,_=>by
  have e:=eN.mp r;subst e;cases v;exact λu a=>nomatch a
 |d::ds,b,us,r,v,p,l=>by
  obtain⟨z,o,e,j,m⟩:=cB.mp r;subst e;simp at p;rw[dQ]at l;cases v with
  |cons v vs=>
   intro u a;rcases Uc.mp a with rfl|a
   .rw[QU I j v p.1];exact Ķ I d x A z c _ f j h v g (by lia) p.1 i
   exact Rv I h g i m vs p.2 (by lia) u a
def OA(K:Frag)(b:Bool):R2:=λv u H Q=>(∃a o,u=.ref a/\Ih H a v o/\Q (.bl<|if b then !o.isSome else o.isSome) H)\/(∃x ds c p,u=.ref p/\(fe K H p c\/Mg K H p c)/\Sb K H x v/\bJ K H ds c/\rT ds<=60/\plain x=true/\fZ ds=true/\Q (.bl<|if b then !inD x ds else inD x ds) H)\/
 ∃i j:ac,v=.str ⟨i.toArray⟩/\u=.str ⟨j.toArray⟩/\Q (.bl<|if b then !(sH j i 0).isSome else (sH j i 0).isSome) H
def some_of(x y:ac):(!(Builtin.Str.occurrences ⟨x.toArray⟩ ⟨y.toArray⟩ 0 (⟨x.toArray⟩:Str).length 1).isEmpty)=(sH x y 0).isSome:=by
 rw[vF];cases sH x y 0<;>rfl
theorem Nz(C:X.A.units+64<cLine:=by exact Ub.units<|by assumption):Ge X (compareOp .In) (OA X.K false):=by
 intro aa s σ H v u a b Q I f m h;rcases h with ⟨p,o,rfl,g,q⟩|⟨x,ds,A,p,rfl,c,t,l,D,px,k,q⟩|⟨i,j,rfl,rfl,q⟩
 .cases m;exact bSs (by lia) I g f λB z=>⟨.bl _,H,z,rfl,q⟩
 .cases m;have d:=by show X.A.units+1+rT ds<cLine;lia
  rcases c with c|c
  .obtain⟨e,r,pl,y⟩:=I.list c;refine SeqAt.in_listAt (Nk X.K H x) pl.isList (λw n=>Rv I t f px l r k d w<|by simpa using n) ⟨.bl _,H,I,rfl,?_⟩
   rwa [show e.toArray.any _=e.any (Nk X.K H x) by simp,Qv I l r k]
  obtain⟨e,r,pl,y⟩:=I.tuple c;refine SeqAt.in_tupleAt _ pl (λw n=>Rv I t f px l r k d w<|by simpa using n) ⟨.bl _,H,I,rfl,?_⟩
  rwa [show e.toArray.any _=e.any (Nk X.K H x) by simp,Qv I l r k]
 refine ϭ aa s σ H _ _ a b Q I f m ⟨_,_,rfl,rfl,?_⟩
 rwa [some_of]
theorem Gu(C:X.A.units+64<cLine:=by exact Ub.units<|by assumption):Ge X (compareOp .NotIn) (OA X.K true):=by
 intro aa s σ H v u a b Q I f m h;rcases h with ⟨p,o,rfl,g,q⟩|⟨x,ds,A,p,rfl,c,t,l,D,px,k,q⟩|⟨i,j,rfl,rfl,q⟩
 .cases m;exact Ŧ (by lia) I g f λB z=>⟨.bl _,H,z,rfl,q⟩
 .cases m;have d:=by show X.A.units+1+rT ds<cLine;lia
  rcases c with c|c
  .obtain⟨e,r,pl,y⟩:=I.list c;refine SeqAt.notIn_listAt (Nk X.K H x) pl.isList (λw n=>Rv I t f px l r k d w<|by simpa using n) ⟨.bl _,H,I,rfl,?_⟩
   rwa [show e.toArray.any (Nk X.K H x)=e.any (Nk X.K H x) by simp,Qv I l r k]
  obtain⟨e,r,pl,y⟩:=I.tuple c;refine SeqAt.notIn_tupleAt _ pl (λw n=>Rv I t f px l r k d w<|by simpa using n) ⟨.bl _,H,I,rfl,?_⟩
  rwa [show e.toArray.any _=e.any (Nk X.K H x) by simp,Qv I l r k]
 refine B9 aa s σ H _ _ a b Q I f m ⟨_,_,rfl,rfl,?_⟩
 rwa [some_of]
def Oz{K:Frag}:Th K (OA K false) jl:=by
 intro A H x y d v u Q w f b e q;unfold jl at e;split at e
 .obtain⟨c,e⟩:=aV e;cases e;obtain⟨a,o,e1,g,l,_⟩:=iz b f.rep c;exact .inl ⟨a,o,e1,g,by rw[l];exact q _ H (bK.refl _)<|dJ.mpr rfl⟩
 .obtain⟨c,e⟩:=aV e;cases e;obtain⟨p,h,k,j,i⟩:=b.lst;exact .inr<|.inl ⟨_,_,h,p,k,.inl j,f.rep,i.mono<|bN _ _,c.1,c.2.1,c.2.2,q _ H (bK.refl _)<|dJ.mpr rfl⟩
 .obtain⟨c,e⟩:=aV e;cases e;obtain⟨p,h,k,j,i⟩:=b.tup;exact .inr<|.inl ⟨_,_,h,p,k,.inr j,f.rep,i.mono<|bN _ _,c.1,c.2.1,c.2.2,q _ H (bK.refl _)<|dJ.mpr rfl⟩
 .cases e;exact .inr<|.inr ⟨_,_,f.str,b.str,q _ H (bK.refl _)<|dJ.mpr rfl⟩
 cases e
def Hu{K:Frag}:Th K (OA K true) pZ:=by
 intro A H x y d v u Q w f b e q;unfold pZ at e;split at e
 .obtain⟨c,e⟩:=aV e;cases e;obtain⟨a,o,e1,g,l,_⟩:=iz b f.rep c;exact .inl ⟨a,o,e1,g,by rw[l];exact q _ H (bK.refl _)<|dJ.mpr rfl⟩
 .obtain⟨c,e⟩:=aV e;cases e;obtain⟨p,h,k,j,i⟩:=b.lst;exact .inr<|.inl ⟨_,_,h,p,k,.inl j,f.rep,i.mono<|bN _ _,c.1,c.2.1,c.2.2,q _ H (bK.refl _)<|dJ.mpr rfl⟩
 .obtain⟨c,e⟩:=aV e;cases e;obtain⟨p,h,k,j,i⟩:=b.tup;exact .inr<|.inl ⟨_,_,h,p,k,.inr j,f.rep,i.mono<|bN _ _,c.1,c.2.1,c.2.2,q _ H (bK.refl _)<|dJ.mpr rfl⟩
 .cases e;exact .inr<|.inr ⟨_,_,f.str,b.str,q _ H (bK.refl _)<|dJ.mpr rfl⟩
 cases e
end
end Pu
namespace Pu
open PySem PySem.Spec PyProof.Rows L2
section
variable{X:Cx}{B:bv}{a b e:Expr}{f g:Ex}{pos:Pos}
def Cj(i:Nat) (he:PE X e (tI X.K B f)) (E:X.N[i]?=some x:=by rfl) (C:Rh X.env.scope x:=by exact Wj rfl) (b:Bf x:=by decide)
  (G:Vj x:=by decide) (z:Vg (.Name x p1) "append" X.env:=by rfl)
  (t:Uj Oa [e] X.env:=by rfl)
  (w:Oh Va Oa:=by rfl) (h:Lf e [] X.env:=by rfl)
  (I:qj (.Call (.Attribute (.Name x p1) "append" Va) [e] [] Oa) none pos.line X.env:=by rfl) :
  PS X (.Expr (.Call (.Attribute (.Name x p1) "append" Va) [e] [] Oa) pos) (tS X.K B<|oi i f):=by
 refine lQ (Uu (Zr VA EJ PySem.F.type_list_append ϴ (uT E C b G) (dD he iZ h) z t w h rfl) I) ?_
 rintro J σ H ⟨A,st,r,a,D,p⟩;obtain⟨d,b,g⟩:=R.ja D;split at g
 .rename_i xs e1;obtain⟨c,F⟩:=aV g;cases F;obtain⟨l,o,vs,e2,m,j,y,q,u⟩:=a.lst i _ xs e1;subst y;refine⟨.ref l,e2,.inl ⟨rfl,vs,fe.of j⟩,A,st,d,a,b,λv H' s rv=>⟨l,vs,v,rfl,rfl,s _ _ j,by rw[(q.length)];rw[qX]at c;exact jg c (by decide),?_⟩⟩
  obtain⟨n,k⟩:=(a.mono s).write e1 e2 (k1:=.l) rfl<|(q.mono<|bK.hide s).append<|.cons rv .nil;exact p A _ _ ((Le.of s).trans k) n
 cases g
def Ts(i:Nat) {j:Expr} (N:PE X j (tP X.K B g)) (he:PE X e (tI X.K B f)) (P:X.N[i]?=some x:=by rfl) (J:Rh X.env.scope x:=by exact Wj rfl) (t:Bf x:=by decide)
  (U:Vj x:=by decide)
  (O:∀v,assign (.Subscript (.Name x p1) j p2) X.env v=(do
   let b <- holding [v] (eval (.Name x p1) X.env)
   let h <- holding [v,b] (eval j X.env)
   standAt p2
   holding [v,b,h] (setItem b h v)
   release [v,b,h] []):=by intro _;rfl)
  (K:swapsWithSole [.Subscript (.Name x p1) j p2] e pos.line X.env=pure false:=by rfl) (I:swappedStores [.Subscript (.Name x p1) j p2] e X.env=pure none:=by rfl)
  (C:(assignEach [.Subscript (.Name x p1) j p2] X.env).map (·.2)=[assign (.Subscript (.Name x p1) j p2) X.env]:=by rfl) :
  PS X (.Assign [.Subscript (.Name x p1) j p2] e pos) (tS X.K B<|Yj i g f):=by
 refine lQ (LH he (CV (uT P J t U) N set_list O) K I C) ?_
 rintro W σ H ⟨A,st,r,a,L,p⟩;obtain⟨d,t,T⟩:=R.ja L;obtain⟨y,G,S⟩:=R.ja T;obtain⟨k,rfl,z⟩:=Ur S;split at z
 .rename_i xs e1;obtain⟨n,M,Q⟩:=R.ja z;cases Q;obtain⟨l,o,vs,e2,m,C,F,q,u⟩:=a.lst i _ xs e1;subst F;refine⟨A,st,d,a,t,λv H' s rv=>⟨.ref l,e2,A,st,_,a.mono s,G,λw V s2 c=>⟨l,vs,k,n,rfl,c.int,(s.trans s2) _ _ C,(by rw[(q.length)];exact bq M),?_⟩⟩⟩
  obtain⟨E,D⟩:=(a.mono<|s.trans s2).write e1 e2 (k1:=.l) rfl<|bJ.set (rv.mono<|bK.hide s2) n<|q.mono<|bK.hide<|s.trans s2;exact p A _ _ ((Le.of<|s.trans s2).trans D) E
 cases z
def nz(j:X.N.Nodup:=by assumption)(g:X.N[i]?=some x:=by rfl)(d:Loc X.env.scope x:=by exact Yn rfl)(e:qj (.Dict [] [] dp) (some<|.Name x pos') pos.line X.env:=by rfl)
  (h:sk X x:=by first|exact .inl rfl|exact .inr rfl|assumption):PS X (.Assign [.Name x pos'] (.Dict [] [] dp) pos) (tS X.K B<|Tv i false):=lQ (yv j g d Ą e h) (by
 rintro k σ H ⟨A,st,r,c,f,p⟩;cases f;exact λa b=>p _ _ _ (Kz b)<|c.xr i b (.inl ⟨rfl,[],rfl,rfl,rfl⟩) .nil)
def bRn:V->V->V->Hp->(Hp->Prop)->Prop:=λo i v H Q=>∃p H',o=.ref p/\Km H p i v H'/\Q H'
theorem set_dict(k:X.A.units+64<cLine):SI X bRn:=by
 intro aa s σ H o i v f j u Q I b c a h;obtain⟨p,H',rfl,g,q⟩:=h;cases b;exact Ϻ (by lia) I g c a λe d=>⟨H',d,q⟩
theorem Pz(V:X.A.units+64<cLine)(i:Nat) {j:Expr} (hj:PE X j (tI X.K B g)) (he:PE X e (tI X.K B f)) (hN:X.N[i]?=some x:=by rfl) (U:Rh X.env.scope x:=by exact Wj rfl) (G:Bf x:=by decide)
  (bf:Vj x:=by decide)
  (ha:∀v,assign (.Subscript (.Name x p1) j p2) X.env v=(do
   let y <- holding [v] (eval (.Name x p1) X.env)
   let F <- holding [v,y] (eval j X.env)
   standAt p2
   holding [v,y,F] (setItem y F v)
   release [v,y,F] []):=by intro _;rfl)
  (W:swapsWithSole [.Subscript (.Name x p1) j p2] e pos.line X.env=pure false:=by rfl) (T:swappedStores [.Subscript (.Name x p1) j p2] e X.env=pure none:=by rfl)
  (J:(assignEach [.Subscript (.Name x p1) j p2] X.env).map (·.2)=[assign (.Subscript (.Name x p1) j p2) X.env]:=by rfl) :
  PS X (.Assign [.Subscript (.Name x p1) j p2] e pos) (tS X.K B<|Rf i g f):=by
 refine lQ (LH he (CV (uT hN U G bf) hj (set_dict V) ha) W T J) ?_
 rintro Dn σ H ⟨A,st,r,a,Y,p⟩;obtain⟨d,G,h3⟩:=R.ja Y;obtain⟨k,Z,I⟩:=R.ja h3;split at I
 .rename_i t ks ds e1;obtain⟨c,h6⟩:=aV I;cases h6;obtain⟨l,o,vs,e2,m,J,S,q,u⟩:=a.lst i _ _ e1;refine⟨A,st,d,a,G,λv H' s rv=>⟨.ref l,e2,A,st,k,a.mono s,Z,λw H2 s2 rk=>?_⟩⟩
  have O:=(s.trans s2) _ _ J;have N:=q.mono<|bK.hide<|s.trans s2;have P:=rv.mono<|bK.hide s2;have Q:=rk.mono<|bN _ _;have md:ds.length<sizeLine:=by have:=c.2;rw[qX]at this;exact jg this (by decide)
  have M:=q.length;rcases S with ⟨rfl,h,rfl,rfl,rfl⟩|⟨rfl,h,rfl,rfl,rfl⟩
  .obtain⟨n,L,K⟩:=ny Q c.1;subst L K;obtain⟨C,z⟩:=gz Qr n v d P h ds N;refine⟨l,_,rfl,Km.k O (by rw[Kd]at M;lia),?_⟩
   obtain⟨E,D⟩:=(a.mono<|s.trans s2).write e1 e2 (k1:=.d false _) (.inl ⟨rfl,Zd h n v,rfl,C,rfl⟩) z;exact p A _ _ ((Le.of<|s.trans s2).trans D) E
  obtain⟨n,b,L,K,e5⟩:=LO Q c.1;subst L K;obtain⟨C,z⟩:=gz rS n v d P h ds N;refine⟨l,_,rfl,Km.t O e5 (by rw[Kd]at M;lia),?_⟩
  obtain⟨E,D⟩:=(a.mono<|s.trans s2).write e1 e2 (k1:=.d true _) (.inr ⟨rfl,Zd h n v,rfl,C,rfl⟩) z;exact p A _ _ ((Le.of<|s.trans s2).trans D) E
 cases I
def bRo(i:Nat) (he:PE X e (tF X.K B f)) (I:X.N[i]?=some x:=by rfl) (E:Rh X.env.scope x:=by exact Wj rfl) (g:Bf x:=by decide)
  (K:Vj x:=by decide) (D:Vg (.Name x p1) "extend" X.env:=by rfl)
  (y:Uj Oa [e] X.env:=by rfl)
  (z:Oh Va Oa:=by rfl) (j:Lf e [] X.env:=by rfl)
  (L:qj (.Call (.Attribute (.Name x p1) "extend" Va) [e] [] Oa) none pos.line X.env:=by rfl) :
  PS X (.Expr (.Call (.Attribute (.Name x p1) "extend" Va) [e] [] Oa) pos) (tS X.K B<|HA i f):=by
 refine lQ (Uu (Zr VA PySem.F.slot_list_extend PySem.F.type_list_extend ϵ (uT I E g K) (dD he iZ j) D y z j rfl) L) ?_
 rintro M σ H ⟨A,st,r,b,F,p⟩;obtain⟨d,g,k⟩:=R.ja F;cases d<;>first|(cases k)|skip
 rename_i ys;have h:(match st[i]? with|some (some<|.o .l xs)=>aX _ _|_=>.bad)=.ok r:=k
 split at h
 .rename_i xs e1;obtain⟨c,J⟩:=aV h;cases J;obtain⟨l,o,vs,e2,m,t,C,q,u⟩:=b.lst i _ xs e1;subst C;refine⟨.ref l,e2,.inl ⟨rfl,vs,fe.of t⟩,A,st,ys,b,g,λn zs H' s hn rz=>?_⟩
  have G:=s _ _ t;refine⟨l,n,vs,zs,rfl,rfl,by rwa [bR<|bI G hn],cG,by rw[(q.length),(rz.length)];exact lim c,?_⟩
  have a:=s.trans<|cL (o:=HO.lst zs) hn;obtain⟨w,v⟩:=(b.mono a).write e1 e2 (k1:=.l) rfl<|(q.mono<|bK.hide a).append<|rz.mono<|bK.hide<|cL hn;exact p A _ _ ((Le.of a).trans v) w
 cases h
end
section
open PySem.SeqAt
open PySem.AutoSeq1 (wpAny_loadPart')
open PySem.MeetsSeq PySem.MeetsSeq2 PySem.MeetsSeq3
inductive zj (A:Around) (s:Shared):List Value->List Value->Bool->Prop where
 |nn:zj A s [] [] false
 |nc {w:Value} {ws:cr}:zj A s [] (w::ws) true
 |cn {v:Value} {vs:cr}:zj A s (v::vs) [] false
 |eq {v w:Value} {vs ws:cr} {b:Bool}:EqAt A s v w true->zj A s vs ws b->zj A s (v::vs) (w::ws) b
 |lt {v w:Value} {vs ws:cr} {b:Bool}:EqAt A s v w false->(∀(prog:Program)(wd:World)(E Q:be),Q (.bool b) s->wpAny (model prog wd) A (richCompare .Lt v w) Q E s)->zj A s (v::vs) (w::ws) b
end
structure ClsAt(K:Frag)(c:String)(C:Addr):Prop where
 ns:nsIn K mainGlobals (ofString c)=some (some<|.ref C)
 cl:zk K C
def ED{a b:String}(h:ofString a=ofString b):a=b:=by
 have c:(ofString a).cps=(ofString b).cps:=by rw[h]
 rw[Str.ofString_eq_toList,Str.ofString_eq_toList]at c;have inj:∀(x y:List Char),x.map Char.toNat=y.map Char.toNat->x=y:=by
  intro x
  induction x with
  |nil=>intro y h;cases y with|nil=>rfl|cons _ _=>simp at h
  |cons a x d=>
   intro y h;cases y with
   |nil=>simp at h
   |cons b y=>
    injection h with f e
    rw[d y e];congr 1;exact Char.ext<|UInt32.toNat_inj.mp f
 exact String.toList_inj.mp<|inj _ _ (by
  simpa using (congrArg Array.toList c))
section
variable{K:Frag}
theorem KP{f:String}:∀{ns:sw}{ds:dL} {fs:ul} {d:D},fs.map (·.1)=ns.map ofString->bJ K H ds (fs.map (·.2))->(ns.zip ds).lookup f=some d->∃v,fs.lookup (ofString f)=some v/\Sb K H d v
 |[],ds,fs,d,_,_,h=>by simp at h
 |n::ns,[],fs,d,_,_,h=>by simp at h
 |n::ns,l::ds,[],d,e,_,h=>by simp at e
 |n::ns,l::ds,(g,w)::fs,d,e,r,h=>by
  injection e with e1 e2
  obtain⟨v,m,k,c,b⟩:=cB.mp r;injection k with j i
  subst j i;subst e1;rw[xw,Ii]at h;rw[Ii]
  by_cases a:f=n
  .subst a;simp only[beq_self_eq_true]at h ⊢;cases h;exact⟨_,rfl,c⟩
  rw[(pq.mpr a)]at h;rw[(pq.mpr λz=>a<|ED z)]
  exact KP e2 b h
theorem lookup_none{f:String}:∀{ns:sw} {fs:ul},fs.map (·.1)=ns.map ofString->f∉ns->fs.lookup (ofString f)=none
 |[],fs,e,_=>by cases fs with|nil=>rfl|cons _ _=>simp at e
 |n::ns,[],e,_=>rfl
 |n::ns,(g,w)::fs,e,h=>by
  injection e with e1 e2
  subst e1;rw[Ii,(pq.mpr λz=>h<|by rw[ED z];exact Gb)]
  exact lookup_none e2 λz=>h<|Xb _ z
theorem GS{f:String}{v:V}:∀{ns:sw} {fs:ul},fs.map (·.1)=ns.map ofString->f∉ns->Sh (ofString f) v fs=fs++[(ofString f,v)]
 |[],fs,e,_=>by cases fs with|nil=>rfl|cons _ _=>simp at e
 |n::ns,[],e,_=>by simp at e
 |n::ns,(g,w)::fs,e,h=>by
  injection e with e1 e2
  subst e1;unfold Sh;rw[Ta<|λz=>h<|by rw[ED z];exact Gb,GS e2 λz=>h<|Xb _ z]
  rfl
end
section
variable{X:Cx}{B:bv}{a b e o:Expr}{f g:Ex}{pos:Pos}
theorem oV.ins{K:Frag}{A:bv}{H:Hp}{c:String}{ns:sw}{ds:dL}{v:V}(h:oV K A H (.ins c ns ds) v):∃p C a fs,v=.ref p/\H p=some (.ins C a fs)/\nsIn K mainGlobals (ofString c)=some (some<|.ref C)/\fs.map (·.1)=ns.map ofString/\bJ K (hide A H) ds (fs.map (·.2)):=by
 rcases h with h|⟨p,j,o,k,vs,e,e2,h,i,r⟩
 .obtain⟨p,C,a,fs,vs,e,g,d,b,f,r⟩:=dz.mp h;subst f;exact⟨p,C,a,fs,e,bN _ _ _ _ g,d,b,r⟩
 cases j<;>cases e;obtain⟨_,C,a,fs,rfl,d,b,rfl⟩:=i;exact⟨p,C,a,fs,e2,h,d,b,r⟩
def lZ{c:String} (a:ClsAt X.K c C) (j:oY X.K C (ofString f')) (i:PE X o (tP X.K B f)) (l:Vg o (ofString f') X.env:=by rfl) :
  PE X (.Attribute o (ofString f') pos) (tI X.K B<|e1 (iH c f') f):=by
 refine cQ (bMr i l) ?_
 rintro σ H Q ⟨A,st,d,g,k,q⟩;obtain⟨x,h,b⟩:=R.ja k;refine⟨A,st,x,g,h,λv H1 s1 r1=>?_⟩
 cases x<;>first|(cases b)|skip
 obtain⟨e1,y⟩:=aV b;subst e1;obtain⟨p,e,D,fs,e2,u,t,s,r⟩:=r1.ins;have:e=C:=by have z:=t.symm.trans a.ns;injection z with z;injection z with z;injection z
 subst this;obtain⟨w,n,m⟩:=KP s r<|bq y;exact⟨p,e,D,fs,w,e2,u,a.cl,j,n,q w H1 s1 m⟩
structure ub(P:Program)(w:World)(K:Frag)(mg:db)(base:Heap)(c m:String)(k np:Nat)(dv:dL)(p:bn):Prop where
 ex:∃(C fa:Addr)(fd:FuncData)(ps:pi)(Se:ls)(ds:cr),ClsAt K c C/\Meth K C (ofString m) fa/\xa P w K mg base zb k fa fd ps (Mb K np p)/\Binds K fd ps ds/\Ia Se ds/\∀H,bJ K H dv Se
 len:∀ds d,p ds=.ok d->ds.length=np
def fD{c m:String}{k:Nat} {r:Ee} (h:ub X.prog X.w X.K X.mg X.base c m k np dv p) (K:PE X o (tI X.K B f)) (P:PA X (e::es) (tA X.K B r)) (J:Ub j X.A:=by assumption) (N:k<=j:=by decide)
  (Z:Lf e es X.env:=by rfl) (Af:Si pos es X.env:=by rfl)
  (I:eval (.Call (.Attribute o (ofString m) Va) (e::es) [] pos) X.env=(do
   let g <- eval o X.env
   standAt Va.atName
   let (f,first) <- holding [g] (getMethod g (ofString m) pl)
   callWith pos f first (backTo pos<|starEach (e::es) X.env) (backToKw pos<|keywordEach [] X.env)):=by rfl) :
  PE X (.Call (.Attribute o (ofString m) Va) (e::es) [] pos) (tI X.K B<|bZ c m p dv f r):=by
 obtain⟨C,fa,fd,ps,Se,ds,i,M,F,bd,s,u⟩:=h.ex;refine cQ (ŝ K i.cl M F (J.mono N) bd s gq P Z Af I) ?_
 rintro σ H Q ⟨A,st,d,b,O,q⟩;obtain⟨x,G,V⟩:=R.ja O;obtain⟨xs,Y,n⟩:=R.ja V;refine⟨A,st,x,b,G,λv H1 s1 r1=>?_⟩
 cases x<;>first|(cases n)|skip
 obtain⟨⟨e1,L⟩,l⟩:=aV n;subst e1;obtain⟨E,C',W,fs,e2,U,T,S,h8⟩:=oV.ins<|.inl r1;have:C'=C:=by have z:=T.symm.trans i.ns;injection z with z;injection z with z;injection z
 subst this;exact⟨E,W,fs,e2,U,lookup_none S L,A,st,xs,b.mono s1,Y,λvs H2 a y=>⟨A++B,_,d,b.own.mono<|s1.trans a,.cons (r1.mono<|bK.hide a)<|y.append<|u _,h.len _ _ l,l,λw H' t D=>q w H' (s1.trans<|a.trans t) D⟩⟩
def uD{c m:String}{k:Nat} (h:ub X.prog X.w X.K X.mg X.base c m k np dv p) (D:Ub j X.A) (J:k<=j) (E:PE X o (tI X.K B f))
  (y:eval (.Call (.Attribute o (ofString m) Va) [] [] pos) X.env=(do
   let b <- eval o X.env
   standAt Va.atName
   let (f,first) <- holding [b] (getMethod b (ofString m) pl)
   callWith pos f first (backTo pos<|starEach [] X.env) (backToKw pos<|keywordEach [] X.env)):=by rfl) :
  PE X (.Call (.Attribute o (ofString m) Va) [] [] pos) (tI X.K B<|bZ c m p dv f aK):=by
 obtain⟨C,fa,fd,ps,Se,ds,e,I,F,bd,l,r⟩:=h.ex;refine cQ (Ā E e.cl I F (D.mono J) bd l gq y) ?_
 rintro σ H Q ⟨A,st,d,a,K,q⟩;obtain⟨x,u,O⟩:=R.ja K;obtain⟨xs,S,i⟩:=R.ja O;cases S;refine⟨A,st,x,a,u,λv H1 s1 r1=>?_⟩
 cases x<;>first|(cases i)|skip
 obtain⟨⟨e1,G⟩,g⟩:=aV i;subst e1;obtain⟨t,T,P,fs,e2,N,M,L,U⟩:=oV.ins<|.inl r1;have:T=C:=by have z:=M.symm.trans e.ns;injection z with z;injection z with z;injection z
 subst this;exact⟨t,P,fs,e2,N,lookup_none L G,(⟨A++B,_,d,a.own.mono s1,.cons r1<|r _,h.len _ _ g,g,λw H' n s=>q w H' (s1.trans n) s⟩)⟩
def LC(K:Frag)(c:String)(b:Nat)(p:bn):Sp:=λvs H Q _=>∃x a A C e ds d,vs=.ref x::a/\H x=some (.ins C e [])/\nsIn K mainGlobals (ofString c)=some (some<|.ref C)/\Own A H/\x∉A/\bJ K (hide (x::A) H) ds a/\ds.length=b/\p ds=.ok d/\
 ∀H',bK (hide [x] H) H'->Sb K (hide A H') d (.ref x)->Q .Tb H'
structure wg(P:Program)(w:World)(K:Frag)(mg:db)(base:Heap)(c:String)(k np:Nat)(p:bn):Prop where
 ex:∃(C fa:Addr)(fd:FuncData)(ps:pi),ClsAt K c C/\Mk K C fa/\xa P w K mg base zb k fa fd ps (LC K c np p)/\Binds K fd ps []/\mg (ofString c)=some (.ref C)
 len:∀ds d,p ds=.ok d->ds.length=np
def Qz{c:String}{k:Nat} {r:Ee} (h:wg X.prog X.w X.K X.mg X.base c k np p) (t:Ub j X.A) (w:k+1<=j) (I:PA X (e::es) (tA X.K B r)) (D:Gl X (ofString c):=by rfl) (o:Bf (ofString c):=by decide)
  (he:Lf e es X.env:=by rfl) (Af:Si pos es X.env:=by rfl):PE X (.Call (.Name (ofString c) p0) (e::es) [] pos) (tI X.K B<|aM p r):=by
 obtain⟨C,fa,fd,ps,G,M,F,bd,v⟩:=h.ex;refine cQ (Ş M F (t.mono w) D v bd .nil gq I o he Af) ?_
 rintro σ H Q ⟨A,st,d,i,E,q⟩;obtain⟨xs,s,l⟩:=R.ja E;refine⟨A,st,xs,i,s,λvs H1 s1 r1 x dx Ml PK J=>?_⟩
 have g:=i.own.mono s1;have f:∀b u,H1 b=some u->Nb (Nb H1 dx<|.own x) x (.ins C dx []) b=some u:=λb u z=>by
  rwa [bR<|bI z Ml,bR<|bI z PK]
 refine⟨x,vs++[],A++B,C,dx,xs,d,rfl,cG,G.ns,λb hb=>?_,(g.free Ml),?_,h.len _ _ l,l,λH' sm m=>⟨rfl,q _ H' (λb u z=>?_) m⟩⟩
 .obtain⟨u,z,n⟩:=SX (g b hb)
  rwa [f b u z]
 .rw[dh];refine r1.mono λb u z=>?_
  have a:=bN _ _ _ _ z;rw[cU<|λy=>(Uc.mp y).elim (bI a Ml)<|λy=>by rw[kE y]at z;cases z]
  exact f b u a
 have a:=s1 _ _ z;exact sm b u (by rw[cU (by simpa using bI a Ml)];exact f b u a)
def Ü{K:Frag}{x:Addr} {c:String} (w:Own A H) (p:x∉A) (g:H x=some (.ins C dx [])) (o:nsIn K mainGlobals (ofString c)=some (some<|.ref C)) (r:bJ K (hide (x::A) H) ds ws) :
  RS K A [x] H (some (Sl.o (.i x c []) [])::(ds.map (λd=>some<|Sl.v d)++List.replicate (N.length-ds.length-1) none)) (L2.start N<|.ref x::ws):=by
 have l:=r.length;have m:L2.start N (.ref x::ws)=some (.ref x)::(ws.map some++List.replicate (N.length-ds.length-1) none):=by
  unfold L2.start;rw[ze,l];congr 2
 rw[m];have f:∀(i:Nat)(s:Sl),(ds.map (λd=>some _)++List.replicate (N.length-ds.length-1) none)[i]?=some (some s)->∃d,ds[i]?=some d/\s=.v d:=λi s e=>by
  by_cases a:i<ds.length
  .rw[Um (by simpa using a),List.getElem?_map,List.getElem?_eq_getElem a]at e
   simp at e;exact⟨ds[i],Ze a,e.symm⟩
  rw[pw (by simpa using a),List.getElem?_replicate]at e
  split at e<;>simp at e
 refine⟨by simp[l],λb hb=>?_,λb hb=>by rwa [Od.mp hb],λi d e=>?_,λi k xs e=>?_⟩
 .rcases Pg.mp hb with hb|hb
  .rw[Od.mp hb,g];rfl
  exact w b hb
 .cases i with
  |zero=>simp at e
  |succ i=>
   obtain⟨t,e1,e2⟩:=f i _ e;cases e2;obtain⟨v,h,n⟩:=r.get e1;refine⟨v,?_,n⟩;rw[List.getElem?_cons_succ,Um (by simpa using ((List.getElem?_eq_some_iff.mp h).1)),List.getElem?_map,h]
   rfl
 cases i with
 |zero=>
  simp at e;obtain⟨rfl,rfl⟩:=e;refine⟨x,_,[],rfl,Od.mpr rfl,g,⟨rfl,C,dx,[],rfl,o,rfl,rfl⟩,.nil,λj q ys ej _=>?_⟩
  cases j with
  |zero=>rfl
  |succ j=>
   obtain⟨_,_,e2⟩:=f j _ ej;cases e2
 |succ i=>
  obtain⟨_,_,e2⟩:=f i _ e;cases e2
def bKd{K:Frag} {st:Stmt} {f:Addr} {k:Nat} (F:Qp K x qual st f fd) (S:qd N ps (bT st)) (c:String) (t n:Nat) (z:Bd) (Jn:ps.length=t+1) (Y:N.length=n)
  (v:∀(j:Value)(A:Around)(e:u8)(s:Shared)(H:Hp)(E:XK)(B:bv),Ub k (A.deeper<|envOfC qual (bT st) s.heap.objs.size f j)->
   jf (Ik zb P w K mg base N qual (bT st) f j A e s H E).Ql (fH st) (tS K B z)):xa P w K mg base zb (k+1) f fd ps (LC K c t<|Nm c t n z):=by
 refine F.ok S (λvs H Q E h=>?_)<|λj A e s H vs Q E W h=>?_
 .obtain⟨y,O,A,C,dx,ds,d,rfl,_,_,_,_,r,u,_⟩:=h;rw[ze,r.length,u,Jn]
 obtain⟨y,O,L,C,dx,ds,d,rfl,V,U,p,BC,r,u,X,q⟩:=h;refine⟨tS K L z,v j A e s H E L W,?_⟩;obtain⟨_,h2⟩:=aV<|gT X y;obtain⟨J,gf,i⟩:=R.ja h2;have G:=Ü (N:=N) p BC V U r;rw[u,Y]at G;refine⟨[y],_,J,G,gf,?_⟩;cases J with
 |nx s1=>
  intro A1 zr H1 l g;have D:(match (s1[0]?) with|some (some<|.o (.i M c' ns) xs)=>aX _ _|_=>.bad)=.ok d:=i
  split at D
  .rename_i M c' ns xs e1;obtain⟨rfl,Z⟩:=aV D;cases Z;obtain⟨a,o,vs,e2,m,h5,I,T,_⟩:=g.lst 0 _ _ e1;have ea:=I.1;subst ea;exact q H1 (bK.trans (l)<|bN _ _)<|I.rep (by rwa [cU<|g.Mh a m])<|T.mono<|oU λb v=>Ag _ v
  cases D
 |rt d'=>cases i
 |bk s1=>cases i
 |ct s1=>cases i
def Ľ{c:String} (ds:dL) (d:D) (h:Nm c np n bd ds=.ok d):ds.length=np:=(aV<|gT h 0).1
theorem Rz(i:Nat) {c b:String} {a:Expr} (v:ClsAt X.K c C) (J:oY X.K C (ofString b)) (he:PE X a (tI X.K B f)) (L:X.N[i]?=some x:=by rfl) (F:Rh X.env.scope x:=by exact Wj rfl) (j:Bf x:=by decide)
  (S:Vj x:=by decide) (G:qj a (some<|.Attribute (.Name x p1) (ofString b) p2) pos.line X.env:=by rfl) :
  PS X (.Assign [.Attribute (.Name x p1) (ofString b) p2] a pos) (tS X.K B<|js i c b f):=by
 refine lQ (bMs (uT L F j S) he G) ?_
 rintro U σ H ⟨A,st,r,g,I,p⟩;obtain⟨d,j,k⟩:=R.ja I;split at k
 .rename_i n Q ns xs e1;obtain⟨⟨P,K,T⟩,M⟩:=aV k;subst P;cases M;obtain⟨l,o,vs,e2,m,N,E,q,u⟩:=g.lst i _ _ e1;obtain⟨O,e,s,fs,rfl,t,h,rfl⟩:=E;have:e=C:=by have z:=t.symm.trans v.ns;injection z with z;injection z with z;injection z
  subst this;refine⟨A,st,d,g,j,λy H1 s1 r1=>⟨.ref l,e2,l,e,s,fs,rfl,s1 _ _ N,v.cl,J,?_,?_⟩⟩
  .have:=congrArg List.length h;rw[Kd,Kd]at this;lia
  rw[GS h K];obtain⟨D,w⟩:=(g.mono s1).write e1 e2 (k1:=.i n Q<|ns++[b]) (o':=.ins e s<|fs++[(ofString b,y)]) ⟨O,e,s,_,rfl,t,by rw[Gi,Gi,h];rfl,by rw[Gi];rfl⟩<|(q.mono<|bK.hide s1).append<|.cons r1 .nil
  exact p A _ _ ((Le.of s1).trans w) D
 cases k
def yP:PS X sm (tS X.K B pA):=λ_ _ _ _ _ _ ⟨_,_,_,_,h,_⟩=>nomatch h
end
section
variable {iter c:Expr} {t:Tg} {u:Ex}
def XQ{f:Shared}{l:bv}{p:Addr}{j:db} (E:X.N.Nodup) (u:X.N[i]?=some x) (n:Loc X.env.scope x)
  (w:sk X x) (g:f.heap.objs.size<=C) (d:Aa X aa σ H3 f) (G:∀b∈l,Dj X aa H3 b) (m:Aa (fL X scope C f H3 l) [] τ H5 s5) (I:s5.heap.Ns C j)
  (D:∀h,Aa X aa (σ.set i<|some<|.ref p) H5 h->Qf .none h):compPost (model X.prog X.w) X.A X.xe (some<|assign (.Name x px) X.env) Qf (.ref p) C (.ok .next) s5:=by
 have lt:∀b o,f.heap.get? b=some o->C≠b:=λb o e z=>Lh _<|jg (Dd<|z ▸ e) g
 have F:C≠X.env.locals:=λz=>Lh _<|jg (z ▸ d.lt) g
 have k:∀y c,X.env.cells.lookup y=some c->c≠C:=λy c e=>by
  obtain⟨v,o,t,_⟩:=d.cell y c e;exact(lt c o t).symm
 exact wpAny_assign_Name<|OP (v:=.ref p) (xv d G g m<|.refl ..) E u n rfl (λK J ⟨a,r,B⟩=>⟨j,I.sameBut r (by
  rcases B with z|z
  .rwa [z]
  exact(k x a z).symm),λh' H=>D _<|J.turned (λb o A e=>(H.2 b A).trans e) ((m.free)) F (.inr<|ye d.sz g) k<|λq s=>(lt q.1 q.2 (d.pin q s).1).symm⟩) w
def bOf{x:Str}{n:Pos}{is:ac}(O:L2.PI X tg iter (vk X.K B it))(P:∀(B:bv)(C:Addr)(c:Shared)(b:Hp)(a:bv),PG (fL X scope C c b a) tg<|tG X.K B t)
  (he:∀(B:bv)(C:Addr)(c:Shared)(b:Hp)(a:bv),PE (fL X scope C c b a) elt<|tI X.K B f) (V:X.calm=true:=by rfl) (g:Eo is t:=by exact Ms) (S:Lc X scope is:=by exact .of rfl) (W:X.N.Nodup:=by assumption) (o:X.N[i]?=some x:=by rfl) (E:Loc X.env.scope x:=by exact Yn rfl)
  (Jl:swapsWith (.ListComp elt [⟨tg,iter,[],0⟩] scope pos) (some<|.Name x px) n.line X.env=pure true:=by rfl)
  (T:sk X x:=by first|exact .inl rfl|exact .inr rfl|assumption) (G:∀x,foldedSetIterable iter X.env x=pure x:=by intro _;rfl) :
  PS X (.Assign [.Name x px] (.ListComp elt [⟨tg,iter,[],0⟩] scope pos) n) (tS X.K B<|bU i<|cT is t it fK f):=by
 intro aa s σ H Dn I h;obtain⟨A,st,r,j,J,q⟩:=h;obtain⟨d,U,l⟩:=R.ja J;cases l;obtain⟨xs,Ll,h2⟩:=R.ja U;obtain⟨M,l⟩:=aV h2;obtain⟨ys,D,Z⟩:=R.ja l;cases Z;rw[exec_Assign_Name_used _ _ _ _ Jl];refine Ha<|Pt<|Ha<|Ha<|Wk (wG (rest:=λenv it p=>eval elt env >>= λx=>call _ [p,x] >>= λ_=>again<|.compLoop _ 0 it p env) S V O (λC c b a=>jt λB=>P B C c b a) (λ_ _ _=>tL)
  (λC c b a it p s Q h=>eJ h) (λC c b a it p τ H s aa vs N Q I h q=>KI rfl (ft λB=>he B C c b a) τ H s aa vs N Q I h (λQ Q' m h=>Gr Q Q' m h) q) G I
  (Qs g (λτ H Q ⟨B,A,st,k,j,hk,q⟩=>?_) j Ll M D λp vs H1 H' s1 L u F r=>Lz j (λv H' sm y=>q A _ H' (Le.of sm)<|(j.mono sm).set i y) s1 L u F r) λC p H5 s5 m5 s3 H3 a τ Y I3 bi I5 Mi z=>XQ W o E T Y I3 bi I5 Mi λw I'=>⟨_,_,I',z⟩) (λ_ w K=>Ob<|Ob K) λ_ _ e=>e
 cases hk;exact q H<|bK.refl _
def Ru{x:Str}{n:Pos}{is:ac}(T:L2.PI X tg iter (vk X.K B it))(U:∀(B:bv)(C:Addr)(g:Shared)(b:Hp)(a:bv),PG (fL X scope C g b a) tg<|tG X.K B t)
  (J:∀(B:bv)(C:Addr)(g:Shared)(b:Hp)(a:bv),PT (fL X scope C g b a) c<|tT X.K B u)
  (he:∀(B:bv)(C:Addr)(g:Shared)(b:Hp)(a:bv),PE (fL X scope C g b a) elt<|tI X.K B f) (Y:X.calm=true:=by rfl) (j:Eo is t:=by exact Ms) (S:Lc X scope is:=by exact .of rfl) (Z:X.N.Nodup:=by assumption) (o:X.N[i]?=some x:=by rfl) (F:Loc X.env.scope x:=by exact Yn rfl)
  (Jl:swapsWith (.ListComp elt [⟨tg,iter,[c],0⟩] scope pos) (some<|.Name x px) n.line X.env=pure true:=by rfl)
  (V:sk X x:=by first|exact .inl rfl|exact .inr rfl|assumption) (K:∀x,foldedSetIterable iter X.env x=pure x:=by intro _;rfl) :
  PS X (.Assign [.Name x px] (.ListComp elt [⟨tg,iter,[c],0⟩] scope pos) n) (tS X.K B<|bU i<|cT is t it u f):=by
 intro aa s σ H Dn I h;obtain⟨A,st,r,k,L,q⟩:=h;obtain⟨d,W,l⟩:=R.ja L;cases l;obtain⟨xs,Ll,h2⟩:=R.ja W;obtain⟨P,l⟩:=aV h2;obtain⟨ys,E,h4⟩:=R.ja l;cases h4;rw[exec_Assign_Name_used _ _ _ _ Jl];exact Ha<|Pt<|Ha<|Ha<|Wk (wG (te:=yr X.K f) (rest:=λenv it p=>isTrue c env (eval c env) >>= λok=>if ok=true then (eval elt env >>= λx=>call _ [p,x] >>= λ_=>again<|.compLoop _ 0 it p env) else again (.compLoop _ 0 it p env)) S Y T (λC g b a=>jt λB=>U B C g b a) (λ_ _ _=>tL)
  (λC g b a it p s Q h=>hJ h) (λC g b a it p τ H s aa vs N Q I h q=>LI rfl (ft λB=>he B C g b a) (tJ λB=>J B C g b a) τ H s aa vs N Q I h (λ_ Q Q' m h=>Gr Q Q' m h) q) K I
  (Qs j (λτ H Q h=>h) k Ll P E λp vs H1 H' s1 O w G r=>Lz k (λv H' sm z=>q A _ H' (Le.of sm)<|(k.mono sm).set i z) s1 O w G r) λC p H5 s5 m5 s3 H3 a τ hC I3 bi I5 Mi D=>XQ Z o F V hC I3 bi I5 Mi λy I'=>⟨_,_,I',D⟩) (λ_ y M=>Ob<|Ob M) λ_ _ e=>e
end
structure Ga(K:Frag)(x qual:Str)(st:Stmt)(dV:Value)(f:Addr)(fd:FuncData):Prop where
 ex:∃(oc:Value)(od:o0)(kV doc pm:Value)(an:o0)(Kc ct:Value) (gi:sK),
  fd=fnOf x qual (jZ st) (fH st) (bT st) dV kV doc pm an Kc ct/\K.lookup f=some ⟨oc,od,.func fd,gi⟩/\codeIn K Kc qual=true
 kp:keepIn K (.ref f)=true
section
variable {K:Frag} {st:Stmt} {f:Addr} {k:Nat}
def oz{a:o0}{kV:Value} (l:K.lookup f=some ⟨oc,a,.func<|fnOf x qual (jZ st) (fH st) (bT st) dV kV doc pm an Kc ct,gi⟩)
  (c:codeIn K Kc qual=true) (k:keepIn K (.ref f)=true):Ga K x qual st dV f (fnOf x qual (jZ st) (fH st) (bT st) dV kV doc pm an Kc ct):=⟨⟨oc,a,kV,doc,pm,an,Kc,ct,gi,rfl,l,c⟩,k⟩
def Ga.rh(F:Ga K x qual st .none f fd)
  (h:∀(kV a b:Value)(d:o0)(e c:Value)(us:cr),us.length=ps.length->bindArgs (fnOf x qual (jZ st) (fH st) (bT st) .none kV a b d e c) ⟨us,[]⟩=pure (ps.zip us)):Binds K fd ps []:=by
 obtain⟨oc,g,kV,a,b,d,e,c,gi,rfl,lk,i⟩:=F.ex;exact .all<|h kV a b d e c
def Ga.VL{sp:Sp}(F:Ga K x qual st dV f fd)(S:qd N ps (bT st))(len:∀vs H Q E,sp vs H Q E->vs.length=ps.length)
  (i:∀(b:Value)(A:Around)(a:u8)(s:Shared)(H:Hp)(vs:ls)(Q:VK)(E:XK),Ub k (A.deeper<|envOfC qual (bT st) s.heap.objs.size f b)->sp vs H Q E->
   ∃t,jf (Ik zb P w K mg base N qual (bT st) f b A a s H E).Ql (fH st) t/\t {nx:=λ_ j=>Q .Tb j,rt:=Q} (L2.start N vs) H):xa P w K mg base zb (k+1) f fd ps sp:=by
 obtain⟨oc,m,kV,e,l,o,b,n,gi,rfl,lk,g⟩:=F.ex;refine nX lk g S len λA a s H vs Q E d c=>?_
 obtain⟨t,h,q⟩:=i b A a s H vs Q E d c;exact⟨t,h.Ql,q⟩
def MI(F:Ga K x qual st dV f fd)(S:qd N ps (bT st))(m n:Nat)(p:Bd)(O:ps.length=m)(G:N.length=n)
  (I:∀(i:Value)(A:Around)(b:u8)(s:Shared)(H:Hp)(E:XK)(B:bv),Ub k (A.deeper<|envOfC qual (bT st) s.heap.objs.size f i)->
   jf (Ik zb P w K mg base N qual (bT st) f i A b s H E).Ql (fH st) (tS K B p)):xa P w K mg base zb (k+1) f fd ps (Mb K m<|bV m n p):=by
 refine F.VL S (λvs H Q E h=>?_)<|λi A b s H vs Q E C h=>?_
 .obtain⟨A,ds,d,c,r,o,_⟩:=h;rw[r.length,o,O]
 obtain⟨B,ds,d,c,r,o,D,q⟩:=h;refine⟨tS K B p,I i A b s H E B C,?_⟩;obtain⟨_,L⟩:=aV D;obtain⟨u,M,g⟩:=R.ja L;have t:=XF (N:=N) c r;rw[o,G]at t;refine⟨[],_,u,t,M,?_⟩;have e:∀{j:bv}{H':Hp},Le [] H j H'->bK H H':=λ{j H'} l=>by
  unfold Le at l;exact l.trans<|bN _ _
 cases u with
 |nx s1=>
  cases g;exact λj T H' l z=>q _ H' (e l)<|yM.mpr rfl
 |rt U=>
  cases g;exact λj v H' l y=>q v H' (e l)<|y.mono<|oU λa J=>Ag _ J
 |bk s1=>exact nomatch g
 |ct s1=>exact nomatch g
def ub.of{c m:String} {ds:cr} (d:ClsAt K c C) (a:Meth K C (ofString m) f) (F:xa P w K mg base zb k f fd ps (Mb K np<|bV np n bd)) (b:Binds K fd ps ds) (v:Ia Se ds) (r:∀H,bJ K H dv Se):ub P w K mg base c m k np dv (bV np n bd):=
 ⟨⟨C,f,fd,ps,Se,ds,d,a,F,b,v,r⟩,My⟩
end
end Pu
namespace Pu
open PySem PySem.Spec PyProof.Rows L2 PySem.SeqAt
section
variable {a b o:Expr} {r:Ee}
def ϊ:pH X (.type "list") (λvs H Q=>∃l xs,vs=[.ref l]/\(fe X.K H l xs\/Mg X.K H l xs)/\∀n,H n=none->Q (.ref n) (Nb H n<|.lst xs)):=by
 intro aa s σ H vs p Q I r h;obtain⟨l,xs,rfl,c,q⟩:=h;obtain⟨u,rfl,m⟩:=r.one;obtain rfl:u=Value.ref l:=m;rcases c with c|c
 .obtain⟨j,b,⟨o,n,e,g,_,f⟩,a⟩:=I.list c;exact call_list_seq l (.inl rfl) e g f (λh' i k d=>⟨.ref s.heap.objs.size,_,I.laid (o:=.lst xs) k (Fc _) ⟨a,j,i,b,d⟩,rfl,q _<|I.Bb.fresh<|Fc _⟩) (by rw[b.length]at a;simpa using a)
 obtain⟨j,b,⟨o,e,g,n,f⟩,a⟩:=I.tuple c;exact call_list_seq l (.inr rfl) e g f (λh' i k d=>⟨.ref s.heap.objs.size,_,I.laid (o:=.lst xs) k (Fc _) ⟨a,j,i,b,d⟩,rfl,q _<|I.Bb.fresh<|Fc _⟩) (by rw[b.length]at a;simpa using a)
def Sz(m:X.mg "list"=none)(r:PE X a (tP X.K B f))(o:Gl X "list":=by rfl)(j:Lf a [] X.env:=by rfl):PE X (.Call (.Name "list" p0) [a] [] pos) (tI X.K B<|e1 Cs f):=by
 refine cQ (oy ϊ o m rfl (dD r iZ j) (he:=j)) ?_
 rintro σ H Q ⟨A,st,d,c,p,q⟩;obtain⟨x,k,i⟩:=R.ja p;refine⟨A,st,x,c,k,λv H1 s1 r1=>?_⟩
 cases x<;>first|(cases i;done)|skip
 .cases i;obtain⟨l,vs,e,h,g⟩:=r1.tup;exact⟨l,vs,by rw[e],.inr h,λn b=>q _ _ (s1.trans<|cL b)<|jN (c.own.mono s1) b g⟩
 cases i;obtain⟨l,vs,e,h,g⟩:=r1.lst;exact⟨l,vs,by rw[e],.inl h,λn b=>q _ _ (s1.trans<|cL b)<|jN (c.own.mono s1) b g⟩
theorem RU:∀{l:At}{us:cr},Ia (l.map V.bl) us->us=l.map Value.bool
 |[],_,.nil=>rfl
 |b::l,_,.cons r t=>by
  rw[RU t];cases r;rfl
def Ý(E:X.calm=true):pH X (.builtin "all") (λvs H Q=>∃(l:Addr)(bs:At),vs=[.ref l]/\fe X.K H l (bs.map V.bl)/\Q (.bl<|bs.all id) H):=by
 intro aa s σ H vs K Q I r h;obtain⟨l,bs,rfl,C,q⟩:=h;obtain⟨u,rfl,w⟩:=r.one;obtain rfl:u=Value.ref l:=w;obtain⟨f,t,⟨y,n,e,J,_,D⟩,M⟩:=I.list C;have j:=RU t;have o:s.heap.IsList l f.toArray:=⟨y,e,J,n,D⟩;refine call_all_walk<|DB o ⟨s.heap.objs.size,_,_,_,_,_,λi=>bs[i]?.getD false,rfl,Walks.list (A:=X.A.in1) (I.ok.hd E) _ l (df<|Dd e) f.toArray,⟨⟨_,vf _ rfl,rfl,rfl⟩,o.push _⟩,?_,λh' L k=>?_⟩
 .intro i v p F N c B;rw[j]at c;simp only[List.getElem?_toArray,List.getElem?_map,Option.map_eq_some_iff]at c;obtain⟨b,d,rfl⟩:=c;have m:F (bs[i]?.getD false) p:=B;rw[d]at m;exact Ob m
 refine⟨.bl _,H,I.kept<|λb u z=>k b u (λd=>?_)<|Zc _ z,?_,q⟩
 .exact Lh _ ((Od.mp d) ▸ Dd z)
 congr 1;rw[To,ww,ww];have G:f.toArray.size=bs.length:=by rw[j];simp
 rw[G];constructor
 .intro h x A;obtain⟨i,a,rfl⟩:=qw.mp A;have:=h i (Jd.mpr a)
  rwa [Ze a]at this
 intro h i a;have g:=Jd.mp a;rw[Ze g];exact h _<|Fi g
theorem SU{K:Frag}{H:Hp}:∀{l:At}{vs:ls},bJ K H (l.map D.bl) vs->vs=l.map V.bl
 |[],vs,h=>eN.mp h
 |b::l,vs,h=>by
  obtain⟨v,r,rfl,c,a⟩:=cB.mp h;rw[SU a,dJ.mp c];rfl
def CA(k:X.mg "all"=none)(o:X.calm=true)(p:PE X a (tP X.K B f))(m:Gl X "all":=by rfl)(c:Lf a [] X.env:=by rfl):PE X (.Call (.Name "all" p0) [a] [] pos) (tI X.K B<|e1 Io f):=by
 refine cQ (qW (Ý o) m k rfl (dD p iZ c) (he:=c)) ?_
 rintro σ H Q ⟨A,st,d,i,n,q⟩;obtain⟨x,j,h⟩:=R.ja n;refine⟨A,st,x,i,j,λv H1 s1 r1=>?_⟩
 cases x<;>first|(cases h)|skip
 obtain⟨bs,s,r⟩:=R.ja h;cases r;obtain⟨l,vs,e,g,b⟩:=r1.lst;rw[JV s]at b;rw[SU b]at g;exact⟨l,bs,by rw[e],g,q _ H1 s1<|dJ.mpr rfl⟩
theorem HS:∀{l:jp}{us:cr},Ia (l.map V.int) us->∃ps:List (Int×Tok),us=ps.map (λp=>Value.int p.1 p.2)/\ps.map (·.1)=l
 |[],_,.nil=>⟨[],rfl,rfl⟩
 |b::l,_,.cons r t=>by
  obtain⟨ps,e,e2⟩:=HS t;obtain⟨t,rfl⟩:=r;exact⟨(b,t)::ps,by rw[e];rfl,by rw[Mf,e2]⟩
def IS{ps:List (Int×Tok)} (a:i<ps.length):numAt ps.toArray i=(ps.map (·.1))[i]'(by simpa using a):=by
 unfold numAt;rw[FJ,Ze a];simp
theorem Þ(y:X.calm=true):pH X (.builtin "max") (λvs H Q=>∃(l:Addr)(is:jp),vs=[.ref l]/\fe X.K H l (is.map V.int)/\0<is.length/\Q (.int<|Jk is) H):=by
 intro aa s σ H vs E Q I r h;obtain⟨l,is,rfl,o,m,q⟩:=h;obtain⟨u,rfl,b⟩:=r.one;obtain rfl:u=Value.ref l:=b;obtain⟨K,a,⟨c,n,e,C,_,w⟩,G⟩:=I.list o;obtain⟨ps,B,e2⟩:=HS a;have d:ps.length=is.length:=by rw[<-e2,Kd]
 have D:s.heap.IsList l (intItems ps.toArray):=⟨c,e,C,n,by rw[w,B];simp[intItems]⟩
 refine max_intList (I.ok.hd y) D (by simpa [d] using m) λv h' F f k=>?_
 obtain⟨t,rfl⟩:=intItems_at f;refine⟨.int _,H,I.kept k,⟨t,?_⟩,q⟩;congr 1;have g:ps.toArray.size=ps.length:=rfl;rw[g];obtain⟨J,A⟩:=argBest_gt (numAt ps.toArray)<|ps.length-1;have z:argBest (λi j=>decide (numAt ps.toArray i>numAt ps.toArray j)) (ps.length-1)<ps.length:=by omega
 refine(Xu ?_ λx hx=>?_).symm
 .rw[IS z,<-e2];exact Fi _
 rw[<-e2]at hx;obtain⟨i,p,rfl⟩:=qw.mp hx;rw[<-IS (by simpa using p)]
 exact A i (by lia)
theorem ZF{K:Frag}{H:Hp}:∀{l:jp}{vs:ls},bJ K H (l.map D.int) vs->vs=l.map V.int
 |[],vs,h=>eN.mp h
 |b::l,vs,h=>by
  obtain⟨v,r,rfl,c,a⟩:=cB.mp h;rw[ZF a,bY.mp c];rfl
def XX(n:X.mg "max"=none)(r:X.calm=true)(s:PE X a (tP X.K B f))(o:Gl X "max":=by rfl)(h:Lf a [] X.env:=by rfl):PE X (.Call (.Name "max" p0) [a] [] pos) (tI X.K B<|e1 Uv f):=by
 refine cQ (qW (Þ r) o n rfl (dD s iZ h) (he:=h)) ?_
 rintro σ H Q ⟨A,st,d,k,p,q⟩;obtain⟨x,m,j⟩:=R.ja p;refine⟨A,st,x,k,m,λv H1 s1 r1=>?_⟩
 cases x<;>first|(cases j)|skip
 obtain⟨is,t,b⟩:=R.ja j;obtain⟨c,b⟩:=aV b;cases b;obtain⟨l,vs,e,i,g⟩:=r1.lst;rw[zV t]at g;rw[ZF g]at i;exact⟨l,is,by rw[e],i,c,q _ H1 s1<|bY.mpr rfl⟩
end
end Pu
namespace Pu
open PySem PySem.Spec PyProof.Rows L2
abbrev XW:=D->L2.St->s0
section
variable {K:Frag} {f:Addr} {k:Nat}
def wg.of{c:String} (d:ClsAt K c C) (a:Mk K C f) (F:xa P w K mg base zb k f fd ps (LC K c np<|Nm c np n bd)) (b:Binds K fd ps []) (m:mg (ofString c)=some (.ref C)):wg P w K mg base c k np (Nm c np n bd):=
 ⟨⟨C,f,fd,ps,d,a,F,b,m⟩,Ľ⟩
end
section
variable{P:List α->Prop}
def TU(h:P [])(us:List α)(a:us.length=0):P us:=by rwa [Vm.mp a]
def Rr(h:∀a us,us.length=n->P (a::us))(us:List α)(b:us.length=n+1):P us:=by
 cases us with
 |nil=>cases b
 |cons a us=>exact h a us<|Nat.succ.inj b
def HH(h:∀a,P [a])(us:List α)(b:us.length=1):P us:=Rr (λa=>TU<|h a) us b
def UU(h:∀a b,P [a,b])(us:List α)(c:us.length=2):P us:=Rr (λa=>HH<|h a) us c
def pz(h:∀a b c,P [a,b,c])(us:List α)(d:us.length=3):P us:=Rr (λa=>UU<|h a) us d
def VU(h:∀a b c d,P [a,b,c,d])(us:List α)(e:us.length=4):P us:=Rr (λa=>pz<|h a) us e
def WU(h:∀a b c d e,P [a,b,c,d,e])(us:List α)(f:us.length=5):P us:=Rr (λa=>VU<|h a) us f
def bKe(h:∀a b c d e f,P [a,b,c,d,e,f])(us:List α)(g:us.length=6):P us:=Rr (λa=>WU<|h a) us g
end
def OM(K:Frag)(G H:Hp):List (List D)->List Addr->Prop
 |[],ps=>ps=[]
 |xs::a,ps=>∃p r vs,ps=p::r/\H p=some (.lst vs)/\bJ K G xs vs/\OM K G H a r
def Ux(K:Frag)(B:bv)(i:Nat)(b:Bd):TS:=λd σ H=>∃A st st' xs,RS K B A H st σ/\b st=.ok (.nx st')/\st'[i]?=some (some<|.o .l xs)/\∀c a vs H',Le A H c H'->a∈c->H' a=some (.lst vs)->bJ K (hide (c++B) H') xs vs->d.rt (.ref a) H'
def Wi(K:Frag)(c:Nat)(p:bn):Sp:=λvs H Q _=>∃A ds xs,Own A H/\bJ K (hide A H) ds vs/\ds.length=c/\p ds=.ok (.lst xs)/\∀a b H',bK H H'->H a=none->H' a=some (.lst b)->bJ K (hide (a::A) H') xs b->Q (.ref a) H'
section
variable {o:Expr} {rest:List Stmt}
def XU(m:PS X sm (tS X.K B bd))(k:jf X rest (Ux X.K B i tm)):jf X (sm::rest) (Ux X.K B i<|aY bd tm):=Pr (LF m k) (by
 rintro t σ H ⟨A,st,st',xs,f,j,h,q⟩;obtain⟨e,n,b⟩:=R.ja j;refine⟨A,st,e,f,n,?_⟩;cases e with
 |nx s1=>exact λr s H' l c=>⟨r,s1,st',xs,c,b,h,λp a vs o g=>q p a vs o<|l.trans g⟩
 |rt d=>cases b
 |bk s1=>cases b
 |ct s1=>cases b)
def bOg(h:X.N[i]?=some x:=by rfl)(d:Rh X.env.scope x:=by exact Wj rfl)(f:Bf x:=by decide)(k:Vj x:=by decide) :
  jf X [.Return (some<|.Name x p1) pos] (Ux X.K B i cJ):=Pr (GG<|KH<|uT h d f k) (by
 rintro l σ H ⟨A,st,st',xs,b,g,e,q⟩;cases g;obtain⟨a,o,vs,e1,m,j,c,r,_⟩:=b.lst i .l xs e;subst c;exact⟨.ref a,e1,q A a vs H Le.refl m j r⟩)
end
section
variable {K:Frag} {st:Stmt} {f:Addr} {k:Nat}
def bT3(F:Ga K x qual st dV f fd)(S:qd N ps (bT st))(p n i:Nat)(u:Bd)(O:ps.length=p)(I:N.length=n)
  (j:∀(m:Value)(A:Around)(c:u8)(s:Shared)(H:Hp)(E:XK)(B:bv),Ub k (A.deeper<|envOfC qual (bT st) s.heap.objs.size f m)->
   jf (Ik zb P w K mg base N qual (bT st) f m A c s H E).Ql (fH st) (Ux K B i u)):xa P w K mg base zb (k+1) f fd ps (Wi K p<|bV p n<|Gm u i):=by
 refine F.VL S (λvs H Q E h=>?_)<|λm A c s H vs Q E D h=>?_
 .obtain⟨A,ds,d,g,r,t,_⟩:=h;rw[r.length,t,O]
 obtain⟨B,ds,xs,g,r,t,G,q⟩:=h;refine⟨Ux K B i u,j m A c s H E B D,?_⟩;obtain⟨_,L⟩:=aV G;obtain⟨V,e,J⟩:=R.ja L;have v:=XF (N:=N) g r;rw[t,I]at v;unfold Gm at e;split at e
 .rename_i s1 M;unfold EI at e;split at e
  .rename_i e1;cases e;cases J;refine⟨[],_,s1,_,v,M,e1,λW a T H' l ha C y=>q a T H' (by
    unfold Le at l;exact l.trans<|bN _ _) ?_ C<|y.mono<|oU λb j=>?_⟩
   .cases U:H a with
    |none=>rfl
    |some o=>
     have z:=l a o (by rwa [pS])
     rw[kE ha]at z;cases z
   rcases Uc.mp j with rfl|j
   .exact Kh _ ha
   exact Ag _ j
  cases e
 cases e
def ß(h:bV np n (Gm bd i) ds=.ok d):∃xs,d=.lst xs:=by
 obtain⟨_,c⟩:=aV h;obtain⟨e,a,b⟩:=R.ja c;unfold Gm at a;split at a
 .unfold EI at a;split at a
  .cases a;cases b;exact⟨_,rfl⟩
  cases a
 cases a
def YQ(v:∀ds d,p ds=.ok d->∃xs,d=.lst xs) (F:xa P w K mg base zb k f fd ps (Wi K np p)):xa P w K mg base zb k f fd ps (Mb K np p):=by
 have j:∀vs H Q E,Mb K np p vs H Q E->Wi K np p vs H Q E:=by
  rintro vs H Q E ⟨A,ds,d,e,r,x,m,q⟩;obtain⟨xs,rfl⟩:=v ds d m;refine⟨A,ds,xs,e,r,x,m,λa n H' sm y l t=>q _ H' sm<|lO.mpr ⟨a,n,rfl,(by rwa [cU<|e.free y]),t.mono<|oU λb i=>Xb _ i⟩⟩
 exact⟨λvs H Q E h=>F.len vs H Q E<|j vs H Q E h,λA c s H g o vs Q E u z i l h=>F.run A c s H g o vs Q E u z i l<|j vs H Q E h⟩
end
structure Md(P:Program)(w:World)(K:Frag)(mg:db)(base:Heap)(c m:String)(k np:Nat)(dv:dL)(p:bn):Prop where
 ex:∃(C fa:Addr)(fd:FuncData)(ps:pi)(Se:ls)(ds:cr),ClsAt K c C/\Meth K C (ofString m) fa/\xa P w K mg base zb k fa fd ps (Wi K np p)/\Binds K fd ps ds/\Ia Se ds/\∀H,bJ K H dv Se
 len:∀ds d,p ds=.ok d->ds.length=np
 lst:∀ds d,p ds=.ok d->∃xs,d=.lst xs
def Md.of{K:Frag} {k:Nat} {f:Addr} {c m:String} {ds:cr} (d:ClsAt K c C) (a:Meth K C (ofString m) f) (F:xa P w K mg base zb k f fd ps (Wi K np<|bV np n<|Gm bd i)) (b:Binds K fd ps ds) (v:Ia Se ds) (r:∀H,bJ K H dv Se):Md P w K mg base c m k np dv (bV np n<|Gm bd i):=
 ⟨⟨C,f,fd,ps,Se,ds,d,a,F,b,v,r⟩,My,λ_ _ h=>ß h⟩
def Md.plain{K:Frag} {c m:String} {k:Nat} (h:Md P w K mg base c m k np dv p):ub P w K mg base c m k np dv p:=by
 obtain⟨C,fa,fd,ps,Se,ds,d,a,F,b,v,r⟩:=h.ex;exact⟨⟨C,fa,fd,ps,Se,ds,d,a,YQ h.lst F,b,v,r⟩,h.len⟩
section
variable {a b:Expr}
theorem kG:∀{ns:jp}{us:cr},Ia (ns.map V.int) us->IntsAre us ns
 |[],us,h=>by rw[h.zero];exact .nil
 |n::ns,us,h=>by
  cases h with
  |cons r t=>
   obtain⟨k,rfl⟩:=r;exact .cons n k<|kG t
theorem CF{K:Frag}{H:Hp}:∀{l:jp}{vs:ls},bJ K H (l.map D.int) vs->vs=l.map V.int
 |[],vs,h=>eN.mp h
 |i::l,vs,h=>by
  obtain⟨v,r,rfl,b,a⟩:=cB.mp h;rw[bY.mp b,CF a];rfl
end
def LL:Hp:=λ_=>none
def bKf:bK LL H:=λ_ _ h=>nomatch h
def ľ{K:Frag} (h:atom d=true) (r:Sb K H d v):Sb K LL d v:=by
 cases d<;>first|(cases h;done)|skip
 .exact yM.mpr (yM.mp r)
 .exact dJ.mpr (dJ.mp r)
 .exact bY.mpr (bY.mp r)
 exact gK.mpr<|gK.mp r
def tC(K:Frag)(B:bv)(f:Ex):TE:=λσ H Q=>∃A st d xs,RS K B A H st σ/\f st=.ok d/\bNe d=.ok (.lst xs)/\∀P ps H',bK H H'->(∀p∈P::ps,H p=none)->(P::ps).Nodup->H' P=some (.lst<|ps.map V.ref)->OM K LL H' (xs.map unL) ps->Q (.ref P) H'
open Builtin
section
variable{prog:Program}{w:World}{A:Around}{E:be}{s:Shared}
variable{z TI TO i1 i2 l:Addr}{fp:bv}{n k1 k2:Nat}{P:Nat->Value->Prop}{St:wS}{ys:wv}{y a b:Value}
structure mh(z TI TO i1 i2 l:Addr)(fp:bv):Prop where
 TIz:TI≠z
 TOz:TO≠z
 i1z:i1≠z
 i2z:i2≠z
 TITO:TI≠TO
 TIi1:TI≠i1
 TIi2:TI≠i2
 TOi1:TO≠i1
 TOi2:TO≠i2
 i12:i1≠i2
 lz:l≠z
 O1:l≠TO
 P1:l≠i1
 li2:l≠i2
 zf:z∉fp
 Tf:TO∉fp
 i2f:i2∉fp
theorem ϋ{n l:Nat}(h:l<n):mh (n+4) (n+2) (n+3) n (n+1) l [n]:=by
 constructor
 .lia
 .lia
 .lia
 .lia
 .lia
 .lia
 .lia
 .lia
 .lia
 .lia
 .lia
 .lia
 .lia
 .lia
 .intro z;have:=Od.mp z;lia
 .intro z;have:=Od.mp z;lia
 intro z;have:=Od.mp z;lia
abbrev AJ(h:Heap)(z TI TO:Addr)(b a:Value):Prop:=h.get? z=some {cls:=.type "zip",dict:=none,data:=.fields #[b,a,.bool false,.ref TI,.ref TO],slots := #[]}
def ZQ(a:AJ s.heap z TI TO .none f1)(Q:v6)(q:Q true s):wpAny (model prog w) A (Builtin.SmallTypes.ownedTupleIsFree<|.ref z) Q E s:=by
 exact Ha<|wq a rfl rfl<|Ob q
variable{f0 f1:Value}
def Ŀ(F:Draws prog w A i1 fp n P St)(D:mh z TI TO i1 i2 l fp)
  (u:AJ s.heap z TI TO f0 f1) (I:∀Q:v6,Q true s->wpAny (model prog w) A (Builtin.SmallTypes.ownedTupleIsFree<|.ref z) Q E s) (Li:IsPair s.heap TI (.ref i1) (.ref i2)) (lj:IsPair s.heap TO a b)
  (h1:St k1 s.heap) (H:k1<n) (h2:s.heap.IsListIter i2 l k2) (hl:s.heap.IsList l ys) (hy:ys[k2]?=some y)
  (hQ:∀j R x,P k1 x->IsZip j z TI TO (rawInt s.heap.objs.size)->IsPair j TO x y->St (k1+1) j->j.IsListIter i2 l (k2+1)->IsPair j s.heap.objs.size x y->j.objs.size=s.heap.objs.size+1->
   (∀c o,c≠z->c≠TO->c≠i1->c≠i2->s.heap.get? c=some o->j.get? c=some o)->Q (.ref s.heap.objs.size) {s with heap:=j,toks:=R}) :
  wpAny (model prog w) A (Builtin.«zip.__next__» ⟨[.ref z],[]⟩) (λJ s'=>∃v,J=.done (.ret v)/\Q v s') E s:=by
 show wpAny _ _ (field (.ref z) 2 >>= _) _ _ _;refine Ha<|wq u rfl (x:=.bool false) rfl ?_;refine Ha<|wq u rfl rfl<|Ha<|Uo Li rfl ?_;refine Ha<|I _ ?_;refine Ha<|Xt<|Ha<|wq u rfl rfl<|Ha<|Bt u (by simp) λT oj f=>(Ha ?_)
 simp only[List.zipIdx_cons,List.zipIdx_nil,forIn_cons,List.forIn_nil];refine Ha<|Ha<|PB ?_;refine Ha<|F.item k1 {s with heap:=T} _ _ H (F.frame k1 s.heap T h1 λb m o e=>f.extBut _ _ (λx=>D.zf<|x ▸ m) e) λx Sq R hP vp d=>Ob ?_
 have Y:=d.extBut _ _ D.TOi1<|f.extBut _ _ D.TOz lj;refine Ha<|Uo Y rfl<|Ha<|JJ Y λTq wl G=>?_
 refine Ha<|wpAny_letGo<|Ob<|Ha<|Ha<|PB ?_;refine Ha (wpAny_nextOf_list_item (((h2.extBut f.extBut D.i2z).extBut d.extBut D.i12.symm).extBut G.extBut D.TOi2.symm)
  (((hl.extBut f.extBut D.lz).extBut d.extBut D.P1).extBut G.extBut D.O1) hy λFx Sw hs₄=>Ob ?_)
 have O:=hs₄.extBut _ _ D.TOi2 wl;refine Ha<|Uo O rfl<|Ha<|JJ O λk r mj=>?_
 replace r:IsPair k TO x y:=r
 refine Ha<|wpAny_letGo<|Ob<|Ob<|Ha<|Uo r rfl<|Ha<|wpAny_newTuple ?_;have h:=G;have g:=hs₄;have q:Heap.SameBut TO Fx k:=mj;have U:k.objs.size=s.heap.objs.size:=by rw[q.1,g.1,h.1,d.1,f.1]
 have X:=q.extBut _ _ D.TOz.symm<|g.extBut _ _ D.i2z.symm<|h.extBut _ _ D.TOz.symm<|d.extBut _ _ D.i1z.symm oj;have Z:=Dd X;refine Ha ?_
 refine Ha<|Bt (Zc _ X) (by simp) λS Dx i=>?_
 refine Bt Dx (by simp) λC W M=>?_
 have t:∀c o,c≠z->k.get? c=some o->C.get? c=some o:=λc o p e=>M.extBut _ _ p<|i.extBut _ _ p<|Zc _ e
 have N:=M.extBut _ _ (QB Z)<|i.extBut _ _ (QB Z)<|vf _ rfl;have V:C.objs.size=k.objs.size+1:=by rw[M.1,i.1,bh]
 rw[U]at W N V;refine Ob ⟨_,rfl,?_⟩;rw[U];exact hQ C _ x hP W (t _ _ D.TOz r) (F.frame _ k C (F.frame _ Sq k vp λb m o e=>q.extBut _ _ (λx=>D.Tf<|x ▸ m)<|g.extBut _ _ (λx=>D.i2f<|x ▸ m)<|h.extBut _ _ (λx=>D.Tf<|x ▸ m) e) λb m o e=>t b o (λx=>D.zf<|x ▸ m) e) ((Sw.extBut q.extBut D.TOi2.symm).at λo e=>t _ o D.i2z e) N V λc o p B L K e=>t c o p<|(λc o p B L K e=>
  q.extBut _ _ B (g.extBut _ _ K<|h.extBut _ _ B<|d.extBut _ _ L<|f.extBut _ _ p e)) c o p B L K e
def bKg(J:Draws prog w A i1 fp n P St)(S:A.handled=none)(D:mh z TI TO i1 i2 l fp)
  (m:AJ s.heap z TI TO f0 f1) (r:∀Q:v6,Q true s->wpAny (model prog w) A (Builtin.SmallTypes.ownedTupleIsFree<|.ref z) Q E s) (Z:IsPair s.heap TI (.ref i1) (.ref i2)) (N:IsPair s.heap TO a b)
  (V:St k1 s.heap) (U:s.heap.IsListIter i2 l k2) (R:s.heap.IsList l ys)
  (v:(∀(s:Shared)(Q:be)(E:be),St k1 s.heap->(∀g e,Heap.ExtBut i1 s.heap g->(∃o,g.get? e=some o/\o.cls=.type "StopIteration")->E (.ref e) {s with heap:=g})->wpAny (model prog w) A (Builtin.SmallTypes.nextOf<|.ref i1) Q E s)\/(k1<n/\ys[k2]?=none)) {Q:Fin->na}
  (F:∀g e y,(∀c o,c≠z->c≠TO->c≠i1->c≠i2->s.heap.get? c=some o->g.get? c=some o)->(∃o,g.get? e=some o/\o.cls=.type "StopIteration")->E (.ref e) {s with heap:=g,toks:=y}) :
  wpAny (model prog w) A (Builtin.«zip.__next__» ⟨[.ref z],[]⟩) Q E s:=by
 show wpAny _ _ (field _ 2 >>= _) _ _ _;refine Ha<|wq m rfl (x:=.bool false) rfl<|Ha<|wq m rfl rfl<|Ha<|Uo Z rfl<|Ha<|r _<|Ha<|Xt<|Ha<|wq m rfl rfl<|Ha<|Bt m (by simp) λu B d=>Ha ?_
 simp only[List.zipIdx_cons,List.zipIdx_nil,forIn_cons,List.forIn_nil];refine Ha<|Ha<|PB ?_;have H:=J.frame k1 s.heap u V λb T o e=>d.extBut _ _ (λx=>D.zf<|x ▸ T) e
 rcases v with v|⟨q,O⟩
 .refine Ha (v {s with heap:=u} _ _ H λY e hs₂ he=>?_)
  obtain⟨p,h,j⟩:=he;have K:=hs₂ _ _ D.i1z.symm B;refine Bt K (by simp) λG _ k=>F G e _ (λc o i _ t _ x=>k.extBut _ _ i<|hs₂ _ _ t<|d.extBut _ _ i x) ⟨p,k.extBut _ _ (λx=>by subst x;rw[K]at h;cases h;simp at j) h,j⟩
 refine Ha<|J.item k1 {s with heap:=u} _ _ q H λx Y y hP vp hs₂=>Ob ?_
 have L:=hs₂.extBut _ _ D.TOi1<|d.extBut _ _ D.TOz N;refine Ha<|Uo L rfl<|Ha<|JJ L λG wl k=>?_
 have f:=k;refine Ha<|wpAny_letGo<|Ob<|Ha<|Ha<|PB<|Ha (wpAny_nextOf_list_end S (((U.extBut d.extBut D.i2z).extBut hs₂.extBut D.i12.symm).extBut f.extBut D.TOi2.symm)
  (((R.extBut d.extBut D.lz).extBut hs₂.extBut D.P1).extBut f.extBut D.O1) O λFx e hs₄ he=>?_)
 obtain⟨p,h,j⟩:=he;have I:=hs₄ _ _ D.i2z.symm<|f.extBut _ _ D.TOz.symm<|hs₂.extBut _ _ D.i1z.symm B;refine Bt I (by simp) λM _ C=>F M e _ (λc o i X t W x=>C.extBut _ _ i<|hs₄ _ _ W<|f.extBut _ _ X<|hs₂.extBut _ _ t<|d.extBut _ _ i x) ⟨p,C.extBut _ _ (λx=>by subst x;rw[I]at h;cases h;simp at j) h,j⟩
end
section
variable{prog:Program}{w:World}{A:Around}{E:be}{s:Shared}
abbrev QC(h:Heap)(x:Str)(t:Tok):Heap:=h.push {cls:=.type<|strIterType x,data:=.fields #[.str x t,.int 0 0]}
abbrev RC(h:Heap)(x:Str)(t:Tok)(l:Addr):Heap:=(QC h x t).push {cls:=.type "list_iterator",data:=.fields #[.ref l,.int 0 0]}
abbrev TC(h:Heap)(x:Str)(t:Tok)(l:Addr):Heap:=(RC h x t l).push {cls:=.type "tuple",data:=.seq #[.ref h.objs.size,.ref (QC h x t).objs.size]}
abbrev UC(h:Heap)(x:Str)(t:Tok)(l:Addr):Heap:=(TC h x t l).push {cls:=.type "tuple",data:=.seq #[.none,.none]}
abbrev cy(h:Heap)(x:Str)(t:Tok)(l:Addr):Heap:=(UC h x t l).push {cls:=.type "zip",data:=.fields #[.none,.bool false,.bool false,.ref (RC h x t l).objs.size,.ref (TC h x t l).objs.size]}
def ό(x:Str)(t:Tok)(l:Addr)(b:wv) :
  Meets (Builtin.«zip.__new__» ⟨[.type "zip",.str x t,.ref l],[]⟩) (λ_ R s=>s.heap.IsList l b/\
   R (.ok<|.ret<|.ref (UC s.heap x t l).objs.size) {s with heap:=cy s.heap x t l}):=
 .of_wp λprog w A R s h=>by
  obtain⟨c,h⟩:=h;have a:=sub_zip
  wp_walk using wpAny_pyIter_strU,wpAny_pyIter_list<|Heap.IsList.push c _
  exact⟨_,rfl,h⟩
def à{t:Tok}{l:Addr}{j:wv} (p:s.heap.IsList l j)
  (h:∀a,IsZip a (s.heap.objs.size+4) (s.heap.objs.size+2) (s.heap.objs.size+3) .none->IsPair a (s.heap.objs.size+2) (.ref s.heap.objs.size) (.ref<|s.heap.objs.size+1)->
   IsPair a (s.heap.objs.size+3) .none .none->a.IsStrIter s.heap.objs.size (strIterType x) x t 0->a.IsListIter (s.heap.objs.size+1) l 0->a.objs.size=s.heap.objs.size+5->
   (∀c o,s.heap.get? c=some o->a.get? c=some o)->Q (.ref<|s.heap.objs.size+4) {s with heap:=a}) :
  wpAny (model prog w) A (call (.type "zip") [.str x t,.ref l]) Q E s:=by
 refine callType_new PySem.F.called_zip rfl (PySem.F.typeCall_zip_2 _ _) (PySem.F.newCall_zip_2 _ _) (λg=>PySem.F.args_object_init_3 g _ _) PySem.F.entry_zip_new
  (ό x t l j) ⟨p,?_⟩
 have f:(QC s.heap x t).objs.size=s.heap.objs.size+1:=bh ..;have e:(RC s.heap x t l).objs.size=s.heap.objs.size+2:=by rw[bh,f]
 have d:(TC s.heap x t l).objs.size=s.heap.objs.size+3:=by rw[bh,e]
 have b:(UC s.heap x t l).objs.size=s.heap.objs.size+4:=by rw[bh,d]
 have i:(cy s.heap x t l).get? (UC s.heap x t l).objs.size=some _:=vf _ rfl;have k:(cy s.heap x t l).get? (TC s.heap x t l).objs.size=some _:=Zc _<|vf _ rfl;have m:(cy s.heap x t l).get? (RC s.heap x t l).objs.size=some _:=Zc _<|Zc _<|vf _ rfl;have n:(cy s.heap x t l).get? (QC s.heap x t).objs.size=some _:=Zc _<|Zc _<|Zc _<|vf _ rfl;rw[e,d,b]at i;rw[f,e]at m;rw[d]at k;rw[f]at n;rw[b];exact⟨⟨_,i,rfl⟩,h _ i m k ⟨_,(Zc _<|Zc _<|Zc _<|Zc _<|vf _ rfl),rfl,rfl⟩ ⟨_,n,rfl,rfl⟩ (by rw[bh,b]) λc o x=>
  Zc _ (Zc _<|Zc _<|Zc _<|Zc _ x)⟩
def eR(a:A.handled=none)(it:Addr)(x:Str)(t:Tok){n:String}(b:n="str_ascii_iterator"\/n="str_iterator") :
  Draws prog w A it [it] x.cps.size (λi v=>∃c u,x.cps[i]?=some c/\v=.str ⟨#[c]⟩ u) (λi h=>h.IsStrIter it n x t i):=by
 rcases b with rfl|rfl
 .exact Draws.strAscii a it x t
 exact Draws.strWide a it x t
def bKh(c:A.handled=none){it:Addr} {t:Tok} {n:String} (f:n="str_ascii_iterator"\/n="str_iterator") (st:s.heap.IsStrIter it n x t i) (b:x.cps[i]?=none)
  (d:∀a e,Heap.ExtBut it s.heap a->(∃o,a.get? e=some o/\o.cls=.type "StopIteration")->E (.ref e) {s with heap:=a}):wpAny (model prog w) A (Builtin.SmallTypes.nextOf<|.ref it) Q E s:=by
 rcases f with rfl|rfl
 .exact wpAny_nextOf_ascii_end c st b d
 exact wpAny_nextOf_wide_end c st b d
def U8(x:Str):strIterType x="str_ascii_iterator"\/strIterType x="str_iterator":=by
 unfold strIterType;split<;>simp
end
def YC(K:Frag)(z:ac)(a:Addr):It:=
 ⟨λi H=>i<z.length/\∃xs x,fe K H a xs/\xs[i]?=some x,λi H x H'=>∃T c v,x=V.ref T/\H T=none/\z[i]?=some c/\H'=Nb H T (.tup [.str ⟨#[c]⟩,v])/\∀xs,fe K H a xs->xs[i]?=some v,λi H=>∃xs,fe K H a xs/\(z.length<=i\/xs.length<=i)⟩
theorem ŀ{K:Frag} {x1} {tp:Pos} {S:ac} {t:Tok} {n:String} (hn:n="str_ascii_iterator"\/n="str_iterator") (a z TI TO f g:Addr) (D:∀l,l=a->mh z TI TO f g l [f]) :
  Turn P w K (.Tuple Pj x1 tp) (YC K S a) [z,TI,TO,f,g] z (λi h=>IsZip h z TI TO .none/\IsPair h TI (.ref f) (.ref g)/\(∃u v,IsPair h TO u v)/\h.IsStrIter f n ⟨S.toArray⟩ t i/\h.IsListIter g a i) where
 mem:=by simp
 obj:=λi h st b d=>by
  obtain⟨A,G,⟨u,v,J⟩,⟨N,L,c1,d1⟩,⟨o2,q2,c2,d2⟩⟩:=st;simp only[mem_cons,not_mem_nil,or_false]at d;rcases d with rfl|rfl|rfl|rfl|rfl
  .exact⟨_,A,λv z=>by cases z⟩
  .exact⟨_,G,λv z=>by cases z⟩
  .exact⟨_,J,λv z=>by cases z⟩
  .exact⟨N,L,λv z=>by rw[d1]at z;cases z⟩
  .exact⟨o2,q2,λv z=>by rw[d2]at z;cases z⟩
 keep:=λi h h' st k=>by
  obtain⟨A,G,⟨u,v,J⟩,⟨N,L,r1⟩,O⟩:=st;exact⟨k z (by simp) _ A,k TI (by simp) _ G,⟨u,v,k TO (by simp) _ J⟩,⟨N,k f (by simp) _ L,r1⟩,O.at λo x=>k g (by simp) o x⟩
 item:=by
  intro X W hw hK hc i aa s σ H E I V st hg;subst W hw hK;obtain⟨A,G,⟨u0,v0,J⟩,h1,O⟩:=st;obtain⟨hi,xs,x,hq,j⟩:=hg;obtain⟨Pa,rv,p,_⟩:=I.list hq;obtain⟨u,hu,ru⟩:=rv.get j;have D:=D a rfl;have B:∀b∈[z,TI,TO,f,g],H b=none:=λb d=>(V b d).1
  have hT:H s.heap.objs.size=none:=I.Bb.fresh<|Fc _;have Z:s.TypeIs (.ref z) "zip":=⟨_,A,rfl⟩;have U:=I.ok.hd hc;unfold pyNext;refine Ha<|Qt (vt Z kB
   (om kB Z YZ
    (Ŀ (eR (A:=X.A.in1) U f ⟨S.toArray⟩ t hn) D A (ZQ A) G J h1 (by simpa using hi) O p.isList (by simpa using hu) λh' tk v W a1 a2 a3 a4 a5 a6 hk=>wpAny_pure ?_) (PySem.F.args_zip_next_1 _)))
  obtain⟨c,uu,xC,rfl⟩:=W;refine⟨_,rfl,wpAny_letOwnedTupleGo_zip a1 λh9 hz9 sb=>?_⟩
  have Ap:∀b o,b≠z->b≠TO->b≠f->b≠g->s.heap.get? b=some o->h9.get? b=some o:=λb o e1 e2 e3 e4 q=>(sb.2 b e1).trans<|hk b o e1 e2 e3 e4 q
  have zlt:z≠s.heap.objs.size:=df<|Dd A;have EL:h9.get? s.heap.objs.size=some {cls:=.type "tuple",data:=.seq #[.str ⟨#[c]⟩ uu,u]}:=(sb.2 _ zlt.symm).trans a5;have nT:∀b m,H b=some m->b≠s.heap.objs.size:=λb m q=>bI q hT
  have nx:∀b m,H b=some m->b≠z/\b≠TO/\b≠f/\b≠g:=λb m q=>⟨bI q<|B z<|by simp,bI q<|B TO<|by simp,bI q<|B f<|by simp,bI q<|B g<|by simp⟩
  have C:∀b:Addr,b∉[z,TI,TO,f,g]->b≠z/\b≠TO/\b≠f/\b≠g:=λb d=>⟨λq=>d (by simp[q]),λq=>d (by simp[q]),λq=>d (by simp[q]),λq=>d<|by simp[q]⟩
  have T:∀b o,s.heap.get? b=some o->b≠s.heap.objs.size:=λb o q=>df<|Dd q
  have M:∀b o,b∉[z,TI,TO,f,g]->s.heap.get? b=some o->h9.get? b=some o:=λb o d q=>Ap b o (C b d).1 (C b d).2.1 (C b d).2.2.1 (C b d).2.2.2 q
  have un:Un (nk X.stack) [z,TI,TO,f,g] H (Nb H s.heap.objs.size<|.tup [.str ⟨#[c]⟩,x]) s.heap h9:=by
   refine⟨λb o q n d j=>M b o j q,λb o q n d j=>⟨o.slots,M b o j q⟩,λb o q n j=>by rw[bR<|T b o q];exact n,λb o q j=>⟨o,M b o j q⟩,λb ys q=>by rw[bR<|nT b _ q];exact q,λb o m q=>by rw[bR<|nT b _ q];exact q,λb ps q=>⟨#[],by rw[bR<|nT b _ q,Array.append_empty];exact q⟩⟩
  have Bb:Ff X.prog X.w (Nb H s.heap.objs.size<|.tup [.str ⟨#[c]⟩,x]) h9:=λb m q=>by
   by_cases d:b=s.heap.objs.size
   .subst d;rw[cG]at q;cases q;exact⟨show 2<=sizeLine by decide,[.str ⟨#[c]⟩ uu,u],.cons ⟨_,rfl⟩<|.cons ru .nil,_,EL,rfl,_,rfl⟩
   .rw[bR d]at q;refine(I.Bb b m q).Sf (λc v ai r=>?_) (λc r=>by rw[bR<|nT c _ r];exact r) λc ys r=>by rw[bR<|nT c _ r];exact r
    have:∃Y,H c=some Y:=by
     rcases ai with z|z
     .exact⟨m,by rw[z];exact q⟩
     .exact⟨_,z⟩
    obtain⟨Y,R⟩:=this;obtain⟨e1,e2,e3,e4⟩:=nx c _ R;exact Ap c v e1 e2 e3 e4 r
  have I2:Aa X aa σ _ {s with heap:=h9,toks:=tk}:=I.call un Bb I.bare λb d=>by
   have F:=V b d;exact⟨F.2.2.2.1,F.2.1,F.2.2.2.2.1,F.2.2.2.2.2⟩
  have up:∀b o,b≠z->h'.get? b=some o->h9.get? b=some o:=λb o e q=>(sb.2 b e).trans q
  refine⟨.ref s.heap.objs.size,_,I2,rfl,⟨_,c,x,rfl,hT,by simpa using xC,rfl,λys hy=>by rw[I.Hg hy hq];exact j⟩,⟨hz9,up _ _ D.TIz<|hk _ _ D.TIz D.TITO D.TIi1 D.TIi2 G,⟨_,_,up _ _ D.TOz a2⟩,?_,a4.at λo y=>up _ o D.i2z y⟩,λb d=>?_⟩
  .obtain⟨N,L,r1⟩:=a3;exact⟨N,up _ _ D.i1z L,r1⟩
  .have hbs:∃o,s.heap.get? b=some o:=by
    simp only[mem_cons,not_mem_nil,or_false]at d;obtain⟨N,L,_⟩:=h1;obtain⟨o2,q2,_⟩:=O;rcases d with rfl|rfl|rfl|rfl|rfl
    .exact⟨_,A⟩
    .exact⟨_,G⟩
    .exact⟨_,J⟩
    .exact⟨_,L⟩
    .exact⟨_,q2⟩
   obtain⟨o,q⟩:=hbs;rw[bR<|T b o q];exact B b d
 done:=by
  intro X W hw hK hc i aa s σ H E I V st hg;subst W hw hK;obtain⟨A,G,⟨u0,v0,J⟩,h1,O⟩:=st;obtain⟨xs,hq,j⟩:=hg;obtain⟨Pa,rv,p,_⟩:=I.list hq;have D:=D a rfl;have Z:s.TypeIs (.ref z) "zip":=⟨_,A,rfl⟩;have U:=I.ok.hd hc;have hl:=rv.length;refine Ha<|Qt (vt Z kB
   (om kB Z YZ
    (bKg (eR (A:=X.A.in1) U f ⟨S.toArray⟩ t hn) U D A (ZQ A) G J h1 O p.isList (by
     by_cases hi:S.length<=i
     .refine .inl λs' Q E st hE=>bKh (A:=X.A.in1) U hn st (by simpa using hi) hE
     .exact .inr ⟨by simpa using hi,by simp;lia⟩) λh' e tk hk he=>?_) (PySem.F.args_zip_next_1 _)))
  obtain⟨o,ho,Fq⟩:=he;refine Ha<|IB ⟨o,ho,Fq⟩ isSubtype_stop ?_;refine Ob ⟨rfl,?_⟩;have B:=λb d=>(V b d).1
  have C:∀b:Addr,b∉[z,TI,TO,f,g]->b≠z/\b≠TO/\b≠f/\b≠g:=λb d=>⟨λq=>d (by simp[q]),λq=>d (by simp[q]),λq=>d (by simp[q]),λq=>d<|by simp[q]⟩
  have M:=λb o d q=>hk b o (C b d).1 (C b d).2.1 (C b d).2.2.1 (C b d).2.2.2 q
  have un:Un (nk X.stack) [z,TI,TO,f,g] H H s.heap h':=
   ⟨λb o q n d j=>M b o j q,λb o q n d j=>⟨o.slots,M b o j q⟩,λb o q n j=>n,λb o q j=>⟨o,M b o j q⟩,λb ys q=>q,λb o m q=>q,λb ps q=>⟨#[],by exact q⟩⟩
  have Bb:Ff X.prog X.w H h':=λb m q=>by
   refine(I.Bb b m q).Sf (λc v ai r=>?_) (λc r=>r) λc ys r=>r
   have:∃Y,H c=some Y:=by
    rcases ai with z|z
    .exact⟨m,by rw[z];exact q⟩
    .exact⟨_,z⟩
   obtain⟨Y,R⟩:=this;exact hk c v (bI R<|B z<|by simp) (bI R<|B TO<|by simp) (bI R<|B f<|by simp) (bI R<|B g<|by simp) r
  exact I.call un Bb I.bare λb d=>by
   have F:=V b d;exact⟨F.2.2.2.1,F.2.1,F.2.2.2.2.1,F.2.2.2.2.2⟩
 self:=λ_ _ _ _ _ st h=>wpAny_pyIter_zip st.1 h
theorem JS:∀(z:ac)(ds:dL),(Ej z ds).length=min z.length ds.length
 |[],ds=>by simp[Ej]
 |c::z,[]=>by simp[Ej]
 |c::z,d::ds=>by rw[Ej,ze,ze,ze,JS];lia
theorem KS:∀(z:ac)(ds:dL)(i:Nat)(d:D),(Ej z ds)[i]?=some d->∃c e,z[i]?=some c/\ds[i]?=some e/\d=.tup [.str [c],e]
 |[],ds,i,d,h=>by simp[Ej]at h
 |c::z,[],i,d,h=>by simp[Ej]at h
 |c::z,e::ds,0,d,h=>by
  rw[Ej]at h;simp at h;exact⟨c,e,rfl,rfl,h.symm⟩
 |c::z,e::ds,i+1,d,h=>by
  obtain⟨j,g,f,b,a⟩:=KS z ds i d h;exact⟨j,g,by simpa using f,by simpa using b,a⟩
section
variable {a b:Expr}
theorem bOi{K:Frag} {l:Addr} (o:fe K (hide (A++B) H) l vs) (r:bJ K (hide (A++B) H) ds vs):dt K B A H (YC K z l) (Ej z ds):=by
 intro w H' f a i;have b:=(bN _ _).seq<|(Le.app f).seq o;refine⟨λd hd=>?_,λhl=>⟨vs,b,?_⟩⟩
 .obtain⟨c,e,k,q,rfl⟩:=KS z ds i d hd;obtain⟨v,h,n⟩:=r.get q;refine⟨⟨(zg.mp k).1,vs,v,b,h⟩,λx u y=>?_⟩
  obtain⟨T,t,s,rfl,j,m,rfl,p⟩:=y;have g:=p vs b;rw[h]at g;cases g;rw[k]at m;cases m;exact⟨cL j,KO a j<|.cons (gK.mpr rfl)<|.cons (n.mono<|Le.app f) .nil⟩
 rw[JS]at hl;rw[r.length];lia
def bOj{x1}{E p:Pos}(O:X.mg "zip"=none)(T:PE X a (tI X.K B f))(d:PE X b (tI X.K B g))(Q:Gl X "zip":=by rfl)(r:starEach [a,b] X.env=(false,eval a X.env)::starEach [b] X.env:=by rfl)(z:starEach [b] X.env=[(false,eval b X.env)]:=by rfl):L2.PI X (.Tuple Pj x1 E) (.Call (.Name "zip" p) [a,b] [] pos) (vk X.K B<|DX f g):=by
 intro aa s σ H Rq I ⟨A,st,ds,n,S,q⟩;obtain⟨x,N,U⟩:=R.ja S;obtain⟨y,M,k⟩:=R.ja U;split at k
 rotate_left
 .cases k
 rename_i D ws;cases k;refine Call_<|Yp I Q O boot_zip<|ow (wc ((dD T (dD d iZ z) r) pos aa s σ H (λvs H1=>∃v w,vs=[v,w]/\bK H H1/\Sb X.K (hide _ H1) _ v/\Sb X.K (hide _ H1) _ w) I ⟨A,st,_,n,N,λv H1 s1 r1=>⟨A,st,_,n.mono s1,M,λw H2 m K=>⟨v,w,rfl,s1.trans m,r1.mono<|bK.hide m,K⟩⟩⟩) λus s1 ⟨vs,H1,I1,r1,v,w,hv,sm,rv,Wg⟩=>?_) r<|by rw[z];rfl
 subst hv;obtain⟨i,h,rfl,j,c⟩:∃i h,us=[i,h]/\L2.RelV v i/\L2.RelV w h:=by
  cases r1 with
  |cons j c=>
   cases c with
   |cons c J=>
    cases J;exact⟨_,_,rfl,j,c⟩
 obtain⟨l,ts,rfl,u,G⟩:=lO.mp Wg;have V:=gK.mp rv;subst V;obtain⟨t,rfl⟩:=(j);subst c;obtain⟨Pa,F,pl,hz⟩:=I1.list<|(bN _ _).seq u;refine à pl.isList λh' C Y L Z W Nn P=>wpAny_pyIter_zip C ⟨s1.heap.objs.size+4,[s1.heap.objs.size+4,s1.heap.objs.size+2,s1.heap.objs.size+3,s1.heap.objs.size,s1.heap.objs.size+1],_,YC X.K D l,H1,rfl,I1.kept P,ŀ (U8 _) l _ _ _ s1.heap.objs.size _<|λl' e=>?_,⟨C,Y,⟨_,_,L⟩,Z,W⟩,λb d=>?_,q _ H1 sm<|bOi u G⟩
 .subst e;exact ϋ (by
  obtain⟨o,e,_⟩:=pl.isList;exact Dd e)
 simp at d;rcases d with rfl|rfl|rfl|rfl|rfl<;>exact I1.ll (by simp)<|I1.Bb.fresh<|by simp
end
section
variable {a b:Expr} {q:Pos}
def bOk{f:TA}(k:X.mg "range"=none)(m:PA X [a] f)(l:Gl X "range":=by rfl)(i:starEach [a] X.env=[(false,eval a X.env)]:=by rfl) :
  PE X (.Call (.Name "range" p1) [a] [] q) (λc H Q=>f c H λvs d=>∃j:Int,vs=[.int j]/\∀r,d r=none->Q (.ref r) (Nb d r<|.uk 0 j)):=by
 intro aa s c H Q I h;refine Call_<|Yp I l k boot_range<|ow (wc (m q aa s c H _ I h) λn s1 ⟨vs,d,I1,r1,j,e,qq⟩=>?_) i rfl
 subst e;cases r1 with
 |cons r g=>
  cases g;obtain⟨t,rfl⟩:=r;exact call_range_1 ⟨.ref s1.heap.objs.size,_,I1.laid (o:=.uk 0 j) (λb o e=>Zc _ e) (Fc _) ⟨_,_,_,vf _ rfl⟩,rfl,qq _<|I1.Bb.fresh<|Fc _⟩
theorem X9(A:X.calm=true):pH X (.type "list") (λvs H Q=>∃r,∃j:Int,vs=[.ref r]/\H r=some (.uk 0 j)/\-10000000<=j/\j<=10000000/\∀n,H n=none->Q (.ref n) (Nb H n<|.lst<|(List.range j.toNat).map λ(k:Nat)=>V.int (k:Int))):=by
 intro aa s σ H vs E Q I r h;obtain⟨l,j,rfl,x,J,G,q⟩:=h;obtain⟨u,rfl,g⟩:=r.one;obtain rfl:u=Value.ref l:=g;obtain⟨t,u,v,o⟩:=((I.Bb l _ x));have p:Builtin.Range.rangeSize 0 j 1=j.toNat:=by rw[rangeSize_one];split<;>lia
 refine call_list_range (I.ok.hd A) o (small_one (by lia) (by lia) (by lia)<|by lia) p (by lia) λh' F oa D b m z=>⟨.ref s.heap.objs.size,_,I.laid (o:=.lst _) b (Fc _) ⟨?_,oa.toList,D,?_,by simpa using m⟩,rfl,q _<|I.Bb.fresh<|Nat.le_refl _⟩
 .rw[Kd,Vk,Xo];lia
 obtain⟨C,B⟩:=z;have c:∀(n:Nat)(xs:cr),xs.length=n->(∀(k:Nat) w,xs[k]?=some w->∃t,w=.int (0+k*1) t)->Ia ((List.range n).map λ(k:Nat)=>V.int k) xs:=by
  intro n
  induction n with
  |zero=>intro xs a _;rw[Vm.mp a];exact .nil
  |succ n i=>
   intro xs a f;obtain⟨ys,y,rfl⟩:∃ys y,xs=ys++[y]:=by
    rcases B0 xs with e|⟨ys,y,e⟩
    .rw[e]at a;simp at a
    exact⟨ys,y,by rw[e,F0]⟩
   have d:=by simpa using a
   rw[List.range_succ,Gi];refine(i ys d λk w b=>?_).append (.cons ?_ .nil)
   .exact f k w (by rwa [Um (zg.mp b).1])
   obtain⟨t,e⟩:=f n y (by rw[pw (by lia),d];simp)
   exact⟨t,by rw[e];simp⟩
 exact c _ _ (by simpa using C) λk w b=>by
  obtain⟨t,e⟩:=B k w (by simpa using b)
  exact⟨t,e⟩
def ύ{K:Frag} (n:Nat):bJ K H (mU 0 n) ((List.range n).map λ(k:Nat)=>V.int (k:Int)):=by
 unfold mU;generalize List.range n=l
 induction l with
 |nil=>exact .nil
 |cons x l a=>exact .cons (bY.mpr<|by rw[Int.zero_add]) a
theorem LS(m:X.mg "list"=none)(b:X.mg "range"=none)(s:X.calm=true)(t:PE X a (tP X.K B f))(o:Gl X "list":=by rfl)(w:Gl X "range":=by rfl)(g:Lf a [] X.env:=by rfl)(y:starEach [Expr.Call (.Name "range" p1) [a] [] q] X.env=(false,eval (.Call (.Name "range" p1) [a] [] q) X.env)::starEach [] X.env:=by rfl) :
  PE X (.Call (.Name "list" p0) [.Call (.Name "range" p1) [a] [] q] [] pos) (tI X.K B<|e1 Yu f):=by
 refine cQ (oy (X9 s) o m rfl<|dD (bOk b (dD t iZ g) w g) iZ y) ?_
 rintro σ H Q ⟨A,st,d,e,p,k⟩;obtain⟨x,l,i⟩:=R.ja p;refine⟨A,st,x,e,l,λv H1 s1 r1=>?_⟩
 cases x<;>first|(cases i)|skip
 rename_i j;obtain⟨c,u⟩:=aV i;cases u;rw[qX]at c;exact⟨j,by rw[r1.int],λr b=>⟨r,j,rfl,cG,by lia,by lia,λn h=>k _ _ (s1.trans<|(cL b).trans<|cL h)<|jN (e.own.mono<|s1.trans<|cL (o:=.uk 0 j) b) h<|ύ _⟩⟩
theorem bKi(i:Nat) {q:Pos} (j:PE X a (tI X.K B g)) (t:PE X b (tI X.K B f)) (F:X.N.Nodup) (C:X.N[i]?=some x:=by rfl) (s:Loc X.env.scope x:=by exact Yn rfl) (w:qj (.Dict [some a] [b] q) (some<|.Name x pos') pos.line X.env:=by rfl)
  (D:sk X x:=by first|exact .inl rfl|exact .inr rfl|assumption):PS X (.Assign [.Name x pos'] (.Dict [some a] [b] q) pos) (tS X.K B<|PH i g f):=lQ (yv F C s (Ũ (ą j t ŧ) rfl rfl (by simp)<|show 1<=15 by lia) w D) (by
 rintro Q σ H ⟨A,st,r,h,y,p⟩;obtain⟨k,j,K⟩:=R.ja y;obtain⟨d,E,J⟩:=R.ja K;obtain⟨⟨P,O⟩,I⟩:=aV J;cases I;intro a l;refine⟨A,st,k,h.mono<|cL l,j,λu H1 s1 r1=>⟨A,st,d,(h.mono<|cL l).mono s1,E,λv H2 s2 r2=>?_⟩⟩
 obtain⟨c,M,L⟩:∃c:Hc,qJ c=k/\u=kV c:=by
  cases k<;>first|(cases P;done)|skip
  .exact⟨.inl _,rfl,bY.mp r1⟩
  refine⟨.inr ⟨_⟩,?_,gK.mp r1⟩;simp[qJ]
 refine⟨(s2 _ _<|s1 _ _ cG),[(c,v)],by rw[L];rfl,(show 1<=15 by lia),?_⟩
 let G:=λb=>if b=a then none else H2 b
 have m:bK H G:=λb o z=>by
  have e:=bI z l;show (if b=a then none else H2 b)=_
  rw[Ta e];exact s2 _ _<|s1 _ _<|by rwa [bR e]
 have n:G a=none:=xb rfl;have N:Nb H2 a (.dK<|zv [] [(c,v)])=Nb G a (.dK [(c,v)]):=by
  funext b
  by_cases e:b=a
  .subst e;rw[cG,cG];rfl
  rw[bR e,bR e];exact(Ta e).symm
 rw[N];exact p _ _ _ ((Le.of m).trans<|Kz n)<|(h.mono m).xr i n (.inl ⟨rfl,[(c,v)],rfl,by rw[<-M];rfl,rfl⟩)<|.cons ((ľ O r2).mono bKf) .nil)
end
def bitAnd_nn{i j:Int}(b:0<=i)(a:0<=j):Builtin.bitAnd i j=((i.toNat&&&j.toNat:Nat):Int):=by
 unfold Builtin.bitAnd;rw[Oc b,Oc a]
theorem MS{i j:Int}(b:0<=i)(a:0<=j):Builtin.bitOr i j=((i.toNat|||j.toNat:Nat):Int):=by
 unfold Builtin.bitOr Builtin.bitAnd;rw[yd (by unfold Builtin.bitNot;lia),yd (by unfold Builtin.bitNot;lia)]
 have e1:Builtin.bitNot (Builtin.bitNot i)=i:=by unfold Builtin.bitNot;lia
 have e2:Builtin.bitNot (Builtin.bitNot j)=j:=by unfold Builtin.bitNot;lia
 unfold Builtin.bitNot;lia
section
variable {a b o:Expr}
def NI(i:PE X a (tP X.K B f))(h:PE X b (tP X.K B g)):PE X (.BinOp a .LShift b pos) (tI X.K B<|e2 Om f g):=
 Lk bMl (Nv (λ_ _ _=>bY.mpr rfl) λx y d e=>by
  unfold Om at e;split at e
  .obtain⟨c,e⟩:=aV e;cases e;exact⟨_,_,rfl,rfl,c,rfl⟩
  cases e) i h
def lq(i:PE X a (tP X.K B f))(h:PE X b (tP X.K B g)):PE X (.BinOp a .RShift b pos) (tI X.K B<|e2 qi f g):=
 Lk bMm (Nv (λ_ _ _=>bY.mpr rfl) λx y d e=>by
  unfold qi at e;split at e
  .obtain⟨c,e⟩:=aV e;cases e;exact⟨_,_,rfl,rfl,c,rfl⟩
  cases e) i h
def qO(i:PE X a (tP X.K B f))(h:PE X b (tP X.K B g)):PE X (.BinOp a .BitAnd b pos) (tI X.K B<|e2 uV f g):=
 Lk bMn (yN (λ_ _ _=>bY.mpr rfl) λx y d e=>by
  unfold uV at e;split at e
  .obtain⟨c,e⟩:=aV e;cases e;exact⟨_,_,rfl,rfl,by rw[bitAnd_nn c.1 c.2]⟩
  cases e) i h
def Us(i:PE X a (tP X.K B f))(h:PE X b (tP X.K B g)):PE X (.BinOp a .BitOr b pos) (tI X.K B<|e2 Mj f g):=
 Lk bPv (yN (λ_ _ _=>bY.mpr rfl) λx y d e=>by
  unfold Mj at e;split at e
  .obtain⟨c,e⟩:=aV e;cases e;exact⟨_,_,rfl,rfl,by rw[MS c.1 c.2]⟩
  cases e) i h
theorem LP{K:Frag}{H:Hp}:∀{l:jp}{vs:ls},bJ K H (l.map D.int) vs->vs=l.map V.int
 |[],vs,h=>eN.mp h
 |i::l,vs,h=>by
  obtain⟨v,r,rfl,b,a⟩:=cB.mp h;rw[bY.mp b,LP a];rfl
theorem Ad:∀{l:jp}{us:cr},Ia (l.map V.int) us->∀(j:Nat)(h:j<us.length),∃i t,l[j]?=some i/\us[j]=.int i t
 |[],us,r,j,h=>by cases r;simp at h
 |i::l,us,r,j,h=>by
  cases r with
  |cons b a=>
   obtain⟨t,rfl⟩:=b;cases j with
   |zero=>exact⟨i,t,rfl,rfl⟩
   |succ j=>
    obtain⟨c,t',e,d⟩:=Ad a j _;exact⟨c,t',by simpa using e,by simpa using d⟩
theorem á:Ck X "list.index" (λx vs H Q=>∃(p:Addr)(l:jp)(k:Int)(n:Nat),x=V.ref p/\vs=[.int k]/\fe X.K H p (l.map V.int)/\l.findIdx? (λi=>i==k)=some n/\l.length<=10000000/\Q (.int (n:Int)) H):=by
 intro aa s σ H x vs v L Q I g j h;obtain⟨p,l,k,n,rfl,rfl,A,B,N,q⟩:=h;obtain⟨u,rfl,o⟩:=j.one;obtain⟨t,rfl⟩:=(o);subst g;obtain⟨e,a,⟨⟨K,J,c,f⟩,w,b,D,_,C⟩,M⟩:=I.list A;have z:=a.length;rw[Kd]at z;obtain⟨G,F,E⟩:=RY.mp B;subst D C;have d:n<e.length:=by omega
 refine xq NZ ⟨_,b,rfl⟩ PySem.F.entry_list_index (PySem.F.args_list_index_2 _ _) (PySem.SeqAt.list_indexAt p e.toArray w J f _ (λy=>match y with|.int i _=>i==k|_=>false) n (by simpa using d) (by lia) ?_ λm hm hmn=>?_) ⟨b,λy hy=>?_,?_⟩
 .obtain⟨i,t',e1,e2⟩:=Ad a n d;rw[L0,e2];rw[Ze G]at e1;cases e1;exact F
 .have r:=by simpa using hm
  obtain⟨i,t',e1,e2⟩:=Ad a m r;rw[L0,e2];rw[Ze (by lia)]at e1
  cases e1;simpa using (E m hmn)
 .obtain⟨m,hm,rfl⟩:=qw.mp ((by simpa using hy))
  obtain⟨i,t',e1,e2⟩:=Ad a m hm;rw[e2];exact(PySem.MeetsSeq.EqGives.int i k t' t).at _ _
 exact⟨.int n,H,I.tok _,⟨_,rfl⟩,q⟩
def Ł{r:Ee}(u:PE X o (tP X.K B f))(D:PA X [e] (tA X.K B r))(q:Vg o "index" X.env:=by rfl)
  (i:Uj Oa [e] X.env:=by rfl)
  (m:Oh Va Oa:=by rfl) (t:Lf e [] X.env:=by rfl) :
  PE X (.Call (.Attribute o "index" Va) [e] [] Oa) (tI X.K B<|vm dA f r):=by
 refine cQ (Zr VA NZ PySem.F.type_list_index á u D q i m t rfl) ?_
 rintro σ H Q ⟨A,st,d,b,C,k⟩;obtain⟨x,s,I⟩:=R.ja C;obtain⟨xs,M,a⟩:=R.ja I;unfold dA at a;split at a
 .rename_i ys j;obtain⟨l,z,G⟩:=R.ja a;obtain⟨n,y,F⟩:=R.ja G;obtain⟨c,E⟩:=aV F;cases E;have J:=zV z;subst J;refine⟨A,st,_,b,s,λv H1 s1 r1=>?_⟩
  obtain⟨p,vs,e1,g,h⟩:=r1.lst;have K:=LP h;subst K;refine⟨by rw[e1];exact .inl ⟨rfl,_,g⟩,A,st,_,b.mono s1,M,λN H2 s2 r2=>?_⟩
  obtain⟨w,rfl,L⟩:=BA r2;rw[qX,Kd]at c;exact⟨p,l,j,n,e1,by rw[bY.mp L],s2.seq g,bq y,c,k _ H2 (s1.trans s2)<|bY.mpr rfl⟩
 cases a
def bKj:Ck X "int.bit_length" (λx vs H Q=>∃i:Int,x=.int i/\vs=[]/\Q (.int ((Builtin.Int.intBits i:Nat):Int)) H):=by
 intro aa s σ H x vs v d Q I a b h;obtain⟨i,rfl,rfl,q⟩:=h;obtain⟨t,rfl⟩:=(a);have c:=b.zero;subst c;exact call_int_bit_length ⟨.int _,H,I.tok _,⟨_,rfl⟩,q⟩
def bKk(i:Int):Builtin.Int.intBits i=xZ i:=by
 unfold Builtin.Int.intBits xZ
 by_cases h:i=0
 .rw[xb h,xb (by rw[h];rfl)]
 rw[Ta h,Ta (by simpa using h)]
def bOl(i:PE X o (tP X.K B f))(g:Vg o "bit_length" X.env:=by rfl)(e:Oh Va Oa:=by rfl) :
  PE X (.Call (.Attribute o "bit_length" Va) [] [] Oa) (tI X.K B<|e1 Py f):=by
 refine cQ (yz PySem.F.plainAttrs_int PySem.F.slot_int_bit_length PySem.F.type_int_bit_length bKj i g e) ?_
 rintro σ H Q ⟨A,st,d,c,j,k⟩;obtain⟨x,h,b⟩:=R.ja j;cases x<;>first|(cases b;done)|skip
 cases b;refine⟨A,st,_,c,h,λv H1 s1 a=>⟨by rw[a.int];rfl,_,a.int,rfl,?_⟩⟩
 rw[bKk];exact k _ H1 s1<|bY.mpr rfl
end
section
open PySem.SeqAt
open PySem.AutoSeq1 (wpAny_loadPart')
open PySem.MeetsSeq PySem.MeetsSeq2 PySem.MeetsSeq3
inductive Aj (A:Around) (s:Shared):List Value->List Value->Bool->Prop where
 |nn:Aj A s [] [] true
 |nc {w:Value} {ws:cr}:Aj A s [] (w::ws) true
 |cn {v:Value} {vs:cr}:Aj A s (v::vs) [] false
 |eq {v w:Value} {vs ws:cr} {b:Bool}:EqAt A s v w true->Aj A s vs ws b->Aj A s (v::vs) (w::ws) b
 |lt {v w:Value} {vs ws:cr} {b:Bool}:EqAt A s v w false->(∀(prog:Program)(wd:World)(E Q:be),Q (.bool b) s->wpAny (model prog wd) A (richCompare .LtE v w) Q E s)->Aj A s (v::vs) (w::ws) b
end
def bOm{k:Hc} (h:fq k u=true):L2.RelV (kV k) u:=by
 rcases iR h with ⟨i,t,rfl,rfl⟩|⟨x,t,rfl,rfl⟩
 .exact⟨t,rfl⟩
 exact⟨t,rfl⟩
section
variable {a:Expr}
def bOn{vs:List (Hc×Value)}(r:KV ka vs):vs.length=ka.length:=by
 induction r with
 |nil=>rfl
 |cons _ _ a=>simp[a]
end
end Pu
namespace Pu
section
open PySem PySem.Spec PyProof.Rows L2
variable {a b:Expr}
def Sr{K:Frag}:Th K (Ai λi j=>.bl<|decide (i<j)) Di:=yN (λ_ _ _=>dJ.mpr rfl) λx y d e=>by
 unfold Di at e;split at e
 .cases e;exact⟨_,_,rfl,rfl,rfl⟩
 cases e
def ł{i j:Int}(c:(-18446744073709551616<i/\i<18446744073709551616)\/(-18446744073709551616<j/\j<18446744073709551616)):cw i j:=by
 unfold cw;omega
def pC(k:PE X a (tP X.K B f))(j:PE X b (tP X.K B g)):PE X (.BinOp a .Mult b pos) (tI X.K B<|e2 jK f g):=by
 refine Lk bMi ?_ k j;intro A H x y d v u Q w i h e q;unfold jK at e;split at e
 .obtain⟨c,e⟩:=aV e;cases e;exact⟨_,_,i.int,h.int,ł c,q _ H (bK.refl _)<|bY.mpr rfl⟩
 cases e
end
end Pu
namespace Pu
open PySem PySem.Spec PyProof.Rows L2
def QY{K:Frag} {p:Addr} (s1:bK H H1) (d:H1 p=none) (s2:bK H1 H') (c:H' p=some (.lst vs)) (r:bJ K (hide (A++p::B) H') ds vs):∃G,bK H G/\G p=none/\Nb G p (.lst vs)=H'/\bJ K (hide (A++B) G) ds vs:=by
 let G:=λb=>if b=p then none else H' b
 refine⟨G,λb o z=>?_,(xb rfl),?_,r.mono λb o z=>?_⟩
 .show (if b=p then none else H' b)=_
  rw[Ta<|bI (s1 _ _ z) d];exact s2 _ _<|s1 _ _ z
 .funext b
  by_cases a:b=p
  .subst a;rw[cG,c]
  rw[bR a];exact Ta a
 have a:b∉A++p::B:=λw=>by rw[kE w]at z;cases z
 have e:=bN _ _ _ _ z;rw[cU λw=>a<|mem_mid.mpr<|.inr w]
 show (if b=p then none else H' b)=_
 rwa [Ta λw=>a<|mem_mid.mpr<|.inl w]
section
variable {iter:Expr} {t:Tg} {h:Ex} {rest:List Stmt}
def bOo{is:ac}(v:L2.PI X tg iter (vk X.K B it))(w:∀(B:bv)(C:Addr)(c:Shared)(b:Hp)(a:bv),PG (fL X scope C c b a) tg<|tG X.K B t)
  (he:∀(B:bv)(C:Addr)(c:Shared)(b:Hp)(a:bv),PE (fL X scope C c b a) elt<|tI X.K B f) (z:X.calm=true:=by rfl) (e:Eo is t:=by exact Ms) (S:Lc X scope is:=by exact .of rfl) (o:∀x,foldedSetIterable iter X.env x=pure x:=by intro _;rfl) :
  PE X (.ListComp elt [⟨tg,iter,[],0⟩] scope pos) (tF X.K B<|cT is t it fK f):=by
 intro aa s σ H Q I h;obtain⟨A,st,d,g,y,q⟩:=h;obtain⟨xs,n,J⟩:=R.ja y;obtain⟨u,F⟩:=aV J;obtain⟨ys,l,E⟩:=R.ja F;cases E;refine wG (rest:=λenv it p=>eval elt env >>= λx=>call _ [p,x] >>= λ_=>again<|.compLoop _ 0 it p env) S z v (λC c b a=>jt λB=>w B C c b a) (λ_ _ _=>tL)
  (λC c b a it p s Q h=>eJ h) (λC c b a it p τ H s aa vs N Q I h q=>KI rfl (ft λB=>he B C c b a) τ H s aa vs N Q I h (λQ T m h=>Gr Q T m h) q) o I
  (Qs e (λτ H Q ⟨B,A,st,k,g,hk,q⟩=>?_) g n u l λp vs H1 H' s1 hp s2 hv r=>?_) λC p Z s5 j s3 H3 a τ D Y P W V i=>⟨j,V,λh' U=>⟨.ref p,Z,xv Y P D W U,rfl,i⟩⟩
 .obtain⟨G,O,M,L,K⟩:=QY s1 hp s2 hv r;have:=q p vs G O M K
  rwa [L]at this
 cases hk;exact q H<|bK.refl _
end
def OI(v d:Addr):HO:=.ext λh=>h.IsItemsView v d
section
variable {σ:List (Option V)}
def Ń(I:Aa X aa σ H s)(k:∀b u,s.heap.get? b=some u->h'.get? b=some u)(c:bK H H')(g:∀b,b<s.heap.objs.size->H' b=H b)(d:∀a o,H a=none->H' a=some o->rZ X.prog X.w H' h' a o):Aa X aa σ H' {s with heap:=h',toks:=t'}:=by
 refine I.un ⟨λb u q _ _ _=>k b u q,λb u q _ _ _=>⟨u.slots,k b u q⟩,λb u q n _=>by rwa [g b<|Dd q],λb u q _=>⟨u,k b u q⟩,λb xs q=>c _ _ q,λb u xs q=>c _ _ q,λb ps q=>⟨#[],by rw[c _ _ q];simp⟩⟩ λa o e=>?_
 cases f:H a with
 |none=>exact d a o f e
 |some u=>
  have z:=c a u f;rw[e]at z;cases z;exact(I.Bb a _ f).Sf (λb v _ q=>k b v q) (λb q=>c _ _ q) λb xs q=>c _ _ q
def ń:Ck X "dict.items" (λx vs H Q=>∃(d:Addr) (c:List (Hc×V)),x=.ref d/\vs=[]/\H d=some (.dK c)/\∀n,H n=none->Q (.ref n) (Nb H n<|OI n d)):=by
 intro aa s σ H x vs v r Q I g i h;obtain⟨d,c,rfl,rfl,a,q⟩:=h;cases g;have j:=i.zero;subst j;obtain⟨w,l,xs,t,f⟩:=Fm I.Bb a;refine Vo OZ f.typeIs PySem.F.entry_dict_items (PySem.F.args_dict_items_1 _) (meets_dict_items _ d l) ⟨⟨xs,f⟩,?_⟩;have e:(s.heap.push {cls:=.type "dict_items",data:=.fields #[.ref d]}).get? s.heap.objs.size=some {cls:=.type "dict_items",data:=.fields #[.ref d]}:=vf _ rfl;exact⟨.ref s.heap.objs.size,_,I.laid (o:=OI s.heap.objs.size d) (λb u q=>Zc _ q) (Fc _) ⟨⟨_,e,rfl,rfl⟩,⟨_,e⟩,λz y ⟨o,m,p,a⟩ k=>⟨o,k o m,p,a⟩⟩,rfl,q _<|I.Bb.fresh<|Fc _⟩
theorem Tz:∀{a:List (Hc×V)} {vs:List (Hc×Value)} {j:Nat} {k:Hc} {x:Value},KV a vs->vs[j]?=some (k,x)->∃p,a[j]?=some p/\p.1=k/\RelV p.2 x
 |_,_,j,k,x,.nil,e=>by simp at e
 |_,_,0,k,x,.cons h _,e=>by
  simp at e;subst e;exact⟨_,rfl,h.1,h.2⟩
 |_,_,j+1,k,x,.cons _ t,e=>by
  obtain⟨p,e1,e2⟩:=Tz t (by simpa using e)
  exact⟨p,by simpa using e1,e2⟩
theorem ώ(U:X.calm=true):pH X (.type "list") (λvs H Q=>∃(v d:Addr) (g:List (Hc×V)),vs=[.ref v]/\H v=some (OI v d)/\H d=some (.dK g)/\
  ∀(n:Addr)(ps:bv)(t:Hp),bK H t->t n=none->ps.length=g.length->(∀a∈ps,H a=none)->(∀(j:Nat)(a:Addr),ps[j]?=some a->∃p,g[j]?=some p/\t a=some (.tup [kV p.1,p.2]))->Q (.ref n) (Nb t n<|.lst<|ps.map V.ref)):=by
 intro aa s σ H vs us Q I r h;obtain⟨v,d,g,rfl,R,T,q⟩:=h;obtain⟨u,rfl,O⟩:=r.one;obtain rfl:u=Value.ref v:=O;obtain⟨hz,hs,xs,A,Y⟩:=Fm I.Bb T;have md:=bOn A;obtain⟨ep,Z⟩:=Y.dictAt;obtain⟨N,_,_⟩:=I.Bb v _ R;refine PySem.W.kdx_call (I.ok.hd U) N Z (by lia) λh' tk oa c f S W B l M=>?_
 have F:f.Nodup:=l.rise.imp df;have lo:=l.above;have y:=λa C=>I.Bb.fresh<|zw<|lo a C
 let G:=λb=>if b∈f then (g[f.idxOf b]?).map (λp=>.tup [kV p.1,p.2]) else H b
 have w:bK H G:=λb o e=>by
  show (if b∈f then _ else H b)=_
  rwa [Ta λz=>by rw[y b z]at e;cases e]
 have D:G s.heap.objs.size=none:=by
  show (if _∈f then _ else H _)=_
  rw[Ta λz=>Lh _<|lo _ z]
  exact I.Bb.fresh<|Fc _
 have E:∀(j:Nat)(a:Addr),f[j]?=some a->∃p,g[j]?=some p/\G a=some (.tup [kV p.1,p.2]):=λj a e=>by
  obtain⟨i,k,x,e1,e2,e3⟩:=l.pairs j a e;obtain⟨p,K,e5,e6⟩:=Tz A e1;refine⟨p,K,?_⟩;show (if a∈f then _ else H a)=_
  rw[xb<|Gj e];obtain⟨m,ej⟩:=zg.mp e;rw[<-ej,F.idxOf_getElem j m,K];rfl
 refine⟨.ref s.heap.objs.size,_,Ń I S (w.trans<|cL D) (λb hb=>?_)<|λa o C e=>?_,rfl,q _ f G w D (by rwa [B]) y E⟩
 .rw[bR<|df hb];show (if b∈f then _ else H b)=_
  rw[Ta λz=>Lh _<|Aw hb<|lo _ z]
 by_cases hb:a=s.heap.objs.size
 .subst hb;rw[cG]at e;cases e;refine⟨by rw[Kd,B];lia,oa.toList,c,?_,by simpa using W⟩
  rw[M];clear M l F lo y E w D B G
  induction f with
  |nil=>exact .nil
  |cons a f P=>exact .cons rfl P
 rw[bR hb]at e;obtain⟨j,m⟩:=xt.mp (by
  refine bj λz=>?_
  have L:(if a∈f then (g[f.idxOf a]?).map _ else H a)=some o:=e
  rw[Ta z,C]at L;cases L)
 obtain⟨p,e1,e2⟩:=E j a m;obtain⟨i,k,x,f1,f2,f3⟩:=l.pairs j a m;obtain⟨p',J,g2,g3⟩:=Tz A f1;rw[e1]at J;cases J;rw[e2]at e;cases e;refine⟨by show 2<=16777216;decide,[i,x],.cons ?_<|.cons g3 .nil,_,f3,?_⟩
 .rw[g2];exact bOm f2
 exact⟨rfl,_,rfl⟩
theorem MP{K:Frag}{H:Hp}:∀(c:List (Hc×V)) (ds:dL) (ps:bv),bJ K H ds (c.map (·.2))->ps.length=c.length->(∀(j:Nat)(a:Addr),ps[j]?=some a->∃p,c[j]?=some p/\H a=some (.tup [kV p.1,p.2]))->bJ K H (List.zipWith (λk d=>.tup [k,d]) (c.map λp=>qJ p.1) ds) (ps.map V.ref)
 |[],ds,ps,_,f,_=>by
  rw[Vm.mp f];exact .nil
 |p::c,[],ps,r,_,_=>by
  have:=r.length;simp at this
 |p::c,d::ds,[],_,f,_=>by simp at f
 |p::c,d::ds,a::ps,r,f,h=>by
  obtain⟨v,rest,e,m,l⟩:=cB.mp r;cases e;obtain⟨g,e1,e2⟩:=h 0 a rfl;cases e1;refine .cons (Ky.mpr ⟨a,_,rfl,e2,.cons ?_<|.cons m .nil⟩)<|MP c ds ps l (by simpa using f) λj b n=>?_
  .obtain⟨k,v⟩:=p;cases k with
   |inl i=>exact bY.mpr rfl
   |inr x=>exact gK.mpr (by simp[kV])
  obtain⟨g,e1,e2⟩:=h (j+1) b (by simpa using n)
  exact⟨g,by simpa using e1,e2⟩
end
section
variable{X:Cx}{B:bv}{a e:Expr}{es:List Expr}{f:Ex}{pos p0 Va Oa:Pos}{sm:Stmt}{rest:List Stmt}{bd tm:Bd}{r:Ee}
def bKl(y:X.mg "list"=none)(D:X.calm=true)(E:PE X a (tI X.K B f))(z:Gl X "list":=by rfl)(t:Vg a "items" X.env:=by rfl)(s:Oh Va Oa:=by rfl)
  (w:starEach [.Call (.Attribute a "items" Va) [] [] Oa] X.env=(false,eval (.Call (.Attribute a "items" Va) [] [] Oa) X.env)::starEach [] X.env:=by rfl):PE X (.Call (.Name "list" p0) [.Call (.Attribute a "items" Va) [] [] Oa] [] pos) (tF X.K B<|e1 Dv f):=by
 refine cQ (oy (ώ D) z y rfl<|dD (yz qt OZ PySem.F.type_dict_items ń E t s) iZ w) ?_
 rintro σ H Q ⟨A,st,ds,k,C,q⟩;obtain⟨x,u,e⟩:=R.ja C;refine⟨A,st,x,k,u,λv H1 s1 r1=>?_⟩
 unfold Dv at e;split at e
 .obtain⟨c,G⟩:=aV e;cases G;obtain⟨p,vs,rfl,F,o⟩:=vY.mp r1;rcases F with ⟨_,d,h,rfl,rfl⟩|⟨h,_⟩
  .have g:=bN _ _ _ _ h;refine⟨.inr<|.inr<|.inl ⟨rfl,.inl ⟨d,g⟩⟩,p,d,rfl,rfl,g,λn hn=>⟨n,p,d,rfl,cG,by rwa [bR<|bI g hn],λm ps H' s2 ou hl hps hp=>?_⟩⟩
   have i:=(cL hn).trans s2;refine q m _ H' (s1.trans i) ou<|MP d _ ps (o.mono<|bK.hide i) hl λj b l=>?_
   obtain⟨r,e1,e2⟩:=hp j b l;exact⟨r,e1,by rwa [cU<|(k.own.mono<|s1.trans<|cL hn).free<|hps b<|Gj l]⟩
  cases h
 cases e
def Vx(K:Frag)(B:bv)(b:Bd)(f:Ex):TS:=λd σ H=>∃A st st' xs,RS K B A H st σ/\b st=.ok (.nx st')/\f st'=.ok (.lst xs)/\∀c a vs H',Le A H c H'->a∈c->H' a=some (.lst vs)->bJ K (hide (c++B) H') xs vs->d.rt (.ref a) H'
def qz(m:PS X sm (tS X.K B bd))(k:jf X rest (Vx X.K B tm f)):jf X (sm::rest) (Vx X.K B (aY bd tm) f):=Pr (LF m k) (by
 rintro t σ H ⟨A,st,st',xs,g,j,i,q⟩;obtain⟨e,n,b⟩:=R.ja j;refine⟨A,st,e,g,n,?_⟩;cases e with
 |nx s1=>exact λr s H' l c=>⟨r,s1,st',xs,c,b,i,λp a vs o h=>q p a vs o<|l.trans h⟩
 |rt d=>cases b
 |bk s1=>cases b
 |ct s1=>cases b)
def Uz(he:PE X e (tF X.K B f)):jf X [.Return (some e) pos] (Vx X.K B cJ f):=Pr (GG<|KH he) (by
 rintro g σ H ⟨A,st,st',xs,b,d,c,q⟩;cases d;exact⟨A,st,xs,b,c,λp vs H' s a r=>q _ p vs _ ((Le.of s).trans<|Kz a) Gb cG<|r.mono<|Ly a⟩)
end
section
variable {K:Frag} {st:Stmt} {f:Addr} {k:Nat}
def QA(F:Ga K x qual st dV f fd)(S:qd N ps (bT st))(p n:Nat)(v:Bd)(g:Ex)(U:ps.length=p)(J:N.length=n)
  (i:∀(m:Value)(A:Around)(c:u8)(s:Shared)(H:Hp)(E:XK)(B:bv),Ub k (A.deeper<|envOfC qual (bT st) s.heap.objs.size f m)->
   jf (Ik zb P w K mg base N qual (bT st) f m A c s H E).Ql (fH st) (Vx K B v g)):xa P w K mg base zb (k+1) f fd ps (Wi K p<|bV p n<|sJ v g):=by
 refine F.VL S (λvs H Q E h=>?_)<|λm A c s H vs Q E G h=>?_
 .obtain⟨A,ds,d,e,r,t,_⟩:=h;rw[r.length,t,U]
 obtain⟨B,ds,xs,e,r,t,I,q⟩:=h;refine⟨Vx K B v g,i m A c s H E B G,?_⟩;obtain⟨_,O⟩:=aV I;obtain⟨X,j,M⟩:=R.ja O;have y:=XF (N:=N) e r;rw[t,J]at y;unfold sJ at j;split at j
 .rename_i s1 T;obtain⟨d,L,u⟩:=R.ja j;split at u
  .cases u;cases M;refine⟨[],_,s1,_,y,T,L,λY a V H' l ha D C=>q a V H' (by
    unfold Le at l;exact l.trans<|bN _ _) ?_ D<|C.mono<|oU λb i=>?_⟩
   .cases W:H a with
    |none=>rfl
    |some o=>
     have z:=l a o (by rwa [pS])
     rw[kE ha]at z;cases z
   rcases Uc.mp i with rfl|i
   .exact Kh _ ha
   exact Ag _ i
  cases u
 cases j
def â(ds:dL)(d:D)(h:bV np n (sJ bd g) ds=.ok d):∃xs,d=.lst xs:=by
 obtain⟨_,e⟩:=aV h;obtain⟨i,a,c⟩:=R.ja e;unfold sJ at a;split at a
 .obtain⟨d,f,b⟩:=R.ja a;split at b
  .cases b;cases c;exact⟨_,rfl⟩
  cases b
 cases a
end
structure fc(P:Program)(w:World)(K:Frag)(mg:db)(base:Heap)(x:Str)(k np:Nat)(p:bn):Prop where
 ex:∃(fa:Addr)(fd:FuncData)(ps:pi),xa P w K mg base zb k fa fd ps (Wi K np p)/\mg x=some (.ref fa)/\keepIn K (.ref fa)=true/\Binds K fd ps []
 len:∀ds d,p ds=.ok d->ds.length=np
 lst:∀ds d,p ds=.ok d->∃xs,d=.lst xs
def fc.of{K:Frag} {k:Nat} (h:xa P w K mg base zb k fa fd ps (Wi K np<|bV np n<|sJ bd g)) (m:mg x=some (.ref fa))
  (a:keepIn K (.ref fa)=true) (b:Binds K fd ps []):fc P w K mg base x k np (bV np n<|sJ bd g):=⟨⟨fa,fd,ps,h,m,a,b⟩,My,â⟩
def fc.plain{K:Frag} {k:Nat} (h:fc P w K mg base x k np p):Ba P w K mg base x k np p:=by
 obtain⟨fa,fd,ps,F,m,a,bd⟩:=h.ex;exact⟨⟨fa,fd,ps,YQ h.lst F,m,a,bd⟩,h.len⟩
section
variable {r:Ee}
def bKn{k:Nat} (h:fc X.prog X.w X.K X.mg X.base x k np p) (s:Ub j X.A) (t:k<=j) (C:PA X (e::es) (tA X.K B r)) (v:Gl X x:=by rfl) (l:Bf x:=by decide)
  (he:Lf e es X.env:=by rfl) (Af:Si pos es X.env:=by rfl):PE X (.Call (.Name x p0) (e::es) [] pos) (tF X.K B<|aM p r):=by
 obtain⟨fa,fd,ps,F,m,n,bd⟩:=h.ex;refine cQ (IG F (s.mono t) v m n bd .nil gq C l he Af) ?_
 rintro σ H Q ⟨A,st,d,f,w,q⟩;obtain⟨xs,o,g⟩:=R.ja w;refine⟨A,st,xs,f,o,λvs H1 s1 r1=>?_⟩
 show Wi X.K np p _ H1 Q E0;rw[dh];refine⟨A++B,xs,d,f.own.mono s1,r1,h.len _ _ g,g,λa ws H' s' Xh hv rv=>?_⟩
 have D:Nb (hide [a] H') a (.lst ws)=H':=by
  funext b
  by_cases c:b=a
  .subst c;rw[cG];exact hv.symm
  rw[bR c,cU (by simpa using c)]
 have z:=q a ws (hide [a] H') (λb u hz=>?_) (kE<|by simp) ?_
 .rwa [D]at z
 .have i:=s1 _ _ hz;rw[cU (by simpa using bI i Xh)]
  exact s' _ _ i
 refine rv.mono λb u hz=>?_
 have c:b∉a::(A++B):=λy=>by rw[kE y]at hz;cases hz
 rw[cU λy=>c<|Xb _ y,cU (by simpa using λy=>c<|by rw[y];exact Gb)]
 exact bN _ _ _ _ hz
end
structure DA(K:Frag)(n:Str)(st:Stmt):Prop where
 ex:∃(f:Addr)(fd:FuncData),nsIn K mainGlobals n=some (some<|.ref f)/\Ga K n n st .none f fd
section
variable{P:Program}{w:World}{K:Frag}{h base:Heap}{mg:db}{n:Str}{st:Stmt}{f:Addr}{ps:pi}{k np m:Nat}{p:bn}{bd:Bd}{g:Ex}
def cF{b:o0}{kV:Value} (a:nsIn K mainGlobals n=some (some<|.ref f)) (l:K.lookup f=some ⟨oc,b,.func<|fnOf n n (jZ st) (fH st) (bT st) .none kV doc pm an Kc ct,gi⟩)
  (c:codeIn K Kc n=true) (k:keepIn K (.ref f)=true):DA K n st:=⟨⟨f,_,a,oz l c k⟩⟩
structure Ct(P:Program)(w:World)(K:Frag)(mg:db)(base h:Heap):Prop where
 X:K.In h
 G:h.Ns mainGlobals mg
def Bn(n:Str)(st:Stmt)(ps:pi):Prop:=∀(kV b c:Value)(e:o0)(f d:Value)(a:cr),a.length=ps.length->bindArgs (fnOf n n (jZ st) (fH st) (bT st) .none kV b c e f d) ⟨a,[]⟩=pure (ps.zip a)
structure VC(n q:Str)(st:Stmt)(ps:pi):Prop where
 ok:∀(kV doc pm:Value)(an:o0)(Kc ct:Value)(us:cr),us.length=ps.length->bindArgs (fnOf n q (jZ st) (fH st) (bT st) .none kV doc pm an Kc ct) ⟨us,[]⟩=pure (ps.zip us):=by first|exact λ_ _ _ _ _ _=>TU rfl|exact λ_ _ _ _ _ _=>HH λ_=>rfl|exact λ_ _ _ _ _ _=>UU λ_ _=>rfl|exact λ_ _ _ _ _ _=>pz λ_ _ _=>rfl|exact λ_ _ _ _ _ _=>VU λ_ _ _ _=>rfl|exact λ_ _ _ _ _ _=>WU λ_ _ _ _ _=>rfl|exact λ_ _ _ _ _ _=>bKe λ_ _ _ _ _ _=>rfl
def DA.Zx(D:DA K n st)(C:Ct P w K mg base h)(b:Bn n st ps):∃(f:Addr)(c:FuncData),Ga K n n st .none f c/\mg n=some (.ref f)/\Binds K c ps []:=by
 obtain⟨f,c,a,F⟩:=D.ex;exact⟨f,c,F,mg_of C.X C.G a,F.rh b⟩
theorem DA.ok(D:DA K n st)(C:Ct P w K mg base h)(r:∀{f:Addr}{c:FuncData},Ga K n n st .none f c->xa P w K mg base zb k f c ps (Mb K np<|bV np m bd))(b:VC n n st ps:=by exact {}):Ba P w K mg base n k np (bV np m bd):=by
 obtain⟨f,c,F,a,z⟩:=D.Zx C b.ok;exact .of (r F) a F.kp z My
def DA.IC(D:DA K n st)(C:Ct P w K mg base h)(r:∀{f:Addr}{c:FuncData},Ga K n n st .none f c->xa P w K mg base zb k f c ps (Wi K np<|bV np m<|sJ bd g))(b:VC n n st ps:=by exact {}):fc P w K mg base n k np (bV np m<|sJ bd g):=by
 obtain⟨f,c,F,a,z⟩:=D.Zx C b.ok;exact .of (r F) a F.kp z
structure MA(K:Frag)(C:Addr)(m:String)(n q:Str)(st:Stmt):Prop where
 ex:∃(f:Addr)(fd:FuncData),Meth K C (ofString m) f/\Ga K n q st .none f fd
def mQ{m:String}{q:Str}{b:o0}{kV:Value} (a:findIn K (.ref C) (ofString m)=some (some<|.ref f)) (e:isFn K (.ref f)=true) (l:K.lookup f=some ⟨oc,b,.func<|fnOf n q (jZ st) (fH st) (bT st) .none kV doc pm an Kc ct,gi⟩)
  (c:codeIn K Kc q=true) (k:keepIn K (.ref f)=true):MA K C m n q st:=⟨⟨f,_,⟨a,e,k⟩,oz l c k⟩⟩
theorem MA.ok{C:Addr}{c m:String}{q:Str}{j:Nat}(D:MA K C m n q st)(_:Ct P w K mg base h)(d:ClsAt K c C)(r:∀{f:Addr}{a:FuncData},Ga K n q st .none f a->xa P w K mg base zb k f a ps (Mb K np<|bV np j bd))(b:VC n q st ps:=by exact {}):ub P w K mg base c m k np [] (bV np j bd):=by
 obtain⟨f,a,M,F⟩:=D.ex;exact ub.of d M (r F) (F.rh b.ok) .nil λ_=>.nil
end
end Pu
namespace Pu
open PySem
structure TI(b:Bool)(t:SetTable):Prop where
 rise:t.place.toList.Pairwise (· < ·)
 P0:t.dummies = #[]
 led:t.led=b
theorem AG(xs:Array Nat)(j:Nat)(q:xs.toList.Pairwise (· < ·)):∀(c lo d:Nat),d-lo<=c->lo<=d->d<=xs.size->(∀(i:Nat)(a:Nat),i<lo->xs[i]?=some a->a<j)->(∀(i:Nat)(a:Nat),d<=i->xs[i]?=some a->j<=a)->
  (∀(i:Nat)(a:Nat),i<SetTable.below.go xs j c lo d->xs[i]?=some a->a<j)/\(∀(i:Nat)(a:Nat),SetTable.below.go xs j c lo d<=i->xs[i]?=some a->j<=a)/\SetTable.below.go xs j c lo d<=xs.size
 |0,lo,d,y,w,l,o,n=>by
  have e:lo=d:=by lia
  subst e;exact⟨o,n,l⟩
 |c+1,lo,d,y,w,l,o,n=>by
  unfold SetTable.below.go;have t:∀(i k:Nat)(a b:Nat),i<k->xs[i]?=some a->xs[k]?=some b->a<b:=λi k a b r f u=>by
   rw[<-So]at f u;obtain⟨p,A⟩:=zg.mp f;obtain⟨B,z⟩:=zg.mp u;have:=CJ.mp q i k p B r
   rwa [A,z]at this
  by_cases h:lo<d
  .rw[xb h];have v:(lo+d)/2<xs.size:=by lia
   have g:=Qk v;have x:xs.getD ((lo+d)/2) j=xs[(lo+d)/2]:=by rw[mB,g];rfl
   dsimp only;rw[x]
   by_cases m:xs[(lo+d)/2] < j
   .rw[xb m];refine AG xs j q c _ _ (by lia) (by lia) l (λi a p f=>?_) n
    by_cases s:i=(lo+d)/2
    .subst s;rw[g]at f;cases f;exact m
    exact Aw (t i _ a _ (by lia) f g) m
   rw[Ta m];refine AG xs j q c _ _ (by lia) (by lia) (by lia) o λi a p f=>?_
   by_cases s:i=(lo+d)/2
   .subst s;rw[g]at f;lia
   have:=t _ i _ a (by lia) g f;lia
  rw[Ta h];have e:lo=d:=by lia
  subst e;exact⟨o,n,l⟩
theorem NP(xs:Array Nat)(j:Nat)(b:xs.toList.Pairwise (· < ·)):(∀(i:Nat)(a:Nat),i<SetTable.below xs j->xs[i]?=some a->a<j)/\(∀(i:Nat)(a:Nat),SetTable.below xs j<=i->xs[i]?=some a->j<=a)/\SetTable.below xs j<=xs.size:=
 AG xs j b xs.size 0 xs.size (by lia) (qh _) (Fc _) (λi a h=>absurd h<|Yo _) λi a h c=>by
  have:=(BJ.mp c).1;lia
theorem R_(xs:Array Nat)(j:Nat)(f:xs.toList.Pairwise (· < ·))(q:xs[SetTable.below xs j]?≠some j):(SetTable.insertAt xs (SetTable.below xs j) j).toList.Pairwise (· < ·):=by
 obtain⟨r,m,s⟩:=NP xs j f;have e:(SetTable.insertAt xs (SetTable.below xs j) j).toList=xs.toList.take (SetTable.below xs j)++j::xs.toList.drop (SetTable.below xs j):=by
  unfold SetTable.insertAt;simp;rw[WZ (by simp)]
 rw[e,List.pairwise_append];have n:∀a∈xs.toList.drop _,j<a:=λa i=>by
  obtain⟨k,c⟩:=xt.mp i;rw[List.getElem?_drop,So]at c;have:=m _ a (WJ _ _) c;rcases Nat.lt_or_eq_of_le this with h|h
  .exact h
  subst h;exfalso;have d:SetTable.below xs j<xs.size:=by have:=(BJ.mp c).1;lia
  have t:=m _ _ (Fc _)<|Qk d
  by_cases p:k=0
  .subst p;exact q c
  have o:=BJ.mp c;have:=CJ.mp f _ _ (by simpa using d) (by simpa using o.1) (by lia)
  rw[M0,M0,o.2]at this;lia
 refine⟨f.sublist<|List.take_sublist _ _,List.pairwise_cons.mpr ⟨n,f.sublist<|List.drop_sublist _ _⟩,λa i b d=>?_⟩
 have l:a<j:=by
  obtain⟨k,c⟩:=xt.mp i;rw[List.getElem?_take]at c;split at c
  .rename_i g;rw[So]at c;exact r k a g c
  cases c
 rcases Uc.mp d with rfl|d
 .exact l
 exact Aw l<|n b d
theorem NS(t:SetTable)(hashAt:Nat->Int)(h:Int)(g:t.dummies = #[]):∀(c:Nat)(p:SetTable.Probe)(j:Nat)(d:Option Nat),SetTable.probe.go t hashAt h c p=some (.empty j d)->t.slot j=.empty/\d=p.dummy
 |0,p,j,d,e=>by cases e
 |c+1,p,j,d,e=>by
  unfold SetTable.probe.go at e;cases f:t.slot p.j with
  |empty=>rw[f]at e;cases e;exact⟨f,rfl⟩
  |dummy=>
   unfold SetTable.slot at f;dsimp only at f;split at f
   .cases f
   rw[g]at f;cases f
  |live i=>
   rw[f]at e;dsimp only at e;split at e
   .cases e
   obtain⟨a,b⟩:=NS t hashAt h g c _ j d e;exact⟨a,b.trans (by
    unfold SetTable.advance;split<;>rfl)⟩
def ã{t:SetTable}{h:Int} {w:Bool} (f:t.dummies = #[]) (e:t.freeSlot h=some (j,w)):t.slot j=.empty:=by
 unfold SetTable.freeSlot at e;split at e
 .rename_i g d c;obtain⟨a,b⟩:=NS t _ h f _ _ _ _ c;subst b;cases e;exact a
 cases e
def ä{t:SetTable} (h:t.slot j=.empty):t.place[SetTable.below t.place j]?≠some j:=λe=>by
 unfold SetTable.slot at h;rw[xb (by rw[e];exact HB _)]at h
 cases h
theorem TI.put{b:Bool}{t:SetTable}{j:Nat}(x:TI b t)(h:t.slot j=.empty):TI b (t.put j).1:=by
 refine⟨R_ t.place j x.rise<|ä h,?_,x.led⟩;show (if SetTable.has t.dummies j then _ else t.dummies)=_
 rw[x.P0];rfl
def Ϗ(n:Nat):(Array.range n).toList.Pairwise (· < ·):=by
 rw[Array.toList_range];exact ZZ
def TI.tj{t:SetTable}(x:TI b t)(n:Nat):TI b (t.standIn n):=⟨Ϗ n,rfl,x.led⟩
def TI.Tn{t:SetTable}(x:TI b t)(n:Nat):TI b (t.orStandIn n):=by
 unfold SetTable.orStandIn;split
 .exact x
 exact x.tj n
def TI.lay{t:SetTable}(x:TI b t)(a:kt)(h:Int)(v:Value):TI b (layNew t a h v).2.1:=by
 unfold layNew;split
 .rename_i j w e;exact(x.put<|ã x.P0 e).Tn _
 exact x.tj _
def TI.Qx{t:SetTable}(x:TI b t)(p:kt)(n:Nat):TI b (relayAll t p n).2.1:=by
 unfold relayAll;split
 .rename_i t' i e;have y:TI b t':=by
   obtain⟨d,_,e2⟩:=Option.bind_eq_some_iff.mp e;cases e2;refine⟨?_,rfl,x.led⟩;rw[List.map_filterMap];refine(ZZ).filterMap _ λa j l c g q h=>?_
   have o:c=a:=by
    cases f:(d.getD a none) with
    |none=>rw[f]at g;cases g
    |some k=>rw[f]at g;cases g;rfl
   have m:q=j:=by
    cases f:(d.getD j none) with
    |none=>rw[f]at h;cases h
    |some k=>rw[f]at h;cases h;rfl
   rwa [o,m]
  dsimp only;split
  .exact y
  exact x.tj _
 exact x.tj _
theorem TI.fresh(b:Bool):TI b (.fresh 0 0 b):=⟨List.Pairwise.nil,rfl,rfl⟩
def OS(t:SetTable)(a:kt)(h:Int)(v:Value):(layNew t a h v).1.toList.Perm (a.toList++[(h,v)]):=by
 have p:=layNew_perm t a h v
 rwa [Array.toList_push]at p
def numOf:Value->Int
 |.int n _=>n
 |_=>0
def ot(e:Int×Value):Prop:=∃(n:Int)(t:Tok),e=(hashInt n,.int n t)
structure xc(b:Bool)(a:Addr)(ns:jp)(es:kt)(ep:Nat)(t:SetTable)(h:Heap):Prop where
 obj:h.get? a=some {cls:=.type "set",dict:=none,data:=.set es ep t,slots := #[]}
 fit:t.fits es.size=true
 ti:TI b t
 perm:(es.toList.map λe=>numOf e.2).Perm ns
 nums:∀e∈es.toList,ot e
def xc.keep{c:kt} {t:SetTable} (x:xc b a ns c ep t h) (k:∀o,h.get? a=some o->h'.get? a=some o):xc b a ns c ep t h':=
 ⟨k _ x.obj,x.fit,x.ti,x.perm,x.nums⟩
theorem xc.size{b:Bool}{a:Addr}{ns:jp}{c:kt}{d:Nat}{t:SetTable}{h:Heap}(x:xc b a ns c d t h):c.size=ns.length:=by
 simpa using x.perm.length_eq
def xc.put{j f:kt} {t t':SetTable} (x:xc b a ns j ep t h) (g:t'.fits f.size=true) (i:TI b t') (c:(f.toList.map λe=>numOf e.2).Perm fi) (d:∀e∈f.toList,ot e) :
  xc b a fi f (ep+1) t' (h.update a<|Obj.putSet f t'):=by
 refine⟨?_,g,i,c,d⟩;rw[Po _ x.obj rfl];rfl
def Sm(ns:jp)(k:Int):jp:=if ns.any (· == k) then ns else ns++[k]
def bKo(ns:jp)(k:Int):(Sm ns k).length<=ns.length+1:=by
 unfold Sm;split
 .exact bp _
 simp
section
variable {A:Around}
def bKp{b:List (Int×Value)}(a:∀e∈b,ot e):ElemsOf (intKind prog w) b:=λe c=>by
 obtain⟨n,t,rfl⟩:=a e c;exact⟨⟨n,Ew prog w n t,rfl⟩,rfl⟩
def bKq{f:List (Int×Value)} (b:∀e∈f,ot e) (a:(f.map λe=>numOf e.2).Perm ns) (k:Int):(f.findIdx?<|λe=>(intKind prog w).is k e.2).isSome=ns.any (· == k):=by
 rw[J0,To,sq,sq];constructor
 .rintro⟨e,c,d⟩;obtain⟨n,t,rfl⟩:=b e c;exact⟨n,a.mem_iff.mp<|xf.mpr ⟨_,c,rfl⟩,Xk.mpr<|(intKind prog w).inj _ n k (Ew prog w n t) d⟩
 rintro⟨n,i,d⟩;obtain⟨e,c,h⟩:=xf.mp<|a.mem_iff.mpr i;obtain⟨g,t,rfl⟩:=b e c;refine⟨_,c,?_⟩;rw[<-(Xk.mp d),<-(h)];exact Ew prog w g t
def IH{Q:pp}(c:Bool)(q:Q () s):wpAny (model prog w) A (match c with|true=>rule "set.scan.the-table-gave-way"|false=>pure ()) Q E s:=by
 cases c with
 |true=>exact Xt q
 |false=>exact Ob q
def sf{l f:kt}{m:Nat}{t t':SetTable}{d:Bool}{R:Option Bool->Shared->Prop}{g:Bool->Sem Unit}
  (v:∀(c:Bool)(u:Shared)(Q:pp),Q () u->wpAny (model prog w) A (g c) Q E u) (x:xc b a ns l m t s.heap)
  (B:f.size<scanBound) (k:t'.fits f.size=true) (n:TI b t') (h:(f.toList.map λe=>numOf e.2).Perm fi) (i:∀e∈f.toList,ot e)
  (r:∀(j:Heap) (l:kt) (m:Nat) (t:SetTable),Heap.SameBut a s.heap j->xc b a fi l m t j->R (some true) {s with heap:=j}) :
  wpAny (model prog w) A (storeSet a f t' >>= λ_=>if (!d&&t'.tooFull)=true then g (relayAll t' f<|SetTable.grown f.size).2.2 >>= λ_=>storeSet a (relayAll t' f<|SetTable.grown f.size).1 (relayAll t' f<|SetTable.grown f.size).2.1 >>= λ_=>pure (some true) else pure (some true)) R E s:=by
 have y:=x.put k n h i;have o:=tw s.heap a<|Obj.putSet f t';refine Ha<|wpAny_storeSet_of x.obj rfl ?_<|EB B
 by_cases q:(!d&&t'.tooFull)=true
 .rw[xb q];have p:=relayAll_perm t' f<|SetTable.grown f.size;have sz:=by simpa using p.length_eq
  exact Ha<|v _ _ _<|Ha<|wpAny_storeSet_of y.obj rfl (Ob<|r _ _ _ _ (o.trans<|tw _ a _)<|y.put (relayAll_fits t' f _) (n.Qx f _) ((p.map _).trans h) λe z=>i e<|p.mem_iff.mp z)<|EB<|by rwa [sz]
 rw[Ta q];exact Ob<|r _ _ _ _ o y
theorem bOp{f:kt}{h:Nat}{t:SetTable}{k:Int}{Q:v6}(x:xc b a ns f h t s.heap)(H:ns.length+1<scanBound)
  (q:∀(c:Bool)(g:Heap) (f:kt) (h:Nat) (t:SetTable),Heap.SameBut a s.heap g->xc b a (Sm ns k) f h t g->Q c {s with heap:=g}) :
  wpAny (model prog w) A (setAddHashed a (.int k tk)<|hashInt k) Q E s:=by
 have B:ElemsOf (intKind prog w) f.toList:=bKp x.nums;have l:=bKq (prog:=prog) (w:=w) x.nums x.perm k;have u:∀e∈(layNew t f _ _).1.toList,ot e:=λe i=>by
  rcases Pg.mp ((OS t f _ _).mem_iff.mp i) with i|i
  .exact x.nums e i
  exact⟨k,tk,Od.mp i⟩
 have m:=by
  have:=(OS t f (hashInt k)<|.int k tk).map λe=>numOf e.2
  rw[Gi]at this;exact this.trans<|x.perm.append_right _
 have o:(layNew t f (hashInt k)<|.int k tk).1.size<scanBound:=by
  have:=m.length_eq;simp at this;lia
 refine Hi<|Ha<|Ft x.obj rfl x.fit ?_;dsimp only;rw[xb<|byScan_of rfl (by rw[x.size];lia) B]
 refine Ha<|Ha<|Xt<|Ha<|wpAny_setScan_of (Ew prog w k tk) x.obj rfl x.fit B ?_;cases v:f.toList.findIdx? _ with
 |some j=>
  rw[v]at l;have:Sm ns k=ns:=xb l.symm;rw[this]at q;exact Ob<|Ob<|q false s.heap f h t (Heap.SameBut.refl a s.heap) x
 |none=>
  rw[v]at l;have:Sm ns k=ns++[k]:=by unfold Sm;rw[<-l];rfl
  rw[this]at q;have n:=x.ti.lay f (hashInt k)<|.int k tk;have r:=layNew_fits t f (hashInt k)<|.int k tk;generalize layNew t f _ _=L at m u o n r ⊢;obtain⟨D,C,d,gv⟩:=L;refine Ha<|IH _ ?_
  by_cases z:C.plain=true
  .rw[xb z];exact Ha<|Ob<|sf (λc G F g=>IH c g) x o r n m u λg f h t p y=>Ob<|q true g f h t p y
  rw[Ta z];exact Ha<|Ob<|sf (λc G F g=>IH c g) x o r n m u λg f h t p y=>Ob<|q true g f h t p y
end
end Pu
namespace Pu
open PySem PyProof.Rows
section
variable{prog:Program}{w:World}{A:Around}{E:be}{s:Shared}
def nq(val:Nat->Int):Nat->List Int
 |0=>[]
 |i+1=>Sm (nq val i)<|val i
theorem YU(val:Nat->Int):∀i,(nq val i).length<=i
 |0=>Fc _
 |i+1=>ye (bKo _ _)<|Nat.succ_le_succ<|YU val i
def lR(b:Bool)(a:Addr)(ns:jp)(h:Heap):Prop:=∃es ep t,xc b a ns es ep t h
theorem lR.keep{b:Bool}{a:Addr}{ns:jp}{h c:Heap}(x:lR b a ns h)(k:∀o,h.get? a=some o->c.get? a=some o):lR b a ns c:=
 let ⟨es,ep,t,y⟩:=x
 ⟨es,ep,t,y.keep k⟩
def bOq{k:Int}{t:Tok}{Q:v6}(x:lR b a ns s.heap)(g:ns.length+1<scanBound)
  (q:∀(c:Bool)(d:Heap),Heap.SameBut a s.heap d->lR b a (Sm ns k) d->Q c {s with heap:=d,toks:=s.toks+1}) :
  wpAny (model prog w) A (setAdd a<|.int k t) Q E s:=by
 obtain⟨es,ep,i,y⟩:=x;exact Hi<|Ha<|(intKind prog w).pyHash (Ew prog w k t)<|bOp y g λc d f h t' e z=>q c d e ⟨f,h,t',z⟩
variable{I:Addr}{fp wr:bv}{G:Array GenState->Array GenState->Prop}{n:Nat}{P:Nat->Value->Prop}{St:Nat->Shared->Prop}
theorem bKr(W:WalksS prog w A.in1 I fp wr G n P St){R:Result->na}(a:Addr)(b:Bool)(out:a∉fp)(val:Nat->Int)(Qi:∀i v,P i v->∃t,v=.int (val i) t)(D:n+1<scanBound) :
  ∀(m i:Nat)(s:Shared),i+m=n->St i s->lR b a (nq val i) s.heap->
   (∀f,Moved (a::wr) G s f->lR b a (nq val n) f.heap->R (.ok<|.ret .none) f)->
   codeAny (model prog w) A (.builtin "set.update.loop" ⟨[.ref a,.ref I],[]⟩) R s:=by
 have q:=λh=>out<|W.sub _ h
 have p:∀c∈wr,c∈a::wr:=λc g=>Xb _ g
 intro m
 induction m with
 |zero=>
  intro i s e st x r;subst e;refine Mt F.entry_set_update_loop ?_
  rw[Around.under_plainId F.plain_set_update_loop _];exact Ha<|W.done s _ _ st λf j=>Ob<|r f (j.mono p)<|x.keep λo k=>j.heap a o q k
 |succ m C=>
  intro i s e st x r;refine Mt F.entry_set_update_loop<|Ha<|W.item i s _ _ (by lia) st λv f pv st' j=>?_
  obtain⟨t,rfl⟩:=Qi i v pv;refine Ha<|Hi<|bOq (x.keep λo k=>j.heap a o q k) (by have:=YU val i;lia) λc h' u y=>Ob ⟨yw F.plain_set_update_loop _,?_⟩
  have d:=λc g=>u.2 c g
  refine C (i+1) _ (by lia) (W.frame _ f _ _ st' (bp _) λc g o k=>?_) y λB l z=>?_
  .rwa [d c λh=>out<|h ▸ g]
  refine r B (Moved.trans W.gtrans ((j.mono p).then_heap (bp _) λc o g k=>?_) l) z
  rwa [d c λh=>g<|h ▸ Gb]
end
section
variable{prog:Program}{w:World}{A:Around}{E:be}{s:Shared}
def Uh(w:World):Bool:=w.params.followText "set-order"
def Su(w:World):Obj:={cls:=.type "set",dict:=none,data:=.set #[] 0 (.fresh 0 0<|!Uh w),slots := #[]}
def bKs(a:Value) (q:Q (.ref s.heap.objs.size) {s with heap:=s.heap.push (Su w)}) :
  codeAny (model prog w) A (.call (.builtin "set.__new__") ⟨[.type "set",a],[]⟩) (wants Q E) s:=by
 refine codeAny_of_tree<|(Ha<|wpAny_of_eq (F.newCall_set_1 a)<|Ob ⟨yw F.plain_set_new _,Mt F.entry_set_new ?_⟩);unfold Builtin.«set.__new__» Builtin.Frozenset.newClass;have sub:=sub_set_self;dsimp only
 wp_walk
 exact Kt<|Ob<|Ha<|wpAny_alloc<|Ob<|Ob q
def å(w:World) (o:h.get? a=some (Su w)):lR (!Uh w) a [] h:=
 ⟨#[],0,_,o,rfl,TI.fresh _,List.Perm.nil,λe b=>nomatch b⟩
def bKt{l:Addr} {R:Result->na} (u:A.handled=none) (o:s.heap.get? a=some (Su w)) (q:l≠a) (d:s.heap.IsList l items) (Qi:IntsAre items.toList ns) (B:items.size+1<scanBound)
  (r:∀(g:Heap)(n:Nat),lR (!Uh w) a (nq (λi=>ns.getD i 0) items.size) g->(∀b o,b≠a->s.heap.get? b=some o->g.get? b=some o)->R (.ok<|.ret .none) {s with heap:=g,toks:=n}) :
  wpAny (model prog w) A.in1 (Builtin.«set.__init__» ⟨[.ref a,.ref l],[]⟩) (λj s'=>match j with|.done f=>R (.ok f) s'|.again m=>m.quiet=true/\codeAny (model prog w) A m R s') (λe s'=>R (.error e) s') s:=by
 obtain⟨p,c,C,E,y⟩:=id d;obtain⟨L,J,K,D⟩:=p;subst C;have I:=F.sub_list_set;have H:=F.sub_list_frozenset;unfold Builtin.«set.__init__» noKeywords Builtin.Frozenset.updateFrom;generalize t:pyIter=it
 wp_walk
 subst t;refine DB d<|Ha<|wpAny_runValue (bKr ((Walks.list (by simp[u]) _ l (df<|Dd c) items).toS) a _ (by
  intro h;rcases Uc.mp h with h|h
  .exact(df<|Dd o) h
  exact q (Od.mp h).symm) _ (λi v G=>IntsAre.int_at Qi i v<|by rwa [So]) B items.size 0 _ (Ut _)
  ⟨⟨_,vf _ rfl,rfl,rfl⟩,d.push _⟩ (å w<|Zc _ o) λs' mv x=>?_)
 rw[Moved.eq_with mv];refine Ob<|Ob<|r s'.heap s'.toks x λb o z k=>mv.heap b o (λhm=>?_)<|Zc _ k
 rcases Uc.mp hm with h|h
 .exact z h
 exact absurd (Od.mp h)<|df<|Dd k
def bKu{l:Addr} (B:A.handled=none) (m:s.heap.IsList l items) (Qi:IntsAre items.toList ns) (D:items.size+1<scanBound)
  (q:∀(a:Heap)(c:Nat),lR (!Uh w) s.heap.objs.size (nq (λi=>ns.getD i 0) items.size) a->(∀b o,s.heap.get? b=some o->a.get? b=some o)->Q (.ref s.heap.objs.size) {s with heap:=a,toks:=c}) :
  wpAny (model prog w) A (call (.type "set") [.ref l]) Q E s:=by
 have N:=Cw.made;have M:=Cw.sub;have L:=F.typeCall_set_1<|.ref l;refine wpAny_call<|codeAny_of_tree<|(Ob ⟨Code.quiet_builtin _ (by decide+kernel),Mt F.entry_type_call ?_⟩)
 rw[Around.under_plain (weight_type_call_type "set" [.ref l] []) rfl]
 repeat (any_goals (first|assumption|wp_step))
 refine uq (bKs (.ref l) (E:=E) (Q:=λv p=>v=.ref s.heap.objs.size/\p={s with heap:=s.heap.push _}) ⟨rfl,rfl⟩) λd p G=>?_
 match d,G with
 |.error e,f=>exact f
 |.ok (.ret v),⟨y,z⟩=>
  subst y;subst z;have g:(s.heap.push _).get? s.heap.objs.size=some (Su w):=vf _ rfl;have C:Shared.TypeIs {s with heap:=s.heap.push (Su w)} (.ref s.heap.objs.size) "set":=⟨_,g,rfl⟩
  have K:=Cw.init.lookup;have J:=Cw.init.bind<|.ref s.heap.objs.size
  repeat (any_goals (first|assumption|wp_step))
  refine uq (codeAny_call_builtin (R:=wants (λr n=>r=.none/\Q _ n) E) Cw.init.plain F.entry_set_init (check_set_init_1 C
   (bKt (by simp[B]) g (let ⟨_,h,_⟩:=m;df (Dd h)) (m.push _) Qi D λa c x k=>⟨rfl,q a c x λb o j=>k b o (df<|Dd j)<|Zc _ j⟩))) λu n t=>?_
  match u,t with
  |.error e,f=>exact f
  |.ok (.ret _),⟨I,H⟩=>
   repeat (any_goals (first|assumption|wp_step))
end
theorem DE{a:Type}:∀(xs:List a)(i:Nat)(x:a),xs[i]?=some x->(x::xs.eraseIdx i).Perm xs
 |[],_,_,h=>nomatch h
 |y::xs,0,x,h=>by cases h;exact MB _
 |y::xs,i+1,x,h=>by
  exact(List.Perm.swap y x _).trans ((DE xs i x<|by simpa using h).cons y)
theorem fR{a:Type}(next:li):∀(n k:Nat)(left:List a)(out:Array a),left.length=n->(pickOrder.go next n k left out).toList.Perm (out.toList++left)
 |0,k,left,out,h=>by
  cases left with
  |nil=>rw[dh];exact MB _
  |cons _ _=>cases h
 |n+1,k,left,out,h=>by
  unfold pickOrder.go;have b:next k%left.length<left.length:=mod_lt _ (by lia)
  have e:=Ze b;rw[e];refine(fR next n (k+1) _ _ (by rw[BZ b];lia)).trans ?_
  rw[Array.toList_push,Sk];exact(DE left _ _ e).append_left _
def V7(next:li)(xs:Array α):(pickOrder next xs).toList.Perm xs.toList:=fR next xs.size 0 xs.toList #[] (Array.length_toList)
section
variable {A:Around}
def æ{s:Shared} {Q:Nat->Shared->Prop} (a:n≠0) (q:∀i d,i<n->Q i {s with drawn:=d}):wpAny (model prog w) A (choose src n) Q E s:=
 λ_ _ _=>⟨a,q _ _<|mod_lt _<|OJ a⟩
theorem bKv{b:Type}(n:Nat):∀(xs:List b)(s:Shared)(Q:List b->na),xs.length=n->(∀a d,a.Perm xs->Q a {s with drawn:=d})->wpAny (model prog w) A (drawOrder n xs) Q E s:=by
 induction n with
 |zero=>
  intro xs s Q h q;have e:=Vm.mp h;subst e;exact Ob<|q [] s.drawn<|MB _
 |succ n f=>
  intro xs s Q h q;have c:xs≠[]:=λe=>by rw[e]at h;cases h
  obtain⟨x,l,rfl⟩:=List.exists_cons_of_ne_nil c;refine((Ha<|æ (by simp) λi d hi=>?_):wpAny _ A (choose .order (x::l).length >>= λi=>match (x::l)[i]? with|some y=>drawOrder n _ >>= λr=>pure _|none=>unsupported "internal:drawOrder") Q E s)
  have e:=Ze hi;rw[e];exact Ha<|f _ _ _ (by rw[BZ hi];lia) λa j g=>Ob<|q _ j<|(g.cons _).trans<|DE _ _ _ e
end
def uE:Slot "set_iterator" "__next__" "set_iterator.__next__":=
 .of (owner:="set_iterator") (n:="__next__") (by kernel_rfl) (by decide+kernel) (by decide+kernel) (by decide+kernel) (.inl<|by decide+kernel) (by kernel_rfl)
def Oy:entryFor table "set_iterator.__next__"=some Builtin.«set_iterator.__next__» := entryFor_of_tree (by kernel_rfl)
def uz(a:Value):argsOk "set_iterator.__next__" ⟨[a],[]⟩:=by
 kernel_rfl
def QS:Slot "set_iterator" "__iter__" "set_iterator.__iter__":=
 .of (owner:="set_iterator") (n:="__iter__") (by kernel_rfl) (by decide+kernel) (by decide+kernel) (by decide+kernel) (.inl<|by decide+kernel) (by kernel_rfl)
def ç:entryFor table "set_iterator.__iter__"=some Builtin.«dict_keyiterator.__iter__» := entryFor_alias (id':="dict_keyiterator.__iter__") (by kernel_rfl) rfl (by decide+kernel) (by kernel_rfl)
def Ņ(a:Value):argsOk "set_iterator.__iter__" ⟨[a],[]⟩:=by
 kernel_rfl
def ϐ:entryFor table "set.__iter__"=some Builtin.«frozenset.__iter__» := entryFor_alias (id':="frozenset.__iter__") (by kernel_rfl) rfl (by decide+kernel) (by kernel_rfl)
def bKw:typeLookup (.type "set") "__len__"=pure (some<|.builtin "set.__len__"):=by kernel_rfl
def lm(first:Value)(i:Nat)(a:Addr)(n b:Nat):Obj:={cls:=.type "set_iterator",dict:=none,data:=.fields #[first,.int i 0,.ref a,.int n 0,.int b 0],slots := #[]}
section
variable{prog:Program}{w:World}{A:Around}{E:be}{s:Shared}
def bKx{e:kt} {t:SetTable} {f:Nat} {v:Value} {Q:wn}
  (d:s.heap.get? I=some (lm (.int c 0) i a e.size ep)) (x:xc b a ns e ep t s.heap)
  (k:∀(A:Around)(E:be) (Q:re),Q (some (v,f)) s->wpAny (model prog w) A (setNext a c i ep) Q E s)
  (q:∀g,g.get? I=some (lm (.int f 0) (i+1) a e.size ep)->Heap.SameBut I s.heap g->Q (some v) {s with heap:=g}) :
  wpAny (model prog w) A (pyNext<|.ref I) Q E s:=by
 have h:s.TypeIs (.ref I) "set_iterator":=⟨_,d,rfl⟩;refine Ha<|Qt<|vt h uE<|om uE h Oy (Ha<|Ob<|Ha<|OB d rfl ?_)<|uz _;dsimp only;refine Ha<|uw x.obj rfl x.fit ?_;rw[Ta (by simp)]
 refine Ha<|k _ _ _<|Ha<|Ot d rfl (by simp) ?_
 have j:(s.heap.update I (Obj.mapFields (·.setIfInBounds 0 (rawInt f)))).get? I=some (lm (.int f 0) i a e.size ep):=by
  rw[Po _ d<|nB<|BB rfl _];rfl
 refine Ha<|Ot j rfl (by simp)<|Ob ⟨v,rfl,Ob<|q _ ?_<|(tw ..).trans<|tw ..⟩
 rw[Po _ j<|nB<|BB rfl _];rfl
def ZU{R:be}{Q:Fin->na}(d:A.handled=none)(r:∀(a:Heap)(e:Addr),(∀b o,s.heap.get? b=some o->a.get? b=some o)->(∃o,a.get? e=some o/\o.cls=.type "StopIteration")->R (.ref e) {s with heap:=a}) :
  wpAny (model prog w) A (newExc (.type "StopIteration") [] >>= λe=>raiseNew e) Q R s:=by
 refine Ha<|Ha<|Et (Ha<|wpAny_of_eq (by first|rfl|(rfl))<|Et (Ha<|wpAny_handled ?_)<|by size_fits)<|by size_fits
 rw[d];exact Ha<|Ob<|wpAny_throw<|r _ _ (λb o c=>Zc _<|Zc _ c) ⟨_,vf _ rfl,rfl⟩
def bOr{b:Bool} {h:kt} {t:SetTable} {Q:wn} (n:A.handled=none)
  (d:s.heap.get? I=some (lm (.int c 0) i a h.size ep)) (x:xc b a ns h ep t s.heap)
  (l:∀(A:Around)(E:be) (Q:re),Q none s->wpAny (model prog w) A (setNext a c i ep) Q E s)
  (q:∀f,(∀b o,b≠I->s.heap.get? b=some o->f.get? b=some o)->Q none {s with heap:=f}) :
  wpAny (model prog w) A (pyNext<|.ref I) Q E s:=by
 have g:s.TypeIs (.ref I) "set_iterator":=⟨_,d,rfl⟩;refine Ha<|Qt<|vt g uE<|om uE g Oy (Ha<|Ob<|Ha<|OB d rfl ?_)<|uz _;dsimp only;refine Ha<|uw x.obj rfl x.fit ?_;rw[Ta (by simp)]
 refine Ha<|l _ _ _<|Ha<|Ot d rfl (by simp)<|ZU n λf e k o=>?_
 obtain⟨o,m,p⟩:=o;refine Ha<|IB ⟨o,m,p⟩ isSubtype_stop<|Ob<|q _ λb j r u=>k b j ?_
 rwa [oq _ _<|Lj r]
def è{d:kt} {t:SetTable} (x:xc b a ns d ep t s.heap) (g:Uh w=true) (c i:Nat) {Q:re}
  (q:Q (((pickOrder (w.params.setOrder a ep) d)[i]?).map λe=>(e.2,c)) s):wpAny (model prog w) A (setNext a c i ep) Q E s:=by
 have f:=g;refine Ha<|Ft x.obj rfl x.fit ?_;dsimp only;refine Ha<|Ha<|Kt<|Ob<|qm (λ_=>?_) λh=>absurd f h
 rw[Ta (by simp)]
 exact Ha<|Ha<|Ft x.obj rfl x.fit<|Ha<|Ha<|Kt<|Ob<|qm (λ_=>Ha<|Kt<|Ob<|Ob q) λh=>absurd f h
def dq(t:SetTable):li
 |0=>0
 |i+1=>t.place.getD i 0+1
theorem below_at{t:SetTable}(a:TI b t)(i:Nat)(l:i<=t.place.size):SetTable.below t.place (dq t i)=i:=by
 obtain⟨d,c,f⟩:=NP t.place _ a.rise;generalize j:SetTable.below t.place _=m at d c f;rcases Nat.lt_trichotomy m i with h|h|h
 .have lt:i-1<t.place.size:=by lia
  have:=c (i-1) _ (by lia)<|Qk lt
  have e:dq t i=t.place[i-1]+1:=by
   cases i with
   |zero=>lia
   |succ k=>
    show t.place.getD k 0+1=_;rw[mB,Qk (by lia)]
    rfl
  lia
 .exact h
 have g:=d i _ h<|Qk<|by lia
 cases i with
 |zero=>exact absurd g<|Yo _
 |succ k=>
  have e:dq t (k+1)=t.place[k]+1:=by
   show t.place.getD k 0+1=_;rw[mB,(Qk _)];rfl
  have r:=CJ.mp a.rise k (k+1) (by simp;lia) (by simp;lia) (by lia)
  simp at r;lia
theorem ņ{b:kt} {t:SetTable} (x:xc true a ns b ep t s.heap) (f:Uh w=false) (d:(!t.plain&&decide (b.size>1))=false) (i:Nat) (g:i<=b.size) {Q:re}
  (q:Q ((b[i]?).map λe=>(e.2,dq t<|i+1)) s):wpAny (model prog w) A (setNext a (dq t i) i ep) Q E s:=by
 have sz:=by
  have:=x.fit;simp[SetTable.fits]at this;exact this.1
 refine Ha<|Ft x.obj rfl x.fit ?_;dsimp only;refine Ha<|Ha<|Kt<|Ob<|qm (λh=>absurd ((f).symm.trans h) ph) λ_=>qm (λh=>absurd (d.symm.trans h) ph) λ_=>Ha (m:=(if (!t.led && !b.isEmpty)=true then unsupported "set:maker-not-led" else pure ())) ?_
 rw[Ta (by rw[x.ti.led];exact ph)]
 refine Ob ?_
 rw[below_at x.ti i (by rwa [sz])]
 by_cases c:i<b.size
 .rw[Qk c]at q;rw[Qk c,Qk _];refine Ob ?_
  have:dq t (i+1)=t.place[i]+1:=by
   show t.place.getD i 0+1=_;rw[mB,Qk _];rfl
  rwa [this]at q
 rw[(Array.getElem?_eq_none<|by lia)]at q ⊢
 exact Ob q
def bKy{T:Addr} {d:kt} {t:SetTable} {f:ac} {e:Int×Value} {y:Nat} {Q:wn}
  (c:s.heap.get? I=some (lm (.ref T) i a d.size ep)) (x:xc b a ns d ep t s.heap) (j:s.heap.get? T=some {cls:=.type "tuple",data:=.seq (f.map λ(n:Nat)=>rawInt n).toArray})
  (k:f[i]?=some y) (he:d[y]?=some e)
  (q:∀g,g.get? I=some (lm (.ref T) (i+1) a d.size ep)->Heap.SameBut I s.heap g->Q (some e.2) {s with heap:=g}) :
  wpAny (model prog w) A (pyNext<|.ref I) Q E s:=by
 have h:s.TypeIs (.ref I) "set_iterator":=⟨_,c,rfl⟩;refine Ha<|Qt<|vt h uE<|om uE h Oy (Ha<|Ob<|Ha<|OB c rfl ?_)<|uz _;dsimp only;refine Ha<|uw x.obj rfl x.fit ?_;rw[Ta (by simp)]
 refine Ha<|Uo j rfl ?_;dsimp only;have l:((f.map λ(n:Nat)=>rawInt n).toArray)[(i:Int).toNat]?=some (.int y 0):=by
  rw[dn,FJ,cj,k];rfl
 rw[l];refine Ha<|Ha<|Ft x.obj rfl x.fit ?_;dsimp only;rw[Ta (by simp),dn,he]
 refine Ob<|Ha<|Ot c rfl (by simp)<|Ob ⟨e.2,rfl,Ob<|q _ ?_<|tw ..⟩
 rw[Po _ c<|nB<|BB rfl _];rfl
def bOs{T:Addr}{b:Bool} {g:kt} {t:SetTable} {d:ac} {Q:wn} (u:A.handled=none)
  (c:s.heap.get? I=some (lm (.ref T) i a g.size ep)) (x:xc b a ns g ep t s.heap) (m:s.heap.get? T=some {cls:=.type "tuple",data:=.seq (d.map λ(n:Nat)=>rawInt n).toArray})
  (r:d[i]?=none)
  (q:∀f,(∀b o,b≠I->s.heap.get? b=some o->f.get? b=some o)->Q none {s with heap:=f}) :
  wpAny (model prog w) A (pyNext<|.ref I) Q E s:=by
 have j:s.TypeIs (.ref I) "set_iterator":=⟨_,c,rfl⟩;refine Ha<|Qt<|vt j uE<|om uE j Oy (Ha<|Ob<|Ha<|OB c rfl ?_)<|uz _;dsimp only;refine Ha<|uw x.obj rfl x.fit ?_;rw[Ta (by simp)]
 refine Ha<|Uo m rfl ?_;dsimp only;have z:((d.map λ(n:Nat)=>rawInt n).toArray)[(i:Int).toNat]?=none:=by
  rw[dn,FJ,cj,r];rfl
 rw[z];refine Ha<|Ot c rfl (by simp) ?_
 have y:(s.heap.update I (Obj.mapFields (·.setIfInBounds 0 (rawInt 0)))).get? I=some (lm (.int 0 0) i a g.size ep):=by
  rw[Po _ c<|nB<|BB rfl _];rfl
 refine Ha<|Ot y rfl (by simp)<|ZU u λf e k o=>?_
 obtain⟨o,p,v⟩:=o;refine Ha<|IB ⟨o,p,v⟩ isSubtype_stop<|Ob<|q _ λb l h B=>k b l ?_
 rwa [oq _ _<|Lj h,oq _ _<|Lj h]
def gV{o:Obj} (c:s.heap.get? I=some o) (b:o.cls=.type "set_iterator") (q:Q (.ref I) s):wpAny (model prog w) A (pyIter<|.ref I) Q E s:=by
 have a:s.TypeIs (.ref I) "set_iterator":=⟨o,c,b⟩;exact wpAny_pyIter_slot a QS<|om QS a ç ((Ob ⟨_,rfl,"set_iterator",_,a,uE.lookup,q⟩))<|Ņ _
def SS(r:A.handled=none) (p:a≠I) {g:kt} {t:SetTable} (c:li) (vs:cr)
  (l:∀(s:Shared)(i:Nat),i<=vs.length->xc b a ns g ep t s.heap->∀(A:Around)(E:be) (Q:re),Q ((vs[i]?).map λv=>(v,c<|i+1)) s->wpAny (model prog w) A (setNext a (c i) i ep) Q E s) :
  Walks prog w A I [I,a] [I] vs.length (λi v=>vs[i]?=some v) (λi h=>h.get? I=some (lm (.int (c i) 0) i a g.size ep)/\xc b a ns g ep t h) where
 sub:=λb f=>by rw[Od.mp f];exact Gb
 frame:=λ_ _ _ st k=>⟨k I Gb _ st.1,st.2.keep λo d=>k a (Xb _ Gb) o d⟩
 item:=λi s Q E m st q=>by
  have e:=Ze m;refine bKx st.1 st.2 (λA E j h=>l s i (zw m) st.2 A E j<|by rwa [e]) λh' u n=>?_
  have k:∀b o,b≠I->s.heap.get? b=some o->h'.get? b=some o:=λb o f d=>by rwa [n.2 b f]
  exact q _ h' s.toks e ⟨u,st.2.keep λo d=>k a o p d⟩ λb o f d=>k b o (λh=>f<|Od.mpr h) d
 done:=λs Q E st q=>
  bOr r st.1 st.2 (λA E j h=>l s _ (Fc _) st.2 A E j<|by rwa [ZA<|Fc _]) λh' k=>q h' s.toks λb o f d=>k b o (λh=>f<|Od.mpr h) d
 self:=λ_ _ _ _ st q=>gV st.1 rfl q
def bKz(r:A.handled=none){T:Addr}(p:a≠I)(nT:T≠I) {f:kt} {t:SetTable} (g:ac) (lt:∀y∈g,y<f.size) :
  Walks prog w A I [I,a,T] [I] (g.map λy=>(f.getD y (0,.none)).2).length (λi v=>(g.map λy=>(f.getD y (0,.none)).2)[i]?=some v)
   (λi h=>h.get? I=some (lm (.ref T) i a f.size ep)/\xc b a ns f ep t h/\h.get? T=some {cls:=.type "tuple",data:=.seq (g.map λ(n:Nat)=>rawInt n).toArray}) where
 sub:=λb d=>by rw[Od.mp d];exact Gb
 frame:=λ_ _ _ st k=>⟨k I Gb _ st.1,st.2.1.keep λo c=>k a (Xb _ Gb) o c,k T (Xb _<|Xb _ Gb) _ st.2.2⟩
 item:=λi s Q E j st q=>by
  rw[Kd]at j;have e:=Ze j;have l:=Qk<|lt _<|Fi j;refine bKy st.1 st.2.1 st.2.2 e l λh' u m=>?_
  have k:∀b o,b≠I->s.heap.get? b=some o->h'.get? b=some o:=λb o d c=>by rwa [m.2 b d]
  refine q _ h' s.toks ?_ ⟨u,st.2.1.keep λo c=>k a o p c,k T _ nT st.2.2⟩ λb o d c=>k b o (λh=>d<|Od.mpr h) c
  rw[cj,e];simp[l]
 done:=λs Q E st q=>by
  rw[Kd]at st;exact bOs r st.1 st.2.1 st.2.2 (ZA<|Fc _) λh' k=>q h' s.toks λb o d c=>k b o (λh=>d<|Od.mpr h) c
 self:=λ_ _ _ _ st q=>gV st.1 rfl q
def Nums(vs:cr)(ns:jp):Prop:=(vs.map numOf).Perm ns/\∀v∈vs,∃n t,v=.int n t
def xc.Ah{c:kt} {t:SetTable} (x:xc b a ns c ep t h) {l:List (Int×Value)} (p:l.Perm c.toList):Nums (l.map (·.2)) ns:=by
 refine⟨?_,λv hv=>?_⟩
 .rw[Jj];exact(p.map λe=>numOf e.2).trans x.perm
 obtain⟨e,f,rfl⟩:=xf.mp hv;obtain⟨n,d,rfl⟩:=x.nums e<|p.mem_iff.mp f;exact⟨n,d,rfl⟩
def bL0(n:A.handled=none) (x:lR (!Uh w) a ns s.heap) (M:ns.length<scanBound)
  (q:∀(I:Addr)(p:Heap)(d:_)(vs:cr)(C:bv)(St:wS),Nums vs ns->(∀b o,s.heap.get? b=some o->p.get? b=some o)->s.heap.objs.size<=I->(∀f∈C,f=a\/s.heap.objs.size<=f)->
   Walks prog w A I C [I] vs.length (λi v=>vs[i]?=some v) St->St 0 p->Q (.ref I) {s with heap:=p,drawn:=d}) :
  wpAny (model prog w) A (pyIter<|.ref a) Q E s:=by
 obtain⟨es,ep,t,x⟩:=x;have B:s.TypeIs (.ref a) "set":=⟨_,x.obj,rfl⟩;have m:=Dd x.obj;refine wpAny_pyIter_slot B F.slot_set_iter<|om F.slot_set_iter B ϐ (Ha<|Ha<|Ob<|(Ob<|Ha<|Ha<|uw x.obj rfl x.fit<|Ob ?_))<|F.args_set_iter_1 _;refine Ha<|Ha<|Ft x.obj rfl x.fit ?_;refine Ha<|Ha<|Kt<|Ob<|Ob ?_;have j:∀(g:Shared)(first:Value),xc (!Uh w) a ns es ep t g.heap->Q (.ref g.heap.objs.size) {g with heap:=g.heap.push _}->wpAny (model prog w) A.in1 (setEpoch a >>= λe=>newFields "set_iterator" [first,rawInt 0,.ref a,rawInt es.size,rawInt e] >>= λr=>ret r)
   (λj g=>∃r,j=.done (.ret r)/\∃D H,g.TypeIs r D/\typeLookup (.type D) "__next__"=pure (some H)/\Q r g) E g:=λg first y J=>by
  refine Ha<|wpAny_setEpoch_of y.obj rfl y.fit ?_;exact Ha<|Et<|Ob ⟨_,rfl,"set_iterator",_,⟨_,vf _ rfl,rfl⟩,uE.lookup,J⟩
 by_cases l:(!Uh w&&(!t.plain&&decide (es.size>1)))=true
 .refine qm (λ_=>Ha<|bKv es.size (List.range es.size) s _ Vk λys d py=>?_) λh=>absurd l h
  have sz:ys.length<=sizeLine:=EB (by rwa [py.length_eq,Vk,x.size])
  refine Ha<|Et (j _ _ (x.keep λo c=>Zc _ c) (q _ _ d _ _ _ ?_ (λb o c=>Zc _<|Zc _ c) ?_ (λf hf=>?_)
   (bKz n ?_ ?_ ys<|λy K=>Jd.mp<|py.mem_iff.mp K) ⟨vf _ rfl,x.keep λo c=>Zc _<|Zc _ c,Zc _<|vf _ rfl⟩))<|by show (List.map _ ys).toArray.size<=sizeLine;rwa [Ng,Kd]
  .have e:(ys.map λy=>(es.getD y (0,.none)).2)=(ys.map λy=>es.getD y (0,.none)).map (·.2):=by rw[Jj];rfl
   rw[e];refine x.Ah<|(py.map _).trans<|List.Perm.of_eq<|SJ λi=>?_
   by_cases k:i<es.size
   .simp[List.getElem?_map,List.getElem?_range k,getD_eq_getD_getElem?,k]
   simp[k]
  .rw[bh];exact bp _
  .rcases Uc.mp hf with h|h
   .exact .inr (by rw[h,bh];exact bp _)
   rcases Uc.mp h with h|h
   .exact .inl h
   exact .inr<|Rt (Od.mp h).symm
  .rw[bh];exact df<|GB m
  rw[bh];exact df<|Ht _
 refine qm (λh=>absurd h l) λ_=>Ha<|Ob<|j s (.int 0 0) x ?_
 by_cases z:Uh w=true
 .refine q s.heap.objs.size _ s.drawn ((pickOrder (w.params.setOrder a ep) es).toList.map (·.2)) _ _ (x.Ah<|V7 _ es) (λb o c=>Zc _ c) (Fc _) (λf hf=>?_)
   (SS n (df m) (λ_=>0) _ λs i k y A E L h=>è y z 0 i ?_) ⟨vf _ rfl,x.keep λo c=>Zc _ c⟩
  .rcases Uc.mp hf with h|h
   .exact .inr (Rt h.symm)
   exact .inl<|Od.mp h
  rwa [cj,Option.map_map,So]at h
 have u:Uh w=false:=by revert z;cases Uh w<;>intro h<;>first|rfl|exact absurd rfl h
 have G:=by rw[u]at x;exact x
 refine q s.heap.objs.size _ s.drawn (es.toList.map (·.2)) _ _ (x.Ah<|MB _) (λb o c=>Zc _ c) (Fc _) (λf hf=>?_)
  (SS n (df m) (dq t) _ λs i k y A E L h=>ņ y u (by
  rw[u]at l;revert l;cases (!t.plain&&decide (es.size>1)) <;> intro h<;>first|rfl|exact absurd rfl h) i (by simpa using k) ?_) ⟨Heap.get?_push_size _ rfl,G.keep λo c=>Heap.get?_push_of_some _ c⟩
 .rcases Uc.mp hf with h|h
  .exact .inr (Rt h.symm)
  exact .inl<|Od.mp h
 rwa [cj,Option.map_map,So]at h
end
section
variable {A:Around}
def Ň{r:Addr}{Q:v6}(b:s.TypeIs (.ref r) "set")(q:Q false s):wpAny (model prog w) A (Builtin.List.listLengthHint<|.ref r) Q E s:=by
 refine Ha<|ZJ b bKw ?_;generalize a:("set.__len__")=id0;subst a;exact Ha<|IB b sub_set_self<|qm (λh=>absurd h<|by decide) λ_=>qm (λ_=>Ha<|wpAny_typeOf b<|Ob q) λh=>absurd (by decide+kernel) h
def lR.typeIs(x:lR b a ns s.heap):s.TypeIs (.ref a) "set":=let ⟨_,_,_,y⟩:=x;⟨_,y.obj,rfl⟩
def Nums.len{vs:cr} (h:Nums vs ns):vs.length=ns.length:=by
 simpa using h.1.length_eq
def bOt{S:Addr} {R:Result->na} (Q:A.handled=none) (x:lR (!Uh w) a ns s.heap) (U:ns.length<scanBound) (y:s.heap.get? S=some {cls:=.type "list",data:=.seq #[] 0}) (F:S≠a)
  (r:∀(m:Heap)(d:_)(M:Nat)(vs:cr)(c:Nat),Nums vs ns->(∀b o,b≠S->s.heap.get? b=some o->m.get? b=some o)->m.get? S=some {cls:=.type "list",dict:=none,data:=.seq vs.toArray c,slots := #[]}->R (.ok<|.ret res) {s with heap:=m,drawn:=d,toks:=M}) :
  wpAny (model prog w) A.in1 (Builtin.List.listExtendWith (.ref S) (.ref a) res) (λz l=>match z with|.done f=>R (.ok f) l|.again p=>p.quiet=true/\codeAny (model prog w) A p R l) (λe l=>R (.error e) l) s:=by
 refine Ha<|wpAny_typeOf x.typeIs ?_;rw[Ta (by simp[Builtin.List.listSameRef,F])]
 refine Ha<|bL0 (A:=A.in1) Q x U λI m d vs fp St E k O N W st=>Ha<|Hi<|Ň (lR.typeIs<|x.keep λo g=>k a o g) ?_
 have G:S∉fp:=λh=>by
  rcases N S h with e|e
  .exact F e
  exact absurd (Dd y)<|Nat.not_lt.mpr e
 have K:∀(n:Heap)(B:Nat),St 0 n->(∀b o,b≠S->s.heap.get? b=some o->n.get? b=some o)->n.get? S=some {cls:=.type "list",data:=.seq #[] B}->
   codeAny _ A _ R {s with heap:=n,drawn:=d}:=λn B q P t=>by
  refine codeAny_extend_loopS W.toS (EB<|by rwa [E.len]) S G res vs.length 0 _ #[] B rfl (qh _) q t (ItemsOf.nil _) λl oa p H u it=>?_
  have T:oa=vs.toArray:=by
   apply ext';refine SJ λi=>?_
   rw[So];cases J:oa[i]? with
   |some v=>exact(it.2 i v J).symm
   |none=>exact(ZA<|by rw[<-it.1];exact Array.getElem?_eq_none_iff.mp J).symm
  subst T;rw[Moved.eq_with H];refine r l.heap d l.toks vs p E (λb o j g=>H.heap b o (λhm=>?_)<|P b o j g) u
  rcases Uc.mp hm with h|h
  .exact j h
  exact absurd (Dd g) (by rw[Od.mp h];exact Nat.not_lt.mpr O)
 refine qm (λ_=>Ha<|Xt<|Ha<|?_) λ_=>Ob ⟨yw FZ _,K m 0 st (λb o _ g=>k b o g)<|k S _ y⟩
 have D:=k S _ y;have C:=Po (Obj.mapSeq (·.push Value.none)) D rfl;have L:∀b o,b≠S->m.get? b=some o->((m.update S (Obj.mapSeq (·.push Value.none))).update S (Obj.mapSeq (·.pop))).get? b=some o:=λb o j g=>by
  rwa [oq _ _<|Lj j,oq _ _<|Lj j]
 exact Ha<|wpAny_updateSeq D rfl<|wpAny_updateSeq C rfl<|Ob ⟨yw FZ _,K _ _ (W.frame 0 _ _ st λb j o g=>L b o (λe=>G<|e ▸ j) g) (λb o j g=>L b o j<|k b o g)<|Po _ C rfl⟩
def bL1{R:List Value->Shared->Prop}(t:A.handled=none)(x:lR (!Uh w) a ns s.heap)(u:ns.length<scanBound)
  (r:∀(g:Heap)(d:_)(h:Nat)(vs:cr),Nums vs ns->(∀b o,s.heap.get? b=some o->g.get? b=some o)->R vs {s with heap:=g,drawn:=d,toks:=h}) :
  wpAny (model prog w) A (collect<|.ref a) R E s:=by
 refine Ha<|wpAny_runValue<|Mt entry_proto_collect'<|Ha<|Et<|Ob ⟨yw PySem.F.plain_list_iadd _,Mt entry_list_iadd' ?_⟩;have p:=let ⟨_,_,_,y⟩:=x;Dd y.obj;have i:∀(g:Heap)(d:_)(h:Nat)(vs:cr)(c:Nat),Nums vs ns->(∀b o,s.heap.get? b=some o->g.get? b=some o)->g.get? s.heap.objs.size=some {cls:=.type "list",dict:=none,data:=.seq vs.toArray c,slots := #[]}->
   wpAny (model prog w) A (load s.heap.objs.size >>= λo=>match o.data with|.seq xs _=>pure xs.toList|_=>unsupported "internal:collect") R E {s with heap:=g,drawn:=d,toks:=h}:=λg d h vs c j k o=>by
  exact Ha<|wpAny_load o<|Ob<|r g d h vs j k
 refine Wk (bOt (s:={s with heap:=s.heap.push {cls:=.type "list",data:=.seq ([]).toArray} }) (prog:=prog)
  (R:=λq m=>q=.ok _/\∃(g:Heap)(d:_)(h:Nat)(vs:cr)(c:Nat),m={s with heap:=g,drawn:=d,toks:=h}/\Nums vs ns/\(∀b o,s.heap.get? b=some o->g.get? b=some o)/\g.get? s.heap.objs.size=some {cls:=.type "list",dict:=none,data:=.seq vs.toArray c,slots := #[]})
  t (x.keep λo l=>Zc _ l) u (vf _ rfl) (QB p)
  λg d h vs c j k o=>⟨rfl,g,d,h,vs,c,rfl,j,λb n l=>k b n (df<|Dd l)<|Zc _ l,o⟩) (λfin m y=>?_) λe m y=>nomatch y.1
 cases fin with
 |done f=>
  obtain⟨e,g,d,h,vs,c,rfl,j,k,o⟩:=y;cases e;exact i g d h vs c j k o
 |again B=>
  refine⟨y.1,uq y.2 λq v z=>?_⟩
  obtain⟨rfl,g,d,h,vs,c,rfl,j,k,o⟩:=z;exact i g d h vs c j k o
theorem US:∀{vs:cr},(∀v∈vs,∃n t,v=Value.int n t)->IntsAre vs (vs.map Pu.numOf)
 |[],_=>IntsAre.nil
 |v::vs,h=>by
  obtain⟨n,t,rfl⟩:=h v Gb;exact IntsAre.cons _ _<|US λv a=>h v<|Xb _ a
theorem é(i:A.handled=none)(x:lR (!Uh w) a ns s.heap)(j:ns.length<64)
  (q:∀(D:Addr)(e:Heap)(d:_)(f:Nat)(out:wv)(fi:jp)(c:Nat),IntsAre out.toList fi->fi.Perm ns->fi.Pairwise (· <= ·)->(∀b o,s.heap.get? b=some o->e.get? b=some o)->(∀b o,s.heap.get? b=some o->b<D)->e.get? D=some (seqObj "list" out c)->Q (.ref D) {s with heap:=e,drawn:=d,toks:=f}) :
  wpAny (model prog w) A (call (.builtin "sorted") [.ref a]) Q E s:=by
 refine Calls.call_function_entry kind_sorted plain_sorted entry_sorted (args_sorted1 _)<|Ha<|Ob<|Ha<|bL1 i x (by unfold scanBound;lia) λe d f vs g k=>?_
 have h:vs.length<64:=by rwa [g.len]
 refine Ha<|wpAny_newList ?_<|by rw[Xo];lia
 have o:(e.push _).get? e.objs.size=some (seqObj "list" vs.toArray 0):=vf _ rfl;refine Ha<|Hi<|om slot_list_sort ⟨_,o,rfl⟩ entry_list_sort (list_sort_tree o (US g.2) h λout fi e1 e2 e3=>⟨_,rfl,?_⟩)<|args_list_sort _
 obtain⟨c,oc⟩:=sortedHeap_at o;refine Ob ⟨_,rfl,q _ _ d f out fi c e1 (e2.trans g.1) e3 (λb ob hb=>?_) (λb ob hb=>Dd<|k b ob hb) oc⟩
 have l:=Dd<|k b ob hb;rw[sortedHeap_old (df l) (by rw[bh];exact GB l)]
 exact Zc _<|k b ob hb
end
end Pu
namespace Pu
open PySem PySem.Spec PyProof.Rows L2
theorem kR(ns:jp):∀k,k<=ns.length->nq (λi=>ns.getD i 0) k=fm (ns.take k)
 |0,_=>rfl
 |k+1,h=>by
  have e:ns.take (k+1)=ns.take k++[ns.getD k 0]:=by
   rw[List.take_add_one,ng,Ze<|(by lia)]
   rfl
  rw[e];show Sm _ _=_;rw[kR ns k (by lia)]
  unfold fm;rw[List.foldl_append];rfl
def WW{l m:jp}(h:m.Perm l)(c:m.Pairwise (· <= ·)):m=nh l:=List.Perm.eq_of_pairwise (λa b _ _ e d=>Int.le_antisymm e d) c (Ċ l)<|h.trans (uJ l).symm
theorem BG:∀{us:cr}{ns:jp},IntsAre us ns->Ia (ns.map V.int) us
 |_,_,.nil=>.nil
 |_,_,.cons n t h=>.cons ⟨t,rfl⟩<|BG h
def VS(x:rZ P w H h a o):∃u,h.get? a=some u:=by
 cases o with
 |lst xs=>obtain⟨_,_,_,_,e⟩:=x;exact⟨_,e⟩
 |tup xs=>obtain⟨_,_,_,o,e,_⟩:=x;exact⟨_,e⟩
 |dK b=>obtain⟨_,_,_,_,o,_,_,e,_⟩:=x;exact⟨_,e⟩
 |dT b=>obtain⟨_,_,_,_,o,_,_,e,_⟩:=x;exact⟨_,e⟩
 |set S n=>obtain⟨o,_,_,_,e,_⟩:=x;exact⟨_,e⟩
 |ins C i fs=>obtain⟨_,_,_,e,_⟩:=x;exact⟨_,e⟩
 |own y=>obtain⟨_,e⟩:=x;exact⟨_,e⟩
 |xd fs=>obtain⟨_,⟨_,_,_,e,_⟩,_⟩:=x;exact⟨_,e⟩
 |uk lo g=>obtain⟨_,_,_,e⟩:=x;exact⟨_,e⟩
 |pk d u=>obtain⟨e,_⟩:=x;exact⟨_,e⟩
 |Kp ps=>exact⟨_,(x)⟩
 |met f y=>exact⟨_,(x)⟩
 |ext c=>obtain⟨_,⟨_,e⟩,_⟩:=x;exact⟨_,e⟩
section
variable {a:Expr}
theorem ê(i:X.calm=true):pH X (.type "set") (λxs H Q=>∃p ns,xs=[.ref p]/\fe X.K H p (ns.map V.int)/\ns.length<=4000/\∀l,H l=none->Q (.ref l) (Nb H l<|.ext<|lR (!Uh X.w) l<|fm ns)):=by
 intro aa s σ H xs m Q I r h;obtain⟨p,ns,rfl,f,v,q⟩:=h;obtain⟨u,rfl,e⟩:=vals1 r;cases e;obtain⟨j,d,pl,o⟩:=I.list f;have a:=d.length;rw[Kd]at a;refine bKu (I.ok.hd i) pl.isList (by simpa using kG d) (by rw[List.size_toArray,<-a];show ns.length+1<4096;lia) λh' n b g=>?_
 rw[show j.toArray.size=ns.length by rw[Ng,a],kR ns _<|Fc _,List.take_length]at b
 obtain⟨es,ep,t,c⟩:=id b;exact⟨.ref s.heap.objs.size,_,I.laid (o:=.ext _) g (Fc _) ⟨b,⟨_,c.obj⟩,λy w x k=>x.keep k⟩,rfl,q _<|I.Bb.fresh<|Fc _⟩
theorem ë(C:X.calm=true):pH X (.builtin "sorted") (λxs H Q=>∃p ns,xs=[.ref p]/\H p=some (.ext<|lR (!Uh X.w) p ns)/\ns.length<64/\∀l,H l=none->Q (.ref l) (Nb H l<|.lst<|(nh ns).map V.int)):=by
 intro aa s σ H xs G Q I r h;obtain⟨p,ns,rfl,x,A,q⟩:=h;obtain⟨u,rfl,t⟩:=vals1 r;cases t;obtain⟨E,_,_⟩:=I.Bb _ _ x;refine é (I.ok.hd C) E A λD h' d J f K c g y w a j B=>?_
 obtain rfl:=WW y w;have k:H D=none:=by
  cases F:H D with
  |none=>rfl
  |some o=>
   obtain⟨u,e⟩:=VS<|I.Bb D o F;exact absurd (j D u e)<|Lh _
 have sm:bK H (Nb H D<|.lst<|(nh ns).map V.int):=cL k;refine⟨.ref D,Nb H D _,I.step (ch:=[]) (λ_ z=>nomatch z) (λb o _ _ _ e _=>a b o e) (λb o _ _ _ e _=>⟨o.slots,a b o e⟩) (λb o _ e n=>by rwa [bR<|df<|j b o e]) (λb o _ e=>⟨o,a b o e⟩) (λb xs e=>sm _ _ e) (λb o u e=>sm _ _ e) (λb ps e=>⟨#[],by rw[sm _ _ e];simp⟩) (λm ⟨o,es,ep,g,r⟩=>⟨o,es,ep,a _ o g,r⟩) (λb o e=>?_) I.bare,rfl,q _ k⟩
 by_cases i:b=D
 .subst i;rw[cG]at e;cases e;exact⟨by rw[Kd,((uJ ns).length_eq),Xo];lia,f.toList,c,BG g,by simpa using B⟩
 rw[bR i]at e;exact(I.Bb b _ e).Sf (λb v _ q=>a b v q) (λb q=>sm _ _ q) λb xs q=>sm _ _ q
theorem CG{K:Frag}{H:Hp}:∀(l:jp),bJ K H (l.map D.int) (l.map V.int)
 |[]=>.nil
 |_::l=>.cons (bY.mpr rfl)<|CG l
def ň(w:X.mg "sorted"=none)(b:X.mg "set"=none)(k:X.calm=true)(D:PE X a (tP X.K B f))(z:Gl X "sorted":=by rfl)(G:Gl X "set":=by rfl)(u:starEach [.Call (.Name "set" p1) [a] [] p2] X.env=(false,eval (.Call (.Name "set" p1) [a] [] p2) X.env)::starEach [] X.env:=by rfl)
  (s:Lf a [] X.env:=by rfl):PE X (.Call (.Name "sorted" p0) [.Call (.Name "set" p1) [a] [] p2] [] pos) (tI X.K B<|e1 KG f):=by
 refine cQ (qW (ë k) z w HZ<|dD (oy (ê k) G b PyProof.Rows.boot_set (dD D iZ s) (he:=s)) iZ u) ?_
 rintro σ H Q ⟨A,st,d,g,C,q⟩;obtain⟨x,t,r⟩:=R.ja C;cases x<;>first|(cases r)|skip
 obtain⟨l,y,F⟩:=R.ja r;obtain⟨c,E⟩:=aV F;cases E;refine⟨A,st,_,g,t,λv H1 s1 r1=>?_⟩
 obtain⟨p,vs,e,o,h⟩:=r1.lst;rw[zV y]at h;rw[CF h]at o;exact⟨p,l,by rw[e],o,c.1,λn j=>⟨n,_,rfl,cG,c.2,λm i=>q _ _ (s1.trans<|(cL j).trans<|cL i)<|jN (g.own.mono<|s1.trans<|cL j) i<|CG _⟩⟩
end
section
variable {iter c:Expr} {t:Tg} {u:Ex}
def WS{is:ac}(y:L2.PI X tg iter (vk X.K B it))(z:∀(B:bv)(C:Addr)(e:Shared)(b:Hp)(a:bv),PG (fL X scope C e b a) tg<|tG X.K B t)
  (o:∀(B:bv)(C:Addr)(e:Shared)(b:Hp)(a:bv),PT (fL X scope C e b a) c<|tT X.K B u)
  (he:∀(B:bv)(C:Addr)(e:Shared)(b:Hp)(a:bv),PE (fL X scope C e b a) elt<|tI X.K B f) (E:X.calm=true:=by rfl) (g:Eo is t:=by exact Ms) (S:Lc X scope is:=by exact .of rfl) (v:∀x,foldedSetIterable iter X.env x=pure x:=by intro _;rfl) :
  PE X (.ListComp elt [⟨tg,iter,[c],0⟩] scope pos) (tF X.K B<|cT is t it u f):=by
 intro aa s σ H Q I h;obtain⟨A,st,d,i,D,q⟩:=h;obtain⟨xs,n,L⟩:=R.ja D;obtain⟨w,K⟩:=aV L;obtain⟨ys,l,J⟩:=R.ja K;cases J;refine wG (te:=yr X.K f) (rest:=λenv it p=>isTrue c env (eval c env) >>= λok=>if ok=true then (eval elt env >>= λx=>call _ [p,x] >>= λ_=>again<|.compLoop _ 0 it p env) else again (.compLoop _ 0 it p env)) S E y (λC e b a=>jt λB=>z B C e b a) (λ_ _ _=>tL)
  (λC e b a it p s Q h=>hJ h) (λC e b a it p τ H s aa vs N Q I h q=>LI rfl (ft λB=>he B C e b a) (tJ λB=>o B C e b a) τ H s aa vs N Q I h (λ_ Q V m h=>Gr Q V m h) q) v I
  (Qs g (λτ H Q h=>h) i n w l λp vs H1 H' s1 hp s2 hv r=>?_) λC p H5 s5 k s3 H3 a τ F I3 U Z Y j=>⟨k,Y,λh' W=>⟨.ref p,H5,xv I3 U F Z W,rfl,j⟩⟩
 obtain⟨G,T,P,O,M⟩:=QY s1 hp s2 hv r;have:=q p vs G T P M
 rwa [O]at this
end
section
variable {o x:Expr} {h:Ex}
def YW{K:Frag} {t:Bool} {f:dL} (d:oV K A H (.Pe t f ds) v):∃a,v=.ref a/\fy H a:=by
 rcases d with h|⟨a,i,o,j,vs,e,e2,h,g,r⟩
 .obtain⟨a,vs,e,q,r⟩:=vY.mp h;rcases q with ⟨_,c,b,_,_⟩|⟨_,c,b,_,_⟩
  .exact⟨a,e,.inl ⟨c,.inl<|bN _ _ _ _ b⟩⟩
  exact⟨a,e,.inr ⟨c,.inl<|bN _ _ _ _ b⟩⟩
 cases i<;>cases e;rcases g with ⟨_,c,b,_⟩|⟨_,c,b,_⟩
 .subst b;exact⟨a,e2,.inl ⟨c,.inl h⟩⟩
 subst b;exact⟨a,e2,.inr ⟨c,.inl h⟩⟩
def nV{K:Frag} {k z r:D} {u y:V} (j:v=.ref a) (i:oV K A H d v) (h:Sb K (hide A H) k u) (q:Sb K (hide A H) z y) (c:Ds d k z=.ok r):∃b,Ih H a u b/\Sb K (hide A H) r (b.getD y):=by
 unfold Ds at c;split at c
 .obtain⟨n,e⟩:=aV c;obtain⟨s,b,f,g,l,o⟩:=iz i (h.mono<|bN _ _) n;rw[j]at f;cases f;refine⟨b,g,?_⟩;split at e
  .obtain⟨w,rfl,p⟩:=o r<|bq e;exact p
  rename_i m;cases e;have:b=none:=by
   cases b with
   |none=>rfl
   |some w=>exact absurd (l.symm.trans rfl) m
  rwa [this]
 cases c
def XS{k z r:D}(a:Ds d k z=.ok r):∃t b vs,d=.Pe t b vs:=by
 unfold Ds at a;split at a
 .exact⟨_,_,_,rfl⟩
 cases a
theorem bOu(E:X.A.units+64<cLine)(p:PE X o (tP X.K B f))(he:PE X e (tI X.K B g))(m:Vg o "get" X.env:=by rfl)
  (l:Uj Oa [e] X.env:=by rfl)
  (j:Oh Va Oa:=by rfl) (i:backTo Oa (starEach [e] X.env)=[(false,eval e X.env)]:=by rfl):PE X (.Call (.Attribute o "get" Va) [e] [] Oa) (tI X.K B<|Zs f g<|eC .Tb):=by
 refine cQ (Ć (by lia) p he ⟨m,l,j,i⟩) ?_
 rintro σ H Q ⟨A,st,r,b,n,q⟩;obtain⟨d,w,z⟩:=R.ja n;obtain⟨k,s,y⟩:=R.ja z;have c:=y;refine⟨A,st,d,b,w,λv H1 s1 rx=>?_⟩
 obtain⟨t,ks,vs,rfl⟩:=XS c;obtain⟨a,rfl,x⟩:=YW rx;refine⟨a,rfl,x,A,st,k,b.mono s1,s,λu H2 s2 ry=>?_⟩
 obtain⟨h,D,C⟩:=nV rfl (rx.mono s2) ry (yM.mpr rfl) c;exact⟨h,D,q _ H2 (s1.trans s2) C⟩
theorem bOv(L:X.A.units+64<cLine)(C:PE X o (tP X.K B f))(he:PE X e (tI X.K B g))(s:PE X x (tI X.K B h))(n:Vg o "get" X.env:=by rfl)
  (m:Uj Oa [e,x] X.env:=by rfl)
  (l:Oh Va Oa:=by rfl) (j:backTo Oa (starEach [e,x] X.env)=[(false,eval e X.env),(false,eval x X.env)]:=by rfl):PE X (.Call (.Attribute o "get" Va) [e,x] [] Oa) (tI X.K B<|Zs f g h):=by
 refine cQ (ć (by lia) C he s ⟨n,m,l,j⟩) ?_
 rintro σ H Q ⟨A,st,r,b,w,q⟩;obtain⟨d,E,I⟩:=R.ja w;obtain⟨k,D,G⟩:=R.ja I;obtain⟨z,p,c⟩:=R.ja G;refine⟨A,st,d,b,E,λv H1 s1 rx=>?_⟩
 obtain⟨t,ks,vs,rfl⟩:=XS c;obtain⟨a,rfl,F⟩:=YW rx;refine⟨a,rfl,F,A,st,k,b.mono s1,D,λu M s2 ry=>⟨A,st,z,b.mono<|s1.trans s2,p,λy H3 s3 rz=>?_⟩⟩
 obtain⟨i,K,J⟩:=nV rfl (rx.mono<|s2.trans s3) (ry.mono<|bK.hide s3) rz c;exact⟨i,K,q _ H3 (s1.trans<|s2.trans s3) J⟩
end
section
variable {a b:Expr} {r:Ee}
def bOw(k:PA X es (tA X.K B r))(i:PE X b (tP X.K B g)):PE X (.BinOp (.List es p1) .Mult b pos) (tI X.K B<|EX r g):=by
 refine cQ (gX bMz (NH k) i) ?_
 rintro σ H Q ⟨A,st,d,c,h,q⟩;obtain⟨xs,f,s⟩:=R.ja h;obtain⟨y,e,o⟩:=R.ja s;obtain⟨j,rfl,m⟩:=Ur o;obtain⟨⟨u,t,x,w⟩,l⟩:=aV m;cases l;refine⟨A,st,xs,c,f,λvs H1 s1 r1=>⟨by rw[r1.length];exact lim u,λp hp=>?_⟩⟩
 have a:=s1.trans<|cL (o:=.lst vs) hp;refine⟨A,st,_,c.mono a,e,λv z s3 r2=>?_⟩
 refine⟨p,j,vs,rfl,r2.int,s3 _ _ cG,by omega,by omega,by rw[r1.length];exact lim t,λn hn=>?_⟩
 exact q _ _ (a.trans<|s3.trans<|cL hn)<|jN (c.own.mono<|a.trans s3) hn<|((r1.mono<|bK.hide<|cL hp).mono<|bK.hide s3).rep j.toNat
end
structure Bk(K:Frag)(C:Addr):Prop where
 makes:makesIn K C=true
 init:findIn K (.ref C) "__init__"=some (some<|.builtin "object.__init__")
 kp:keepIn K (.ref C)=true
section
variable {a b:Expr}
def jY(c:PE X e (tI X.K B f))(b:PE X e (tI X.K B g)):PE X e (tI X.K B<|gW f g):=by
 intro aa s σ H Q I h;obtain⟨A,st,d,a,i,q⟩:=h;rcases bNf i with h|h
 .exact c aa s σ H Q I ⟨A,st,d,a,h,q⟩
 exact b aa s σ H Q I ⟨A,st,d,a,h,q⟩
def zE{c:String} (n:Bk X.K C) (r:ClsAt X.K c C) (l:X.mg (ofString c)=some (.ref C)) (m:Gl X (ofString c):=by rfl) (j:Bf (ofString c):=by decide) :
  PE X (.Call (.Name (ofString c) p0) [] [] pos) (tI X.K B<|Gk c):=by
 intro aa s σ H Q I h;obtain⟨A,st,d,i,p,q⟩:=h;cases p;refine yt<|Tu I m l ?_ j;refine LJ I.ug n.kp ?_
 have Y:=UJ (M:=model X.prog X.w) I.ug n.makes;refine wpAny_call<|ϱ I.ug n.makes n.init (λa=>PySem.W.Looks.of_pure<|PySem.W.oi_bind a) ?_
 have k:((s.heap.push emptyDict).push<|instObj C s.heap.objs.size).get? (s.heap.objs.size+1)=some (instObj C s.heap.objs.size):=by
  have:=vf (s.heap.push emptyDict) (o:=instObj C s.heap.objs.size) rfl
  rwa [bh]at this
 have g:Looks (model X.prog X.w) ((s.heap.push emptyDict).push<|instObj C s.heap.objs.size) (typeOf<|.ref<|s.heap.objs.size+1) (.ref C):=(PySem.W.Looks.ld k).andThen .now;have f:Looks (model X.prog X.w) ((s.heap.push emptyDict).push<|instObj C s.heap.objs.size) (isInstance (.ref<|s.heap.objs.size+1)<|.type "object") true:=g.andThen<|Y.top.keeps λb o z=>Zc _<|Zc _ z
 refine codeAny_call_builtin PySem.W.oi_plain PySem.W.entry_oi<|@PySem.W.check_slot (model X.prog X.w) _ _ _ "object.__init__" "object" "__init__" (.ref<|s.heap.objs.size+1) [] [] _ PySem.W.oi_kind PySem.W.oi_split f (PySem.W.oi_args<|.ref<|s.heap.objs.size+1) ?_;rw[PySem.W.oi_run];refine Ob<|And.intro rfl ?_;have e:H (s.heap.objs.size+1)=none:=I.Bb.fresh<|bp _;have t:H s.heap.objs.size=none:=I.Bb.fresh<|Fc _;refine⟨V.ref<|s.heap.objs.size+1,_,Aa.made (C:=C) I,rfl,q _ _ (λb u z=>?_) ?_⟩
 .rw[bR<|bI z e,bR<|bI z t];exact z
 .refine dz.mpr ⟨_,C,s.heap.objs.size,[],[],rfl,?_,r.ns,rfl,rfl,.nil⟩;rw[cU<|i.own.free e];exact cG
def ŉ{k:Nat} (h:Ba X.prog X.w X.K X.mg X.base x k 0 p) (g:Ub j X.A) (i:k<=j) (l:Gl X x:=by rfl) (e:Bf x:=by decide):PE X (.Call (.Name x p0) [] [] pos) (tI X.K B<|aM p aK):=by
 obtain⟨fa,fd,ps,F,m,f,bd⟩:=h.ex;refine cQ (ÿ F (g.mono i) l m f bd .nil gq e) ?_
 rintro σ H Q ⟨A,st,d,b,n,q⟩;exact⟨A++B,[],d,b.own,.nil,rfl,n,λw H' a c=>q w H' a c⟩
def bOx(i j:Nat){y g:Str}{k K:Nat} {C:Pos} (h:Ba X.prog X.w X.K X.mg X.base g k 2 p) (t:Ub K X.A) (hk:k<=K) (he:PE X e (tI X.K B f)) (hN:X.N.Nodup) (hi:X.N[i]?=some x:=by rfl) (hj:X.N[j]?=some y:=by rfl)
  (hx:Loc X.env.scope x:=by exact Yn rfl) (hv:Rh X.env.scope y:=by exact Wj rfl) (hd:Bf y:=by decide) (bf:Vj y:=by decide)
  (hg:Gl X g:=by rfl) (Q:Bf g:=by decide) (Y:Vg (.Name y p1) "pop" X.env:=by rfl) (U:Oh Va Oa:=by rfl)
  (Nf:starEach [.Call (.Attribute (.Name y p1) "pop" Va) [] [] Oa] X.env=(false,eval (.Call (.Attribute (.Name y p1) "pop" Va) [] [] Oa) X.env)::starEach [] X.env:=by rfl)
  (a:starEach [e,.Call (.Attribute (.Name y p1) "pop" Va) [] [] Oa] X.env=(false,eval e X.env)::starEach [.Call (.Attribute (.Name y p1) "pop" Va) [] [] Oa] X.env:=by rfl)
  (Af:(backTo C<|starEach [.Call (.Attribute (.Name y p1) "pop" Va) [] [] Oa] X.env).any (·.1)=false:=by rfl)
  (hs:qj (.Call (.Name g p0) [e,.Call (.Attribute (.Name y p1) "pop" Va) [] [] Oa] [] C) (some<|.Name x pos') pos.line X.env:=by rfl)
  (hf:sk X x:=by first|exact .inl rfl|exact .inr rfl|assumption) :
  PS X (.Assign [.Name x pos'] (.Call (.Name g p0) [e,.Call (.Attribute (.Name y p1) "pop" Va) [] [] Oa] [] C) pos) (tS X.K B<|eA i j p f):=by
 obtain⟨fa,fd,ps,F,m,V,bd⟩:=h.ex;refine lQ (yv hN hi hx (IG F (t.mono hk) hg m V bd .nil gq (dD he (dD (yz VA PySem.F.slot_list_pop PySem.F.type_list_pop bMy (uT hj hv hd bf) Y U) iZ Nf) a) Q a Af) hs hf) ?_
 rintro Dn σ H ⟨A,st,r,n,t,S⟩;obtain⟨D,Ll,b⟩:=R.ja t;split at b
 .rename_i ys e1;split at b
  .rename_i d M;obtain⟨c,h4⟩:=aV b;obtain⟨N,Z,h5⟩:=R.ja h4;cases h5;obtain⟨l,o,vs,e2,T,L,W,q,u⟩:=n.lst j _ ys e1;subst W;refine⟨A,st,D,n,Ll,λv H' s rv=>?_⟩
   have I:=q.length;have J:=q.mono<|bK.hide s;rw[CZ]at M;obtain⟨w,hw,Wg⟩:=J.get M;obtain⟨E,O⟩:=(n.mono s).write e1 e2 (k1:=.l) (ds:=ys.dropLast) (Jg:=vs.dropLast) rfl (by
    rw[G0,G0,I];exact J.take _)
   refine⟨.ref l,e2,.inl ⟨rfl,vs,fe.of<|s _ _ L⟩,l,vs,w,rfl,rfl,s _ _ L,by rwa [I],(⟨A++B,[D,d],N,E.own,?_,rfl,Z,λz H3 G P=>S A _ H3 ((Le.of s).trans<|O.trans<|Le.of G)<|(E.mono G).set i P⟩)⟩
   rw[(Ou<|Kh _ T)];exact .cons rv<|.cons Wg .nil
  cases b
 cases b
def bOy(k:PE X a (tP X.K B f))(h:PE X b (tP X.K B g)):PE X (.BinOp a .BitXor b pos) (tI X.K B<|e2 fw f g):=
 Lk bMo (yN (g:=λi j=>.int<|Builtin.bitXor i j) (λ_ _ _=>bY.mpr rfl) λx y d e=>by
  unfold fw at e;split at e
  .obtain⟨c,e⟩:=aV e;cases e;exact⟨_,_,rfl,rfl,by unfold Builtin.bitXor;rw[MS c.1 c.2,bitAnd_nn c.1 c.2]⟩
  .cases e) k h
end
section
variable {A:Around}
def ϑ{p:Addr}{vs:cr} (f:s.heap.IsList p vs.toArray) (g:IntsAre vs ns) (h:vs.length<64)
  (q:∀(D:Addr)(h':Heap)(out:wv)(fi:jp)(c:Nat),IntsAre out.toList fi->fi.Perm ns->fi.Pairwise (· <= ·)->(∀b o,s.heap.get? b=some o->h'.get? b=some o)->(∀b o,s.heap.get? b=some o->b<D)->h'.get? D=some (seqObj "list" out c)->Q (.ref D) {s with heap:=h'}) :
  wpAny (model prog w) A (call (.builtin "sorted") [.ref p]) Q E s:=by
 have d:vs.length<=sizeLine:=by rw[Xo];omega
 refine Calls.call_function_entry kind_sorted plain_sorted entry_sorted (args_sorted1 _) ?_
 unfold Builtin.«sorted»;refine Ha (m:=checkCount "sorted" 1 1 _)<|Ob<|Ha<|collect_list f ?_ d;have a:∀b o,s.heap.get? b=some o->((s.heap.push<|seqObj "list" #[] 0).update s.heap.objs.size (Obj.mapSeq (· ++ vs.toArray))).get? b=some o:=λb o e=>by
  rw[Heap.get?_update_ne _ _ _ _<|df<|Dd e];exact Zc _ e
 generalize (s.heap.push<|seqObj "list" #[] 0).update s.heap.objs.size (Obj.mapSeq (· ++ vs.toArray))=h' at a;refine Ha<|wpAny_newList ?_ d;have o:(h'.push<|seqObj "list" vs.toArray 0).get? h'.objs.size=some (seqObj "list" vs.toArray 0):=vf _ rfl;refine Ha<|Hi<|om slot_list_sort ⟨_,o,rfl⟩ entry_list_sort (list_sort_tree o g h λout fi e1 e2 e3=>⟨_,rfl,?_⟩)<|args_list_sort _
 obtain⟨c,oc⟩:=sortedHeap_at (out:=out) o;refine Ob ⟨_,rfl,q _ _ out fi c e1 e2 e3 (λb ob hb=>?_) (λb ob hb=>Dd<|a b ob hb) oc⟩
 have l:=Dd<|a b ob hb;rw[sortedHeap_old (df l) (by rw[bh];exact GB l)]
 exact Zc _<|a b ob hb
end
section
variable {a:Expr}
def ì:pH X (.builtin "sorted") (λxs H Q=>∃(p:Addr)(ns:jp),xs=[.ref p]/\fe X.K H p (ns.map V.int)/\ns.length<64/\∀l,H l=none->Q (.ref l) (Nb H l<|.lst<|(nh ns).map V.int)):=by
 intro aa s σ H xs G Q I r h;obtain⟨p,ns,rfl,B,J,q⟩:=h;obtain⟨u,rfl,t⟩:=vals1 r;cases t;obtain⟨F,g,pl,_⟩:=I.list B;have A:F.length=ns.length:=by rw[<-g.length,Kd]
 refine ϑ pl.isList (kG g) (by omega) λD h' d K c f y x a j C=>?_
 obtain rfl:=WW y x;have k:H D=none:=by
  cases E:H D with
  |none=>rfl
  |some o=>
   obtain⟨u,e⟩:=VS<|I.Bb D o E;exact absurd (j D u e)<|Lh _
 have sm:bK H (Nb H D<|.lst<|(nh ns).map V.int):=cL k;have w:(nh ns).length=ns.length:=(uJ ns).length_eq;refine⟨.ref D,Nb H D<|.lst<|(nh ns).map V.int,I.step (g':=s.gens) (t':=s.toks) (ch:=[]) (λ_ z=>nomatch z) (λb o _ _ _ e _=>a b o e) (λb o _ _ _ e _=>⟨o.slots,a b o e⟩) (λb o _ e n=>by rw[bR<|df<|j b o e];exact n) (λb o _ e=>⟨o,a b o e⟩) (λb xs e=>sm _ _ e) (λb o u e=>sm _ _ e) (λb ps e=>⟨#[],by rw[sm _ _ e];simp⟩) (λm ⟨o,es,ep,f,r⟩=>⟨o,es,ep,a _ o f,r⟩) (λb o e=>?_) I.bare,rfl,q _ k⟩
 by_cases i:b=D
 .subst i;rw[cG]at e;cases e;exact⟨by rw[Kd,w,Xo];omega,d.toList,c,BG f,by simpa using C⟩
 .rw[bR i]at e;exact(I.Bb b _ e).Sf (λb v _ q=>a b v q) (λb q=>sm _ _ q) λb xs q=>sm _ _ q
def bOz(o:X.mg "sorted"=none)(u:PE X a (tP X.K B f))(s:Gl X "sorted":=by rfl)(h:Lf a [] X.env:=by rfl):PE X (.Call (.Name "sorted" p0) [a] [] pos) (tI X.K B<|e1 FI f):=by
 refine cQ (qW ì s o HZ (dD u iZ h) (he:=h)) ?_
 rintro σ H Q ⟨A,st,d,b,t,q⟩;obtain⟨x,m,k⟩:=R.ja t;cases x<;>first|(cases k;done)|skip
 rename_i xs;obtain⟨l,r,y⟩:=R.ja k;obtain⟨c,w⟩:=aV y;cases w;refine⟨A,st,_,b,m,λv H1 s1 r1=>?_⟩
 obtain⟨p,vs,e,j,g⟩:=r1.lst;rw[zV r]at g;rw[CF g]at j;exact⟨p,l,by rw[e],j,c,λn i=>q _ _ (s1.trans<|cL i)<|jN (b.own.mono s1) i<|CG _⟩
end
def Oo(b a:List (Hc×V)):List (Hc×V):=a.foldl (λoa p=>Zd oa p.1 p.2) b
theorem Ŋ(a:List (Hc×V)):∀b:List (Hc×V),(Oo b a).length<=b.length+a.length:=by
 induction a with
 |nil=>intro b;exact Fc _
 |cons p a c=>
  intro b;have e:=c<|Zd b p.1 p.2;have d:=uI b p.1 p.2;show (Oo _ a).length<=_;rw[ze];lia
def KV.mrg(c:KV more us):∀{a:List (Hc×V)} {vs:List (Hc×Value)},KV a vs->KV (Oo a more) (merged vs us):=by
 induction c with
 |nil=>exact λr=>r
 |@cons p q more us h _ d=>
  intro a vs r;obtain⟨e,b⟩:=h;have z:=d<|KV.put r p.1 b;show KV _ (merged (stored vs q.1 q.2) us)
  rwa [<-e]
section
variable {σ:L2.St} {b:Addr} {A:Around} {ka more:List (Hc×V)} {k:Hc} {r:Value}
def bRq(I:Aa X aa σ H s)(e:H a=some (.dK ka))(e2:H b=some (.dK more))(k:a≠b)(n:ka.length+more.length<=sizeLine)(h:∀f,Aa X aa σ (Nb H a<|.dK<|Oo ka more) f->Q .none f):wpAny (model X.prog X.w) A (call (.builtin "dict.update") [.ref a,.ref b]) Q E s:=by
 obtain⟨z,o,vs,c,g⟩:=Fm I.Bb e;obtain⟨t,d,p,i,r⟩:=Fm I.Bb e2;exact Vo IZ g.typeIs PySem.F.entry_dict_update (PySem.F.args_dict_update_2 _ _) (meets_dict_update _ a b k d) ⟨vs,p,g,r,by rwa [<-c.length,<-i.length],λh' j _ l=>h _<|Vu I (by rw[e];exact True.intro) l (let ⟨q,_,_,m,_⟩:=j;⟨q,m⟩)<|zz (ye (Ŋ more ka) n) o (KV.mrg i c) j⟩
theorem bP0(I:Aa X aa σ H s)(e:H a=some (.dK ka))(j:RelV (kV k) u)(l:RelV v r)(t:ka.length+1<=sizeLine)
  (o:∀d,yU ka k=some d->∀g f,RelV d g->Aa X aa σ H f->Q g f) (n:yU ka k=none->∀f,Aa X aa σ (Nb H a<|.dK<|Zd ka k v) f->Q r f):wpAny (model X.prog X.w) A (call (.builtin "dict.setdefault") [.ref a,u,r]) Q E s:=by
 obtain⟨z,h,vs,b,i⟩:=Fm I.Bb e;refine Vo UY i.typeIs PySem.F.entry_dict_setdefault (PySem.F.args_dict_setdefault_3 _ _ _) (kt_meets_setdefault _ a (Dm j) h r) ⟨vs,i,by rwa [<-b.length],λp Pn=>?_,λhn h' Nj hs=>?_⟩
 .have q:=b.val k;rw[Pn]at q;cases c:yU ka k with
  |none=>rw[c]at q;exact q.elim
  |some d=>
   rw[c]at q;exact o d c _ _ q<|I.tok _
 have q:=b.val k;rw[hn]at q;cases c:yU ka k with
 |some d=>rw[c]at q;exact q.elim
 |none=>
  exact n c _<|Vu I (by rw[e];exact True.intro) hs (let ⟨q,_,_,m,_⟩:=Nj;⟨q,m⟩)<|zz (by have:=uI ka k v;lia) h (KV.put b k l) Nj
end
theorem ZW{K:Frag}{H:Hp}:∀(a:List (Hc×V)) (c:dL) (b:List (Hc×V)) (ds:dL),bJ K H c (a.map (·.2))->bJ K H ds (b.map (·.2))->
  (Oo b a).map (λp=>qJ p.1)=(Pm (b.map λp=>qJ p.1) ds (a.map λp=>qJ p.1) c).1/\bJ K H (Pm (b.map λp=>qJ p.1) ds (a.map λp=>qJ p.1) c).2 ((Oo b a).map (·.2))
 |[],c,b,ds,_,r=>by
  refine⟨?_,?_⟩
  .unfold Pm;rfl
  exact r
 |p::a,[],b,ds,h,r=>by
  have:=h.length;simp at this
 |p::a,d::c,b,ds,h,r=>by
  obtain⟨v,vs,e,j,i⟩:=cB.mp h;injection e with e1 e2
  subst e1 e2;obtain⟨g,f⟩:=gz Qr p.1 p.2 d j b ds r;have k:=ZW a c _ _ i f
  rwa [g]at k
def bT4:lv:=λx vs H Q=>∃a b d c,x=.ref a/\vs=[.ref b]/\H a=some (.dK d)/\H b=some (.dK c)/\a≠b/\d.length+c.length<=sizeLine/\Q .Tb (Nb H a<|.dK<|Oo d c)
def bP1:Ck X "dict.update" bT4:=by
 intro aa s σ H x vs v l Q I d f h;obtain⟨a,b,n,c,rfl,rfl,e,e2,i,j,q⟩:=h;cases d;obtain⟨u,rfl,g⟩:=f.one;cases g;exact bRq I e e2 i j λm k=>⟨.Tb,_,k,rfl,q⟩
section
def YX(i:Nat) (he:PE X e (tI X.K B f)) (Q:X.N[i]?=some x:=by rfl) (O:Rh X.env.scope x:=by exact Wj rfl) (k:Bf x:=by decide)
  (T:Vj x:=by decide) (N:Vg (.Name x p1) "update" X.env:=by rfl)
  (K:Uj Oa [e] X.env:=by rfl)
  (L:Oh Va Oa:=by rfl) (y:Lf e [] X.env:=by rfl)
  (U:qj (.Call (.Attribute (.Name x p1) "update" Va) [e] [] Oa) none pos.line X.env:=by rfl) :
  PS X (.Expr (.Call (.Attribute (.Name x p1) "update" Va) [e] [] Oa) pos) (tS X.K B<|gw i f):=by
 refine lQ (Uu (Zr qt IZ PySem.F.type_dict_update bP1 (uT Q O k T) (dD he iZ y) N K L y rfl) U) ?_
 rintro Z σ H ⟨A,st,r,j,P,p⟩;obtain⟨d,k,g⟩:=R.ja P;split at g
 .rename_i Y E;split at g
  .rename_i ks ds e1;obtain⟨⟨W,D⟩,S⟩:=aV g;cases S;obtain⟨l,o,vs,e2,m,C,M,q,u⟩:=j.lst i _ _ e1;rcases M with ⟨_,h,rfl,rfl,rfl⟩|⟨z,_⟩
   .refine⟨.ref l,e2,.inr<|.inr<|.inl ⟨rfl,.inl ⟨h,C⟩⟩,A,st,_,j,k,λv H' s rv=>?_⟩
    obtain⟨b,V,rfl,c,n⟩:=vY.mp rv;rcases c with ⟨_,a,c,rfl,rfl⟩|⟨z,_⟩
    .have w:=q.length;have t:=n.length;rw[Kd]at w t;refine⟨l,b,h,a,rfl,rfl,s _ _ C,(bN _ _ _ _ c),(λz=>by rw[<-z,kE<|Kh _ m]at c;cases c),by rw[w,t];rw[qX]at D;exact ye D (by decide),?_⟩
     obtain⟨G,F⟩:=ZW a E h ds n<|q.mono<|bK.hide s;obtain⟨J,I⟩:=(j.mono s).write e1 e2 (k1:=.d false (Pm _ ds _ E).1) (.inl ⟨rfl,Oo h a,rfl,G,rfl⟩) F;exact p A _ _ ((Le.of s).trans I) J
    cases z
   cases z
  cases g
 cases g
end
def bRr:lv:=λx vs H Q=>∃a b k v,x=.ref a/\vs=[kV k,v]/\H a=some (.dK b)/\b.length+1<=sizeLine/\(∀c,yU b k=some c->Q c H)/\(yU b k=none->Q v (Nb H a<|.dK<|Zd b k v))
def bL2:Ck X "dict.setdefault" bRr:=by
 intro aa s σ H x vs v t Q I i j h;obtain⟨a,z,k,f,rfl,rfl,e,r,o,n⟩:=h;cases i;obtain⟨w,u,rfl,m,d⟩:=j.two;exact bP0 I e m d r (λc p y g l b=>⟨c,H,b,l,o c p⟩) λq g b=>⟨f,_,b,d,n q⟩
section
variable {e1 e2:Expr}
def bP2(i:Nat) (h:PE X e1 (tI X.K B g)) (he:PE X e2 (tI X.K B f)) (P:X.N[i]?=some x:=by rfl) (N:Rh X.env.scope x:=by exact Wj rfl) (j:Bf x:=by decide)
  (W:Vj x:=by decide) (M:Vg (.Name x p1) "setdefault" X.env:=by rfl)
  (J:Uj Oa [e1,e2] X.env:=by rfl)
  (K:Oh Va Oa:=by rfl) (t:starEach [e1,e2] X.env=(false,eval e1 X.env)::starEach [e2] X.env:=by rfl) (Y:Lf e2 [] X.env:=by rfl)
  (Af:(backTo Oa<|starEach [e2] X.env).any (·.1)=false:=by rfl)
  (Z:qj (.Call (.Attribute (.Name x p1) "setdefault" Va) [e1,e2] [] Oa) none pos.line X.env:=by rfl) :
  PS X (.Expr (.Call (.Attribute (.Name x p1) "setdefault" Va) [e1,e2] [] Oa) pos) (tS X.K B<|fA i g f):=by
 refine lQ (Uu (Zr qt UY PySem.F.type_dict_setdefault bL2 (uT P N j W) (dD h (dD he iZ Y) t) M J K t Af) Z) ?_
 rintro Dn σ H ⟨A,st,r,b,O,p⟩;obtain⟨k,h,S⟩:=R.ja O;obtain⟨d,j,n⟩:=R.ja S;split at n
 .rename_i ks ds y;obtain⟨⟨V,C⟩,Q⟩:=aV n;cases Q;obtain⟨l,o,vs,w,m,v,L,q,u⟩:=b.lst i _ _ y;rcases L with ⟨_,a,rfl,rfl,rfl⟩|⟨z,_⟩
  .refine⟨.ref l,w,.inr<|.inr<|.inl ⟨rfl,.inl ⟨a,v⟩⟩,A,st,k,b,h,λv1 H1 s1 r1=>⟨A,st,d,b.mono s1,j,λv2 H2 s2 r2=>?_⟩⟩
   obtain⟨c,U,T⟩:=ny r1 V;subst U T;have s:=q.length;rw[Kd]at s;have e:xW (a.map λp=>qJ p.1) (qJ c)=(yU a c).isSome:=by rw[<-MF,uS Qr]
   refine⟨l,a,c,v2,rfl,rfl,(s1.trans s2) _ _ v,by rw[s];rw[qX]at C;exact ye C (by decide),λw' hw=>?_,λhn=>?_⟩
   .rw[hw]at e;have D:xW _ _=true:=e;rw[xb D]at p;exact p A _ _ (Le.of<|s1.trans s2)<|b.mono<|s1.trans s2
   rw[hn]at e;rw[Ta (by rw[e];exact ph)]at p
   obtain⟨F,E⟩:=gz Qr c v2 d r2 a ds<|q.mono<|bK.hide<|s1.trans s2;obtain⟨I,G⟩:=(b.mono<|s1.trans s2).write y w (k1:=.d false _) (.inl ⟨rfl,Zd a c v2,rfl,F,rfl⟩) E;exact p A _ _ ((Le.of<|s1.trans s2).trans G) I
  cases z
 cases n
end
def QI(v d:Addr):HO:=.ext λh=>h.IsValuesView v d
section
def í:Ck X "dict.values" (λx vs H Q=>∃(d:Addr) (c:List (Hc×V)),x=.ref d/\vs=[]/\H d=some (.dK c)/\∀n,H n=none->Q (.ref n) (Nb H n<|QI n d)):=by
 intro aa s σ H x vs v r Q I g i h;obtain⟨d,c,rfl,rfl,a,q⟩:=h;cases g;have j:=i.zero;subst j;obtain⟨w,l,xs,t,f⟩:=Fm I.Bb a;refine Vo JZ f.typeIs PySem.F.entry_dict_values (PySem.F.args_dict_values_1 _) (meets_dict_values _ d l) ⟨⟨xs,f⟩,?_⟩;have e:(s.heap.push {cls:=.type "dict_values",data:=.fields #[.ref d]}).get? s.heap.objs.size=some {cls:=.type "dict_values",data:=.fields #[.ref d]}:=vf _ rfl;exact⟨.ref s.heap.objs.size,_,I.laid (o:=QI s.heap.objs.size d) (λb u q=>Zc _ q) (Fc _) ⟨⟨_,e,rfl,rfl⟩,⟨_,e⟩,λz y ⟨o,m,p,a⟩ k=>⟨o,k o m,p,a⟩⟩,rfl,q _<|I.Bb.fresh<|Fc _⟩
theorem î(E:X.calm=true):pH X (.builtin "max") (λvs H Q=>∃(v d:Addr) (f:List (Hc×V)) (is:jp),vs=[.ref v]/\H v=some (QI v d)/\H d=some (.dK f)/\f.map (·.2)=is.map V.int/\0<is.length/\Q (.int<|Jk is) H):=by
 intro aa s σ H vs L Q I r h;obtain⟨v,d,f,is,rfl,C,D,y,R,q⟩:=h;obtain⟨u,rfl,B⟩:=r.one;obtain rfl:u=Value.ref v:=B;obtain⟨O,P,xs,m,F⟩:=Fm I.Bb D;obtain⟨ep,g⟩:=F.dictAt;have N:xs.length=is.length:=by
  have G:=m.length;have j:=congrArg List.length y;rw[Kd,Kd]at j;lia
 have a:∀(i:Nat)(w:Value),(∃k,xs[i]?=some (k,w))->∃t,w=.int (is.getD i 0) t:=λi w ⟨k,e⟩=>by
  obtain⟨p,e1,_,z⟩:=Tz m e;have c:(f.map (·.2))[i]?=some p.2:=by rw[cj,e1];rfl
  rw[y,cj]at c;cases l:is[i]? with
  |none=>rw[l]at c;cases c
  |some n=>
   rw[l]at c;have K:=by simpa using c
   rw[<-K]at z;obtain⟨t,J⟩:=z;exact⟨t,by rw[J,ng,l];rfl⟩
 refine call_max_walk<|wpAny_pyIter_values ((I.Bb v _ C).1) g<|⟨_,_,_,_,_,_,_,rfl,Walks.dictValues (A:=X.A.in1) (I.ok.hd E) s.heap.objs.size d (df g.lt_size) xs ep,⟨⟨_,vf _ rfl,rfl,rfl⟩,g.push _⟩,λb hb=>?_,by lia,CmpOf.ints_gt _ a,λw h' M hP hk=>?_⟩
 .rw[bh];rcases Uc.mp hb with rfl|hb
  .exact Ht _
  rw[Od.mp hb];exact GB g.lt_size
 obtain⟨t,rfl⟩:=a _ _ hP;refine⟨.int _,H,I.kept λb o e=>hk b o (λhm=>?_)<|Zc _ e,⟨t,?_⟩,q⟩
 .rw[Od.mp hm]at e;exact absurd (Dd e)<|Lh _
 congr 1;obtain⟨G,j⟩:=argBest_gt (λi=>is.getD i 0)<|xs.length-1
 refine(Xu ?_ λx hx=>?_).symm
 .rw[ng,Ze (by omega)]
  exact Fi _
 obtain⟨i,A,rfl⟩:=qw.mp hx;have:=j i (by omega)
 rwa [ng,Ze A]at this
end
section
variable {a:Expr}
def bP3(s:X.mg "max"=none)(w:X.calm=true)(y:PE X a (tI X.K B f))(t:Gl X "max":=by rfl)(m:Vg a "values" X.env:=by rfl)(k:Oh Va Oa:=by rfl)
  (r:starEach [.Call (.Attribute a "values" Va) [] [] Oa] X.env=(false,eval (.Call (.Attribute a "values" Va) [] [] Oa) X.env)::starEach [] X.env:=by rfl):PE X (.Call (.Name "max" p0) [.Call (.Attribute a "values" Va) [] [] Oa] [] pos) (tI X.K B<|e1 iA f):=by
 refine cQ (qW (î w) t s rfl<|dD (yz qt JZ PySem.F.type_dict_values í y m k) iZ r) ?_
 rintro σ H Q ⟨A,st,d,j,u,q⟩;obtain⟨x,o,b⟩:=R.ja u;refine⟨A,st,x,j,o,λv H1 s1 r1=>?_⟩
 unfold iA at b;split at b
 .obtain⟨l,G,F⟩:=R.ja b;obtain⟨c,E⟩:=aV F;cases E;obtain⟨p,vs,rfl,D,h⟩:=vY.mp r1;rcases D with ⟨_,e,C,rfl,rfl⟩|⟨z,_⟩
  .have g:=bN _ _ _ _ C;rw[zV G]at h;refine⟨.inr<|.inr<|.inl ⟨rfl,.inl ⟨e,g⟩⟩,p,e,rfl,rfl,g,λn i=>⟨n,p,e,l,rfl,cG,by rwa [bR<|bI g i],ZF h,c,q _ _ (s1.trans<|cL i)<|bY.mpr rfl⟩⟩
  cases z
 cases b
end
def YS:jf X ss (tS X.K B pA):=by
 intro aa s σ H b I h;obtain⟨A,st,r,_,a,_⟩:=h;cases a
section
def ma(c:X.N[i]?=some x:=by rfl)(a:Rh X.env.scope x:=by exact Wj rfl)(b:Bf x:=by decide)
  (d:Vj x:=by decide):PE X (.Name x pos) (tP X.K B<|aA i):=Ca<|aD c a b d
def Ua{i:Int}:PE X (.Constant (.int i) j pos) (tP X.K B<|eC<|.int i):=Ca dC
def Zb{P:pi}{a:Scope}(h:N.Nodup/\N.take P.length=P/\(∀x∈P,a.names.lookup x=some .local\/a.names.lookup x=some .cell)/\∀y∈a.names,y.2≠.free:=by decide+kernel)(k:a.kind=.function:=by rfl)(c:a.isCoroutine=false:=by rfl)(b:a.isGenerator=false:=by rfl):qd N P a:=⟨k,c,b,h.1,h.2.1,h.2.2.1,h.2.2.2⟩
def bG{k:Nat} {r:Ee} (h:Ba X.prog X.w X.K X.mg X.base x k np p) (f:PA X (e::es) (tA X.K B r)) (b:Ub j X.A:=by assumption) (c:k<=j:=by decide) (d:Gl X x:=by rfl) (a:Bf x:=by decide)
  (he:Lf e es X.env:=by rfl) (Af:Si pos es X.env:=by rfl):PE X (.Call (.Name x p0) (e::es) [] pos) (tI X.K B<|aM p r):=iM h b c f d a he Af
end
end Pu
set_option maxHeartbeats 4000000
namespace Pu
open PySem PySem.Spec PyProof.Rows L2
def top(i:Nat):Stmt:=PySem.Challenge.pw_looprank_k45_whole_kinds_of_words.main.body.getD i<|.Pass ⟨0,0,0,0⟩
def Rc(s:Stmt)(j:Nat):Stmt:=match s with
 |.ClassDef _ _ _ b _ _ _ _ _ _ _=>b.getD j<|.Pass ⟨0,0,0,0⟩
 |_=>.Pass ⟨0,0,0,0⟩
abbrev WD:Stmt:=top 74
abbrev XD:Stmt:=top 75
abbrev zF:Stmt:=top 76
abbrev YD:Stmt:=top 77
abbrev xG:Stmt:=top 78
abbrev FD:Stmt:=top 79
abbrev GD:Stmt:=top 80
abbrev tM:Stmt:=top 81
abbrev EE:Stmt:=top 82
abbrev ZD:Stmt:=top 83
abbrev zG:Stmt:=top 84
abbrev tQ:Stmt:=top 16
abbrev FE:Stmt:=top 14
abbrev HE:Stmt:=top 15
abbrev DG:Stmt:=top 17
abbrev aE:Stmt:=top 18
abbrev bE:Stmt:=top 19
abbrev gD:Stmt:=Rc (top 20) 0
abbrev xH:Stmt:=top 86
abbrev dE:Stmt:=top 71
abbrev xJ:Stmt:=Rc (top 66) 0
abbrev vH:Stmt:=Rc (top 67) 0
abbrev xK:Stmt:=Rc (top 68) 0
abbrev HD:Stmt:=Rc (top 69) 0
abbrev xM:Stmt:=Rc (top 70) 0
abbrev IE:Stmt:=top 26
abbrev JE:Stmt:=top 27
abbrev DF:Stmt:=top 25
abbrev ID:Stmt:=top 30
abbrev fE:Stmt:=top 28
abbrev gE:Stmt:=top 31
abbrev vI:Stmt:=top 41
abbrev JD:Stmt:=top 33
abbrev zH:Stmt:=top 34
abbrev KD:Stmt:=top 35
abbrev ME:Stmt:=top 37
abbrev xN:Stmt:=top 42
abbrev vJ:Stmt:=top 43
abbrev mE:Stmt:=top 22
abbrev vK:Stmt:=top 23
abbrev EF:Stmt:=top 36
abbrev EG:Stmt:=top 39
abbrev dZ:Stmt:=Rc (top 20) 3
abbrev NE:Stmt:=top 40
abbrev FF:Stmt:=top 55
abbrev nR:Stmt:=Rc (top 20) 1
abbrev GF:Stmt:=top 10
abbrev nU:Stmt:=Rc (top 20) 2
abbrev vL:Stmt:=Rc (top 20) 5
abbrev LD:Stmt:=top 62
abbrev zJ:Stmt:=Rc (top 66) 1
abbrev xO:Stmt:=Rc (top 67) 1
abbrev zK:Stmt:=top 48
abbrev HF:Stmt:=top 38
abbrev zL:Stmt:=top 49
abbrev MD:Stmt:=top 63
abbrev zM:Stmt:=Rc (top 68) 1
abbrev nE:Stmt:=Rc (top 69) 1
abbrev zN:Stmt:=Rc (top 70) 1
abbrev OE:Stmt:=top 72
abbrev pE:Stmt:=top 85
abbrev QE:Stmt:=top 64
abbrev FG:Stmt:=top 29
abbrev RE:Stmt:=top 32
abbrev rN:Stmt:=top 44
abbrev ND:Stmt:=top 45
abbrev pD:Stmt:=Rc (top 66) 2
abbrev OD:Stmt:=top 46
abbrev nW:Stmt:=Rc (top 67) 2
abbrev pF:Stmt:=Rc (top 68) 2
abbrev zO:Stmt:=top 50
abbrev PD:Stmt:=top 51
abbrev xP:Stmt:=top 52
abbrev QD:Stmt:=top 53
abbrev rO:Stmt:=Rc (top 69) 2
abbrev pG:Stmt:=Rc (top 70) 2
abbrev iW:Stmt:=Rc (top 65) 0
abbrev RD:Stmt:=top 87
abbrev zP:Stmt:=top 54
abbrev xQ:Stmt:=top 56
abbrev JH:Stmt:=top 57
abbrev zQ:Stmt:=top 58
abbrev xR:Stmt:=top 59
abbrev IF:Stmt:=top 60
abbrev zR:Stmt:=top 88
abbrev Jm:Stmt:=top 89
abbrev bc(N:pi)(k:Nat)(st:Stmt):Prop:=qd N (N.take k)<|bT st
theorem cV{K:Frag} {st:Stmt} {f:Addr} {k:Nat} (F:Ga K x qual st dV f fd) (S:qd N ps (bT st))
  (d:∀{b:Value}{A:Around}{a:u8}{s:Shared}{H:Hp}{E:XK}{B:bv},Ub k (A.deeper<|envOfC qual (bT st) s.heap.objs.size f b)->N.Nodup->
   jf (Ik zb P w K mg base N qual (bT st) f b A a s H E).Ql (fH st) (tS K B bd)) (e:ps.length=np:=by rfl) (c:N.length=n:=by rfl):xa P w K mg base zb (k+1) f fd ps (Mb K np<|bV np n bd):=MI F S np n bd e c λ_ _ _ _ _ _ _ h=>d h S.nd
theorem Y9:bc ["_law_script","_law_k","_law_rest"] 2 WD:=Zb
theorem Z9:bc ["_law_cell_here","_law_k","_law_many","_law_number"] 3 XD:=Zb
theorem W7:bc ["_law_cell_here","_law_sizes","_law_found","_law_size"] 2 zF:=Zb
theorem a_:bc ["_law_k","_law_goal_here","_law_way","_law_many"] 4 YD:=Zb
theorem o7:bc ["_law_script","_law_start","_law_most","_law_first","_law_sizes","_law_drawn","_law_many","_law_steps","_law_ranks","_law_k","_law_cell_here","_law_found","_law_j","_law_goal_here"] 3 xG:=Zb
theorem V8:bc ["_law_steps","_law_goals_here","_law_step","_law_bits","_law_goal_here"] 1 FD:=Zb
theorem W8:bc ["_law_goals_here","_law_inside","_law_begin","_law_found","_law_more","_law_wider","_law_k"] 3 GD:=Zb
theorem J6:bc ["_law_goals_here","_law_allowed","_law_loops","_law_bits","_law_turned","_law_k"] 2 tM:=Zb
theorem S_:bc ["_law_ranks","_law_bits","_law_k"] 2 EE:=Zb
theorem b_:bc ["_law_ranks","_law_bits"] 2 ZD:=Zb
theorem X7:bc ["_law_steps","_law_ranks","_law_goals_here","_law_loops","_law_ahead","_law_one","_law_goods","_law_bads","_law_truths_here","_law_other","_law_to","_law_back"] 2 zG:=Zb
theorem K6:bc ["thing","most"] 2 tQ:=Zb
theorem T_:bc ["thing"] 1 FE:=Zb
theorem U_:bc ["thing","limit"] 2 HE:=Zb
theorem ï:bc ["thing","letters","rooms","room"] 3 DG:=Zb
theorem c_:bc ["thing","row"] 1 aE:=Zb
theorem d_:bc ["thing","rooms","rank"] 2 bE:=Zb
theorem vN:bc ["self","steps","ranks","row"] 3 gD:=Zb
theorem p7:bc ["_law_steps","_law_ranks","_law_cell_here","_law_other","_law_many","_law_turn","_law_loops","_law_rows","_law_tops","_law_k","_law_room","_law_goals_here","_law_j","_law_bits"] 4 xH:=Zb
theorem e_:bc [] 0 dE:=Zb
theorem t7:bc ["self"] 1 xJ:=Zb
theorem Q6:bc ["self"] 1 vH:=Zb
theorem u7:bc ["self"] 1 xK:=Zb
theorem X8:bc ["self"] 1 HD:=Zb
theorem v7:bc ["self"] 1 xM:=Zb
theorem V_:bc ["bits","room"] 2 IE:=Zb
theorem W_:bc ["bits","room"] 1 JE:=Zb
theorem ϒ:bc ["rooms","bits","room"] 1 DF:=Zb
theorem Y8:bc ["steps","allowed","rooms","seen","room","middle"] 2 ID:=Zb
theorem f_:bc ["machine"] 1 fE:=Zb
theorem g_:bc ["machine","room"] 2 gE:=Zb
theorem R6:bc ["machine","allowed","wanted","ranks","rank","room"] 3 vI:=Zb
theorem Z8:bc ["steps","part","rooms"] 2 JD:=Zb
theorem Y7:bc ["steps","allowed","seen","parts","room","part","other"] 2 zH:=Zb
theorem b9:bc ["machine","allowed"] 2 KD:=Zb
theorem X_:bc ["machine","bits","room"] 2 ME:=Zb
theorem sN:bc ["machine","allowed","rank","low","part","room"] 3 xN:=Zb
theorem S6:bc ["machine","allowed","wanted","found","rank"] 3 vJ:=Zb
theorem h_:bc ["steps","start","allowed","ways","met","place","here","letter","room"] 3 mE:=Zb
theorem SM:bc ["machine","ways"] 1 vK:=Zb
theorem ϓ:bc ["machine","bits"] 2 EF:=Zb
theorem ð:bc ["machine","allowed","room","goal"] 4 EG:=Zb
theorem rP:bc ["self","room","text","rooms","letter"] 3 dZ:=Zb
theorem Y_:bc ["machine","bits","room","text","here","goal"] 3 NE:=Zb
theorem ϔ:bc ["machine","row","entries","room","front","entry","loop"] 2 FF:=Zb
theorem R5:bc ["self","thing"] 2 nR:=Zb
theorem ϕ:bc ["thing","many"] 2 GF:=Zb
theorem S5:bc ["self","thing"] 2 nU:=Zb
theorem T6:bc ["self","room","text"] 3 vL:=Zb
theorem d9:bc ["machine","good","reached","goals","loop","nest","start","goal","end","way"] 2 LD:=Zb
theorem Z7:bc ["self","machine"] 2 zJ:=Zb
theorem A7:bc ["self","machine"] 2 xO:=Zb
theorem b8:bc ["machine","loop","rank","room"] 2 zK:=Zb
theorem ϖ:bc ["machine","bits"] 2 HF:=Zb
theorem d8:bc ["machine","loop","found","left","rest","part"] 2 zL:=Zb
theorem e9:bc ["machine","good","loop","inner","nest"] 2 MD:=Zb
theorem e8:bc ["self","machine","bar"] 2 zM:=Zb
theorem i_:bc ["self","machine"] 2 nE:=Zb
theorem g8:bc ["self","machine"] 2 zN:=Zb
theorem MO:bc ["machine","kind"] 1 OE:=Zb
theorem j_:bc ["_law_k"] 1 pE:=Zb
theorem Z_:bc ["machine","bits","inside","outside","room"] 4 QE:=Zb
theorem ñ:bc ["sets","bits","rooms"] 1 FG:=Zb
theorem B':bc ["machine","goals","seen","room"] 2 RE:=Zb
theorem u6:bc ["machine","wanted","everywhere","goals"] 2 rN:=Zb
theorem f9:bc ["machine"] 1 ND:=Zb
theorem Y5:bc ["self","machine"] 2 pD:=Zb
theorem g9:bc ["machine"] 1 OD:=Zb
theorem T5:bc ["self","machine"] 2 nW:=Zb
theorem Z5:bc ["self","machine","good"] 2 pF:=Zb
theorem i8:bc ["machine"] 1 zO:=Zb
theorem i9:bc ["base","good"] 2 PD:=Zb
theorem tN:bc ["machine","loop","base","ranks","rank","inner","room","below"] 3 xP:=Zb
theorem TN:bc ["machine","base","ranks","loop","room"] 2 QD:=Zb
theorem w6:bc ["self","machine"] 2 rO:=Zb
theorem b6:bc ["self","machine"] 2 pG:=Zb
theorem j8:bc ["self","machine"] 2 iW:=Zb
theorem j9:bc ["_law_machine_here","_law_due","_law_k","_law_found"] 2 RD:=Zb
theorem KN:bc ["machine","loop","good","longest","inner","row"] 3 zP:=Zb
theorem B7:bc ["machine","good","longest","loop","row"] 2 xQ:=Zb
theorem ŋ:bc ["machine"] 1 JH:=Zb
theorem m8:bc ["nest"] 1 zQ:=Zb
theorem C7:bc ["machine","told","good","bad"] 1 xR:=Zb
theorem ϗ:bc ["machine"] 1 IF:=Zb
theorem o8:bc ["_law_machine_here","_law_due","_law_found","_law_reached","_law_ranks","_law_k"] 2 zR:=Zb
theorem bP4:bc ["_law_script","_law_words","_law_truths_here","_law_due","_law_machine_here","_law_other","_law_one","_law_steps","_law_ranks","_law_k","_law_step"] 1 Jm:=Zb
section
variable{P:Program}{w:World}{K:Frag}{mg:db}{base:Heap}{fa:Addr}{fd:FuncData}{dV:Value}
variable(cO:mg "len"=none)
def D'(F:Ga K "_law_cell" "_law_cell" WD dV fa fd):xa P w K mg base zb 1 fa fd ["_law_script","_law_k"] (Mb K 2 mX):=cV F Y9 λb a=>(aN (jO (bQ Yr Sr ma<|Ca<|lY cO ma) (aU<|bD<|pN (Ca<|cR ma ma)<|Ca<|JI Ua Ua) eO)<|aN (bM dC)<|aN (jO (bQ yo xo (Ca<|lY cO ma) Ua) (aU<|bM<|pN (Ca<|cR ma<|Ca<|pN ma<|Ca<|lY cO ma) Ua) eO)<|aU<|bD<|pN (Ca<|pC (Ca<|lG (Ca<|lG (Ca<|pC ma Ua)<|Ca<|pC Ua ma) Ua)<|Ca<|lG ma Ua) Ua)
theorem J'(F:Ga K "_law_pick" "_law_pick" XD dV fa fd):xa P w K mg base zb 1 fa fd ["_law_cell_here","_law_k","_law_many"] (Mb K 3 dY):=cV F Z9 λb a=>(aN (bM<|pN (Ca<|lG ma<|Ca<|pC Ua ma) Ua)<|aN (bM<|pN (Ca<|pC (Ca<|pN (Ca<|pC ma ma) Ua) Ua) Ua)<|aU<|bD<|pN (Ca<|Ov (Ca<|pN (Ca<|pC ma ma) Ua) Ua) ma)
theorem m9(F:Ga K "_law_digits" "_law_digits" zF dV fa fd):xa P w K mg base zb 1 fa fd ["_law_cell_here","_law_sizes"] (Mb K 2 mC):=cV F W7 λb a=>(aN (qK<|wY aG)<|aN (iV (jH aD) bO<|aN (by exact Cj 2<|pN ma ma)<|by exact aU<|bM<|Ov ma ma)<|aU<|Fj [2]<|bD aD)
variable(yQ:mg "max"=none)(Yk:mg "min"=none)
def N'(F:Ga K "_law_goal" "_law_goal" YD dV fa fd):xa P w K mg base zb 1 fa fd ["_law_k","_law_goal_here","_law_way","_law_many"] (Mb K 4 yC):=cV F a_ λb a=>(aN (jO (bQ eX eY ma Ua) (aU<|bD<|SW yQ rfl ma ma) eO)<|aN (jO (PW.pt<|kq (bQ eX eY ma Ua)<|Xr<|bQ Yr Sr (Ca<|Ov ma Ua)<|Ca<|Ov ma Ua) (aU<|bD<|bOe Yk rfl (Ca<|Xv ma Ua)<|Ca<|lG (Ca<|Xv ma<|Ca<|pN ma Ua)<|Ca<|pN ma Ua) eO)<|aU<|bD aD)
variable(jP:Ba P w K mg base "_law_cell" 1 2 mX)(Vb:Ba P w K mg base "_law_pick" 1 3 dY)(Fd:Ba P w K mg base "_law_digits" 1 2 mC)(mf:Ba P w K mg base "_law_goal" 1 4 yC)(Ka:mg "range"=none)
def p8(F:Ga K "_law_machine" "_law_machine" xG dV fa fd):xa P w K mg base zb 2 fa fd ["_law_script","_law_start","_law_most"] (Mb K 3 mY):=cV F o7 λb a=>(aN (bM<|bG jP<|aB aD<|aB aD aG)<|aN (bM<|mO<|aB aD<|aB dC<|aB dC<|aB dC<|aB dC aG)<|aN (bM<|vG (wZ Ka Ua) (λ_ _ _ _ _=>bO)<|λ_ _ _ _ _=>bG Vb<|aB aD<|aB (lG Ua ma)<|aB (cR ma ma) aG)<|aN (jO (bQ eX eY (Ca<|pN ma Ua) Ua) (aU<|bM<|bG Fd<|aB (Ov ma Ua)<|aB aD aG) eO)<|aN (bM<|lG Ua<|Ca<|cR ma Ua)<|aN (bM<|lG (Ca<|bOw (aB aD aG)<|Ca<|lG Ua<|Ca<|cR ma Ua)<|Ca<|mO<|aB (cR (Ca<|mO<|aB dC<|aB dC<|aB dC<|aB dC aG)<|Ca<|cR ma Ua) aG)<|aN (qK<|wY aG)<|aN (qK<|wY aG)<|aN (iV (wZ Ka ma) bO<|aN (by exact bM<|bG jP<|aB aD<|aB (lG (Ca<|lG ma Ua) ma) aG)<|by exact aN (by exact bM<|bG Fd<|aB aD<|aB aD aG)<|by exact aN (by exact jO (bQ eX eY (Ca<|pN ma Ua) Ua) (aU<|bOf (wZ Ka<|Ca<|lY cO ma) (λ_ _ _ _ _=>bO)<|λ_ _ _ _ _=>bG Vb<|aB aD<|aB (lG Ua ma)<|aB (cR ma ma) aG) eO)<|by exact aN (by exact Cj 7<|vG (jH<|NY ma QW<|RW<|Ca<|Ss Ua) (λ_ _ _ _ _=>bO)<|λ_ _ _ _ _=>bG mf<|aB aD<|aB aD<|aB (cR ma Ua)<|aB aD aG)<|by exact aU<|Cj 8<|lG (Ca<|cR (Ca<|mO<|aB dC<|aB dC<|aB dC<|aB (JI Ua Ua) aG)<|Ca<|cR ma Ua)<|Ca<|cR ma<|Ca<|Ss Ua)<|aU<|Fj [7,8]<|bD<|Co<|aB aD<|aB aD aG)
theorem k_(F:Ga K "_law_goals" "_law_goals" FD dV fa fd):xa P w K mg base zb 1 fa fd ["_law_steps"] (Mb K 1 oA):=cV F V8 λb a=>(aN (qK<|wY aG)<|aN (iV (jH aD) bO<|aN (by exact bM dC)<|by exact aN (by exact iV (jH aD) bO<|aU<|bM<|Us ma<|Ca<|NI Ua ma)<|by exact aU<|Cj 1 aD)<|aU<|Fj [1]<|bD aD)
def l_(F:Ga K "_law_close" "_law_close" GD dV fa fd):xa P w K mg base zb 1 fa fd ["_law_goals_here","_law_inside","_law_begin"] (Mb K 3 iI):=cV F W8 λb a=>(aN (bM<|qO ma ma)<|aN (bM tK)<|aN (EH (jG aD)<|aN (by exact bM aD)<|by exact aN (by exact iV (wZ Ka<|Ca<|lY cO ma) bO<|aU<|jO (bQ eX eY (Ca<|qO (Ca<|lq ma ma) Ua) Ua) (aU<|bM<|Us ma<|Ca<|qO (Ca<|cR ma ma) ma) eO)<|by exact aN (by exact bM<|jF qL qM ma ma)<|by exact aU<|bM aD)<|aU<|bD aD)
variable(fM:Ba P w K mg base "_law_close" 1 3 iI)
def U6(F:Ga K "_law_all_loops" "_law_all_loops" tM dV fa fd):xa P w K mg base zb 2 fa fd ["_law_goals_here","_law_allowed"] (Mb K 2 kJ):=cV F J6 λb a=>(aN (qK<|wY aG)<|aN (iV (bRg Ka Ua<|Ca<|lG ma Ua) bO<|aU<|jO (bQ eX eY (Ca<|qO ma ma) ma) (aN (by exact Ru (wZ Ka<|Ca<|lY cO ma) (λ_ _ _ _ _=>bO) (λ_ _ _ _ _=>PW.pt<|kq (bQ eX eY (Ca<|qO (Ca<|lq ma ma) Ua) Ua)<|Xr<|bQ qL qM (Ca<|bG fM<|aB aD<|aB aD<|aB (cR ma ma) aG) ma)<|λ_ _ _ _ _=>aD)<|by exact aU<|jO (bQ eX eY ma<|Ca<|mO aG) (aU<|Cj 2 aD) eO) eO)<|aU<|Fj [2]<|bD aD)
def Ϙ(F:Ga K "_law_top" "_law_top" EE dV fa fd):xa P w K mg base zb 1 fa fd ["_law_ranks","_law_bits"] (Mb K 2 ky):=cV F S_ λb a=>(aU<|bD<|XX yQ rfl<|Ca<|rM (wZ Ka<|Ca<|lY cO ma) (λ_ _ _ _ _=>bO) (λ_ _ _ _ _=>bQ eX eY (Ca<|qO (Ca<|lq ma ma) Ua) Ua)<|λ_ _ _ _ _=>cR ma ma)
variable(SD:Ba P w K mg base "_law_top" 1 2 ky)
def P'(F:Ga K "_law_good" "_law_good" ZD dV fa fd):xa P w K mg base zb 2 fa fd ["_law_ranks","_law_bits"] (Mb K 2 uK):=cV F b_ λb a=>(aU<|bD<|jF eX eY (Ca<|pN (Ca<|bG SD<|aB aD<|aB aD aG) Ua) Ua)
variable(gM:Ba P w K mg base "_law_goals" 1 1 oA)(gc:Ba P w K mg base "_law_all_loops" 2 2 kJ)(me:Ba P w K mg base "_law_good" 2 2 uK)
def n9(F:Ga K "_law_truths" "_law_truths" zG dV fa fd):xa P w K mg base zb 3 fa fd ["_law_steps","_law_ranks"] (Mb K 2 tR):=cV F X7 λa b=>(aN (bM<|bG gM<|aB aD aG)<|aN (bM<|bG gc<|aB aD<|aB (bG fM<|aB aD<|aB dC<|aB dC aG) aG)<|aN nz<|aN (iV (jH aD) bO<|aU<|Pz a.units 4 aD<|bG fM<|aB aD<|aB dC<|aB aD aG)<|aN (Ru (jH aD) (λ_ _ _ _ _=>bO) (λ_ _ _ _ _=>jG<|bG me<|aB aD<|aB aD aG)<|λ_ _ _ _ _=>aD)<|aN (Ru (jH aD) (λ_ _ _ _ _=>bO) (λ_ _ _ _ _=>Bj<|jG<|bG me<|aB aD<|aB aD aG)<|λ_ _ _ _ _=>aD)<|aN (qK<|wY<|aB tK<|aB tK<|aB tK<|aB tK<|aB tK aG)<|aN (iV (jH aD) bO<|aU<|iV (jH aD) bO<|aN (by exact bM<|jF yo xo (Ca<|qO (Ca<|cR nQ ma) ma) Ua)<|by exact aN (by exact bM<|jF yo xo (Ca<|qO (Ca<|cR nQ ma) ma) Ua)<|by exact aN (by exact Ts 8 Ua<|yO (cR nQ Ua)<|vD<|Yv aD)<|by exact aN (by exact Ts 8 Ua<|yO (cR nQ Ua)<|vD<|Yv aD)<|by exact aN (by exact Ts 8 Ua<|yO (cR nQ Ua)<|vD<|Yv<|yO aD<|vD aD)<|by exact aN (by exact Ts 8 Ua<|yO (cR nQ Ua)<|vD<|jF qL qM (Ca<|qO ma ma) ma)<|by exact aU<|Ts 8 Ua<|yO (cR nQ Ua)<|vD<|jF qL qM (Ca<|qO ma ma) ma)<|aU<|Fj [8]<|bD aD)
variable(dH:mg "isinstance"=none)(Qc:mg "list"=none)
def V6(F:Ga K "is_filled_list" "is_filled_list" tQ dV fa fd):xa P w K mg base zb 1 fa fd ["thing","most"] (Mb K 2 gB):=cV F K6 λb a=>(aU<|bD<|yO (Qu ty_list dH Qc ma)<|yO (jF Wz Jz (Ca<|lY cO ma) Ua)<|vD<|jF BI jI (Ca<|lY cO ma) ma)
variable(xI:mg "int"=none)(Ji:mg "bool"=none)
def ϙ(F:Ga K "is_whole" "is_whole" FE dV fa fd):xa P w K mg base zb 1 fa fd ["thing"] (Mb K 1 sV):=cV F T_ λb a=>(aU<|bD<|yO (Qu ty_int dH xI ma)<|vD<|Yv<|Qu ty_bool dH Ji ma)
variable(qP:Ba P w K mg base "is_whole" 1 1 sV)
def Ϛ(F:Ga K "is_below" "is_below" HE dV fa fd):xa P w K mg base zb 2 fa fd ["thing","limit"] (Mb K 2 sW):=cV F U_ λb a=>(aU<|bD<|yO (bG qP<|aB aD aG)<|yO (jF Wz Jz ma Ua)<|vD<|jF Yr Sr ma ma)
variable(qQ:Ba P w K mg base "is_below" 2 2 sW)(kg:mg "all"=none)
def Ō(F:Ga K "is_row" "is_row" DG dV fa fd):xa P w K mg base zb 3 fa fd ["thing","letters","rooms"] (Mb K 3 By):=cV F ï λb a=>(aU<|bD<|yO (jF eX eY (Ca<|lY cO ma) ma)<|vD<|CA kg rfl<|Ca<|vG (jH aD) (λ_ _ _ _ _=>bO)<|λ_ _ _ _ _=>bG qQ<|aB aD<|aB aD aG)
variable(lA:Ba P w K mg base "is_filled_list" 1 2 gB)(Dg:Ba P w K mg base "is_row" 3 3 By)
variable{Ye:Tok}(Ue:mg "MOST_ROOMS"=some (.int 8 Ye))
variable{ae:Tok}(Pd:mg "MOST_LETTERS"=some (.int 3 ae))
def R'(F:Ga K "are_steps" "are_steps" aE dV fa fd):xa P w K mg base zb 4 fa fd ["thing"] (Mb K 1 yD):=cV F c_ λb a=>(aN (jO (Bj<|jG<|bG lA<|aB aD<|aB (MW Ue) aG) (aU<|bD tK) eO)<|aN (jO (Bj<|jG<|CA kg rfl<|Ca<|vG (jH aD) (λ_ _ _ _ _=>bO)<|λ_ _ _ _ _=>bG lA<|aB aD<|aB (MW Pd) aG) (aU<|bD tK) eO)<|aU<|bD<|CA kg rfl<|Ca<|vG (jH aD) (λ_ _ _ _ _=>bO)<|λ_ _ _ _ _=>bG Dg<|aB aD<|aB (lY cO<|Ca<|cR ma Ua)<|aB (lY cO ma) aG)
def U'(F:Ga K "are_ranks" "are_ranks" bE dV fa fd):xa P w K mg base zb 2 fa fd ["thing","rooms"] (Mb K 2 yE):=cV F d_ λb a=>(aN (jO (PW.pt<|mw (Bj<|jG<|Qu ty_list dH Qc ma)<|Zv<|bQ qL qM (Ca<|lY cO ma) ma) (aU<|bD tK) eO)<|aU<|bD<|CA kg rfl<|Ca<|vG (jH aD) (λ_ _ _ _ _=>bO)<|λ_ _ _ _ _=>yO (bG qP<|aB aD aG)<|vD<|jF Wz Jz ma Ua)
variable(yR:Ba P w K mg base "are_steps" 4 1 yD)(pf:Ba P w K mg base "are_ranks" 2 2 yE)
variable{Qa:Addr}(ia:ClsAt K "Machine" Qa)
variable(aQ:oY K Qa (ofString "steps"))(qa:oY K Qa (ofString "ranks"))(za:oY K Qa (ofString "many"))(Pb:oY K Qa (ofString "letters"))
def A6(F:Qp K "__init__" "Machine.__init__" gD fa fd):xa P w K mg base zb 5 fa fd ["self","steps","ranks"] (LC K "Machine" 2 eU):=by
 refine bKd (k:=4) F vN "Machine" 2 4 lJ rfl rfl λd A a s H E B c=>?_
 have b:=vN.nd;exact aN (jO (Bj<|jG<|bG yR<|aB aD aG) (aU yP) eO)<|aN (jO (Bj<|jG<|bG pf<|aB aD<|aB (lY cO ma) aG) (aU yP) eO)<|aN (Rz 0 ia aQ<|vG (jH aD) (λ_ _ _ _ _=>bO)<|λ_ _ _ _ _=>Sz Qc ma)<|aN (Rz 0 ia qa<|Sz Qc ma)<|aN (Rz 0 ia za<|lY cO ma)<|aU<|Rz 0 ia Pb<|lY cO<|Ca<|cR ma Ua
variable(eE:wg P w K mg base "Machine" 5 2 eU)
def q8(F:Ga K "_law_doubled" "_law_doubled" xH dV fa fd):xa P w K mg base zb 7 fa fd ["_law_steps","_law_ranks","_law_cell_here","_law_other"] (Mb K 4 rA):=cV F p7 λa b=>(aN (bM<|lY cO ma)<|aN (bM<|cR (Ca<|mO<|aB dC<|aB (Xv (Ca<|pC Ua ma) Ua) aG)<|Ca<|bG Vb<|aB aD<|aB dC<|aB dC aG)<|aN (bM<|bG gc<|aB (bG gM<|aB aD aG)<|aB (lq (Ca<|Xv (Ca<|JI Ua Ua) Ua)<|Ca<|Xv Ua ma) aG)<|aN (qK<|wY aG)<|aN (qK<|wY aG)<|aN (iV (wZ Ka<|Ca<|pC Ua ma) bO<|aN (by exact bM<|pN (Ca<|pN (Ca<|pC ma ma)<|Ca<|pC Ua ma) ma)<|by exact aN (by exact qK<|wY aG)<|by exact aN (by exact iV (wZ Ka<|Ca<|lY cO<|Ca<|cR ma Ua) bO<|aU<|Cj 11<|pN (Ca<|pC (Ca<|lG (Ca<|cR (Ca<|cR ma ma) ma)<|Ca<|pC ma<|Ca<|bG Vb<|aB aD<|aB (lG (Ca<|lG Ua<|Ca<|pC Ua ma) ma)<|aB dC aG) ma)<|Ca<|pC Ua ma)<|by exact aN (by exact Fj [11]<|Cj 7 aD)<|by exact aN (by exact Cj 8<|lG (Ca<|cR ma ma)<|Ca<|pC Ua<|Ca<|bG Vb<|aB aD<|aB dC<|aB dC aG)<|by exact aU<|jO (bQ eX eY (Ca<|rM (jH aD) (λ_ _ _ _ _=>bO) (λ_ _ _ _ _=>bQ eX eY (Ca<|qO (Ca<|lq ma ma) Ua) Ua)<|λ_ _ _ _ _=>aD)<|Ca<|mO aG) (aU<|Ts 8 (Ca<|Ss Ua)<|bG Vb<|aB aD<|aB (lG Ua ma)<|aB dC aG) eO)<|aU<|Fj [7,8]<|bD<|Qz eE a (by decide)<|aB aD<|aB aD aG)
variable{Cd:Addr}(Ed:ClsAt K "Again" Cd)
variable{yc:Addr}(Cc:ClsAt K "EarlyNo" yc)
variable{Wb:Addr}(Yb:ClsAt K "EarlyYes" Wb)
variable{Ac:Addr}(Dc:ClsAt K "Lasting" Ac)
variable{Bc:Addr}(Ec:ClsAt K "Settled" Bc)
variable(xT:mg (ofString "Again")=some (.ref Cd))(Qd:mg (ofString "EarlyNo")=some (.ref yc))(Hd:mg (ofString "EarlyYes")=some (.ref Wb))(Sd:mg (ofString "Lasting")=some (.ref Ac))(Td:mg (ofString "Settled")=some (.ref Bc))(Me:Bk K Ac)(Pf:Bk K Cd)(Oe:Bk K Bc)(Yd:Bk K Wb)(Ke:Bk K yc)
def V'(F:Ga K "all_kinds" "all_kinds" dE dV fa fd):xa P w K mg base zb 1 fa fd [] (Mb K 0 uM):=cV F e_ λb a=>(aU<|bD<|mO<|aB (zE Ke Cc Qd)<|aB (zE Yd Yb Hd)<|aB (zE Oe Ec Td)<|aB (zE Pf Ed xT)<|aB (zE Me Dc Sd) aG)
theorem t8(F:Ga K "word" "EarlyNo.word" xJ dV fa fd):xa P w K mg base zb 1 fa fd ["self"] (Mb K 1 mZ):=cV F t7 λb a=>(aU<|bD<|uR _)
theorem E7(F:Ga K "word" "EarlyYes.word" vH dV fa fd):xa P w K mg base zb 1 fa fd ["self"] (Mb K 1 lV):=cV F Q6 λb a=>(aU<|bD<|uR _)
theorem v8(F:Ga K "word" "Settled.word" xK dV fa fd):xa P w K mg base zb 1 fa fd ["self"] (Mb K 1 nA):=cV F u7 λb a=>(aU<|bD<|uR _)
theorem m_(F:Ga K "word" "Again.word" HD dV fa fd):xa P w K mg base zb 1 fa fd ["self"] (Mb K 1 rB):=cV F X8 λb a=>(aU<|bD<|uR [97,103,97,105,110])
theorem w8(F:Ga K "word" "Lasting.word" xM dV fa fd):xa P w K mg base zb 1 fa fd ["self"] (Mb K 1 nC):=cV F v7 λb a=>(aU<|bD<|uR _)
theorem ϛ(F:Ga K "has_room" "has_room" IE dV fa fd):xa P w K mg base zb 1 fa fd ["bits","room"] (Mb K 2 gY):=cV F V_ λb a=>(aU<|bD<|jF eX eY (Ca<|qO (Ca<|lq ma ma) Ua) Ua)
variable(cM:Ba P w K mg base "has_room" 1 2 gY)
def Ϝ(F:Ga K "rooms_of" "rooms_of" JE dV fa fd):xa P w K mg base zb 2 fa fd ["bits"] (Mb K 1 cC):=cV F W_ λb a=>(aU<|bD<|rM (wZ Ka<|Ca<|bOl ma) (λ_ _ _ _ _=>bO) (λ_ _ _ _ _=>jG<|bG cM<|aB aD<|aB aD aG)<|λ_ _ _ _ _=>aD)
theorem ò(F:Ga K "bits_of" "bits_of" DF dV fa fd):xa P w K mg base zb 1 fa fd ["rooms"] (Mb K 1 kO):=cV F ϒ λb a=>(aN (bM dC)<|aN (iV (jH aD) bO<|aU<|bM<|Us ma<|Ca<|NI Ua ma)<|aU<|bD aD)
variable(bF:Ba P w K mg base "rooms_of" 2 1 cC)(Ib:Ba P w K mg base "bits_of" 1 1 kO)
def n_(F:Ga K "seen_among" "seen_among" ID dV fa fd):xa P w K mg base zb 3 fa fd ["steps","allowed"] (Mb K 2 lK):=cV F Y8 λa b=>(aN (bM<|bG bF<|aB aD aG)<|aN nz<|aN (iV (jH aD) bO<|aU<|Pz a.units 3 aD<|qO (Ca<|Us (Ca<|bG Ib<|aB (cR ma ma) aG)<|Ca<|NI Ua ma) ma)<|aN (iV (jH aD) bO<|aU<|iV (jH aD) bO<|aU<|jO (jG<|bG cM<|aB (cR nQ ma)<|aB aD aG) (aU<|Pz a.units 3 aD<|Us (Ca<|cR nQ ma)<|Ca<|cR nQ ma) eO)<|aU<|Fj [3]<|bD aD)
def Z'(F:Ga K "all_rooms" "all_rooms" fE dV fa fd):xa P w K mg base zb 2 fa fd ["machine"] (Mb K 1 nD):=cV F f_ λb a=>(aU<|bD<|bG Ib<|aB (LS Qc Ka rfl<|Ca<|lZ ia za ma) aG)
variable(gO:Ba P w K mg base "seen_among" 3 2 lK)(Mc:Ba P w K mg base "all_rooms" 2 1 nD)
def γ(F:Ga K "seen_from" "seen_from" gE dV fa fd):xa P w K mg base zb 4 fa fd ["machine","room"] (Mb K 2 iT):=cV F g_ λb a=>(aU<|bD<|cR (Ca<|bG gO<|aB (lZ ia aQ ma)<|aB (bG Mc<|aB aD aG) aG) ma)
variable(xU:mg "sorted"=none)(Zk:mg "set"=none)
def F7(F:Ga K "ranks_of_sort" "ranks_of_sort" vI dV fa fd):xa P w K mg base zb 3 fa fd ["machine","allowed","wanted"] (Mb K 3 pO):=cV F R6 λb a=>(aN (bM<|ň xU Zk rfl<|Ca<|vG (jH<|bG bF<|aB aD aG) (λ_ _ _ _ _=>bO)<|λ_ _ _ _ _=>cR (Ca<|lZ ia qa ma) ma)<|aU<|bD<|rM (jH aD) (λ_ _ _ _ _=>bO) (λ_ _ _ _ _=>bQ eX eY (Ca<|jF eX eY (Ca<|pN ma Ua) Ua) ma)<|λ_ _ _ _ _=>aD)
def o_(F:Ga K "goes_round" "goes_round" JD dV fa fd):xa P w K mg base zb 3 fa fd ["steps","part"] (Mb K 2 vO):=cV F Z8 λb a=>(aN (bM<|bG bF<|aB aD aG)<|aU<|bD<|LY (jF yo xo (Ca<|lY cO ma) Ua)<|TX<|jF Nz Oz (Ca<|cR ma Ua)<|Ca<|cR ma<|Ca<|cR ma Ua)
variable(vZ:Ba P w K mg base "goes_round" 3 2 vO)
def o9(F:Ga K "parts_among" "parts_among" zH dV fa fd):xa P w K mg base zb 4 fa fd ["steps","allowed"] (Mb K 2 tU):=cV F Y7 λb a=>(aN (bM<|bG gO<|aB aD<|aB aD aG)<|aN (qK<|wY aG)<|aN (iV (jH<|bG bF<|aB aD aG) bO<|aN (by exact bM<|bG Ib<|aB (rM (jH<|bG bF<|aB (cR ma ma) aG) (λ_ _ _ _ _=>bO) (λ_ _ _ _ _=>jG<|bG cM<|aB (cR ma ma)<|aB aD aG)<|λ_ _ _ _ _=>aD) aG)<|by exact aU<|jO (PW.pt<|kq (bQ Gu Hu ma nQ)<|Xr<|jG<|bG vZ<|aB aD<|aB aD aG) (aU<|Cj 3 aD) eO)<|aU<|Fj [3]<|bD aD)
variable(uF:Ba P w K mg base "parts_among" 4 2 tU)
def p_(F:Ga K "loop_parts" "loop_parts" KD dV fa fd):xa P w K mg base zb 5 fa fd ["machine","allowed"] (Mb K 2 gF):=cV F b9 λb a=>(aU<|bD<|bG uF<|aB (lZ ia aQ ma)<|aB aD aG)
def ϝ(F:Ga K "top_rank" "top_rank" ME dV fa fd):xa P w K mg base zb 3 fa fd ["machine","bits"] (Mb K 2 sZ):=cV F X_ λb a=>(aN (jO (bQ eX eY ma Ua) (aU yP) eO)<|aU<|bD<|XX yQ rfl<|Ca<|vG (jH<|bG bF<|aB aD aG) (λ_ _ _ _ _=>bO)<|λ_ _ _ _ _=>cR (Ca<|lZ ia qa ma) ma)
variable(dO:Ba P w K mg base "loop_parts" 5 2 gF)(Vc:Ba P w K mg base "top_rank" 3 2 sZ)
def A8(F:Ga K "parts_topped" "parts_topped" xN dV fa fd):xa P w K mg base zb 6 fa fd ["machine","allowed","rank"] (Wi K 3 nF):=by
 refine QA (k:=5) F sN 3 6 pP (cT [4] (bb 4) (Wc<|aM gF<|aC (aA 0)<|aC (aA 3) aK) oJ oH) rfl rfl λd A a s H E B c=>?_
 have b:=sN.nd;exact qz (by exact bM<|bG Ib<|aB (rM (jH<|bG bF<|aB aD aG) (λ_ _ _ _ _=>bO) (λ_ _ _ _ _=>bQ BI jI (Ca<|cR (Ca<|lZ ia qa ma) ma) ma)<|λ_ _ _ _ _=>aD) aG) (by exact Uz<|WS (jH<|bG dO<|aB aD<|aB aD aG) (λ_ _ _ _ _=>bO) (λ_ _ _ _ _=>bQ eX eY (Ca<|bG Vc<|aB aD<|aB aD aG) ma)<|λ_ _ _ _ _=>aD)
variable(pW:Ba P w K mg base "ranks_of_sort" 3 3 pO)(Vd:fc P w K mg base "parts_topped" 6 3 nF)
def G7(F:Ga K "loops_of_sort" "loops_of_sort" vJ dV fa fd):xa P w K mg base zb 7 fa fd ["machine","allowed","wanted"] (Mb K 3 dB):=cV F S6 λa b=>(aN (qK<|wY aG)<|aN (iV (jH<|bG pW<|aB aD<|aB aD<|aB aD aG) bO<|aU<|bRo 3<|bKn Vd a (by decide)<|aB aD<|aB aD<|aB aD aG)<|aU<|Fj [3]<|bD aD)
variable(zI:mg "zip"=none)
variable{fg:Tok}(Nc:mg "LETTERS"=some (.str "abc" fg))
def δ(F:Ga K "ways_from" "ways_from" mE dV fa fd):xa P w K mg base zb 1 fa fd ["steps","start","allowed"] (Mb K 3 uO):=cV F h_ λb a=>(aN (bKi 3 aD (uR []) a)<|aN (qK<|wY<|aB aD aG)<|aN (bM dC)<|aN (EH (bQ Yr Sr ma<|Ca<|lY cO nQ)<|aN (by exact bM<|cR nQ ma)<|by exact aN (by exact iV (bOj zI (Hz [97,98,99] Nc)<|cR ma ma) (VX rfl<|jz<|jz NW)<|aU<|jO (PW.pt<|kq (bQ Nz Oz ma ma)<|Xr<|bQ Gu Hu ma nQ) (aN (by exact Pz b.units 3 aD<|lG (Ca<|cR nQ ma) ma)<|by exact aU<|Cj 4 aD) eO)<|by exact aU<|bM<|lG ma Ua)<|aU<|Fj [3]<|bD aD)
variable(nY:Ba P w K mg base "ways_from" 1 3 uO)
def J7(F:Ga K "rooms_reached" "rooms_reached" vK dV fa fd):xa P w K mg base zb 2 fa fd ["machine"] (Wi K 1 pQ):=by
 refine QA (k:=1) F SM 1 2 oK (e1 Dv<|aA 1) rfl rfl λd A a s H E B c=>?_
 have b:=SM.nd;exact qz (by exact bM<|bG nY<|aB (lZ ia aQ ma)<|aB dC<|aB (LS Qc Ka rfl<|Ca<|lZ ia za ma) aG) (by exact Uz<|bKl Qc rfl aD)
def ó(F:Ga K "is_loop" "is_loop" EF dV fa fd):xa P w K mg base zb 6 fa fd ["machine","bits"] (Mb K 2 Du):=cV F ϓ λb a=>(aU<|bD<|jF eX eY (Ca<|bG dO<|aB aD<|aB aD aG)<|Ca<|mO<|aB aD aG)
def ō(F:Ga K "way_in" "way_in" EG dV fa fd):xa P w K mg base zb 3 fa fd ["machine","allowed","room","goal"] (Mb K 4 rD):=cV F ð λa b=>(aN (jO (Bj<|jG<|bG cM<|aB aD<|aB aD aG) (aU<|bD Im) eO)<|aU<|bD<|bOu a.units (Ca<|bG nY<|aB (lZ ia aQ ma)<|aB aD<|aB (bG bF<|aB aD aG) aG) aD)
def U5(F:Ga K "rooms_along" "Machine.rooms_along" dZ dV fa fd):xa P w K mg base zb 1 fa fd ["self","room","text"] (Wi K 3 dF):=by
 refine bT3 (k:=0) F rP 3 5 3 iJ rfl rfl λd A a s H E B c=>?_
 have b:=rP.nd;exact XU (by exact qK<|wY<|aB aD aG) (by exact XU (by exact iV (jH aD) bO<|aN (by exact bM<|cR (Ca<|cR (Ca<|lZ ia aQ ma) ma)<|Ca<|bOd (Ca<|Hz [97,98,99] Nc)<|aB aD aG)<|by exact aU<|Cj 3 aD)<|by exact bOg)
variable(qE:Ba P w K mg base "is_loop" 6 2 Du)(He:Ba P w K mg base "way_in" 3 4 rD)(yb:Md P w K mg base "Machine" "rooms_along" 1 3 [] dF)
def Ϟ(F:Ga K "round_in" "round_in" NE dV fa fd):xa P w K mg base zb 7 fa fd ["machine","bits","room"] (Mb K 3 wM):=cV F Y_ λb a=>(aN (jO (Bj<|jG<|bG qE<|aB aD<|aB aD aG) (aU yP) eO)<|aN (jO (Bj<|jG<|bG cM<|aB aD<|aB aD aG) (aU yP) eO)<|aN (jO (bQ eX eY (Ca<|bG bF<|aB aD aG)<|Ca<|mO<|aB aD aG) (aU<|bD<|cR (Ca<|Hz [97,98,99] Nc)<|Ca<|Ł (Ca<|cR (Ca<|lZ ia aQ ma) ma)<|aB aD aG) eO)<|aN (bM<|uR [])<|aN (bM aD)<|aN (iV (jH<|bG bF<|aB aD aG) bO<|aU<|jO (bQ Gu Hu ma<|Ca<|fD (pl:=_) (Md.plain yb) aD<|aB aD<|aB aD aG) (aN (by exact bM<|lG ma<|Ca<|bG He<|aB aD<|aB aD<|aB aD<|aB aD aG)<|by exact aU<|bM aD) eO)<|aU<|bD<|lG ma<|Ca<|bG He<|aB aD<|aB aD<|aB aD<|aB aD aG)
variable(pX:fc P w K mg base "rooms_reached" 2 1 pQ)(Xd:Ba P w K mg base "round_in" 7 3 wM)
def ô(F:Ga K "nest_of" "nest_of" FF dV fa fd):xa P w K mg base zb 8 fa fd ["machine","row"] (Mb K 2 mF):=cV F ϔ λa b=>(aN (Ru (jH<|iM (fc.plain pX) a (by decide)<|aB aD aG) (λ_ _ _ _ _=>bO) (λ_ _ _ _ _=>jG<|bG cM<|aB (cR ma Ua)<|aB (cR ma Ua) aG)<|λ_ _ _ _ _=>aD)<|aN (bM<|cR (Ca<|cR ma Ua) Ua)<|aN (bM<|cR (Ca<|cR ma Ua) Ua)<|aU<|bD<|Co<|aB aD<|aB (vG (jH aD) (λ_ _ _ _ _=>bO)<|λ_ _ _ _ _=>bG Xd<|aB aD<|aB aD<|aB aD aG) aG)
def d6(F:Ga K "check_room" "Machine.check_room" nR dV fa fd):xa P w K mg base zb 3 fa fd ["self","thing"] (Mb K 2 eZ):=cV F R5 λb a=>(aU<|jO (Bj<|jG<|bG qQ<|aB aD<|aB (lZ ia za ma) aG) (aU yP) eO)
variable(AI:mg "str"=none)
def õ(F:Ga K "is_word" "is_word" GF dV fa fd):xa P w K mg base zb 1 fa fd ["thing","many"] (Mb K 2 qR):=cV F ϕ λb a=>(aU<|bD<|yO (Qu ty_str dH AI ma)<|vD<|jF eX eY (Ca<|bKa ma<|aB (NY (Ca<|Hz [97,98,99] Nc) QW<|RW ma) aG)<|Ca<|uR [])
variable(vE:Ba P w K mg base "is_word" 1 2 qR)
def f6(F:Ga K "check_word" "Machine.check_word" nU dV fa fd):xa P w K mg base zb 2 fa fd ["self","thing"] (Mb K 2 fB):=cV F S5 λb a=>(aU<|jO (Bj<|jG<|bG vE<|aB aD<|aB (lZ ia Pb ma) aG) (aU yP) eO)
variable(iQ:ub P w K mg base "Machine" "check_room" 3 2 [] eZ)(vc:ub P w K mg base "Machine" "check_word" 2 2 [] fB)
def K7(F:Ga K "after" "Machine.after" vL dV fa fd):xa P w K mg base zb 4 fa fd ["self","room","text"] (Mb K 3 lW):=cV F T6 λb a=>(aN (UX<|fD (pl:=_) iQ aD<|aB aD aG)<|aN (UX<|fD (pl:=_) vc aD<|aB aD aG)<|aU<|bD<|cR (Ca<|fD (pl:=_) (Md.plain yb) aD<|aB aD<|aB aD aG)<|Ca<|Ss Ua)
variable(fC:Ba P w K mg base "seen_from" 4 2 iT)(Wa:Ba P w K mg base "loops_of_sort" 7 3 dB)(zd:Ba P w K mg base "nest_of" 8 2 mF)(sd:ub P w K mg base "Machine" "after" 4 3 [] lW)
def q_(F:Ga K "bar_behind" "bar_behind" LD dV fa fd):xa P w K mg base zb 9 fa fd ["machine","good"] (Mb K 2 lL):=cV F d9 λb a=>(aN (bM<|bG fC<|aB aD<|aB dC aG)<|aN (bM<|bG Wa<|aB aD<|aB aD<|aB aD aG)<|aN (iV (jH<|bG Wa<|aB aD<|aB aD<|aB (Yv aD) aG) bO<|aN (by exact bM<|bG zd<|aB aD<|aB (mO<|aB aD aG) aG)<|by exact aN (by exact bM<|fD (pl:=_) sd aD<|aB dC<|aB (cR ma Ua) aG)<|by exact aU<|iV (jH aD) bO<|aN (by exact bM<|cR (Ca<|bG bF<|aB aD aG) Ua)<|by exact aN (by exact bM<|bG He<|aB aD<|aB aD<|aB aD<|aB aD aG)<|by exact aU<|jO (bQ AF BF ma<|Ca Im) (aU<|bD<|Co<|aB (cR ma Ua)<|aB (cR (Ca<|cR ma Ua) Ua)<|aB aD<|aB (bG Xd<|aB aD<|aB aD<|aB aD aG) aG) eO)<|aU<|bD Im)
variable(lU:Ba P w K mg base "bar_behind" 9 2 lL)
def p9(F:Ga K "bar" "EarlyNo.bar" zJ dV fa fd):xa P w K mg base zb 10 fa fd ["self","machine"] (Mb K 2 iU):=cV F Z7 λb a=>(aU<|bD<|bG lU<|aB aD<|aB tK aG)
def B8(F:Ga K "bar" "EarlyYes.bar" xO dV fa fd):xa P w K mg base zb 10 fa fd ["self","machine"] (Mb K 2 jC):=cV F A7 λb a=>(aU<|bD<|bG lU<|aB aD<|aB tK aG)
def q9(F:Ga K "without_top" "without_top" zK dV fa fd):xa P w K mg base zb 4 fa fd ["machine","loop"] (Mb K 2 tW):=cV F b8 λb a=>(aN (bM<|bG Vc<|aB aD<|aB aD aG)<|aU<|bD<|bG Ib<|aB (rM (jH<|bG bF<|aB aD aG) (λ_ _ _ _ _=>bO) (λ_ _ _ _ _=>bQ qL qM (Ca<|cR (Ca<|lZ ia qa ma) ma) ma)<|λ_ _ _ _ _=>aD) aG)
def ö(F:Ga K "is_good" "is_good" HF dV fa fd):xa P w K mg base zb 4 fa fd ["machine","bits"] (Mb K 2 jJ):=cV F ϖ λb a=>(aU<|bD<|jF eX eY (Ca<|pN (Ca<|bG Vc<|aB aD<|aB aD aG) Ua) Ua)
variable(uG:Ba P w K mg base "without_top" 4 2 tW)(jd:Ba P w K mg base "is_good" 4 2 jJ)
def r9(F:Ga K "inner_loops" "inner_loops" zL dV fa fd):xa P w K mg base zb 6 fa fd ["machine","loop"] (Mb K 2 gG):=cV F d8 λb a=>(aN (qK<|wY aG)<|aN (qK<|wY<|aB aD aG)<|aN (EH (bQ qL qM nQ<|Ca<|mO aG)<|aN (by exact bOx 4 3 uG b (by decide) aD a)<|by exact aU<|iV (jH<|bG dO<|aB aD<|aB aD aG) bO<|aU<|jO (bQ eX eY (Ca<|bG jd<|aB aD<|aB aD aG)<|Ca<|bG jd<|aB aD<|aB aD aG) (aU<|Cj 3 aD)<|aU<|Cj 2 aD)<|aU<|Fj [2]<|bD aD)
variable(fG:Ba P w K mg base "inner_loops" 6 2 gG)
def r_(F:Ga K "bar_within" "bar_within" MD dV fa fd):xa P w K mg base zb 9 fa fd ["machine","good"] (Mb K 2 gH):=cV F e9 λb a=>(aN (iV (jH<|bG Wa<|aB aD<|aB (bG fC<|aB aD<|aB dC aG)<|aB aD aG) bO<|aN (by exact bM<|bG fG<|aB aD<|aB aD aG)<|by exact aU<|jO (bQ qL qM ma<|Ca<|mO aG) (aN (by exact bM<|bG zd<|aB aD<|aB (mO<|aB (cR ma Ua)<|aB aD aG) aG)<|by exact aU<|bD<|Co<|aB (cR ma Ua)<|aB (cR (Ca<|cR ma Ua) Ua)<|aB (uR [])<|aB (cR (Ca<|cR ma Ua) Ua) aG) eO)<|aU<|bD Im)
variable(fO:Ba P w K mg base "bar_within" 9 2 gH)
def s9(F:Ga K "bar" "Settled.bar" zM dV fa fd):xa P w K mg base zb 10 fa fd ["self","machine"] (Mb K 2 jQ):=cV F e8 λb a=>(aN (bM<|bG fO<|aB aD<|aB tK aG)<|aU<|bD<|Ls (bQ AF BF ma<|Ca Im) aD<|bG fO<|aB aD<|aB tK aG)
def ε(F:Ga K "bar" "Again.bar" nE dV fa fd):xa P w K mg base zb 10 fa fd ["self","machine"] (Mb K 2 nG):=cV F i_ λb a=>(aU<|bD<|bG fO<|aB aD<|aB tK aG)
def t9(F:Ga K "bar" "Lasting.bar" zN dV fa fd):xa P w K mg base zb 10 fa fd ["self","machine"] (Mb K 2 jR):=cV F g8 λb a=>(aU<|bD<|bG fO<|aB aD<|aB tK aG)
variable(yS:Ba P w K mg base "all_kinds" 1 0 uM)(Jb:ub P w K mg base "EarlyNo" "word" 1 1 [] mZ)(Fb:ub P w K mg base "EarlyYes" "word" 1 1 [] lV)(Lb:ub P w K mg base "Settled" "word" 1 1 [] nA)(qc:ub P w K mg base "Again" "word" 1 1 [] rB)(Kb:ub P w K mg base "Lasting" "word" 1 1 [] nC)(Xa:ub P w K mg base "EarlyNo" "bar" 10 2 [] iU)(Ra:ub P w K mg base "EarlyYes" "bar" 10 2 [] jC)(Za:ub P w K mg base "Settled" "bar" 10 2 [] jQ)(Ab:ub P w K mg base "Again" "bar" 10 2 [] nG)(Ya:ub P w K mg base "Lasting" "bar" 10 2 [] jR)
def ϟ(F:Ga K "kinds_of" "kinds_of" OE dV fa fd):xa P w K mg base zb 11 fa fd ["machine"] (Wi K 1 qF):=by
 refine QA (k:=10) F MO 1 2 FO (cT [1] (bb 1) (Wc<|aM uM aK) CD BD) rfl rfl λd A b s H E B a=>?_
 have c:=MO.nd;exact Uz<|WS (jH<|ŉ yS a<|by decide) (λ_ _ _ _ _=>bO) (λ_ _ _ _ _=>bQ UW VW (Ca<|jY (fD (pl:=_) Xa aD<|aB aD aG)<|jY (fD (pl:=_) Ra aD<|aB aD aG)<|jY (fD (pl:=_) Za aD<|aB aD aG)<|jY (fD (pl:=_) Ab aD<|aB aD aG)<|fD (pl:=_) Ya aD<|aB aD aG)<|Ca Im)<|λ_ _ _ _ _=>jY (uD (pl:=_) Jb a (by decide) aD)<|jY (uD (pl:=_) Fb a (by decide) aD)<|jY (uD (pl:=_) Lb a (by decide) aD)<|jY (uD (pl:=_) qc a (by decide) aD)<|uD (pl:=_) Kb a (by decide) aD
def ζ(F:Ga K "_law_kind" "_law_kind" pE dV fa fd):xa P w K mg base zb 1 fa fd ["_law_k"] (Mb K 1 cN):=cV F j_ λb a=>(aN (jO (bQ eX eY ma Ua) (aU<|bD<|zE Ke Cc Qd) eO)<|aN (jO (bQ eX eY ma Ua) (aU<|bD<|zE Yd Yb Hd) eO)<|aN (jO (bQ eX eY ma Ua) (aU<|bD<|zE Oe Ec Td) eO)<|aN (jO (bQ eX eY ma Ua) (aU<|bD<|zE Pf Ed xT) eO)<|aU<|bD<|zE Me Dc Sd)
def Ϡ(F:Ga K "ranks_by" "ranks_by" QE dV fa fd):xa P w K mg base zb 2 fa fd ["machine","bits","inside","outside"] (Mb K 4 qG):=cV F Z_ λb a=>(aU<|bD<|vG (wZ Ka<|Ca<|lZ ia za ma) (λ_ _ _ _ _=>bO)<|λ_ _ _ _ _=>Ls (jG<|bG cM<|aB aD<|aB aD aG) aD aD)
theorem Ŏ(F:Ga K "joined" "joined" FG dV fa fd):xa P w K mg base zb 1 fa fd ["sets"] (Mb K 1 Ku):=cV F ñ λb a=>(aN (bM dC)<|aN (iV (jH aD) bO<|aU<|bM<|Us ma ma)<|aU<|bD aD)
def ϡ(F:Ga K "reaching" "reaching" RE dV fa fd):xa P w K mg base zb 4 fa fd ["machine","goals"] (Mb K 2 ly):=cV F B' λb a=>(aN (bM<|bG gO<|aB (lZ ia aQ ma)<|aB (bG Mc<|aB aD aG) aG)<|aU<|bD<|bG Ib<|aB (rM (wZ Ka<|Ca<|lZ ia za ma) (λ_ _ _ _ _=>bO) (λ_ _ _ _ _=>bQ qL qM (Ca<|qO (Ca<|cR ma ma) ma) Ua)<|λ_ _ _ _ _=>aD) aG)
variable(xV:Ba P w K mg base "joined" 1 1 Ku)(Jf:Ba P w K mg base "reaching" 4 2 ly)
def L6(F:Ga K "never_coming_to" "never_coming_to" rN dV fa fd):xa P w K mg base zb 8 fa fd ["machine","wanted"] (Mb K 2 jL):=cV F u6 λb a=>(aN (bM<|bG Mc<|aB aD aG)<|aN (bM<|bG xV<|aB (bG Wa<|aB aD<|aB aD<|aB aD aG) aG)<|aU<|bD<|bOy ma<|Ca<|bG Jf<|aB aD<|aB aD aG)
variable(fP:Ba P w K mg base "never_coming_to" 8 2 jL)
def s_(F:Ga K "dead_rooms" "dead_rooms" ND dV fa fd):xa P w K mg base zb 9 fa fd ["machine"] (Mb K 1 vQ):=cV F f9 λb a=>(aU<|bD<|bG fP<|aB aD<|aB tK aG)
variable(jV:Ba P w K mg base "ranks_by" 2 4 qG)(We:Ba P w K mg base "dead_rooms" 9 1 vQ)
def o6(F:Ga K "ranks_for" "EarlyNo.ranks_for" pD dV fa fd):xa P w K mg base zb 10 fa fd ["self","machine"] (Mb K 2 fQ):=cV F Y5 λb a=>(aU<|bD<|bG jV<|aB aD<|aB (bG We<|aB aD aG)<|aB dC<|aB dC aG)
def t_(F:Ga K "sure_rooms" "sure_rooms" OD dV fa fd):xa P w K mg base zb 9 fa fd ["machine"] (Mb K 1 vR):=cV F g9 λb a=>(aU<|bD<|bG fP<|aB aD<|aB tK aG)
variable(wA:Ba P w K mg base "sure_rooms" 9 1 vR)
def i6(F:Ga K "ranks_for" "EarlyYes.ranks_for" nW dV fa fd):xa P w K mg base zb 10 fa fd ["self","machine"] (Mb K 2 gP):=cV F T5 λb a=>(aU<|bD<|bG jV<|aB aD<|aB (bG wA<|aB aD aG)<|aB dC<|aB dC aG)
def p6(F:Ga K "ranks_for" "Settled.ranks_for" pF dV fa fd):xa P w K mg base zb 8 fa fd ["self","machine"] (Mb K 2 iB):=cV F Z5 λb a=>(aN (bM<|bG xV<|aB (bG Wa<|aB aD<|aB (bG fC<|aB aD<|aB dC aG)<|aB tK aG) aG)<|aU<|bD<|bG jV<|aB aD<|aB aD<|aB dC<|aB dC aG)
def u9(F:Ga K "outer_loops" "outer_loops" zO dV fa fd):xa P w K mg base zb 6 fa fd ["machine"] (Mb K 1 pI):=cV F i8 λb a=>(aU<|bD<|bG dO<|aB aD<|aB (bG fC<|aB aD<|aB dC aG) aG)
theorem u_(F:Ga K "least_rank" "least_rank" PD dV fa fd):xa P w K mg base zb 1 fa fd ["base","good"] (Mb K 2 vU):=cV F i9 λb a=>(aU<|bD<|Ls (bQ eX eY (Ca<|jF eX eY (Ca<|pN ma Ua) Ua) ma) aD<|lG ma Ua)
variable(wB:Ba P w K mg base "least_rank" 1 2 vU)
def C8{b:bn}{n:Nat}(c:Ba P w K mg base "ranks_within" (7+n) 3 b)(F:Ga K "ranks_within" "ranks_within" xP dV fa fd):xa P w K mg base zb (7+n+1) fa fd ["machine","loop","base"] (Mb K 3<|bV 3 8<|GN b):=cV F tN λa d=>(aN nz<|aN (bM<|iM wB a (by omega)<|aB aD<|aB (iM jd a (by omega)<|aB aD<|aB aD aG) aG)<|aN (iV (jH<|iM fG a (by omega)<|aB aD<|aB aD aG) bO<|aN (by exact bM<|iM c a (by omega)<|aB aD<|aB aD<|aB aD aG)<|by exact aN (by exact bM<|SW yQ rfl ma<|Ca<|lG (Ca<|bP3 yQ rfl aD) Ua)<|by exact aU<|YX 3 aD)<|aN (iV (jH<|iM bF a (by omega)<|aB aD aG) bO<|aU<|bP2 3 aD aD)<|aU<|Fj [3]<|bD aD)
variable(jW:Ba P w K mg base "outer_loops" 6 1 pI)(Wd:Ba P w K mg base "ranks_within" 19 3 rE)
def v_(F:Ga K "ranks_from" "ranks_from" QD dV fa fd):xa P w K mg base zb 20 fa fd ["machine","base"] (Wi K 2 dM):=by
 refine QA (k:=19) F TN 2 5 PN (cT [4] (bb 4) (qZ<|e1 (iH "Machine" "many")<|aA 0) fK JN) rfl rfl λd A a s H E B b=>?_
 have c:=TN.nd;exact qz (by exact nz) (by exact qz (by exact iV (jH<|bG jW<|aB aD aG) bO<|aU<|YX 2<|bG Wd<|aB aD<|aB aD<|aB aD aG)<|by exact Uz<|bOo (wZ Ka<|Ca<|lZ ia za ma) (λ_ _ _ _ _=>bO)<|λ_ _ _ _ _=>bOv b.units nQ aD aD)
variable(eQ:fc P w K mg base "ranks_from" 20 2 dM)
def M6(F:Ga K "ranks_for" "Again.ranks_for" rO dV fa fd):xa P w K mg base zb 21 fa fd ["self","machine"] (Mb K 2 jM):=cV F w6 λa b=>(aU<|bD<|iM (fc.plain eQ) a (by decide)<|aB aD<|aB dC aG)
def t6(F:Ga K "ranks_for" "Lasting.ranks_for" pG dV fa fd):xa P w K mg base zb 21 fa fd ["self","machine"] (Mb K 2 iC):=cV F b6 λa b=>(aU<|bD<|iM (fc.plain eQ) a (by decide)<|aB aD<|aB dC aG)
variable(cI:ub P w K mg base "EarlyNo" "ranks_for" 10 2 [] fQ)(Ja:ub P w K mg base "EarlyYes" "ranks_for" 10 2 [] gP)(Ma:ub P w K mg base "Settled" "ranks_for" 8 2 [] iB)(Sa:ub P w K mg base "Again" "ranks_for" 21 2 [] jM)(La:ub P w K mg base "Lasting" "ranks_for" 21 2 [] iC)
def mJ(F:Ga K "marked" "Kind.marked" iW dV fa fd):xa P w K mg base zb 22 fa fd ["self","machine"] (Mb K 2 bL):=cV F j8 λa b=>(aN (jO (bQ AF BF (Ca<|jY (fD (pl:=_) Xa aD<|aB aD aG)<|jY (fD (pl:=_) Ra aD<|aB aD aG)<|jY (fD (pl:=_) Za aD<|aB aD aG)<|jY (fD (pl:=_) Ab aD<|aB aD aG)<|fD (pl:=_) Ya aD<|aB aD aG)<|Ca Im) (aU yP) eO)<|aU<|bD<|Qz eE a (by decide)<|aB (lZ ia aQ ma)<|aB (jY (fD (pl:=_) cI aD<|aB aD aG)<|jY (fD (pl:=_) Ja aD<|aB aD aG)<|jY (fD (pl:=_) Ma aD<|aB aD aG)<|jY (fD (pl:=_) Sa aD<|aB aD aG)<|fD (pl:=_) La aD<|aB aD aG) aG)
variable(cP:Ba P w K mg base "_law_kind" 1 1 cN)(uc:fc P w K mg base "kinds_of" 11 1 qF)(Ld:ub P w K mg base "Kind" "marked" 22 2 [] bL)(jb:ub P w K mg base "EarlyNo" "marked" 22 2 [] bL)(gb:ub P w K mg base "EarlyYes" "marked" 22 2 [] bL)(pb:ub P w K mg base "Settled" "marked" 22 2 [] bL)(Cb:ub P w K mg base "Again" "marked" 22 2 [] bL)(kb:ub P w K mg base "Lasting" "marked" 22 2 [] bL)
include Ka ia qa Jb Fb Lb qc Kb cP uc Ld jb gb pb Cb kb in
theorem w_(F:Ga K "_law_marks" "_law_marks" RD dV fa fd):xa P w K mg base zb 23 fa fd ["_law_machine_here","_law_due"] (Mb K 2 vV):=cV F j9 λa b=>(aN (iV (wZ Ka Ua) bO<|aU<|jO (bQ Nz Oz (Ca<|jY (uD (pl:=_) Jb a (by decide)<|bG cP<|aB aD aG)<|jY (uD (pl:=_) Fb a (by decide)<|bG cP<|aB aD aG)<|jY (uD (pl:=_) Lb a (by decide)<|bG cP<|aB aD aG)<|jY (uD (pl:=_) qc a (by decide)<|bG cP<|aB aD aG)<|uD (pl:=_) Kb a (by decide)<|bG cP<|aB aD aG) ma) (aN (by exact bM<|jY (fD (pl:=_) jb (bG cP<|aB aD aG)<|aB aD aG)<|jY (fD (pl:=_) gb (bG cP<|aB aD aG)<|aB aD aG)<|jY (fD (pl:=_) pb (bG cP<|aB aD aG)<|aB aD aG)<|jY (fD (pl:=_) Cb (bG cP<|aB aD aG)<|aB aD aG)<|fD (pl:=_) kb (bG cP<|aB aD aG)<|aB aD aG)<|by exact aU<|jO (PW.pt<|mw (bQ qL qM (Ca<|iM (fc.plain uc) a (by decide)<|aB aD aG) ma)<|Zv<|PW.pt<|kq (bQ Yr Sr ma Ua)<|Xr<|bQ qL qM (Ca<|lZ ia qa<|Ca<|jY (fD (pl:=_) jb (bG cP<|aB aD aG)<|aB aD aG)<|jY (fD (pl:=_) gb (bG cP<|aB aD aG)<|aB aD aG)<|jY (fD (pl:=_) pb (bG cP<|aB aD aG)<|aB aD aG)<|jY (fD (pl:=_) Cb (bG cP<|aB aD aG)<|aB aD aG)<|fD (pl:=_) kb (bG cP<|aB aD aG)<|aB aD aG)<|Ca<|lZ ia qa ma) (aU<|bD tK) eO) eO)<|aU<|bD tK)
def v9{b:bn}{n:Nat}(c:Ba P w K mg base "longest_row" (7+n) 3 b)(F:Ga K "longest_row" "longest_row" zP dV fa fd):xa P w K mg base zb (7+n+1) fa fd ["machine","loop","good"] (Mb K 3<|bV 3 6<|QN b):=cV F KN λa d=>(aN (bM<|Ls (bQ eX eY (Ca<|iM jd a (by omega)<|aB aD<|aB aD aG) ma) (mO<|aB aD aG)<|mO aG)<|aN (iV (jH<|iM fG a (by omega)<|aB aD<|aB aD aG) bO<|aN (by exact bM<|iM c a (by omega)<|aB aD<|aB aD<|aB aD aG)<|by exact aU<|jO (bQ Wz Jz (Ca<|lY cO ma)<|Ca<|lY cO ma) (aU<|bM<|lG ma<|Ca<|mO<|aB aD aG) eO)<|aU<|bD aD)
variable(uH:Ba P w K mg base "longest_row" 19 3 pJ)
def E8(F:Ga K "longest_nest" "longest_nest" xQ dV fa fd):xa P w K mg base zb 20 fa fd ["machine","good"] (Mb K 2 gQ):=cV F B7 λb a=>(aN (bM<|mO aG)<|aN (iV (jH<|bG jW<|aB aD aG) bO<|aN (by exact bM<|bG uH<|aB aD<|aB aD<|aB aD aG)<|by exact aU<|jO (bQ yo xo (Ca<|lY cO ma)<|Ca<|lY cO ma) (aU<|bM aD) eO)<|aU<|bD<|Ls (bQ qL qM ma<|Ca<|mO aG) (bG zd<|aB aD<|aB aD aG) Im)
variable(nZ:Ba P w K mg base "longest_nest" 20 2 gQ)
def bL3(F:Ga K "nests" "nests" JH dV fa fd):xa P w K mg base zb 21 fa fd ["machine"] (Mb K 1 Qy):=cV F ŋ λb a=>(aU<|bD<|Co<|aB (bG nZ<|aB aD<|aB tK aG)<|aB (bG nZ<|aB aD<|aB tK aG) aG)
def w9(F:Ga K "nest_length" "nest_length" zQ dV fa fd):xa P w K mg base zb 1 fa fd ["nest"] (Mb K 1 pK):=cV F m8 λb a=>(aU<|bD<|Ls (bQ UW VW ma<|Ca Im) dC<|lY cO<|Ca<|cR ma Ua)
variable(JF:Ba P w K mg base "nests" 21 1 Qy)(Gd:Ba P w K mg base "nest_length" 1 1 pK)
def F8(F:Ga K "lowest_ranks" "lowest_ranks" xR dV fa fd):xa P w K mg base zb 22 fa fd ["machine"] (Mb K 1 nJ):=cV F C7 λa b=>(aN (bM<|bG JF<|aB aD aG)<|aN (bM<|bG Gd<|aB (cR ma Ua) aG)<|aN (bM<|bG Gd<|aB (cR ma Ua) aG)<|aN (jO (bQ yo xo ma ma) (aU<|bD<|Co<|aB (iM (fc.plain eQ) a (by decide)<|aB aD<|aB dC aG)<|aB (mO<|aB (cR ma Ua) aG) aG) eO)<|aN (jO (bQ yo xo ma ma) (aU<|bD<|Co<|aB (iM (fc.plain eQ) a (by decide)<|aB aD<|aB dC aG)<|aB (mO<|aB (cR ma Ua) aG) aG) eO)<|aU<|bD<|Co<|aB (iM (fc.plain eQ) a (by decide)<|aB aD<|aB dC aG)<|aB (mO<|aB (cR ma Ua)<|aB (cR ma Ua) aG) aG)
variable(rQ:Ba P w K mg base "lowest_ranks" 22 1 nJ)
def ø(F:Ga K "lowered" "lowered" IF dV fa fd):xa P w K mg base zb 23 fa fd ["machine"] (Mb K 1 qy):=cV F ϗ λa b=>(aU<|bD<|Qz eE a (by decide)<|aB (lZ ia aQ ma)<|aB (cR (Ca<|bG rQ<|aB aD aG) Ua) aG)
variable(xE:Ba P w K mg base "lowered" 23 1 qy)
def A9(F:Ga K "_law_lowest" "_law_lowest" zR dV fa fd):xa P w K mg base zb 24 fa fd ["_law_machine_here","_law_due"] (Mb K 2 tX):=cV F o8 λa b=>(aN (bM<|bG xE<|aB aD aG)<|aN (bM<|bG fM<|aB (bG gM<|aB (lZ ia aQ ma) aG)<|aB dC<|aB dC aG)<|aN (bM<|bOz xU<|Ca<|rM (wZ Ka<|Ca<|lZ ia za ma) (λ_ _ _ _ _=>bO) (λ_ _ _ _ _=>bQ eX eY (Ca<|qO (Ca<|lq ma ma) Ua) Ua)<|λ_ _ _ _ _=>cR (Ca<|lZ ia qa ma) ma)<|aN (jO (bQ qL qM (Ca<|iM (fc.plain uc) a (by decide)<|aB aD aG) ma) (aU<|bD tK) eO)<|aN (jO (PW.pt<|kq (bQ Nz Oz (Ca<|uR [97,103,97,105,110]) ma)<|kq (bQ Gu Hu (Ca<|uR _) ma)<|Xr<|PW.pt<|mw (bQ Yr Sr (Ca<|cR ma Ua) Ua)<|Zv<|bQ yo xo (Ca<|cR ma<|Ca<|Ss Ua) Ua) (aU<|bD tK) eO)<|aU<|bD<|LY (jF Gu Hu (Ca<|uR _) ma)<|TX<|jF BI jI (Ca<|cR ma<|Ca<|Ss Ua) Ua)
variable(rR:Ba P w K mg base "_law_machine" 2 3 mY)(Be:Ba P w K mg base "_law_truths" 3 2 tR)(Ud:Ba P w K mg base "_law_doubled" 7 4 rA)(Ve:Ba P w K mg base "_law_marks" 23 2 vV)(Ae:Ba P w K mg base "_law_lowest" 24 2 tX)
def bRs(F:Ga K "law" "law" Jm dV fa fd):xa P w K mg base zb 25 fa fd ["_law_script"] (Mb K 1 Es):=cV F bP4 λa b=>(aN (bRf (bG rR<|aB aD<|aB dC<|aB dC aG)<|VX rfl<|jz<|jz NW)<|aN (bM<|mO<|aB (uR _)<|aB (uR _)<|aB (uR _)<|aB (uR [97,103,97,105,110])<|aB (uR _) aG)<|aN (bM<|bG Be<|aB aD<|aB aD aG)<|aN (Ru (wZ Ka Ua) (λ_ _ _ _ _=>bO) (λ_ _ _ _ _=>jG<|cR ma ma)<|λ_ _ _ _ _=>cR ma ma)<|aN (bM<|Qz eE a (by decide)<|aB (vG (jH aD) (λ_ _ _ _ _=>bO)<|λ_ _ _ _ _=>Sz Qc ma)<|aB (Sz Qc ma) aG)<|aN (bM<|bG Ud<|aB aD<|aB aD<|aB (bG jP<|aB aD<|aB dC aG)<|aB (bG jP<|aB aD<|aB dC aG) aG)<|aN (jO (PW.pt<|mw (bQ qL qM (Ca<|iM (fc.plain uc) a (by decide)<|aB aD aG) ma)<|Zv<|bQ qL qM (Ca<|iM (fc.plain uc) a (by decide)<|aB aD aG) ma) (aU<|bD tK) eO)<|aN (iV (jH<|mO<|aB aD<|aB aD aG) bO<|aU<|jO (PW.pt<|mw (Bj<|jG<|bG Ve<|aB aD<|aB aD aG)<|Zv<|Bj<|jG<|bG Ae<|aB aD<|aB aD aG) (aU<|bD tK) eO)<|aU<|bD tK)
end
theorem all_mk {l : OpenLaw}  {K : Frag}    (X : K.In h) (G : h.Ns mainGlobals mg) (hfa : mg "law" = some (.ref fa))
       {yk:Addr} {YB:Addr} {RL nI:o0} {sM:sK} {OL JL BK WL Jw eK:Value} {kC:Addr} {TL oI:o0} {AM:sK} {PL KL CK YL Kw kK:Value} {EK:Addr} {UL aw:o0} {CM:sK} {QL Hx Mw Ox zq Lw:Value}
  (V:ClsAt K "Again" Cd)
  (Pf:Bk K Cd)
  (Z:ClsAt K "EarlyNo" yc)
  (Ke:Bk K yc)
  (R:ClsAt K "EarlyYes" Wb)
  (Yd:Bk K Wb)
  (yq:ClsAt K "Kind" yk)
  (Y:ClsAt K "Lasting" Ac)
  (Me:Bk K Ac)
  (a:ClsAt K "Machine" Qa)
  (m:makesIn K Qa=true)
  (k:keepIn K (.ref Qa)=true)
  (W:ClsAt K "Settled" Bc)
  (Oe:Bk K Bc)
  (b:findIn K (.ref Qa) (ofString "letters")=some none)
  (f:findIn K (.ref Qa) (ofString "many")=some none)
  (d:findIn K (.ref Qa) (ofString "ranks")=some none)
  (c:findIn K (.ref Qa) (ofString "steps")=some none)
  (D1:DA K "_law_cell" WD)
  (D2:DA K "_law_pick" XD)
  (D3:DA K "_law_digits" zF)
  (D4:DA K "_law_goal" YD)
  (D5:DA K "_law_machine" xG)
  (D6:DA K "_law_goals" FD)
  (D7:DA K "_law_close" GD)
  (D8:DA K "_law_all_loops" tM)
  (D9:DA K "_law_top" EE)
  (W2:DA K "_law_good" ZD)
  (X2:DA K "_law_truths" zG)
  (Y2:DA K "is_filled_list" tQ)
  (Z2:DA K "is_whole" FE)
  (j3:DA K "is_below" HE)
  (u3:DA K "is_row" DG)
  (v3:DA K "are_steps" aE)
  (A3:DA K "are_ranks" bE)
  (a18:findIn K (.ref Qa) (ofString "__init__")=some (some<|.ref YB))
  (e18:isFn K (.ref YB)=true)
  (l18:K.lookup YB=some ⟨OL,RL,.func<|fnOf "__init__" "Machine.__init__" (jZ gD) (fH gD) (bT gD) .none JL BK WL nI Jw eK,sM⟩)
  (c18:codeIn K Jw "Machine.__init__"=true)
  (k18:keepIn K (.ref YB)=true)
  (B3:DA K "_law_doubled" xH)
  (C3:DA K "all_kinds" dE)
  (Y4:MA K yc "word" "word" "EarlyNo.word" xJ)
  (Z4:MA K Wb "word" "word" "EarlyYes.word" vH)
  (b5:MA K Bc "word" "word" "Settled.word" xK)
  (d5:MA K Cd "word" "word" "Again.word" HD)
  (j5:MA K Ac "word" "word" "Lasting.word" xM)
  (E3:DA K "has_room" IE)
  (F3:DA K "rooms_of" JE)
  (G3:DA K "bits_of" DF)
  (J3:DA K "seen_among" ID)
  (K3:DA K "all_rooms" fE)
  (L3:DA K "seen_from" gE)
  (M3:DA K "ranks_of_sort" vI)
  (N3:DA K "goes_round" JD)
  (O3:DA K "parts_among" zH)
  (Q3:DA K "loop_parts" KD)
  (R3:DA K "top_rank" ME)
  (S3:DA K "parts_topped" xN)
  (T3:DA K "loops_of_sort" vJ)
  (U3:DA K "ways_from" mE)
  (V3:DA K "rooms_reached" vK)
  (W3:DA K "is_loop" EF)
  (X3:DA K "way_in" EG)
  (a43:findIn K (.ref Qa) (ofString "rooms_along")=some (some<|.ref kC))
  (e43:isFn K (.ref kC)=true)
  (l43:K.lookup kC=some ⟨PL,TL,.func<|fnOf "rooms_along" "Machine.rooms_along" (jZ dZ) (fH dZ) (bT dZ) .none KL CK YL oI Kw kK,AM⟩)
  (c43:codeIn K Kw "Machine.rooms_along"=true)
  (k43:keepIn K (.ref kC)=true)
  (Y3:DA K "round_in" NE)
  (Z3:DA K "nest_of" FF)
  (n5:MA K Qa "check_room" "check_room" "Machine.check_room" nR)
  (j4:DA K "is_word" GF)
  (o5:MA K Qa "check_word" "check_word" "Machine.check_word" nU)
  (p5:MA K Qa "after" "after" "Machine.after" vL)
  (n4:DA K "bar_behind" LD)
  (t5:MA K yc "bar" "bar" "EarlyNo.bar" zJ)
  (u5:MA K Wb "bar" "bar" "EarlyYes.bar" xO)
  (o4:DA K "without_top" zK)
  (u4:DA K "is_good" HF)
  (B4:DA K "inner_loops" zL)
  (C4:DA K "bar_within" MD)
  (v5:MA K Bc "bar" "bar" "Settled.bar" zM)
  (w5:MA K Cd "bar" "bar" "Again.bar" nE)
  (A5:MA K Ac "bar" "bar" "Lasting.bar" zN)
  (E4:DA K "kinds_of" OE)
  (F4:DA K "_law_kind" pE)
  (G4:DA K "ranks_by" QE)
  (J4:DA K "joined" FG)
  (K4:DA K "reaching" RE)
  (L4:DA K "never_coming_to" rN)
  (M4:DA K "dead_rooms" ND)
  (B5:MA K yc "ranks_for" "ranks_for" "EarlyNo.ranks_for" pD)
  (N4:DA K "sure_rooms" OD)
  (C5:MA K Wb "ranks_for" "ranks_for" "EarlyYes.ranks_for" nW)
  (E5:MA K Bc "ranks_for" "ranks_for" "Settled.ranks_for" pF)
  (O4:DA K "outer_loops" zO)
  (P4:DA K "least_rank" PD)
  (HM:DA K "ranks_within" xP)
  (Q4:DA K "ranks_from" QD)
  (F5:MA K Cd "ranks_for" "ranks_for" "Again.ranks_for" rO)
  (G5:MA K Ac "ranks_for" "ranks_for" "Lasting.ranks_for" pG)
  (J5:MA K yk "marked" "marked" "Kind.marked" iW)
  (R4:DA K "_law_marks" RD)
  (IM:DA K "longest_row" zP)
  (S4:DA K "longest_nest" xQ)
  (T4:DA K "nests" JH)
  (U4:DA K "nest_length" zQ)
  (V4:DA K "lowest_ranks" xR)
  (W4:DA K "lowered" IF)
  (X4:DA K "_law_lowest" zR)
  (a86:nsIn K mainGlobals "law"=some (some<|.ref EK))
  (l86:K.lookup EK=some ⟨QL,UL,.func<|fnOf "law" "law" (jZ Jm) (fH Jm) (bT Jm) .none Hx Mw Ox aw zq Lw,CM⟩)
  (c86:codeIn K zq "law"=true)
  (k86:keepIn K (.ref EK)=true)
  (K5:MA K Cd "marked" "marked" "Kind.marked" iW)
  (L5:MA K yc "marked" "marked" "Kind.marked" iW)
  (M5:MA K Wb "marked" "marked" "Kind.marked" iW)
  (N5:MA K Ac "marked" "marked" "Kind.marked" iW)
  (O5:MA K Bc "marked" "marked" "Kind.marked" iW)
  (q:nsIn K mainGlobals "LETTERS"=some (some<|.str "abc" fg))
  (g:nsIn K mainGlobals "MOST_LETTERS"=some (some<|.int 3 ae))
  (j:nsIn K mainGlobals "MOST_ROOMS"=some (some<|.int 8 Ye))
  (N:nsIn K mainGlobals "all"=some none)
  (z:nsIn K mainGlobals "bool"=some none)
  (M:nsIn K mainGlobals "int"=some none)
  (i:nsIn K mainGlobals "isinstance"=some none)
  (L:nsIn K mainGlobals "len"=some none)
  (y:nsIn K mainGlobals "list"=some none)
  (J:nsIn K mainGlobals "max"=some none)
  (I:nsIn K mainGlobals "min"=some none)
  (u:nsIn K mainGlobals "range"=some none)
  (H:nsIn K mainGlobals "set"=some none)
  (t:nsIn K mainGlobals "sorted"=some none)
  (E:nsIn K mainGlobals "str"=some none)
  (D:nsIn K mainGlobals "zip"=some none) :
  ∃fd:FuncData,(∀(s:Shared)(v:Value),BindsTo s fd ⟨[v],[]⟩ [("_law_script",v)])/\∀base:Heap,K.In base->base.Ns mainGlobals mg->xa l.prog w K mg base zb 25 fa fd ["_law_script"] (Mb K 1 Es):=by
 have e:=hfa.symm.trans<|mg_of X G a86;cases e;have xT:=mg_of X G V.ns;have Qd:=mg_of X G Z.ns;have Hd:=mg_of X G R.ns;have Sd:=mg_of X G Y.ns;have Td:=mg_of X G W.ns;have Pb:oY K Qa (ofString "letters"):=b;have B:oY K Qa (ofString "many"):=f;have O:oY K Qa (ofString "ranks"):=d;have p:oY K Qa (ofString "steps"):=c;have JM:=bN0 (st:=gD) l18 c18 k18;have Ϥ:=JM.binds (ps:=["self","steps","ranks"]) λ_ _ _ _ _ _=>pz<|λ_ _ _=>rfl
 have LM:=oz (st:=dZ) l43 c43 k43;have ϥ:=LM.rh (ps:=["self","room","text"]) λ_ _ _ _ _ _=>pz<|λ_ _ _=>rfl
 have MM:=oz (st:=Jm) l86 c86 k86;have b86:=MM.rh (ps:=["_law_script"]) λ_ _ _ _ _ _=>HH<|λ_=>rfl
 have kg:=Kj X G N;have Ji:=Kj X G z;have xI:=Kj X G M;have dH:=Kj X G i;have o:=Kj X G L;have Qc:=Kj X G y;have yQ:=Kj X G J;have Yk:=Kj X G I;have r:=Kj X G u;have Zk:=Kj X G H;have xU:=Kj X G t;have AI:=Kj X G E;have zI:=Kj X G D;have Nc:=mg_of X G q;have Pd:=mg_of X G g;have Ue:=mg_of X G j;refine⟨fnOf "law" "law" (jZ Jm) (fH Jm) (bT Jm) .none Hx Mw Ox aw zq Lw,λs v=>.of_eq rfl,λbase _ _=>?_⟩
 have C:Ct l.prog w K mg base h:=⟨X,G⟩;have jP:=D1.ok C<|D' o;have Vb:=D2.ok C J';have Fd:=D3.ok C m9;have mf:=D4.ok C<|N' yQ Yk;have rR:=D5.ok C<|p8 o jP Vb Fd mf r;have gM:=D6.ok C k_;have fM:=D7.ok C<|l_ o r;have gc:=D8.ok C<|U6 o r fM;have SD:=D9.ok C<|Ϙ o yQ r;have me:=W2.ok C<|P' SD;have Be:=X2.ok C<|n9 fM gM gc me;have lA:=Y2.ok C<|V6 o dH Qc;have qP:=Z2.ok C<|ϙ dH xI Ji;have qQ:=j3.ok C<|Ϛ qP;have Dg:=u3.ok C<|Ō o qQ kg;have yR:=v3.ok C<|R' o kg lA Dg Ue Pd;have pf:=A3.ok C<|U' o dH Qc qP kg;have Hf:=A6 (P:=l.prog) (w:=w) (mg:=mg) (base:=base) o Qc yR pf a p O B Pb JM;have A:=wg.of a ⟨m,a18,e18,k⟩ Hf Ϥ<|mg_of X G a.ns;have Ud:=B3.ok C<|q8 o Vb r gM gc A;have yS:=C3.ok C<|V' V Z R Y W xT Qd Hd Sd Td Me Pf Oe Yd Ke;have Jb:=Y4.ok C Z t8;have Fb:=Z4.ok C R E7;have Lb:=b5.ok C W v8;have qc:=d5.ok C V m_;have Kb:=j5.ok C Y w8;have P:=E3.ok C ϛ;have x:=F3.ok C<|Ϝ r P;have Ib:=G3.ok C ò;have gO:=J3.ok C<|n_ P x Ib;have Mc:=K3.ok C<|Z' r Qc a B Ib;have fC:=L3.ok C<|γ a p gO Mc;have pW:=M3.ok C<|F7 a O x xU Zk;have vZ:=N3.ok C<|o_ o x;have uF:=O3.ok C<|o9 P x Ib gO vZ;have dO:=Q3.ok C<|p_ a p uF;have Vc:=R3.ok C<|ϝ yQ a O x;have Vd:=S3.IC C<|A8 a O x Ib dO Vc;have Wa:=T3.ok C<|G7 pW Vd;have nY:=U3.ok C<|δ o zI Nc;have pX:=V3.IC C<|J7 r Qc a p B nY;have qE:=W3.ok C<|ó dO;have He:=X3.ok C<|ō a p P x nY;have ff:=U5 (P:=l.prog) (w:=w) (mg:=mg) (base:=base) a p Nc LM;have yb:Md l.prog w K mg base "Machine" "rooms_along" 1 3 [] dF:=Md.of (Se:=[]) a ⟨a43,e43,k43⟩ ff ϥ (.nil) λ_=>.nil
 have Xd:=Y3.ok C<|Ϟ a p P x Nc qE He yb;have zd:=Z3.ok C<|ô P pX Xd;have iQ:=n5.ok C a<|d6 qQ a B;have vE:=j4.ok C<|õ dH Nc AI;have vc:=o5.ok C a<|f6 a Pb vE;have sd:=p5.ok C a<|K7 yb iQ vc;have lU:=n4.ok C<|q_ x He Xd fC Wa zd sd;have T:=t5.ok C Z<|p9 lU;have U:=u5.ok C R<|B8 lU;have uG:=o4.ok C<|q9 a O x Ib Vc;have jd:=u4.ok C<|ö Vc;have fG:=B4.ok C<|r9 dO uG jd;have fO:=C4.ok C<|r_ fC Wa zd fG;have Q:=v5.ok C W<|s9 fO;have Ab:=w5.ok C V<|ε fO;have S:=A5.ok C Y<|t9 fO;have uc:=E4.IC C<|ϟ yS Jb Fb Lb qc Kb T U Q Ab S;have cP:=F4.ok C<|ζ V Z R Y W xT Qd Hd Sd Td Me Pf Oe Yd Ke;have jV:=G4.ok C<|Ϡ r a B P;have xV:=J4.ok C Ŏ;have Jf:=K4.ok C<|ϡ r a p B Ib gO Mc;have fP:=L4.ok C<|L6 Mc Wa xV Jf;have We:=M4.ok C<|s_ fP;have cI:=B5.ok C Z<|o6 jV We;have wA:=N4.ok C<|t_ fP;have Ja:=C5.ok C R<|i6 jV wA;have Ma:=E5.ok C W<|p6 fC Wa xV jV;have jW:=O4.ok C<|u9 dO fC;have wB:=P4.ok C u_;have rg:∀n,Ba l.prog w K mg base "ranks_within" (7+n) 3 (pR n):=by
  intro n
  induction n with
  |zero=>exact HM.ok C<|λF=>MI (k:=6) F tN 3 8 pA rfl rfl λ_ _ _ _ _ _ _ _=>YS
  |succ n ih=>exact HM.ok C<|C8 yQ x jd fG wB ih
 have Wd:Ba l.prog w K mg base "ranks_within" 19 3 rE:=rg 12;have eQ:=Q4.IC C<|v_ r a B jW Wd;have Sa:=F5.ok C V<|M6 eQ;have La:=G5.ok C Y<|t6 eQ;have Ld:=J5.ok C yq<|mJ a p A T U Q Ab S cI Ja Ma Sa La;have Cb:=K5.ok C V<|mJ a p A T U Q Ab S cI Ja Ma Sa La;have jb:=L5.ok C Z<|mJ a p A T U Q Ab S cI Ja Ma Sa La;have gb:=M5.ok C R<|mJ a p A T U Q Ab S cI Ja Ma Sa La;have kb:=N5.ok C Y<|mJ a p A T U Q Ab S cI Ja Ma Sa La;have pb:=O5.ok C W<|mJ a p A T U Q Ab S cI Ja Ma Sa La;have Ve:=R4.ok C<|w_ r a O Jb Fb Lb qc Kb cP uc Ld jb gb pb Cb kb;have Fg:∀n,Ba l.prog w K mg base "longest_row" (7+n) 3 (nH n):=by
  intro n
  induction n with
  |zero=>exact IM.ok C<|λF=>MI (k:=6) F KN 3 6 pA rfl rfl λ_ _ _ _ _ _ _ _=>YS
  |succ n ih=>exact IM.ok C<|v9 o jd fG ih
 have uH:Ba l.prog w K mg base "longest_row" 19 3 pJ:=Fg 12;have nZ:=S4.ok C<|E8 o zd jW uH;have JF:=T4.ok C<|bL3 nZ;have Gd:=U4.ok C<|w9 o;have rQ:=V4.ok C<|F8 eQ JF Gd;have xE:=W4.ok C<|ø a p A rQ;have Ae:=X4.ok C<|A9 r fM gM a p O B xU uc xE;have Qw:=bRs (P:=l.prog) (w:=w) (mg:=mg) (base:=base) jP r Qc A uc rR Be Ud Ve Ae MM;exact Qw
theorem bL4{q:Program} {K:Params->Frag} {k:bv} {t:Nat} {r:PySem.W.RowW} {d:DefRec} {l:List (Str×Expr)} {run:Value->cr->Sem Value} (e:∀P,k=(K P).map (·.1)) (h:WalkO q loose XP (InK K) r d l run):PySem.W.WalkX q loose XP (PySem.W.X.obsZ k) (PySem.W.X.valZ K n t) r d l run:=
 λw H F mg p G y a o m E i dV kV D C B A z x c b j L v u s g f=>h w H F mg p G (PySem.W.InK.keeps w _ _ (PySem.W.X.z_facts e y).2.1 L.keeps) a o m E i dV kV D C B A z x c b j v u s g f
theorem walk{l:OpenLaw}{q:Program} {g:AT} {d:DefRec} {K:Params->Frag} (i:l.most=some 63) (n:d.params.defaults=[])
  (k:∀(w:World)(h:Heap),g w h->(K w.params).In h)
  (b:∀ns:jp,ns.length<=63->Es [.lst<|ns.map D.int]=.ok (.bl true))
  (F:∀(w:World)(mg:db)(e:Addr)(h:Heap),(K w.params).In h->h.Ns mainGlobals mg->mg d.name=some (.ref e)->
   ∃c:FuncData,(∀(s:Shared)(u:Value),BindsTo s c ⟨[u],[]⟩ [("_law_script",u)])/\∀base:Heap,(K w.params).In base->base.Ns mainGlobals mg->xa l.prog w (K w.params) mg base zb 25 e c ["_law_script"] (Mb (K w.params) 1 Es)) :
  WalkO q loose XP g l.row.toRowW d [] (λf vs=>PySem.call f vs):=
 L2.bo (n:=63) (k:=25) (x:="_law_script") (CX:=λ_=>zb) (sp:=λw=>Mb (K w.params) 1 Es) i (by decide) n ⟨rfl,by decide,by decide⟩ k F (λ_ _ a ns j _ m=>bO8 m<|b ns j) λ_ _ _ _ _ z=>z
end Pu
set_option genInjectivity false
set_option genSizeOf false
structure PySem.W.Fast where (tw8599543031116600148 tw1798530636639601804 tw13772112612744032757 tw5201717902515242407 tw816446248311952319 tw5709955733604654556 tw1192674785647285217 tw10953585217723634699 tw6175102679468226814 tw13347358388053377695 tw3822212030123720699 tw4966513878949094262 tw3513351048559093379 tw3498158140316118373 tw15591430476151509881 tw359588095504677751 tw5629142722397097770 tw4538525862762059916 tw8288662682147314515 tw5277666641973502788 tw17840910900189572381 tw6590517125420608754 tw18156247752568724884 tw8606789924989411741 tw377553062010413831 tw12386177781144713674 tw15148681420850574669 tw13126136469941780426 tw15527523097050530615 tw13772151458718849466 tw12528330581394380342 tw18113598510073724148 tw5783917694944963245 tw2877122472833005437 tw5247426052303960961 tw13213903345184426087 tw6640488927837626945 tw7129368298711744894 tw1779783595774623789 tw16332704261877189294 tw6736899980318893274 tw15179971611666566313 tw8592331111895159290 tw17124245011993156225 tw3344385483108581074 tw262136524957453850 tw11952310294743239177 tw6400820481448381184 tw15078213438934545979 tw9647048479505165287 tw13907950423049752137 tw9168443457299954849 tw4459482834716715479 tw13499641348367308274 tw17231130186547237646 tw4074445577552518121 tw1119727317697772011 tw715253376940320979 tw3265327430237025835 tw1175655090841035545 tw3879230507457392650 tw12413381553437939480 tw9933439540772671355 tw12980072085190933423 tw18205013012256368346 tw3837857397551497208 tw16583536721769987400 tw16654521975229569387 tw16990675429444748328 tw11645474651460110077 tw13705234234105605601 tw13228222127625576476 tw9829179810735459641 tw5356861679427565913 tw13472386602510332495 tw3867273470865979901 tw2765407553183317837 tw11159687867107831749 tw2356430031173461479 tw10736539904979503481 tw1349635025894891254 tw12246333906620060262 tw3253717166789089109 tw18160651808522572946 tw13467214746466809150 tw6517455616844513759 tw1237444619435289487 tw14227835020898846394 tw6617794161206255453 tw2866892084309976388 tw2549115340205966184 tw18006439597584147748 tw16513985968553305520 tw4445251986968370034 tw7025317977543794804 tw10419758369960748630 tw9071492492453463084 tw15649448448761409110 tw3101515140677450241 tw6439941735899106318 tw10080916932612788561 tw8441697622853243170 tw13141340748713083440 tw12665748383439581185 tw2969736236808500020 tw6133605117661981737 tw13789591577528516219 tw7322495506954327956 tw15257352954591524052 tw3128531052284046864 tw15747845898552178327 tw9209114261097159781 tw10540084006083727762 tw478297585445562098 tw5670689853315543603 tw8393657793332937433 tw3533785836214655384 tw14201660858387000608 tw7926693131575993617 tw7825366721169427786 tw4613805757471501852 tw14925735893148019324 tw13661438361810377842 tw11400359957300487749 tw16895076656272112864 tw5520170392551508547 tw6648690807077070741 tw5070586040451612024 tw17497404884684839449 tw15451928552313377227 tw15916623669168486754 tw14648564321262843723 tw8237062387185798817 tw2012104660602402039 tw14021470392827721040 tw10891505152372559327 tw8566930612012796164 tw4838089872483312192 tw3529064772041276907 tw1384597304322348235 tw8727780419511799713 tw15389415986954475818 tw3767316687151687302 tw6677585584713938535 tw15577011450146051865 tw9234347368833885036 tw15810592010525524480 tw6080531528517194533 tw998102247352381463 tw4367220845438320945 tw7670897728500248576 tw5745819726168402558 tw8166270166687598484 tw3953543820211644012 tw1532831716399979588 tw13547605143122682453 tw10200843620330184666 tw2949446135219221072 tw2824792687240297171 tw4284140458894545426 tw13880365213278204242 tw11529070687979724430 tw6593182586620276689 tw825082499640656117 tw4491028894314086622 tw11147377532445712884 tw15768137345564659651 tw12666613502745744185 tw2226039879409294589 tw6023038935739939361 tw13312262730134770904 tw10705069404981126933 tw6012415863182057699 tw14151226208470419235 tw2734431517780253554 tw18070766356961903126 tw11290239180456925421 tw9612316612557027136 tw425941758571826115 tw16189603939769915144 tw12784574703646342692 tw17374313517091646361 tw17092216902257015675 tw14758750674938084233 tw13584014473290366230 tw7825232613228047967 tw5748582973938279279 tw15121296583070862949 tw1554851119976973859 tw13016476562479856014 tw13909070465493999839 tw11522698126686020057 tw12539927209279871461 tw16462006698852617094 tw17867858319756523015 tw948773498656037658 tw18408987226267496292 tw367563505897932845 tw5834594186807107910 tw9772211633339727376 tw8517722148428078128 tw7418054690749193553 tw7210442625828822992 tw3255616914473441984 tw1794794716742887595 tw16435612299103394586 tw18289491044339335176 tw2467352298326004591 tw14117101079865363842 tw15636025962558050470 tw3720114258513294637 tw16207450405836833794 tw8330992381208022997 tw11887241816398613711 tw8892358885583170620 tw1541329989539119106 tw4882764270321895112 tw4181219974961349333 tw6204616103811890473 tw1351938351576027350 tw7467824464721702645 tw4244128123033536761 tw713203728728358088 tw7474574224732699874 tw9440830350617964261 tw677479457964147240 tw8179962069287342845 tw8252436082388645256 tw7545266688738057104 tw3051660710479572721 tw2885392476181609143 tw16376509922105989573 tw4140434380539307454 tw16269926283092821705 tw11602165247379255557 tw18191928785529646039 tw2404836292512780786 tw3255807215671526779:Nat)
open PySem PySem.W PyProof.Rows
set_option maxRecDepth 100000 in
set_option maxHeartbeats 0 in
theorem PySem.Challenge.cw_looprank_k45_whole_kinds_of_words_holds : PySem.Challenge.rw_looprank_k45_whole_kinds_of_words.Holds := by
 w_on;o_law;z_head;(case hw=>w_witness2)
 k_fill
 refine Pu.bL4 (λP=>by kernel_rfl) (Pu.walk (l:=PySem.Challenge.rw_looprank_k45_whole_kinds_of_words) rfl rfl (λw h Y=>Y) Pu.law_true ?F)
 case F=>
  intro w mg fa h KX G hmg;refine' Pu.all_mk KX G hmg ⟨?x_Again,?x1_Again,?x2_Again,?x3_Again,?x4_Again⟩ ⟨?x5_Again,?x7_Again,?x6_Again⟩ ⟨?x_EarlyNo,?x1_EarlyNo,?x2_EarlyNo,?x3_EarlyNo,?x4_EarlyNo⟩ ⟨?x5_EarlyNo,?x7_EarlyNo,?x6_EarlyNo⟩ ⟨?x_EarlyYes,?x1_EarlyYes,?x2_EarlyYes,?x3_EarlyYes,?x4_EarlyYes⟩ ⟨?x5_EarlyYes,?x7_EarlyYes,?x6_EarlyYes⟩ ⟨?x_Kind,?x1_Kind,?x2_Kind,?x3_Kind,?x4_Kind⟩ ⟨?x_Lasting,?x1_Lasting,?x2_Lasting,?x3_Lasting,?x4_Lasting⟩ ⟨?x5_Lasting,?x7_Lasting,?x6_Lasting⟩ ⟨?x_Machine,?x1_Machine,?x2_Machine,?x3_Machine,?x4_Machine⟩ ?x5_Machine ?x6_Machine ⟨?x_Settled,?x1_Settled,?x2_Settled,?x3_Settled,?x4_Settled⟩ ⟨?x5_Settled,?x7_Settled,?x6_Settled⟩ ?w_Machine_letters ?w_Machine_many ?w_Machine_ranks ?w_Machine_steps (Pu.cF ?a1 ?l1 ?c1 ?k1) (Pu.cF ?a2 ?l2 ?c2 ?k2) (Pu.cF ?a3 ?l3 ?c3 ?k3) (Pu.cF ?a4 ?l4 ?c4 ?k4) (Pu.cF ?a5 ?l5 ?c5 ?k5) (Pu.cF ?a6 ?l6 ?c6 ?k6) (Pu.cF ?a7 ?l7 ?c7 ?k7) (Pu.cF ?a8 ?l8 ?c8 ?k8) (Pu.cF ?a9 ?l9 ?c9 ?k9) (Pu.cF ?a10 ?l10 ?c10 ?k10) (Pu.cF ?a11 ?l11 ?c11 ?k11) (Pu.cF ?a12 ?l12 ?c12 ?k12) (Pu.cF ?a13 ?l13 ?c13 ?k13) (Pu.cF ?a14 ?l14 ?c14 ?k14) (Pu.cF ?a15 ?l15 ?c15 ?k15) (Pu.cF ?a16 ?l16 ?c16 ?k16) (Pu.cF ?a17 ?l17 ?c17 ?k17) ?a18 ?e18 ?l18 ?c18 ?k18 (Pu.cF ?a19 ?l19 ?c19 ?k19) (Pu.cF ?a20 ?l20 ?c20 ?k20) (Pu.mQ ?a21 ?e21 ?l21 ?c21 ?k21) (Pu.mQ ?a22 ?e22 ?l22 ?c22 ?k22) (Pu.mQ ?a23 ?e23 ?l23 ?c23 ?k23) (Pu.mQ ?a24 ?e24 ?l24 ?c24 ?k24) (Pu.mQ ?a25 ?e25 ?l25 ?c25 ?k25) (Pu.cF ?a26 ?l26 ?c26 ?k26) (Pu.cF ?a27 ?l27 ?c27 ?k27) (Pu.cF ?a28 ?l28 ?c28 ?k28) (Pu.cF ?a29 ?l29 ?c29 ?k29) (Pu.cF ?a30 ?l30 ?c30 ?k30) (Pu.cF ?a31 ?l31 ?c31 ?k31) (Pu.cF ?a32 ?l32 ?c32 ?k32) (Pu.cF ?a33 ?l33 ?c33 ?k33) (Pu.cF ?a34 ?l34 ?c34 ?k34) (Pu.cF ?a35 ?l35 ?c35 ?k35) (Pu.cF ?a36 ?l36 ?c36 ?k36) (Pu.cF ?a37 ?l37 ?c37 ?k37) (Pu.cF ?a38 ?l38 ?c38 ?k38) (Pu.cF ?a39 ?l39 ?c39 ?k39) (Pu.cF ?a40 ?l40 ?c40 ?k40) (Pu.cF ?a41 ?l41 ?c41 ?k41) (Pu.cF ?a42 ?l42 ?c42 ?k42) ?a43 ?e43 ?l43 ?c43 ?k43 (Pu.cF ?a44 ?l44 ?c44 ?k44) (Pu.cF ?a45 ?l45 ?c45 ?k45) (Pu.mQ ?a46 ?e46 ?l46 ?c46 ?k46) (Pu.cF ?a47 ?l47 ?c47 ?k47) (Pu.mQ ?a48 ?e48 ?l48 ?c48 ?k48) (Pu.mQ ?a49 ?e49 ?l49 ?c49 ?k49) (Pu.cF ?a50 ?l50 ?c50 ?k50) (Pu.mQ ?a51 ?e51 ?l51 ?c51 ?k51) (Pu.mQ ?a52 ?e52 ?l52 ?c52 ?k52) (Pu.cF ?a53 ?l53 ?c53 ?k53) (Pu.cF ?a54 ?l54 ?c54 ?k54) (Pu.cF ?a55 ?l55 ?c55 ?k55) (Pu.cF ?a56 ?l56 ?c56 ?k56) (Pu.mQ ?a57 ?e57 ?l57 ?c57 ?k57) (Pu.mQ ?a58 ?e58 ?l58 ?c58 ?k58) (Pu.mQ ?a59 ?e59 ?l59 ?c59 ?k59) (Pu.cF ?a60 ?l60 ?c60 ?k60) (Pu.cF ?a61 ?l61 ?c61 ?k61) (Pu.cF ?a62 ?l62 ?c62 ?k62) (Pu.cF ?a63 ?l63 ?c63 ?k63) (Pu.cF ?a64 ?l64 ?c64 ?k64) (Pu.cF ?a65 ?l65 ?c65 ?k65) (Pu.cF ?a66 ?l66 ?c66 ?k66) (Pu.mQ ?a67 ?e67 ?l67 ?c67 ?k67) (Pu.cF ?a68 ?l68 ?c68 ?k68) (Pu.mQ ?a69 ?e69 ?l69 ?c69 ?k69) (Pu.mQ ?a70 ?e70 ?l70 ?c70 ?k70) (Pu.cF ?a71 ?l71 ?c71 ?k71) (Pu.cF ?a72 ?l72 ?c72 ?k72) (Pu.cF ?a73 ?l73 ?c73 ?k73) (Pu.cF ?a74 ?l74 ?c74 ?k74) (Pu.mQ ?a75 ?e75 ?l75 ?c75 ?k75) (Pu.mQ ?a76 ?e76 ?l76 ?c76 ?k76) (Pu.mQ ?a77 ?e77 ?l77 ?c77 ?k77) (Pu.cF ?a78 ?l78 ?c78 ?k78) (Pu.cF ?a79 ?l79 ?c79 ?k79) (Pu.cF ?a80 ?l80 ?c80 ?k80) (Pu.cF ?a81 ?l81 ?c81 ?k81) (Pu.cF ?a82 ?l82 ?c82 ?k82) (Pu.cF ?a83 ?l83 ?c83 ?k83) (Pu.cF ?a84 ?l84 ?c84 ?k84) (Pu.cF ?a85 ?l85 ?c85 ?k85) ?a86 ?l86 ?c86 ?k86 (Pu.mQ ?aI0 ?eI0 ?lI0 ?cI0 ?kI0) (Pu.mQ ?aI1 ?eI1 ?lI1 ?cI1 ?kI1) (Pu.mQ ?aI2 ?eI2 ?lI2 ?cI2 ?kI2) (Pu.mQ ?aI3 ?eI3 ?lI3 ?cI3 ?kI3) (Pu.mQ ?aI4 ?eI4 ?lI4 ?cI4 ?kI4) ?v_LETTERS ?v_MOST_LETTERS ?v_MOST_ROOMS ?z_all ?z_bool ?z_int ?z_isinstance ?z_len ?z_list ?z_max ?z_min ?z_range ?z_set ?z_sorted ?z_str ?z_zip
  (case x_Again|x1_Again|x2_Again|x3_Again|x4_Again|x5_Again|x7_Again|x6_Again|x_EarlyNo|x1_EarlyNo|x2_EarlyNo|x3_EarlyNo|x4_EarlyNo|x5_EarlyNo|x7_EarlyNo|x6_EarlyNo|x_EarlyYes|x1_EarlyYes|x2_EarlyYes|x3_EarlyYes|x4_EarlyYes|x5_EarlyYes|x7_EarlyYes|x6_EarlyYes=>k_is)
  (case x_Kind|x1_Kind|x2_Kind|x3_Kind|x4_Kind|x_Lasting|x1_Lasting|x2_Lasting|x3_Lasting|x4_Lasting|x5_Lasting|x7_Lasting|x6_Lasting|x_Machine|x1_Machine|x2_Machine|x3_Machine|x4_Machine|x5_Machine|x6_Machine|x_Settled|x1_Settled|x2_Settled|x3_Settled=>k_is)
  (case x4_Settled|x5_Settled|x7_Settled|x6_Settled|w_Machine_letters|w_Machine_many|w_Machine_ranks|w_Machine_steps|a1|l1|c1|k1|a2|l2|c2|k2|a3|l3|c3|k3|a4|l4|c4|k4=>k_is)
  (case a5|l5|c5|k5|a6|l6|c6|k6|a7|l7|c7|k7|a8|l8|c8|k8|a9|l9|c9|k9|a10|l10|c10|k10=>k_is)
  (case a11|l11|c11|k11|a12|l12|c12|k12|a13|l13|c13|k13|a14|l14|c14|k14|a15|l15|c15|k15|a16|l16|c16|k16=>k_is)
  (case a17|l17|c17|k17|a18|e18|l18|c18|k18|a19|l19|c19|k19|a20|l20|c20|k20|a21|e21|l21|c21|k21|a22|e22=>k_is)
  (case l22|c22|k22|a23|e23|l23|c23|k23|a24|e24|l24|c24|k24|a25|e25|l25|c25|k25|a26|l26|c26|k26|a27|l27=>k_is)
  (case c27|k27|a28|l28|c28|k28|a29|l29|c29|k29|a30|l30|c30|k30|a31|l31|c31|k31|a32|l32|c32|k32|a33|l33=>k_is)
  (case c33|k33|a34|l34|c34|k34|a35|l35|c35|k35|a36|l36|c36|k36|a37|l37|c37|k37|a38|l38|c38|k38|a39|l39=>k_is)
  (case c39|k39|a40|l40|c40|k40|a41|l41|c41|k41|a42|l42|c42|k42|a43|e43|l43|c43|k43|a44|l44|c44|k44|a45=>k_is)
  (case l45|c45|k45|a46|e46|l46|c46|k46|a47|l47|c47|k47|a48|e48|l48|c48|k48|a49|e49|l49|c49|k49|a50|l50=>k_is)
  (case c50|k50|a51|e51|l51|c51|k51|a52|e52|l52|c52|k52|a53|l53|c53|k53|a54|l54|c54|k54|a55|l55|c55|k55=>k_is)
  (case a56|l56|c56|k56|a57|e57|l57|c57|k57|a58|e58|l58|c58|k58|a59|e59|l59|c59|k59|a60|l60|c60|k60|a61=>k_is)
  (case l61|c61|k61|a62|l62|c62|k62|a63|l63|c63|k63|a64|l64|c64|k64|a65|l65|c65|k65|a66|l66|c66|k66|a67=>k_is)
  (case e67|l67|c67|k67|a68|l68|c68|k68|a69|e69|l69|c69|k69|a70|e70|l70|c70|k70|a71|l71|c71|k71|a72|l72=>k_is)
  (case c72|k72|a73|l73|c73|k73|a74|l74|c74|k74|a75|e75|l75|c75|k75|a76|e76|l76|c76|k76|a77|e77|l77|c77=>k_is)
  (case k77|a78|l78|c78|k78|a79|l79|c79|k79|a80|l80|c80|k80|a81|l81|c81|k81|a82|l82|c82|k82|a83|l83|c83=>k_is)
  (case k83|a84|l84|c84|k84|a85|l85|c85|k85|a86|l86|c86|k86|aI0|eI0|lI0|cI0|kI0|aI1|eI1|lI1|cI1|kI1|aI2=>k_is)
  (case eI2|lI2|cI2|kI2|aI3|eI3|lI3|cI3|kI3|aI4|eI4|lI4|cI4|kI4|v_LETTERS|v_MOST_LETTERS|v_MOST_ROOMS|z_all|z_bool|z_int|z_isinstance|z_len|z_list|z_max=>k_is)
  (case z_min|z_range|z_set|z_sorted|z_str|z_zip=>k_is)
