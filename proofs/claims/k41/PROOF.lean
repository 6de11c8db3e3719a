import PyProof.Rows.All
import Wide.All
import OpenK.AllK
import Wide.FinOn
import Lean
import PyProof.EqAt
import PyProof.EqKinds
import PyProof.TupleCall
import PyProof.P3Eq
import PyProof.NeKinds
import PyProof.NsDelKeeps
import PyProof.RulesAs
import PyProof.ExcAttrAll.ValueError
import PyProof.DictUpdate
import KE.KDictLaws
import PySem.Challenge.RW_looprank_k41_marked
set_option Elab.async false
set_option linter.all false
set_option maxRecDepth 100000
def Ja:=@PySem.wpAny_bind
def Qb:=@List.mem_cons_of_mem
def ud:=@PySem.Heap.get?_push_of_some
def Jb:=@List.mem_cons_self
def Uc:=@decide_eq_true
def Kc:=@List.mem_cons
def Nf:=@List.getElem?_eq_getElem
def Ce:=@List.mem_singleton
def Zb:=@PySem.wpAny_pure
def fe:=@decide_eq_false
def Be:=@List.mem_filter
def Og:=@List.getElem?_eq_some_iff
def Zc:=@Nat.le_refl
def Vf:=@PySem.Heap.get?_push_size
def Se:=@List.mem_range
def gb:=@if_neg
def Ud:=@PySem.Heap.lt_size
def Pg:=@List.mem_append_right
def kb:=@if_pos
def Cg:=@Bool.false_ne_true
def Ig:=@Nat.lt_of_lt_of_le
def Te:=@List.length_cons
def Yd:=@List.length_map
def Jg:=@decide_eq_true_eq
def bf:=@Nat.le_trans
def Wf:=@List.length_append
def Fh:=@List.mem_append_left
def oi:=@List.getD_eq_getElem?_getD
def dh:=@List.size_toArray
def eh:=@List.getElem?_set
def Cf:=@Nat.ne_of_lt
def Vd:=@List.map_cons
def bg:=@List.mem_map
def Gh:=@List.length_singleton
def Am:=@Classical.byContradiction
def Bm:=@Array.getElem?_eq_getElem
def Hh:=@List.mem_append
def cj:=@of_decide_eq_true
def Ek:=@List.mem_of_getElem?
def Uh:=@PySem.Heap.size_push
def Gk:=@PySem.mem_of_lookup
def Io:=@List.getElem?_append_left
def Oj:=@List.getElem_mem
def Hk:=@List.getElem?_map
def Ll:=@List.filter_cons_of_pos
def Ml:=@List.filter_cons_of_neg
def Oi:=@Nat.lt_irrefl
def Ik:=@Nat.eq_of_testBit_eq
def Pj:=@List.nodup_cons
def Qj:=@List.map_append
def qi:=@PySem.W.kia_one
def Fn:=@List.map_congr_left
def dj:=@Int.toNat_natCast
def uh:=@List.append_nil
def Cm:=@List.append_assoc
def Jo:=@beq_eq_false_iff_ne
def pq:=@PySem.Heap.get?_update_self
def Ko:=@List.replicate_succ
def Rj:=@PySem.wpAny_holding
def Gn:=@Bool.eq_false_iff
def rq:=@List.exists_mem_of_ne_nil
def Dr:=@PySem.Heap.get?_update_other
def Er:=@List.filter_eq_nil_iff
def Dm:=@Option.some.inj
def fj:=@List.lookup_cons
def Lo:=@List.nodup_append
def Sx:=@PyProof.Rows.callWith_type1
def Fu:=@PySem.F.plainAttrs_dict
def wj:=@Bool.and_eq_true
def Gu:=@List.length_eq_zero_iff
def Hn:=@PySem.wpAny_ite_split
def Hu:=@PySem.wpAny_callSpecial?_slot
def Jk:=@List.map_map
def Mo:=@PySem.wpAny_call_entry
def Tx:=@List.getElem?_append_right
def sq:=@PySem.wpAny_truthy_bool
def Iu:=@PySem.F.slot_dict_get
def Ju:=@List.mem_iff_getElem?
def Nl:=@List.length_range
def tq:=@List.length_filter_le
def uq:=@Array.getElem?_toList
def Sj:=@beq_iff_eq
def Gr:=@List.flatten_cons
def Ol:=@Nat.testBit_and
def Ku:=@List.filter_eq_self
def JD:=@Array.getElem?_eq_some_iff
def Kk:=@PySem.wpAny_mono
def Hr:=@List.any_eq_true
def Ir:=@decide_eq_decide
def Lk:=@PySem.W.mg_none_of
def Lu:=@PySem.tupleKind_room_in1
def Jn:=@Bool.not_eq_true'
def Mu:=@PySem.wpAny_setField_rec
def Ih:=@Nat.zero_le
def KD:=@List.mem_of_find?_eq_some
def vq:=@PySem.wpAny_seqItems
def Ux:=@List.mem_iff_getElem
def Vx:=@PySem.Around.under_plainId
def Jr:=@PySem.wpAny_passesOwn
def Nu:=@PySem.wpAny_newObj_type
def Ou:=@PySem.wpAny_setState_of
def Oo:=@PySem.codeAny_mono
def LD:=@decide_eq_false_iff_not
def MD:=@PySem.wpAny_getItem_str_slice
def ND:=@PySem.F.plainAttrs_list
def Wx:=@PySem.Heap.SameBut.update
def Xx:=@PySem.wpAny_setEntries_of
def Qu:=@Nat.lt_succ_self
def Ru:=@List.all_eq_true
def Su:=@List.mem_flatMap
def Tu:=@PySem.wpAny_askSetting
def OD:=@PySem.Calls.callWith_builtin
def PD:=@PySem.F.entry_dict_get
def Yx:=@PySem.wpAny_Call_Name_kw
def Kn:=@List.length_set
def Zx:=@List.getElem?_cons_succ
def wq:=@PySem.call_meetsIn
def xq:=@Nat.zero_testBit
def QD:=@List.getElem?_eq_none
def RD:=@PySem.F.slot_zip_next
def SD:=@Array.getD_eq_getD_getElem?
def Uu:=@PySem.codeAny_builtin
def yq:=@PySem.F.called_set
def UD:=@PySem.Obj.isFreed_of_fields
def VD:=@PySem.Calls.evalArgs_plain
def Po:=@List.foldl_cons
def NL:=@List.pairwise_iff_getElem
def Vu:=@PySem.wpAny_setField
def WD:=@List.filterMap_cons
def zq:=@PySem.sizeLine_eq
def XD:=@Nat.testBit_two_pow
def Aq:=@PySem.wpAny_field
def Qo:=@Nat.testBit_or
def Wu:=@PySem.wpAny_standAt
def YD:=@PySem.Calls.spliced_cons
def ZD:=@PySem.W.callWith_K
def ay:=@Bool.eq_iff_iff
def O2:=@List.findIdx?_eq_some_iff_getElem
def aE:=@Nat.lt_of_le_of_lt
def Xu:=@PySem.wpAny_attempt
def OL:=@PyProof.Rows.F.plain_set_update_loop
def bE:=@PySem.Obj.data_mapFields
def Kr:=@List.length_nil
def PL:=@List.getElem?_set_self
def QL:=@PySem.F.slot_list_append
def cE:=@List.any_eq_false
def P2:=@List.takeWhile_append_dropWhile
def dE:=@PySem.wpAny_pyIter_list
def fE:=@PySem.fits_of_scanBound
def cy:=@Bool.and_false
def Bq:=@List.any_cons
def Q2:=@List.Nodup.length_le_of_subset
def RL:=@List.getElem?_toArray
def TL:=@PySem.builtinLookup_eq_fast
def Nk:=@Ne.symm
def gE:=@beq_self_eq_true
def iE:=@PySem.wpAny_isInstance
def UL:=@Nat.pow_le_pow_right
def VL:=@PySem.wpAny_updateSeq_pair
def dy:=@List.zip_cons_cons
def fy:=@PySem.plainId_quiet
def S2:=@PySem.F.slot_dict_setdefault
def Lr:=@PySem.call_meets
def mE:=@PySem.wpAny_execs_nil
def WL:=@PySem.W.plainGet_of
def YL:=@List.getElem?_range
def ZL:=@List.toList_toArray
def nE:=@PySem.post_val_or_str
def Yu:=@List.nil_append
def T2:=@PySem.Calls.Name_function_global
def U2:=@Int.fdiv_eq_ediv_of_nonneg
def V2:=@List.dropWhile_cons_of_pos
def W2:=@List.dropWhile_cons_of_neg
def X2:=@List.takeWhile_cons_of_pos
def Y2:=@List.takeWhile_cons_of_neg
def Z2:=@List.length_eraseIdx_of_lt
def gy:=@Nat.le_of_lt
def eM:=@Int.natCast_nonneg
def iy:=@Nat.le_of_eq
def jy:=@List.map_nil
def ky:=@Nat.lt_trans
def ly:=@List.any_map
def kM:=@Nat.pos_of_ne_zero
def u3:=@List.getLast?_eq_getElem?
def v3:=@Nat.lt_pow_two_of_testBit
def A3:=@List.drop_eq_getElem_cons
def pE:=@List.Perm.refl
def qE:=@PySem.wpAny_fieldsOf
def B3:=@PySem.F.plain_extend_loop
def mM:=@PySem.W.kitx_list
def sM:=@PySem.W.kitx_dict
def AM:=@PySem.Calls.spliced_nil
def C3:=@Option.isSome_iff_exists
def CM:=@Option.isSome_map
def Zu:=@Bool.or_eq_true
def DM:=@List.ext_getElem?
def EM:=@Nat.le_of_succ_le
def av:=@PySem.wpAny_rule
def E3:=@List.filterMap_cons_some
def HM:=@Nat.lt_succ_of_lt
def F3:=@PySem.F.slot_dict_update
def G3:=@PySem.F.slot_dict_values
def J3:=@PySem.F.args_list_append_2
def K3:=@PySem.F.args_dict_get_2
def L3:=@PySem.F.args_dict_get_3
def vE:=@PySem.eval_ListComp
def xE:=@PySem.wpAny_onRaise
def M3:=@PySem.F.slot_list_index
def N3:=@PySem.F.slot_dict_items
def O3:=@PySem.F.plain_list_iadd
def IM:=@PySem.W.makes_of
def JM:=@List.getElem_map
def LM:=@Nat.le_add_right
def MM:=@List.cons_append
def Q3:=@PySem.W.cellsFrom_some
def R3:=@Nat.testBit_lt_two_pow
def S3:=@List.length_pos_of_mem
def T3:=@List.find?_cons_of_pos
def U3:=@List.find?_cons_of_neg
def V3:=@List.take_of_length_le
def W3:=@List.range_succ_eq_map
def X3:=@Nat.lt_of_succ_lt_succ
def Y3:=@PySem.F.entry_zip_next
def Z3:=@List.pairwise_lt_range
def AE:=@Nat.ne_of_gt
def j4:=@PySem.W.methodCall_KW
def Cq:=@Nat.le_succ
def NM:=@List.of_mem_zip
def n4:=@PySem.F.type_dict_get
def o4:=@Classical.choose_spec
def OM:=@Int.ediv_nonneg
def u4:=@List.singleton_append
def DE:=@Nat.zero_add
def PM:=@List.find?_some
def jv:=@List.nodup_nil
def B4:=@List.eq_nil_or_concat
def C4:=@List.concat_eq_append
def QM:=@PySem.wpAny_specialOf
def EE:=@Nat.add_zero
def si:=@PySem.W.mg_of
def RM:=@PySem.typeLookup_type
def E4:=@List.dropLast_eq_take
def my:=@PySem.wpAny_call
def ny:=@List.filter_nil
def oy:=@PySem.intKind_is
def F4:=@List.getElem?_set_ne
def G4:=@PySem.W.looks_findIn
def J4:=@List.findIdx?_isSome
def K4:=@Bool.and_eq_true_iff
def L4:=@Nat.pow_lt_pow_right
def M4:=@List.getElem_toArray
def N4:=@Array.getElem_toList
def SM:=@Int.pow_nonneg
def HE:=@List.not_mem_nil
def IE:=@Nat.not_lt_zero
def TM:=@Bool.or_true
def qy:=@Eq.trans
open PySem.Str(ofString)
namespace L2
open PySem PySem.Spec PyProof.Rows
abbrev Dc:=Sum Int Str
def sr:Dc->Value->Bool
 |.inl k,v=>Value.isInt k v
 |.inr x,v=>Value.isStrOf x v
def bQt(w:World):Dc->Int
 |.inl k=>hashInt k
 |.inr x=>hashStr w x
def iC:∀{k:Dc}{v:Value},sr k v=true->(∃i t,k=Sum.inl i/\v=Value.int i t)\/(∃x t,k=Sum.inr x/\v=Value.str x t)
 |.inl i,v,h=>by
  obtain⟨t,e⟩:=Value.isInt_shape (k:=i) (v:=v) h;exact .inl ⟨i,t,rfl,e⟩
 |.inr x,v,h=>by
  obtain⟨t,e⟩:=Value.isStrOf_shape (x:=x) (v:=v) h;exact .inr ⟨x,t,rfl,e⟩
def Ù(i:Int)(t:Tok):sr (.inl i) (.int i t)=true:=by simp[sr,Value.isInt]
def Ú(x:Str)(t:Tok):sr (.inr x) (.str x t)=true:=by simp[sr,Value.isStrOf]
def LY(a b:Int):decide ((Sum.inl a:Dc)=Sum.inl b)=(a==b):=by
 by_cases e:a=b
 .subst e;simp
 .have h:¬ (Sum.inl a:Dc)=Sum.inl b:=λq=>e (Sum.inl.inj q)
  rw[fe h];exact(Jo.mpr e).symm
def MY(a b:Str):decide ((Sum.inr a:Dc)=Sum.inr b)=decide (a=b):=by
 by_cases e:a=b
 .subst e;simp
 .have h:¬ (Sum.inr a:Dc)=Sum.inr b:=λq=>e (Sum.inr.inj q)
  rw[fe h,fe e]
def NY(a:Int)(b:Str):decide ((Sum.inl a:Dc)=Sum.inr b)=false:=fe (λq=>nomatch q)
def OY(a:Str)(b:Int):decide ((Sum.inr a:Dc)=Sum.inl b)=false:=fe (λq=>nomatch q)
def dN(prog:Program)(w:World):PySem.KeyKind prog w Dc where
 is:=sr
 hash:=bQt w
 inj:=λv a b ha hb=>by
  rcases iC ha with ⟨i,t,rfl,rfl⟩|⟨x,t,rfl,rfl⟩
  .rcases iC hb with ⟨j,u,rfl,e⟩|⟨y,u,rfl,e⟩
   .injection e with e1 _;rw[e1]
   .exact nomatch e
  .rcases iC hb with ⟨j,u,rfl,e⟩|⟨y,u,rfl,e⟩
   .exact nomatch e
   .injection e with e1 _;rw[e1]
 byValue:=λk v h=>by
  rcases iC h with ⟨i,t,rfl,rfl⟩|⟨x,t,rfl,rfl⟩ <;> rfl
 pyHash:=λhv h=>by
  rcases iC hv with ⟨i,t,rfl,rfl⟩|⟨x,t,rfl,rfl⟩
  .exact wpAny_pyHash_int h
  .exact wpAny_pyHash_str h
 eqBool:=λhu hv h=>by
  rcases iC hu with ⟨i,t,rfl,rfl⟩|⟨x,t,rfl,rfl⟩
  .rcases iC hv with ⟨j,u,rfl,rfl⟩|⟨y,u,rfl,rfl⟩
   .rw[LY]at h;exact wpAny_eqBool_int h
   .rw[NY]at h;exact SeqAt.EqAt.int_str i t y u _ _ _ _ h
  .rcases iC hv with ⟨j,u,rfl,rfl⟩|⟨y,u,rfl,rfl⟩
   .rw[OY]at h;exact SeqAt.EqAt.str_int x t j u _ _ _ _ h
   .rw[MY]at h;exact wpAny_eqBool_str h
 «strs» := λk x t v h=>by
  rcases iC h with ⟨i,u,rfl,e⟩|⟨y,u,rfl,e⟩
  .exact nomatch e
  .injection e with e1 _
   subst e1;cases v<;>rfl
def Ζ(prog:Program)(w:World)(i:Int)(t:Tok):(dN prog w).is (.inl i) (.int i t)=true:=Ù i t
def Η(prog:Program)(w:World)(x:Str)(t:Tok):(dN prog w).is (.inr x) (.str x t)=true:=Ú x t
end L2
namespace L2
open PySem PySem.Spec PyProof.Rows
inductive V where
 |lc|bl (b:Bool)|int (i:Int)|str (x:Str)|JE (b:Array UInt8)|Rr (b:UInt64)|ref (a:Addr)|ty (n:String)
 deriving DecidableEq
def RelV:V->Value->Prop
 |.lc,u=>u=Value.none
 |.bl b,u=>u=Value.bool b
 |.int i,u=>∃t,u=Value.int i t
 |.str x,u=>∃t,u=Value.str x t
 |.JE b,u=>∃t,u=Value.bytes b t
 |.Rr b,u=>∃t,u=Value.float b t
 |.ref a,u=>u=Value.ref a
 |.ty n,u=>u=Value.type n
abbrev Ca:List V->List Value->Prop:=Paired RelV
theorem Ca.length(r:Ca xs us):xs.length=us.length:=Paired.length r
theorem Ca.get:∀{xs:List V}{us:List Value}{i:Nat}{x:V},Ca xs us->xs[i]?=some x->∃u,us[i]?=some u/\RelV x u
 |_,_,_,_,.nil,e=>by simp at e
 |_,_,0,_,.cons r _,e=>by simp at e;subst e;exact⟨_,rfl,r⟩
 |_,_,i+1,x,.cons _ t,e=>by
  obtain⟨u,h1,h2⟩:=Ca.get (i:=i) (x:=x) t (by simpa using e)
  exact⟨u,by simpa using h1,h2⟩
theorem Ca.set(r:RelV x u):∀{xs:List V}{us:List Value}(i:Nat),Ca xs us->Ca (xs.set i x) (us.set i u)
 |_,_,_,.nil=>.nil
 |_,_,0,.cons _ t=>.cons r t
 |_,_,i+1,.cons q t=>.cons q<|Ca.set r i t
theorem Ca.append:∀{xs ys:List V}{us ws:List Value},Ca xs us->Ca ys ws->Ca (xs++ys) (us++ws)
 |_,_,_,_,.nil,s=>s
 |_,_,_,_,.cons r t,s=>.cons r<|Ca.append t s
theorem Ca.take:∀{xs:List V}{us:List Value}(n:Nat),Ca xs us->Ca (xs.take n) (us.take n)
 |_,_,0,_=>.nil
 |_,_,_+1,.nil=>.nil
 |_,_,n+1,.cons r t=>.cons r<|Ca.take n t
theorem Ca.drop:∀{xs:List V}{us:List Value}(n:Nat),Ca xs us->Ca (xs.drop n) (us.drop n)
 |_,_,0,r=>r
 |_,_,_+1,.nil=>.nil
 |_,_,n+1,.cons _ t=>Ca.drop n t
def zH:Option V->Option Value->Prop
 |some v,some u=>RelV v u
 |none,none=>True
 |_,_=>False
def KV{κ:Type}:List (κ×V)->List (κ×Value)->Prop:=Paired λ(p:κ×V)(q:κ×Value)=>p.1=q.1/\RelV p.2 q.2
def kV:Dc->V
 |.inl i=>.int i
 |.inr x=>.str x
inductive HO where
 |lst (xs:List V)
 |tup (xs:List V)
 |dK (oa:List (Dc×V))|dT (oa:List (List Dc×V))
 |set (S:Int->Bool) (n:Nat)
 |ins (C dx:Addr) (fs:List (Str×V))
 |own (x:Addr)
 |xd (fs:List (Str×V))
 |met (f x:Addr)
 |Jp (lo hi:Int)
 |ij (o:Obj) (u:HO)
 |Lp (ps:Array Value)
 |ext (φ:Heap->Prop)
abbrev Hp:=Addr->Option HO
def Ob(H:Hp)(a:Addr)(o:HO):Hp:=λb=>if b=a then some o else H b
def cD:Ob H a o a=some o:=by unfold Ob;rw[kb rfl]
def bU{a b:Addr}(h:b≠a):Ob H a o b=H b:=by unfold Ob;rw[gb h]
def bNy{H:Hp}(h:H a=some o)(h':H b=some u)(d:o≠u):a≠b:=by
 intro e;subst e;rw[h]at h';exact d<|Dm h'
def bJ{H:Hp}(h:H a=some o)(h':H b=none):a≠b:=by
 intro e;subst e;rw[h]at h';cases h'
section
variable(P:Program)(w:World)
def jN(H:Hp)(h:Heap)(a:Addr):HO->Prop
 |.lst xs=>xs.length<=sizeLine/\∃(Sa:List Value)(n:Nat),Ca xs Sa/\h.get? a=some {cls:=.type "list",data:=.seq Sa.toArray n}
 |.tup xs=>xs.length<=sizeLine/\∃Sa:List Value,Ca xs Sa/\IsTup h a Sa.toArray
 |.dK oa=>oa.length<=sizeLine/\(a==sysModules)=false/\∃vs,KV oa vs/\h.DictOf (dN P w) a vs
 |.dT oa=>oa.length<=sizeLine/\(a==sysModules)=false/\∃xs:List (List Dc×Addr×Value),
   Paired (λ(p:List Dc×V)(q:List Dc×Addr×Value)=>p.1=q.1/\H q.2.1=some (.tup<|p.1.map kV)/\RelV p.2 q.2.2) oa xs/\
   ∃o es ep,h.get? a=some o/\o.ExactDict/\o.data=.dict es ep/\es.toList=xs.map (entryOfKey<|tupleKind<|dN P w)/\(xs.map (·.1)).Nodup
 |.set S n=>h.SetOf (intKind P w) a S n
 |.ins C dx fs=>H dx=some (.own a)/\fs.length<=1000/\dx≠a/\h.get? a=some (PySem.W.instObj C dx)/\
   ∃mA,h.Ns1 dx mA/\(∀f,zH (fs.lookup f)<|mA f)/\PySem.Within mA (fs.map (·.1))
 |.own _=>∃o,h.get? a=some o
 |.xd fs=>∃mA,h.Ns1 a mA/\∀f,zH (fs.lookup f)<|mA f
 |.Jp lo hi=>∃t u v,h.get? a=some {cls:=.type "range",data:=.fields #[.int lo t,.int hi u,.int 1 v]}
 |.ij o u=>h.get? a=some o/\jN H h a u
 |.Lp ps=>h.get? a=some {cls:=.none,data:=.fields ps}
 |.met f x=>h.get? a=some (PySem.W.methodObj (.ref f)<|.ref x)
 |.ext φ=>φ h/\(∃o,h.get? a=some o)/\∀h1 h2:Heap,φ h1->(∀o,h1.get? a=some o->h2.get? a=some o)->φ h2
def Ze(H:Hp)(h:Heap):Prop:=∀a o,H a=some o->jN P w H h a o
end
section
variable{P:Program}{w:World}{H H':Hp}{h h':Heap}{a:Addr}{o:HO}
theorem jN.lt(x:jN P w H h a o):a<h.objs.size:=by
 cases o with
 |lst xs=>obtain⟨_,_,_,_,e⟩:=x;exact Ud e
 |tup xs=>obtain⟨_,_,_,p⟩:=x;exact p.lt
 |dK oa=>obtain⟨_,_,_,_,o,_,_,e,_⟩:=x;exact Ud e
 |dT oa=>obtain⟨_,_,_,_,o,_,_,e,_⟩:=x;exact Ud e
 |set S n=>obtain⟨o,_,_,_,e,_⟩:=x;exact Ud e
 |ins C dx fs=>obtain⟨_,_,_,e,_⟩:=x;exact Ud e
 |own y=>obtain⟨_,e⟩:=x;exact Ud e
 |xd fs=>obtain⟨_,⟨_,_,_,e,_⟩,_⟩:=x;exact Ud e
 |Jp lo hi=>obtain⟨_,_,_,e⟩:=x;exact Ud e
 |ij ob u=>obtain⟨e,_⟩:=x;exact Ud e
 |Lp ps=>exact Ud<|show h.get? a=some _ from x
 |met f y=>exact Ud<|show h.get? a=some _ from x
 |ext φ=>obtain⟨_,⟨_,e⟩,_⟩:=x;exact Ud e
theorem Paired.Ms{α β:Type}{F G:α->β->Prop}:∀{uz:List α}{l₂:List β},Paired F uz l₂->(∀a b,F a b->G a b)->Paired G uz l₂
 |_,_,.nil,_=>.nil
 |_,_,.cons r t,f=>.cons (f _ _ r)<|Paired.Ms t f
def jN.ph(x:jN P w H h a o)(k:∀b u,(b=a\/H b=some (.own a))->h.get? b=some u->h'.get? b=some u)
  (ho:∀b,H b=some (.own a)->H' b=some (.own a)) (ht:∀b xs,H b=some (.tup xs)->H' b=some (.tup xs)):jN P w H' h' a o:=by
 induction o with
 |lst xs=>obtain⟨z,Sa,n,r,e⟩:=x;exact⟨z,Sa,n,r,k _ _ (.inl rfl) e⟩
 |tup xs=>obtain⟨z,Sa,r,ob,e,c⟩:=x;exact⟨z,Sa,r,ob,k _ _ (.inl rfl) e,c⟩
 |dK oa=>obtain⟨z,y,vs,r,ob,es,ep,e,c⟩:=x;exact⟨z,y,vs,r,ob,es,ep,k _ _ (.inl rfl) e,c⟩
 |dT oa=>
  obtain⟨z,y,xs,r,ob,es,ep,e,c⟩:=x;exact⟨z,y,xs,Paired.Ms r λp q z=>⟨z.1,ht _ _ z.2.1,z.2.2⟩,ob,es,ep,k _ _ (.inl rfl) e,c⟩
 |set S n=>obtain⟨ob,es,ep,t,e,c⟩:=x;exact⟨ob,es,ep,t,k _ _ (.inl rfl) e,c⟩
 |ins C dx fs=>
  obtain⟨d,z,ne,e,mA,⟨od,es,ep,e2,c⟩,r⟩:=x;exact⟨ho _ d,z,ne,k _ _ (.inl rfl) e,mA,⟨od,es,ep,k _ _ (.inr d) e2,c⟩,r⟩
 |own y=>obtain⟨ob,e⟩:=x;exact⟨ob,k _ _ (.inl rfl) e⟩
 |xd fs=>obtain⟨mA,⟨od,es,ep,e,c⟩,r⟩:=x;exact⟨mA,⟨od,es,ep,k _ _ (.inl rfl) e,c⟩,r⟩
 |Jp lo hi=>obtain⟨t,u,v,e⟩:=x;exact⟨t,u,v,k _ _ (.inl rfl) e⟩
 |ij ob u ih=>obtain⟨e,q⟩:=x;exact⟨k _ _ (.inl rfl) e,ih q⟩
 |Lp ps=>
  have e:h.get? a=some {cls:=.none,data:=.fields ps}:=x;show h'.get? a=some {cls:=.none,data:=.fields ps};exact k a _ (.inl rfl) e
 |met f y=>
  have e:h.get? a=some (PySem.W.methodObj (.ref f)<|.ref y):=x;show h'.get? a=some (PySem.W.methodObj (.ref f)<|.ref y);exact k a _ (.inl rfl) e
 |ext φ=>obtain⟨p,⟨o,e⟩,st⟩:=x;exact⟨st _ _ p λo q=>k _ _ (.inl rfl) q,⟨o,k _ _ (.inl rfl) e⟩,st⟩
theorem Ze.lt(x:Ze P w H h)(e:H a=some o):a<h.objs.size:=(x a o e).lt
def Ze.fresh(x:Ze P w H h)(e:h.objs.size<=a):H a=none:=by
 cases q:H a with
 |none=>rfl
 |some u=>exact absurd (Ig (x.lt q) e)<|Oi _
def Ze.kept(x:Ze P w H h)(k:∀b u,h.get? b=some u->h'.get? b=some u):Ze P w H h':=λa o e=>
 (x a o e).ph (λb u _ q=>k b u q) (λ_ q=>q) λ_ _ q=>q
def Ze.laid(x:Ze P w H h)(k:∀b u,h.get? b=some u->h'.get? b=some u)(hp:h.objs.size<=a)(new:jN P w (Ob H a o) h' a o):Ze P w (Ob H a o) h':=λb u e=>by
 have hn:=x.fresh hp
 by_cases hb:b=a
 .subst hb;rw[cD]at e;cases e;exact new
 .rw[bU hb]at e;exact(x b u e).ph (λc v _ q=>k c v q) (λc q=>by rw[bU<|bJ q hn];exact q) λc xs q=>by rw[bU<|bJ q hn];exact q
end
def Rd(H:Hp)(a:Addr)(u:HO):Prop:=H a=some u\/∃o,H a=some (.ij o u)
def Rd.ok(r:Rd H a u)(x:Ze P w H h):jN P w H h a u:=by
 rcases r with r|⟨o,r⟩
 .exact x a u r
 .obtain⟨_,q⟩:=x a _ r;exact q
def Rh:Option HO->Prop
 |some (.lst _)=>True
 |some (.dK _)=>True
 |some (.dT _)=>True
 |some (.set _ _)=>True
 |some (.ins _ _ _)=>True
 |some (.ext _)=>True
 |_=>False
section
variable{P:Program}{w:World}{H:Hp}{h h':Heap}{x e:Addr}{o':HO}
def Ze.write(ok:Ze P w H h)(mu:Rh (H x))(he:e=x\/H e=some (.own x))(k:∀b u,b≠e->h.get? b=some u->h'.get? b=some u)(Jv:∃u,h'.get? e=some u)
  (new:jN P w (Ob H x o') h' x o'):Ze P w (Ob H x o') h':=λb u q=>by
 have nown:∀c y,H c=some (.own y)->c≠x:=λc y r z=>by subst z;rw[r]at mu;exact mu
 have ntup:∀c xs,H c=some (.tup xs)->c≠x:=λc xs r z=>by subst z;rw[r]at mu;exact mu
 by_cases hb:b=x
 .subst hb;rw[cD]at q;cases q;exact new
 .rw[bU hb]at q
  by_cases hbe:b=e
  .have q':H b=some (.own x):=by
    rcases he with z|z
    .exact absurd (hbe.trans z) hb
    .rw[hbe];exact z
   rw[q]at q';cases q';obtain⟨v,hv⟩:=Jv;exact⟨v,by rw[hbe];exact hv⟩
  .refine(ok b u q).ph (λc v hc r=>k c v ?_ r) (λc r=>by rw[bU<|nown c b r];exact r) λc xs r=>by rw[bU<|ntup c xs r];exact r
   rcases hc with rfl|hc
   .exact hbe
   .rintro rfl;rcases he with z|z
    .exact nown c b hc z
    .rw[hc]at z;cases z;exact hb rfl
end
structure Un(fs ex:List Addr)(H H':Hp)(h h':Heap):Prop where
 keep:∀b o,h.get? b=some o->H b=none->b∉fs->b∉ex->h'.get? b=some o
 slot:∀b o,h.get? b=some o->H b=none->b∈fs->b∉ex->∃sl,h'.get? b=some {o with slots:=sl}
 free:∀b o,h.get? b=some o->H b=none->b∉ex->H' b=none
 there:∀b o,h.get? b=some o->b∉ex->∃o',h'.get? b=some o'
 rh:∀b xs,H b=some (.tup xs)->H' b=some (.tup xs)
 Qg:∀b o u,H b=some (.ij o u)->H' b=some (.ij o u)
 qh:∀b ps,H b=some (.Lp ps)->∃more,H' b=some (.Lp<|ps++more)
section
variable{fs fs' ex ex':List Addr}{H H1 H2:Hp}{h h1 h2 h':Heap}{a x e:Addr}{o:HO}
def Un.any(u:Un fs ex H H1 h h1){b:Addr}{ob:Obj}(q:h.get? b=some ob)(n:H b=none)(hx:b∉ex):∃sl,h1.get? b=some {ob with slots:=sl}:=by
 by_cases hb:b∈fs
 .exact u.slot b ob q n hb hx
 .exact⟨ob.slots,u.keep b ob q n hb hx⟩
def Un.kept(k:∀b u,h.get? b=some u->h'.get? b=some u):Un fs ex H H h h':=
 ⟨λb ob q _ _ _=>k b ob q,λb ob q _ _ _=>⟨ob.slots,k b ob q⟩,λ_ _ _ n _=>n,λb ob q _=>⟨ob,k b ob q⟩,λ_ _ q=>q,λ_ _ _ q=>q,λ_ ps q=>⟨#[],by rw[q];simp⟩⟩
def Un.refl:Un fs ex H H h h:=Un.kept λ_ _ q=>q
def Un.laid(k:∀b u,h.get? b=some u->h'.get? b=some u)(hp:h.objs.size<=a)(hn:H a=none):Un fs ex H (Ob H a o) h h' where
 keep:=λb u q _ _ _=>k b u q
 slot:=λb u q _ _ _=>⟨u.slots,k b u q⟩
 free:=λb u q n _=>by rw[bU<|Cf<|Ig (Ud q) hp];exact n
 there:=λb u q _=>⟨u,k b u q⟩
 rh:=λb xs q=>by rw[bU<|bJ q hn];exact q
 Qg:=λb u xs q=>by rw[bU<|bJ q hn];exact q
 qh:=λb ps q=>⟨#[],by rw[bU<|bJ q hn,q];simp⟩
def Un.write(mu:Rh (H x))(he:e=x\/H e=some (.own x))(k:∀b u,b≠e->h.get? b=some u->h'.get? b=some u)(Jv:∃u,h'.get? e=some u):Un fs ex H (Ob H x o) h h':=by
 have hx:∀b,H b=none->b≠x:=λb n z=>by subst z;rw[n]at mu;exact mu
 have hb:∀b,H b=none->b≠e:=λb n z=>by
  subst z;rcases he with r|r
  .exact hx b n r
  .rw[n]at r;cases r
 have hm:∀b u,H b=some u->¬ Rh (some u)->b≠x:=λb u q nm z=>by subst z;rw[q]at mu;exact nm mu
 refine⟨λb u q n _ _=>k b u (hb b n) q,λb u q n _ _=>⟨u.slots,k b u (hb b n) q⟩,λb u q n _=>by rw[bU<|hx b n];exact n,λb u q _=>?_,
  λb xs q=>by rw[bU<|hm b _ q λz=>z];exact q,λb u xs q=>by rw[bU<|hm b _ q λz=>z];exact q,λb ps q=>⟨#[],by rw[bU<|hm b _ q λz=>z,q];simp⟩⟩
 by_cases hbe:b=e
 .subst hbe;exact Jv
 .exact⟨u,k b u hbe q⟩
end
def GF(h:Heap)(H:Hp):List Addr:=(List.range h.objs.size).filter λa=>(H a).isSome
def vo(h:Heap)(H:Hp):Heap:=PySem.W.hideAll h<|GF h H
def Û(h:Heap)(H:Hp):(vo h H).objs.size=h.objs.size:=PySem.W.hideAll_size _ _
def Į{h:Heap}{H:Hp}(e:h.get? b=some o)(n:H b=none):(vo h H).get? b=some o:=
 PySem.W.hideAll_get _ e λhm=>by
  have q:(H b).isSome=true:=(Be.mp hm).2;rw[n]at q;simp at q
def bG3(e:(vo h H).get? b=some o):h.get? b=some o/\H b=none:=by
 have e':h.get? b=some o:=PySem.W.of_hideAll (GF h H) e;refine⟨e',?_⟩;cases q:H b with
 |none=>rfl
 |some x=>
  have hm:b∈GF h H:=Be.mpr ⟨Se.mpr<|Ud e',by simp[q]⟩
  have z:(vo h H).get? b=none:=PySem.W.hideAll_none (GF h H) hm;rw[z]at e;cases e
def bG4(g h:Heap)(L:Addr):List (Addr×Obj):=(List.range h.objs.size).filterMap λa=>if a=L\/(g.get? a).isSome=true then none else (h.get? a).map λo=>(a,o)
def rest(g h:Heap)(L d:Addr):List (Addr×Obj):=(bG4 g h L).filter λp=>decide (p.1≠d)
end L2
namespace L2
open PySem PySem.Spec PyProof.Rows
structure Mod(K:PySem.W.Frag)(mg:Str->Option Value)(base:Heap):Prop where
 Ej:K.In base
 glob:base.Ns mainGlobals mg
 blt:∃mb,base.Ns builtinsNs mb/\∀x:Str,x≠"__name__"->mb x=bootBuiltins x
 nolimit:base.NoLimit
structure Cx where
 prog:Program
 w:World
 K:PySem.W.Frag
 mg:Str->Option Value
 base:Heap
 A:Around
 N:List Str
 Ba:Shared
 Ka:Hp
 env:Env
 outer:List Env
 stack:List Env
 ex:List Addr
 fn:Str->Bool
 calm:Bool
 pn:List (Addr×Obj)
 xe:Value->Shared->Prop
def De(l:List Env):List Addr:=l.filterMap (·.frame)
abbrev Cx.fs(X:Cx):List Addr:=De X.outer
def Ei(sc:Scope)(x:Str):Prop:=sc.names.lookup x=some .local\/sc.names.lookup x=some .cell\/sc.names.lookup x=some .free
def Loc(sc:Scope)(x:Str):Prop:=sc.names.lookup x=some .local\/sc.names.lookup x=some .cell
def Look(env:Env)(h:Heap)(m:Str->Option Value)(x:Str)(u:Value):Prop:=
 (env.kindOf x=some .local/\m x=some u)\/((env.kindOf x=some .cell\/env.kindOf x=some .free)/\∃c,env.cells.lookup x=some c/\h.IsCell c (some u))
structure Cx.Ok(X:Cx):Prop where
 mod:Mod X.K X.mg X.base
 kind:X.env.scope.kind=.function
 glob:X.env.globals=mainGlobals
 blt:X.env.builtins=builtinsNs
 above:X.Ba.heap.objs.size<=X.env.locals
 inj:∀x y c,X.env.cells.lookup x=some c->X.env.cells.lookup y=some c->x=y
 has:∀x,(X.env.kindOf x=some .cell\/X.env.kindOf x=some .free)->∃c,X.env.cells.lookup x=some c
 Mr:∀x c,X.fn x=true->X.env.cells.lookup x=some c->X.Ba.heap.objs.size<=c
 hd:X.calm=true->X.A.handled=none
 frames:X.A.frames=some X.stack
 Uv:X.stack=X.outer\/(X.stack=X.env::X.outer/\X.env.frame=some X.env.locals)
 Av:∀b∈X.ex,b≠X.env.locals/\∀x c,X.env.cells.lookup x=some c->c≠b
 bs:∀b o,X.base.get? b=some o->X.Ba.heap.get? b=some o/\X.Ka b=none
 Em:X.base.objs.size<=X.Ba.heap.objs.size
 Fj:∀b o,X.base.get? b=some o->b∉X.ex
 yj:∀b∈X.ex,b∉X.fs
 og:X.Ba.heap.FunFrames X.base X.outer
 Zo:∀b∈X.fs,X.Ka b=none
structure ya(X:Cx)(aa:List (Addr×Obj))(σ:List (Option V))(H:Hp)(s:Shared):Prop where
 ok:X.Ok
 os:s.os=X.Ba.os
 bare:AllBare s.gens
 base:Un X.fs X.ex X.Ka H X.Ba.heap s.heap
 loc:∃m,s.heap.Ns X.env.locals m/\∀(i:Nat)(x:Str)(v:V),X.N[i]?=some x->σ[i]?=some (some v)->Ei X.env.scope x->∃u,RelV v u/\Look X.env s.heap m x u
 cell:∀x c,X.env.cells.lookup x=some c->∃v,s.heap.IsCell c v
 free:H X.env.locals=none
 Fe:∀x c,X.env.cells.lookup x=some c->H c=none
 pin:∀p∈X.pn++aa,s.heap.get? p.1=some p.2/\H p.1=none/\p.1≠X.env.locals/\p.1∉X.fs/\∀v,p.2.data≠.cell v
 ib:Ze X.prog X.w H s.heap
 len:σ.length=X.N.length
section
variable{X:Cx}{aa:List (Addr×Obj)}{σ:List (Option V)}{H H':Hp}{s:Shared}{h':Heap}
def Cx.Ok.RO(ok:X.Ok){b:Addr}{o:Obj}(e:X.base.get? b=some o):b∉X.fs:=λhb=>by
 have:=(ok.og.mem hb).1;rw[e]at this;cases this
theorem ya.bs(I:ya X aa σ H s):∀b o,X.base.get? b=some o->s.heap.get? b=some o/\H b=none:=λb o e=>
 ⟨I.base.keep b o (I.ok.bs b o e).1 (I.ok.bs b o e).2 (I.ok.RO e)<|I.ok.Fj b o e,I.base.free b o (I.ok.bs b o e).1 (I.ok.bs b o e).2<|I.ok.Fj b o e⟩
def ya.bk(I:ya X aa σ H s):∀b o,X.base.get? b=some o->s.heap.get? b=some o:=λb o e=>(I.bs b o e).1
theorem ya.mod(I:ya X aa σ H s):Mod X.K X.mg X.base:=I.ok.mod
def ya.tf(I:ya X aa σ H s):X.K.In s.heap:=I.ok.mod.Ej.keeps I.bk
theorem ya.lt(I:ya X aa σ H s):X.env.locals<s.heap.objs.size:=let ⟨_,hn,_⟩:=I.loc;hn.lt
def ya.sz(I:ya X aa σ H s):X.Ba.heap.objs.size<=s.heap.objs.size:=bf I.ok.above<|gy I.lt
def ya.SO(I:ya X aa σ H s){a:Addr}(h:s.heap.objs.size<=a):a∉X.fs:=λhb=>by
 obtain⟨_,o,ho,_⟩:=I.ok.og.mem hb;exact absurd (Ig (Ud ho)<|bf I.sz h)<|Oi _
def ya.Pr(I:ya X aa σ H s):∀x c,X.env.cells.lookup x=some c->c≠X.env.locals:=λx c e z=>by
 obtain⟨v,o,ho,hd⟩:=I.cell x c e;obtain⟨m,⟨o',es,ep,Dj,Wr,_⟩,_⟩:=I.loc;rw[z,Dj]at ho;cases ho;rw[Wr]at hd;cases hd
theorem ya.og(I:ya X aa σ H s):s.heap.FunFrames X.base X.outer:=by
 have all:∀(l:List Env),(∀b∈De l,b∈X.fs)->X.Ba.heap.FunFrames X.base l->s.heap.FunFrames X.base l:=by
  intro l
  induction l with
  |nil=>intro _ _;trivial
  |cons env r ih=>
   intro hs hl;obtain⟨hk,⟨L,o,hf,hn,ho,hd⟩,hr⟩:=hl;have hL:L∈X.fs:=hs L (by unfold De;rw[WD,hf];exact Jb)
   obtain⟨sl,e⟩:=I.base.slot L o ho (I.ok.Zo L hL) hL λz=>I.ok.yj L z hL
   exact⟨hk,⟨L,_,hf,hn,e,hd⟩,ih (λb hb=>hs b<|by unfold De;rw[WD,hf];exact Qb _ hb) hr⟩
 exact all X.outer (λ_ hb=>hb) I.ok.og
theorem ya.stack(I:ya X aa σ H s):s.heap.FunFrames X.base X.stack:=by
 rcases I.ok.Uv with e|⟨e,hf⟩
 .rw[e];exact I.og
 .rw[e];obtain⟨m,hn,_⟩:=I.loc;refine .cons (by rw[I.ok.kind];decide) hf hn ?_ I.og
  exact Heap.get?_none_of_le<|bf I.ok.Em I.ok.above
def ya.Kj(I:ya X aa σ H s):∀b∈De X.stack,b∈X.env.locals::X.fs:=λb hb=>by
 rcases I.ok.Uv with e|⟨e,hf⟩
 .rw[e]at hb;exact Qb _ hb
 .rw[e]at hb;unfold De at hb;rw[WD,hf]at hb;exact hb
def ya.Wg(I:ya X aa σ H s):∀b∈De X.stack,H b=none:=λb hb=>by
 rcases Kc.mp (I.Kj b hb) with e|hb
 .rw[e];exact I.free
 .obtain⟨_,o,ho,_⟩:=I.ok.og.mem hb;exact I.base.free b o ho (I.ok.Zo b hb) λz=>I.ok.yj b z hb
def ya.step{t':Nat}{d':Drawn}{ch:List Addr}(I:ya X aa σ H s)
  (Nn:∀b∈ch,(b∈X.ex\/X.Ba.heap.objs.size<=b)/\b≠X.env.locals/\(∀x c,X.env.cells.lookup x=some c->c≠b)/\∀p∈X.pn++aa,p.1≠b)
  (keep:∀b o,b≠X.env.locals->b∉X.fs->b∉ch->s.heap.get? b=some o->H b=none->h'.get? b=some o)
  (slot:∀b o,b≠X.env.locals->b∈X.fs->b∉ch->s.heap.get? b=some o->H b=none->∃sl,h'.get? b=some {o with slots:=sl}) (free:∀b o,b∉ch->s.heap.get? b=some o->H b=none->H' b=none)
  (there:∀b o,b∉ch->s.heap.get? b=some o->∃o',h'.get? b=some o')
  (rh:∀b xs,H b=some (.tup xs)->H' b=some (.tup xs)) (Qg:∀b o u,H b=some (.ij o u)->H' b=some (.ij o u)) (qh:∀b ps,H b=some (.Lp ps)->∃more,H' b=some (.Lp<|ps++more))
  (ns:∀m,s.heap.Ns X.env.locals m->h'.Ns X.env.locals m) (ib:Ze X.prog X.w H' h') (hg:AllBare g') :
  ya X aa σ H' {s with heap:=h',gens:=g',drawn:=d',toks:=t'}:=by
 have O5:∀b o,X.Ba.heap.get? b=some o->b≠X.env.locals:=λb o e=>Cf<|Ig (Ud e) I.ok.above
 have sF:∀b o,X.Ba.heap.get? b=some o->b∉X.ex->b∉ch:=λb o e hx hb=>by
  rcases (Nn b hb).1 with z|z
  .exact hx z
  .exact absurd (Ig (Ud e) z) (Oi _)
 have cellK:∀x c,X.env.cells.lookup x=some c->∀v,s.heap.IsCell c v->h'.IsCell c v:=λx c e v ⟨o,ho,hd⟩=>by
  have vz:c∉ch:=λz=>(Nn c z).2.2.1 x c e rfl
  by_cases hc:c∈X.fs
  .obtain⟨sl,q⟩:=slot c o (I.Pr x c e) hc vz ho<|I.Fe x c e;exact⟨_,q,hd⟩
  .exact⟨o,keep c o (I.Pr x c e) hc vz ho<|I.Fe x c e,hd⟩
 refine⟨I.ok,I.os,hg,⟨λb o e n hb hx=>?_,λb o e n hb hx=>?_,λb o e n hx=>?_,λb o e hx=>?_,λb xs e=>rh b xs<|I.base.rh b xs e,λb o xs e=>Qg b o xs<|I.base.Qg b o xs e,λb ps e=>?_⟩,?_,λx c e=>?_,?_,λx c e=>?_,λp hp=>?_,ib,I.len⟩
 .exact keep b o (O5 b o e) hb (sF b o e hx) (I.base.keep b o e n hb hx) (I.base.free b o e n hx)
 .obtain⟨sl,e1⟩:=I.base.slot b o e n hb hx;obtain⟨sl',e2⟩:=slot b _ (O5 b o e) hb (sF b o e hx) e1<|I.base.free b o e n hx;exact⟨sl',e2⟩
 .obtain⟨o',e1⟩:=I.base.there b o e hx;exact free b o' (sF b o e hx) e1<|I.base.free b o e n hx
 .obtain⟨o',e1⟩:=I.base.there b o e hx;exact there b o' (sF b o e hx) e1
 .obtain⟨m1,e1⟩:=I.base.qh b ps e;obtain⟨m2,e2⟩:=qh b _ e1;exact⟨m1++m2,by rw[e2,Array.append_assoc]⟩
 .obtain⟨m,hn,hl⟩:=I.loc;refine⟨m,ns m hn,λi x v e1 e2 e3=>?_⟩
  obtain⟨u,r,l⟩:=hl i x v e1 e2 e3;refine⟨u,r,?_⟩;rcases l with l|⟨k,c,e,z⟩
  .exact .inl l
  .exact .inr ⟨k,c,e,cellK x c e _ z⟩
 .obtain⟨v,z⟩:=I.cell x c e;exact⟨v,cellK x c e v z⟩
 .obtain⟨m,⟨o,_,_,ho,_⟩,_⟩:=I.loc;exact free _ o (λz=>(Nn _ z).2.1 rfl) ho I.free
 .obtain⟨v,o,ho,hd⟩:=I.cell x c e;exact free c o (λz=>(Nn c z).2.2.1 x c e rfl) ho<|I.Fe x c e
 .obtain⟨e,n,ne,nf,d⟩:=I.pin p hp;have vz:p.1∉ch:=λz=>(Nn p.1 z).2.2.2 p hp rfl
  exact⟨keep p.1 p.2 ne nf vz e n,free p.1 p.2 vz e n,ne,nf,d⟩
def ya.un{t':Nat}(I:ya X aa σ H s)(u:Un X.fs [] H H' s.heap h')(ib:Ze X.prog X.w H' h'):ya X aa σ H' {s with heap:=h',toks:=t'}:=by
 obtain⟨m,⟨o,es,ep,ho,r⟩,_⟩:=id I.loc;obtain⟨sl,hL⟩:=u.any ho I.free (by simp)
 exact I.step (g':=s.gens) (d':=s.drawn) (ch:=[]) (λ_ z=>nomatch z) (λb o _ hb _ e n=>u.keep b o e n hb<|by simp) (λb o _ hb _ e n=>u.slot b o e n hb<|by simp) (λb o _ e n=>u.free b o e n<|by simp) (λb o _ e=>u.there b o e<|by simp) u.rh u.Qg u.qh (λm' hm=>by
  obtain⟨o',Pf,Ey,Dj,r'⟩:=hm;rw[ho]at Dj;cases Dj;exact⟨_,Pf,Ey,hL,r'⟩) ib I.bare
def ya.call{t':Nat}{d':Drawn}(I:ya X aa σ H s)(u:Un (De X.stack) ch H H' s.heap h')(ib:Ze X.prog X.w H' h')(hg:AllBare g')
  (Nn:∀b∈ch,(b∈X.ex\/X.Ba.heap.objs.size<=b)/\b≠X.env.locals/\(∀x c,X.env.cells.lookup x=some c->c≠b)/\∀p∈X.pn++aa,p.1≠b) :
  ya X aa σ H' {s with heap:=h',gens:=g',drawn:=d',toks:=t'}:=by
 obtain⟨m,⟨o,es,ep,ho,r⟩,_⟩:=id I.loc;obtain⟨sl,hL⟩:=u.any ho I.free λz=>(Nn _ z).2.1 rfl
 exact I.step (ch:=ch) Nn (λb o hL hb hc e n=>u.keep b o e n (λz=>(Kc.mp<|I.Kj b z).elim hL hb) hc) (λb o _ _ hc e n=>u.any e n hc) (λb o hc e n=>u.free b o e n hc) (λb o hc e=>u.there b o e hc) u.rh u.Qg u.qh (λm' hm=>by
  obtain⟨o',Pf,Ey,Dj,r'⟩:=hm;rw[ho]at Dj;cases Dj;exact⟨_,Pf,Ey,hL,r'⟩) ib hg
def ya.turned{t':Nat}{it:Addr}(I:ya X aa σ H s)(k:∀b o,b≠it->s.heap.get? b=some o->h'.get? b=some o)(hn:H it=none)(hL:it≠X.env.locals)
  (h1:it∈X.ex\/X.Ba.heap.objs.size<=it) (h2:∀x c,X.env.cells.lookup x=some c->c≠it) (h3:∀p∈X.pn++aa,p.1≠it):ya X aa σ H {s with heap:=h',toks:=t'}:=by
 have P5:∀b u,H b=some u->b≠it:=λb u e z=>by rw[z,hn]at e;cases e
 refine I.step (g':=s.gens) (d':=s.drawn) (ch:=[it]) (λb hb=>?_) (λb o _ _ hc e _=>k b o (λz=>hc<|by simp[z]) e) (λb o _ _ hc e _=>⟨o.slots,k b o (λz=>hc<|by simp[z]) e⟩) (λ_ _ _ _ n=>n)
  (λb o hc e=>⟨o,k b o (λz=>hc<|by simp[z]) e⟩) (λ_ _ e=>e) (λ_ _ _ e=>e) (λb ps e=>⟨#[],by rw[e];simp⟩) (λm hm=>?_) (λb u e=>?_) I.bare
 .have e:b=it:=by simpa using hb
  subst e;exact⟨h1,hL,h2,h3⟩
 .obtain⟨o,es,ep,ho,r⟩:=hm;exact⟨o,es,ep,k _ o (Nk hL) ho,r⟩
 .refine(I.ib b u e).ph (λc v hc q=>k c v ?_ q) (λ_ q=>q) λ_ _ q=>q
  rcases hc with z|z
  .rw[z];exact P5 b u e
  .exact P5 c _ z
def ya.tok(I:ya X aa σ H s)(t:Nat):ya X aa σ H {s with toks:=t}:=I.un (h':=s.heap) (t':=t) Un.refl I.ib
theorem ya.kept{t':Nat}(I:ya X aa σ H s)(k:∀b u,s.heap.get? b=some u->h'.get? b=some u):ya X aa σ H {s with heap:=h',toks:=t'}:=I.un (Un.kept k)<|I.ib.kept k
theorem ya.laid{a:Addr}{t':Nat}(I:ya X aa σ H s)(k:∀b u,s.heap.get? b=some u->h'.get? b=some u)(hp:s.heap.objs.size<=a)(new:jN X.prog X.w (Ob H a o) h' a o) :
  ya X aa σ (Ob H a o) {s with heap:=h',toks:=t'}:=I.un (Un.laid k hp<|I.ib.fresh hp)<|I.ib.laid k hp new
theorem ya.write{e:Addr}{t':Nat}(I:ya X aa σ H s)(mu:Rh (H x))(he:e=x\/H e=some (.own x))(k:∀b u,b≠e->s.heap.get? b=some u->h'.get? b=some u)(Jv:∃u,h'.get? e=some u)
  (new:jN X.prog X.w (Ob H x o) h' x o):ya X aa σ (Ob H x o) {s with heap:=h',toks:=t'}:=I.un (Un.write mu he k Jv)<|I.ib.write mu he k Jv new
def ya.pk{nk:List (Addr×Obj)}(I:ya X aa σ H s)(h:∀p∈nk,s.heap.get? p.1=some p.2/\H p.1=none/\p.1≠X.env.locals/\p.1∉X.fs/\∀v,p.2.data≠.cell v):ya X nk σ H s:=
 ⟨I.ok,I.os,I.bare,I.base,I.loc,I.cell,I.free,I.Fe,λp hp=>(Hh.mp hp).elim (λz=>I.pin p<|Fh _ z)<|h p,I.ib,I.len⟩
def VT{N:List Str}(hN:N.Nodup){i j:Nat}{x:Str}(a:N[i]?=some x)(b:N[j]?=some x):i=j:=by
 obtain⟨h1,e1⟩:=Og.mp a;obtain⟨h2,e2⟩:=Og.mp b;exact(List.getElem_inj hN).mp (e1.trans e2.symm)
def DS{E:Value->Shared->Prop}{i:Nat}{Q:Unit->Shared->Prop}(I:ya X aa σ H s)(hN:X.N.Nodup)(hi:X.N[i]?=some x)(hx:Loc X.env.scope x)(r:RelV v u)
  (h:∀s',ya X aa (σ.set i<|some v) H s'->(∃a,Heap.SameBut a s.heap s'.heap/\(a=X.env.locals\/X.env.cells.lookup x=some a))->Q () s') (hf:X.fn x=true\/X.env.scope.names.lookup x=some .local:=by first|exact .inl rfl|exact .inr rfl|assumption):wpAny M A (storeName X.env x u) Q E s:=by
 obtain⟨m,hn,hl⟩:=id I.loc;have Lm:(X.env.scope.kind == .class||(X.env.scope.kind == .module&&X.env.locals !=X.env.globals))=false:=by rw[I.ok.kind];rfl
 have Vy:i<σ.length:=by rw[I.len];exact(Og.mp hi).1
 have Pr:=I.Pr;have tracked:∀{a:Addr}{h':Heap},(∃o,s.heap.get? a=some o/\H a=none)->Heap.SameBut a s.heap h'->Ze X.prog X.w H h':=λ{a h'} ha hs b ob e=>by
  obtain⟨_,_,Ui⟩:=ha;refine(I.ib b ob e).ph (λc w' hc q=>(hs.2 c ?_).trans q) (λ_ q=>q) λ_ _ q=>q
  rintro rfl;rcases hc with rfl|hc
  .rw[Ui]at e;cases e
  .rw[Ui]at hc;cases hc
 rcases hx with hk|hk
 .refine wpAny_storeName_local hk hn (λh' ON hs=>?_) Lm
  obtain⟨oL,_,_,hoL,_⟩:=id hn;refine h _ ⟨I.ok,I.os,I.bare,⟨λb o e n hb hx=>?_,λb o e n hb hx=>?_,I.base.free,λb o e hx=>?_,I.base.rh,I.base.Qg,I.base.qh⟩,⟨_,ON,λj y v' e1 e2 e3=>?_⟩,λy c e=>?_,I.free,I.Fe,λp hp=>?_,tracked ⟨oL,hoL,I.free⟩ hs,by simpa using I.len⟩ ⟨_,hs,.inl rfl⟩
  .exact(hs.2 b<|Cf<|Ig (Ud e) I.ok.above).trans (I.base.keep b o e n hb hx)
  .obtain⟨sl,e1⟩:=I.base.slot b o e n hb hx;exact⟨sl,(hs.2 b<|Cf<|Ig (Ud e) I.ok.above).trans e1⟩
  .obtain⟨o',e1⟩:=I.base.there b o e hx;exact⟨o',(hs.2 b<|Cf<|Ig (Ud e) I.ok.above).trans e1⟩
  .by_cases hj:j=i
   .subst hj;rw[hi]at e1;cases e1;rw[PL Vy]at e2;cases e2;exact⟨u,r,.inl ⟨hk,by simp⟩⟩
   .rw[F4<|Nk hj]at e2;obtain⟨u',r',q⟩:=hl j y v' e1 e2 e3;refine⟨u',r',?_⟩;rcases q with ⟨k,e⟩|⟨k,c,e,z⟩
    .refine .inl ⟨k,?_⟩;have:y≠x:=λe=>hj (VT hN e1<|e ▸ hi)
     simp[this,e]
    .exact .inr ⟨k,c,e,z.sameBut hs<|Pr y c e⟩
  .obtain⟨w',z⟩:=I.cell y c e;exact⟨w',z.sameBut hs<|Pr y c e⟩
  .obtain⟨e,n,ne,nf,d⟩:=I.pin p hp;exact⟨(hs.2 p.1 ne).trans e,n,ne,nf,d⟩
 .have Zr:X.fn x=true:=by
   rcases hf with z|z
   .exact z
   .rw[z]at hk;cases hk
  obtain⟨c,hc⟩:=I.ok.has x<|.inl hk;obtain⟨w',z⟩:=I.cell x c hc;refine wpAny_storeName_cell I.ok.kind hk hc z<|λh' Si hs=>?_
  obtain⟨oc,t5,RN⟩:=id z;refine h {s with heap:=h'} ⟨I.ok,I.os,I.bare,⟨λb o e n hb hx=>?_,λb o e n hb hx=>?_,I.base.free,λb o e hx=>?_,I.base.rh,I.base.Qg,I.base.qh⟩,⟨m,hn.sameBut hs<|Nk<|Pr x c hc,λj y v' e1 e2 e3=>?_⟩,λy c' e=>?_,I.free,I.Fe,λp hp=>?_,tracked ⟨oc,t5,I.Fe x c hc⟩ hs,by simpa using I.len⟩ ⟨c,hs,.inr hc⟩
  .exact(hs.2 b<|Cf<|Ig (Ud e)<|I.ok.Mr x c Zr hc).trans (I.base.keep b o e n hb hx)
  .obtain⟨sl,e1⟩:=I.base.slot b o e n hb hx;exact⟨sl,(hs.2 b<|Cf<|Ig (Ud e)<|I.ok.Mr x c Zr hc).trans e1⟩
  .obtain⟨o',e1⟩:=I.base.there b o e hx;exact⟨o',(hs.2 b<|Cf<|Ig (Ud e)<|I.ok.Mr x c Zr hc).trans e1⟩
  .by_cases hj:j=i
   .subst hj;rw[hi]at e1;cases e1;rw[PL Vy]at e2;cases e2;exact⟨u,r,.inr ⟨.inl hk,c,hc,Si⟩⟩
   .rw[F4<|Nk hj]at e2;obtain⟨u',r',q⟩:=hl j y v' e1 e2 e3;refine⟨u',r',?_⟩;rcases q with q|⟨k,c',e,z'⟩
    .exact .inl q
    .refine .inr ⟨k,c',e,z'.sameBut hs ?_⟩;rintro rfl;exact hj<|VT hN e1<|I.ok.inj _ _ _ e hc ▸ hi
  .by_cases SE:c'=c
   .subst SE;exact⟨_,Si⟩
   .obtain⟨w2,z2⟩:=I.cell y c' e;exact⟨w2,z2.sameBut hs SE⟩
  .obtain⟨e,n,ne,nf,d⟩:=I.pin p hp;refine⟨(hs.2 p.1 ?_).trans e,n,ne,nf,d⟩;intro q;rw[q,t5]at e;have q':oc=p.2:=Dm e;exact d w' (by rw[<-q'];exact RN)
def Ff{E:Value->Shared->Prop}{i:Nat}{Q:Unit->Shared->Prop}(I:ya X aa σ H s)(hN:X.N.Nodup)(hi:X.N[i]?=some x)(hx:Loc X.env.scope x)(r:RelV v u)
  (h:∀s',ya X aa (σ.set i<|some v) H s'->Q () s') (hf:X.fn x=true\/X.env.scope.names.lookup x=some .local:=by first|exact .inl rfl|exact .inr rfl|assumption):wpAny M A (storeName X.env x u) Q E s:=
 DS I hN hi hx r (λs' I' _=>h s' I') hf
def ya.Fm{s':Shared}(I:ya X aa σ H s)(ho:s'.os=s.os)(u:Un (De X.stack) ch H H' s.heap s'.heap)(ib:Ze X.prog X.w H' s'.heap)(hg:AllBare s'.gens)
  (Nn:∀b∈ch,(b∈X.ex\/X.Ba.heap.objs.size<=b)/\b≠X.env.locals/\(∀x c,X.env.cells.lookup x=some c->c≠b)/\∀p∈X.pn++aa,p.1≠b):ya X aa σ H' s':=by
 obtain⟨h',g',d',t',o'⟩:=s';have e:o'=s.os:=ho;subst e;exact I.call (g':=g') (t':=t') (d':=d') u ib hg Nn
end
abbrev XK:=Value->Option Addr->Hp->Prop
abbrev St:=List<|Option V
abbrev VK:=V->Hp->Prop
abbrev TE:=St->Hp->VK->Prop
abbrev TT:=St->Hp->(Bool->Hp->Prop)->Prop
abbrev TA:=St->Hp->(List V->Hp->Prop)->Prop
structure Ends where
 nx:St->Hp->Prop
 rt:VK
 bk:St->Hp->Prop:=λ_ _=>False
 ct:St->Hp->Prop:=λ_ _=>False
abbrev TS:=Ends->St->Hp->Prop
def EP(X:Cx)(aa:List (Addr×Obj))(σ:St)(Q:VK)(u:Value)(s':Shared):Prop:=∃v H',ya X aa σ H' s'/\RelV v u/\Q v H'
def TP(X:Cx)(aa:List (Addr×Obj))(σ:St)(Q:Bool->Hp->Prop)(b:Bool)(s':Shared):Prop:=∃H',ya X aa σ H' s'/\Q b H'
def AP(X:Cx)(aa:List (Addr×Obj))(σ:St)(Q:List V->Hp->Prop)(us:List Value)(s':Shared):Prop:=∃vs H',ya X aa σ H' s'/\Ca vs us/\Q vs H'
def SP(X:Cx)(aa:List (Addr×Obj))(D:Ends)(f:Flow)(s':Shared):Prop:=
 match f with
 |.next=>∃Eb H',ya X aa Eb H' s'/\D.nx Eb H'
 |.brk=>∃Eb H',ya X aa Eb H' s'/\D.bk Eb H'
 |.cont=>∃Eb H',ya X aa Eb H' s'/\D.ct Eb H'
 |.ret u=>∃v Eb H',ya X aa Eb H' s'/\RelV v u/\D.rt v H'
def PE(X:Cx)(e:Expr)(t:TE):Prop:=
 ∀(aa:List (Addr×Obj)) (s:Shared) (σ:St) (H:Hp) (Q:VK),ya X aa σ H s->t σ H Q->wpAny (model X.prog X.w) X.A (eval e X.env) (EP X aa σ Q) X.xe s
def PT(X:Cx)(e:Expr)(t:TT):Prop:=
 ∀(aa:List (Addr×Obj)) (s:Shared) (σ:St) (H:Hp) (Q:Bool->Hp->Prop),ya X aa σ H s->t σ H Q->wpAny (model X.prog X.w) X.A (isTrue e X.env<|eval e X.env) (TP X aa σ Q) X.xe s
def PW(X:Cx)(e:Expr)(t:TT):Prop:=
 ∀(whole:Sem Value) (aa:List (Addr×Obj)) (s:Shared) (σ:St) (H:Hp) (Q:Bool->Hp->Prop),ya X aa σ H s->t σ H Q->wpAny (model X.prog X.w) X.A (isTrue e X.env whole) (TP X aa σ Q) X.xe s
def PW.pt{X:Cx}{t:TT}(h:PW X e t):PT X e t:=h _
def PA(X:Cx)(es:List Expr)(t:TA):Prop:=
 ∀(pos:Pos) (aa:List (Addr×Obj)) (s:Shared) (σ:St) (H:Hp) (Q:List V->Hp->Prop),ya X aa σ H s->t σ H Q->wpAny (model X.prog X.w) X.A (spliced<|backTo pos<|starEach es X.env) (AP X aa σ Q) X.xe s
def PS(X:Cx)(st:Stmt)(t:TS):Prop:=
 ∀(aa:List (Addr×Obj)) (s:Shared) (σ:St) (H:Hp) (D:Ends),ya X aa σ H s->t D σ H->wpAny (model X.prog X.w) X.A (exec st X.env) (SP X aa D) X.xe s
def we(X:Cx)(st:List Stmt)(t:TS):Prop:=
 ∀(aa:List (Addr×Obj)) (s:Shared) (σ:St) (H:Hp) (D:Ends),ya X aa σ H s->t D σ H->wpAny (model X.prog X.w) X.A (execs st X.env) (SP X aa D) X.xe s
def qc{α:Type}{t:Sem α}{Q Q':α->Shared->Prop}{E:Value->Shared->Prop}(h:wpAny M A t Q E s)(hQ:∀a s,Q a s->Q' a s):wpAny M A t Q' E s:=Kk h hQ λ_ _ x=>x
end L2
namespace L2
open PySem PySem.Spec PyProof.Rows
section
variable{X:Cx}
def K1(i:Nat):TE:=λσ H Q=>∃v,σ[i]?=some (some v)/\Q v H
def tC(v:V):TE:=λ_ H Q=>Q v H
def tE{i:Nat}(hN:X.N[i]?=some x)(hv:Ei X.env.scope x)(hd:(x==("__debug__":Str))=false:=by decide)(af:(x==("__classdict__":Str))=false:=by decide):PE X (.Name x pos) (K1 i):=by
 intro aa s σ H Q I h;obtain⟨v,e,h⟩:=h;obtain⟨m,hn,hl⟩:=I.loc;obtain⟨u,r,l⟩:=hl i x v hN e hv;have fin:EP X aa σ Q u s:=⟨v,H,I,r,h⟩;rcases l with ⟨hk,hm⟩|⟨hk,c,hc,Mq⟩
 .exact wpAny_Name (wpAny_loadName_local I.ok.kind hk hn hm fin) hd
 .rcases hk with hk|hk
  .exact wpAny_Name (wpAny_loadName_cell I.ok.kind hk hc Mq fin) hd
  .exact wpAny_Name (wpAny_loadName_free I.ok.kind hk hc Mq fin af) hd
def bKh{i j pos}:PE X (.Constant (.int i) j pos) (tC<|.int i):=λ_ _ _ H _ I h=>wpAny_Constant_int ⟨.int i,H,I.tok _,⟨_,rfl⟩,h⟩
def bO0{b j pos}:PE X (.Constant (.bool b) j pos) (tC<|.bl b):=λ_ _ _ H _ I h=>Constant_bool ⟨.bl b,H,I,rfl,h⟩
def bKi{j pos}:PE X (.Constant .none j pos) (tC .lc):=λ_ _ _ H _ I h=>Constant_none ⟨.lc,H,I,rfl,h⟩
def bKj{x j pos}:PE X (.Constant (.str x) j pos) (tC<|.str x):=λ_ _ _ H _ I h=>Calls.Constant_str ⟨.str x,H,I.tok _,⟨_,rfl⟩,h⟩
def Gl(X:Cx)(x:Str):Prop:=X.env.kindOf x=some .globalImplicit
abbrev xf(x:Str):Prop:=(x==("__debug__":Str))=false
abbrev kl(x:Str):Prop:=(x==("__classdict__":Str))=false
def ll{sc:Scope}(h:(match sc.names.lookup x with|some .local|some .cell|some .free=>true|_=>false)=true):Ei sc x:=by
 unfold Ei;split at h<;>simp_all
def Ip{sc:Scope}(h:(match sc.names.lookup x with|some .local|some .cell=>true|_=>false)=true):Loc sc x:=by
 unfold Loc;split at h<;>simp_all
abbrev Vl(X:Cx)(x:Str):Prop:=X.fn x=true\/X.env.scope.names.lookup x=some .local
abbrev Lf(e:Expr)(es:List Expr)(E:Env):Prop:=starEach (e::es) E=(false,eval e E)::starEach es E
abbrev Ci(p:Pos)(es:List Expr)(E:Env):Prop:=(backTo p<|starEach es E).any (·.1)=false
abbrev jl(p:Pos)(es:List Expr)(E:Env):Prop:=((backTo p<|starEach es E).all (λx=>!x.1)&&(backToKw p<|keywordEach [] E).all (λx=>x.1.isSome)
 && decide (es.length+([]:List Keyword).length+(if ([]:List Keyword).isEmpty then 0 else 1)<30))=true
abbrev Ah(o:Expr)(m:Str)(E:Env):Prop:=attributeBase o m E (eval o E)=eval o E
abbrev Bi(a c:Pos):Prop:=(a.endLine==c.line)=true
abbrev Hj(e:Expr)(t:Option Expr)(l:Nat)(E:Env):Prop:=swapsWith e t l E=pure false
def vt{E:Value->Shared->Prop}{Q:Value->Shared->Prop}(I:ya X aa σ H s)(hg:Gl X x)(hm:X.mg x=some u)(h:Q u s)
  (hd:xf x:=by decide):wpAny (model X.prog X.w) X.A (eval (.Name x pos) X.env) Q E s:=
 T2 I.ok.kind hg (Calls.loadGlobal_global (by rw[I.ok.glob];exact I.mod.glob.keeps I.bk) hm h) hd
def jr{E:Value->Shared->Prop}{Q:Value->Shared->Prop}(I:ya X aa σ H s)(hg:Gl X x)(hm:X.mg x=none)(hv:bootBuiltins x=some u)(h:Q u s)
  (hn:x≠"__name__":=by decide) (hd:xf x:=by decide):wpAny (model X.prog X.w) X.A (eval (.Name x pos) X.env) Q E s:=by
 obtain⟨mb,h1,h2⟩:=I.mod.blt;exact T2 I.ok.kind hg (Calls.loadGlobal_builtin (by rw[I.ok.glob];exact I.mod.glob.keeps I.bk) hm (by rw[I.ok.blt];exact h1.keeps I.bk) ((h2 x hn).trans hv) h) hd
def oB(hg:Gl X x)(hm:X.mg x=some u)(r:RelV v u)(hd:xf x:=by decide):PE X (.Name x pos) (tC v):=
 λ_ _ _ H _ I h=>vt I hg hm ⟨v,H,I,r,h⟩ hd
def bG5(hg:Gl X x)(hm:X.mg x=none)(hv:bootBuiltins x=some u)(r:RelV v u)(hn:x≠"__name__":=by decide)(hd:xf x:=by decide):PE X (.Name x pos) (tC v):=
 λ_ _ _ H _ I h=>jr I hg hm hv ⟨v,H,I,r,h⟩ hn hd
variable{a b:Expr}{ta tb:TE}{pos:Pos}
def tB(t:TE):TT:=λσ H Q=>t σ H λx H1=>∃c,x=.bl c/\Q c H1
def bKk{t:TE}(h:PE X e t)(he:∀whole,isTrue e X.env whole=(do let v <- whole;standAt e.pos;holding [v] (truthy v)):=by intro _;rfl):PT X e (tB t):=by
 intro aa s σ H Q I hw;refine isTrue_plain (qc (h aa s σ H _ I hw) λv s1 ⟨x,H1,I1,r1,q1⟩=>?_)<|he _
 obtain⟨d,rfl,q⟩:=q1;cases r1;exact sq ⟨H1,I1,q⟩
variable{tA DF:TT}{rest:List Expr}
def bQu(t u:TT):TT:=λσ H Q=>t σ H λc H1=>if c=true then u σ H1 Q else Q false H1
def tOr(t u:TT):TT:=λσ H Q=>t σ H λc H1=>if c=true then Q true H1 else u σ H1 Q
def bQv(t:TT):TT:=λσ H Q=>t σ H λc H1=>Q (!c) H1
def bG6(ha:PT X a tA):PW X (.BoolOp .And [a] pos) tA:=by
 intro wh aa s σ H Q I h;refine isTrue_and<|qc (ha aa s σ H Q I h) λc s1 e=>?_
 cases c with
 |true=>exact isTrue_and_nil e
 |false=>exact e
def bKl(ha:PT X a tA):PW X (.BoolOp .Or [a] pos) tA:=by
 intro wh aa s σ H Q I h;refine isTrue_or<|qc (ha aa s σ H Q I h) λc s1 e=>?_
 cases c with
 |false=>exact isTrue_or_nil e
 |true=>exact e
def bKm(ha:PT X a tA)(hb:PW X (.BoolOp .And (b::rest) pos) DF):PW X (.BoolOp .And (a::b::rest) pos) (bQu tA DF):=by
 intro wh aa s σ H Q I h;refine isTrue_and<|qc (ha aa s σ H _ I h) λc s1 ⟨H1,I1,q1⟩=>?_
 cases c with
 |true=>exact hb wh aa s1 σ H1 Q I1 q1
 |false=>exact⟨H1,I1,q1⟩
def bO1(ha:PT X a tA)(hb:PW X (.BoolOp .Or (b::rest) pos) DF):PW X (.BoolOp .Or (a::b::rest) pos) (tOr tA DF):=by
 intro wh aa s σ H Q I h;refine isTrue_or<|qc (ha aa s σ H _ I h) λc s1 ⟨H1,I1,q1⟩=>?_
 cases c with
 |true=>exact⟨H1,I1,q1⟩
 |false=>exact hb wh aa s1 σ H1 Q I1 q1
def bKn(ha:PT X a tA):PT X (.UnaryOp .Not a pos) (bQv tA):=by
 intro aa s σ H Q I h;exact isTrue_not<|ha aa s σ H (λc H1=>Q (!c) H1) I h
def bO2(ta tb:TE):TE:=λσ H Q=>ta σ H λx H1=>∃c,x=.bl c/\if c=true then tb σ H1 Q else Q (.bl false) H1
def bQw(ta tb:TE):TE:=λσ H Q=>ta σ H λx H1=>∃c,x=.bl c/\if c=true then Q (.bl true) H1 else tb σ H1 Q
def bO3(ta:TE):TE:=λσ H Q=>ta σ H λx H1=>∃c,x=.bl c/\Q (.bl<|!c) H1
def PY{op}{t:TE}(h:PE X a t):PE X (.BoolOp op [a] pos) t:=λaa s σ H Q I hw=>BoolOp_one<|h aa s σ H Q I hw
def bKo(ha:PE X a ta)(hb:PE X (.BoolOp .And (b::rest) pos) tb):PE X (.BoolOp .And (a::b::rest) pos) (bO2 ta tb):=by
 intro aa s σ H Q I h;refine BoolOp_and<|qc (ha aa s σ H _ I h) λv s1 ⟨x,H1,I1,r1,q1⟩=>?_
 obtain⟨c,rfl,q1⟩:=q1;cases r1;refine sq ?_
 cases c with
 |true=>exact hb aa s1 σ H1 Q I1 q1
 |false=>exact⟨.bl false,H1,I1,rfl,q1⟩
def bO4(ha:PE X a ta)(hb:PE X (.BoolOp .Or (b::rest) pos) tb):PE X (.BoolOp .Or (a::b::rest) pos) (bQw ta tb):=by
 intro aa s σ H Q I h;refine BoolOp_or<|qc (ha aa s σ H _ I h) λv s1 ⟨x,H1,I1,r1,q1⟩=>?_
 obtain⟨c,rfl,q1⟩:=q1;cases r1;refine sq ?_
 cases c with
 |false=>exact hb aa s1 σ H1 Q I1 q1
 |true=>exact⟨.bl true,H1,I1,rfl,q1⟩
def bKp(ha:PE X a ta):PE X (.UnaryOp .Not a pos) (bO3 ta):=by
 intro aa s σ H Q I h;refine UnaryOp_<|qc (ha aa s σ H _ I h) λv s1 ⟨x,H1,I1,r1,q1⟩=>?_
 obtain⟨c,rfl,q1⟩:=q1;cases r1;exact not_of<|sq ⟨.bl<|!c,H1,I1,rfl,q1⟩
def tIf(t:TT)(ta tb:TE):TE:=λσ H Q=>t σ H λc H1=>if c=true then ta σ H1 Q else tb σ H1 Q
def į(hc:PT X c tA)(ha:PE X a ta)(hb:PE X b tb):PE X (.IfExp c a b pos) (tIf tA ta tb):=by
 intro aa s σ H Q I h;refine wpAny_IfExp<|qc (hc aa s σ H _ I h) λd s1 ⟨H1,I1,q1⟩=>?_
 cases d with
 |true=>exact ha aa s1 σ H1 Q I1 q1
 |false=>exact hb aa s1 σ H1 Q I1 q1
end
end L2
namespace L2
open PySem PySem.Spec PyProof.Rows
def Ae(K:PySem.W.Frag)(H:Hp)(a:Addr)(xs:List V):Prop:=
 Rd H a (.lst xs)\/
  ∃(o:Obj)(Sa:Array Value)(n:Nat),K.lookup a=some o/\o.cls=.type "list"/\o.dict=none/\o.data=.seq Sa n/\Sa.size<=sizeLine/\Ca xs Sa.toList
def Zg(K:PySem.W.Frag)(H:Hp)(a:Addr)(xs:List V):Prop:=
 Rd H a (.tup xs)\/
  ∃(o:Obj)(Sa:Array Value)(n:Nat),K.lookup a=some o/\o.cls=.type "tuple"/\o.data=.seq Sa n/\Sa.size<=sizeLine/\Ca xs Sa.toList
def bQx:Value->Option V
 |.none=>some .lc
 |.bool b=>some<|.bl b
 |.int i _=>some<|.int i
 |.str x _=>some<|.str x
 |.bytes b _=>some<|.JE b
 |.float b _=>some<|.Rr b
 |.ref a=>some<|.ref a
 |.type n=>some<|.ty n
 |_=>none
def RelV.abs(r:RelV x u):bQx u=some x:=by
 cases x with
 |lc=>cases r;rfl
 |bl _=>cases r;rfl
 |int _=>obtain⟨t,rfl⟩:=r;rfl
 |str _=>obtain⟨t,rfl⟩:=r;rfl
 |JE _=>obtain⟨t,rfl⟩:=r;rfl
 |Rr _=>obtain⟨t,rfl⟩:=r;rfl
 |ref _=>cases r;rfl
 |ty _=>cases r;rfl
def RelV.inj{x y:V}{u:Value}(r:RelV x u)(q:RelV y u):x=y:=Dm<|r.abs.symm.trans q.abs
theorem Ca.inj:∀{xs ys:List V}{us:List Value},Ca xs us->Ca ys us->xs=ys
 |_,_,_,.nil,.nil=>rfl
 |_,_,_,.cons r t,.cons r' t'=>by rw[r.inj r',Ca.inj t t']
section
variable{X:Cx}{aa:List (Addr×Obj)}{σ:St}{H:Hp}{s:Shared}{a:Addr}{xs ys:List V}
def Ae.of{K:PySem.W.Frag}(h:H a=some (.lst xs)):Ae K H a xs:=.inl<|.inl h
def Zg.of{K:PySem.W.Frag}(h:H a=some (.tup xs)):Zg K H a xs:=.inl<|.inl h
def ya.list(I:ya X aa σ H s)(h:Ae X.K H a xs):∃Sa:List Value,Ca xs Sa/\PlainL s.heap a Sa.toArray/\xs.length<=sizeLine:=by
 rcases h with h|⟨o,Sa,n,hk,hc,hd,hs,hz,r⟩
 .obtain⟨z,Sa,n,r,e⟩:=h.ok I.ib;exact⟨Sa,r,⟨_,n,e,rfl,rfl,rfl⟩,z⟩
 .refine⟨Sa.toList,r,⟨o,n,I.tf a o hk,hc,hd,by simpa using hs⟩,?_⟩
  have e:=r.length;simp only[Array.length_toList]at e;omega
def ya.tuple(I:ya X aa σ H s)(h:Zg X.K H a xs):∃Sa:List Value,Ca xs Sa/\IsTup s.heap a Sa.toArray/\xs.length<=sizeLine:=by
 rcases h with h|⟨o,Sa,n,hk,hc,hs,hz,r⟩
 .obtain⟨z,Sa,r,p⟩:=h.ok I.ib;exact⟨Sa,r,p,z⟩
 .refine⟨Sa.toList,r,⟨o,I.tf a o hk,hc,n,by simpa using hs⟩,?_⟩
  have e:=r.length;simp only[Array.length_toList]at e;omega
def ya.nh(I:ya X aa σ H s)(h:Ae X.K H a xs)(h':Ae X.K H a ys):xs=ys:=by
 obtain⟨Sa,r,⟨o,n,e,_,_,d⟩,_⟩:=I.list h;obtain⟨Sf,r',⟨o',n',e',_,_,d'⟩,_⟩:=I.list h';rw[e]at e';cases e';rw[d]at d';injection d' with d1 _
 have:Sa=Sf:=by simpa using congrArg Array.toList d1
 subst this;exact r.inj r'
def ya.Ph(I:ya X aa σ H s)(h:Zg X.K H a xs)(h':Zg X.K H a ys):xs=ys:=by
 obtain⟨Sa,r,⟨o,e,_,n,d⟩,_⟩:=I.tuple h;obtain⟨Sf,r',⟨o',e',_,n',d'⟩,_⟩:=I.tuple h';rw[e]at e';cases e';rw[d]at d';injection d' with d1 _
 have:Sa=Sf:=by simpa using congrArg Array.toList d1
 subst this;exact r.inj r'
end
abbrev Cx.Eh(X:Cx)(E:Value->Shared->Prop):Cx:={X with xe:=E}
abbrev Cx.Vg(X:Cx):Cx:=X.Eh λ_ _=>False
theorem Cx.Ok.Eh{X:Cx}(ok:X.Ok)(E:Value->Shared->Prop):(X.Eh E).Ok:=
 ⟨ok.mod,ok.kind,ok.glob,ok.blt,ok.above,ok.inj,ok.has,ok.Mr,ok.hd,ok.frames,ok.Uv,ok.Av,ok.bs,ok.Em,ok.Fj,ok.yj,ok.og,ok.Zo⟩
def Cx.Ok.Gf{X:Cx}{E:Value->Shared->Prop}(ok:(X.Eh E).Ok):X.Ok:=
 ⟨ok.mod,ok.kind,ok.glob,ok.blt,ok.above,ok.inj,ok.has,ok.Mr,ok.hd,ok.frames,ok.Uv,ok.Av,ok.bs,ok.Em,ok.Fj,ok.yj,ok.og,ok.Zo⟩
section
variable{X:Cx}{aa:List (Addr×Obj)}{σ:St}{H:Hp}{s:Shared}{E:Value->Shared->Prop}
theorem ya.Eh(I:ya X aa σ H s)(E:Value->Shared->Prop):ya (X.Eh E) aa σ H s:=⟨I.ok.Eh E,I.os,I.bare,I.base,I.loc,I.cell,I.free,I.Fe,I.pin,I.ib,I.len⟩
theorem ya.Gf(I:ya (X.Eh E) aa σ H s):ya X aa σ H s:=⟨I.ok.Gf,I.os,I.bare,I.base,I.loc,I.cell,I.free,I.Fe,I.pin,I.ib,I.len⟩
theorem SP.Gf{D:Ends}(h:SP (X.Eh E) aa D f s'):SP X aa D f s':=by
 cases f with
 |next=>obtain⟨Eb,H',I,q⟩:=h;exact⟨Eb,H',I.Gf,q⟩
 |brk=>obtain⟨Eb,H',I,q⟩:=h;exact⟨Eb,H',I.Gf,q⟩
 |cont=>obtain⟨Eb,H',I,q⟩:=h;exact⟨Eb,H',I.Gf,q⟩
 |ret u=>obtain⟨v,Eb,H',I,r,q⟩:=h;exact⟨v,Eb,H',I.Gf,r,q⟩
theorem we.Vg{st:List Stmt}{t:TS}(h:we X.Vg st t):we X st t:=λaa s σ H D I hw=>
 Kk (h aa s σ H D (I.Eh _) hw) (λ_ _ q=>q.Gf) λ_ _ z=>False.elim z
end
section
variable{X:Cx}{st:Stmt}{rest:List Stmt}{t u:TS}{e:Expr}{te:TE}{pos:Pos}
def bO5:TS:=λD σ H=>D.nx σ H
def bQy(t u:TS):TS:=λD σ H=>t {D with nx:=u D} σ H
def FW:we X [] bO5:=λ_ _ σ H _ I h=>mE ⟨σ,H,I,h⟩
def EA(h1:PS X st t)(h2:we X rest u):we X (st::rest) (bQy t u):=by
 intro aa s σ H D I h;refine wpAny_execs_cons<|qc (h1 aa s σ H {D with nx:=u D} I h) λf s1 q=>?_
 cases f with
 |next=>
  obtain⟨Eb,H',I',q⟩:=q;exact h2 aa s1 Eb H' D I' q
 |ret v=>exact q
 |brk=>exact q
 |cont=>exact q
def qB(h1:PS X st t):we X [st] t:=by
 intro aa s σ H D I h;refine wpAny_execs_cons<|qc (h1 aa s σ H D I h) λf s1 q=>?_
 cases f with
 |next=>exact mE q
 |ret v=>exact q
 |brk=>exact q
 |cont=>exact q
def ya.quiet(I:ya X aa σ H s):interactive X.env=false:=by simp[interactive,I.ok.kind]
def bO6(te:TE):TS:=λD σ H=>te σ H λ_ H1=>D.nx σ H1
def wt(he:PE X e te)(hs:Hj e none pos.line X.env:=by rfl):PS X (.Expr e pos) (bO6 te):=by
 intro aa s σ H D I h;exact wpAny_Expr_any (qc (he aa s σ H _ I h) λv s1 ⟨x,H1,I1,r1,q1⟩=>⟨σ,H1,I1,q1⟩) I.quiet hs
def bQz(te:TE):TS:=λD σ H=>te σ H D.rt
def RJ(he:PE X e te):PS X (.Return (some e) pos) (bQz te):=by
 intro aa s σ H D I h;exact wpAny_Return_some<|qc (he aa s σ H _ I h) λv s1 ⟨x,H1,I1,r1,q1⟩=>⟨x,σ,H1,I1,r1,q1⟩
def bR0(c:TT)(t u:TS):TS:=λD σ H=>c σ H λb H1=>if b=true then t D σ H1 else u D σ H1
def z0(hc:PT X c tc)(ha:we X a t)(hb:we X b u):PS X (.If c a b pos) (bR0 tc t u):=by
 intro aa s σ H D I h;refine wpAny_If<|qc (hc aa s σ H _ I h) λd s1 ⟨H1,I1,q1⟩=>?_
 cases d with
 |true=>exact ha aa s1 σ H1 D I1 q1
 |false=>exact hb aa s1 σ H1 D I1 q1
end
abbrev TG:=V->St->Hp->(St->Hp->Prop)->Prop
abbrev yn:=List V->St->Hp->(St->Hp->Prop)->Prop
def PG(X:Cx)(target:Expr)(t:TG):Prop:=
 ∀(aa:List (Addr×Obj)) (s:Shared) (σ:St) (H:Hp) (v:V) (u:Value) (Q:St->Hp->Prop),ya X aa σ H s->RelV v u->t v σ H Q->
  wpAny (model X.prog X.w) X.A (assign target X.env u) (λ_ s'=>∃Eb H',ya X aa Eb H' s'/\Q Eb H') X.xe s
def om(X:Cx)(ts:List Expr)(t:yn):Prop:=
 ∀(aa:List (Addr×Obj)) (s:Shared) (σ:St) (H:Hp) (vs:List V) (us:List Value) (Q:St->Hp->Prop),ya X aa σ H s->Ca vs us->t vs σ H Q->
  wpAny (model X.prog X.w) X.A (assignInOrder ((assignEach ts X.env).map (·.2)) us) (λ_ s'=>∃Eb H',ya X aa Eb H' s'/\Q Eb H') X.xe s
abbrev CL:=V->V->V->Hp->(Hp->Prop)->Prop
def DL(X:Cx)(t:CL):Prop:=
 ∀(aa:List (Addr×Obj)) (s:Shared) (σ:St) (H:Hp) (o i v:V) (ov iv u:Value) (Q:Hp->Prop),ya X aa σ H s->RelV o ov->RelV i iv->RelV v u->t o i v H Q->
  wpAny (model X.prog X.w) X.A (setItem ov iv u) (λ_ s'=>∃H',ya X aa σ H' s'/\Q H') X.xe s
section
variable{X:Cx}{pos:Pos}
def A0(i:Nat):TG:=λv σ H Q=>Q (σ.set i<|some v) H
def bG7{i:Nat}(hN:X.N.Nodup)(hi:X.N[i]?=some x)(hx:Loc X.env.scope x)(hf:Vl X x:=by first|exact .inl rfl|exact .inr rfl|assumption):PG X (.Name x pos) (A0 i):=by
 intro aa s σ H v u Q I r h;exact wpAny_assign_Name<|Ff I hN hi hx r (λs' I'=>⟨_,H,I',h⟩) hf
def bR1:yn:=λvs σ H Q=>vs=[]/\Q σ H
def bO7(t:TG)(u:yn):yn:=λvs σ H Q=>∃v r,vs=v::r/\t v σ H λEb H'=>u r Eb H' Q
def bG8:om X [] bR1:=by
 intro aa s σ H vs us Q I r h;obtain⟨e,h⟩:=h;subst e;cases r;exact assignInOrder_nil ⟨σ,H,I,h⟩
def İ{e:Expr}{t:TG}(h1:PG X e t)(h2:om X es u)
  (hs:(assignEach (e::es) X.env).map (·.2)=assign e X.env::(assignEach es X.env).map (·.2):=by rfl):om X (e::es) (bO7 t u):=by
 intro aa s σ H vs us Q I r h;obtain⟨v,vr,e1,h⟩:=h;subst e1;cases r with
 |cons r rr=>
  rw[hs];refine assignInOrder_cons<|qc (h1 aa s σ H _ _ _ I r h) λ_ s1 ⟨ft,H1,I1,q1⟩=>?_
  exact h2 aa s1 ft H1 _ _ Q I1 rr q1
def bR2(K:PySem.W.Frag)(n:Nat)(t:yn):TG:=λv σ H Q=>∃a xs,v=.ref a/\Zg K H a xs/\xs.length=n/\t xs σ H Q
def bKs{k:Nat}{t:yn}{n:Nat}(hc:X.calm=true)(h:om X es t)
  (hn:(assignEach es X.env).length=n:=by rfl) (Nh:(assignEach es X.env).findIdx? (·.1)=none:=by rfl):PG X (.Tuple es k pos) (bR2 X.K n t):=by
 intro aa s σ H v u Q I r hw;obtain⟨a,xs,e1,hq,hl,hw⟩:=hw;subst e1;cases r;obtain⟨Sa,rv,ht,hz⟩:=I.tuple hq;refine assign_Tuple_tuple (I.ok.hd hc) ht (by simp[hn,<-hl,rv.length]) Nh λh' hx=>?_
 have I1:ya X aa σ H {s with heap:=h'}:=I.kept (t':=s.toks) λb o e=>hx b o (Cf<|Ud e) e
 exact h aa _ σ H xs _ Q I1 (by simpa using rv) hw
def bR3(to ti:TE)(t:CL):TG:=λv σ H Q=>to σ H λo H1=>ti σ H1 λi H2=>t o i v H2 λH3=>Q σ H3
def QY{t:CL}(ho:PE X o to)(hi:PE X i ti)(hs:DL X t)
  (ha:∀v,assign (.Subscript o i pos) X.env v=(do
   let ov <- holding [v] (eval o X.env)
   let iv <- holding [v,ov] (eval i X.env)
   standAt pos
   holding [v,ov,iv] (setItem ov iv v)
   release [v,ov,iv] []):=by intro _;rfl):PG X (.Subscript o i pos) (bR3 to ti t):=by
 intro aa s σ H v u Q I r h;rw[ha];refine Ja<|Rj<|qc (ho aa s σ H _ I h) λov s1 ⟨x,H1,I1,r1,q1⟩=>?_
 refine Ja<|Rj<|qc (hi aa s1 σ H1 _ I1 q1) λiv s2 ⟨y,H2,I2,r2,q2⟩=>?_
 refine Ja<|Wu<|Ja<|Rj<|qc (hs aa s2 σ H2 x y v ov iv u _ I2 r1 r2 r q2) λ_ s3 ⟨H3,I3,q3⟩=>?_
 exact wpAny_release ⟨σ,H3,I3,q3⟩
def L1(te:TE)(g:TG):TS:=λD σ H=>te σ H λx H1=>g x σ H1 D.nx
def SJ(he:PE X e te)(hg:PG X tg g)(hs:swapsWithSole [tg] e pos.line X.env=pure false:=by rfl)(hw:swappedStores [tg] e X.env=pure none:=by rfl)
  (h1:(assignEach [tg] X.env).map (·.2)=[assign tg X.env]:=by rfl):PS X (.Assign [tg] e pos) (L1 te g):=by
 intro aa s σ H D I h;refine wpAny_Assign_stores (qc (he aa s σ H _ I h) λv s1 ⟨x,H1,I1,r1,q1⟩=>?_) hs hw
 rw[h1];exact qc (hg aa s1 σ H1 x v _ I1 r1 q1) λ_ s2 q=>q
def Ew{i:Nat}(hN:X.N.Nodup)(hi:X.N[i]?=some x)(hx:Loc X.env.scope x)(he:PE X e te)(hs:Hj e (some<|.Name x pos') pos.line X.env:=by rfl)(hf:Vl X x:=by first|exact .inl rfl|exact .inr rfl|assumption) :
  PS X (.Assign [.Name x pos'] e pos) (L1 te<|A0 i):=by
 intro aa s σ H D I h;refine wpAny_Assign_Name (qc (he aa s σ H _ I h) λv s1 ⟨y,H1,I1,r1,q1⟩=>?_) hs
 exact Ff I1 hN hi hx r1 (λs2 I2=>⟨_,H1,I2,q1⟩) hf
end
section
variable{X:Cx}{pos:Pos}
def bKt(c:TT)(tb:TS):TS:=λD σ H=>∃W:Nat->St->Hp->Prop,(∃m,W m σ H)/\∀m σ H,W m σ H->
 c σ H λb H1=>if b=true then ∃N:St->Hp->Prop,(∀Eb H',N Eb H'->∃m',m' < m/\W m' Eb H')/\tb {D with nx:=N,ct:=N,bk:=D.nx} σ H1 else D.nx σ H1
def ı(hp:PassesOwn (model X.prog X.w) X.A X.env X.xe)(hc:PT X c tc)(hb:we X body tb):PS X (.While c body [] pos) (bKt tc tb):=by
 intro aa s σ H D I h;obtain⟨W,⟨m0,w0⟩,turn⟩:=h;refine wpAny_While<|codeAny_whileLoop (λn s'=>∃Eb H',ya X aa Eb H' s'/\W n Eb H') ?_ m0 ⟨σ,H,I,w0⟩
 rintro n s1 ⟨ft,H1,I1,w1⟩;refine Jr hp<|qc (hc aa s1 ft H1 _ I1<|turn n ft H1 w1) λb s2 ⟨H2,I2,q2⟩=>?_
 cases b with
 |true=>
  obtain⟨N,hN,q2⟩:=q2;rw[kb rfl];refine Jr hp<|qc (hb aa s2 ft H2 _ I2 q2) λf s3 q3=>?_
  cases f with
  |next=>
   obtain⟨dm,H3,I3,n3⟩:=q3;obtain⟨m',hm,w3⟩:=hN dm H3 n3;exact⟨m',hm,dm,H3,I3,w3⟩
  |cont=>
   obtain⟨dm,H3,I3,n3⟩:=q3;obtain⟨m',hm,w3⟩:=hN dm H3 n3;exact⟨m',hm,dm,H3,I3,w3⟩
  |brk=>exact q3
  |ret v=>exact q3
 |false=>
  rw[gb Cg];exact mE ⟨ft,H2,I2,q2⟩
end
structure It where
 go:Nat->Hp->Prop
 Vv:Nat->Hp->V->Hp->Prop
 stop:Nat->Hp->Prop
def Mj(X:Cx)(aa:List (Addr×Obj))(H:Hp)(b:Addr):Prop:=
 H b=none/\b≠X.env.locals/\b∉X.fs/\(b∈X.ex\/X.Ba.heap.objs.size<=b)/\(∀x c,X.env.cells.lookup x=some c->c≠b)/\∀p∈X.pn++aa,p.1≠b
def ya.Hm{X:Cx}{H':Hp}{b:Addr}(I:ya X aa σ H s)(hb:s.heap.objs.size<=b)(hn:H' b=none):Mj X aa H' b:=by
 refine⟨hn,AE<|Ig I.lt hb,I.SO hb,.inr<|bf I.sz hb,λx c e z=>?_,λp hp z=>?_⟩
 .obtain⟨v,q⟩:=I.cell x c e;exact absurd (Ig q.lt<|by rw[z];exact hb)<|Oi _
 .exact absurd (Ig (Ud (I.pin p hp).1)<|by rw[z];exact hb) (Oi _)
structure Turn(P:Program)(w:World)(K:PySem.W.Frag)(tg:Expr)(J:It)(fp:List Addr)(it:Addr)(tn:Nat->Heap->Prop):Prop where
 mem:it∈fp
 obj:∀i h,tn i h->∀b∈fp,∃o,h.get? b=some o/\∀v,o.data≠.cell v
 keep:∀i h h',tn i h->(∀b∈fp,∀o,h.get? b=some o->h'.get? b=some o)->tn i h'
 item:∀(X:Cx),X.prog=P->X.w=w->X.K=K->X.calm=true->∀(i:Nat) (aa:List (Addr×Obj)) (s:Shared) (σ:St) (H:Hp) (E:Value->Shared->Prop),ya X aa σ H s->(∀b∈fp,Mj X aa H b)->tn i s.heap->J.go i H->
  wpAny (model P w) X.A (pyNext<|.ref it) (λr s1=>∃u,r=some u/\
   wpAny (model P w) X.A (letOwnedTupleGo tg (.ref it) u) (λ_ s2=>∃x H',ya X aa σ H' s2/\RelV x u/\J.Vv i H x H'/\tn (i+1) s2.heap/\∀b∈fp,H' b=none) E s1) E s
 done:∀(X:Cx),X.prog=P->X.w=w->X.K=K->X.calm=true->∀(i:Nat) (aa:List (Addr×Obj)) (s:Shared) (σ:St) (H:Hp) (E:Value->Shared->Prop),ya X aa σ H s->(∀b∈fp,Mj X aa H b)->tn i s.heap->J.stop i H->
  wpAny (model P w) X.A (pyNext<|.ref it) (λr s1=>r=none/\ya X aa σ H s1) E s
 self:∀(A:Around)(i:Nat)(s:Shared)(Q:Value->Shared->Prop)(E:Value->Shared->Prop),tn i s.heap->Q (.ref it) s->wpAny (model P w) A (pyIter<|.ref it) Q E s
abbrev TI:=St->Hp->(It->Hp->Prop)->Prop
def MP(X:Cx)(aa:List (Addr×Obj))(σ:St)(tg:Expr)(R:It->Hp->Prop)(JO:Value)(s2:Shared):Prop:=
 ∃(it:Addr)(fp:List Addr)(tn:Nat->Heap->Prop)(J:It)(H':Hp),JO=.ref it/\ya X aa σ H' s2/\Turn X.prog X.w X.K tg J fp it tn/\tn 0 s2.heap/\(∀b∈fp,Mj X aa H' b)/\R J H'
def PI(X:Cx)(tg iter:Expr)(wi:TI):Prop:=
 ∀(aa:List (Addr×Obj)) (s:Shared) (σ:St) (H:Hp) (R:It->Hp->Prop),ya X aa σ H s->wi σ H R->
  wpAny (model X.prog X.w) X.A (eval iter X.env) (λv s1=>wpAny (model X.prog X.w) X.A (pyIter v) (MP X aa σ tg R) X.xe s1) X.xe s
def OC{E:Value->Shared->Prop}{s:Shared}{Q:Unit->Shared->Prop}(ho:s.heap.get? it=some o)(hc:o.cls=.type n)(hd:o.data=.fields vs)
  (hn:["enumerate","zip","dict_itemiterator","dict_reverseitemiterator","odict_iterator","itertools.zip_longest","itertools.pairwise"].contains n=false) (hQ:Q () s):wpAny M A (letOwnedTupleGo tg (.ref it) u) Q E s:=by
 unfold letOwnedTupleGo;cases tg<;>first
  |exact Zb hQ
  |(cases u<;>first
    |exact Zb hQ
    | (refine Ja (wpAny_load ho ?_)
       rw[hc,hd];show wpAny M A (if (["enumerate","zip","dict_itemiterator","dict_reverseitemiterator","odict_iterator","itertools.zip_longest","itertools.pairwise"].contains n&&vs[0]?==some (rawInt _))=true then _ else _) Q E s
       rw[gb (by intro h;rw[hn,Bool.false_and]at h;cases h)]
       exact Zb hQ))
def MF(K:PySem.W.Frag)(a:Addr):It:=
 ⟨λi H=>∃xs x,Ae K H a xs/\xs[i]?=some x,λi H x H'=>H'=H/\∀xs,Ae K H a xs->xs[i]?=some x,λi H=>∃xs,Ae K H a xs/\xs.length<=i⟩
def NF(K:PySem.W.Frag)(a:Addr):It:=
 ⟨λi H=>∃xs x,Zg K H a xs/\xs[i]?=some x,λi H x H'=>H'=H/\∀xs,Zg K H a xs->xs[i]?=some x,λi H=>∃xs,Zg K H a xs/\xs.length<=i⟩
def Zv(lo:Int)(n:Nat):It:=⟨λi _=>i<n,λi H x H'=>H'=H/\x=.int (lo+i),λi _=>n<=i⟩
def Ü{K:PySem.W.Frag}(a it:Addr):Turn P w K tg (MF K a) [it] it (λi h=>h.IsListIter it a i) where
 mem:=by simp
 obj:=λi h st b hb=>by
  have e:b=it:=by simpa using hb
  subst e;obtain⟨o,e,c,d⟩:=st;exact⟨o,e,λv z=>by rw[d]at z;cases z⟩
 keep:=λi h h' st k=>st.at λo e=>k it (by simp) o e
 item:=by
  intro X hP hw hK hc i aa s σ H E I hf st hg;subst hP hw hK;obtain⟨xs,x,hq,hx⟩:=hg;obtain⟨Sa,rv,p,hz⟩:=I.list hq;obtain⟨u,hu,ru⟩:=rv.get hx;obtain⟨f0,f1,f2,f3,f4,f5⟩:=hf it (by simp)
  refine wpAny_pyNext_list_item st p.isList (x:=u) (by simpa using hu) λh' st' sb=>?_
  have I1:ya X aa σ H {s with heap:=h'}:=I.turned (t':=s.toks) (λb o hb e=>(sb.2 b hb).trans e) f0 f1 f3 f4 f5
  obtain⟨o,e,c,d⟩:=id st';exact⟨u,rfl,OC (s:={s with heap:=h'}) e c d (by decide) ⟨x,H,I1,ru,⟨rfl,λys hy=>by rw[I.nh hy hq];exact hx⟩,st',λb hb=>(hf b hb).1⟩⟩
 done:=by
  intro X hP hw hK hc i aa s σ H E I hf st hg;subst hP hw hK;obtain⟨xs,hq,hx⟩:=hg;obtain⟨Sa,rv,p,hz⟩:=I.list hq;obtain⟨f0,f1,f2,f3,f4,f5⟩:=hf it (by simp)
  have hl:=rv.length;exact wpAny_pyNext_list_end (I.ok.hd hc) st p.isList (by simp;omega) λh' eb=>⟨rfl,I.turned (t':=s.toks) (λb o hb e=>eb b o hb e) f0 f1 f3 f4 f5⟩
 self:=λ_ _ _ _ _ st h=>wpAny_pyIter_listiter st h
def Ϡ{K:PySem.W.Frag}(a it:Addr):Turn P w K tg (NF K a) [it] it (λi h=>h.IsTupleIter it a i) where
 mem:=by simp
 obj:=λi h st b hb=>by
  have e:b=it:=by simpa using hb
  subst e;obtain⟨o,e,c,d⟩:=st;exact⟨o,e,λv z=>by rw[d]at z;cases z⟩
 keep:=λi h h' st k=>st.at λo e=>k it (by simp) o e
 item:=by
  intro X hP hw hK hc i aa s σ H E I hf st hg;subst hP hw hK;obtain⟨xs,x,hq,hx⟩:=hg;obtain⟨Sa,rv,p,hz⟩:=I.tuple hq;obtain⟨u,hu,ru⟩:=rv.get hx;obtain⟨f0,f1,f2,f3,f4,f5⟩:=hf it (by simp)
  refine wpAny_pyNext_tuple_item st (show s.heap.IsTuple a Sa.toArray from p) (x:=u) (by simpa using hu) λh' st' sb=>?_
  have I1:ya X aa σ H {s with heap:=h'}:=I.turned (t':=s.toks) (λb o hb e=>(sb.2 b hb).trans e) f0 f1 f3 f4 f5
  obtain⟨o,e,c,d⟩:=id st';exact⟨u,rfl,OC (s:={s with heap:=h'}) e c d (by decide) ⟨x,H,I1,ru,⟨rfl,λys hy=>by rw[I.Ph hy hq];exact hx⟩,st',λb hb=>(hf b hb).1⟩⟩
 done:=by
  intro X hP hw hK hc i aa s σ H E I hf st hg;subst hP hw hK;obtain⟨xs,hq,hx⟩:=hg;obtain⟨Sa,rv,p,hz⟩:=I.tuple hq;obtain⟨f0,f1,f2,f3,f4,f5⟩:=hf it (by simp)
  have hl:=rv.length;exact wpAny_pyNext_tuple_end (I.ok.hd hc) st (show s.heap.IsTuple a Sa.toArray from p) (by simp;omega) λh' eb=>⟨rfl,I.turned (t':=s.toks) (λb o hb e=>eb b o hb e) f0 f1 f3 f4 f5⟩
 self:=λ_ _ _ _ _ st h=>wpAny_pyIter_tupleiter st h
def ϡ{K:PySem.W.Frag}(it:Addr)(lo:Int)(n:Nat):Turn P w K tg (Zv lo n) [it] it (λi h=>IsRangeIter h it (lo+(i:Nat)*1) ((n:Int)-(i:Nat)) 1) where
 mem:=by simp
 obj:=λi h st b hb=>by
  have e:b=it:=by simpa using hb
  subst e;exact⟨_,st,λv z=>by
   have z':Data.fields _=Data.cell v:=z;cases z'⟩
 keep:=λi h h' st k=>k it (by simp) _ st
 item:=by
  intro X hP hw hK hc i aa s σ H E I hf st hg;subst hP hw hK;obtain⟨f0,f1,f2,f3,f4,f5⟩:=hf it (by simp)
  have W:=Walks.range (prog:=X.prog) (w:=X.w) (I.ok.hd hc) it lo 1 n;refine W.item i s _ _ hg st λv h' tk hv st' kk=>?_
  obtain⟨t,rfl⟩:=hv;have I1:ya X aa σ H {s with heap:=h',toks:=tk}:=I.turned (λb o hb e=>kk b o (by simpa using hb) e) f0 f1 f3 f4 f5
  refine⟨_,rfl,OC (s:={s with heap:=h',toks:=tk}) (n:="range_iterator") st' rfl rfl (by decide) ⟨.int<|lo+i,H,I1,⟨t,?_⟩,⟨rfl,rfl⟩,st',λb hb=>(hf b hb).1⟩⟩
  rw[Int.mul_one]
 done:=by
  intro X hP hw hK hc i aa s σ H E I hf st hg;subst hP hw hK;obtain⟨f0,f1,f2,f3,f4,f5⟩:=hf it (by simp)
  exact wpAny_pyNext_range_end (I.ok.hd hc) st (by have:n<=i:=hg;omega) λh' eb=>⟨rfl,I.turned (t':=s.toks) (λb o hb e=>eb b o hb e) f0 f1 f3 f4 f5⟩
 self:=λ_ _ _ _ _ st h=>wpAny_pyIter_rangeiter st h
end L2
namespace L2
open PySem PySem.Spec PyProof.Rows
section
variable{X:Cx}{tg:Expr}
def WT{R:It->Hp->Prop}{E:Value->Shared->Prop}{lo hi:Int}{t:Tok}{tk:Nat}(I:ya X aa σ H s)(h1 : -(2^62)<=lo)(h2:lo<2^62)(h3 : -(2^62)<=hi)(h4:hi<2^62)
  (q:R (Zv lo (hi-lo).toNat) H):wpAny (model X.prog X.w) X.A (pyIter<|.ref s.heap.objs.size) (MP X aa σ tg R) E {s with heap:=s.heap.push {cls:=.type "range",data:=.fields #[.int lo t,.int hi u,.int 1 v]},toks:=tk}:=by
 refine wpAny_pyIter_range (IsRange.new ..) (small_one h1 h2 h3 h4) ?_
 have I1:ya X aa σ H {s with heap:=s.heap.push {cls:=.type "range",data:=.fields #[.int lo t,.int hi u,.int 1 v]},toks:=tk}:=I.kept λb o e=>ud _ e
 refine⟨(s.heap.push {cls:=.type "range",data:=.fields #[.int lo t,.int hi u,.int 1 v]}).objs.size,[(s.heap.push {cls:=.type "range",data:=.fields #[.int lo t,.int hi u,.int 1 v]}).objs.size],_,_,H,rfl,
  I1.kept (t':=tk) λb o e=>ud _ e,ϡ _ lo (hi-lo).toNat,?_,λb hb=>?_,q⟩
 .have e1:lo+((0:Nat):Int)*1=lo:=by simp
  have e2:(((hi-lo).toNat:Nat):Int)-((0:Nat):Int)=Builtin.Range.rangeSize lo hi 1:=by rw[rangeSize_one];split<;>omega
  show IsRangeIter _ _ (lo+((0:Nat):Int)*1) ((((hi-lo).toNat:Nat):Int)-((0:Nat):Int)) 1;rw[e1,e2];exact Vf _ rfl
 .have e:b=(s.heap.push {cls:=.type "range",data:=.fields #[.int lo t,.int hi u,.int 1 v]}).objs.size:=by simpa using hb
  subst e;exact I1.Hm (Zc _)<|I1.ib.fresh<|Zc _
def bO9(ta:TA):TI:=λσ H R=>ta σ H λvs H1=>∃j:Int,vs=[.int j]/\-(2^62)<=j/\j<2^62/\R (Zv 0 j.toNat) H1
def bOa(ta:TA):TI:=λσ H R=>ta σ H λvs H1=>∃i j:Int,vs=[.int i,.int j]/\(-(2^62)<=i/\i<2^62/\-(2^62)<=j/\j<2^62)/\R (Zv i (j-i).toNat) H1
def Ý{a:Expr}(hg:Gl X "range")(hm:X.mg "range"=none)(ha:PA X [a] ta)(hs:starEach [a] X.env=[(false,eval a X.env)]:=by rfl):PI X tg (.Call (.Name "range" p) [a] [] pos) (bO9 ta):=by
 intro aa s σ H R I h;refine Call_<|jr I hg hm boot_range<|Sx (qc (ha pos aa s σ H _ I h) λus s1 ⟨vs,H1,I1,r1,q1⟩=>?_) hs rfl
 obtain⟨j,e,q1,q2,q⟩:=q1;subst e;cases r1 with
 |cons r rr=>
  cases rr;obtain⟨t,rfl⟩:=r;exact call_range_1<|WT I1 (by omega) (by omega) q1 q2<|by simpa using q
def Þ{a b:Expr}(hg:Gl X "range")(hm:X.mg "range"=none)(ha:PA X [a,b] ta)(hs:starEach [a,b] X.env=[(false,eval a X.env),(false,eval b X.env)]:=by rfl)(Ef:starEach [b] X.env=[(false,eval b X.env)]:=by rfl) :
  PI X tg (.Call (.Name "range" p) [a,b] [] pos) (bOa ta):=by
 intro aa s σ H R I h;refine Call_<|jr I hg hm boot_range<|Sx (qc (ha pos aa s σ H _ I h) λus s1 ⟨vs,H1,I1,r1,q1⟩=>?_) (by rw[hs,Ef])<|by rw[Ef];rfl
 obtain⟨i,j,e,⟨q1,q2,q3,q4⟩,q⟩:=q1;subst e;cases r1 with
 |cons r rr=>
  cases rr with
  |cons r' rr=>
   cases rr;obtain⟨t,rfl⟩:=r;obtain⟨t',rfl⟩:=r';exact call_range_2<|WT I1 q1 q2 q3 q4 q
def bR4(wi:TI)(g:TG)(tb:TS):TS:=λD σ H=>wi σ H λJ H1=>∃W:Nat->Nat->St->Hp->Prop,(∃m,W 0 m σ H1)/\∀i m σ H,W i m σ H->
 (J.stop i H/\D.nx σ H)\/(J.go i H/\∃N:St->Hp->Prop,(∀Eb H',N Eb H'->∃m',m' < m/\W (i+1) m' Eb H')/\∀x H',J.Vv i H x H'->g x σ H' λjt H2=>tb {D with nx:=N,ct:=N,bk:=D.nx} jt H2)
def VB(fp:List Addr)(h:Heap):List (Addr×Obj):=fp.filterMap λb=>(h.get? b).map λo=>(b,o)
def zJ{fp:List Addr}{h:Heap}{b:Addr}(hb:b∈fp)(e:h.get? b=some o):(b,o)∈VB fp h:=List.mem_filterMap.mpr ⟨b,hb,by rw[e];rfl⟩
def ß{p:Addr×Obj}(hp:p∈VB fp h):p.1∈fp/\h.get? p.1=some p.2:=by
 obtain⟨b,hb,e⟩:=List.mem_filterMap.mp hp;cases q:h.get? b with
 |none=>rw[q]at e;cases e
 |some o=>
  rw[q]at e;have e':(b,o)=p:=Dm e;subst e';exact⟨hb,q⟩
def ya.pinned{fp:List Addr}(I:ya X aa σ H s)(hf:∀b∈fp,Mj X aa H b)(ho:∀b∈fp,∃o,s.heap.get? b=some o/\∀v,o.data≠.cell v):ya X (aa++VB fp s.heap) σ H s:=
 I.pk λp hp=>(Hh.mp hp).elim (λz=>I.pin p<|Pg _ z) λz=>by
  obtain⟨hb,e⟩:=ß z;obtain⟨f0,f1,f2,_⟩:=hf p.1 hb;obtain⟨o,e',d⟩:=ho p.1 hb;rw[e]at e';cases e';exact⟨e,f0,f1,f2,d⟩
def ya.xg{aa pl:List (Addr×Obj)}(I:ya X (aa++pl) σ H s):ya X aa σ H s:=I.pk λp hp=>I.pin p<|Pg _<|Fh _ hp
def bKu(hp:PassesOwn (model X.prog X.w) X.A X.env X.xe)(hc:X.calm=true)(hi:PI X tg iter wi)(hg:PG X tg g)(hb:we X body tb)
  (hs:∀x,foldedSetIterable iter X.env x=pure x:=by intro _;rfl):PS X (.For tg iter body [] pos) (bR4 wi g tb):=by
 intro aa s σ H D I h;refine wpAny_For (qc (hi aa s σ H _ I h) λv s1 h1=>qc h1 λJO s2 h2=>?_) hs
 obtain⟨it,fp,tn,J,H2,e,I2,T,Dh,f2,W,⟨m0,w0⟩,turn⟩:=h2;subst e;have Jj:∀{H':Hp},(∀b∈fp,H' b=none)->∀b∈fp,Mj X aa H' b:=λhn b hb=>⟨hn b hb,(f2 b hb).2⟩
 refine codeAny_forLoop_any (λn s'=>∃i Eb H',ya X aa Eb H' s'/\tn i s'.heap/\(∀b∈fp,H' b=none)/\W i n Eb H') ?_ m0 ⟨0,σ,H2,I2,Dh,λb hb=>(f2 b hb).1,w0⟩
 rintro n s3 ⟨i,dm,H3,I3,Ez,Gy,w3⟩;rcases turn i n dm H3 w3 with ⟨stop,qn⟩|⟨go,N,hN,step⟩
 .refine Jr hp (qc (T.done X rfl rfl rfl hc i aa s3 dm H3 X.xe I3 (Jj Gy) Ez stop) λr s4 ⟨hr,I4⟩=>?_)
  subst hr;exact mE ⟨dm,H3,I4,qn⟩
 .refine Jr hp (qc (T.item X rfl rfl rfl hc i aa s3 dm H3 X.xe I3 (Jj Gy) Ez go) λr s4 ⟨u,hr,h4⟩=>?_)
  subst hr;refine Jr hp<|qc h4 λ_ s5 ⟨x,H5,I5,r5,y5,st5,fr5⟩=>?_
  have Yv:=I5.pinned (Jj fr5)<|T.obj _ _ st5;refine Jr hp<|qc (hg _ s5 dm H5 x u _ Yv r5<|step x H5 y5) λ_ s6 ⟨σ6,H6,I6,q6⟩=>?_
  refine Jr hp<|qc (hb _ s6 σ6 H6 _ I6 q6) λf s7 q7=>?_
  have again:∀{dn:St}{H7:Hp},ya X (aa++VB fp s5.heap) dn H7 s7->N dn H7->∃m,m<n/\∃i Eb H',ya X aa Eb H' s7/\tn i s7.heap/\(∀b∈fp,H' b=none)/\W i m Eb H':=λ{dn H7} I7 n7=>by
   obtain⟨m',hm,w7⟩:=hN dn H7 n7;refine⟨m',hm,i+1,dn,H7,I7.xg,T.keep _ _ _ st5 λb hb o e=>(I7.pin (b,o)<|Pg _<|Pg _<|zJ hb e).1,λb hb=>?_,w7⟩
   obtain⟨o,e,d⟩:=T.obj _ _ st5 b hb;exact(I7.pin (b,o)<|Pg _<|Pg _<|zJ hb e).2.1
  cases f with
  |next=>obtain⟨dn,H7,I7,n7⟩:=q7;exact again I7 n7
  |cont=>obtain⟨dn,H7,I7,n7⟩:=q7;exact again I7 n7
  |brk=>obtain⟨dn,H7,I7,q7⟩:=q7;exact⟨dn,H7,I7.xg,q7⟩
  |ret v=>obtain⟨x7,dn,H7,I7,r7,q7⟩:=q7;exact⟨x7,dn,H7,I7.xg,r7,q7⟩
end
end L2
namespace L2
open PySem PySem.Spec PyProof.Rows
abbrev R2:=V->V->Hp->VK->Prop
def Oe(X:Cx)(f:Value->Value->Sem Value)(r:R2):Prop:=
 ∀(aa:List (Addr×Obj)) (s:Shared) (σ:St) (H:Hp) (x y:V) (v u:Value) (Q:VK),ya X aa σ H s->RelV x v->RelV y u->r x y H Q->
  wpAny (model X.prog X.w) X.A (f v u) (EP X aa σ Q) X.xe s
def RF(X:Cx)(f:Value->Sem Value)(r:V->Hp->VK->Prop):Prop:=
 ∀(aa:List (Addr×Obj)) (s:Shared) (σ:St) (H:Hp) (x:V) (v:Value) (Q:VK),ya X aa σ H s->RelV x v->r x H Q->
  wpAny (model X.prog X.w) X.A (f v) (EP X aa σ Q) X.xe s
def lU(X:Cx)(f:Value)(r:List V->Hp->VK->Prop):Prop:=
 ∀(aa:List (Addr×Obj)) (s:Shared) (σ:St) (H:Hp) (xs:List V) (us:List Value) (Q:VK),ya X aa σ H s->Ca xs us->r xs H Q->
  wpAny (model X.prog X.w) X.A (call f us) (EP X aa σ Q) X.xe s
def Hz(r:R2)(ta tb:TE):TE:=λσ H Q=>ta σ H λx H1=>tb σ H1 λy H2=>r x y H2 Q
def tUn(r:V->Hp->VK->Prop)(ta:TE):TE:=λσ H Q=>ta σ H λx H1=>r x H1 Q
def rI(C:Int->Int->Prop)(g:Int->Int->V):R2:=λx y H Q=>∃i j,x=.int i/\y=.int j/\C i j/\Q (g i j) H
def mj(g:Int->Int->V):R2:=λx y H Q=>∃i j,x=.int i/\y=.int j/\Q (g i j) H
def rU(g:Int->V):V->Hp->VK->Prop:=λx H Q=>∃i,x=.int i/\Q (g i) H
section
variable{X:Cx}{a b c:Expr}{ta tb tc:TE}{pos:Pos}
def EL(ha:PE X a ta)(hb:PE X b tb){aa:List (Addr×Obj)}{s:Shared}{σ:St}{H:Hp}{R:V->V->Hp->Prop}(I:ya X aa σ H s)
  (h:ta σ H λx H1=>tb σ H1 λy H2=>R x y H2) {Q:Value->Shared->Prop} {f:Value->Value->Sem Value}
  (hf:∀v u s2 x y H2,ya X aa σ H2 s2->RelV x v->RelV y u->R x y H2->wpAny (model X.prog X.w) X.A (f v u) Q X.xe s2) :
  wpAny (model X.prog X.w) X.A (eval a X.env) (λv Lb=>wpAny (model X.prog X.w) X.A (eval b X.env) (λu Ym=>wpAny (model X.prog X.w) X.A (f v u) Q X.xe Ym) X.xe Lb) X.xe s:=by
 refine qc (ha aa s σ H _ I h) λv s1 ⟨x,H1,I1,r1,q1⟩=>?_
 refine qc (hb aa s1 σ H1 _ I1 q1) λu s2 ⟨y,H2,I2,r2,q2⟩=>?_
 exact hf v u s2 x y H2 I2 r1 r2 q2
def B0(ho:Oe X (binaryOp op) r)(ha:PE X a ta)(hb:PE X b tb):PE X (.BinOp a op b pos) (Hz r ta tb):=by
 intro aa s σ H Q I h;exact wpAny_BinOp<|EL ha hb I h λv u s2 x y H2 I2 rx ry q=>ho aa s2 σ H2 x y v u Q I2 rx ry q
def bOb{r:V->Hp->VK->Prop}(ho:RF X (unaryOp op) r)(ha:PE X a ta):PE X (.UnaryOp op a pos) (tUn r ta):=by
 intro aa s σ H Q I h;exact UnaryOp_<|qc (ha aa s σ H _ I h) λv s1 ⟨x,H1,I1,r1,q1⟩=>ho aa s1 σ H1 x v Q I1 r1 q1
def Sv{f:Value->Value->Sem Value}{C:Int->Int->Prop}{g:Int->Int->Int}
  (rule:∀(i j:Int)(t u:Tok)(s:Shared)(Q:Value->Shared->Prop)(E:Value->Shared->Prop),C i j->Q (.int (g i j) s.toks) {s with toks:=s.toks+1}->wpAny (model X.prog X.w) X.A (f (.int i t)<|.int j u) Q E s) :
  Oe X f (rI C λi j=>.int<|g i j):=by
 intro aa s σ H x y v u Q I rx ry h;obtain⟨i,j,rfl,rfl,hc,q⟩:=h;obtain⟨t,rfl⟩:=rx;obtain⟨t',rfl⟩:=ry;exact rule i j t t' s _ _ hc ⟨.int<|g i j,H,I.tok _,⟨_,rfl⟩,q⟩
def Hx{f:Value->Value->Sem Value}{g:Int->Int->Int}
  (rule:∀(i j:Int)(t u:Tok)(s:Shared)(Q:Value->Shared->Prop)(E:Value->Shared->Prop),Q (.int (g i j) s.toks) {s with toks:=s.toks+1}->wpAny (model X.prog X.w) X.A (f (.int i t)<|.int j u) Q E s) :
  Oe X f (mj λi j=>.int<|g i j):=by
 intro aa s σ H x y v u Q I rx ry h;obtain⟨i,j,rfl,rfl,q⟩:=h;obtain⟨t,rfl⟩:=rx;obtain⟨t',rfl⟩:=ry;exact rule i j t t' s _ _ ⟨.int<|g i j,H,I.tok _,⟨_,rfl⟩,q⟩
def AD{f:Value->Value->Sem Value}{g:Int->Int->Bool}
  (rule:∀(i j:Int)(t u:Tok)(s:Shared)(Q:Value->Shared->Prop)(E:Value->Shared->Prop),Q (.bool<|g i j) s->wpAny (model X.prog X.w) X.A (f (.int i t)<|.int j u) Q E s) :
  Oe X f (mj λi j=>.bl<|g i j):=by
 intro aa s σ H x y v u Q I rx ry h;obtain⟨i,j,rfl,rfl,q⟩:=h;obtain⟨t,rfl⟩:=rx;obtain⟨t',rfl⟩:=ry;exact rule i j t t' s _ _ ⟨.bl<|g i j,H,I,rfl,q⟩
def bR5(i j:Int):Prop:=0<j/\j<1073741824
def N1(i j:Int):Prop:=0<=j/\j<=1000000/\i.natAbs<2^64
def Jx(i j:Int):Prop:=(-(2^64)<i/\i<2^64)\/(-(2^64)<j/\j<2^64)
def Jx.ok(h:Jx i j):IntMulOk i j:=by
 rcases h with ⟨h1,h2⟩|⟨h1,h2⟩
 .exact .of_left (intBits_le_64 h1 h2)
 .exact .of_right (intBits_le_64 h1 h2)
def Ϣ(k:Nat):(0:Int)<=2^k:=by
 rw[two_pow_cast];exact eM _
def bKw:Oe X (binaryOp .Add) (mj λi j=>.int<|i+j):=Hx λ_ _ _ _ _ _ _ q=>add_int q
def bKx:Oe X (binaryOp .Sub) (mj λi j=>.int<|i-j):=Hx λ_ _ _ _ _ _ _ q=>sub_int q
def bKy:Oe X (binaryOp .Mult) (rI Jx λi j=>.int<|i*j):=Sv λ_ _ _ _ _ _ _ hc q=>mul_int q hc.ok
def bGa:Oe X (binaryOp .FloorDiv) (rI bR5 λi j=>.int<|i/j):=Sv λi j _ _ _ _ _ hc q=>by
 have h1:(0:Int)<j:=hc.1;have h2:j<1073741824:=hc.2;exact floordiv_int (by omega) (by rw[U2 i (by omega)];exact q)<|.inl<|PyProof.noPylong_small<|by omega
def bKz:Oe X (binaryOp .Mod) (rI (λ_ j=>0<j) λi j=>.int<|i%j):=Sv λi j _ _ _ _ _ hc q=>by
 have h1:(0:Int)<j:=hc;exact mod_int' (by omega) (by rw[Int.fmod_eq_emod_of_nonneg i (by omega)];exact q)
def bL0:Oe X (binaryOp .Pow) (rI N1 λi j=>.int<|i^j.toNat):=Sv λ_ _ _ _ _ _ _ hc q=>pow_int_small hc.1 hc.2.1 hc.2.2 q
def bL1:Oe X (binaryOp .LShift) (rI N1 λi j=>.int<|i*2^j.toNat):=Sv λ_ _ _ _ _ _ _ hc q=>lshift_int_small hc.1 hc.2.1 hc.2.2 q
def bL2:Oe X (binaryOp .RShift) (rI (λ_ j=>0<=j) λi j=>.int<|i/2^j.toNat):=Sv λi j _ _ _ _ _ hc q=>
 rshift_int hc (by rw[U2 i<|Ϣ _];exact q)
def bL3:Oe X (binaryOp .BitAnd) (mj λi j=>.int<|Builtin.bitAnd i j):=Hx λ_ _ _ _ _ _ _ q=>and_int q
def bOd:Oe X (binaryOp .BitOr) (mj λi j=>.int<|Builtin.bitOr i j):=Hx λ_ _ _ _ _ _ _ q=>or_int q
def bL4:Oe X (binaryOp .BitXor) (mj λi j=>.int<|Builtin.bitXor i j):=Hx λ_ _ _ _ _ _ _ q=>xor_int q
def unI{f:Value->Sem Value}{g:Int->Int}
  (rule:∀(i:Int)(t:Tok)(s:Shared)(Q:Value->Shared->Prop)(E:Value->Shared->Prop),Q (.int (g i) s.toks) {s with toks:=s.toks+1}->wpAny (model X.prog X.w) X.A (f<|.int i t) Q E s) :
  RF X f (rU λi=>.int<|g i):=by
 intro aa s σ H x v Q I rx h;obtain⟨i,rfl,q⟩:=h;obtain⟨t,rfl⟩:=rx;exact rule i t s _ _ ⟨.int<|g i,H,I.tok _,⟨_,rfl⟩,q⟩
def bL5:RF X (unaryOp .USub) (rU λi=>.int<|-i):=unI λ_ _ _ _ _ q=>neg_int q
end
section
variable{X:Cx}{a b c:Expr}{ta tb tc:TE}{pos:Pos}
def TJ{Q:VK}{k k':Bool}(I:ya X aa σ H s)(q:Q (.bl k) H)(e:k=k'):EP X aa σ Q (.bool k') s:=by
 subst e;exact⟨.bl k,H,I,rfl,q⟩
def Xt:Oe X (compareOp .Lt) (mj λi j=>.bl<|decide (i<j)):=AD λ_ _ _ _ _ _ _ q=>lt_int q
def Yt:Oe X (compareOp .LtE) (mj λi j=>.bl<|decide (i<=j)):=AD λ_ _ _ _ _ _ _ q=>le_int q
def gx:Oe X (compareOp .Gt) (mj λi j=>.bl<|decide (j<i)):=AD λ_ _ _ _ _ _ _ q=>gt_int q
def TK:Oe X (compareOp .GtE) (mj λi j=>.bl<|decide (j<=i)):=AD λ_ _ _ _ _ _ _ q=>ge_int q
def à:Oe X (compareOp .In) (λx y H Q=>∃i j,x=.str i/\y=.str j/\Q (.bl<|!(Builtin.Str.occurrences j i 0 j.length 1).isEmpty) H):=by
 intro aa s σ H x y v u Q I rx ry h;obtain⟨i,j,rfl,rfl,q⟩:=h;obtain⟨t,rfl⟩:=rx;obtain⟨t',rfl⟩:=ry;exact in_str<|TJ I q rfl
def bGb:Oe X (compareOp .IsNot) (λx y H Q=>y=.lc/\Q (.bl<|!decide (x=.lc)) H):=by
 intro aa s σ H x y v u Q I rx ry h;obtain⟨rfl,q⟩:=h;cases ry;refine isnot_none_gen<|TJ I q ?_;cases x<;>first
  |(cases rx;rfl)
  |(obtain⟨t,rfl⟩:=rx;rfl)
def K_:Oe X (compareOp .NotIn) (λx y H Q=>∃i j,x=.str i/\y=.str j/\Q (.bl<|!(!(Builtin.Str.occurrences j i 0 j.length 1).isEmpty)) H):=by
 intro aa s σ H x y v u Q I rx ry h;obtain⟨i,j,rfl,rfl,q⟩:=h;obtain⟨t,rfl⟩:=rx;obtain⟨t',rfl⟩:=ry;exact notIn_str<|TJ I q rfl
def Oe.or{f:Value->Value->Sem Value}(h:Oe X f r)(h':Oe X f r'):Oe X f (λx y H Q=>r x y H Q\/r' x y H Q):=by
 intro aa s σ H x y v u Q I rx ry q;rcases q with q|q
 .exact h aa s σ H x y v u Q I rx ry q
 .exact h' aa s σ H x y v u Q I rx ry q
def RY(b:Expr){op:CmpOp}(h:op≠.In:=by decide)(h2:op≠.NotIn:=by decide):behindInMarks op b=false:=by
 have e1:(op==CmpOp.In)=false:=by cases op<;>first|rfl|exact absurd rfl h
 have e2:(op==CmpOp.NotIn)=false:=by cases op<;>first|rfl|exact absurd rfl h2
 cases b<;>simp[behindInMarks,e1,e2]
def bGc(ho:Oe X (compareOp op) r)(ha:PE X a ta)(hb:PE X b tb)(hm:behindInMarks op b=false):PE X (.Compare a [op] [b] pos) (Hz r ta tb):=by
 intro aa s σ H Q I h;exact wpAny_Compare1 (EL ha hb I h λv u s2 x y H2 I2 rx ry q=>ho aa s2 σ H2 x y v u Q I2 rx ry q) hm
def C0(t:TE):TT:=λσ H Q=>t σ H λx H'=>∃k,x=.bl k/\Q k H'
def bGd(ho:Oe X (compareOp op) r)(ha:PE X a ta)(hb:PE X b tb)(hm:behindInMarks op b=false):PT X (.Compare a [op] [b] pos) (C0<|Hz r ta tb):=by
 intro aa s σ H Q I h;refine wpAny_isTrue_Compare1 (qc (ha aa s σ H _ I h) λv s1 ⟨x,H1,I1,r1,q1⟩=>qc (hb aa s1 σ H1 _ I1 q1) λu s2 ⟨y,H2,I2,r2,q2⟩=>
  qc (ho aa s2 σ H2 x y v u _ I2 r1 r2 q2) λc s3 ⟨z,H3,I3,r3,k,e,q3⟩=>?_) hm
 subst e;cases r3;exact sq ⟨H3,I3,q3⟩
def SY(r r':R2)(ta tb tc:TE):TE:=λσ H Q=>ta σ H λx H1=>tb σ H1 λy H2=>r x y H2 λz H3=>∃k,z=.bl k/\
 (if k=true then tc σ H3 λw' H4=>r' y w' H4 Q else Q (.bl false) H3)
def Ĳ(ho:Oe X (compareOp op) r)(Dj:Oe X (compareOp op') r')(ha:PE X a ta)(hb:PE X b tb)(hc:PE X c tc)
  (hm:lastMarks [op,op'] [b,c]=false:=by with_unfolding_all rfl):PT X (.Compare a [op,op'] [b,c] pos) (C0<|SY r r' ta tb tc):=by
 intro aa s σ H Q I h;refine isTrue_chain (qc (ha aa s σ H _ I h) λv s1 ⟨x,H1,I1,r1,q1⟩=>test_link (qc (hb aa s1 σ H1 _ I1 q1) λu s2 ⟨y,H2,I2,r2,q2⟩=>
  qc (ho aa s2 σ H2 x y v u _ I2 r1 r2 q2) λd s3 ⟨z,H3,I3,r3,k,e,q3⟩=>?_)) hm
 subst e;cases r3;refine sq ?_
 cases k with
 |false=>
  obtain⟨k',e',q'⟩:=q3;cases e';exact ite_ff ⟨H3,I3,q'⟩
 |true=>
  refine ite_tt<|test_last<|qc (hc aa s3 σ H3 _ I3 q3) λw' s4 ⟨z',H4,I4,r4,q4⟩=>qc (Dj aa s4 σ H4 y z' u w' _ I4 r2 r4 q4) λd' s5 ⟨z2,H5,I5,r5,k2,e2,q5⟩=>?_
  subst e2;cases r5;exact sq ⟨H5,I5,q5⟩
def Nt:(sizeLine:Nat)<2^63:=by rw[zq];decide
def ϣ:Oe X (binaryOp .Add) (λx y H Q=>∃i j,x=.str i/\y=.str j/\i.length+j.length<=sizeLine/\Q (.str<|i++j) H):=by
 intro aa s σ H x y v u Q I rx ry h;obtain⟨i,j,rfl,rfl,hz,q⟩:=h;obtain⟨t,rfl⟩:=rx;obtain⟨t',rfl⟩:=ry;exact add_str (λt' tk=>⟨.str<|i++j,H,I.tok _,⟨_,rfl⟩,q⟩) hz
def vals1{x:V}(r:Ca [x] us):∃u,us=[u]/\RelV x u:=by
 cases r with
 |cons r1 r2=>cases r2;exact⟨_,rfl,r1⟩
def vals2{x y:V}(r:Ca [x,y] us):∃u w',us=[u,w']/\RelV x u/\RelV y w':=by
 cases r with
 |cons r1 r2=>
  cases r2 with
  |cons r3 r4=>cases r4;exact⟨_,_,rfl,r1,r3⟩
def á(hc:X.calm=true):lU X (.builtin "max") (λxs H Q=>∃i j,xs=[.int i,.int j]/\Q (.int<|if j>i then j else i) H):=by
 intro aa s σ H xs us Q I r h;obtain⟨i,j,rfl,q⟩:=h;obtain⟨u,w',rfl,⟨t,rfl⟩,⟨t',rfl⟩⟩:=vals2 r;refine max_two_ints (I.ok.hd hc) λh' tk k=>⟨_,H,I.kept k,?_,q⟩
 by_cases hj:j>i
 .rw[kb hj,kb hj];exact⟨_,rfl⟩
 .rw[gb hj,gb hj];exact⟨_,rfl⟩
def â(hc:X.calm=true):lU X (.builtin "min") (λxs H Q=>∃i j,xs=[.int i,.int j]/\Q (.int<|if j<i then j else i) H):=by
 intro aa s σ H xs us Q I r h;obtain⟨i,j,rfl,q⟩:=h;obtain⟨u,w',rfl,⟨t,rfl⟩,⟨t',rfl⟩⟩:=vals2 r;refine min_two_ints (I.ok.hd hc) λh' tk k=>⟨_,H,I.kept k,?_,q⟩
 by_cases hj:j<i
 .rw[kb hj,kb hj];exact⟨_,rfl⟩
 .rw[gb hj,gb hj];exact⟨_,rfl⟩
def ã:lU X (.type "int") (λxs H Q=>(∃i,xs=[.int i]/\Q (.int i) H)\/∃k,xs=[.bl k]/\Q (.int<|if k then 1 else 0) H):=by
 intro aa s σ H xs us Q I r h;rcases h with ⟨i,rfl,q⟩|⟨k,rfl,q⟩
 .obtain⟨u,rfl,t,rfl⟩:=vals1 r;exact call_int_int ⟨.int i,H,I,⟨_,rfl⟩,q⟩
 .obtain⟨u,rfl,r1⟩:=vals1 r;cases r1;exact call_int_bool ⟨.int<|if k then 1 else 0,H,I.tok _,⟨_,rfl⟩,q⟩
end
end L2
namespace L2
open PySem PySem.Spec PyProof.Rows
structure rj(h:Heap)(x dx C:Addr)(mA:Str->Option Value):Prop where
 obj:h.get? x=some (PySem.W.instObj C dx)
 ns:h.Ns1 dx mA
 ne:dx≠x
def ä{h:Heap}{mA:Str->Option Value}(n:h.Ns1 dx mA):∃od,h.get? dx=some od/\∀name,PySem.W.lookIn name od=some (mA name):=by
 obtain⟨o,es,ep,ho,hd,hk,_,hm⟩:=n;refine⟨o,ho,λname=>?_⟩
 have e:=hm name;unfold nsFind findBy at e;rw[<-Array.find?_toList]at e;unfold PySem.W.lookIn;rw[hd];dsimp only;split
 .rename_i y q;rw[q]at e;exact congrArg some e
 .rename_i q;rw[q]at e;have a:es.toList.any (·.refKey)=false:=by
   rw[cE];intro y hy;obtain⟨z,t,KN⟩:=hk y<|Array.mem_toList_iff.mp hy;simp[DictEntry.refKey,KN]
  have a':¬ es.toList.any (·.refKey)=true:=by rw[a];exact Cg
  rw[gb a'];exact congrArg some e
def rj.look{mA:Str->Option Value}(I:rj h x dx C mA):∃od,PySem.W.InstAt h x (PySem.W.instObj C dx) C (some od)/\∀name,PySem.W.lookIn name od=some (mA name):=
 let ⟨od,ho,hl⟩:=ä I.ns
 ⟨od,⟨I.obj,rfl,rfl,ho⟩,hl⟩
section
variable{prog:Program}{w:World}{A:Around}{E:Value->Shared->Prop}{s:Shared}{K:PySem.W.Frag}{x dx C f:Addr}{mA:Str->Option Value}{name:Str}{v:Value}
def bGe{Q:Value->Shared->Prop}(X:K.In s.heap)(I:rj s.heap x dx C mA)(hg:PySem.W.plainGet K C name=true)(hh:PySem.W.hasDictIn K C=true)
  (ha:PySem.W.findIn K (.ref C) name=some none) (hv:mA name=some v) (yp:PySem.W.handedIn v=true) (h:Q v {s with toks:=s.toks+1}) :
  wpAny (model prog w) A (getAttr (.ref x) name expr) Q E s:=by
 obtain⟨od,J,hl⟩:=I.look;exact PySem.W.get_value X J (WL hg).1 (PySem.W.findObj_own hh ha rfl<|by rw[hl,hv]) yp h
def ĳ{Q:Value×List Value->Shared->Prop}(X:K.In s.heap)(I:rj s.heap x dx C mA)(hg:PySem.W.plainGet K C name=true)
  (hf:PySem.W.findIn K (.ref C) name=some (some<|.ref f)) (ht:PySem.W.isFn K (.ref f)=true) (hv:mA name=none) (h:Q (.ref f,[.ref x]) s) :
  wpAny (model prog w) A (getMethod (.ref x) name pl) Q E s:=by
 obtain⟨od,J,hl⟩:=I.look;exact PySem.W.method_fn X J (WL hg).1 (WL hg).2 hf (Sj.mp ht) (by show (PySem.W.lookIn name od).map (·.isSome)=some false;rw[hl,hv];rfl) h
def bGf{Q:Unit->Shared->Prop}(X:K.In s.heap)(I:rj s.heap x dx C mA)
  (hs:PySem.W.findIn K (.ref C) "__setattr__"=some (some<|.builtin "object.__setattr__")) (hp:PySem.W.plainOver K C=true) (ht:PySem.W.takerIn K C name=some none) (hh:PySem.W.hasDictIn K C=true)
  (hw:PySem.Within mA ns) (hsz:ns.length<=sizeLine)
  (h:∀h',rj h' x dx C (λy=>if y=name then some v else mA y)->Heap.SameBut dx s.heap h'->Q () {s with heap:=h',toks:=s.toks+2}) :
  wpAny (model prog w) A (setAttr (.ref x) name v) Q E s:=by
 obtain⟨od,J,hl⟩:=I.look;refine PySem.W.set_plain X J hs<|PySem.W.osa_open (s:={s with toks:=s.toks+1}) (r:=none) X J hp ht λb=>?_
 obtain⟨cd,hc,Wr⟩:=PySem.W.any_some hh;have hx:s.heap.get? x=some ⟨.ref C,some dx,.plain, #[]⟩:=I.obj;refine Ja<|Zb<|Ja<|Ja<|wpAny_loadPart hx<|Ja<|PySem.W.Looks.here (s:={s with toks:=s.toks+1}) (PySem.W.looks_clsIn X hc) ?_
 rw[Wr];refine Zb (a:=some dx)<|Ja<|Zb<|Ja ?_;refine wpAny_nsSet1 (s:={s with toks:=s.toks+1}) I.ns λh' VE Ef=>?_
 obtain⟨oD,esD,epD,hoD,hdD,hcD⟩:=VE.count<|PySem.Within.cons name v hw;refine Ja<|wpAny_lookBehind hoD (by rw[hdD];exact pastItsLine_dict<|bf hcD<|by rw[Te];omega) ?_
 exact Zb<|h _ ⟨(Ef.2 _<|Nk I.ne).trans I.obj,VE,I.ne⟩ Ef
def Ĵ{R:Result->Shared->Prop}{vs:List Value}{kw:List (Str×Value)}(X:K.In s.heap)(hm:PySem.W.makesIn K C=true)
  (hi:PySem.W.findIn K (.ref C) "__init__"=some (some<|.ref f)) (hf:PySem.W.typeIn K (.ref f)=some (.type "function"))
  (h:codeAny (model prog w) (A.under<|.builtin "type.__call__" ⟨.ref C::vs,kw⟩) (.call (.ref f) ⟨.ref (s.heap.objs.size+1)::vs,kw⟩) (PySem.W.InitBack (s.heap.objs.size+1) R)
   {s with heap:=(s.heap.push PySem.W.emptyDict).push (PySem.W.instObj C s.heap.objs.size)}) :
  codeAny (model prog w) A (.call (.ref C) ⟨vs,kw⟩) R s:=by
 obtain⟨hh,g,d,t,os⟩:=s;exact PySem.W.make_core (IM X hm) (G4 X hi) (λself=>PySem.W.bind_fn X self hf) (.inl rfl) h
def å{R:Result->Shared->Prop}(X:K.In s.heap)(hm:PySem.W.makesIn K C=true)
  (hi:PySem.W.findIn K (.ref C) "__init__"=some (some<|.builtin "object.__init__"))
  (hb:∀self,PySem.W.Looks (model prog w) s.heap (bindSpecial (.builtin "object.__init__") self) (.builtin "object.__init__",[self]))
  (h:codeAny (model prog w) (A.under<|.builtin "type.__call__" ⟨[.ref C],[]⟩) (.call (.builtin "object.__init__") ⟨[.ref<|s.heap.objs.size+1],[]⟩) (PySem.W.InitBack (s.heap.objs.size+1) R)
   {s with heap:=(s.heap.push PySem.W.emptyDict).push (PySem.W.instObj C s.heap.objs.size)}) :
  codeAny (model prog w) A (.call (.ref C) ⟨[],[]⟩) R s:=by
 obtain⟨hh,g,d,t,os⟩:=s;exact PySem.W.make_core (IM X hm) (G4 X hi) hb (.inr ⟨rfl,rfl⟩) h
end
def gi(f:Str)(v:V):List (Str×V)->List (Str×V)
 |[]=>[(f,v)]
 |(g,x)::r=>if g=f then (g,v)::r else (g,x)::gi f v r
theorem sR(f g:Str)(v:V):∀fs:List (Str×V),(gi f v fs).lookup g=if g=f then some v else fs.lookup g
 |[]=>by
  show List.lookup g [(f,v)]=_
  by_cases h:g=f
  .have hb:(g==f)=true:=Sj.mpr h;simp only[List.lookup,hb,if_pos h]
  .have hb:(g==f)=false:=Jo.mpr h;simp only[List.lookup,hb,if_neg h]
 |(k,x)::r=>by
  have ih:=sR f g v r;rw[show gi f v ((k,x)::r)=(if k=f then (k,v)::r else (k,x)::gi f v r) from rfl]
  by_cases hk:k=f
  .rw[kb hk]
   by_cases h:g=k
   .have hb:(g==k)=true:=Sj.mpr h;simp only[List.lookup,hb,if_pos<|h.trans hk]
   .have hb:(g==k)=false:=Jo.mpr h;simp only[List.lookup,hb,if_neg (λe:g=f=>h<|e.trans hk.symm)]
  .rw[gb hk]
   by_cases h:g=k
   .have hb:(g==k)=true:=Sj.mpr h;simp only[List.lookup,hb,if_neg (λe:g=f=>hk<|h.symm.trans e)]
   .have hb:(g==k)=false:=Jo.mpr h;simp only[List.lookup,hb];exact ih
theorem IH(f:Str)(v:V):∀fs:List (Str×V),f∈(gi f v fs).map (·.1)/\∀g,g∈fs.map (·.1)->g∈(gi f v fs).map (·.1)
 |[]=>⟨by simp[gi],λg h=>by simp at h⟩
 |(k,x)::r=>by
  obtain⟨i1,i2⟩:=IH f v r;rw[show gi f v ((k,x)::r)=(if k=f then (k,v)::r else (k,x)::gi f v r) from rfl]
  by_cases hk:k=f
  .rw[kb hk];subst hk;exact⟨by simp,λg h=>by simpa using h⟩
  .rw[gb hk];refine⟨?_,λg h=>?_⟩
   .rw[Vd];exact Qb _ i1
   .rw[Vd]at h ⊢;rcases Kc.mp h with e|e
    .exact Kc.mpr (.inl e)
    .exact Qb _ (i2 g e)
theorem AR(f:Str)(v:V):∀fs:List (Str×V),(gi f v fs).length<=fs.length+1
 |[]=>by simp[gi]
 |(k,x)::r=>by
  have ih:=AR f v r;rw[show gi f v ((k,x)::r)=(if k=f then (k,v)::r else (k,x)::gi f v r) from rfl]
  by_cases hk:k=f
  .rw[kb hk,Te,Te];omega
  .rw[gb hk,Te,Te];omega
def zH.some_of(r:zH (some v) o):∃u,o=some u/\RelV v u:=by
 cases o with
 |none=>exact(show False from r).elim
 |some u=>exact⟨u,rfl,r⟩
def zH.none_of(r:zH none o):o=none:=by
 cases o with
 |none=>rfl
 |some u=>exact(show False from r).elim
def æ(r:RelV v u):PySem.W.handedIn u=true:=by
 cases v with
 |lc=>cases (show u=Value.none from r);rfl
 |bl b=>cases (show u=Value.bool b from r);rfl
 |int i=>obtain⟨t,e⟩:=(show ∃t,u=Value.int i t from r);cases e;rfl
 |str x=>obtain⟨t,e⟩:=(show ∃t,u=Value.str x t from r);cases e;rfl
 |JE b=>obtain⟨t,e⟩:=(show ∃t,u=Value.bytes b t from r);cases e;rfl
 |Rr b=>obtain⟨t,e⟩:=(show ∃t,u=Value.float b t from r);cases e;rfl
 |ref a=>cases (show u=Value.ref a from r);rfl
 |ty n=>cases (show u=Value.type n from r);rfl
section
variable{P:Program}{w:World}{H H':Hp}{h h':Heap}{a C dx:Addr}{fs fs':List (Str×V)}
def xB(ib:Ze P w H h)(e:H a=some (.ins C dx fs)):∃mA,rj h a dx C mA/\(∀f,zH (fs.lookup f)<|mA f)/\PySem.Within mA (fs.map (·.1))/\fs.length<=1000/\H dx=some (.own a):=by
 obtain⟨d,z,ne,ob,mA,n,r,q⟩:=(show jN P w H h a (.ins C dx fs) from ib a _ e)
 exact⟨mA,⟨ob,n,ne⟩,r,q,z,d⟩
end
structure Al(K:PySem.W.Frag)(C:Addr):Prop where
 pg:PySem.W.plainGet K C Str.empty=true
 hd:PySem.W.hasDictIn K C=true
 po:PySem.W.plainOver K C=true
 sa:PySem.W.findIn K (.ref C) "__setattr__"=some (some<|.builtin "object.__setattr__")
def Al.get{K:PySem.W.Frag}(c:Al K C)(f:Str):PySem.W.plainGet K C f=true:=c.pg
def nM(K:PySem.W.Frag)(C:Addr)(f:Str):Prop:=PySem.W.findIn K (.ref C) f=some none
def nM.Lz{K:PySem.W.Frag}(n:nM K C f):PySem.W.takerIn K C f=some none:=by
 unfold PySem.W.takerIn;rw[show PySem.W.findIn K (.ref C) f=some none from n]
 rfl
structure Meth(K:PySem.W.Frag)(C:Addr)(m:Str)(f:Addr):Prop where
 at_:PySem.W.findIn K (.ref C) m=some (some<|.ref f)
 fn:PySem.W.isFn K (.ref f)=true
 kp:PySem.W.keepIn K (.ref f)=true
section
variable{X:Cx}{aa:List (Addr×Obj)}{σ:St}{H:Hp}{s:Shared}{a C dx:Addr}{fs:List (Str×V)}{f:Str}{v:V}{A:Around}{E:Value->Shared->Prop}
def Ϥ{Q:Value->Shared->Prop}(I:ya X aa σ H s)(e:H a=some (.ins C dx fs))(c:Al X.K C)(n:nM X.K C f)(l:fs.lookup f=some v)
  (h:∀u s',ya X aa σ H s'->RelV v u->Q u s'):wpAny (model X.prog X.w) A (getAttr (.ref a) f b) Q E s:=by
 obtain⟨mA,O,r,_,_,_⟩:=xB I.ib e;obtain⟨u,hu,ru⟩:=zH.some_of (v:=v) (o:=mA f) (by rw[<-l];exact r f)
 exact bGe I.tf O (c.get f) c.hd n hu (æ ru)<|h u _ (I.tok _) ru
def PR{Q:Value×List Value->Shared->Prop}(I:ya X aa σ H s)(e:H a=some (.ins C dx fs))(c:Al X.K C)(k:Meth X.K C m g)(l:fs.lookup m=none)
  (h:Q (.ref g,[.ref a]) s):wpAny (model X.prog X.w) A (getMethod (.ref a) m pl) Q E s:=by
 obtain⟨mA,O,r,_,_,_⟩:=xB I.ib e;have hn:mA m=none:=zH.none_of (by rw[<-l];exact r m)
 exact ĳ I.tf O (c.get m) k.at_ k.fn hn h
def ϥ{Q:Unit->Shared->Prop}(I:ya X aa σ H s)(e:H a=some (.ins C dx fs))(c:Al X.K C)(n:nM X.K C f)(hl:fs.length<1000)(ry:RelV y u)
  (h:∀s',ya X aa σ (Ob H a<|.ins C dx<|gi f y fs) s'->Q () s'):wpAny (model X.prog X.w) A (setAttr (.ref a) f u) Q E s:=by
 obtain⟨mA,O,r,wi,_,ho⟩:=xB I.ib e;have hz:(fs.map (·.1)).length<=sizeLine:=by rw[Yd,zq];omega
 refine bGf I.tf O c.sa c.po n.Lz c.hd wi hz λh' O' sb=>h _ ?_
 have hd:∃o,h'.get? dx=some o:=let ⟨o,_,_,e',_⟩:=O'.ns;⟨o,e'⟩;refine I.write (x:=a) (e:=dx) (by rw[e];exact True.intro) (.inr ho) (λb q hb z=>(sb.2 b hb).trans z) hd ?_
 refine⟨by rw[bU O.ne];exact ho,?_,O.ne,O'.obj,_,O'.ns,λg=>?_,λg hg=>?_⟩
 .have:=AR f y fs;omega
 .show zH ((gi f y fs).lookup g) (if g=f then some u else mA g)
  rw[sR]
  by_cases q:g=f
  .rw[kb q,kb q];exact ry
  .rw[gb q,gb q];exact r g
 .by_cases q:g=f
  .rw[q];exact(IH f y fs).1
  .refine(IH f y fs).2 g (wi g λz=>hg ?_)
   show (if g=f then some u else mA g)=none
   rw[gb q];exact z
def ya.made(I:ya X aa σ H s):ya X aa σ (Ob (Ob H s.heap.objs.size<|.own<|s.heap.objs.size+1) (s.heap.objs.size+1)<|.ins C s.heap.objs.size [])
  {s with heap:=(s.heap.push PySem.W.emptyDict).push (PySem.W.instObj C s.heap.objs.size)}:=by
 have e1:(s.heap.push PySem.W.emptyDict).get? s.heap.objs.size=some PySem.W.emptyDict:=Vf s.heap rfl;have e2:((s.heap.push PySem.W.emptyDict).push<|PySem.W.instObj C s.heap.objs.size).get? (s.heap.objs.size+1)=some (PySem.W.instObj C s.heap.objs.size):=by
  have:=Vf (s.heap.push PySem.W.emptyDict) (o:=PySem.W.instObj C s.heap.objs.size) rfl
  rwa [Uh]at this
 have e3:(s.heap.push PySem.W.emptyDict).Ns s.heap.objs.size (λ_=>none):=⟨PySem.W.emptyDict, #[],_,e1,rfl,(λe he=>absurd he<|by simp),λ_=>rfl⟩
 have I1:=I.laid (a:=s.heap.objs.size) (o:=.own<|s.heap.objs.size+1) (h':=s.heap.push PySem.W.emptyDict) (t':=s.toks) (λb u q=>ud _ q) (Zc _) ⟨_,e1⟩
 refine I1.laid (a:=s.heap.objs.size+1) (o:=.ins C s.heap.objs.size []) (t':=s.toks) (λb u q=>ud _ q) (iy<|Uh _ _) ?_
 have ne:s.heap.objs.size≠s.heap.objs.size+1:=Cf<|Qu _;refine⟨by rw[bU ne,cD],Ih _,ne,e2,λ_=>none,(Heap.Ns1.of_empty e3).at λo q=>ud _ q,λ_=>True.intro,λy hy=>absurd rfl hy⟩
def bGg{f:Str}{s:Shared}{Q:Value->Shared->Prop}(hb:Ah e f env)
  (h:wpAny (model prog w) A (eval e env) (λo Lb=>wpAny (model prog w) A (getAttr o f true) Q E Lb) E s):wpAny (model prog w) A (eval (.Attribute e f pos) env) Q E s:=
 Attribute_any_ h (by rw[arm_eval_Attribute,hb])
end
def bR6(K:PySem.W.Frag)(ta:TE)(f:Str):TE:=λσ H Q=>ta σ H λx H1=>∃a C dx fs v,x=.ref a/\H1 a=some (.ins C dx fs)/\Al K C/\nM K C f/\fs.lookup f=some v/\Q v H1
def bR7(K:PySem.W.Frag)(ta tv:TE)(f:Str):TS:=λD σ H=>tv σ H λy H1=>ta σ H1 λx H2=>∃a C dx fs,x=.ref a/\H2 a=some (.ins C dx fs)/\Al K C/\nM K C f/\fs.length<1000/\
 D.nx σ (Ob H2 a<|.ins C dx<|gi f y fs)
section
variable{X:Cx}{o e value:Expr}{f:Str}{pos pos' tpos:Pos}{ta tv:TE}
def bL6(he:PE X e ta)(hb:Ah e f X.env):PE X (.Attribute e f pos) (bR6 X.K ta f):=by
 intro aa s σ H Q I h;refine bGg hb<|qc (he aa s σ H _ I h) λu s1 ⟨x,H1,I1,rx,a,C,dx,fs,v,ex,ea,c,n,l,q⟩=>?_
 subst ex;obtain rfl:u=Value.ref a:=rx;exact Ϥ I1 ea c n l λu' s2 I2 ru=>⟨v,H1,I2,ru,q⟩
def bL7(ha:PE X o ta)(hv:PE X value tv)(hs:Hj value (some<|.Attribute o f pos') pos.line X.env):PS X (.Assign [.Attribute o f pos'] value pos) (bR7 X.K ta tv f):=by
 intro aa s σ H D I h;refine plainObj_wpAny_Assign_Attribute (qc (hv aa s σ H _ I h) λu s1 ⟨y,H1,I1,ry,q⟩=>qc (ha aa s1 σ H1 _ I1 q) λov s2 ⟨x,H2,I2,rx,a,C,dx,fs,ex,ea,c,n,l,q2⟩=>?_) hs
 subst ex;obtain rfl:ov=Value.ref a:=rx;exact ϥ I2 ea c n l ry λs3 I3=>⟨σ,_,I3,q2⟩
end
section
variable{X:Cx}{aa:List (Addr×Obj)}{σ:St}{H:Hp}{s:Shared}{A:Around}{E:Value->Shared->Prop}{Q:Value->Shared->Prop}{c:Value}{b:Bool}
inductive Ng (K:PySem.W.Frag) (H:Hp):V->Value->Prop where
 |lc:Ng K H .lc (.type "NoneType")
 |bl (x:Bool):Ng K H (.bl x) (.type "bool")
 |int (i:Int):Ng K H (.int i) (.type "int")
 |str (x:Str):Ng K H (.str x) (.type "str")
 |Rr (x:UInt64):Ng K H (.Rr x) (.type "float")
 |lst {a:Addr} {xs:List V} (e:H a=some (.lst xs)):Ng K H (.ref a) (.type "list")
 |ij {a:Addr} {o:Obj} {xs:List V} (e:H a=some (.ij o<|.lst xs)):Ng K H (.ref a) (.type "list")
 |tup {a:Addr} {xs:List V} (e:H a=some (.tup xs)):Ng K H (.ref a) (.type "tuple")
 |dK {a:Addr} {oa:List (Dc×V)} (e:H a=some (.dK oa)):Ng K H (.ref a) (.type "dict")
 |dT {a:Addr} {oa:List (List Dc×V)} (e:H a=some (.dT oa)):Ng K H (.ref a) (.type "dict")
 |ins {a C dx:Addr} {fs:List (Str×V)} (e:H a=some (.ins C dx fs)) (cl:Al K C) (ha:PySem.W.findIn K (.ref C) "__class__"=some (some<|.builtin "object.__class__"))
   (hn:PySem.W.specialIn K (.builtin "object.__class__") "__get__"=some (some<|.builtin "getset_descriptor.__get__")) (B5:PySem.W.takesIn K (.builtin "object.__class__")=some true)
   (hm:PySem.W.mroIn K C (.type "object")=some true):Ng K H (.ref a) (.ref C)
def ES{t:Value}(I:ya X aa σ H s)(rx:RelV x u)(ty:Ng X.K H x t)(e:PySem.W.kitOne X.K t c=some b)(h:∀tk,Q (.bool b) {s with toks:=tk}) :
  wpAny (model X.prog X.w) A (call (.builtin "isinstance") [u,c]) Q E s:=by
 cases ty with
 |lc=>cases (show u=Value.none from rx);exact qi PySem.W.kitx_none I.tf True.intro e (λz=>nomatch z) h
 |bl y=>cases (show u=Value.bool y from rx);exact qi PySem.W.kitx_bool I.tf True.intro e (λz=>nomatch z) h
 |int i=>obtain⟨t,q⟩:=(show ∃t,u=Value.int i t from rx);cases q;exact qi PySem.W.kitx_int I.tf True.intro e (λz=>nomatch z) h
 |str y=>obtain⟨t,q⟩:=(show ∃t,u=Value.str y t from rx);cases q;exact qi PySem.W.kitx_str I.tf True.intro e (λz=>nomatch z) h
 |Rr y=>obtain⟨t,q⟩:=(show ∃t,u=Value.float y t from rx);cases q;exact qi PySem.W.kitx_float I.tf True.intro e (λz=>nomatch z) h
 |@lst a xs ea=>
  cases (show u=Value.ref a from rx)
  obtain⟨_,_,n,_,h1⟩:=(show jN X.prog X.w H s.heap a (.lst xs) from I.ib a _ ea)
  exact qi mM I.tf ⟨_,h1,rfl⟩ e (λz=>nomatch z) h
 |@ij a ob xs ea=>
  cases (show u=Value.ref a from rx)
  obtain⟨_,_,_,n,_,h1⟩:=(show jN X.prog X.w H s.heap a (.ij ob<|.lst xs) from I.ib a _ ea)
  exact qi mM I.tf ⟨_,h1,rfl⟩ e (λz=>nomatch z) h
 |@tup a xs ea=>
  cases (show u=Value.ref a from rx)
  obtain⟨_,_,_,p⟩:=(show jN X.prog X.w H s.heap a (.tup xs) from I.ib a _ ea)
  obtain⟨o,h1,h2,_⟩:=p;exact qi PySem.W.kitx_tuple I.tf ⟨o,h1,h2⟩ e (λz=>nomatch z) h
 |@dK a oa ea=>
  cases (show u=Value.ref a from rx)
  obtain⟨_,_,vs,_,p⟩:=(show jN X.prog X.w H s.heap a (.dK oa) from I.ib a _ ea)
  obtain⟨o,es,ep,h1,h2,_⟩:=p;exact qi sM I.tf ⟨o,h1,h2.1⟩ e (λz=>nomatch z) h
 |@dT a oa ea=>
  cases (show u=Value.ref a from rx)
  obtain⟨_,_,xs,_,o,es,ep,h1,h2,_⟩:=(show jN X.prog X.w H s.heap a (.dT oa) from I.ib a _ ea)
  exact qi sM I.tf ⟨o,h1,h2.1⟩ e (λz=>nomatch z) h
 |@ins a C dx fs ea cl ha hn B5 hm=>
  cases (show u=Value.ref a from rx)
  obtain⟨mA,O,_⟩:=xB I.ib ea;obtain⟨od,J,_⟩:=O.look;exact qi (PySem.W.kitx_own (cl.get _) cl.hd ha hn B5 hm) I.tf J e (λz=>nomatch z) h
end
end L2
namespace L2
open PySem PySem.Spec PyProof.Rows
structure dc(k:Nat)(A:Around):Prop where
 hd:A.handled=none
 dp:A.depth+3*k+5<recursionLimit
 un:A.units+16*k+200<cLine
def dc.mono{j k:Nat}(r:dc k A)(h:j<=k):dc j A:=⟨r.hd,by have:=r.dp;omega,by have:=r.un;omega⟩
theorem dc.deeper{k:Nat}(r:dc (k+1) A)(env:Env):dc k (A.deeper env):=
 ⟨r.hd,by have:=r.dp;show A.depth+1+3*k+5<_;omega,by have:=r.un;show A.units+3+16*k+200<_;omega⟩
def Ϧ{A:Around}{C:Addr}{us:List Value}{kw:List (Str×Value)}:(A.under<|.builtin "type.__call__" ⟨.ref C::us,kw⟩).depth=A.depth+1:=by
 first|rfl|simp[Around.under,Code.weight,Code.isCreation,Code.isGuard,Code.isCaller,Code.frames,Code.isFrame,guardIds]
def ϧ{A:Around}{C:Addr}{us:List Value}{kw:List (Str×Value)}:(A.under<|.builtin "type.__call__" ⟨.ref C::us,kw⟩).units=A.units+1:=by
 first|rfl|simp[Around.under,Code.cUnits,Code.frames,Code.isFrame]
def dc.make{k:Nat}{A:Around}(r:dc (k+1) A)(C:Addr)(us:List Value)(kw:List (Str×Value)):dc k (A.under<|.builtin "type.__call__" ⟨.ref C::us,kw⟩):=
 ⟨r.hd,by have:=r.dp;rw[Ϧ];omega,by have:=r.un;rw[ϧ];omega⟩
theorem dc.depth{k:Nat}(r:dc k A):A.depth<recursionLimit:=by have:=r.dp;omega
theorem dc.units{k:Nat}(r:dc k A):A.units+64<cLine:=by have:=r.un;omega
def bR8:TA:=λ_ H Q=>Q [] H
def bOe(ta:TE)(tr:TA):TA:=λσ H Q=>ta σ H λx H1=>tr σ H1 λxs H2=>Q (x::xs) H2
section
variable{X:Cx}{e:Expr}{es:List Expr}{te:TE}{t:TA}{pos:Pos}
def gM:PA X [] bR8:=λ_ _ _ _ H Q I h=>AM ⟨[],H,I,.nil,h⟩
def cJ(ha:PE X e te)(hr:PA X es t)(hs:Lf e es X.env:=by rfl):PA X (e::es) (bOe te t):=by
 intro pos aa s σ H Q I h;rw[hs];show wpAny _ _ (spliced<|(false,eval e X.env)::backTo pos (starEach es X.env)) _ _ s;refine YD<|qc (ha aa s σ H _ I h) λu s1 ⟨x,H1,I1,r1,q1⟩=>?_
 exact qc (hr pos aa s1 σ H1 _ I1 q1) λus s2 ⟨xs,H2,I2,r2,q2⟩=>⟨x::xs,H2,I2,.cons r1 r2,q2⟩
def bR9(t:TA):TE:=λσ H Q=>t σ H λxs H1=>xs.length<=sizeLine/\∀p,H1 p=none->Q (.ref p) (Ob H1 p<|.tup xs)
def bRa(t:TA):TE:=λσ H Q=>t σ H λxs H1=>xs.length<=sizeLine/\∀p,H1 p=none->Q (.ref p) (Ob H1 p<|.lst xs)
def bL8{x1}(h:PA X es t):PE X (.Tuple es x1 pos) (bR9 t):=by
 intro aa s σ H Q I hq;refine wpAny_Tuple_spliced<|qc (h pos aa s σ H _ I hq) λus s1 ⟨xs,H1,I1,r,z,q⟩=>⟨by rw[<-r.length];exact z,?_⟩
 have hf:H1 s1.heap.objs.size=none:=I1.ib.fresh<|Zc _;refine⟨.ref s1.heap.objs.size,Ob H1 s1.heap.objs.size<|.tup xs,I1.laid (t':=s1.toks) (λb u e=>ud _ e) (Zc _) ?_,rfl,q _ hf⟩
 exact⟨z,us,r,⟨_,Vf _ rfl,rfl,_,rfl⟩⟩
def UJ(h:PA X es t):PE X (.List es pos) (bRa t):=by
 intro aa s σ H Q I hq;refine wpAny_List_spliced<|qc (h pos aa s σ H _ I hq) λus s1 ⟨xs,H1,I1,r,z,q⟩=>⟨by rw[<-r.length];exact z,?_⟩
 have hf:H1 s1.heap.objs.size=none:=I1.ib.fresh<|Zc _;refine⟨.ref s1.heap.objs.size,Ob H1 s1.heap.objs.size<|.lst xs,I1.laid (t':=s1.toks) (λb u e=>ud _ e) (Zc _) ?_,rfl,q _ hf⟩
 exact⟨z,us,0,r,Vf _ rfl⟩
end
abbrev Sp:=List V->Hp->VK->XK->Prop
abbrev Rp:=List Env->Hp->Shared->XK->Value->Shared->Prop
structure pj(P:Program)(w:World)(K:PySem.W.Frag)(mg:Str->Option Value)(base:Heap)(A:Around)(outer:List Env)(s:Shared)(H:Hp):Prop where
 frames:A.frames=some outer
 mod:Mod K mg base
 bs:∀b o,base.get? b=some o->s.heap.get? b=some o/\H b=none
 Em:base.objs.size<=s.heap.objs.size
 og:s.heap.FunFrames base outer
 Zo:∀b∈De outer,H b=none
 ib:Ze P w H s.heap
 bare:AllBare s.gens
def CE(outer:List Env)(P:Program)(w:World)(H:Hp)(s:Shared)(Q:VK)(u:Value)(s':Shared):Prop:=
 ∃v H',s'.os=s.os/\AllBare s'.gens/\Un (De outer) [] H H' s.heap s'.heap/\Ze P w H' s'.heap/\RelV v u/\Q v H'
def CR(CX:Rp)(outer:List Env)(P:Program)(w:World)(H:Hp)(s:Shared)(Q:VK)(E:XK)(r:Result)(s':Shared):Prop:=
 match r with
 |.ok (.ret u)=>CE outer P w H s Q u s'
 |.ok _=>False
 |.error e=>CX outer H s E e s'
structure Aa(P:Program)(w:World)(K:PySem.W.Frag)(mg:Str->Option Value)(base:Heap)(CX:Rp)(k:Nat)(f:Addr)(fd:FuncData)(ps:List Str)(sp:Sp):Prop where
 len:∀vs H Q E,sp vs H Q E->vs.length=ps.length
 run:∀(A:Around)(outer:List Env)(s:Shared)(H:Hp)(args:Args)(us:List Value)(vs:List V)(Q:VK)(E:XK),dc k A->pj P w K mg base A outer s H->BindsTo s fd args (ps.zip us)->Ca vs us->sp vs H Q E->
  codeAny (model P w) A (.call (.ref f) args) (CR CX outer P w H s Q E) s
def pj.make{K:PySem.W.Frag}{mg:Str->Option Value}{A:Around}(e:pj P w K mg base A outer s H)(C:Addr)(us:List Value)(kw:List (Str×Value)) :
  pj P w K mg base (A.under<|.builtin "type.__call__" ⟨.ref C::us,kw⟩) outer s H:=⟨by first|exact e.frames|(simpa [Around.under,Code.envs,Code.isFrame,pushEnvs] using e.frames),e.mod,e.bs,e.Em,e.og,e.Zo,e.ib,e.bare⟩
section
variable{X:Cx}{aa:List (Addr×Obj)}{σ:St}{H:Hp}{s s':Shared}
def ya.Qr(I:ya X aa σ H s):pj X.prog X.w X.K X.mg X.base X.A X.stack s H:=
 ⟨I.ok.frames,I.ok.mod,I.bs,bf I.ok.Em I.sz,I.stack,I.Wg,I.ib,I.bare⟩
def ya.after(I:ya X aa σ H s)(h:CE X.stack X.prog X.w H s Q u s'):EP X aa σ Q u s':=by
 obtain⟨v,H',os,bare,un,ib,r,q⟩:=h;obtain⟨hh,g,d,t,os'⟩:=s';obtain rfl:os'=s.os:=os;exact⟨v,H',I.call (h':=hh) (g':=g) (d':=d) (t':=t) (ch:=[]) un ib bare<|λb z=>absurd z<|by simp,r,q⟩
end
def bOf(sp:Sp)(Xd:List V)(E:XK)(t:TA):TE:=λσ H Q=>t σ H λvs H1=>sp (vs++Xd) H1 Q E
def bOg(C:Addr)(m:Str)(sp:Sp)(Xd:List V)(E:XK)(ta:TE)(t:TA):TE:=λσ H Q=>ta σ H λx H1=>∃a dx fs,x=.ref a/\H1 a=some (.ins C dx fs)/\fs.lookup m=none/\
 t σ H1 λvs H2=>sp (x::(vs++Xd)) H2 Q E
def bOh(C:Addr)(sp:Sp)(Xd:List V)(E:XK)(t:TA):TE:=λσ H Q=>t σ H λvs H1=>∀x dx,H1 x=none->H1 dx=none->dx≠x->
 sp (.ref x::(vs++Xd)) (Ob (Ob H1 dx<|.own x) x<|.ins C dx []) (λv H2=>v=.lc/\Q (.ref x) H2) E
def Binds(K:PySem.W.Frag)(fd:FuncData)(ps:List Str)(ds:List Value):Prop:=
 ∀(s:Shared)(us:List Value),K.In s.heap->(us++ds).length=ps.length->BindsTo s fd ⟨us,[]⟩ (ps.zip<|us++ds)
def Binds.all{K:PySem.W.Frag}{ps:List Str}(h:∀us:List Value,us.length=ps.length->bindArgs fd ⟨us,[]⟩=pure (ps.zip us)):Binds K fd ps []:=λs us _ hl=>by
 rw[uh]at hl ⊢;exact .of_eq<|h us hl
def Ot(CX:Rp)(X:Cx)(E:XK):Prop:=∀(aa:List (Addr×Obj)) (σ:St) (H:Hp) (s:Shared) (e:Value) (s':Shared),ya X aa σ H s->CX X.stack H s E e s'->X.xe e s'
section
variable{X:Cx}{CX:Rp}{k:Nat}{f C:Addr}{fd:FuncData}{ps:List Str}{sp:Sp}{Xd:List V}{ds:List Value}{E:XK}{x m:Str}{p pos xb:Pos}{e o:Expr}{es:List Expr}{ta:TE}{t:TA}
def TY(F:Aa X.prog X.w X.K X.mg X.base CX k f fd ps sp)(hr:dc k X.A)(hb:Binds X.K fd ps ds)(hd:Ca Xd ds)(hx:Ot CX X E)
  (I:ya X aa σ H s) (r:Ca vs us) (h:sp (vs++Xd) H Q E):wpAny (model X.prog X.w) X.A (call (.ref f) us) (EP X aa σ Q) X.xe s:=by
 have r2:Ca (vs++Xd) (us++ds):=r.append hd;have hl:(us++ds).length=ps.length:=by rw[<-r2.length];exact F.len _ _ _ _ h
 refine my<|Oo (F.run X.A X.stack s H ⟨us,[]⟩ (us++ds) (vs++Xd) Q E hr I.Qr (hb s us I.tf hl) r2 h) λr s' hq=>?_
 cases r with
 |error e=>exact hx aa σ H s e s' I hq
 |ok fl=>
  cases fl with
  |ret u=>exact I.after hq
  |next=>exact False.elim hq
  |brk=>exact False.elim hq
  |cont=>exact False.elim hq
def LI(F:Aa X.prog X.w X.K X.mg X.base CX k f fd ps sp)(hr:dc k X.A)(hg:Gl X x)(hm:X.mg x=some (.ref f))(hk:PySem.W.keepIn X.K (.ref f)=true)(hb:Binds X.K fd ps ds)(hd:Ca Xd ds)(hx:Ot CX X E)
  (ha:PA X (e::es) t) (Rf:xf x:=by decide) (he:Lf e es X.env:=by rfl) (ff:Ci pos es X.env:=by rfl) :
  PE X (.Call (.Name x p) (e::es) [] pos) (bOf sp Xd E t):=by
 intro aa s σ H Q I h;refine Yx<|vt I hg hm ?_ Rf;refine ZD (h₀:=X.base) I.ok.mod.Ej hk (qc (ha pos aa s σ H _ I h) λus s1 ⟨vs,H1,I1,r,q⟩=>⟨I1.tf,?_⟩) he ff
 exact TY F hr hb hd hx I1 r q
def bGh(he:PE X o ta)(c:Al X.K C)(hm:Meth X.K C m f)(F:Aa X.prog X.w X.K X.mg X.base CX k f fd ps sp)(hr:dc k X.A)(hb:Binds X.K fd ps ds)(hd:Ca Xd ds)(hx:Ot CX X E)(ha:PA X (e::es) t)
  (Nh:Lf e es X.env:=by rfl) (ff:Ci pos es X.env:=by rfl)
  (ht:eval (.Call (.Attribute o m xb) (e::es) [] pos) X.env=(do
   let ov <- eval o X.env
   standAt xb.atName
   let (f,first) <- holding [ov] (getMethod ov m pl)
   callWith pos f first (backTo pos<|starEach (e::es) X.env) (backToKw pos<|keywordEach [] X.env)):=by rfl) :
  PE X (.Call (.Attribute o m xb) (e::es) [] pos) (bOg C m sp Xd E ta t):=by
 intro aa s σ H Q I h;refine j4 (pl:=pl) (qc (he aa s σ H _ I h) λu s1 ⟨x,H1,I1,rx,a,dx,fs,ex,ea,l,q⟩=>?_) ht
 subst ex;obtain rfl:u=Value.ref a:=rx;refine PR I1 ea c hm l ?_
 refine ZD (first:=[.ref a]) (h₀:=X.base) I.ok.mod.Ej hm.kp (qc (ha pos aa s1 σ H1 _ I1 q) λus s2 ⟨vs,H2,I2,r,q2⟩=>⟨I2.tf,?_⟩) Nh ff
 exact TY (us:=.ref a::us) (vs:=.ref a::vs) F hr hb hd hx I2 (.cons rfl r) q2
structure Mk(K:PySem.W.Frag)(C f:Addr):Prop where
 makes:PySem.W.makesIn K C=true
 init:PySem.W.findIn K (.ref C) "__init__"=some (some<|.ref f)
 fn:PySem.W.isFn K (.ref f)=true
 kp:PySem.W.keepIn K (.ref C)=true
def ĵ{Q:VK}(M:Mk X.K C f)(F:Aa X.prog X.w X.K X.mg X.base CX k f fd ps sp)(hr:dc (k+1) X.A)(hb:Binds X.K fd ps ds)(hd:Ca Xd ds)
  (hx:Ot CX X E) (I:ya X aa σ H s) (r:Ca vs us)
  (h:∀x dx,H x=none->H dx=none->dx≠x->sp (.ref x::(vs++Xd)) (Ob (Ob H dx<|.own x) x<|.ins C dx []) (λv H2=>v=.lc/\Q (.ref x) H2) E) :
  wpAny (model X.prog X.w) X.A (call (.ref C) us) (EP X aa σ Q) X.xe s:=by
 have hq:=h (s.heap.objs.size+1) s.heap.objs.size (I.ib.fresh<|Cq _) (I.ib.fresh<|Zc _)<|Cf<|Qu _;have I2:=ya.made (C:=C) I;have r2:Ca (V.ref (s.heap.objs.size+1)::(vs++Xd)) (Value.ref (s.heap.objs.size+1)::(us++ds)):=.cons rfl<|r.append hd;have hl:(Value.ref (s.heap.objs.size+1)::us++ds).length=ps.length:=by
  have e:=r2.length;rw[F.len _ _ _ _ hq]at e;exact e.symm
 refine my<|Ĵ (f:=f) I.tf M.makes M.init (Sj.mp M.fn)<|Oo (F.run _ X.stack _ _ ⟨Value.ref (s.heap.objs.size+1)::us,[]⟩ (Value.ref (s.heap.objs.size+1)::(us++ds)) _ _ E (hr.make C us [])
  (I2.Qr.make C us []) (hb _ (Value.ref (s.heap.objs.size+1)::us) I2.tf hl) r2 hq) λr s' gf=>?_
 cases r with
 |error e=>exact hx aa σ _ _ e s' I2 gf
 |ok fl=>
  cases fl with
  |ret u=>
   obtain⟨v,H',I3,rv,ev,q3⟩:=I2.after gf;subst ev;exact⟨rv,⟨V.ref<|s.heap.objs.size+1,H',I3,rfl,q3⟩⟩
  |next=>exact False.elim gf
  |brk=>exact False.elim gf
  |cont=>exact False.elim gf
def bGi(M:Mk X.K C f)(F:Aa X.prog X.w X.K X.mg X.base CX k f fd ps sp)(hr:dc (k+1) X.A)(hg:Gl X x)(hm:X.mg x=some (.ref C))(hb:Binds X.K fd ps ds)(hd:Ca Xd ds)(hx:Ot CX X E)
  (ha:PA X (e::es) t) (Rf:xf x:=by decide) (he:Lf e es X.env:=by rfl) (ff:Ci pos es X.env:=by rfl) :
  PE X (.Call (.Name x p) (e::es) [] pos) (bOh C sp Xd E t):=by
 intro aa s σ H Q I h;refine Yx<|vt I hg hm ?_ Rf;refine ZD (h₀:=X.base) I.ok.mod.Ej M.kp (qc (ha pos aa s σ H _ I h) λus s1 ⟨vs,H1,I1,r,q⟩=>⟨I1.tf,?_⟩) he ff
 exact ĵ M F hr hb hd hx I1 r q
end
structure jd(N P:List Str)(sc:Scope):Prop where
 kind:sc.kind=.function
 co:sc.isCoroutine=false
 gen:sc.isGenerator=false
 nd:N.Nodup
 pre:N.take P.length=P
 S5:∀x∈P,sc.names.lookup x=some .local\/sc.names.lookup x=some .cell
 Qs:∀y∈sc.names,y.2≠.free
theorem GS{kindOf:Str->Option NameKind}{x:Str}:∀{binds:List (Str×Value)} {m:Str->Option Value},(∀v,(x,v)∉binds)->bindL kindOf binds m x=m x
 |[],_,_=>rfl
 |(n,v)::r,m,h=>by
  unfold bindL;rw[GS λw hw=>h w<|Qb _ hw]
  split
  .have:x≠n:=by rintro rfl;exact h v Jb
   simp[this]
  .rfl
theorem HS{kindOf:Str->Option NameKind}{x:Str}:∀{binds:List (Str×Value)} {m:Str->Option Value},(∀v,(x,v)∉binds)->bindC kindOf binds m x=m x
 |[],_,_=>rfl
 |(n,v)::r,m,h=>by
  unfold bindC;rw[HS λw hw=>h w<|Qb _ hw]
  split
  .rfl
  .have:x≠n:=by rintro rfl;exact h v Jb
   simp[this]
theorem IS{kindOf:Str->Option NameKind}:∀{P:List Str}{vs:List Value}{i:Nat}{m:Str->Option Value},P.Nodup->P[i]?=some x->vs[i]?=some v->kindOf x=some .local->
  bindL kindOf (P.zip vs) m x=some v
 |[],_,_,_,_,h,_,_=>by simp at h
 |_::_,[],_,_,_,_,h,_=>by simp at h
 |p::P,w::vs,0,m,nd,h1,h2,hk=>by
  simp at h1 h2;subst h1;subst h2;show bindL kindOf ((p,w)::P.zip vs) m p=_;unfold bindL;rw[GS λv hv=>(Pj.mp nd).1 (NM hv).1,kb hk]
  simp
 |p::P,w::vs,i+1,m,nd,h1,h2,hk=>by
  show bindL kindOf ((p,w)::P.zip vs) m x=_;unfold bindL;exact IS (i:=i) (Pj.mp nd).2 (by simpa using h1) (by simpa using h2) hk
theorem JS{kindOf:Str->Option NameKind}:∀{P:List Str}{vs:List Value}{i:Nat}{m:Str->Option Value},P.Nodup->P[i]?=some x->vs[i]?=some v->kindOf x≠some .local->
  bindC kindOf (P.zip vs) m x=some v
 |[],_,_,_,_,h,_,_=>by simp at h
 |_::_,[],_,_,_,_,h,_=>by simp at h
 |p::P,w::vs,0,m,nd,h1,h2,hk=>by
  simp at h1 h2;subst h1;subst h2;show bindC kindOf ((p,w)::P.zip vs) m p=_;unfold bindC;rw[HS λv hv=>(Pj.mp nd).1 (NM hv).1,gb hk]
  simp
 |p::P,w::vs,i+1,m,nd,h1,h2,hk=>by
  show bindC kindOf ((p,w)::P.zip vs) m x=_;unfold bindC;exact JS (i:=i) (Pj.mp nd).2 (by simpa using h1) (by simpa using h2) hk
def start(N:List Str)(vs:List V):St:=vs.map some++List.replicate (N.length-vs.length) none
def sj(CX:Rp)(P:Program)(w:World)(K:PySem.W.Frag)(mg:Str->Option Value)(base:Heap)(N:List Str)(qual:Str)(scope:Scope)(f:Addr)(cd:Value)(A:Around)(outer:List Env)(s:Shared)(H:Hp)(E:XK):Cx where
 prog:=P
 w:=w
 K:=K
 mg:=mg
 base:=base
 A:=A.deeper<|envOfC qual scope s.heap.objs.size f cd
 N:=N
 Ba:=s
 Ka:=H
 env:=envOfC qual scope s.heap.objs.size f cd
 outer:=outer
 stack:=envOfC qual scope s.heap.objs.size f cd::outer
 ex:=[]
 calm:=true
 fn:=λ_=>true
 pn:=[]
 xe:=λe s'=>wpAny (model P w) (A.deeper<|envOfC qual scope s.heap.objs.size f cd) (leaving (envOfC qual scope s.heap.objs.size f cd) e) (λ_ sP=>CX outer H s E e sP) (λe' sP=>CX outer H s E e' sP) s'
def XT{sc:Scope}(h:sc.names.lookup x=some .cell):∃c,(cellsFrom n sc.names []).lookup x=some c:=by
 have q:=Q3 sc.names n []<|.inl h;exact C3.mp q
def ç{K:PySem.W.Frag}{mg:Str->Option Value}{A:Around}{vs:List V}
  (S:jd N ps scope) (hd:A.handled=none) (e0:pj P w K mg base A outer s H) (hl:vs.length=ps.length) (r:Ca vs us)
  (x:InCallC s s.heap.objs.size (bindL (envOfC qual scope s.heap.objs.size f cd).kindOf (ps.zip us) λ_=>none) (cellsFrom (s.heap.objs.size+1) scope.names []) (bindC (envOfC qual scope s.heap.objs.size f cd).kindOf (ps.zip us) λ_=>none) s1) :
  ya (sj CX P w K mg base N qual scope f cd A outer s H E) [] (start N vs) H s1:=by
 have ff:ps.length<=N.length:=by have:=congrArg List.length S.pre;rw[List.length_take]at this;omega
 obtain⟨h1,tk,rfl,hk⟩:=x.done;have noA:∀b:Addr,b∉(sj CX P w K mg base N qual scope f cd A outer s H E).ex:=λb z=>absurd (show b∈([]:List Addr) from z) (by simp)
 refine⟨⟨e0.mod,S.kind,rfl,rfl,Zc _,λy z c h1 h2=>?_,λy hy=>?_,λy c _ h=>?_,λ_=>hd,Around.frames_deeper e0.frames,.inr ⟨rfl,rfl⟩,λb z=>absurd z<|noA b,e0.bs,e0.Em,λb _ _=>noA b,λb z=>absurd z<|noA b,e0.og,e0.Zo⟩,
  rfl,e0.bare,Un.kept hk,⟨_,x.toInCall.ns,λi y v h1 h2 h3=>?_⟩,λy c h=>⟨_,x.cell y c h⟩,e0.ib.fresh<|Zc _,λy c h=>?_,λp hp=>absurd (show p∈([]:List (Addr×Obj)) from hp) (by simp),e0.ib.kept hk,?_⟩
 .exact name_of_addr x.apart (Gk h1) (Gk h2)
 .have hy:scope.names.lookup y=some .cell\/scope.names.lookup y=some .free:=hy;rcases hy with hy|hy
  .exact XT hy
  .exact absurd rfl (S.Qs _<|Gk hy)
 .exact gy (x.above y c<|Gk h)
 .have hi:i<vs.length:=by
   unfold start at h2
   by_cases hi:i<vs.length
   .exact hi
   .rw[Tx (by simpa using hi)]at h2
    rw[List.getElem?_replicate]at h2;split at h2<;>cases h2
  have ha:vs[i]?=some v:=by
   unfold start at h2;rw[Io (by simpa using hi),List.getElem?_map]at h2
   cases e:vs[i]? with
   |none=>rw[e]at h2;cases h2
   |some a=>rw[e]at h2;cases h2;rfl
  obtain⟨u,hu,rv⟩:=r.get ha;have hp:ps[i]?=some y:=by
   rw[<-S.pre,List.getElem?_take_of_lt (by omega)];exact h1
  have N5:ps.Nodup:=by rw[<-S.pre];exact S.nd.sublist<|List.take_sublist _ _
  refine⟨u,rv,?_⟩;rcases S.S5 y (Ek hp) with k|k
  .exact .inl ⟨k,IS N5 hp hu k⟩
  .obtain⟨c,e⟩:=XT (n:=s.heap.objs.size+1) k;refine .inr ⟨.inl k,c,e,?_⟩;have q:=x.cell y c e;rw[JS N5 hp hu (by show scope.names.lookup y≠_;rw[k];decide)]at q
   exact q
 .exact e0.ib.fresh (gy<|x.above y c<|Gk h)
 .unfold start;show _=N.length;rw[Wf,Yd,List.length_replicate];omega
def UK{K:PySem.W.Frag}{mg:Str->Option Value}{k:Nat}{kV oc:Value}{od:Option Addr}
  {Ai:Array (Option Value)} {sp:Sp} (lk:K.lookup f=some ⟨oc,od,.func<|PySem.W.fnOf name qual params body scope dV kV doc pm an Cc ct,Ai⟩) (af:PySem.W.codeIn K Cc qual=true) (S:jd N ps scope)
  (len:∀vs H Q E,sp vs H Q E->vs.length=ps.length)
  (Ri:∀(A:Around)(outer:List Env)(s:Shared)(H:Hp)(vs:List V)(Q:VK)(E:XK),dc k (A.deeper<|envOfC qual scope s.heap.objs.size f Cc)->sp vs H Q E->
   ∃t,we (sj CX P w K mg base N qual scope f Cc A outer s H E) body t/\t {nx:=λ_ H'=>Q .lc H',rt:=Q} (start N vs) H) :
  Aa P w K mg base CX (k+1) f (PySem.W.fnOf name qual params body scope dV kV doc pm an Cc ct) ps sp:=by
 refine⟨len,λA outer s H args us vs Q E hr e0 hb r hsp=>?_⟩
 have hl:=len _ _ _ _ hsp;have KX:K.In s.heap:=e0.mod.Ej.keeps λb o e=>(e0.bs b o e).1
 have lim:s.heap.NoLimit:=e0.mod.nolimit.keeps λb o e=>(e0.bs b o e).1
 have Wy:∀y∈ps.zip us,scope.names.lookup y.1=some .local\/(scope.names.lookup y.1=some .cell/\((cellsFrom (s.heap.objs.size+1) scope.names []).lookup y.1).isSome=true):=λ⟨n,v⟩ hy=>by
  rcases S.S5 n (NM hy).1 with q|q
  .exact .inl q
  .exact .inr ⟨q,Q3 _ _ _<|.inl q⟩
 refine codeAny_call_function hr.depth (KX _ _ lk) rfl S.co S.gen rfl (PySem.W.codeRec_of KX af)<|hb _ _ _ _ ?_;refine wpAny_newFunctionEnv_cells S.kind Wy λenv he s1 x=>?_
 subst he;refine⟨lim.keeps x.toInCall.keep,codeAny_func ?_⟩;obtain⟨t,ht,hq⟩:=Ri A outer s H vs Q E (hr.deeper _) hsp;have I:ya (sj CX P w K mg base N qual scope f Cc A outer s H E) [] (start N vs) H s1:=ç S hr.hd e0 hl r x;refine Kk (ht [] s1 (start N vs) H _ I hq) (λfl s' hs=>?_) λe s' hs=>hs
 have fin:∀{Eb:St}{H':Hp}{v:V}{u:Value},ya (sj CX P w K mg base N qual scope f Cc A outer s H E) [] Eb H' s'->RelV v u->Q v H'->CE outer P w H s Q u s':=
  λ{Eb H' v u} J rv q=>⟨v,H',J.os,J.bare,J.base,J.ib,rv,q⟩
 cases fl with
 |ret u=>
  obtain⟨v,Eb,H',J,rv,q⟩:=hs;exact fin J rv q
 |next=>
  obtain⟨Eb,H',J,q⟩:=hs;exact fin (v:=V.lc) (u:=Value.none) J rfl q
 |brk=>
  obtain⟨_,_,_,q⟩:=hs;exact False.elim q
 |cont=>
  obtain⟨_,_,_,q⟩:=hs;exact False.elim q
end L2
namespace L2
open PySem PySem.Spec PyProof.Rows
section
variable{X:Cx}{x:Str}{p pos:Pos}{e:Expr}{es:List Expr}{t:TA}{id T:String}{r:List V->Hp->VK->Prop}
def X5(r:List V->Hp->VK->Prop)(t:TA):TE:=λσ H Q=>t σ H λvs H1=>r vs H1 Q
def nZ(hc:lU X (.builtin id) r)(hg:Gl X x)(hm:X.mg x=none)(hv:bootBuiltins x=some (.builtin id))(ha:PA X (e::es) t)(hn:x≠"__name__":=by decide)(Rf:xf x:=by decide)
  (he:Lf e es X.env:=by rfl) (ff:Ci pos es X.env:=by rfl):PE X (.Call (.Name x p) (e::es) [] pos) (X5 r t):=by
 intro aa s σ H Q I h;refine Yx<|jr I hg hm hv ?_ hn Rf;exact PyProof.Rows.callWith_builtin1 (qc (ha pos aa s σ H _ I h) λus s1 ⟨vs,H1,I1,r1,q1⟩=>hc aa s1 σ H1 vs us Q I1 r1 q1) he ff
def yE(hc:lU X (.type T) r)(hg:Gl X x)(hm:X.mg x=none)(hv:bootBuiltins x=some (.type T))(ha:PA X (e::es) t)(hn:x≠"__name__":=by decide)(Rf:xf x:=by decide)
  (he:Lf e es X.env:=by rfl) (ff:Ci pos es X.env:=by rfl):PE X (.Call (.Name x p) (e::es) [] pos) (X5 r t):=by
 intro aa s σ H Q I h;refine Yx<|jr I hg hm hv ?_ hn Rf;exact Sx (qc (ha pos aa s σ H _ I h) λus s1 ⟨vs,H1,I1,r1,q1⟩=>hc aa s1 σ H1 vs us Q I1 r1 q1) he ff
end
end L2
namespace HT
open PySem PyProof.Rows
section
open PySem.SeqAt
open PySem.AutoSeq1 (wpAny_loadPart')
open PySem.MeetsSeq PySem.MeetsSeq2 PySem.MeetsSeq3
end
section
variable{prog:Program}{w:World}{A:Around}{E:Value->Shared->Prop}{s:Shared}
def yf(n d:Nat):Option Int->Nat
 |none=>d
 |some v=>if v<0 then (v+(n:Int)).toNat else min v.toNat n
end
end HT
namespace L2
open PySem PySem.Spec PyProof.Rows
abbrev TO:=St->Hp->(Option Int->Hp->Prop)->Prop
def PO(X:Cx)(e:Option Expr)(t:TO):Prop:=
 ∀(aa:List (Addr×Obj)) (s:Shared) (σ:St) (H:Hp) (Q:Option Int->Hp->Prop),ya X aa σ H s->t σ H Q->
  wpAny (model X.prog X.w) X.A (evalPart e X.env) (λu s'=>∃o H',ya X aa σ H' s'/\IsPart u o/\Q o H') X.xe s
def bGj:TO:=λ_ H Q=>Q none H
def bOi(t:TE):TO:=λσ H Q=>t σ H λx H1=>∃i,x=.int i/\Q (some i) H1
section
variable{X:Cx}{e:Expr}{te:TE}{lo hi:Option Expr}{tl th:TO}{pos p2:Pos}
def bGk:PO X none bGj:=by
 intro aa s σ H Q I h;rw[evalPart_none];exact Zb ⟨none,H,I,.none,h⟩
def bGl(h:PE X e te):PO X (some e) (bOi te):=by
 intro aa s σ H Q I hw;rw[evalPart_some];refine qc (h aa s σ H _ I hw) λu s1 ⟨x,H1,I1,r1,q1⟩=>?_
 obtain⟨i,rfl,q⟩:=q1;obtain⟨t,rfl⟩:=r1;exact⟨some i,H1,I1,.int i t,q⟩
def br(X:Cx)(r:V->Option Int->Option Int->Hp->VK->Prop):Prop:=
 ∀(aa:List (Addr×Obj)) (s:Shared) (σ:St) (H:Hp) (x:V) (v vl vu:Value) (lo hi:Option Int) (sl:Addr) (Q:VK),ya X aa σ H s->RelV x v->s.heap.IsSliceOf sl vl vu .none->IsPart vl lo->IsPart vu hi->r x lo hi H Q->
  ∃T id,typeLookup (.type T) "__getitem__"=pure (some<|.builtin id)/\s.TypeIs v T/\wpAny (model X.prog X.w) X.A (getItem v<|.ref sl) (EP X aa σ Q) X.xe s
def br.or{r r':V->Option Int->Option Int->Hp->VK->Prop}(h:br X r)(h':br X r'):br X (λx lo hi H Q=>r x lo hi H Q\/r' x lo hi H Q):=by
 intro aa s σ H x v vl vu lo hi sl Q I rx hs pl pu q;rcases q with q|q
 .exact h aa s σ H x v vl vu lo hi sl Q I rx hs pl pu q
 .exact h' aa s σ H x v vl vu lo hi sl Q I rx hs pl pu q
def tSl(r:V->Option Int->Option Int->Hp->VK->Prop)(te:TE)(tl th:TO):TE:=λσ H Q=>te σ H λx H1=>tl σ H1 λl H2=>th σ H2 λu H3=>r x l u H3 Q
def Ķ{r:V->Option Int->Option Int->Hp->VK->Prop}(hr:br X r)(he:PE X e te)(hl:PO X lo tl)(hu:PO X hi th):PE X (.Subscript e (.Slice lo hi none p2) pos) (tSl r te tl th):=by
 intro aa s σ H Q I h;refine Subscript_<|qc (he aa s σ H _ I h) λv s1 ⟨x,H1,I1,r1,q1⟩=>?_
 refine wpAny_Slice<|qc (hl aa s1 σ H1 _ I1 q1) λvl s2 ⟨l,H2,I2,pl,q2⟩=>qc (hu aa s2 σ H2 _ I2 q2) λvu s3 ⟨u,H3,I3,pu,q3⟩=>?_
 rw[evalPart_none];refine Zb ?_
 have I4:ya X aa σ H3 {s3 with heap:=s3.heap.push {cls:=.type "slice",data:=.fields #[vl,vu,.none]} }:=I3.kept (t':=s3.toks) λb ob q=>ud _ q
 obtain⟨T,id,hT,ht,hg⟩:=hr aa {s3 with heap:=s3.heap.push {cls:=.type "slice",data:=.fields #[vl,vu,.none]} } σ H3 x v vl vu l u s3.heap.objs.size Q I4 r1 (Heap.IsSliceOf.new ..) pl pu q3
 show wpAny (model X.prog X.w) X.A (subscriptTail e (.Slice lo hi none p2) v<|.ref s3.heap.objs.size) (EP X aa σ Q) X.xe {s3 with heap:=s3.heap.push {cls:=.type "slice",data:=.fields #[vl,vu,.none]} }
 exact tail_any (ops:=[.ref s3.heap.objs.size,v]) ht hT hg (by with_unfolding_all rfl)
def wu(xs:List V)(lo hi:Option Int):List V:=(xs.drop<|HT.yf xs.length 0 lo).take<|HT.yf xs.length xs.length hi-HT.yf xs.length 0 lo
def Θ(xs:List V)(lo hi:Option Int):(wu xs lo hi).length<=xs.length:=by
 unfold wu;rw[List.length_take,List.length_drop];omega
end
end L2
namespace L2
open PySem PySem.Spec PyProof.Rows
def vh(n:Nat)(i:Int):Option Nat:=if 0<=i then (if i<n then some i.toNat else none) else if -(n:Int)<=i then some (i+n).toNat else none
def de{α:Type}(xs:List α)(i:Int):Option α:=(vh xs.length i).bind λj=>xs[j]?
def GW{n:Nat}(h:vh n i=some j):seqIndex? i n=some j/\j<n/\-(n:Int)<=i/\i<n:=by
 unfold vh at h
 by_cases h0:0<=i
 .rw[kb h0]at h
  by_cases h1:i<n
  .rw[kb h1]at h;have e:i.toNat=j:=Dm h;exact⟨by rw[seqIndex_of h0 h1,e],by omega,by omega,h1⟩
  .rw[gb h1]at h;cases h
 .rw[gb h0]at h
  by_cases h1 : -(n:Int)<=i
  .rw[kb h1]at h;have e:(i+n).toNat=j:=Dm h;exact⟨by rw[seqIndex_neg (by omega) h1,e],by omega,h1,by omega⟩
  .rw[gb h1]at h;cases h
def MI{α:Type}{xs:List α}{v:α}(h:de xs i=some v):∃j,seqIndex? i xs.length=some j/\xs[j]?=some v/\j<xs.length/\-(xs.length:Int)<=i/\i<xs.length:=by
 unfold de at h;cases e:vh xs.length i with
 |none=>rw[e]at h;cases h
 |some j=>
  rw[e]at h;obtain⟨h1,h2,h3,h4⟩:=GW e;exact⟨j,h1,h,h2,h3,h4⟩
def Fc{α:Type}{xs:List α}{j:Nat}{v:α}(h:xs[j]?=some v):de xs (j:Int)=some v:=by
 have hj:j<xs.length:=(Og.mp h).1;have e:vh xs.length (j:Int)=some j:=by
  unfold vh;rw[kb (by omega),kb (by omega)];simp
 unfold de;rw[e];exact h
def Mi{α:Type}(xs:List α)(v:α):de (xs++[v]) (-1)=some v:=by
 have hl:(xs++[v]).length=xs.length+1:=by simp
 have e:vh (xs++[v]).length (-1)=some xs.length:=by
  unfold vh;rw[hl,gb (by decide),kb (by omega)]
  congr 1;omega
 unfold de;rw[e];show (xs++[v])[xs.length]?=some v;simp
def HW(b:Expr):Prop:=∀o i,subscripted b false o i=operate [o,i] (getItem o i)
def vn(X:Cx)(r:R2):Prop:=
 ∀(value slice:Expr) (aa:List (Addr×Obj)) (s:Shared) (σ:St) (H:Hp) (x y:V) (v u:Value) (Q:VK),ya X aa σ H s->RelV x v->RelV y u->r x y H Q->
  subscripted slice false v u=operate [v,u] (getItem v u)->wpAny (model X.prog X.w) X.A (subscriptTail value slice v u) (EP X aa σ Q) X.xe s
def mm(X:Cx)(id:String)(r:V->List V->Hp->VK->Prop):Prop:=
 ∀(aa:List (Addr×Obj)) (s:Shared) (σ:St) (H:Hp) (x:V) (xs:List V) (v:Value) (us:List Value) (Q:VK),ya X aa σ H s->RelV x v->Ca xs us->r x xs H Q->
  wpAny (model X.prog X.w) X.A (call (.builtin id)<|v::us) (EP X aa σ Q) X.xe s
section
variable{X:Cx}{a b:Expr}{ta tb:TE}{pos:Pos}
def vn.or(h:vn X r)(h':vn X r'):vn X (λx y H Q=>r x y H Q\/r' x y H Q):=by
 intro value slice aa s σ H x y v u Q I rx ry q hs;rcases q with q|q
 .exact h value slice aa s σ H x y v u Q I rx ry q hs
 .exact h' value slice aa s σ H x y v u Q I rx ry q hs
def bOj(hr:vn X r)(ha:PE X a ta)(hb:PE X b tb)(hs:HW b):PE X (.Subscript a b pos) (Hz r ta tb):=by
 intro aa s σ H Q I h;exact Subscript_<|EL ha hb I h λv u s2 x y H2 I2 rx ry q=>hr a b aa s2 σ H2 x y v u Q I2 rx ry q<|hs _ _
def O1(K:PySem.W.Frag):R2:=λx y H Q=>∃p xs i v,x=.ref p/\y=.int i/\Ae K H p xs/\de xs i=some v/\Q v H
def P1(K:PySem.W.Frag):R2:=λx y H Q=>∃p xs i v,x=.ref p/\y=.int i/\Zg K H p xs/\de xs i=some v/\Q v H
def Q1:R2:=λx y H Q=>∃z i c,x=.str z/\y=.int i/\z.length<=sizeLine/\de z.cps.toList i=some c/\Q (.str ⟨#[c]⟩) H
def bGm:vn X (O1 X.K):=by
 intro value slice aa s σ H x y v u Q I rx ry h hs;obtain⟨p,xs,i,z,rfl,rfl,hq,he,q⟩:=h;cases rx;obtain⟨t,rfl⟩:=ry;obtain⟨Sa,r,pl,hz⟩:=I.list hq;obtain⟨j,h1,h2,h3,h4,h5⟩:=MI he;obtain⟨w,ew,Bh⟩:=r.get h2;have hl:=r.length;have hn:=Nt;have fin:EP X aa σ Q w s:=⟨z,H,I,Bh,q⟩
 by_cases h0:0<=i
 .have hj:i.toNat=j:=by
   rw[seqIndex_of h0 h5]at h1;exact Dm h1
  exact item_listR pl.isList h0 (by omega) (by rw[hj];simpa using ew) fin hs
 .have hj:(i+(Sa.toArray.size:Int)).toNat=j:=by
   rw[seqIndex_neg (by omega) h4]at h1
   rw[dh,<-hl];exact Dm h1
  exact subscriptTail_builtinR (x:=w) pl.isList.typeIs slot_list_getitem.lookup
   (wpAny_getItem_list_neg (Q:=λr s'=>r=w/\EP X aa σ Q r s') pl.isList (by omega) (by rw[dh] <;> omega) (by omega) (by rw[hj];simpa using ew) ⟨rfl,fin⟩) hs
def bL9:vn X (P1 X.K):=by
 intro value slice aa s σ H x y v u Q I rx ry h hs;obtain⟨p,xs,i,z,rfl,rfl,hq,he,q⟩:=h;cases rx;obtain⟨t,rfl⟩:=ry;obtain⟨Sa,r,pl,hz⟩:=I.tuple hq;obtain⟨j,h1,h2,h3,h4,h5⟩:=MI he;obtain⟨w,ew,Bh⟩:=r.get h2;have hl:=r.length;have hn:=Nt;have fin:EP X aa σ Q w s:=⟨z,H,I,Bh,q⟩;exact subscriptTail_builtinR (x:=w) pl.typeIs slot_tuple_getitem.lookup
  (getItem_tuple (j:=j) (Q:=λr s'=>r=w/\EP X aa σ Q r s') pl (by omega) (by omega) (by rw[dh,<-hl];exact h1) (by simpa using ew) ⟨rfl,fin⟩) hs
def bLa:vn X Q1:=by
 intro value slice aa s σ H x y v u Q I rx ry h hs;obtain⟨z,i,c,rfl,rfl,hz,he,q⟩:=h;obtain⟨t,rfl⟩:=rx;obtain⟨t',rfl⟩:=ry;obtain⟨j,h1,h2,h3,h4,h5⟩:=MI he;have hl:z.cps.toList.length=z.length:=by simp[Str.length]
 rw[hl]at h1 h4 h5;have hn:=Nt;exact tail_any (typeIs_str s z t) slot_str_getitem.lookup (getItem_str (c:=c) (by
  have e1:decide (i < -(2^63:Int))=false:=fe (by omega)
  have e2:decide (i ≥ 2^63)=false:=fe (by omega)
  rw[e1,e2,Bool.or_false]) (by rw[h1];simpa using h2) ⟨.str ⟨#[c]⟩,H,I.tok _,⟨_,rfl⟩,q⟩) hs
def iP(K:PySem.W.Frag):R2:=λx y H Q=>O1 K x y H Q\/P1 K x y H Q\/Q1 x y H Q
def bLb:vn X (iP X.K):=bGm.or<|bL9.or bLa
def Ϩ(Sa:List Value)(n j:Nat)(u:Value):Obj.mapSeq (·.setIfInBounds j u) {cls:=.type "list",data:=.seq Sa.toArray n}={cls:=.type "list",data:=.seq (Sa.set j u).toArray n}:=by
 simp[Obj.mapSeq]
theorem ya.lst{aa:List (Addr×Obj)}{σ:St}{H:Hp}{s:Shared}{p:Addr}{xs:List V}(I:ya X aa σ H s)(h:H p=some (.lst xs)) :
  ∃(Sa:List Value)(n:Nat),Ca xs Sa/\s.heap.get? p=some {cls:=.type "list",data:=.seq Sa.toArray n}/\xs.length<=sizeLine:=by
 obtain⟨z,Sa,n,r,e⟩:=I.ib p _ h;exact⟨Sa,n,r,e,z⟩
def ya.Ls{Sa Sf:List Value}{f:Obj->Obj}(I:ya X aa σ H s)(h:H p=some (.lst xs))
  (ho:s.heap.get? p=some {cls:=.type "list",data:=.seq Sa.toArray n}) (hf:f {cls:=.type "list",data:=.seq Sa.toArray n}={cls:=.type "list",data:=.seq Sf.toArray n'}) (r:Ca ys Sf) (hz:ys.length<=sizeLine) (t:Nat) :
  ya X aa σ (Ob H p<|.lst ys) {s with heap:=s.heap.update p f,toks:=t}:=by
 have e:(s.heap.update p f).get? p=some {cls:=.type "list",data:=.seq Sf.toArray n'}:=by
  rw[pq f ho (by rw[hf] <;> rfl),hf]
 refine I.write (x:=p) (e:=p) (by rw[h];trivial) (.inl rfl) (λb u hb q=>(Dr _ _<|Nk hb).trans q) ⟨_,e⟩ ?_
 exact⟨hz,Sf,n',r,e⟩
def bOn:V->V->V->Hp->(Hp->Prop)->Prop:=λo i v H Q=>∃p xs k j,o=.ref p/\i=.int k/\H p=some (.lst xs)/\vh xs.length k=some j/\Q (Ob H p<|.lst<|xs.set j v)
def set_list:DL X bOn:=by
 intro aa s σ H o i v ov iv u Q I ro ri rv h;obtain⟨p,xs,k,j,rfl,rfl,hp,hj,q⟩:=h;cases ro;obtain⟨t,rfl⟩:=ri;obtain⟨Sa,n,r,ho,hz⟩:=I.lst hp;obtain⟨h1,h2,h3,h4⟩:=GW hj;have hl:=r.length;have hn:=Nt;have I':ya X aa σ (Ob H p<|.lst<|xs.set j v) {s with heap:=s.heap.update p (Obj.mapSeq (·.setIfInBounds j u))}:=
  I.Ls hp ho (Ϩ Sa n j u) (r.set rv j) (by rw[Kn];exact hz) s.toks
 by_cases h0:0<=k
 .have hk:k.toNat=j:=by
   rw[seqIndex_of h0 h4]at h1;exact Dm h1
  exact PySem.W.ki_setAt ho h0 (by omega) (by rw[dh,<-hl];exact h4) (by rw[hk];exact⟨_,I',q⟩)
 .have hk:(k+(Sa.toArray.size:Int)).toNat=j:=by
   rw[seqIndex_neg (by omega) h3]at h1
   rw[dh,<-hl];exact Dm h1
  exact PySem.W.ki_setBack ho (by omega) (by rw[dh,<-hl];exact h3) (by omega) (by rw[hk];exact⟨_,I',q⟩)
def L_(lo hi:Option Int)(n:Nat):(sliceBounds lo hi none n).1=((HT.yf n 0 lo:Nat):Int)/\(sliceBounds lo hi none n).2.1=((HT.yf n n hi:Nat):Int)/\(sliceBounds lo hi none n).2.2=1:=by
 refine⟨?_,?_,rfl⟩
 .cases lo with
  |none=>simp[sliceBounds,HT.yf]
  |some i=>
   simp only[sliceBounds,HT.yf,Option.getD_none,show (1:Int)>0 by decide,if_true]
   by_cases h:i<0
   .simp only[h,if_true] <;> omega
   .simp only[h,if_false] <;> omega
 .cases hi with
  |none=>simp[sliceBounds,HT.yf]
  |some i=>
   simp only[sliceBounds,HT.yf,Option.getD_none,show (1:Int)>0 by decide,if_true]
   by_cases h:i<0
   .simp only[h,if_true] <;> omega
   .simp only[h,if_false] <;> omega
def d_(Sa:List Value)(lo hi:Option Int):slicePick Sa.toArray lo hi none=((Sa.drop<|HT.yf Sa.length 0 lo).take<|HT.yf Sa.length Sa.length hi-HT.yf Sa.length 0 lo).toArray:=by
 obtain⟨h1,h2,h3⟩:=L_ lo hi Sa.toArray.size;unfold slicePick;rw[h1,h2,h3];simp only[sliceRange_one,pick_run,List.size_toArray] <;> rfl
def bRb(K:PySem.W.Frag):V->Option Int->Option Int->Hp->VK->Prop:=λx lo hi H Q=>∃a xs,x=.ref a/\Ae K H a xs/\∀p,H p=none->Q (.ref p) (Ob H p<|.lst<|wu xs lo hi)
def bGn:br X (bRb X.K):=by
 intro aa s σ H x v vl vu lo hi sl Q I rx hs pl pu h;obtain⟨a,xs,rfl,hx,q⟩:=h;cases rx;obtain⟨Sa,r,ht,hz⟩:=I.list hx;have Pc:=r.length;refine⟨"list",_,slot_list_getitem.lookup,ht.isList.typeIs,?_⟩;refine wpAny_getItem_list_slice ht.isList hs pl pu .none (by simp) ?_ (by rw[dh] <;> omega)
 rw[d_,<-Pc];refine⟨.ref s.heap.objs.size,_,I.laid (t':=s.toks) (o:=.lst<|wu xs lo hi) (λb ob q=>ud _ q) (Zc _) ?_,rfl,q _<|I.ib.fresh<|Zc _⟩
 exact⟨bf (Θ xs lo hi) hz,_,0,(r.drop<|HT.yf xs.length 0 lo).take<|HT.yf xs.length xs.length hi-HT.yf xs.length 0 lo,Vf _ rfl⟩
def M_:lU X (.builtin "len") (λxs H Q=>∃p ys,xs=[.ref p]/\(Ae X.K H p ys\/Zg X.K H p ys)/\Q (.int ys.length) H):=by
 intro aa s σ H xs us Q I r h;obtain⟨p,ys,rfl,hq,q⟩:=h;obtain⟨u,rfl,rx⟩:=vals1 r;cases rx;have hn:=Nt;rcases hq with hq|hq
 .obtain⟨Sa,r',pl,hz⟩:=I.list hq;have Pc:=r'.length;exact Calls.call_len_list pl.isList (by simp only[List.size_toArray] <;> omega) ⟨.int ys.length,H,I.tok _,⟨s.toks+1,by rw[dh,Pc]⟩,q⟩
 .obtain⟨Sa,r',pl,hz⟩:=I.tuple hq;have Pc:=r'.length;exact len_tuple pl (by simp only[List.size_toArray] <;> omega) ⟨.int ys.length,H,I.tok _,⟨s.toks+1,by rw[dh,Pc]⟩,q⟩
def N_:lU X (.builtin "len") (λxs H Q=>∃z,xs=[.str z]/\z.length<=sizeLine/\Q (.int z.length) H):=by
 intro aa s σ H xs us Q I r h;obtain⟨z,rfl,hz,q⟩:=h;obtain⟨u,rfl,t,rfl⟩:=vals1 r;have hn:=Nt;exact len_str (by omega) ⟨.int z.length,H,I.tok _,⟨_,rfl⟩,q⟩
def lU.or{r r':List V->Hp->VK->Prop}(h:lU X f r)(h':lU X f r'):lU X f (λxs H Q=>r xs H Q\/r' xs H Q):=by
 intro aa s σ H xs us Q I rs q;rcases q with q|q
 .exact h aa s σ H xs us Q I rs q
 .exact h' aa s σ H xs us Q I rs q
def FP(K:PySem.W.Frag)(T:String)(x:V)(H:Hp):Prop:=match x with
 |.str _=>T="str"
 |.int _=>T="int"
 |.ref p=>(T="list"/\∃xs,Ae K H p xs)\/(T="tuple"/\∃o,K.lookup p=some o/\o.cls=.type "tuple"/\o.dict=none)\/
   (T="dict"/\((∃oa,H p=some (.dK oa))\/∃oa,H p=some (.dT oa)))\/(T="set"/\∃S n,H p=some (.set S n))
 |_=>False
def UY(I:ya X aa σ H s)(r:RelV x v)(ty:FP X.K T x H) :
  s.TypeIs v T/\∀a,v=.ref a->∃ob,s.heap.get? a=some ob/\ob.dict=none:=by
 cases x with
 |str z=>
  obtain⟨t,rfl⟩:=r;cases (show T="str" from ty)
  exact⟨typeIs_str s z t,λ_ e=>nomatch e⟩
 |int i=>
  obtain⟨t,rfl⟩:=r;cases (show T="int" from ty)
  exact⟨typeIs_int s i t,λ_ e=>nomatch e⟩
 |ref p=>
  cases r;rcases ty with ⟨rfl,xs,hq⟩|⟨rfl,o,hk,hc,hd⟩|⟨rfl,hk⟩|⟨rfl,S,n,hk⟩
  .obtain⟨Sa,_,pl,_⟩:=I.list hq;refine⟨pl.isList.typeIs,λa e=>?_⟩
   cases e;obtain⟨o,n,e,c,hd,_⟩:=pl;exact⟨o,e,hd⟩
  .refine⟨⟨o,I.tf p o hk,hc⟩,λa e=>?_⟩
   cases e;exact⟨o,I.tf _ o hk,hd⟩
  .have z:∃o,s.heap.get? p=some o/\o.ExactDict:=by
    rcases hk with ⟨oa,hk⟩|⟨oa,hk⟩
    .obtain⟨_,_,_,_,o,_,_,e,ex,_⟩:=I.ib p _ hk;exact⟨o,e,ex⟩
    .obtain⟨_,_,_,_,o,_,_,e,ex,_⟩:=I.ib p _ hk;exact⟨o,e,ex⟩
   obtain⟨o,e,ex⟩:=z;refine⟨⟨o,e,ex.1⟩,λa e2=>?_⟩
   cases e2;exact⟨o,e,ex.2.1⟩
  .obtain⟨o,_,_,_,e,ex,_⟩:=I.ib p _ hk;refine⟨⟨o,e,ex.1⟩,λa e2=>?_⟩
   cases e2;exact⟨o,e,ex.2.1⟩
 |_=>exact False.elim ty
def bRc(K:PySem.W.Frag)(T:String)(r:V->List V->Hp->VK->Prop)(to:TE):TE:=λσ H Q=>to σ H λx H1=>FP K T x H1/\r x [] H1 Q
def tBM(K:PySem.W.Frag)(T:String)(r:V->List V->Hp->VK->Prop)(to:TE)(t:TA):TE:=λσ H Q=>to σ H λx H1=>FP K T x H1/\t σ H1 λxs H2=>r x xs H2 Q
variable{o e:Expr}{es:List Expr}{to:TE}{t:TA}{name:Str}{xb Ta:Pos}{T id:String}{r:V->List V->Hp->VK->Prop}
def WB(pa:PlainAttrs T)(slot:Slot T name id)(dz:typeOf (.builtin id)=pure (.type "method_descriptor"))(hm:mm X id r)(ho:PE X o to)
  (fc:Ah o name X.env:=by rfl) (Ac:Bi xb Ta:=by rfl):PE X (.Call (.Attribute o name xb) [] [] Ta) (bRc X.K T r to):=by
 intro aa s σ H Q I h;refine wpAny_Call_method0_late fc Ac<|qc (ho aa s σ H _ I h) λv s1 ⟨x,H1,I1,r1,ty,q1⟩=>?_
 obtain⟨h1,h2⟩:=UY I1 r1 ty;exact⟨T,id,pa,slot,dz,h1,h2,OD rfl<|PySem.evalArgs_none<|hm aa s1 σ H1 x [] v [] Q I1 r1 .nil q1⟩
def Zt(pa:PlainAttrs T)(slot:Slot T name id)(dz:typeOf (.builtin id)=pure (.type "method_descriptor"))(hm:mm X id r)(ho:PE X o to)(ha:PA X (e::es) t)
  (fc:Ah o name X.env:=by rfl)
  (Df:jl Ta (e::es) X.env:=by rfl)
  (Ac:Bi xb Ta:=by rfl) (hs:Lf e es X.env:=by rfl) (ig:Ci Ta es X.env:=by rfl) :
  PE X (.Call (.Attribute o name xb) (e::es) [] Ta) (tBM X.K T r to t):=by
 intro aa s σ H Q I h;refine wpAny_Call_method_late fc Df Ac rfl<|qc (ho aa s σ H _ I h) λv s1 ⟨x,H1,I1,r1,ty,q1⟩=>?_
 obtain⟨h1,h2⟩:=UY I1 r1 ty;refine⟨T,id,pa,slot,dz,h1,h2,?_⟩;have hA:=ha Ta aa s1 σ H1 _ I1 q1;rw[hs]at hA ⊢;refine OD (by show (false||(backTo Ta<|starEach es X.env).any (·.1))=false;rw[ig] <;> rfl)<|VD ?_
 exact qc hA λus s2 ⟨vs,H2,I2,r2,q2⟩=>hm aa s2 σ H2 x vs v us Q I2 r1 r2 q2
end
end L2
namespace L2
open PySem PySem.Spec PyProof.Rows
def QF(X:Cx)(id:String)(r:V->List V->Hp->VK->Prop):Prop:=
 ∀(aa:List (Addr×Obj)) (s:Shared) (σ:St) (H:Hp) (x:V) (xs:List V) (v:Value) (us:List Value) (Q:VK),ya X aa σ H s->RelV x v->Ca xs us->r x xs H Q->
  wpAny (model X.prog X.w) X.A (call (.builtin id)<|v::us) (EP X aa σ Q) X.xe s
def Ca.one:∀{x:V}{us:List Value},Ca [x] us->∃u,us=[u]/\RelV x u
 |_,_,.cons r .nil=>⟨_,rfl,r⟩
def Ca.two:∀{x y:V}{us:List Value},Ca [x,y] us->∃u v,us=[u,v]/\RelV x u/\RelV y v
 |_,_,_,.cons r (.cons q .nil)=>⟨_,_,rfl,r,q⟩
def Ca.zero:∀{us:List Value},Ca [] us->us=[]
 |_,.nil=>rfl
theorem Ca.dropLast(h:Ca xs us):Ca xs.dropLast us.dropLast:=by
 induction h with
 |nil=>exact .nil
 |cons r t ih=>
  cases t with
  |nil=>exact .nil
  |cons q t'=>exact .cons r ih
theorem Ca.eraseIdx:∀{xs:List V}{us:List Value}(i:Nat),Ca xs us->Ca (xs.eraseIdx i) (us.eraseIdx i)
 |_,_,_,.nil=>.nil
 |_,_,0,.cons _ t=>t
 |_,_,i+1,.cons r t=>.cons r<|Ca.eraseIdx i t
theorem Ca.reverse(h:Ca xs us):Ca xs.reverse us.reverse:=by
 induction h with
 |nil=>exact .nil
 |cons r t ih=>rw[List.reverse_cons,List.reverse_cons];exact Ca.append ih<|.cons r .nil
theorem Ca.rep(h:Ca xs us):∀k:Nat,Ca (List.replicate k xs).flatten (List.replicate k us).flatten
 |0=>.nil
 |k+1=>by
  rw[Ko,Ko,Gr,Gr];exact Ca.append h<|Ca.rep h k
def ϩ{α:Type}(l:List α):l.eraseIdx (l.length-1)=l.dropLast:=by
 induction l with
 |nil=>rfl
 |cons a r ih=>
  cases r with
  |nil=>rfl
  |cons b r=>
   have e:(a::b::r).length-1=((b::r).length-1)+1:=by
    have h1:(a::b::r).length=r.length+2:=rfl;have h2:(b::r).length=r.length+1:=rfl;omega
   rw[e,List.eraseIdx_cons_succ,ih]
   all_goals rfl
theorem foldl_rep(Sa:List Value):∀(k:Nat)(xa:List Value),
  List.foldl (λx1 x2=>x1++x2) xa.toArray (List.replicate k Sa.toArray)=(xa++(List.replicate k Sa).flatten).toArray
 |0,xa=>by simp
 |k+1,xa=>by
  have e:xa.toArray++Sa.toArray=(xa++Sa).toArray:=by simp
  have e2:(xa++Sa)++(List.replicate k Sa).flatten=xa++(List.replicate (k+1) Sa).flatten:=by
   rw[Ko,Gr,Cm]
  rw[<-e2,<-foldl_rep Sa k (xa++Sa),<-e,Ko,Po]
section
variable{X:Cx}{aa:List (Addr×Obj)}{σ:St}{H:Hp}{s:Shared}{l b:Addr}{xs ys zs:List V}
def ya.Bp{Sa Sf:List Value}{f:Array Value->Array Value}{t':Nat}(I:ya X aa σ H s)(hH:H l=some (.lst xs))
  (e:s.heap.get? l=some {cls:=.type "list",data:=.seq Sa.toArray n}) (hf:f Sa.toArray=Sf.toArray) (hv:Ca ys Sf) (hz:ys.length<=sizeLine) :
  ya X aa σ (Ob H l<|.lst ys) {s with heap:=s.heap.update l<|Obj.mapSeq f,toks:=t'}:=by
 have q:=PySem.IsL.update e f;rw[hf]at q;refine I.write (x:=l) (e:=l) (by rw[hH];exact trivial) (.inl rfl) (λb' u hb hu=>(Dr s.heap (Obj.mapSeq f)<|Nk hb).trans hu) ⟨_,q⟩ ?_
 exact⟨hz,Sf,_,hv,q⟩
def ya.Ks{t':Nat}(I:ya X aa σ H s)(hv:Ca ys Sa)(hz:ys.length<=sizeLine) :
  ya X aa σ (Ob H s.heap.objs.size<|.lst ys) {s with heap:=s.heap.push {cls:=.type "list",data:=.seq Sa.toArray},toks:=t'}:=
 I.laid (λ_ _ q=>ud _ q) (Zc _) ⟨hz,Sa,0,hv,Vf _ rfl⟩
theorem ya.fresh(I:ya X aa σ H s):H s.heap.objs.size=none:=I.ib.fresh<|Zc _
def ya.Yk(I:ya X aa σ H s)(hH:H l=some (.lst xs)):xs.length<=sizeLine/\∃(Sa:List Value)(n:Nat),Ca xs Sa/\xs.length=Sa.length/\s.heap.get? l=some {cls:=.type "list",data:=.seq Sa.toArray n}:=by
 obtain⟨z,Sa,n,r,e⟩:=I.ib l _ hH;exact⟨z,Sa,n,r,r.length,e⟩
def YT{n:Nat}(h:n<=sizeLine):Builtin.List.listTooLong n=false:=by
 unfold Builtin.List.listTooLong;exact fe (by omega)
end
section
variable{X:Cx}
def bGo:V->List V->Hp->VK->Prop:=λx vs H Q=>∃l xs y,x=.ref l/\vs=[y]/\H l=some (.lst xs)/\xs.length<sizeLine/\Q .lc (Ob H l<|.lst<|xs++[y])
def è:QF X "list.append" bGo:=by
 intro aa s σ H x vs v us Q I rx rv h;obtain⟨l,xs,y,rfl,rfl,hH,hz,q⟩:=h;cases rx;obtain⟨u,rfl,ru⟩:=rv.one;obtain⟨z,Sa,n,r,hl,e⟩:=I.Yk hH;refine Lr QL ⟨_,e,rfl⟩ F.entry_list_append (J3 _ _) (PySem.list_append l Sa.toArray n u<|by rw[dh];omega) ⟨e,?_⟩
 refine⟨.lc,_,I.Bp (Sf:=Sa++[u]) hH e (by simp) (r.append<|.cons ru .nil) ?_,rfl,q⟩
 rw[Wf,Gh];omega
def bGp:V->List V->Hp->VK->Prop:=λx vs H Q=>∃l b xs zs,x=.ref l/\vs=[.ref b]/\H l=some (.lst xs)/\H b=some (.lst zs)/\xs.length+zs.length<=sizeLine/\Q .lc (Ob H l<|.lst<|xs++zs)
def é:QF X "list.extend" bGp:=by
 intro aa s σ H x vs v us Q I rx rv h;obtain⟨l,b,xs,zs,rfl,rfl,hH,hB,hz,q⟩:=h;cases rx;obtain⟨u,rfl,ru⟩:=rv.one;cases ru;obtain⟨z,Sa,n,r,hl,e⟩:=I.Yk hH;obtain⟨z2,Zh,n2,r2,hl2,e2⟩:=I.Yk hB;have hsz:Sa.toArray.size+Zh.toArray.size<=sizeLine:=by rw[dh,dh];omega
 have Nm:¬ (!Sa.toArray.isEmpty&&Builtin.List.listTooLong (Sa.toArray.size+Zh.toArray.size))=true:=by
  rw[YT hsz,cy];exact Cg
 refine Lr F.slot_list_extend ⟨_,e,rfl⟩ F.entry_list_extend (F.args_list_extend_2 _ _)
  (AutoSeq1.list_extend_list_list_0 l Sa.toArray n b Zh.toArray n2 Nm (by rw[dh];omega)<|by omega) ⟨e,e2,?_⟩
 refine⟨.lc,_,I.Bp (Sf:=Sa++Zh) hH e (by simp) (r.append r2) ?_,rfl,q⟩
 rw[Wf];omega
def bRd:V->List V->Hp->VK->Prop:=λx vs H Q=>∃l xs y,x=.ref l/\vs=[]/\H l=some (.lst xs)/\xs[xs.length-1]?=some y/\Q y (Ob H l<|.lst xs.dropLast)
def bLc:QF X "list.pop" bRd:=by
 intro aa s σ H x vs v us Q I rx rv h;obtain⟨l,xs,y,rfl,rfl,hH,hy,q⟩:=h;cases rx;have dk:=rv.zero;subst dk;obtain⟨z,Sa,n,r,hl,e⟩:=I.Yk hH;obtain⟨u,hu,ru⟩:=r.get hy;have XE:Sa.toArray[Sa.toArray.size-1]?=some u:=by
  show Sa.toArray[Sa.length-1]?=some u;rw[<-uq,<-hl];exact hu
 refine Lr F.slot_list_pop ⟨_,e,rfl⟩ F.entry_list_pop (F.args_list_pop_1 _) (MeetsSeq.list_pop_last l Sa.toArray n u XE<|by rw[dh];omega) ⟨e,?_⟩
 refine⟨y,_,I.Bp (Sf:=Sa.dropLast) hH e ?_ r.dropLast ?_,ru,q⟩
 .show Sa.toArray.eraseIdxIfInBounds (Sa.toArray.size-1)=Sa.dropLast.toArray;rw[dh,List.eraseIdxIfInBounds_toArray,ϩ]
 .rw[List.length_dropLast];omega
def bRe:R2:=λx y H Q=>∃l k xs,x=.ref l/\y=.int k/\H l=some (.lst xs)/\-(2^63)<=k/\k<2^63/\xs.length*k.toNat<=sizeLine/\
 ∀p,H p=none->Q (.ref p) (Ob H p<|.lst (List.replicate k.toNat xs).flatten)
def len_rep{α:Type}(xs:List α)(k:Nat):(List.replicate k xs).flatten.length=k*xs.length:=by
 induction k with
 |zero=>simp
 |succ k ih=>rw[Ko,Gr,Wf,ih,Nat.succ_mul,Nat.add_comm]
def bLd:Oe X (binaryOp .Mult) bRe:=by
 intro aa s σ H x y v u Q I rx ry h;obtain⟨l,k,xs,rfl,rfl,hH,h1,h2,hz,q⟩:=h;cases rx;obtain⟨t,rfl⟩:=ry;obtain⟨z,Sa,n,r,hl,e⟩:=I.Yk hH;have Pc:Sa.toArray.size*k.toNat<=sizeLine:=by rw[dh,<-hl];exact hz
 have CN:¬ Sa.toArray.size*k.toNat>(2^63-1)/8:=by
  have:(sizeLine:Nat)<=(2^63-1)/8:=by decide
  omega
 have JN:¬ (!Builtin.List.listFitsIndex k)=true:=by
  rw[fitsIndex_both h1 h2];exact Cg
 have Nm:¬ Builtin.List.listTooLong (Sa.toArray.size*k.toNat)=true:=by
  rw[YT Pc];exact Cg
 have PN:List.foldl (λx1 x2=>x1++x2) #[] (List.replicate (if Sa.toArray.isEmpty=true then 0 else k.toNat) Sa.toArray)=(List.replicate k.toNat Sa).flatten.toArray:=by
  have f0:∀m:Nat,List.foldl (λx1 x2=>x1++x2) #[] (List.replicate m Sa.toArray)=(List.replicate m Sa).flatten.toArray:=λm=>by
   have:=foldl_rep Sa m [];rw[Yu]at this;exact this
  rw[f0];cases Sa with
  |nil=>simp
  |cons a r'=>rw[gb (by simp)]
 refine wpAny_binaryOp_repeat_ref (T:="list") (U:="int") (by decide) ⟨_,e,rfl⟩ (λs'=>typeIs_int s' k t) noFill_list_mul F.fills_int_mul F.slot_int_rmul repeat_list F.slot_int_index.lookup
  (Lr F.slot_int_rmul (typeIs_int s k t) F.entry_int_rmul (F.args_int_rmul_2 _ _) (int___rmul___int_list k t l Sa.toArray n)
   ⟨e,rfl,⟨_,e,rfl⟩,Lr F.slot_list_mul ⟨_,e,rfl⟩ F.entry_list_mul (F.args_list_mul_2 _ _) (AutoListH.list___mul___list_int_3 l Sa.toArray n k t JN CN Nm) ⟨e,?_⟩⟩)
 rw[PN];exact⟨.ref _,_,I.Ks (t':=s.toks) (r.rep k.toNat) (by rw[len_rep,Nat.mul_comm];exact hz),rfl,q _ I.fresh⟩
end
end L2
namespace Att
open PySem PySem.W PySem.Calls PyProof.Rows
def r9:∀(ns:List Int)(vs:List Value),WellAll P h vs (ns.map WData.int)->IntsAre vs ns:=by
 intro ns
 induction ns with
 |nil=>
  intro vs w;rw[jy]at w;cases w;exact .nil
 |cons n ns ih=>
  intro vs w;rw[Vd]at w;cases w with
  |cons a b=>
   cases a;exact .cons _ _<|ih _ b
def ê{l:OpenLaw}(hn:l.most=some n){P:Params}{h:Heap}{args:List WData}{vals:List Value}
  (vp:l.row.toRowW.claim.pre args=true) (CO:WellAll P h vals args) :
  ∃a vs ns,vals=[Value.ref a]/\args=[WData.list<|ns.map WData.int]/\h.get? a=some {cls:=.type "list",data:=.seq vs.toArray}/\IntsAre vs ns/\ns.length<=n:=by
 have hsh:WShape.hasAll [] args [.list .int]=true:=(pre_splitW vp).1;have hc:l.pre.holds [] {args:=args}=true:=(pre_splitW vp).2;obtain⟨d,r,rfl,h1,h2⟩:=hasAllW_cons hsh;obtain rfl:=hasAllW_nil h2;obtain⟨xs,rfl,h3⟩:=hasW_list h1;obtain⟨ns,rfl⟩:=items_int h3;have Pc:ns.length<=n:=by
  unfold OpenLaw.pre at hc;have h4:(WTm.not<|.lt (.lit<|.int (n:Int))<|.len<|.arg 0).holds [] {args:=[.list<|ns.map .int]}=true:=by
   have h4:=(holds_andW hc).1;rw[hn]at h4;exact h4
  have h5:=condW_of h4<|w_not<|w_lt w_lit<|w_len_list<|w_arg rfl;rw[Yd]at h5;refine Nat.le_of_not_lt λq=>?_
  have q':(n:Int)<((ns.length:Nat):Int):=by omega
  first
   |(rw[Uc q']at h5;exact absurd h5<|by decide)
   |(simp at h5;omega)
 cases CO with
 |cons w1 w2=>
  cases w2;cases w1 with
  |list ho Dg=>exact⟨_,_,ns,rfl,rfl,ho,r9 ns _ Dg,Pc⟩
def ë(l:OpenLaw)(args:List WData):l.row.toRowW.claim.post args (.bool true) args=true:=
 postW_of (r:=l.row.toRowW) (X:=(true==true))
  (show WShape.has [] (.bool true) .bool=true by first|rfl|decide|simp[WShape.has,WShape.arms,WShape.armsAll])
  (show (WTm.eq .res<|.lit<|.bool true).value [] {args:=args,res:=some<|.bool true,after:=args}=some (.bool<|true==true) from w_eq_bool (w_res rfl) w_lit) rfl
def Ni{l:OpenLaw}{XP:(Str->Option Value)->Heap->Prop}{YP:World->Heap->Prop}{d:DefRec}
  (hn:l.most=some n) (Ry:d.params.defaults=[])
  (call:∀(w:World)(Ba Lb:Shared)(mg mb:Str->Option Value)(fa:Addr)(o:Obj)(pm cd doc:Value)(a:Addr)(vs:List Value)(ns:List Int),
   Ground q loose [] XP w Ba mg mb Lb.heap->YP w Lb.heap->
   Lb.heap.get? fa=some o->o.data=.func (docDef d.name d.params d.body d.scope pm cd doc)->Lb.heap.CodeRec cd d.name->mg d.name=some (.ref fa)->
   Lb.heap.get? a=some {cls:=.type "list",data:=.seq vs.toArray}->IntsAre vs ns->ns.length<=n->Lb.gens = #[]->
   codeAny (model l.prog w) callerA (.call (.ref fa) ⟨[.ref a],[]⟩) (λr s'=>r=.ok (.ret<|.bool true)/\OldK Lb.heap s'.heap/\s'.os=Lb.os/\AllBare s'.gens) Lb) :
  WalkO q loose XP YP l.row.toRowW d [] (λf vs=>PySem.call f vs):=by
 intro w Ba Lb mg mb G Y fa o pm cd doc dV kV ho hd af hD hmg hg args vals as vp hlay hrd CO hlo;obtain rfl:dV=.none:=Dflts.none hD Ry;obtain rfl:kV=.none:=Dflts.noKw hD;obtain⟨a,vs,ns,rfl,rfl,Cs,hints,Pc⟩:=ê hn vp CO;refine enter_call<|Oo (call w Ba Lb mg mb fa o pm cd doc a vs ns G Y ho (fd_plain hd) af hmg Cs hints Pc hg) λr s' hq=>?_
 obtain⟨rfl,h2,h3,h4⟩:=hq;exact⟨.inl ⟨.bool true,.bool true,[],rfl,λ_=>rfl,.bool true,ë l _,λ_=>⟨List.Pairwise.nil,λ_ hm=>(nomatch hm)⟩⟩,h2,h3,h4⟩
end Att
namespace L2
open PySem PySem.Spec PyProof.Rows
theorem Qd:∀{vs:List Value}{ns:List Int},IntsAre vs ns->Ca (ns.map V.int) vs
 |_,_,.nil=>.nil
 |_,_,.cons n t h=>.cons ⟨t,rfl⟩<|Qd h
def ar(H:Hp):Prop:=∀b,H b=none\/∃o xs,H b=some (.ij o<|.lst xs)
def ķ{K:PySem.W.Frag}{mg mb:Str->Option Value}{k:Nat}{x:Str}{Lb:Shared}{vs:List Value}
  (KX:K.In Lb.heap) (Mv:Lb.heap.Ns mainGlobals mg) (hb:Lb.heap.Ns builtinsNs mb) (hbb:∀x:Str,x≠"__name__"->mb x=bootBuiltins x) (MN:Lb.heap.NoLimit) (hg:Lb.gens = #[])
  (ha:Lb.heap.get? a=some {cls:=.type "list",data:=.seq vs.toArray}) (hi:IntsAre vs ns) (hl:ns.length<=sizeLine) (hr:dc k callerA)
  (F:∀base:Heap,K.In base->base.Ns mainGlobals mg->Aa P w K mg base CX k fa fd [x] sp) (Oy:∀(s:Shared)(u:Value),BindsTo s fd ⟨[u],[]⟩ [(x,u)])
  (hsp:∀H:Hp,ar H->Ae K H a (ns.map V.int)->sp [.ref a] H (λv _=>v=.bl true) λ_ _ _=>False)
  (sN:∀H e s',CX [] H Lb (λ_ _ _=>False) e s'->False) :
  codeAny (model P w) callerA (.call (.ref fa) ⟨[.ref a],[]⟩) (λr s'=>r=.ok (.ret<|.bool true)/\OldK Lb.heap s'.heap/\s'.os=Lb.os/\AllBare s'.gens) Lb:=by
 have rv:=Qd hi;have MO:=hi.length;have core:∀H:Hp,ar H->Ae K H a (ns.map V.int)->Ze P w H Lb.heap->(∀b,H b≠none->b=a)->(H a≠none->K.lookup a=none)->
   codeAny (model P w) callerA (.call (.ref fa) ⟨[.ref a],[]⟩) (λr s'=>r=.ok (.ret<|.bool true)/\OldK Lb.heap s'.heap/\s'.os=Lb.os/\AllBare s'.gens) Lb:=by
  intro H hO hS ib hA hK;have Vj:∀{b:Addr}{o:Obj},Lb.heap.get? b=some o->H b=none->(vo Lb.heap H).get? b=some o:=λe n=>Į e n
  have noA:∀{b:Addr}{o:Obj}{es:Array DictEntry}{ep:Nat},Lb.heap.get? b=some o->o.data=.dict es ep->H b=none:=λ{b o es ep} e d=>by
   cases q:H b with
   |none=>rfl
   |some u=>
    have e':b=a:=hA b (by rw[q];simp)
    subst e';rw[ha]at e;cases e;have d':Data.seq vs.toArray _=Data.dict es ep:=d;cases d'
  have nsK:∀{b:Addr}{m:Str->Option Value},Lb.heap.Ns b m->(vo Lb.heap H).Ns b m:=λ{b m} ⟨o,es,ep,e,d,r⟩=>⟨o,es,ep,Vj e<|noA e d,d,r⟩
  have X4:K.In (vo Lb.heap H):=λb o e=>Vj (KX b o e) (by
   cases q:H b with
   |none=>rfl
   |some u=>
    have e':b=a:=hA b (by rw[q];simp)
    subst e';rw[hK (by rw[q];simp)]at e;cases e)
  have hM:Mod K mg (vo Lb.heap H):=⟨X4,nsK Mv,⟨mb,nsK hb,hbb⟩,let ⟨mc,h1,h2⟩:=MN;⟨mc,nsK h1,h2⟩⟩;have e0:pj P w K mg (vo Lb.heap H) callerA [] Lb H:=⟨rfl,hM,λb o e=>bG3 e,iy<|Û _ _,trivial,λb hb=>absurd (show b∈([]:List Addr) from hb) (by simp),ib,.of_eq hg⟩
  refine Oo ((F _ X4<|nsK Mv).run callerA [] Lb H ⟨[.ref a],[]⟩ [.ref a] [.ref a] _ _ hr e0 (Oy Lb<|.ref a) (.cons rfl .nil)<|hsp H hO hS) λr s' h=>?_
  cases r with
  |error e=>exact(sN H e s' h).elim
  |ok fl=>
   cases fl with
   |next=>exact False.elim h
   |brk=>exact False.elim h
   |cont=>exact False.elim h
   |ret u=>
    obtain⟨v,H',os,bare,un,SN,r',q⟩:=h;have q':v=.bl true:=q;subst q';obtain rfl:u=Value.bool true:=r';refine⟨rfl,OldK.of_keep λb o e=>?_,os,bare⟩
    cases q:H b with
    |none=>exact un.keep b o e q (by intro z;exact absurd (show b∈([]:List Addr) from z)<|by simp) (by simp)
    |some u=>
     rcases hO b with z|⟨ob,xs,z⟩
     .rw[q]at z;cases z
     .have z2:=un.Qg b ob _ z;obtain⟨e1,_⟩:=ib b _ z;obtain⟨e2,_⟩:=SN b _ z2;rw[e]at e1;cases e1;exact e2
 cases hk:K.lookup a with
 |some o=>
  have e:=KX a o hk;rw[ha]at e;cases e;refine core (λ_=>none) (λ_=>.inl rfl) (.inr ⟨_,vs.toArray,_,hk,rfl,rfl,rfl,by rw[dh,MO];exact hl,by simpa using rv⟩) (λb u z=>by have z':(none:Option HO)=some u:=z;cases z') (λb z=>absurd rfl z) λz=>absurd rfl z
 |none=>
  refine core (λb=>if b=a then some (.ij {cls:=.type "list",data:=.seq vs.toArray} (.lst<|ns.map V.int)) else none) (λb=>?_) (.inl<|.inr ⟨{cls:=.type "list",data:=.seq vs.toArray},kb rfl⟩) (λb u z=>?_) (λb z=>?_) λ_=>hk
  .by_cases hb:b=a
   .exact .inr ⟨_,_,kb hb⟩
   .exact .inl (gb hb)
  .by_cases hb:b=a
   .have z':=(kb hb).symm.trans z;cases z';subst hb;exact⟨ha,by rw[Yd];exact hl,vs,_,rv,ha⟩
   .have z':=(gb hb).symm.trans z;cases z'
  .by_cases hb:b=a
   .exact hb
   .exact absurd (gb hb) z
end L2
namespace L2
open PySem PySem.Spec PyProof.Rows
def Np{l:PySem.W.OpenLaw}{k:Nat}{XP:(Str->Option Value)->Heap->Prop}{YP:World->Heap->Prop}{d:DefRec}{K:Params->PySem.W.Frag}{CX:World->Rp}{sp:World->Sp}{x:Str}
  (hn:l.most=some n) (VE:n<=sizeLine) (Ry:d.params.defaults=[]) (hr:dc k callerA)
  (hY:∀(w:World)(h:Heap),YP w h->(K w.params).In h)
  (F:∀(w:World)(mg:Str->Option Value)(fa:Addr)(h:Heap),(K w.params).In h->h.Ns mainGlobals mg->mg d.name=some (.ref fa)->
   ∃fd:FuncData,(∀(s:Shared)(u:Value),BindsTo s fd ⟨[u],[]⟩ [(x,u)])/\
    ∀base:Heap,(K w.params).In base->base.Ns mainGlobals mg->Aa l.prog w (K w.params) mg base (CX w) k fa fd [x] (sp w))
  (hsp:∀(w:World)(H:Hp)(a:Addr)(ns:List Int),ns.length<=n->ar H->Ae (K w.params) H a (ns.map V.int)->sp w [.ref a] H (λv _=>v=.bl true) λ_ _ _=>False)
  (sN:∀(w:World)(H:Hp)(s:Shared)(e:Value)(s':Shared),CX w [] H s (λ_ _ _=>False) e s'->False) :
  PySem.W.WalkO q loose XP YP l.row.toRowW d [] (λf vs=>PySem.call f vs):=by
 refine Att.Ni hn Ry λw Ba Lb mg mb fa o pm cd doc a vs ns G Y ho hd af hmg Cs hints Pc hg=>?_
 have KX:=hY w _ Y;obtain⟨fd,hb,hF⟩:=F w mg fa _ KX G.T.g hmg;exact ķ KX G.T.g G.T.b G.T.builtins G.T.nolimit hg Cs hints (bf Pc VE) hr hF hb (λH hO hS=>hsp w H a ns Pc hO hS) λH e s'=>sN w H Lb e s'
end L2
namespace L2
open PySem PySem.Spec PyProof.Rows
def jQ(s:Stmt):Arguments:=match s with
 |.FunctionDef _ a _ _ _ _ _ _ _ _=>a
 |_=>{posonlyargs:=[],args:=[],vararg:=none,kwonlyargs:=[],kw_defaults:=[],kwarg:=none,defaults:=[]}
def eX(s:Stmt):List Stmt:=match s with
 |.FunctionDef _ _ b _ _ _ _ _ _ _=>b
 |_=>[]
def bM(s:Stmt):Scope:=match s with
 |.FunctionDef _ _ _ _ _ _ sc _ _ _=>sc
 |_=>{kind:=.function,names:=[],isGenerator:=false,isCoroutine:=false}
abbrev Ib:Rp:=λ_ _ _ _ _ _=>False
abbrev E0:XK:=λ_ _ _=>False
def ix{X:Cx}:Ot Ib X E0:=λ_ _ _ _ _ _ _ h=>h.elim
structure Zq(K:PySem.W.Frag)(x qual:Str)(st:Stmt)(f:Addr)(fd:FuncData):Prop where
 ex:∃(oc:Value)(od:Option Addr)(kV doc pm:Value)(an:Option Addr)(Cc ct:Value) (Ai:Array (Option Value)),
  fd=PySem.W.fnOf x qual (jQ st) (eX st) (bM st) .none kV doc pm an Cc ct/\K.lookup f=some ⟨oc,od,.func fd,Ai⟩/\PySem.W.codeIn K Cc qual=true
 kp:PySem.W.keepIn K (.ref f)=true
section
variable{P:Program}{w:World}{K:PySem.W.Frag}{mg:Str->Option Value}{base:Heap}
def Zq.ok{st:Stmt}{k:Nat}{sp:Sp}(F:Zq K x qual st f fd)(S:jd N ps (bM st))(len:∀vs H Q E,sp vs H Q E->vs.length=ps.length)
  (Ri:∀(Cc:Value)(A:Around)(outer:List Env)(s:Shared)(H:Hp)(vs:List V)(Q:VK)(E:XK),dc k (A.deeper<|envOfC qual (bM st) s.heap.objs.size f Cc)->sp vs H Q E->
   ∃t,we (sj Ib P w K mg base N qual (bM st) f Cc A outer s H E).Vg (eX st) t/\t {nx:=λ_ H'=>Q .lc H',rt:=Q} (start N vs) H):Aa P w K mg base Ib (k+1) f fd ps sp:=by
 obtain⟨oc,od,kV,doc,pm,an,Cc,ct,Ai,rfl,lk,af⟩:=F.ex;refine UK lk af S len λA outer s H vs Q E hr hsp=>?_
 obtain⟨t,h,q⟩:=Ri Cc A outer s H vs Q E hr hsp;exact⟨t,h.Vg,q⟩
def Zq.binds{st:Stmt}{ps:List Str}(F:Zq K x qual st f fd)
  (h:∀(kV doc pm:Value)(an:Option Addr)(Cc ct:Value)(us:List Value),us.length=ps.length->bindArgs (PySem.W.fnOf x qual (jQ st) (eX st) (bM st) .none kV doc pm an Cc ct) ⟨us,[]⟩=pure (ps.zip us)):Binds K fd ps []:=by
 obtain⟨oc,od,kV,doc,pm,an,Cc,ct,Ai,rfl,lk,af⟩:=F.ex;exact .all<|h kV doc pm an Cc ct
def bLe{st:Stmt}{oc:Value}{od:Option Addr}{Ai:Array (Option Value)}{kV:Value}(l:K.lookup f=some ⟨oc,od,.func<|PySem.W.fnOf x qual (jQ st) (eX st) (bM st) .none kV doc pm an Cc ct,Ai⟩)
  (c:PySem.W.codeIn K Cc qual=true) (k:PySem.W.keepIn K (.ref f)=true):Zq K x qual st f (PySem.W.fnOf x qual (jQ st) (eX st) (bM st) .none kV doc pm an Cc ct):=⟨⟨oc,od,kV,doc,pm,an,Cc,ct,Ai,rfl,l,c⟩,k⟩
end
section
variable{X:Cx}
def pv(i:Nat){x:Str}{pos:Pos}(hN:X.N[i]?=some x:=by rfl)(hv:Ei X.env.scope x:=by exact ll rfl)(hd:xf x:=by decide)
  (af:kl x:=by decide):PE X (.Name x pos) (K1 i):=tE hN hv hd af
end
def bG(H H':Hp):Prop:=∀b o,H b=some o->H' b=some o
def bG.refl(H:Hp):bG H H:=λ_ _ h=>h
def bG.trans{H H1 H2:Hp}(a:bG H H1)(b:bG H1 H2):bG H H2:=λc o h=>b c o<|a c o h
def bG.free(e:bG H H'){l:Addr}(h:H' l=Option.none):H l=Option.none:=by
 cases q:H l with
 |none=>rfl
 |some o=>
  rw[e l o q]at h;cases h
def bG.seq{K:PySem.W.Frag}(e:bG H H')(h:Ae K H a xs):Ae K H' a xs:=by
 rcases h with (h|⟨o,h⟩)|h
 .exact .inl (.inl<|e _ _ h)
 .exact .inl (.inr ⟨o,e _ _ h⟩)
 .exact .inr h
end L2
namespace L2
open PySem PySem.Spec PyProof.Rows
section
variable{κ:Type}[DecidableEq κ]
def xH(oa:List (κ×V))(k:κ):Option V:=(oa.find? λkv=>decide (kv.1=k)).map (·.2)
def Ed(oa:List (κ×V))(k:κ)(v:V):List (κ×V):=
 if (oa.any λkv=>decide (kv.1=k))=true then oa.map (λkv=>if kv.1=k then (kv.1,v) else kv) else oa++[(k,v)]
def D0(oa:List (κ×V))(k:κ):List (κ×V):=oa.filter λkv=>decide (kv.1≠k)
def aw{p:κ×V}{r:List (κ×V)}{k:κ}(e:p.1=k):xH (p::r) k=some p.2:=by simp[xH,List.find?_cons,e]
def bw{p:κ×V}{r:List (κ×V)}{k:κ}(e:¬ p.1=k):xH (p::r) k=xH r k:=by simp[xH,List.find?_cons,e]
theorem gI(k:κ):∀oa:List (κ×V),(oa.any λkv=>decide (kv.1=k))=(xH oa k).isSome
 |[]=>rfl
 |p::r=>by
  rw[Bq]
  by_cases e:p.1=k
  .simp only[aw e,decide_eq_true e,Bool.true_or,Option.isSome_some]
  .rw[bw e,fe e,Bool.false_or];exact gI k r
def sJ(oa:List (κ×V))(k:κ)(v:V):(Ed oa k v).length<=oa.length+1:=by
 unfold Ed;split
 .rw[Yd];omega
 .rw[Wf,Te,Kr];omega
def zH.Ye(r:zH o u):o.isSome=u.isSome:=by
 cases o with
 |none=>cases u with
  |none=>rfl
  |some _=>exact(show False from r).elim
 |some _=>cases u with
  |none=>exact(show False from r).elim
  |some _=>rfl
theorem zH.getD(r:zH o u)(rd:RelV d d'):RelV (o.getD d) (u.getD d'):=by
 cases o with
 |none=>cases u with
  |none=>exact rd
  |some _=>exact(show False from r).elim
 |some _=>cases u with
  |none=>exact(show False from r).elim
  |some _=>exact r
def KV.val(r:KV oa vs)(k:κ):zH (xH oa k) (valueAt vs k):=by
 unfold KV at r
 induction r with
 |nil=>exact True.intro
 |@cons p q ps qs h t ih=>
  obtain⟨h1,h2⟩:=h
  by_cases e:p.1=k
  .have e':q.1=k:=h1.symm.trans e;have b:valueAt (q::qs) k=some q.2:=by simp[valueAt,List.find?_cons,e']
   rw[aw e,b];exact h2
  .have e':¬ q.1=k:=λz=>e (h1.trans z)
   have b:valueAt (q::qs) k=valueAt qs k:=by simp[valueAt,List.find?_cons,e']
   rw[bw e,b];exact ih
theorem KV.any(r:KV oa vs)(k:κ):(oa.any λkv=>decide (kv.1=k))=vs.any λkv=>decide (kv.1=k):=by
 unfold KV at r
 induction r with
 |nil=>rfl
 |cons h t ih=>rw[Bq,Bq,ih,h.1]
def KV.Us(r:KV oa vs)(k:κ){y:V}{u:Value}(ry:RelV y u) :
  KV (oa.map λkv=>if kv.1=k then (kv.1,y) else kv) (vs.map λkv=>if kv.1=k then (kv.1,u) else kv):=by
 unfold KV at r ⊢
 induction r with
 |nil=>exact .nil
 |@cons p q ps qs h t ih=>
  rw[Vd,Vd];refine .cons ?_ ih;obtain⟨h1,h2⟩:=h
  by_cases e:p.1=k
  .rw[kb e,kb<|h1.symm.trans e];exact⟨h1,ry⟩
  .rw[gb e,gb<|λz=>e<|h1.trans z];exact⟨h1,h2⟩
def KV.put(r:KV oa vs)(k:κ){y:V}{u:Value}(ry:RelV y u):KV (Ed oa k y) (stored vs k u):=by
 unfold Ed stored;rw[r.any k]
 by_cases e:(vs.any λkv=>decide (kv.1=k))=true
 .rw[kb e,kb e];exact r.Us k ry
 .rw[gb e,gb e];exact Paired.snoc r ⟨rfl,ry⟩
def KV.drop(r:KV oa vs)(k:κ):KV (D0 oa k) (without vs k):=by
 unfold KV at r ⊢;unfold D0 without
 induction r with
 |nil=>exact .nil
 |@cons p q ps qs h t ih=>
  obtain⟨h1,h2⟩:=h;rw[List.filter_cons,List.filter_cons]
  by_cases e:p.1=k
  .have a:¬ decide (p.1≠k)=true:=by simp[e]
   have b:¬ decide (q.1≠k)=true:=by simp[h1.symm.trans e]
   rw[gb a,gb b];exact ih
  .have e':¬ q.1=k:=λz=>e (h1.trans z)
   have a:decide (p.1≠k)=true:=by simp[e]
   have b:decide (q.1≠k)=true:=by simp[e']
   rw[kb a,kb b];exact .cons ⟨h1,h2⟩ ih
theorem KV.length(r:KV oa vs):oa.length=vs.length:=Paired.length r
end
def bo{k:Dc}(r:RelV (kV k) u):(dN P w).is k u=true:=by
 cases k with
 |inl i=>obtain⟨t,e⟩:=(show ∃t,u=Value.int i t from r);subst e;exact Ζ P w i t
 |inr x=>obtain⟨t,e⟩:=(show ∃t,u=Value.str x t from r);subst e;exact Η P w x t
theorem KS:∀{ks:List Dc}{us:List Value},Ca (ks.map kV) us->ItemsAre (dN P w) ks us
 |[],_,r=>by rw[jy]at r;cases r;exact .nil
 |k::ks,_,r=>by
  rw[Vd]at r;cases r with
  |cons h t=>exact .cons (bo h)<|KS t
abbrev KT(H:Hp):List (List Dc×V)->List (List Dc×Addr×Value)->Prop:=Paired λp q=>p.1=q.1/\H q.2.1=some (.tup<|p.1.map kV)/\RelV p.2 q.2.2
def KT.val(r:KT H oa xs)(k:List Dc):zH (xH oa k) ((atKey xs k).map (·.2)):=by
 induction r with
 |nil=>exact True.intro
 |@cons p q ps qs h t ih=>
  obtain⟨h1,_,h2⟩:=h
  by_cases e:p.1=k
  .have e':q.1=k:=h1.symm.trans e;have b:atKey (q::qs) k=some q.2:=by simp[atKey,List.find?_cons,e']
   rw[aw e,b];exact h2
  .have e':¬ q.1=k:=λz=>e (h1.trans z)
   have b:atKey (q::qs) k=atKey qs k:=by simp[atKey,List.find?_cons,e']
   rw[bw e,b];exact ih
def KT.Us(r:KT H oa xs)(k:List Dc){y:V}{u:Value}(ry:RelV y u) :
  KT H (oa.map λkv=>if kv.1=k then (kv.1,y) else kv) (xs.map<|putAt k u):=by
 induction r with
 |nil=>exact .nil
 |@cons p q ps qs h t ih=>
  rw[Vd,Vd];refine .cons ?_ ih;obtain⟨h1,h2,h3⟩:=h;unfold putAt
  by_cases e:p.1=k
  .rw[kb e,kb<|h1.symm.trans e];exact⟨h1,h2,ry⟩
  .rw[gb e,gb<|λz=>e<|h1.trans z];exact⟨h1,h2,h3⟩
def KT.put(r:KT H oa xs)(k:List Dc){b:Addr}{y:V}{u:Value}(hb:H b=some (.tup<|k.map kV))(ry:RelV y u) :
  KT H (Ed oa k y) (storedH xs k b u):=by
 have e:(oa.any λkv=>decide (kv.1=k))=(atKey xs k).isSome:=by
  rw[gI,(r.val k).Ye,CM]
 unfold Ed storedH;rw[e]
 by_cases q:(atKey xs k).isSome=true
 .rw[kb q,kb q];exact r.Us k ry
 .rw[gb q,gb q];exact Paired.snoc r ⟨rfl,hb,ry⟩
def KT.keeps{H':Hp}(r:KT H oa xs)(ht:∀b ys,H b=some (.tup ys)->H' b=some (.tup ys)):KT H' oa xs:=
 Paired.Ms r λ_ _ z=>⟨z.1,ht _ _ z.2.1,z.2.2⟩
section
variable{P:Program}{w:World}{H:Hp}{h:Heap}{a:Addr}
def F0(ok:Ze P w H h)(e:Rd H a u):jN P w H h a u:=e.ok ok
def io(ok:Ze P w H h)(e:Rd H a (.dK oa)):oa.length<=sizeLine/\(a==sysModules)=false/\∃vs,KV oa vs/\h.DictOf (dN P w) a vs:=
 show jN P w H h a (.dK oa) from F0 ok e
def jo(ok:Ze P w H h)(e:H a=some (.dK oa)):oa.length<=sizeLine/\(a==sysModules)=false/\∃vs,KV oa vs/\h.DictOf (dN P w) a vs:=io ok<|.inl e
def nr{ks:List Dc}(ok:Ze P w H h)(e:H a=some (.tup<|ks.map kV)):(tupleKind<|dN P w).is h ks a:=by
 obtain⟨_,Sa,r,o,h1,h2,n,h3⟩:=(show jN P w H h a (.tup<|ks.map kV) from ok a _ e)
 exact⟨o,Sa.toArray,n,h1,h2,h3,by simpa using KS r⟩
def Zp(ok:Ze P w H h)(e:Rd H a (.dT oa)):oa.length<=sizeLine/\(a==sysModules)=false/\
  ∃xs,KT H oa xs/\h.DictOfH (tupleKind<|dN P w) a xs:=by
 obtain⟨z,y,xs,r,o,es,ep,h1,h2,h3,h4,h5⟩:=(show jN P w H h a (.dT oa) from F0 ok e)
 refine⟨z,y,xs,r,o,es,ep,h1,h2,h3,h4,λx hx=>?_,h5⟩
 have all:∀{l:List (List Dc×V)} {m:List (List Dc×Addr×Value)},KT H l m->∀x∈m,(tupleKind<|dN P w).is h x.1 x.2.1:=by
  intro l m q
  induction q with
  |nil=>intro x hx;exact nomatch hx
  |@cons p q ps qs hq t ih=>
   intro x hx;rcases Kc.mp hx with e|hx
   .subst e;exact nr ok (by rw[<-hq.1];exact hq.2.1)
   .exact ih x hx
 exact all r x hx
def bOo(ok:Ze P w H h)(e:H a=some (.dT oa)):oa.length<=sizeLine/\(a==sysModules)=false/\
  ∃xs,KT H oa xs/\h.DictOfH (tupleKind<|dN P w) a xs:=Zp ok<|.inl e
end
def ii(H:Hp)(a:Addr)(y:V)(r:Option V):Prop:=
 (∃oa k,Rd H a (.dK oa)/\y=kV k/\r=xH oa k)\/∃oa k b,Rd H a (.dT oa)/\y=.ref b/\H b=some (.tup<|k.map kV)/\r=xH oa k
def wo(H:Hp)(a:Addr)(y v:V)(H':Hp):Prop:=
 (∃oa k,H a=some (.dK oa)/\y=kV k/\oa.length<sizeLine/\H'=Ob H a (.dK<|Ed oa k v))\/
 ∃oa k b,H a=some (.dT oa)/\y=.ref b/\H b=some (.tup<|k.map kV)/\oa.length<sizeLine/\H'=Ob H a (.dT<|Ed oa k v)
theorem ii.k{H:Hp}{k:Dc}(e:H a=some (.dK oa)):ii H a (kV k) (xH oa k):=.inl ⟨oa,k,.inl e,rfl,rfl⟩
def ii.t{H:Hp}{k:List Dc}(e:H a=some (.dT oa))(eb:H b=some (.tup<|k.map kV)):ii H a (.ref b) (xH oa k):=.inr ⟨oa,k,b,.inl e,rfl,eb,rfl⟩
theorem wo.k{H:Hp}{k:Dc}(e:H a=some (.dK oa))(hl:oa.length<sizeLine):wo H a (kV k) v (Ob H a<|.dK<|Ed oa k v):=.inl ⟨oa,k,e,rfl,hl,rfl⟩
def wo.t{H:Hp}{k:List Dc}(e:H a=some (.dT oa))(eb:H b=some (.tup<|k.map kV))(hl:oa.length<sizeLine) :
  wo H a (.ref b) v (Ob H a<|.dT<|Ed oa k v):=.inr ⟨oa,k,b,e,rfl,eb,hl,rfl⟩
section
variable{X:Cx}{aa:List (Addr×Obj)}{σ:St}{H:Hp}{s:Shared}{a:Addr}{y v:V}{u r:Value}{o:Option V}{A:Around}{E:Value->Shared->Prop}
def ya.big(I:ya X aa σ H s):sysModules<s.heap.objs.size:=by
 have h:mainGlobals<s.heap.objs.size:=(I.mod.glob.keeps I.bk).lt;exact ky (by decide) h
def ì{Q:Value->Shared->Prop}(hu:A.units+1<cLine)(I:ya X aa σ H s)(g:ii H a y (some v))(ry:RelV y u)(h:∀w' s',ya X aa σ H s'->RelV v w'->Q w' s') :
  wpAny (model X.prog X.w) A (getItem (.ref a) u) Q E s:=by
 rcases g with ⟨oa,k,e,ey,l⟩|⟨oa,k,b,e,ey,eb,l⟩
 .subst ey;obtain⟨z,hd,vs,rel,dd⟩:=io I.ib e;obtain⟨w',hw,Bh⟩:=zH.some_of (v:=v) (o:=valueAt vs k) (by rw[l];exact rel.val k)
  exact wpAny_getItem_of (bo ry) dd.mapOf hw<|h w' _ (I.tok _) Bh
 .subst ey;cases (show u=Value.ref b from ry)
  obtain⟨z,hd,xs,rel,dd⟩:=Zp I.ib e;obtain⟨w',hw,Bh⟩:=zH.some_of (v:=v) (o:=(atKey xs k).map (·.2)) (by rw[l];exact rel.val k)
  obtain⟨p,hp,hp2⟩:=Option.map_eq_some_iff.mp hw;refine wpAny_getItem_heap (Lu hu) (nr I.ib eb) dd hp ?_
  rw[hp2];exact h w' _ (I.tok _) Bh
def bRf{Q:Value->Shared->Prop}(hu:A.units+1<cLine)(I:ya X aa σ H s)(g:ii H a y o)(ry:RelV y u)(h:∀s',ya X aa σ H s'->Q (.bool o.isSome) s') :
  wpAny (model X.prog X.w) A (compareOp .In u<|.ref a) Q E s:=by
 rcases g with ⟨oa,k,e,ey,l⟩|⟨oa,k,b,e,ey,eb,l⟩
 .subst ey;obtain⟨z,hd,vs,rel,dd⟩:=io I.ib e;refine wpAny_in_of (bo ry) hd dd.mapOf ?_
  rw[<-(rel.val k).Ye,<-l];exact h _<|I.tok _
 .subst ey;cases (show u=Value.ref b from ry)
  obtain⟨z,hd,xs,rel,dd⟩:=Zp I.ib e;refine wpAny_in_heap (Lu hu) (nr I.ib eb) hd dd ?_
  have q:=(rel.val k).Ye;rw[CM]at q;rw[<-q,<-l];exact h _<|I.tok _
def bGq{Q:Value->Shared->Prop}(hu:A.units+1<cLine)(I:ya X aa σ H s)(g:ii H a y o)(ry:RelV y u)(h:∀s',ya X aa σ H s'->Q (.bool<|!o.isSome) s') :
  wpAny (model X.prog X.w) A (compareOp .NotIn u<|.ref a) Q E s:=by
 rcases g with ⟨oa,k,e,ey,l⟩|⟨oa,k,b,e,ey,eb,l⟩
 .subst ey;obtain⟨z,hd,vs,rel,dd⟩:=io I.ib e;refine wpAny_notIn_of (bo ry) hd dd.mapOf ?_
  rw[<-(rel.val k).Ye,<-l];exact h _<|I.tok _
 .subst ey;cases (show u=Value.ref b from ry)
  obtain⟨z,hd,xs,rel,dd⟩:=Zp I.ib e;refine wpAny_notIn_heap (Lu hu) (nr I.ib eb) hd dd ?_
  have q:=(rel.val k).Ye;rw[CM]at q;rw[<-q,<-l];exact h _<|I.tok _
def qw{t':Nat}(I:ya X aa σ H s)(mu:Rh (H a))(hs:Heap.SameBut a s.heap h')(he:∃q,h'.get? a=some q)(new:jN X.prog X.w (Ob H a ob) h' a ob) :
  ya X aa σ (Ob H a ob) {s with heap:=h',toks:=t'}:=
 I.write (x:=a) (e:=a) mu (.inl rfl) (λb q hb z=>(hs.2 b hb).trans z) he new
def XB{h':Heap}{oa:List (Dc×V)}(z:oa.length<=sizeLine)(hd:(a==sysModules)=false)(rel:KV oa vs)(dd:h'.DictOf (dN P w) a vs) :
  jN P w H' h' a (.dK oa):=⟨z,hd,vs,rel,dd⟩
def í{Q:Unit->Shared->Prop}(hu:A.units+1<cLine)(I:ya X aa σ H s)(g:wo H a y v H')(ry:RelV y u)(rv:RelV v r)(h:∀s',ya X aa σ H' s'->Q () s') :
  wpAny (model X.prog X.w) A (setItem (.ref a) u r) Q E s:=by
 rcases g with ⟨oa,k,e,ey,l,eH⟩|⟨oa,k,b,e,ey,eb,l,eH⟩
 .subst ey eH;obtain⟨z,hd,vs,rel,dd⟩:=jo I.ib e;have hz:vs.length<=sizeLine:=by rw[<-rel.length];exact z
  have hl:(Ed oa k v).length<=sizeLine:=by have:=sJ oa k v;omega
  refine wpAny_setItem_pairs (hsz:=hz) (bo ry) dd λh' gj hs=>h _ ?_
  have he:∃q,h'.get? a=some q:=let ⟨q,_,_,hq,_⟩:=gj;⟨q,hq⟩;exact qw I (by rw[e];exact True.intro) hs he<|XB hl hd (rel.put k rv) gj
 .subst ey eH;cases (show u=Value.ref b from ry)
  obtain⟨z,hd,xs,rel,dd⟩:=bOo I.ib e;have hz:xs.length<=sizeLine:=by rw[<-Paired.length rel];exact z
  have hl:(Ed oa k v).length<=sizeLine:=by have:=sJ oa k v;omega
  refine wpAny_setItem_heap (hsz:=hz) (Lu hu) (nr I.ib eb) dd λh' gj hs=>h _ ?_
  obtain⟨q,es,ep,hq,h2,h3,h4,_,h5⟩:=gj;refine qw I (by rw[e];exact True.intro) hs ⟨q,hq⟩ ⟨hl,hd,_,(rel.put k eb rv).keeps λc ys ec=>?_,q,es,ep,hq,h2,h3,h4,h5⟩
  rw[bU<|bNy ec e<|λz=>nomatch z]
  exact ec
end
section
variable{X:Cx}{aa:List (Addr×Obj)}{σ:St}{H:Hp}{s:Shared}{a:Addr}{oa:List (Dc×V)}{k:Dc}{u:Value}{A:Around}{E:Value->Shared->Prop}
def bOp{Q:Value->Shared->Prop}(I:ya X aa σ H s)(e:Rd H a (.dK oa))(h:∀t s',ya X aa σ H s'->Q (.int oa.length t) s'):wpAny (model X.prog X.w) A (call (.builtin "len") [.ref a]) Q E s:=by
 obtain⟨z,hd,vs,rel,dd⟩:=io I.ib e;refine call_len_dict hd dd (by rw[<-rel.length];rw[zq]at z;omega) ?_
 rw[<-rel.length];exact h _ _<|I.tok _
end
def Ι{X:Cx}(I:ya X aa σ H s)(g:ii H a y o):s.TypeIs (.ref a) "dict":=by
 rcases g with ⟨oa,k,e,_,_⟩|⟨oa,k,b,e,_,_,_⟩
 .obtain⟨_,_,vs,_,dd⟩:=io I.ib e;exact dd.typeIs
 .obtain⟨_,_,xs,_,dd⟩:=Zp I.ib e;exact dd.typeIs
def wg(td ty tv:TE):TS:=λD σ H=>tv σ H λv H1=>td σ H1 λx H2=>ty σ H2 λy H3=>∃a H4,x=.ref a/\wo H3 a y v H4/\D.nx σ H4
def ZT(h:Heap)(hb:sysModules<h.objs.size):jN P w H (h.push {cls:=.type "dict",data:=.dict #[]}) h.objs.size (.dK []):=
 ⟨Ih _,Jo.mpr<|Nk<|Cf hb,[],.nil,Heap.DictOf.new h⟩
def bLf:TE:=λ_ H Q=>∀p,H p=none->Q (.ref p) (Ob H p<|.dK [])
section
variable{X:Cx}{pos:Pos}
def ĸ:PE X (.Dict [] [] pos) bLf:=λaa s σ H Q I h=>
 wpAny_Dict_empty ⟨.ref s.heap.objs.size,_,I.laid (a:=s.heap.objs.size) (o:=.dK []) (t':=s.toks) (λ_ _ q=>ud _ q) (Zc _)<|ZT s.heap I.big,rfl,h _<|I.ib.fresh<|Zc _⟩
end
def VJ:List (TE×TE)->St->Hp->(List (V×V)->Hp->Prop)->Prop
 |[],_,H,Q=>Q [] H
 |(tk,tv)::r,σ,H,Q=>tk σ H λx H1=>tv σ H1 λy H2=>VJ r σ H2 λps H3=>Q ((x,y)::ps) H3
abbrev VV:List (V×V)->List (Value×Value)->Prop:=Paired λp q=>RelV p.1 q.1/\RelV p.2 q.2
def Vz(X:Cx)(pos:Pos)(keys:List (Option Expr))(values:List Expr)(Zl:List (TE×TE)):Prop:=
 ∀(aa:List (Addr×Obj)) (s:Shared) (σ:St) (H:Hp) (Q:List (V×V)->Hp->Prop),ya X aa σ H s->VJ Zl σ H Q->
  wpAny (model X.prog X.w) X.A (evalPairs<|pairTrees keys values X.env pos) (λvs s'=>∃ps H',ya X aa σ H' s'/\VV ps vs/\Q ps H') X.xe s
def bGr{X:Cx}:Vz X pos [] [] []:=λaa s σ H Q I h=>pairTrees_nil_walk ⟨[],H,I,.nil,h⟩
def Ĺ{X:Cx}{k v:Expr}{Zl:List (TE×TE)}(hk:PE X k tk)(hv:PE X v tv)(hr:Vz X pos ks vs Zl) :
  Vz X pos (some k::ks) (v::vs) ((tk,tv)::Zl):=λaa s σ H Q I h=>
 pairTrees_cons_walk (qc (hk aa s σ H _ I h) λu s1 ⟨x,H1,I1,rx,q1⟩=>qc (hv aa s1 σ H1 _ I1 q1) λw2 s2 ⟨y,H2,I2,ry,q2⟩=>
  qc (hr aa s2 σ H2 _ I2 q2) λws s3 ⟨ps,H3,I3,rel,q3⟩=>⟨(x,y)::ps,H3,I3,.cons ⟨rx,ry⟩ rel,q3⟩)
def Pt(oa more:List (Dc×V)):List (Dc×V):=more.foldl (λxa kv=>Ed xa kv.1 kv.2) oa
def KV.merge:∀{more:List (Dc×V)} {rs:List (Dc×Value)} {oa:List (Dc×V)} {vs:List (Dc×Value)},KV more rs->KV oa vs->KV (Pt oa more) (merged vs rs):=by
 intro more rs oa vs r;unfold KV at r
 induction r generalizing oa vs with
 |nil=>intro q;exact q
 |@cons p q ps qs h t ih=>
  intro r0;have e:KV (Ed oa p.1 p.2) (stored vs q.1 q.2):=by
   have:=r0.put p.1 h.2;rw[<-h.1];exact this
  exact ih e
theorem RQ:∀(more oa:List (Dc×V)),(Pt oa more).length<=oa.length+more.length
 |[],oa=>by show oa.length<=oa.length+0;omega
 |p::r,oa=>by
  have h1:=RQ r<|Ed oa p.1 p.2;have h2:=sJ oa p.1 p.2;show (Pt (Ed oa p.1 p.2) r).length<=_;rw[Te];omega
theorem QR:∀{oa:List (Dc×V)} {ws:List (Value×Value)},VV (oa.map λkv=>(kV kv.1,kv.2)) ws->∃rs,Carries (dN P w) ws rs/\KV oa rs
 |[],_,r=>by rw[jy]at r;cases r;exact⟨[],True.intro,.nil⟩
 |p::oa,_,r=>by
  rw[Vd]at r;cases r with
  |@cons a b as bs h t=>
   obtain⟨rs,c,q⟩:=QR (P:=P) (w:=w) t;obtain⟨b1,b2⟩:=b;exact⟨(p.1,b2)::rs,⟨bo h.1,rfl,c⟩,.cons ⟨rfl,h.2⟩ q⟩
def bOq(Zl:List (TE×TE)):TE:=λσ H Q=>∀p,H p=none->VJ Zl σ (Ob H p<|.dK []) λps H2=>H2 p=some (.dK [])/\∃oa:List (Dc×V),ps=oa.map (λkv=>(kV kv.1,kv.2))/\oa.length<=15/\Q (.ref p) (Ob H2 p<|.dK<|Pt [] oa)
def bGs{X:Cx}{Zl:List (TE×TE)}(h:Vz X pos keys values Zl)(Dg:keys.all (·.isSome)=true)(hl:keys.length=values.length)(h0:keys≠[])
  (h15:keys.length<=15):PE X (.Dict keys values pos) (bOq Zl):=by
 intro aa s σ H Q I q;have hn:=I.ib.fresh<|Zc s.heap.objs.size;have I1:=I.laid (a:=s.heap.objs.size) (o:=.dK []) (h':=s.heap.push {cls:=.type "dict",data:=.dict #[]}) (t':=s.toks) (λ_ _ q=>ud _ q) (Zc _)<|ZT s.heap I.big
 refine wpAny_Dict_walk (knd:=dN X.prog X.w) Dg hl h0 h15<|qc (h aa _ σ _ _ I1<|q _ hn) λws s2 ⟨ps,H2,I2,rel,e,oa,ep,lk,q2⟩=>?_
 subst ep;obtain⟨rs,c,rk⟩:=QR (P:=X.prog) (w:=X.w) rel;obtain⟨z,hd,vs0,r0,dd⟩:=jo I2.ib e;cases r0;refine⟨rs,c,dd,λh' gj hs=>⟨.ref s.heap.objs.size,_,?_,rfl,q2⟩⟩
 have hz:(Pt [] oa).length<=sizeLine:=by
  have h1:=RQ oa [];rw[Kr]at h1;rw[zq];omega
 have he:∃q,h'.get? s.heap.objs.size=some q:=let ⟨q,_,_,hq,_⟩:=gj;⟨q,hq⟩;exact qw I2 (by rw[e];exact True.intro) hs he<|XB hz hd (rk.merge .nil) gj
structure M1(X:Cx)(o:Expr)(m:Str)(xb:Pos)(e:Expr)(Ta:Pos):Prop where
 base:Ah o m X.env
 jh:jl Ta [e] X.env
 line:Bi xb Ta
 Zm:backTo Ta (starEach [e] X.env)=[(false,eval e X.env)]
structure M2(X:Cx)(o:Expr)(m:Str)(xb:Pos)(e f:Expr)(Ta:Pos):Prop where
 base:Ah o m X.env
 jh:jl Ta [e,f] X.env
 line:Bi xb Ta
 Zm:backTo Ta (starEach [e,f] X.env)=[(false,eval e X.env),(false,eval f X.env)]
def Sz(H:Hp)(a:Addr):Prop:=(∃oa,Rd H a<|.dK oa)\/∃oa,Rd H a<|.dT oa
def VY{X:Cx}(I:ya X aa σ H s)(d:Sz H a) :
  s.TypeIs (.ref a) "dict"/\(∀b,Value.ref a=.ref b->∃ob,s.heap.get? b=some ob/\ob.dict=none)/\(a==sysModules)=false:=by
 rcases d with ⟨oa,e⟩|⟨oa,e⟩
 .obtain⟨_,hd,vs,_,dd⟩:=io I.ib e;refine⟨dd.typeIs,λb q=>?_,hd⟩
  cases q;obtain⟨ob,_,_,h1,h2,_⟩:=dd;exact⟨ob,h1,h2.2.1⟩
 .obtain⟨_,hd,xs,_,dd⟩:=Zp I.ib e;refine⟨dd.typeIs,λb q=>?_,hd⟩
  cases q;obtain⟨ob,_,_,h1,h2,_⟩:=dd;exact⟨ob,h1,h2.2.1⟩
section
variable{X:Cx}{aa:List (Addr×Obj)}{σ:St}{H:Hp}{s:Shared}{a:Addr}{y d:V}{u r:Value}{o:Option V}{A:Around}{E:Value->Shared->Prop}
def bLg{Q:Value->Shared->Prop}(hu:A.units+1<cLine)(I:ya X aa σ H s)(g:ii H a y o)(ry:RelV y u)(h:∀w' s',ya X aa σ H s'->RelV (o.getD .lc) w'->Q w' s') :
  wpAny (model X.prog X.w) A (call (.builtin "dict.get") [.ref a,u]) Q E s:=by
 rcases g with ⟨oa,k,e,ey,l⟩|⟨oa,k,b,e,ey,eb,l⟩
 .subst ey;obtain⟨z,hd,vs,rel,dd⟩:=io I.ib e;refine wq Iu dd.typeIs PD (K3 _ _) (meets_dict_get (dN X.prog X.w) a (bo ry) hd) ⟨_,dd.mapOf,h _ _ (I.tok _) ?_⟩;rw[l];exact(rel.val k).getD rfl
 .subst ey;cases (show u=Value.ref b from ry)
  obtain⟨z,hd,xs,rel,dd⟩:=Zp I.ib e;refine wq Iu dd.typeIs PD (K3 _ _) (meetsH_dict_get (tupleKind<|dN X.prog X.w) a b hd) ⟨Lu hu,k,xs,nr I.ib eb,dd,h _ _ (I.tok _) ?_⟩;rw[l];exact(rel.val k).getD rfl
def bLh{Q:Value->Shared->Prop}(hu:A.units+1<cLine)(I:ya X aa σ H s)(g:ii H a y o)(ry:RelV y u)(rd:RelV d r)(h:∀w' s',ya X aa σ H s'->RelV (o.getD d) w'->Q w' s') :
  wpAny (model X.prog X.w) A (call (.builtin "dict.get") [.ref a,u,r]) Q E s:=by
 rcases g with ⟨oa,k,e,ey,l⟩|⟨oa,k,b,e,ey,eb,l⟩
 .subst ey;obtain⟨z,hd,vs,rel,dd⟩:=io I.ib e;refine wq Iu dd.typeIs PD (L3 _ _ _) (meets_dict_get_default (dN X.prog X.w) a (bo ry) hd r) ⟨_,dd.mapOf,h _ _ (I.tok _) ?_⟩;rw[l];exact(rel.val k).getD rd
 .subst ey;cases (show u=Value.ref b from ry)
  obtain⟨z,hd,xs,rel,dd⟩:=Zp I.ib e;refine wq Iu dd.typeIs PD (L3 _ _ _) (meetsH_dict_get_default (tupleKind<|dN X.prog X.w) a b hd r) ⟨Lu hu,k,xs,nr I.ib eb,dd,h _ _ (I.tok _) ?_⟩;rw[l];exact(rel.val k).getD rd
end
def bLi(td ty:TE):TE:=λσ H Q=>td σ H λx H1=>∃a,x=.ref a/\Sz H1 a/\ty σ H1 λy H2=>∃o,ii H2 a y o/\Q (o.getD .lc) H2
def bLj(td ty tx:TE):TE:=λσ H Q=>td σ H λx H1=>∃a,x=.ref a/\Sz H1 a/\ty σ H1 λy H2=>tx σ H2 λz H3=>∃o,ii H3 a y o/\Q (o.getD z) H3
section
variable{X:Cx}{o e f:Expr}{xb Ta:Pos}{td ty tx:TE}
def ĺ(hu:X.A.units+1<cLine)(ho:PE X o td)(he:PE X e ty)(m:M1 X o "get" xb e Ta):PE X (.Call (.Attribute o "get" xb) [e] [] Ta) (bLi td ty):=by
 intro aa s σ H Q I h;refine wpAny_Call_method m.base m.jh m.line Fu Iu n4<|qc (ho aa s σ H _ I h) λu s1 ⟨x,H1,I1,rx,a,ex,d,q1⟩=>?_
 subst ex;obtain rfl:u=Value.ref a:=rx;obtain⟨t1,t2,_⟩:=VY I1 d;refine⟨t1,t2,?_⟩;rw[m.Zm];refine OD rfl<|VD<|YD<|qc (he aa s1 σ H1 _ I1 q1) λiv s2 ⟨y,H2,I2,ry,ov,g,q2⟩=>AM ?_
 exact bLg hu I2 g ry λw' s3 I3 Bh=>⟨_,H2,I3,Bh,q2⟩
def Ļ(hu:X.A.units+1<cLine)(ho:PE X o td)(he:PE X e ty)(hf:PE X f tx)(m:M2 X o "get" xb e f Ta):PE X (.Call (.Attribute o "get" xb) [e,f] [] Ta) (bLj td ty tx):=by
 intro aa s σ H Q I h;refine wpAny_Call_method m.base m.jh m.line Fu Iu n4<|qc (ho aa s σ H _ I h) λu s1 ⟨x,H1,I1,rx,a,ex,d,q1⟩=>?_
 subst ex;obtain rfl:u=Value.ref a:=rx;obtain⟨t1,t2,_⟩:=VY I1 d;refine⟨t1,t2,?_⟩;rw[m.Zm];refine OD rfl<|VD<|YD (qc (he aa s1 σ H1 _ I1 q1) λiv s2 ⟨y,H2,I2,ry,q2⟩=>
  YD (qc (hf aa s2 σ H2 _ I2 q2) λfv s3 ⟨z,H3,I3,rz,ov,g,q3⟩=>AM ?_))
 exact bLh hu I3 g ry rz λw' s4 I4 Bh=>⟨_,H3,I4,Bh,q3⟩
end
end L2
set_option maxHeartbeats 1000000
open PySem.W (Frag findIn mroIn clsIn specialIn takesIn nsIn notCls keepIn kitOne kia_one fnOf codeIn excIn mg_of isFn makesIn emptyDict instObj Looks OpenLaw mg_none_of WalkO InK)
open List (foldl_cons mem_cons_self mem_cons_of_mem map_cons getD_eq_getElem?_getD length_cons length_append length_singleton filter_cons_of_pos filter_cons_of_neg length_range getElem?_cons_succ append_nil zip_cons_cons length_map nil_append length_filter_le mem_cons length_nil exists_mem_of_ne_nil not_mem_nil nodup_nil filter_nil all_cons sum_cons any_cons length_set drop_zero forIn_nil forIn_cons lookup_cons)
open Nat (zero_le testBit_or zero_testBit eq_of_testBit_eq testBit_and mod_lt le_succ not_lt_zero)
open Array (ext' getElem?_toList getD_eq_getD_getElem? toList_push)
open Int (toNat_natCast)
open Option (getD_some map_some)
open Bool (or_eq_true and_eq_true not_eq_true')
variable{α:Type}{c c' newId:String}{n np i m r q j Z G x1 t' ep:Nat}{b s1:Bool}{l z L rk ks Gs:List Nat}{a C fa D' I Vc Ub Gb Vb Wb Ra Bb Rc:PySem.Addr}{tg e elt:PySem.Expr}{x qual name:PySem.Str}{E Q Qf:PySem.Value->PySem.Shared->Prop}{v:L2.V}{S:List (List Nat)}{al:Nat->Bool}{s s':PySem.Shared}{xa:List (Nat×List Nat)}{B A fp:List PySem.Addr}{o:L2.HO}{w:PySem.World}{ns:List Int}{Y X:L2.Cx}{base h h' h0:PySem.Heap}{H H' H1 H0:L2.Hp}{vs Xd:List L2.V}{Dn:L2.Ends}{es Qk:List PySem.Expr}{pos p0 pos' p2 p1 xb Ta px:PySem.Pos}{op:PySem.CmpOp}{gv:Int->Int->L2.V}{fd:PySem.FuncData}{ps N loose:List PySem.Str}{u dV oc:PySem.Value}{sm Pk:PySem.Stmt}{items:Array PySem.Value}{M:PySem.Model}{env:PySem.Env}{body xk:List PySem.Stmt}{P prog:PySem.Program}{mg:PySem.Str->Option PySem.Value}{scope:PySem.Scope}{aa:List (PySem.Addr×PySem.Obj)}{te:L2.TE}{tt:L2.TT}{pl:PySem.Sem Bool}{Ai:Array (Option PySem.Value)}{sp:L2.Sp}{outer fl:List PySem.Env}{tl uy Pl:List PySem.Value}{h₀:PySem.ExceptHandler}{Eg rf ze:PySem.Tok}{XP:(PySem.Str->Option PySem.Value)->PySem.Heap->Prop}
namespace Pu
inductive D where
 |lc|bl (b:Bool)|int (i:Int)|str (s:List Nat)|tup (xs:List D)|lst (xs:List D)
 |Ve (t:Bool) (ks vs:List D)
 |ins (c:String) (ns:List String) (xs:List D)
 |Sg (c:String) (ns:List String) (xs:List D)
 |fn (f:String)
inductive R (α:Type) where
 |ok (a:α)|exc (x:D)|bad
@[inline] def R.bind{α β:Type}(r:R α)(f:α->R β):R β:=match r with
 |.ok a=>f a
 |.exc x=>.exc x
 |.bad=>.bad
def R.ma{β:Type}{r:R α}{f:α->R β}{b:β}(h:r.bind f=.ok b):∃a,r=.ok a/\f a=.ok b:=by
 cases r with
 |ok a=>exact⟨a,rfl,h⟩
 |exc x=>exact nomatch h
 |bad=>exact nomatch h
noncomputable section
open Classical in
def aW{α:Type}(c:Prop)(r:R α):R α:=if c then r else .bad
def aF{c:Prop}{r:R α}(h:c):aW c r=r:=kb h
def aU{c:Prop}{r:R α}{a:α}(h:aW c r=.ok a):c/\r=.ok a:=by
 unfold aW at h;split at h
 .exact⟨by assumption,h⟩
 .exact nomatch h
inductive OK where
 |l|d (t:Bool) (ks:List D)|i (n:Nat) (c:String) (ns:List String)
def Ss:OK->List D->D
 |.l,xs=>.lst xs
 |.d t ks,xs=>.Ve t ks xs
 |.i _ c ns,xs=>.ins c ns xs
inductive Sl where
 |v (d:D)|o (k:OK) (xs:List D)
abbrev ua:=List<|Option Sl
abbrev Ex:=ua->R D
inductive Fl where
 |nx (st:ua)|rt (d:D)|bk (st:ua)|ct (st:ua)
abbrev Bd:=ua->R Fl
@[irreducible] def big:Nat:=10000000
def pM:big=10000000:=by unfold big;rfl
def gO(h:n<=10000000):n<=big:=by rw[pM];exact h
def Fw(h:n<10000000):n<big:=by rw[pM];exact h
def zK{n:Int}(h:n<=10000000):n<=(big:Int):=by rw[pM];exact h
def tw{n:Int}(h : -10000000<=n) : -(big:Int)<=n:=by rw[pM];exact h
def yf(n d:Nat):Option Int->Nat
 |none=>d
 |some v=>if v<0 then (v+(n:Int)).toNat else min v.toNat n
def vh(n:Nat)(i:Int):Option Nat:=if 0<=i then (if i<n then some i.toNat else none) else if -(n:Int)<=i then some (i+n).toNat else none
def de{α:Type}(xs:List α)(i:Int):Option α:=(vh xs.length i).bind λj=>xs[j]?
def cut{α:Type}(xs:List α)(lo hi:Option Int):List α:=(xs.drop<|yf xs.length 0 lo).take<|yf xs.length xs.length hi-yf xs.length 0 lo
def rep{α:Type}(n:Nat)(xs:List α):List α:=(List.replicate n xs).flatten
def Oh{α:Type}:Option α->R α
 |some a=>.ok a
 |none=>.bad
abbrev Yf:=D->D->R D
def qM:Yf
 |.int i,.int j=>.ok<|.int<|i+j
 |.str x,.str y=>aW (x.length+y.length<=big)<|.ok<|.str<|x++y
 |.lst x,.lst y=>aW (x.length+y.length<=big)<|.ok<|.lst<|x++y
 |_,_=>.bad
def An:Yf
 |.int i,.int j=>.ok<|.int<|i-j
 |_,_=>.bad
def qm:Yf
 |.int i,.int j=>aW (0<j/\j<1073741824)<|.ok<|.int<|i/j
 |_,_=>.bad
def pL:Yf
 |.int i,.int j=>aW (0<j)<|.ok<|.int<|i%j
 |_,_=>.bad
def xo:Yf
 |.int i,.int j=>aW (0<=j/\j<=1000000/\i.natAbs<18446744073709551616)<|.ok<|.int<|i^j.toNat
 |_,_=>.bad
def BD:D->R D
 |.int i=>.ok<|.int<|-i
 |_=>.bad
def Kx:D->Bool
 |.int _=>true
 |.str _=>true
 |_=>false
def Nc(t:Bool)(d:D):Bool:=match d with
 |.int _=>!t
 |.str _=>!t
 |.tup xs=>t&&xs.all Kx
 |_=>false
mutual
def Ag:D->D->Bool
 |.int i,.int j=>i==j
 |.str x,.str y=>x==y
 |.tup x,.tup y=>zr x y
 |_,_=>false
def zr:List D->List D->Bool
 |[],[]=>true
 |a::x,b::y=>Ag a b&&zr x y
 |_,_=>false
end
def ji(ks vs:List D)(k:D):Option D:=((ks.zip vs).find? λp=>Ag p.1 k).map (·.2)
def uF(ks:List D)(k:D):Bool:=ks.any λx=>Ag x k
def sO(ks:List D)(k:D):List D:=if uF ks k=true then ks else ks++[k]
def wC(ks vs:List D)(k v:D):List D:=if uF ks k=true then (ks.zip vs).map (λp=>if Ag p.1 k=true then v else p.2) else vs++[v]
def Mb:Yf
 |.Ve t ks vs,k=>aW (Nc t k=true)<|Oh<|ji ks vs k
 |.lst x,.int i=>Oh<|de x i
 |.tup x,.int i=>Oh<|de x i
 |.str x,.int i=>aW (x.length<=big)<|Oh<|(de x i).map λc=>.str [c]
 |_,_=>.bad
mutual
def Fd:D->D->Bool
 |.lc,.lc=>true
 |.bl a,.bl b=>a==b
 |.bl a,.int j=>(if a then (1:Int) else 0)==j
 |.int i,.bl b=>i==(if b then (1:Int) else 0)
 |.int i,.int j=>i==j
 |.str x,.str y=>x==y
 |.tup x,.tup y=>lV x y
 |.lst x,.lst y=>lV x y
 |_,_=>false
def lV:List D->List D->Bool
 |[],[]=>true
 |a::x,b::y=>Fd a b&&lV x y
 |_,_=>false
end
mutual
def Of:D->Nat
 |.tup x=>oU x+1
 |.lst x=>oU x+1
 |.lc=>0
 |.bl _=>0
 |.int _=>0
 |.str _=>0
 |.Ve _ _ _=>0
 |.ins _ _ _=>0
 |.Sg _ _ _=>0
 |.fn _=>0
def oU:List D->Nat
 |[]=>0
 |a::x=>max (Of a)<|oU x
end
mutual
def plain:D->Bool
 |.tup x=>gF x
 |.lst x=>gF x
 |.lc=>true
 |.bl _=>true
 |.int _=>true
 |.str _=>true
 |.Ve _ _ _=>false
 |.ins _ _ _=>false
 |.Sg _ _ _=>false
 |.fn _=>false
def gF:List D->Bool
 |[]=>true
 |a::x=>plain a&&gF x
end
def Qc:Yf:=λa b=>aW (Of a<=64/\plain a=true/\plain b=true)<|.ok<|.bl<|Fd a b
def zg:Yf:=λa b=>aW (Of a<=64/\plain a=true/\plain b=true)<|.ok<|.bl<|!Fd a b
def Qi:Yf
 |.int i,.int j=>.ok<|.bl<|decide (i<=j)
 |_,_=>.bad
def Fq:Yf
 |.int i,.int j=>.ok<|.bl<|decide (j<i)
 |_,_=>.bad
def zv:Yf
 |.int i,.int j=>.ok<|.bl<|decide (j<=i)
 |_,_=>.bad
def lW:D->R D
 |.Ve false ks _=>.ok<|.int ks.length
 |.lst x=>.ok<|.int x.length
 |.tup x=>.ok<|.int x.length
 |.str x=>aW (x.length<=big)<|.ok<|.int x.length
 |_=>.bad
def yo:D->Bool
 |.ins _ _ _=>false
 |.Sg _ _ _=>false
 |.fn _=>false
 |_=>true
def jk:D->Bool
 |.lc=>true
 |_=>false
def CD:D->Bool
 |.str _=>true
 |_=>false
def DD:D->Bool
 |.bl _=>true
 |_=>false
def isIn:D->Bool
 |.bl _=>true
 |.int _=>true
 |_=>false
def R1:D->Bool
 |.Ve _ _ _=>true
 |_=>false
def xu:D->Bool
 |.lst _=>true
 |_=>false
def qK(x y:List Nat)(lo:Nat):Option Nat:=(List.range' lo<|x.length+1-lo).find? λi=>decide (i+y.length<=x.length)&&((x.drop i).take y.length==y)
def Up:Option Nat->Int
 |some i=>i
 |none=>-1
def xJ(x y:List Nat):List Nat:=(((x.dropWhile λc=>y.contains c).reverse).dropWhile λc=>y.contains c).reverse
abbrev qt:=D->List D->R D
def jx:qt
 |.str x,[.str y]=>.ok<|.int<|Up<|qK x y 0
 |.str x,[.str y,.int i]=>aW (0<=i)<|.ok<|.int<|Up<|qK x y i.toNat
 |_,_=>.bad
def Gw:qt
 |.str x,[.str y]=>aW (x.length<=big)<|.ok<|.str<|xJ x y
 |_,_=>.bad
def kx:D->D->R D
 |.int i,.int j=>.ok<|.int<|if j>i then j else i
 |_,_=>.bad
def WK:D->D->R D
 |.int i,.int j=>.ok<|.int<|if j<i then j else i
 |_,_=>.bad
def inD(x:D)(ys:List D):Bool:=ys.any λy=>Fd y x
def Yo:D->D->R D
 |k,.Ve t ks _=>aW (Nc t k=true)<|.ok<|.bl<|uF ks k
 |x,.lst ys=>aW (oU ys<=60/\plain x=true/\gF ys=true)<|.ok<|.bl<|inD x ys
 |x,.tup ys=>aW (oU ys<=60/\plain x=true/\gF ys=true)<|.ok<|.bl<|inD x ys
 |.str x,.str y=>.ok<|.bl (qK y x 0).isSome
 |_,_=>.bad
def uW:D->D->R D
 |k,.Ve t ks _=>aW (Nc t k=true)<|.ok<|.bl<|!uF ks k
 |x,.lst ys=>aW (oU ys<=60/\plain x=true/\gF ys=true)<|.ok<|.bl<|!inD x ys
 |x,.tup ys=>aW (oU ys<=60/\plain x=true/\gF ys=true)<|.ok<|.bl<|!inD x ys
 |.str x,.str y=>.ok<|.bl<|!(qK y x 0).isSome
 |_,_=>.bad
def Vp:D->D->R D
 |x,.lc=>.ok<|.bl<|!jk x
 |.bl a,.bl b=>.ok<|.bl<|!(a==b)
 |_,_=>.bad
def aA(i:Nat):Ex:=λst=>match st[i]? with
 |some (some<|.v d)=>.ok d
 |_=>.bad
def lO(i:Nat):Ex:=λst=>match st[i]? with
 |some (some<|.v d)=>.ok d
 |some (some<|.o k xs)=>.ok<|Ss k xs
 |_=>.bad
def eC(d:D):Ex:=λ_=>.ok d
def e2(op:Yf)(f g:Ex):Ex:=λst=>(f st).bind λx=>(g st).bind λy=>op x y
def e1(op:D->R D)(f:Ex):Ex:=λst=>(f st).bind op
def eB(p:D->Bool)(f:Ex):Ex:=λst=>(f st).bind λx=>aW (yo x=true)<|.ok<|.bl<|p x
def Xi{α:Type}(d:D)(f:Bool->R α):R α:=match d with
 |.bl b=>f b
 |_=>.bad
def uX{f:Bool->R α}{a:α}(h:Xi d f=.ok a):∃b,d=.bl b/\f b=.ok a:=by
 cases d<;>first|exact⟨_,rfl,h⟩|exact nomatch h
def mY(f g:Ex):Ex:=λst=>(f st).bind λx=>Xi x λb=>if b=true then g st else .ok (.bl false)
def Ql(f g:Ex):Ex:=λst=>(f st).bind λx=>Xi x λb=>if b=true then .ok (.bl true) else g st
def lQ(f:Ex):Ex:=λst=>(f st).bind λx=>Xi x λb=>.ok<|.bl<|!b
def Gq(c f g:Ex):Ex:=λst=>(c st).bind λx=>Xi x λb=>if b=true then f st else g st
abbrev ue:=ua->R (List D)
def aP:ue:=λ_=>.ok []
def aC(f:Ex)(r:ue):ue:=λst=>(f st).bind λx=>(r st).bind λxs=>.ok<|x::xs
def yu(r:ue):Ex:=λst=>(r st).bind λxs=>aW (xs.length<=big)<|.ok<|.tup xs
def jP(r:ue):Ex:=λst=>(r st).bind λxs=>aW (xs.length<=big)<|.ok<|.lst xs
def aO(p:List D->R D)(r:ue):Ex:=λst=>(r st).bind p
def Ln(m:qt)(f:Ex)(r:ue):Ex:=λst=>(f st).bind λx=>(r st).bind λxs=>m x xs
def Ul(d:D){α:Type}(f:Int->R α):R α:=match d with
 |.int i=>f i
 |_=>.bad
def Qt{f:Int->R α}{a:α}(h:Ul d f=.ok a):∃i,d=.int i/\f i=.ok a:=by
 cases d<;>first|exact⟨_,rfl,h⟩|exact nomatch h
abbrev ot:=ua->R (Option Int)
def PC:ot:=λ_=>.ok none
def QC(f:Ex):ot:=λst=>(f st).bind λx=>Ul x λi=>.ok<|some i
def WM(x:D)(lo hi:Option Int):R D:=match x with
 |.lst xs=>.ok<|.lst<|cut xs lo hi
 |.str xs=>aW (xs.length<=big)<|.ok<|.str<|cut xs lo hi
 |_=>.bad
def NE(f:Ex)(lo hi:ot):Ex:=λst=>(f st).bind λx=>(lo st).bind λl=>(hi st).bind λh=>WM x l h
abbrev rn:=ua->R (List D)
def Yc(f:Ex):rn:=λst=>(f st).bind λx=>match x with
 |.lst xs=>.ok xs
 |.tup xs=>.ok xs
 |.str xs=>aW (xs.length<=big)<|.ok<|xs.map λc=>.str [c]
 |_=>.bad
def lN(lo:Int)(n:Nat):List D:=(List.range n).map λ(k:Nat)=>.int<|lo+(k:Int)
def tH(f:Ex):rn:=λst=>(f st).bind λx=>Ul x λj=>aW (-(big:Int)<=j/\j<=(big:Int))<|.ok<|lN 0 j.toNat
def FL(f g:Ex):rn:=λst=>(f st).bind λx=>(g st).bind λy=>Ul x λi=>Ul y λj=>aW (-(big:Int)<=i/\i<=(big:Int)/\-(big:Int)<=j/\j<=(big:Int))<|.ok<|lN i (j-i).toNat
abbrev Tg:=D->ua->R ua
def jb(i:Nat):Tg:=λd st=>.ok<|st.set i<|some<|.v d
def Hw:List Nat->List D->ua->R ua
 |[],[],st=>.ok st
 |i::is,d::ds,st=>Hw is ds<|st.set i<|some<|.v d
 |_,_,_=>.bad
def FF(is:List Nat):Tg:=λd st=>match d with
 |.tup xs=>Hw is xs st
 |.lst xs=>Hw is xs st
 |_=>.bad
def iR(tg:Tg)(c f:Ex)(st:ua):List D->R (List D)
 |[]=>.ok []
 |d::ds=>(tg d st).bind λs1=>(c s1).bind λx=>Xi x λb=>if b=true then (f s1).bind λy=>(iR tg c f st ds).bind λys=>.ok (y::ys) else iR tg c f st ds
def Kh(is:List Nat)(st:ua):ua:=is.foldl (λs i=>s.set i none) st
def cN(is:List Nat)(tg:Tg)(it:rn)(c f:Ex):Ex:=λst=>(it st).bind λxs=>aW (xs.length<=big)<|(iR tg c f (Kh is st) xs).bind λys=>.ok<|.lst ys
def dB:Ex:=λ_=>.ok<|.bl true
def vm(r:R Fl)(f:ua->R Fl):R Fl:=r.bind λx=>match x with
 |.nx st=>f st
 |.rt d=>.ok<|.rt d
 |.bk st=>.ok<|.bk st
 |.ct st=>.ok<|.ct st
def cO:Bd:=λst=>.ok<|.nx st
def aY(a b:Bd):Bd:=λst=>vm (a st) b
def cC(i:Nat)(f:Ex):Bd:=λst=>(f st).bind λd=>.ok<|.nx<|st.set i<|some<|.v d
def tW(i:Nat)(f:Ex):Bd:=λst=>(f st).bind λd=>match d with
 |.lst xs=>.ok<|.nx<|st.set i<|some<|.o .l xs
 |_=>.bad
def S1(tg:Tg)(f:Ex):Bd:=λst=>(f st).bind λd=>(tg d st).bind λs1=>.ok<|.nx s1
def tj(i:Nat)(f:Ex):Bd:=λst=>(f st).bind λd=>match st[i]? with
 |some (some<|.o .l xs)=>aW (xs.length<big)<|.ok<|.nx<|st.set i<|some<|.o .l<|xs++[d]
 |_=>.bad
def iq(i:Nat)(g f:Ex):Bd:=λst=>(f st).bind λd=>(g st).bind λx=>Ul x λj=>match st[i]? with
 |some (some<|.o .l xs)=>(Oh<|vh xs.length j).bind λk=>.ok<|.nx<|st.set i<|some<|.o .l<|xs.set k d
 |_=>.bad
def ED(i:Nat)(f:Ex):Bd:=λst=>(f st).bind λd=>match d with
 |.lst ys=>(match st[i]? with
  |some (some<|.o .l xs)=>aW (xs.length+ys.length<=big)<|.ok<|.nx<|st.set i<|some<|.o .l<|xs++ys
  |_=>.bad)
 |_=>.bad
def lx(i:Nat)(t:Bool):Bd:=λst=>.ok<|.nx<|st.set i<|some<|.o (.d t []) []
def wg(i:Nat)(g f:Ex):Bd:=λst=>(f st).bind λd=>(g st).bind λk=>match st[i]? with
 |some (some<|.o (.d t ks) vs)=>aW (Nc t k=true/\vs.length<big)<|.ok<|.nx<|st.set i<|some<|.o (.d t<|sO ks k)<|wC ks vs k d
 |_=>.bad
def au(i:Nat)(c f:String)(e:Ex):Bd:=λst=>(e st).bind λd=>match st[i]? with
 |some (some<|.o (.i n c' ns) xs)=>aW (c'=c/\f∉ns/\ns.length<900)<|.ok<|.nx<|st.set i<|some<|.o (.i n c'<|ns++[f])<|xs++[d]
 |_=>.bad
def dY(c f:String):D->R D
 |.ins c' ns xs=>aW (c'=c)<|Oh<|(ns.zip xs).lookup f
 |_=>.bad
def dJ(c m:String)(p:List D->R D)(dv:List D)(f:Ex)(r:ue):Ex:=λst=>(f st).bind λx=>(r st).bind λxs=>match x with
 |.ins c' ns _=>aW (c'=c/\m∉ns)<|p<|x::(xs++dv)
 |_=>.bad
def qO:Bd:=λ_=>.bad
def Iq(st:ua)(i:Nat):ua:=match st[i]? with
 |some (some<|.o k xs)=>st.set i<|some<|.v<|Ss k xs
 |_=>st
def uk(is:List Nat)(b:Bd):Bd:=λst=>b<|is.foldl Iq st
def cA(f:Ex):Bd:=λst=>(f st).bind λd=>.ok<|.rt d
def jq(f:Ex):Bd:=λst=>(f st).bind λ_=>.ok<|.nx st
def Pd(c:Ex)(a b:Bd):Bd:=λst=>(c st).bind λx=>Xi x λq=>if q=true then a st else b st
def Nb(tg:Tg)(body:Bd):List D->ua->R Fl
 |[],st=>.ok<|.nx st
 |d::ds,st=>(tg d st).bind λs1=>(body s1).bind λx=>match x with
  |.nx s2=>Nb tg body ds s2
  |.ct s2=>Nb tg body ds s2
  |.bk s2=>.ok<|.nx s2
  |.rt v=>.ok<|.rt v
def nO(tg:Tg)(it:rn)(body:Bd):Bd:=λst=>(it st).bind λxs=>Nb tg body xs st
def oV(c:Ex)(body:Bd):Nat->ua->R Fl
 |0,_=>.bad
 |n+1,st=>(c st).bind λx=>Xi x λq=>if q=true then (body st).bind λx=>(match x with
  |.nx s2=>oV c body n s2
  |.ct s2=>oV c body n s2
  |.bk s2=>.ok<|.nx s2
  |.rt v=>.ok<|.rt v) else .ok (.nx st)
def Iw(n:Nat)(c:Ex)(body:Bd):Bd:=λst=>oV c body n st
def bV(np n:Nat)(b:Bd)(ds:List D):R D:=
 aW (ds.length=np) ((b<|ds.map (λd=>some<|.v d)++List.replicate (n-np) none).bind λx=>match x with
  |.nx _=>.ok .lc
  |.rt d=>.ok d
  |_=>.bad)
def bu(c:String)(np n:Nat)(b:Bd)(x:Nat)(ds:List D):R D:=
 aW (ds.length=np) ((b<|some (.o (.i x c []) [])::(ds.map (λd=>some<|.v d)++List.replicate (n-np-1) none)).bind λ(fl:Fl)=>match fl with
  |.nx st=>(match (st[0]?:Option (Option Sl)) with
   |some (some<|.o (.i y c' ns) xs)=>aW (y=x)<|.ok<|.ins c' ns xs
   |_=>.bad)
  |_=>.bad)
open Classical in
def zo(c:String)(np n:Nat)(b:Bd)(ds:List D):R D:=if h:∃d,∀x,bu c np n b x ds=.ok d then .ok (choose h) else .bad
def bGx{b:Bd}(h:∀x,bu c np n b x ds=.ok d):zo c np n b ds=.ok d:=by
 unfold zo;rw[dif_pos ⟨d,h⟩];have:=o4 (p:=λd=>∀x,bu c np n b x ds=.ok d) ⟨d,h⟩ 0
 rw[h 0]at this;exact this.symm
def IW{b:Bd}(h:zo c np n b ds=.ok d)(x:Nat):bu c np n b x ds=.ok d:=by
 unfold zo at h;split at h
 .rename_i e;have:=o4 e x;rw[this];exact h
 .cases h
end
end Pu
variable{d y:Pu.D}{ds xs ys dv:List Pu.D}{f g:Pu.Ex}{st':Pu.ua}{p:List Pu.D->Pu.R Pu.D}{it:Pu.rn}{x4:Option Pu.Sl}{hs hl:List (List String×List String×(String->Pu.Bd))}{bd Wj:Pu.Bd}
namespace Pu
@[simp] theorem bg1:1<=big:=gO (by decide)
@[simp] theorem bg3:3<=big:=gO (by decide)
@[simp] theorem aR{β:Type}(a:α)(f:α->R β):(R.ok a).bind f=f a:=rfl
@[simp] theorem oW(b:Bool)(f:Bool->R α):Xi (.bl b) f=f b:=rfl
@[simp] theorem bQf(i:Int)(f:Int->R α):Ul (.int i) f=f i:=rfl
@[simp] theorem bQg(st:ua)(f:ua->R Fl):vm (.ok<|.nx st) f=f st:=rfl
@[simp] theorem JW(i:Nat)(st:ua):aA i st=(match st[i]? with|some (some<|.v d)=>R.ok d|_=>.bad):=rfl
@[simp] theorem RC(d:D)(st:ua):eC d st=.ok d:=rfl
@[simp] theorem rm(op:Yf)(f g:Ex)(st:ua):e2 op f g st=(f st).bind λx=>(g st).bind λy=>op x y:=rfl
@[simp] theorem YK(op:D->R D)(f:Ex)(st:ua):e1 op f st=(f st).bind op:=rfl
@[simp] theorem bRz(p:D->Bool)(f:Ex)(st:ua):eB p f st=(f st).bind λx=>aW (yo x=true) (.ok<|.bl<|p x):=rfl
@[simp] theorem KW(f g:Ex)(st:ua):mY f g st=(f st).bind λx=>Xi x λb=>if b=true then g st else .ok (.bl false):=rfl
@[simp] theorem bLl(f g:Ex)(st:ua):Ql f g st=(f st).bind λx=>Xi x λb=>if b=true then .ok (.bl true) else g st:=rfl
@[simp] theorem LW(f:Ex)(st:ua):lQ f st=(f st).bind λx=>Xi x λb=>.ok (.bl<|!b):=rfl
@[simp] theorem WY(c f g:Ex)(st:ua):Gq c f g st=(c st).bind λx=>Xi x λb=>if b=true then f st else g st:=rfl
@[simp] theorem bQh(st:ua):aP st=.ok []:=rfl
@[simp] theorem ļ(f:Ex)(r:ue)(st:ua):aC f r st=(f st).bind λx=>(r st).bind λxs=>.ok (x::xs):=rfl
@[simp] theorem bGy(r:ue)(st:ua):jP r st=(r st).bind λxs=>aW (xs.length<=big) (.ok<|.lst xs):=rfl
@[simp] theorem Ľ(p:List D->R D)(r:ue)(st:ua):aO p r st=(r st).bind p:=rfl
@[simp] theorem bRg(m:qt)(f:Ex)(r:ue)(st:ua):Ln m f r st=(f st).bind λx=>(r st).bind λxs=>m x xs:=rfl
@[simp] theorem bOt(st:ua):PC st=.ok none:=rfl
@[simp] theorem bOu(f:Ex)(st:ua):QC f st=(f st).bind λx=>Ul x λi=>.ok (some i):=rfl
@[simp] theorem bRh(f:Ex)(lo hi:ot)(st:ua):NE f lo hi st=(f st).bind λx=>(lo st).bind λl=>(hi st).bind λh=>WM x l h:=rfl
@[simp] theorem bGz(f:Ex)(st:ua):tH f st=(f st).bind λx=>Ul x λj=>aW (-(big:Int)<=j/\j<=(big:Int)) (.ok<|lN 0 j.toNat):=rfl
@[simp] theorem bH0(f g:Ex)(st:ua):FL f g st=(f st).bind λx=>(g st).bind λy=>Ul x λi=>Ul y λj=>aW (-(big:Int)<=i/\i<=(big:Int)/\-(big:Int)<=j/\j<=(big:Int)) (.ok<|lN i (j-i).toNat):=rfl
@[simp] theorem bOv(tg:Tg)(b:Bd)(st:ua):Nb tg b [] st=.ok (.nx st):=rfl
def qP(tg:Tg)(b:Bd)(d:D)(ds:List D)(st:ua):Nb tg b (d::ds) st=(tg d st).bind λs1=>(b s1).bind λx=>match x with
  |.nx s2=>Nb tg b ds s2
  |.ct s2=>Nb tg b ds s2
  |.bk s2=>.ok<|.nx s2
  |.rt v=>.ok (.rt v):=rfl
def BR(c:Ex)(b:Bd)(n:Nat)(st:ua):oV c b (n+1) st=(c st).bind λx=>Xi x λq=>if q=true then (b st).bind λx=>(match x with
  |.nx s2=>oV c b n s2
  |.ct s2=>oV c b n s2
  |.bk s2=>.ok<|.nx s2
  |.rt v=>.ok<|.rt v) else .ok (.nx st):=rfl
@[simp] theorem bLm(f:Ex)(st:ua):Yc f st=(f st).bind λx=>match x with|.lst xs=>.ok xs|.tup xs=>.ok xs|.str xs=>aW (xs.length<=big) (.ok<|xs.map λc=>.str [c])|_=>.bad:=rfl
@[simp] theorem î(n:Nat)(c:Ex)(b:Bd)(st:ua):Iw n c b st=oV c b n st:=rfl
@[simp] theorem bH1(i:Nat)(f:Ex)(st:ua):tj i f st=(f st).bind λd=>match st[i]? with|some (some<|.o .l xs)=>aW (xs.length<big) (.ok<|.nx<|st.set i<|some<|.o .l<|xs++[d])|_=>.bad:=rfl
@[simp] theorem ľ(i:Nat)(f:Ex)(st:ua):tW i f st=(f st).bind λd=>match d with|.lst xs=>.ok (.nx<|st.set i<|some<|.o .l xs)|_=>.bad:=rfl
@[simp] theorem bH2(i:Nat)(f:Ex)(st:ua):ED i f st=(f st).bind λd=>match d with|.lst ys=>(match st[i]? with|some (some<|.o .l xs)=>aW (xs.length+ys.length<=big) (.ok<|.nx<|st.set i<|some<|.o .l<|xs++ys)|_=>.bad)|_=>.bad:=rfl
@[simp] theorem Ŀ(i:Nat)(c f:String)(e:Ex)(st:ua):au i c f e st=(e st).bind λd=>match st[i]? with|some (some<|.o (.i n c' ns) xs)=>aW (c'=c/\f∉ns/\ns.length<900) (.ok<|.nx<|st.set i<|some<|.o (.i n c'<|ns++[f])<|xs++[d])|_=>.bad:=rfl
@[simp] theorem FA(c f c':String)(ns:List String)(xs:List D):dY c f (.ins c' ns xs)=aW (c'=c) (Oh<|(ns.zip xs).lookup f):=rfl
@[simp] theorem GA(c m:String)(p:List D->R D)(dv:List D)(f:Ex)(r:ue)(st:ua):dJ c m p dv f r st=(f st).bind λx=>(r st).bind λxs=>match x with|.ins c' ns _=>aW (c'=c/\m∉ns) (p<|x::(xs++dv))|_=>.bad:=rfl
@[simp] theorem bRi(is:List Nat)(b:Bd)(st:ua):uk is b st=b (is.foldl Iq st):=rfl
@[simp] theorem bRj(st:ua)(i:Nat):Iq st i=(match st[i]? with|some (some<|.o k xs)=>st.set i (some<|.v<|Ss k xs)|_=>st):=rfl
@[simp] theorem bQi(x y:List Nat):jx (.str x) [.str y]=.ok (.int<|Up<|qK x y 0):=rfl
@[simp] theorem bOw(x y:List Nat):Gw (.str x) [.str y]=aW (x.length<=big) (.ok<|.str<|xJ x y):=rfl
@[simp] theorem bJr(i:Nat):Up (some i)=i:=rfl
@[simp] theorem bQj(i j:Int):zv (.int i) (.int j)=.ok (.bl<|decide (j<=i)):=rfl
@[simp] theorem bOx(b:Int):yo (.int b)=true:=rfl
@[simp] theorem bOy(b:List Nat):yo (.str b)=true:=rfl
@[simp] theorem bOz(b:List D):yo (.lst b)=true:=rfl
@[simp] theorem bRk(i:Nat)(d:D)(st:ua):jb i d st=.ok (st.set i<|some<|.v d):=rfl
@[simp] theorem bQk(st:ua):Kh [] st=st:=rfl
@[simp] theorem bP0(i:Nat)(is:List Nat)(st:ua):Kh (i::is) st=Kh is (st.set i none):=rfl
def lX(tg:Tg)(c f:Ex)(st:ua)(d:D)(ds:List D):iR tg c f st (d::ds)=(tg d st).bind λs1=>(c s1).bind λx=>Xi x λb=>if b=true then (f s1).bind λy=>(iR tg c f st ds).bind λys=>.ok (y::ys) else iR tg c f st ds:=rfl
@[simp] theorem HA(is:List Nat)(tg:Tg)(it:rn)(c f:Ex)(st:ua):cN is tg it c f st=(it st).bind λxs=>aW (xs.length<=big) ((iR tg c f (Kh is st) xs).bind λys=>.ok<|.lst ys):=rfl
@[simp] theorem bP1(st:ua):cO st=.ok (.nx st):=rfl
@[simp] theorem NI(a b:Bd)(st:ua):aY a b st=vm (a st) b:=rfl
@[simp] theorem MW(i:Nat)(f:Ex)(st:ua):cC i f st=(f st).bind λd=>.ok (.nx<|st.set i<|some<|.v d):=rfl
@[simp] theorem wF(f:Ex)(st:ua):cA f st=(f st).bind λd=>.ok (.rt d):=rfl
@[simp] theorem WJ(c:Ex)(a b:Bd)(st:ua):Pd c a b st=(c st).bind λx=>Xi x λq=>if q=true then a st else b st:=rfl
@[simp] theorem NW(tg:Tg)(it:rn)(body:Bd)(st:ua):nO tg it body st=(it st).bind λxs=>Nb tg body xs st:=rfl
@[simp] theorem bP2(i j:Int):pL (.int i) (.int j)=aW (0<j) (.ok<|.int<|i%j):=rfl
@[simp] theorem bQl(i j:Int):Qi (.int i) (.int j)=.ok (.bl<|decide (i<=j)):=rfl
@[simp] theorem XJ(x y:D):Qc x y=aW (Of x<=64/\plain x=true/\plain y=true) (.ok<|.bl<|Fd x y):=rfl
@[simp] theorem YJ(x y:D):zg x y=aW (Of x<=64/\plain x=true/\plain y=true) (.ok<|.bl<|!Fd x y):=rfl
@[simp] theorem bQm(i:Int):Of (.int i)=0:=by unfold Of;rfl
@[simp] theorem bQn(s:List Nat):Of (.str s)=0:=by unfold Of;rfl
@[simp] theorem bQo(x:List D):Of (.lst x)=oU x+1:=by conv=>lhs;unfold Of
@[simp] theorem bNp:plain .lc=true:=by unfold plain;rfl
@[simp] theorem bP3(b:Bool):plain (.bl b)=true:=by unfold plain;rfl
@[simp] theorem bNq(i:Int):plain (.int i)=true:=by unfold plain;rfl
@[simp] theorem bNr(s:List Nat):plain (.str s)=true:=by unfold plain;rfl
@[simp] theorem bNs(x:List D):plain (.tup x)=gF x:=by conv=>lhs;unfold plain
@[simp] theorem bNt(x:List D):plain (.lst x)=gF x:=by conv=>lhs;unfold plain
@[simp] theorem bNu(t:Bool)(k v:List D):plain (.Ve t k v)=false:=by unfold plain;rfl
@[simp] theorem bNv(c:String)(n:List String)(v:List D):plain (.ins c n v)=false:=by unfold plain;rfl
@[simp] theorem bNw(c:String)(n:List String)(v:List D):plain (.Sg c n v)=false:=by unfold plain;rfl
@[simp] theorem bP4(f:String):plain (.fn f)=false:=by unfold plain;rfl
@[simp] theorem bLn:gF []=true:=by unfold gF;rfl
@[simp] theorem lY(a:D)(x:List D):gF (a::x)=(plain a&&gF x):=by conv=>lhs;unfold gF
@[simp] theorem bP5:oU []=0:=by unfold oU;rfl
@[simp] theorem JH(a:D)(x:List D):oU (a::x)=max (Of a) (oU x):=by conv=>lhs;unfold oU
@[simp] theorem bQp(i j:Int):Fd (.int i) (.int j)=(i==j):=by unfold Fd;rfl
@[simp] theorem bQq(i j:List Nat):Fd (.str i) (.str j)=(i==j):=by unfold Fd;rfl
@[simp] theorem bJs(x:List D)(y:List D):Fd (.lst x) (.lst y)=lV x y:=by conv=>lhs;unfold Fd
@[simp] theorem bH3:lV [] []=true:=by unfold lV;rfl
@[simp] theorem bG1(b:D)(y:List D):lV [] (b::y)=false:=by unfold lV;rfl
@[simp] theorem bG2(b:D)(y:List D):lV (b::y) []=false:=by unfold lV;rfl
@[simp] theorem bP6(x:List D):lW (.lst x)=.ok (.int x.length):=rfl
@[simp] theorem bQr(x:List D)(i:Int):Mb (.lst x) (.int i)=Oh (de x i):=rfl
@[simp] theorem bQs(x:List Nat)(l h:Option Int):WM (.str x) l h=aW (x.length<=big) (.ok<|.str<|cut x l h):=rfl
@[simp] theorem bP7(a:α):Oh (some a)=.ok a:=rfl
@[simp] theorem gR{c:Prop}{r:R α}(h:c):aW c r=r:=aF h
@[simp] theorem OW{b:Bd} (h:ds.length=np):bV np n b ds=(b<|ds.map (λd=>some<|.v d)++List.replicate (n-np) none).bind λx=>match x with
  |.nx _=>.ok .lc
  |.rt d=>.ok d
  |_=>.bad:=aF h
def bLo{xs:List α}{i:Int}(h0:0<=i)(h:i<xs.length):de xs i=some (xs[i.toNat]'(by omega)):=by
 unfold de vh;rw[kb h0,kb h];exact Nf (by omega)
def Fc{xs:List α}{i:Nat}(h:i<xs.length):de xs (i:Int)=some xs[i]:=by
 rw[bLo (by omega) (by omega)]
 simp
def aq:D->R D
 |.lst x=>.ok<|.lst x
 |.tup x=>.ok<|.lst x
 |_=>.bad
def qv:List D->R (List Bool)
 |[]=>.ok []
 |.bl b::r=>(qv r).bind λx=>.ok<|b::x
 |_::_=>.bad
def yF:List D->R (List Int)
 |[]=>.ok []
 |.int i::r=>(yF r).bind λx=>.ok<|i::x
 |_::_=>.bad
def Dl:D->R D
 |.lst x=>(qv x).bind λl=>.ok<|.bl<|l.all id
 |_=>.bad
def El:List Int->Int
 |[]=>0
 |i::r=>r.foldl (λa b=>if b>a then b else a) i
noncomputable def ox:D->R D
 |.lst x=>(yF x).bind λl=>aW (0<l.length)<|.ok<|.int<|El l
 |_=>.bad
theorem XY:∀{x:List D}{l:List Bool},qv x=.ok l->x=l.map D.bl
 |[],l,h=>by cases h;rfl
 |d::x,l,h=>by
  cases d<;>first|(cases h;done)|skip
  obtain⟨l',h1,h2⟩:=R.ma h;cases h2;rw[XY h1];rfl
theorem cw:∀{x:List D}{l:List Int},yF x=.ok l->x=l.map D.int
 |[],l,h=>by cases h;rfl
 |d::x,l,h=>by
  cases d<;>first|(cases h;done)|skip
  obtain⟨l',h1,h2⟩:=R.ma h;cases h2;rw[cw h1];rfl
theorem QW:∀(l:List Bool),qv (l.map D.bl)=.ok l
 |[]=>rfl
 |b::l=>by show (qv<|l.map D.bl).bind _=_;rw[QW l];rfl
theorem uT:∀(l:List Int),yF (l.map D.int)=.ok l
 |[]=>rfl
 |b::l=>by show (yF<|l.map D.int).bind _=_;rw[uT l];rfl
theorem KH:∀(r:List Int)(a:Int),a<=r.foldl (λa b=>if b>a then b else a) a/\(∀x∈r,x<=r.foldl (λa b=>if b>a then b else a) a)/\(r.foldl (λa b=>if b>a then b else a) a=a\/r.foldl (λa b=>if b>a then b else a) a∈r)
 |[],a=>⟨Int.le_refl _,λ_ h=>(by cases h),.inl rfl⟩
 |b::r,a=>by
  obtain⟨h1,h2,h3⟩:=KH r<|if b>a then b else a
  rw[Po];have ha:a<=(if b>a then b else a):=by split<;>omega
  have hb:b<=(if b>a then b else a):=by split<;>omega
  refine⟨Int.le_trans ha h1,λx hx=>?_,?_⟩
  .rcases Kc.mp hx with rfl|hx
   .exact Int.le_trans hb h1
   .exact h2 x hx
  .rcases h3 with h3|h3
   .rw[h3];split
    .exact .inr Jb
    .exact .inl rfl
   .exact .inr (Qb _ h3)
def uw{l:List Int}{m:Int}(hm:m∈l)(hx:∀x∈l,x<=m):El l=m:=by
 cases l with
 |nil=>cases hm
 |cons i r=>
  obtain⟨h1,h2,h3⟩:=KH r i;have ha:El (i::r)<=m:=by
   rcases h3 with h3|h3
   .exact hx _ (by show r.foldl _ i∈_;rw[h3];exact Jb)
   .exact hx _ (Qb _ h3)
  have hb:m<=El (i::r):=by
   rcases Kc.mp hm with e|e
   .rw[e];exact h1
   .exact h2 _ e
  omega
def R.Vg{α:Type}(r:R α):R α:=match r with
 |.exc _=>.bad
 |r=>r
def R.Gj{r:R α}{a:α}(h:r.Vg=.ok a):r=.ok a:=by
 cases r with
 |ok b=>exact h
 |exc x=>cases h
 |bad=>cases h
def Dz(b:Bd):Bd:=λst=>(b st).Vg
def Ay(f:Ex):Ex:=λst=>(f st).Vg
def Wq(p:List D->R D):List D->R D:=λds=>R.Vg<|p ds
noncomputable def ZJ(c:String)(r:ue):Bd:=λst=>(r st).Vg.bind λxs=>aW (xs.length<=100)<|.exc<|.Sg c [] []
def Lx:List (List String×List String×(String->Bd))->String->ua->R Fl
 |[],_,_=>.bad
 |(yes,no,b)::hs,c,st=>if c∈yes then (b c st).Vg else if c∈no then Lx hs c st else .bad
def Y4(b:Bd):String->Bd:=λ_=>b
def Ar(b:Bd)(hs:List (List String×List String×(String->Bd))):Bd:=λst=>match b st with
 |.exc (.Sg c [] [])=>Lx hs c st
 |.exc _=>.bad
 |r=>r
noncomputable def oX(c m:String)(p:List D->R D)(dv:List D)(f:Ex)(r:ue):Ex:=λst=>(f st).Vg.bind λx=>(r st).Vg.bind λxs=>match x with
 |.ins c' ns _=>aW (c'=c/\m∉ns)<|p<|x::(xs++dv)
 |_=>.bad
inductive o8 where
 |nx (n6:List (List D)) (st:ua)|rt (d:D)
abbrev NB:=List (List D)->ua->R o8
def ZK(i:Nat):Bd:=λst=>match st[i]? with
 |some (some<|.o .l xs)=>.ok<|.rt<|.lst xs
 |_=>.bad
def oo(bd:Bd)(i:Nat):Bd:=λst=>match bd st with
 |.ok (.nx s)=>ZK i s
 |_=>.bad
def tm(l:List Int):List Int:=l.foldl (λxa x=>if xa.any (· == x) then xa else xa++[x]) []
def atom:D->Bool
 |.lc=>true
 |.bl _=>true
 |.int _=>true
 |.str _=>true
 |_=>false
def bP8:D->Bool
 |.lst xs=>xs.all atom
 |_=>false
noncomputable section
def bLp:D->R D
 |.lst xs=>aW (xs.length<=big/\xs.all bP8=true)<|.ok<|.lst xs
 |_=>.bad
def unL:D->List D
 |.lst xs=>xs
 |_=>[]
open Classical in
def bS0(c:String)(np n:Nat)(b:Bd)(ds:List D):R D:=if h:∃r,∀x,bu c np n b x ds=r then choose h else .bad
end
def Nj:List Nat->List D->List D
 |c::z,d::ds=>.tup [.str [c],d] :: Nj z ds
 |_,_=>[]
def G0(f g:Ex):rn:=λst=>(f st).bind λx=>(g st).bind λy=>match x,y with
 |.str z,.lst ds=>.ok<|Nj z ds
 |_,_=>.bad
noncomputable section
def vw:D->R D
 |.int n=>aW (-(big:Int)<=n/\n<=(big:Int))<|.ok<|.lst<|lN 0 n.toNat
 |_=>.bad
def cK(i:Nat)(g f:Ex):Bd:=λst=>(g st).bind λk=>(f st).bind λd=>aW (Kx k=true/\atom d=true)<|.ok<|.nx<|st.set i<|some<|.o (.d false [k]) [d]
end
noncomputable section
def Cn:Yf
 |.int i,.int j=>aW (0<=j/\j<=1000000/\i.natAbs<18446744073709551616)<|.ok<|.int<|i*2^j.toNat
 |_,_=>.bad
def yG:Yf
 |.int i,.int j=>aW (0<=j)<|.ok<|.int<|i/2^j.toNat
 |_,_=>.bad
def qJ:Yf
 |.int i,.int j=>aW (0<=i/\0<=j)<|.ok<|.int ((i.toNat&&&j.toNat:Nat):Int)
 |_,_=>.bad
def Xj:Yf
 |.int i,.int j=>aW (0<=i/\0<=j)<|.ok<|.int ((i.toNat|||j.toNat:Nat):Int)
 |_,_=>.bad
def TC:qt
 |.lst xs,[.int k]=>(yF xs).bind λl=>(Oh<|l.findIdx? λi=>i==k).bind λn=>aW (xs.length<=big)<|.ok<|.int (n:Int)
 |_,_=>.bad
end
def tX(i:Int):Nat:=if i=0 then 0 else i.natAbs.log2+1
def yB:D->R D
 |.int i=>.ok<|.int (tX i:Nat)
 |_=>.bad
noncomputable def Jw:D->R D
 |.Ve false ks ds=>aW (ks.length<=big)<|.ok<|.lst<|List.zipWith (λk d=>.tup [k,d]) ks ds
 |_=>.bad
def sS(bd:Bd)(f:Ex):Bd:=λst=>match bd st with
 |.ok (.nx s)=>(f s).bind λd=>match d with
  |.lst xs=>.ok<|.rt<|.lst xs
  |_=>.bad
 |_=>.bad
def Ck:Yf
 |.int i,.int j=>.ok<|.bl<|decide (i<j)
 |_,_=>.bad
noncomputable def wG:Yf
 |.int i,.int j=>aW ((-18446744073709551616<i/\i<18446744073709551616)\/(-18446744073709551616<j/\j<18446744073709551616))<|.ok<|.int<|i*j
 |_,_=>.bad
@[simp] theorem bP9(i j:Int):Ck (.int i) (.int j)=.ok (.bl<|decide (i<j)):=rfl
end Pu
variable{nb:Pu.NB}
namespace Pu
noncomputable section
def Hl(l:List Int):List Int:=l.mergeSort λa b=>decide (a<=b)
def dw(l:List Int):(Hl l).Perm l:=List.mergeSort_perm _ _
def ŀ(l:List Int):(Hl l).Pairwise (· <= ·):=by
 have h:=List.pairwise_mergeSort (le:=λa b:Int=>decide (a<=b)) (λa b c h1 h2=>by
  have:=cj h1;have:=cj h2;exact Uc<|by omega) (λa b=>by
  rcases Int.le_total a b with h|h
  .simp[h]
  .simp[h]) l
 exact h.imp λh=>cj h
def OI:D->R D
 |.lst x=>(yF x).bind λl=>aW (l.length<=4000/\(tm l).length<64)<|.ok<|.lst<|(Hl<|tm l).map D.int
 |_=>.bad
end
noncomputable section
def ur:D->D->D->R D
 |.Ve t ks vs,k,x=>aW (Nc t k=true)<|if uF ks k=true then Oh (ji ks vs k) else .ok x
 |_,_,_=>.bad
def zu(f g h:Ex):Ex:=λst=>(f st).bind λd=>(g st).bind λk=>(h st).bind λx=>ur d k x
end
noncomputable section
def I0(r:ue)(g:Ex):Ex:=λst=>(r st).bind λxs=>(g st).bind λy=>Ul y λj=>aW (xs.length<=big/\xs.length*j.toNat<=big/\-4611686018427387904<=j/\j<4611686018427387904)<|.ok<|.lst<|rep j.toNat xs
def Ao:D->R D
 |.int i=>.ok<|.int i
 |.bl b=>.ok<|.int<|if b then 1 else 0
 |_=>.bad
end
noncomputable section
def du(c:String):Ex:=λ_=>.ok<|.ins c [] []
def gP(f g:Ex):Ex:=λst=>match f st with
 |.bad=>g st
 |r=>r
def bLq{st:ua} (h:gP f g st=.ok d):f st=.ok d\/g st=.ok d:=by
 unfold gP at h;split at h
 .exact .inr h
 .exact .inl h
def T1(c:String):D->R D
 |.ins c' _ _=>aW (c'=c)<|.ok<|.bl true
 |_=>.bad
def yH(c:String)(b:Bool):D->R D
 |.ins c' _ _=>aW (c'=c)<|.ok<|.bl b
 |_=>.bad
def UC(i j:Nat)(p:List D->R D)(f:Ex):Bd:=λst=>(f st).bind λx=>match st[j]? with
 |some (some<|.o .l ys)=>(match ys.getLast? with
  |some d=>aW (ys.length<=big)<|(p [x,d]).bind λy=>.ok<|.nx<|(st.set j<|some<|.o .l ys.dropLast).set i<|some<|.v y
  |none=>.bad)
 |_=>.bad
end
noncomputable def Mx:Yf
 |.int i,.int j=>aW (0<=i/\0<=j)<|.ok<|.int<|((i.toNat|||j.toNat:Nat):Int)-((i.toNat&&&j.toNat:Nat):Int)
 |_,_=>.bad
def kq(o1 o2:Yf)(f g h:Ex):Ex:=λst=>(f st).bind λx=>(g st).bind λy=>(o1 x y).bind λd=>Xi d λb=>if b=true then (h st).bind λz=>o2 y z else .ok (.bl false)
noncomputable section
def Il:List D->List D->List D->List D->List D×List D
 |ks,vs,k::kr,v::vr=>Il (sO ks k) (wC ks vs k v) kr vr
 |ks,vs,_,_=>(ks,vs)
def Nx(i:Nat)(f:Ex):Bd:=λst=>(f st).bind λd=>match d with
 |.Ve false fF Mp=>(match st[i]? with
  |some (some<|.o (.d false ks) vs)=>aW (fF.length=Mp.length/\vs.length+Mp.length<=big)<|.ok<|.nx<|st.set i<|some<|.o (.d false (Il ks vs fF Mp).1) (Il ks vs fF Mp).2
  |_=>.bad)
 |_=>.bad
def VC(i:Nat)(g f:Ex):Bd:=λst=>(g st).bind λk=>(f st).bind λd=>match st[i]? with
 |some (some<|.o (.d false ks) vs)=>aW (Nc false k=true/\vs.length<big)<|.ok<|.nx<|if uF ks k=true then st else st.set i (some<|.o (.d false<|sO ks k)<|wC ks vs k d)
 |_=>.bad
end
noncomputable def WC:D->R D
 |.Ve false _ ds=>(yF ds).bind λl=>aW (0<l.length)<|.ok<|.int<|El l
 |_=>.bad
noncomputable section
abbrev eI(n:Int):Ex:=eC<|.int n
def Κ:Bd:=aY (Pd (e2 Ck (aA 1)<|e1 lW<|aA 0) (cA<|e2 pL (e2 Mb (aA 0)<|aA 1)<|e2 xo (eI 10)<|eI 30) cO)<|aY (cC 2<|eI 0)<|aY (Pd (e2 Fq (e1 lW<|aA 0)<|eI 0) (cC 2<|e2 pL (e2 Mb (aA 0)<|e2 pL (aA 1)<|e1 lW<|aA 0)<|eI 999983) cO)<|cA<|e2 pL (e2 wG (e2 qM (e2 qM (e2 wG (aA 2)<|eI 48271)<|e2 wG (eI 7919)<|aA 1)<|eI 11)<|e2 qM (aA 1)<|eI 2)<|eI 2147483647
def sU:List D->R D:=bV 2 3 Κ
def Λ:Bd:=aY (cC 3<|e2 pL (e2 qM (aA 0)<|e2 wG (eI 15485863)<|aA 1)<|eI 2147483629)<|aY (cC 3<|e2 pL (e2 wG (e2 pL (e2 wG (aA 3)<|aA 3)<|eI 2147483647)<|eI 69621)<|eI 2147483629)<|cA<|e2 pL (e2 qm (e2 pL (e2 wG (aA 3)<|aA 3)<|eI 2147483587)<|eI 32)<|aA 2
def sV:List D->R D:=bV 3 4 Λ
def NP(st:ua):R Fl:=(aY (tj 2<|e2 pL (aA 0)<|aA 3)<|cC 0<|e2 qm (aA 0)<|aA 3) st
def e_:Bd:=aY (tW 2<|jP aP)<|aY (nO (jb 3) (Yc<|aA 1) NP)<|uk [2]<|cA<|aA 2
def lH:List D->R D:=bV 2 4 e_
def Μ:Bd:=aY (Pd (e2 Qc (aA 2)<|eI 1) (cA<|e2 kx (aA 0)<|aA 1) cO)<|aY (Pd (mY (e2 Qc (aA 2)<|eI 2)<|e2 Ck (e2 qm (aA 1)<|eI 2)<|e2 qm (aA 0)<|eI 2) (cA<|e2 WK (e2 An (aA 3)<|eI 1)<|e2 qM (e2 An (aA 0)<|e2 pL (aA 0)<|eI 2)<|e2 pL (aA 1)<|eI 2) cO)<|cA<|aA 1
def wH:List D->R D:=bV 4 4 Μ
def jU(st:ua):R D:=(aO sV<|aC (aA 3)<|aC (e2 qM (eI 1)<|aA 9)<|aC (e2 Mb (aA 4)<|aA 9) aP) st
def qQ(st:ua):R D:=(aO sV<|aC (aA 10)<|aC (e2 qM (eI 11)<|aA 12)<|aC (e2 Mb (aA 4)<|aA 12) aP) st
def yI(st:ua):R D:=(aO wH<|aC (aA 9)<|aC (aA 13)<|aC (e2 Mb (aA 5)<|eI 4)<|aC (aA 6) aP) st
def qR(st:ua):R Fl:=(aY (cC 10<|aO sU<|aC (aA 0)<|aC (e2 qM (e2 qM (aA 1)<|eI 1)<|aA 9) aP)<|aY (cC 11<|aO lH<|aC (aA 10)<|aC (aA 4) aP)<|aY (Pd (e2 Qc (e2 pL (aA 3)<|eI 2)<|eI 0) (cC 11<|cN [12] (jb 12) (tH<|e1 lW<|aA 4) dB qQ) cO)<|aY (tj 7<|cN [13] (jb 13) (Yc<|NE (aA 11) PC<|QC<|e1 BD<|eI 1) dB yI)<|tj 8<|e2 qM (e2 Mb (jP<|aC (eI 0)<|aC (eI 0)<|aC (eI 1)<|aC (e2 xo (eI 10)<|eI 29) aP)<|e2 Mb (aA 5)<|eI 2)<|e2 Mb (aA 11)<|e1 BD<|eI 1) st
def I9:Bd:=aY (cC 3<|aO sU<|aC (aA 0)<|aC (aA 1) aP)<|aY (cC 4<|jP<|aC (aA 2)<|aC (eI 3)<|aC (eI 4)<|aC (eI 4)<|aC (eI 3) aP)<|aY (cC 5<|cN [9] (jb 9) (tH<|eI 5) dB jU)<|aY (Pd (e2 Qc (e2 pL (aA 3)<|eI 2)<|eI 1) (cC 5<|aO lH<|aC (e2 qm (aA 3)<|eI 2)<|aC (aA 4) aP) cO)<|aY (cC 6<|e2 qM (eI 1)<|e2 Mb (aA 5)<|eI 0)<|aY (cC 4<|e2 qM (I0 (aC (aA 6) aP)<|e2 qM (eI 1)<|e2 Mb (aA 5)<|eI 1)<|jP<|aC (e2 Mb (jP<|aC (eI 2)<|aC (eI 3)<|aC (eI 4)<|aC (eI 6) aP)<|e2 Mb (aA 5)<|eI 3) aP)<|aY (tW 7<|jP aP)<|aY (tW 8<|jP aP)<|aY (nO (jb 9) (tH<|aA 6) qR)<|uk [7,8]<|cA<|yu<|aC (aA 7)<|aC (aA 8) aP
def lZ:List D->R D:=bV 3 14 I9
def EQ(st:ua):R Fl:=(cC 3<|e2 Xj (aA 3)<|e2 Cn (eI 1)<|aA 4) st
def FQ(st:ua):R Fl:=(aY (cC 3<|eI 0)<|aY (nO (jb 4) (Yc<|aA 2) EQ)<|tj 1<|aA 3) st
def O_:Bd:=aY (tW 1<|jP aP)<|aY (nO (jb 2) (Yc<|aA 0) FQ)<|uk [1]<|cA<|aA 1
def mZ:List D->R D:=bV 1 5 O_
def GQ(st:ua):R Fl:=(Pd (e2 Qc (e2 qJ (e2 yG (aA 3)<|aA 6)<|eI 1)<|eI 1) (cC 5<|e2 Xj (aA 5)<|e2 qJ (e2 Mb (aA 0)<|aA 6)<|aA 1) cO) st
def uY(st:ua):R Fl:=(aY (cC 5<|aA 3)<|aY (nO (jb 6) (tH<|e1 lW<|aA 0) GQ)<|aY (cC 4<|e2 zg (aA 5)<|aA 3)<|cC 3<|aA 5) st
def HQ(st:ua):R D:=(aA 4) st
def P_:Bd:=aY (cC 3<|e2 qJ (aA 2)<|aA 1)<|aY (cC 4<|eC<|.bl true)<|aY (Iw 100000 HQ uY)<|cA<|aA 3
def fY:List D->R D:=bV 3 7 P_
def uZ(st:ua):R D:=(aA 5) st
def vA(st:ua):R D:=(mY (e2 Qc (e2 qJ (e2 yG (aA 3)<|aA 5)<|eI 1)<|eI 1)<|e2 zg (aO fY<|aC (aA 0)<|aC (aA 3)<|aC (e2 Mb (aA 0)<|aA 5) aP)<|aA 3) st
def oY(st:ua):R Fl:=(Pd (e2 Qc (e2 qJ (aA 3)<|aA 1)<|aA 3) (aY (cC 4<|cN [5] (jb 5) (tH<|e1 lW<|aA 0) vA uZ)<|Pd (e2 Qc (aA 4)<|jP aP) (tj 2<|aA 3) cO) cO) st
def g9:Bd:=aY (tW 2<|jP aP)<|aY (nO (jb 3) (FL (eI 1)<|e2 qM (aA 1)<|eI 1) oY)<|uk [2]<|cA<|aA 2
def iJ:List D->R D:=bV 2 6 g9
def Ν:Bd:=aY (Pd (e2 Qc (aA 0)<|eI 0) (cA<|du "EarlyNo") cO)<|aY (Pd (e2 Qc (aA 0)<|eI 1) (cA<|du "EarlyYes") cO)<|aY (Pd (e2 Qc (aA 0)<|eI 2) (cA<|du "Settled") cO)<|aY (Pd (e2 Qc (aA 0)<|eI 3) (cA<|du "Again") cO)<|cA<|du "Lasting"
def wI:List D->R D:=bV 1 1 Ν
def zL(st:ua):R D:=(e2 Mb (aA 0)<|aA 2) st
def zM(st:ua):R D:=(e2 Qc (e2 qJ (e2 yG (aA 1)<|aA 2)<|eI 1)<|eI 1) st
def RR:Bd:=cA<|e1 ox<|cN [2] (jb 2) (tH<|e1 lW<|aA 0) zM zL
def zN:List D->R D:=bV 2 3 RR
def Ξ:Bd:=cA<|e2 Qc (e2 pL (aO zN<|aC (aA 0)<|aC (aA 1) aP)<|eI 2)<|eI 0
def jD:List D->R D:=bV 2 2 Ξ
def OP(st:ua):R Fl:=(wg 3 (aA 4)<|aO fY<|aC (aA 0)<|aC (eI 255)<|aC (aA 4) aP) st
def QP(st:ua):R D:=(aA 4) st
def RP(st:ua):R D:=(aO jD<|aC (aA 2)<|aC (aA 4) aP) st
def UP(st:ua):R D:=(aA 4) st
def VP(st:ua):R D:=(lQ<|aO jD<|aC (aA 2)<|aC (aA 4) aP) st
def tK(st:ua):R Fl:=(aY (cC 9<|e2 Fq (e2 qJ (e2 Mb (lO 3)<|aA 4)<|aA 8)<|eI 0)<|aY (cC 10<|e2 Fq (e2 qJ (e2 Mb (lO 3)<|aA 8)<|aA 4)<|eI 0)<|aY (iq 7 (eI 0)<|mY (e2 Mb (lO 7)<|eI 0)<|lQ<|aA 10)<|aY (iq 7 (eI 1)<|mY (e2 Mb (lO 7)<|eI 1)<|lQ<|aA 9)<|aY (iq 7 (eI 2)<|mY (e2 Mb (lO 7)<|eI 2)<|lQ<|mY (aA 9)<|aA 10)<|aY (iq 7 (eI 3)<|mY (e2 Mb (lO 7)<|eI 3)<|e2 zg (e2 qJ (aA 4)<|aA 8)<|aA 4)<|iq 7 (eI 4)<|mY (e2 Mb (lO 7)<|eI 4)<|e2 zg (e2 qJ (aA 4)<|aA 8)<|aA 8) st
def yJ(st:ua):R Fl:=(nO (jb 8) (Yc<|aA 6) tK) st
def f_:Bd:=aY (lx 3 false)<|aY (nO (jb 4) (Yc<|aA 1) OP)<|aY (cC 5<|cN [4] (jb 4) (Yc<|aA 1) RP QP)<|aY (cC 6<|cN [4] (jb 4) (Yc<|aA 1) VP UP)<|aY (tW 7<|jP<|aC (eC<|.bl true)<|aC (eC<|.bl true)<|aC (eC<|.bl true)<|aC (eC<|.bl true)<|aC (eC<|.bl true) aP)<|aY (nO (jb 4) (Yc<|aA 5) yJ)<|uk [7]<|cA<|aA 7
def oA:List D->R D:=bV 3 11 f_
def SR:Bd:=cA<|e2 Qc (e2 qJ (e2 yG (aA 0)<|aA 1)<|eI 1)<|eI 1
def gQ:List D->R D:=bV 2 2 SR
def zO(st:ua):R D:=(aA 1) st
def zP(st:ua):R D:=(aO gQ<|aC (aA 0)<|aC (aA 1) aP) st
def TR:Bd:=cA<|cN [1] (jb 1) (tH<|e1 yB<|aA 0) zP zO
def cB:List D->R D:=bV 1 2 TR
def pG(st:ua):R Fl:=(cC 1<|e2 Xj (aA 1)<|e2 Cn (eI 1)<|aA 2) st
def LS:Bd:=aY (cC 1<|eI 0)<|aY (nO (jb 2) (Yc<|aA 0) pG)<|cA<|aA 1
def jV:List D->R D:=bV 1 3 LS
def IQ(st:ua):R Fl:=(wg 3 (aA 4)<|e2 qJ (e2 Xj (aO jV<|aC (e2 Mb (aA 0)<|aA 4) aP)<|e2 Cn (eI 1)<|aA 4)<|aA 1) st
def pN(st:ua):R Fl:=(Pd (aO gQ<|aC (e2 Mb (lO 3)<|aA 4)<|aC (aA 5) aP) (wg 3 (aA 4)<|e2 Xj (e2 Mb (lO 3)<|aA 4)<|e2 Mb (lO 3)<|aA 5) cO) st
def JQ(st:ua):R Fl:=(nO (jb 4) (Yc<|aA 2) pN) st
def Q_:Bd:=aY (cC 2<|aO cB<|aC (aA 1) aP)<|aY (lx 3 false)<|aY (nO (jb 4) (Yc<|aA 2) IQ)<|aY (nO (jb 5) (Yc<|aA 2) JQ)<|uk [3]<|cA<|aA 3
def kO:List D->R D:=bV 2 6 Q_
def Ο:Bd:=cA<|aO jV<|aC (e1 vw<|e1 (dY "Machine" "many")<|aA 0) aP
def mC:List D->R D:=bV 1 1 Ο
def Ρ:Bd:=cA<|e2 Mb (aO kO<|aC (e1 (dY "Machine" "steps")<|aA 0)<|aC (aO mC<|aC (aA 0) aP) aP)<|aA 1
def iD:List D->R D:=bV 2 2 Ρ
def pO(st:ua):R D:=(e2 Mb (e1 (dY "Machine" "ranks")<|aA 0)<|aA 5) st
def V8(st:ua):R D:=(aA 4) st
def W8(st:ua):R D:=(e2 Qc (e2 Qc (e2 pL (aA 4)<|eI 2)<|eI 0)<|aA 2) st
def s9:Bd:=aY (cC 3<|e1 OI<|cN [5] (jb 5) (Yc<|aO cB<|aC (aA 1) aP) dB pO)<|cA<|cN [4] (jb 4) (Yc<|aA 3) W8 V8
def oJ:List D->R D:=bV 3 6 s9
def R_:Bd:=aY (cC 2<|aO cB<|aC (aA 1) aP)<|cA<|Ql (e2 Fq (e1 lW<|aA 2)<|eI 1)<|e2 Yo (e2 Mb (aA 2)<|eI 0)<|e2 Mb (aA 0)<|e2 Mb (aA 2)<|eI 0
def uG:List D->R D:=bV 2 3 R_
def ZP(st:ua):R D:=(aA 6) st
def dQ(st:ua):R D:=(aO gQ<|aC (e2 Mb (aA 2)<|aA 6)<|aC (aA 4) aP) st
def tL(st:ua):R Fl:=(aY (cC 5<|aO jV<|aC (cN [6] (jb 6) (Yc<|aO cB<|aC (e2 Mb (aA 2)<|aA 4) aP) dQ ZP) aP)<|Pd (mY (e2 uW (aA 5)<|lO 3)<|aO uG<|aC (aA 0)<|aC (aA 5) aP) (tj 3<|aA 5) cO) st
def g_:Bd:=aY (cC 2<|aO kO<|aC (aA 0)<|aC (aA 1) aP)<|aY (tW 3<|jP aP)<|aY (nO (jb 4) (Yc<|aO cB<|aC (aA 1) aP) tL)<|uk [3]<|cA<|aA 3
def rF:List D->R D:=bV 2 7 g_
def S_:Bd:=cA<|aO rF<|aC (e1 (dY "Machine" "steps")<|aA 0)<|aC (aA 1) aP
def fZ:List D->R D:=bV 2 2 S_
def uH(st:ua):R D:=(e2 Mb (e1 (dY "Machine" "ranks")<|aA 0)<|aA 2) st
def UR:Bd:=aY (Pd (e2 Qc (aA 1)<|eI 0) qO cO)<|cA<|e1 ox<|cN [2] (jb 2) (Yc<|aO cB<|aC (aA 1) aP) dB uH
def qT:List D->R D:=bV 2 3 UR
def i9(st:ua):R D:=(aA 5) st
def j9(st:ua):R D:=(e2 Qi (e2 Mb (e1 (dY "Machine" "ranks")<|aA 0)<|aA 5)<|aA 2) st
def nA(st:ua):R D:=(aA 4) st
def nC(st:ua):R D:=(e2 Qc (aO qT<|aC (aA 0)<|aC (aA 4) aP)<|aA 2) st
def oK:Bd:=aY (cC 3<|aO jV<|aC (cN [5] (jb 5) (Yc<|aO cB<|aC (aA 1) aP) j9 i9) aP) cO
def J9:Bd:=sS oK<|cN [4] (jb 4) (Yc<|aO fZ<|aC (aA 0)<|aC (aA 3) aP) nC nA
def mF:List D->R D:=bV 3 6 J9
def wJ(st:ua):R Fl:=(ED 3<|aO mF<|aC (aA 0)<|aC (aA 1)<|aC (aA 4) aP) st
def t9:Bd:=aY (tW 3<|jP aP)<|aY (nO (jb 4) (Yc<|aO oJ<|aC (aA 0)<|aC (aA 1)<|aC (aA 2) aP) wJ)<|uk [3]<|cA<|aA 3
def cT:List D->R D:=bV 3 5 t9
def rG(st:ua):R Fl:=(Pd (mY (e2 Yo (aA 8)<|aA 2)<|e2 uW (aA 8)<|lO 3) (aY (wg 3 (aA 8)<|e2 qM (e2 Mb (lO 3)<|aA 6)<|aA 7)<|tj 4<|aA 8) cO) st
def SQ(st:ua):R Fl:=(aY (cC 6<|e2 Mb (lO 4)<|aA 5)<|aY (nO (FF [7,8]) (G0 (eC<|.str [97,98,99])<|e2 Mb (aA 0)<|aA 6) rG)<|cC 5<|e2 qM (aA 5)<|eI 1) st
def xK(st:ua):R D:=(e2 Ck (aA 5)<|e1 lW<|lO 4) st
def DR:Bd:=aY (cK 3 (aA 1)<|eC<|.str [])<|aY (tW 4<|jP<|aC (aA 1) aP)<|aY (cC 5<|eI 0)<|aY (Iw 100000 xK SQ)<|uk [3]<|cA<|aA 3
def sW:List D->R D:=bV 3 9 DR
def nD:Bd:=aY (cC 1<|aO sW<|aC (e1 (dY "Machine" "steps")<|aA 0)<|aC (eI 0)<|aC (e1 vw<|e1 (dY "Machine" "many")<|aA 0) aP) cO
def u9:Bd:=sS nD<|e1 Jw<|aA 1
def oM:List D->R D:=bV 1 2 u9
def MS:Bd:=cA<|e2 Qc (aO fZ<|aC (aA 0)<|aC (aA 1) aP)<|jP<|aC (aA 1) aP
def yK:List D->R D:=bV 2 2 MS
def Ł:Bd:=aY (Pd (lQ<|aO gQ<|aC (aA 1)<|aC (aA 2) aP) (cA<|eC .lc) cO)<|cA<|zu (aO sW<|aC (e1 (dY "Machine" "steps")<|aA 0)<|aC (aA 2)<|aC (aO cB<|aC (aA 1) aP) aP) (aA 3)<|eC .lc
def pP:List D->R D:=bV 4 4 Ł
def jW(st:ua):R Fl:=(aY (cC 1<|e2 Mb (e2 Mb (e1 (dY "Machine" "steps")<|aA 0)<|aA 1)<|Ln jx (eC<|.str [97,98,99])<|aC (aA 4) aP)<|tj 3<|aA 1) st
def eZ:Bd:=aY (tW 3<|jP<|aC (aA 1) aP)<|aY (nO (jb 4) (Yc<|aA 2) jW) cO
def p8:Bd:=oo eZ 3
def cW:List D->R D:=bV 3 5 p8
def YQ(st:ua):R Fl:=(Pd (e2 uW (aA 5)<|dJ "Machine" "rooms_along" cW [] (aA 0)<|aC (aA 2)<|aC (aA 3) aP) (aY (cC 3<|e2 qM (aA 3)<|aO pP<|aC (aA 0)<|aC (aA 1)<|aC (aA 4)<|aC (aA 5) aP)<|cC 4<|aA 5) cO) st
def Ϫ:Bd:=aY (Pd (lQ<|aO yK<|aC (aA 0)<|aC (aA 1) aP) qO cO)<|aY (Pd (lQ<|aO gQ<|aC (aA 1)<|aC (aA 2) aP) qO cO)<|aY (Pd (e2 Qc (aO cB<|aC (aA 1) aP)<|jP<|aC (aA 2) aP) (cA<|e2 Mb (eC<|.str [97,98,99])<|Ln TC (e2 Mb (e1 (dY "Machine" "steps")<|aA 0)<|aA 2)<|aC (aA 2) aP) cO)<|aY (cC 3<|eC<|.str [])<|aY (cC 4<|aA 2)<|aY (nO (jb 5) (Yc<|aO cB<|aC (aA 1) aP) YQ)<|cA<|e2 qM (aA 3)<|aO pP<|aC (aA 0)<|aC (aA 1)<|aC (aA 4)<|aC (aA 2) aP
def vB:List D->R D:=bV 3 6 Ϫ
def ER(st:ua):R D:=(aA 5) st
def FR(st:ua):R D:=(aO gQ<|aC (e2 Mb (aA 1)<|eI 0)<|aC (e2 Mb (aA 5)<|eI 0) aP) st
def GR(st:ua):R D:=(aO vB<|aC (aA 0)<|aC (aA 6)<|aC (aA 3) aP) st
def ï:Bd:=aY (cC 2<|cN [5] (jb 5) (Yc<|aO oM<|aC (aA 0) aP) FR ER)<|aY (cC 3<|e2 Mb (e2 Mb (aA 2)<|eI 0)<|eI 0)<|aY (cC 4<|e2 Mb (e2 Mb (aA 2)<|eI 0)<|eI 1)<|cA<|yu<|aC (aA 4)<|aC (cN [6] (jb 6) (Yc<|aA 1) dB GR) aP
def uU:List D->R D:=bV 2 7 ï
def VR:Bd:=cA<|mY (eB isIn<|aA 0)<|lQ<|eB DD<|aA 0
def qU:List D->R D:=bV 1 1 VR
def WR:Bd:=cA<|mY (aO qU<|aC (aA 0) aP)<|mY (e2 zv (aA 0)<|eI 0)<|e2 Ck (aA 0)<|aA 1
def qW:List D->R D:=bV 2 2 WR
def w8:Bd:=Pd (lQ<|aO qW<|aC (aA 1)<|aC (e1 (dY "Machine" "many")<|aA 0) aP) qO cO
def eE:List D->R D:=bV 2 2 w8
def LH:Bd:=cA<|mY (eB CD<|aA 0)<|e2 Qc (Ln Gw (aA 0)<|aC (NE (eC<|.str [97,98,99]) PC<|QC<|aA 1) aP)<|eC<|.str []
def pH:List D->R D:=bV 2 2 LH
def A8:Bd:=Pd (lQ<|aO pH<|aC (aA 1)<|aC (e1 (dY "Machine" "letters")<|aA 0) aP) qO cO
def eN:List D->R D:=bV 2 2 A8
def v9:Bd:=aY (jq<|dJ "Machine" "check_room" eE [] (aA 0)<|aC (aA 1) aP)<|aY (jq<|dJ "Machine" "check_word" eN [] (aA 0)<|aC (aA 2) aP)<|cA<|e2 Mb (dJ "Machine" "rooms_along" cW [] (aA 0)<|aC (aA 1)<|aC (aA 2) aP)<|e1 BD<|eI 1
def lC:List D->R D:=bV 3 3 v9
def iT(st:ua):R Fl:=(aY (cC 8<|e2 Mb (aO cB<|aC (aA 7) aP)<|eI 0)<|aY (cC 9<|aO pP<|aC (aA 0)<|aC (aA 2)<|aC (aA 6)<|aC (aA 8) aP)<|Pd (e2 Vp (aA 9)<|eC .lc) (cA<|yu<|aC (e2 Mb (aA 5)<|eI 0)<|aC (e2 Mb (e2 Mb (aA 5)<|eI 1)<|eI 0)<|aC (aA 9)<|aC (aO vB<|aC (aA 0)<|aC (aA 7)<|aC (aA 8) aP) aP) cO) st
def iU(st:ua):R Fl:=(aY (cC 5<|aO uU<|aC (aA 0)<|aC (jP<|aC (aA 4) aP) aP)<|aY (cC 6<|dJ "Machine" "after" lC [] (aA 0)<|aC (eI 0)<|aC (e2 Mb (aA 5)<|eI 0) aP)<|nO (jb 7) (Yc<|aA 3) iT) st
def T_:Bd:=aY (cC 2<|aO iD<|aC (aA 0)<|aC (eI 0) aP)<|aY (cC 3<|aO cT<|aC (aA 0)<|aC (aA 2)<|aC (aA 1) aP)<|aY (nO (jb 4) (Yc<|aO cT<|aC (aA 0)<|aC (aA 2)<|aC (lQ<|aA 1) aP) iU)<|cA<|eC .lc
def kW:List D->R D:=bV 2 10 T_
def h_:Bd:=cA<|aO kW<|aC (aA 1)<|aC (eC<|.bl true) aP
def iG:List D->R D:=bV 2 2 h_
def K9:Bd:=cA<|aO kW<|aC (aA 1)<|aC (eC<|.bl false) aP
def iV:List D->R D:=bV 2 2 K9
def kQ(st:ua):R D:=(aA 3) st
def oQ(st:ua):R D:=(e2 zg (e2 Mb (e1 (dY "Machine" "ranks")<|aA 0)<|aA 3)<|aA 2) st
def i_:Bd:=aY (cC 2<|aO qT<|aC (aA 0)<|aC (aA 1) aP)<|cA<|aO jV<|aC (cN [3] (jb 3) (Yc<|aO cB<|aC (aA 1) aP) oQ kQ) aP
def rH:List D->R D:=bV 2 4 i_
def NS:Bd:=cA<|e2 Qc (e2 pL (aO qT<|aC (aA 0)<|aC (aA 1) aP)<|eI 2)<|eI 0
def nF:List D->R D:=bV 2 2 NS
def sQ(st:ua):R Fl:=(Pd (e2 Qc (aO nF<|aC (aA 0)<|aC (aA 5) aP)<|aO nF<|aC (aA 0)<|aC (aA 1) aP) (tj 3<|aA 5)<|tj 2<|aA 5) st
def AQ(st:ua):R Fl:=(aY (UC 4 3 rH<|aA 0)<|nO (jb 5) (Yc<|aO fZ<|aC (aA 0)<|aC (aA 4) aP) sQ) st
def BQ(st:ua):R D:=(e2 zg (lO 3)<|jP aP) st
def j_:Bd:=aY (tW 2<|jP aP)<|aY (tW 3<|jP<|aC (aA 1) aP)<|aY (Iw 100000 BQ AQ)<|uk [2]<|cA<|aA 2
def iH:List D->R D:=bV 2 6 j_
def iW(st:ua):R Fl:=(aY (cC 3<|aO iH<|aC (aA 0)<|aC (aA 2) aP)<|Pd (e2 zg (aA 3)<|jP aP) (aY (cC 4<|aO uU<|aC (aA 0)<|aC (jP<|aC (e2 Mb (aA 3)<|eI 0)<|aC (aA 2) aP) aP)<|cA<|yu<|aC (e2 Mb (aA 4)<|eI 0)<|aC (e2 Mb (e2 Mb (aA 4)<|eI 1)<|eI 0)<|aC (eC<|.str [])<|aC (e2 Mb (e2 Mb (aA 4)<|eI 1)<|eI 1) aP) cO) st
def U_:Bd:=aY (nO (jb 2) (Yc<|aO cT<|aC (aA 0)<|aC (aO iD<|aC (aA 0)<|aC (eI 0) aP)<|aC (aA 1) aP) iW)<|cA<|eC .lc
def gB:List D->R D:=bV 2 5 U_
def k_:Bd:=aY (cC 2<|aO gB<|aC (aA 1)<|aC (eC<|.bl false) aP)<|cA<|Gq (e2 Vp (aA 2)<|eC .lc) (aA 2)<|aO gB<|aC (aA 1)<|aC (eC<|.bl true) aP
def jH:List D->R D:=bV 2 3 k_
def Τ:Bd:=cA<|aO gB<|aC (aA 1)<|aC (eC<|.bl false) aP
def mG:List D->R D:=bV 2 2 Τ
def l_:Bd:=cA<|aO gB<|aC (aA 1)<|aC (eC<|.bl true) aP
def jJ:List D->R D:=bV 2 2 l_
def ZQ(st:ua):R D:=(Gq (aO gQ<|aC (aA 1)<|aC (aA 4) aP) (aA 2)<|aA 3) st
def ϫ:Bd:=cA<|cN [4] (jb 4) (tH<|e1 (dY "Machine" "many")<|aA 0) dB ZQ
def oZ:List D->R D:=bV 4 5 ϫ
def XR(st:ua):R Fl:=(cC 1<|e2 Xj (aA 1)<|aA 2) st
def ł:Bd:=aY (cC 1<|eI 0)<|aY (nO (jb 2) (Yc<|aA 0) XR)<|cA<|aA 1
def gw:List D->R D:=bV 1 3 ł
def V_(st:ua):R D:=(aA 3) st
def W_(st:ua):R D:=(e2 zg (e2 qJ (e2 Mb (aA 2)<|aA 3)<|aA 1)<|eI 0) st
def Ϭ:Bd:=aY (cC 2<|aO kO<|aC (e1 (dY "Machine" "steps")<|aA 0)<|aC (aO mC<|aC (aA 0) aP) aP)<|cA<|aO jV<|aC (cN [3] (jb 3) (tH<|e1 (dY "Machine" "many")<|aA 0) W_ V_) aP
def zQ:List D->R D:=bV 2 4 Ϭ
def X8:Bd:=aY (cC 2<|aO mC<|aC (aA 0) aP)<|aY (cC 3<|aO gw<|aC (aO cT<|aC (aA 0)<|aC (aA 2)<|aC (aA 1) aP) aP)<|cA<|e2 Mx (aA 2)<|aO zQ<|aC (aA 0)<|aC (aA 3) aP
def jE:List D->R D:=bV 2 4 X8
def X_:Bd:=cA<|aO jE<|aC (aA 0)<|aC (eC<|.bl true) aP
def uI:List D->R D:=bV 1 1 X_
def J8:Bd:=cA<|aO oZ<|aC (aA 1)<|aC (aO uI<|aC (aA 1) aP)<|aC (eI 1)<|aC (eI 0) aP
def fG:List D->R D:=bV 2 2 J8
def Y_:Bd:=cA<|aO jE<|aC (aA 0)<|aC (eC<|.bl false) aP
def uJ:List D->R D:=bV 1 1 Y_
def B8:Bd:=cA<|aO oZ<|aC (aA 1)<|aC (aO uJ<|aC (aA 1) aP)<|aC (eI 0)<|aC (eI 1) aP
def gG:List D->R D:=bV 2 2 B8
def K8:Bd:=aY (cC 2<|aO gw<|aC (aO cT<|aC (aA 1)<|aC (aO iD<|aC (aA 1)<|aC (eI 0) aP)<|aC (eC<|.bl true) aP) aP)<|cA<|aO oZ<|aC (aA 1)<|aC (aA 2)<|aC (eI 0)<|aC (eI 1) aP
def gW:List D->R D:=bV 2 3 K8
def m_:Bd:=cA<|aO fZ<|aC (aA 0)<|aC (aO iD<|aC (aA 0)<|aC (eI 0) aP) aP
def rJ:List D->R D:=bV 1 1 m_
def Z_:Bd:=cA<|Gq (e2 Qc (e2 Qc (e2 pL (aA 0)<|eI 2)<|eI 0)<|aA 1) (aA 0)<|e2 qM (aA 0)<|eI 1
def uK:List D->R D:=bV 2 2 Z_
def yL(rec:List D->R D)(st:ua):R Fl:=(aY (cC 7<|aO rec<|aC (aA 0)<|aC (aA 5)<|aC (aA 2) aP)<|aY (cC 4<|e2 kx (aA 4)<|e2 qM (e1 WC<|aA 7)<|eI 1)<|Nx 3<|aA 7) st
def yM(rec:List D->R D)(st:ua):R Fl:=(VC 3 (aA 6)<|aA 4) st
def KQ(rec:List D->R D):Bd:=aY (lx 3 false)<|aY (cC 4<|aO uK<|aC (aA 2)<|aC (aO nF<|aC (aA 0)<|aC (aA 1) aP) aP)<|aY (nO (jb 5) (Yc<|aO iH<|aC (aA 0)<|aC (aA 1) aP)<|(yL rec))<|aY (nO (jb 6) (Yc<|aO cB<|aC (aA 1) aP)<|(yM rec))<|uk [3]<|cA<|aA 3
def lD:Nat->List D->R D
 |0=>bV 3 8 qO
 |n+1=>bV 3 8<|KQ<|lD n
def pQ:List D->R D:=lD 12
def LQ(st:ua):R Fl:=(Nx 2<|aO pQ<|aC (aA 0)<|aC (aA 3)<|aC (aA 1) aP) st
def vC(st:ua):R D:=(zu (lO 2) (aA 4)<|aA 1) st
def TQ:Bd:=aY (lx 2 false)<|aY (nO (jb 3) (Yc<|aO rJ<|aC (aA 0) aP) LQ) cO
def P':Bd:=sS TQ<|cN [4] (jb 4) (tH<|e1 (dY "Machine" "many")<|aA 0) dB vC
def pR:List D->R D:=bV 2 5 P'
def Y8:Bd:=cA<|aO pR<|aC (aA 1)<|aC (eI 1) aP
def jF:List D->R D:=bV 2 2 Y8
def L8:Bd:=cA<|aO pR<|aC (aA 1)<|aC (eI 0) aP
def gY:List D->R D:=bV 2 2 L8
def yN:Bd:=cA<|mY (eB xu<|aA 0)<|mY (e2 zv (e1 lW<|aA 0)<|eI 1)<|e2 Qi (e1 lW<|aA 0)<|aA 1
def fO:List D->R D:=bV 2 2 yN
def VG(st:ua):R D:=(aO qW<|aC (aA 3)<|aC (aA 2) aP) st
def hU:Bd:=cA<|mY (e2 Qc (e1 lW<|aA 0)<|aA 1)<|e1 Dl<|cN [3] (jb 3) (Yc<|aA 0) dB VG
def IA:List D->R D:=bV 3 4 hU
def xM(st:ua):R D:=(aO fO<|aC (aA 1)<|aC (eI 3) aP) st
def xN(st:ua):R D:=(aO IA<|aC (aA 1)<|aC (e1 lW<|e2 Mb (aA 0)<|eI 0)<|aC (e1 lW<|aA 0) aP) st
def HR:Bd:=aY (Pd (lQ<|aO fO<|aC (aA 0)<|aC (eI 8) aP) (cA<|eC<|.bl false) cO)<|aY (Pd (lQ<|e1 Dl<|cN [1] (jb 1) (Yc<|aA 0) dB xM) (cA<|eC<|.bl false) cO)<|cA<|e1 Dl<|cN [1] (jb 1) (Yc<|aA 0) dB xN
def wK:List D->R D:=bV 1 2 HR
def xO(st:ua):R D:=(mY (aO qU<|aC (aA 2) aP)<|e2 zv (aA 2)<|eI 0) st
def JR:Bd:=aY (Pd (Ql (lQ<|eB xu<|aA 0)<|e2 zg (e1 lW<|aA 0)<|aA 1) (cA<|eC<|.bl false) cO)<|cA<|e1 Dl<|cN [2] (jb 2) (Yc<|aA 0) dB xO
def wL:List D->R D:=bV 2 3 JR
def mH(st:ua):R D:=(e1 aq<|aA 3) st
def iY:Bd:=aY (Pd (lQ<|aO wK<|aC (aA 1) aP) qO cO)<|aY (Pd (lQ<|aO wL<|aC (aA 2)<|aC (e1 lW<|aA 1) aP) qO cO)<|aY (au 0 "Machine" "steps"<|cN [3] (jb 3) (Yc<|aA 1) dB mH)<|aY (au 0 "Machine" "ranks"<|e1 aq<|aA 2)<|aY (au 0 "Machine" "many"<|e1 lW<|aA 1)<|au 0 "Machine" "letters"<|e1 lW<|e2 Mb (aA 1)<|eI 0
def fP:List D->R D:=zo "Machine" 2 4 iY
def UQ:Bd:=aY (Pd (Ay<|e2 Vp (gP (dJ "EarlyNo" "bar" iG [] (aA 0)<|aC (aA 1) aP)<|gP (dJ "EarlyYes" "bar" iV [] (aA 0)<|aC (aA 1) aP)<|gP (dJ "Settled" "bar" jH [] (aA 0)<|aC (aA 1) aP)<|gP (dJ "Again" "bar" mG [] (aA 0)<|aC (aA 1) aP)<|dJ "Lasting" "bar" jJ [] (aA 0)<|aC (aA 1) aP)<|eC .lc) (ZJ "NoKind"<|aC (eC<|.str [116,104,101,32,109,97,99,104,105,110,101,32,105,115,32,110,111,116,32,111,102,32,116,104,105,115,32,107,105,110,100]) aP) cO)<|Dz<|cA<|aO fP<|aC (e1 (dY "Machine" "steps")<|aA 1)<|aC (gP (dJ "EarlyNo" "ranks_for" fG [] (aA 0)<|aC (aA 1) aP)<|gP (dJ "EarlyYes" "ranks_for" gG [] (aA 0)<|aC (aA 1) aP)<|gP (dJ "Settled" "ranks_for" gW [] (aA 0)<|aC (aA 1) aP)<|gP (dJ "Again" "ranks_for" jF [] (aA 0)<|aC (aA 1) aP)<|dJ "Lasting" "ranks_for" gY [] (aA 0)<|aC (aA 1) aP) aP
def bT:List D->R D:=bV 2 2 UQ
def L9:Bd:=aY (cC 2<|eC<|.bl false)<|aY (Ar (jq<|gP (oX "EarlyNo" "marked" bT [] (aA 0)<|aC (aA 1) aP)<|gP (oX "EarlyYes" "marked" bT [] (aA 0)<|aC (aA 1) aP)<|gP (oX "Settled" "marked" bT [] (aA 0)<|aC (aA 1) aP)<|gP (oX "Again" "marked" bT [] (aA 0)<|aC (aA 1) aP)<|oX "Lasting" "marked" bT [] (aA 0)<|aC (aA 1) aP)<|(["NoKind"],["NoLoop","NoMachine","NoRoom","NoWord"],Y4<|cC 2<|eC<|.bl true)::[])<|cA<|aA 2
def pU:List D->R D:=bV 2 3 L9
def R':Bd:=cA<|mY (eB isIn<|aA 0)<|lQ<|eB DD<|aA 0
def uL:List D->R D:=bV 1 1 R'
def zR(st:ua):R D:=(aA 8) st
def zT(st:ua):R D:=(mY (e2 Qc (e2 qJ (e2 yG (aA 8)<|aA 5)<|eI 1)<|eI 1)<|aO jD<|aC (aA 2)<|aC (aA 8) aP) st
def eR(st:ua):R D:=(aO jD<|aC (aA 2)<|aC (aA 8) aP) st
def fR(st:ua):R D:=(e2 Fq (e2 qJ (aA 8)<|aA 6)<|eI 0) st
def zU(st:ua):R Fl:=(Pd (e2 Qc (aA 3)<|eI 2) (tj 4<|e1 Ao<|e2 Qc (cN [8] (jb 8) (Yc<|aA 1) zT zR)<|jP aP)<|aY (cC 6<|aO fY<|aC (aA 0)<|aC (eI 255)<|aC (e2 Cn (eI 1)<|aA 5) aP)<|aY (cC 7<|cN [8] (jb 8) (Yc<|aA 1) fR eR)<|tj 4<|e2 Mb (jP<|aC (e1 Ao<|e2 uW (eC<|.bl true)<|aA 7)<|aC (e1 Ao<|e2 Yo (eC<|.bl false)<|aA 7) aP)<|aA 3) st
def ϭ:Bd:=aY (tW 4<|jP aP)<|aY (nO (jb 5) (tH<|e1 lW<|aA 2) zU)<|uk [4]<|cA<|aA 4
def kY:List D->R D:=bV 4 9 ϭ
def MQ(st:ua):R Fl:=(Pd (Ql (lQ<|aO uL<|aC (aA 6) aP)<|Ql (mY (e2 Qc (aA 3)<|eI 3)<|lQ<|kq Qi Qi (eI 1) (aA 6)<|eI 2)<|mY (e2 Qc (aA 3)<|eI 4)<|lQ<|kq Qi Qi (eI 0) (aA 6)<|eI 1) (cA<|eC<|.bl false) cO) st
def NQ(st:ua):R Fl:=(aY (cC 7<|e2 Xj (aA 7)<|aA 8)<|Pd (e2 zg (aO jD<|aC (aA 2)<|aC (aA 8) aP)<|aO jD<|aC (e1 (dY "Machine" "ranks")<|aA 0)<|aC (aA 8) aP) (cA<|eC<|.bl false) cO) st
def OQ(st:ua):R D:=(e2 Mb (e1 (dY "Machine" "ranks")<|aA 0)<|aA 10) st
def PQ(st:ua):R D:=(e2 Qc (e2 qJ (e2 yG (aA 7)<|aA 10)<|eI 1)<|eI 0) st
def vD(st:ua):R D:=(aA 6) st
def vG(st:ua):R D:=(e2 zg (aA 6)<|e2 An (eI 4)<|aA 3) st
def U':Bd:=aY (cC 5<|aO mZ<|aC (aA 1) aP)<|aY (Pd (Ql (lQ<|e1 (T1 "Machine")<|aA 0)<|Ql (e2 zg (e1 (dY "Machine" "steps")<|aA 0)<|aA 1)<|e2 zg (e1 lW<|e1 (dY "Machine" "ranks")<|aA 0)<|e1 lW<|aA 1) (cA<|eC<|.bl false) cO)<|aY (nO (jb 6) (Yc<|e1 (dY "Machine" "ranks")<|aA 0) MQ)<|aY (Pd (mY (e2 Ck (aA 3)<|eI 2)<|e2 zg (e1 (dY "Machine" "ranks")<|aA 0)<|aO kY<|aC (aA 5)<|aC (e2 Mb (aA 4)<|eI 1)<|aC (aA 2)<|aC (aA 3) aP) (cA<|eC<|.bl false) cO)<|aY (Pd (mY (e2 Qc (aA 3)<|eI 2)<|e2 zg (e1 (dY "Machine" "ranks")<|aA 0)<|aO kY<|aC (aA 5)<|aC (e2 Mb (aA 4)<|eI 0)<|aC (aA 2)<|aC (aA 3) aP) (cA<|eC<|.bl false) cO)<|aY (cC 7<|eI 0)<|aY (nO (jb 8) (Yc<|e2 Mb (aA 4)<|eI 0) NQ)<|aY (cC 9<|cN [10] (jb 10) (tH<|e1 lW<|aA 1) PQ OQ)<|cA<|Ql (e2 Ck (aA 3)<|eI 3)<|e2 Qc (cN [6] (jb 6) (Yc<|aA 9) vG vD)<|jP aP
def uM:List D->R D:=bV 5 11 U'
def sZ(st:ua):R Fl:=(Pd (lQ<|e2 Mb (aA 5)<|aA 6) (Pd (lQ<|aO pU<|aC (e2 Mb (aA 0)<|aA 6)<|aC (aA 1) aP) (cA<|eC<|.bl false) cO)<|Pd (lQ<|aO uM<|aC (gP (dJ "EarlyNo" "marked" (Wq bT) [] (e2 Mb (aA 0)<|aA 6)<|aC (aA 1) aP)<|gP (dJ "EarlyYes" "marked" (Wq bT) [] (e2 Mb (aA 0)<|aA 6)<|aC (aA 1) aP)<|gP (dJ "Settled" "marked" (Wq bT) [] (e2 Mb (aA 0)<|aA 6)<|aC (aA 1) aP)<|gP (dJ "Again" "marked" (Wq bT) [] (e2 Mb (aA 0)<|aA 6)<|aC (aA 1) aP)<|dJ "Lasting" "marked" (Wq bT) [] (e2 Mb (aA 0)<|aA 6)<|aC (aA 1) aP)<|aC (aA 2)<|aC (aA 3)<|aC (aA 6)<|aC (aA 4) aP) (cA<|eC<|.bl false) cO) st
def Q8:Bd:=aY (cC 5<|aO oA<|aC (aO mZ<|aC (aA 2) aP)<|aC (e2 Mb (aA 4)<|eI 0)<|aC (aA 3) aP)<|aY (nO (jb 6) (tH<|eI 5) sZ)<|cA<|mY (e2 Qc (e1 (dY "Machine" "steps")<|aA 1)<|aA 2)<|e2 Qc (e1 (dY "Machine" "ranks")<|aA 1)<|aA 3
def fQ:List D->R D:=bV 5 7 Q8
def RW(st:ua):R D:=(e1 aq<|aA 10) st
def QI(st:ua):R D:=(aO wI<|aC (aA 8) aP) st
def RI(st:ua):R D:=(aA 11) st
def SI(st:ua):R D:=(lQ<|gP (e1 (yH "EarlyNo" true)<|aA 11)<|gP (e1 (yH "EarlyYes" true)<|aA 11)<|gP (e1 (yH "Settled" true)<|aA 11)<|gP (e1 (yH "Again" true)<|aA 11)<|e1 (yH "Lasting" true)<|aA 11) st
def SW(st:ua):R D:=(e2 qM (aA 9)<|eI 1) st
def UW(st:ua):R D:=(e1 aq<|aA 10) st
def bPb:Bd:=aY (S1 (FF [6,7])<|aO lZ<|aC (aA 0)<|aC (eI 0)<|aC (eI 6) aP)<|aY (cC 1<|aO mZ<|aC (aA 6) aP)<|aY (cC 2<|jP<|aC (aO iJ<|aC (aA 1)<|aC (aO fY<|aC (aA 1)<|aC (eI 255)<|aC (eI 1) aP) aP)<|aC (aO iJ<|aC (aA 1)<|aC (e2 yG (e2 An (e2 xo (eI 2)<|eI 8)<|eI 1)<|e2 An (eI 8)<|e1 lW<|aA 6) aP) aP)<|aY (cC 3<|aO fP<|aC (cN [10] (jb 10) (Yc<|aA 6) dB RW)<|aC (e1 aq<|aA 7) aP)<|aY (cC 4<|cN [8] (jb 8) (tH<|eI 5) dB QI)<|aY (Pd (e2 zg (cN [11] (jb 11) (Yc<|aA 4) SI RI)<|jP aP) (cA<|eC<|.bl false) cO)<|aY (Pd (lQ<|aO fQ<|aC (aA 4)<|aC (aA 3)<|aC (aA 6)<|aC (aA 7)<|aC (aA 2) aP) (cA<|eC<|.bl false) cO)<|aY (cC 5<|cN [9] (jb 9) (Yc<|aA 7) dB SW)<|aY (Pd (lQ<|aO fQ<|aC (aA 4)<|aC (aO fP<|aC (cN [10] (jb 10) (Yc<|aA 6) dB UW)<|aC (e1 aq<|aA 5) aP)<|aC (aA 6)<|aC (aA 5)<|aC (aA 2) aP) (cA<|eC<|.bl false) cO)<|cA<|aO fQ<|aC (aA 4)<|aC (aA 3)<|aC (aA 6)<|aC (aA 7)<|aC (aA 2) aP
def fu:List D->R D:=bV 1 12 bPb
end
instance:Coe D Sl:=⟨.v⟩
instance:Coe Int D:=⟨.int⟩
instance:Coe Nat D:=⟨λn=>.int n⟩
@[simp] theorem OS(c m:String)(p:List D->R D)(dv:List D)(f:Ex)(r:ue)(st:ua):oX c m p dv f r st=(f st).Vg.bind λx=>(r st).Vg.bind λxs=>match x with|.ins c' ns _=>aW (c'=c/\m∉ns) (p<|x::(xs++dv))|_=>.bad:=rfl
@[simp] theorem kU(x:List D):Dl (.lst x)=(qv x).bind λl=>.ok (.bl<|l.all id):=rfl
@[simp] theorem bNx(x:List D):aq (.lst x)=.ok (.lst x):=rfl
def Ń{x:List D}{l:List Bool}(h:x=l.map D.bl)(ht:∀b∈l,b=true):Dl (.lst x)=.ok (.bl true):=by
 subst h;rw[kU,QW];have:l.all id=true:=Ru.mpr λb hb=>by simp[ht b hb]
 simp[this]
def xn(m:Int)(x:List Nat):Prop:=∀c∈x,97<=c/\(c:Int)<97+m
def aH{a b:Bd}{st:ua}{r:R Fl}(h:a st=.ok (.nx st'))(h2:b st'=r):aY a b st=r:=by
 rw[NI,h];exact h2
def dC{a b:Bd}{st:ua}{r:R Fl}(h:a st=.ok (.nx st))(h2:b st=r):aY a b st=r:=aH h h2
def vH{a b:Bd}{st:ua} (h:a st=.ok (.rt d)):aY a b st=.ok (.rt d):=by
 rw[NI,h];rfl
def bA{b:Bd} {d:D} (h:ds.length=np) (hb:b (ds.map (λd=>some<|.v d)++List.replicate (n-np) none)=.ok (.rt d)):bV np n b ds=.ok d:=by
 rw[OW h,hb];rfl
def YY{b:Bd} {st:ua} (h:ds.length=np) (hb:b (ds.map (λd=>some<|.v d)++List.replicate (n-np) none)=.ok (.nx st)):bV np n b ds=.ok .lc:=by
 rw[OW h,hb];rfl
def GG(n:Nat):lN 0 n=(List.range n).map λ(k:Nat)=>D.int (k:Int):=by
 unfold lN;refine Fn λk _=>?_
 rw[Int.zero_add]
theorem Zz{tg:Tg}{c f:Ex}{st:ua}(g:D->D):∀(ds:List D),(∀d∈ds,∃s1,tg d st=.ok s1/\c s1=.ok (.bl true)/\f s1=.ok (g d))->iR tg c f st ds=.ok (ds.map g)
 |[],_=>rfl
 |d::ds,h=>by
  obtain⟨s1,e1,e2,e3⟩:=h d Jb;rw[lX,e1];simp only[aR,e2,oW,if_true,e3,Zz g ds λd hd=>h d<|mem_cons_of_mem _ hd,map_cons]
def bB{st:ua} (h:f st=.ok d):cC i f st=.ok (.nx<|st.set i d):=by rw[MW,h,aR]
def pW{st:ua} (h:f st=.ok (.lst xs)):tW i f st=.ok (.nx<|st.set i<|some<|.o .l xs):=by rw[ľ,h,aR]
def aJ{r:ue}{st:ua} {x:R D} (h:r st=.ok ds) (hp:p ds=x):aO p r st=x:=by rw[Ľ,h,aR,hp]
def aK{op:Yf} {st:ua} {x:D} {z:R D} (hf:f st=.ok x) (hg:g st=.ok y) (h:op x y=z):e2 op f g st=z:=by rw[rm,hf,aR,hg,aR,h]
def tM{c:Ex}{a b:Bd}{st:ua}{r:R Fl}(h:c st=.ok (.bl true))(ha:a st=r):Pd c a b st=r:=by rw[WJ,h,aR,oW,kb rfl,ha]
def iK{c:Ex}{a b:Bd}{st:ua}{r:R Fl}(h:c st=.ok (.bl false))(hb:b st=r):Pd c a b st=r:=by rw[WJ,h,aR,oW,gb Cg,hb]
def mJ{st:ua}{p q:Bool}(hf:f st=.ok (.bl p))(hg:p=true->g st=.ok (.bl q)):mY f g st=.ok (.bl<|p&&q):=by
 rw[KW,hf,aR,oW];cases p with
 |true=>rw[kb rfl,hg rfl];rfl
 |false=>rfl
def gu{st:ua}{p q:Bool}(hf:f st=.ok (.bl p))(hg:p=false->g st=.ok (.bl q)):Ql f g st=.ok (.bl<|p||q):=by
 rw[bLl,hf,aR,oW];cases p with
 |true=>rfl
 |false=>rw[gb Cg,hg rfl];rfl
def gZ{st:ua}{p:Bool}(hf:f st=.ok (.bl p)):lQ f st=.ok (.bl<|!p):=by rw[LW,hf,aR,oW]
def bO{st:ua} (h:f st=.ok d):cA f st=.ok (.rt d):=by rw[wF,h,aR]
def dR{tg:Tg} {L:Bd} {st:ua} {r:R Fl} (h:it st=.ok xs) (hr:Nb tg L xs st=r):nO tg it L st=r:=by rw[NW,h,aR,hr]
def aN{r:ue}{st:ua}{d:D} (h:f st=.ok d) (hr:r st=.ok ds):aC f r st=.ok (d::ds):=by rw[ļ,h,aR,hr,aR]
def fB{r:ue}{st:ua} (h:r st=.ok ds) (hl:ds.length<=1000:=by exact cj rfl):jP r st=.ok (.lst ds):=by rw[bGy,h,aR,aF<|gO<|bf hl<|by decide]
def xP{i j:Int}(h:0<j):pL (.int i) (.int j)=.ok (.int<|i%j):=aF h
def ww{i j:Int}(h:0<j/\j<1073741824):qm (.int i) (.int j)=.ok (.int<|i/j):=aF h
def vI(i j:Int):Qc (.int i) (.int j)=.ok (.bl<|decide (i=j)):=by
 have:(i==j)=decide (i=j):=by by_cases h:i=j<;>simp[h]
 rw[<-this];exact aF ⟨Ih 64,rfl,rfl⟩
def Rt(i j:Int):zg (.int i) (.int j)=.ok (.bl<|!decide (i=j)):=by
 have:(i==j)=decide (i=j):=by by_cases h:i=j<;>simp[h]
 rw[<-this];exact aF ⟨Ih 64,rfl,rfl⟩
def vJ{st:ua} (h:f st=.ok d) (hs:st[i]?=some (some<|.o .l xs)) (hl:xs.length<1000000):tj i f st=.ok (.nx<|st.set i<|some<|.o .l<|xs++[d]):=by
 rw[bH1,h,aR,hs];exact aF<|Fw<|ky hl<|by decide
def yO{st:ua} (h:f st=.ok (.int n)) (hn:n<=1000000):tH f st=.ok ((List.range n).map λ(k:Nat)=>D.int (k:Int)):=by
 rw[bGz,h,aR,<-GG];exact aF ⟨tw (by omega),zK<|by omega⟩
def eY{E C:Ex}{is:List Nat}{tg:Tg} {st:ua} (h:it st=.ok xs) (hl:xs.length<=1000000) (hc:iR tg C E (Kh is st) xs=.ok ys):cN is tg it C E st=.ok (.lst ys):=by
 rw[HA,h,aR,aF<|gO<|bf hl<|by decide,hc,aR]
def iw{c:Ex}{b:Bd}{st:ua} {r:R Fl} (hc:c st=.ok (.bl true)) (hb:b st=.ok (.nx st')) (hr:oV c b n st'=r):oV c b (n+1) st=r:=by
 rw[BR,hc,aR,oW,kb rfl,hb];exact hr
def yP{c:Ex}{b:Bd}{st:ua} (hc:c st=.ok (.bl false)):oV c b (n+1) st=.ok (.nx st):=by rw[BR,hc,aR,oW,gb Cg]
def dM{tg:Tg}{L:Bd}{d:D}{st s1:ua} {r:R Fl} (ht:tg d st=.ok s1) (hL:L s1=.ok (.nx s2)) (hr:Nb tg L ds s2=r):Nb tg L (d::ds) st=r:=by
 rw[qP,ht,aR,hL];exact hr
def iZ{i:Int} (h:de xs i=some d):Mb (.lst xs) (.int i)=.ok d:=by
 show Oh (de xs i)=_;rw[h];rfl
def U1{p q:Nat}(h:p<q):decide ((p:Int)<(q:Int))=true:=Uc (by omega)
def V1{p q:Nat}(h:¬ p<q):decide ((p:Int)<(q:Int))=false:=fe (by omega)
def yQ{r:R D}{p q:Bool}(h:r=.ok (.bl p))(e:p=q):r=.ok (.bl q):=by rw[h,e]
def pI{st:ua} (h:f st=.ok (.lst xs)):Yc f st=.ok xs:=by rw[bLm,h,aR]
def bLr{st:ua} (h:f st=.ok (.lst ys)) (hs:st[i]?=some (some<|.o .l xs)) (hl:xs.length+ys.length<=big):ED i f st=.ok (.nx<|st.set i<|some<|.o .l<|xs++ys):=by
 rw[bH2,h,aR];dsimp only;rw[hs];exact aF hl
def good(m:Int)(x:List Nat):Bool:=x.all λc=>decide (97<=c/\(c:Int)<97+m)
def AU{m:Int}{x:List Nat}:good m x=true↔xn m x:=by
 unfold good xn;simp
def VW{m:Int}(hm:1<=m)(NN:m<=3){c:Nat}:c∈cut [97,98,99] none (some m)↔97<=c/\(c:Int)<97+m:=by
 have h3:m=1\/m=2\/m=3:=by omega
 rcases h3 with rfl|rfl|rfl
 .show c∈[97]↔_;simp;omega
 .show c∈[97,98]↔_;simp;omega
 .show c∈[97,98,99]↔_;simp;omega
theorem VQ{α:Type}(p:α->Bool):∀x:List α,x.dropWhile p=[]↔∀c∈x,p c=true
 |[]=>by simp
 |a::x=>by
  cases h:p a with
  |true=>rw[V2 h,VQ p x];simp[h]
  |false=>rw[W2 (by simp[h])];simp[h]
theorem takeWhile_all{α:Type}(p:α->Bool):∀(x:List α)(c:α),c∈x.takeWhile p->p c=true
 |[],c,h=>by simp at h
 |a::x,c,h=>by
  cases ha:p a with
  |true=>
   rw[X2 ha]at h;rcases Kc.mp h with rfl|h
   .exact ha
   .exact takeWhile_all p x c h
  |false=>rw[Y2 (by simp[ha])]at h;simp at h
def strip_nil(x y:List Nat):xJ x y=[]↔∀c∈x,c∈y:=by
 unfold xJ;rw[List.reverse_eq_nil_iff,VQ];constructor
 .intro h;have h2:∀c∈x.dropWhile (λc=>y.contains c),c∈y:=λc hc=>by simpa using h c (by simpa using hc)
  have h3:∀c∈x.takeWhile (λc=>y.contains c),c∈y:=λc hc=>by
   simpa using takeWhile_all (λc=>y.contains c) x c hc
  intro c hc;rw[<-P2 (p:=λc=>y.contains c) (l:=x)]at hc
  exact(Hh.mp hc).elim (h3 c) (h2 c)
 .intro h c hc;rw[List.mem_reverse]at hc;have:c∈x:=List.IsSuffix.subset (List.dropWhile_suffix _) hc;simpa using h c this
def Ϯ(x:List Nat)(m:Int)(hm:1<=m)(NN:m<=3)(h:x.length<=1000000):pH [.str x,.int m]=.ok (.bl<|good m x):=by
 unfold pH LH;have e:(xJ x (cut [97,98,99] none<|some m)==[])=good m x:=by
  rw[ay,Sj,strip_nil,AU];exact⟨λz c hc=>(VW hm NN).mp<|z c hc,λz c hc=>(VW hm NN).mpr<|z c hc⟩
 simp[CD,show x.length<=big from gO (by omega),e]
def V'(d:D)(m:D)(hs:CD d=false)(hb:yo d=true):pH [d,m]=.ok (.bl false):=by
 unfold pH LH;simp[hs,hb]
def ba(l:List Nat):List D:=l.map λ(x:Nat)=>D.int (x:Int)
structure Oa(S:List (List Nat))(rk:List Nat)(c:Nat):Prop where
 one:1<=S.length
 most:S.length<=8
 c1:1<=c
 c3:c<=3
 row:∀r∈S,r.length=c/\∀x∈r,x<S.length
 Wl:rk.length=S.length
def Pb(S:List (List Nat)):List D:=S.map λr=>D.lst<|ba r
theorem BU{tg:Tg}{c f:Ex}{st:ua}{P:D->D->Prop}:∀(ds:List D),(∀d∈ds,∃s1 y,tg d st=.ok s1/\c s1=.ok (.bl true)/\f s1=.ok y/\P d y)->∃ys,iR tg c f st ds=.ok ys/\ys.length=ds.length/\∀y∈ys,∃d∈ds,P d y
 |[],_=>⟨[],rfl,rfl,λ_ h=>nomatch h⟩
 |d::ds,h=>by
  obtain⟨s1,y,e1,e2,e3,e4⟩:=h d Jb;obtain⟨ys,e5,e6,e7⟩:=BU ds λd hd=>h d<|Qb _ hd
  refine⟨y::ys,?_,by simp[e6],λz hz=>?_⟩
  .rw[lX,e1];simp[e2,e3,e5]
  .rcases Kc.mp hz with rfl|hz
   .exact⟨d,Jb,e4⟩
   .obtain⟨d',h1,h2⟩:=e7 z hz;exact⟨d',Qb _ h1,h2⟩
def JA{E:Ex}{st:ua}{v:Nat}{xs:List D}(hv:st[v]?=some (some<|.v<|.lst xs))(hl:xs.length<=100000)(h:∀d∈xs,E ((st.set j none).set j d)=.ok (.bl true)):e1 Dl (cN [j] (jb j) (Yc<|aA v) dB E) st=.ok (.bl true):=by
 have e:=Zz (tg:=jb j) (c:=dB) (f:=E) (st:=st.set j none) (λ_=>D.bl true) xs λd hd=>⟨_,rfl,rfl,h d hd⟩
 have e2:xs.map (λ_=>D.bl true)=(xs.map λ_=>true).map D.bl:=by simp
 simp[hv,show xs.length<=big from gO (by omega),e]
 rw[e2,<-kU];exact Ń rfl λb hb=>by obtain⟨_,_,z⟩:=bg.mp hb;exact z.symm
def QS{E:Ex}{st:ua}{v:Nat}{xs:List D}(hv:st[v]?=some (some<|.v<|.lst xs))(hl:xs.length<=100000)(h:∀d∈xs,E ((st.set j none).set j d)=.ok d):cN [j] (jb j) (Yc<|aA v) dB E st=.ok (.lst xs):=by
 have e:=Zz (tg:=jb j) (c:=dB) (f:=E) (st:=st.set j none) id xs λd hd=>⟨_,rfl,rfl,h d hd⟩
 simp[hv,show xs.length<=big from gO (by omega),e]
def SS(i:Int):qU [.int i]=.ok (.bl true):=by
 unfold qU VR;simp[isIn,DD]
def US{x:Nat}(h:x<n):qW [.int x,.int n]=.ok (.bl true):=by
 have hw:=SS x;unfold qW WR;simp[hw,h]
def VS(xs:List D)(m:Int):fO [.lst xs,.int m]=.ok (.bl<|decide (1<=(xs.length:Int))&&decide ((xs.length:Int)<=m)):=by
 unfold fO yN
 by_cases h:1<=xs.length
 .have h':(1:Int)<=xs.length:=by omega
  simp[xu,h,h']
 .have h':¬ (1:Int)<=xs.length:=by omega
  simp[xu,h,h']
def aZ(r:List Nat):(ba r).length=r.length:=by unfold ba;simp
def nG(S:List (List Nat)):(Pb S).length=S.length:=by unfold Pb;simp
def KA{r:List Nat} (h:d∈ba r):∃x∈r,d=.int (x:Nat):=by
 obtain⟨x,h1,h2⟩:=bg.mp h;exact⟨x,h1,h2.symm⟩
def xw{S:List (List Nat)} (h:d∈Pb S):∃r∈S,d=.lst (ba r):=by
 obtain⟨x,h1,h2⟩:=bg.mp h;exact⟨x,h1,h2.symm⟩
def bLs(r:List Nat)(n:Nat)(h:∀x∈r,x<n)(hl:r.length<=1000):IA [.lst<|ba r,.int r.length,.int n]=.ok (.bl true):=by
 have e:=JA (E:=VG) (st:=[D.lst<|ba r,r.length,n,none]) (j:=3) (v:=0) (xs:=ba r) rfl (by rw[aZ];omega) (λd hd=>by
  obtain⟨x,hx,rfl⟩:=KA hd;have:=h x hx;simp[VG,US this])
 refine bA rfl ?_
 unfold hU;have h1:e2 Qc (e1 lW<|aA 0) (aA 1) [D.lst<|ba r,r.length,n,none]=.ok (.bl true):=by simp[aZ]
 show cA _ [D.lst<|ba r,r.length,n,none]=_;rw[wF,KW,h1];show (e1 Dl _ _).bind _=_;rw[e];rfl
def mD(S:List (List Nat))(rk:List Nat)(c:Nat):D:=.ins "Machine" ["steps","ranks","many","letters"] [.lst<|Pb S,.lst<|ba rk,.int S.length,.int c]
section
variable {c:Nat}
def Oa.kP(M:Oa S rk c):∃r T,S=r::T/\r.length=c:=by
 cases S with
 |nil=>exact absurd M.one (by simp)
 |cons r T=>exact⟨r,T,rfl,(M.row r Jb).1⟩
def Oa.JY(M:Oa S rk c):∃r,r∈S/\de (Pb S) 0=some (.lst<|ba r)/\r.length=c:=by
 obtain⟨r,T,rfl,h⟩:=M.kP;refine⟨r,Jb,?_,h⟩;have:=Fc (xs:=Pb<|r::T) (i:=0) (by simp[Pb])
 simpa [Pb] using this
def ń(M:Oa S rk c):wK [.lst<|Pb S]=.ok (.bl true):=by
 obtain⟨r0,VN,e0,l0⟩:=M.JY;have h1:=M.one;have h8:=M.most;have f1:=VS (Pb S) 8;rw[nG]at f1;have f1':fO [.lst<|Pb S,.int 8]=.ok (.bl true):=by rw[f1];congr 2;simp;omega
 have a1:=JA (E:=xM) (st:=[D.lst<|Pb S,none]) (j:=1) (v:=0) (xs:=Pb S) rfl (by rw[nG];omega) (λd hd=>by
  obtain⟨r,hr,rfl⟩:=xw hd;have f:=VS (ba r) 3;rw[aZ,(M.row r hr).1]at f;have h3:=M.c3;have h0:=M.c1;simp[xM,f];omega)
 have a2:=JA (E:=xN) (st:=[D.lst<|Pb S,none]) (j:=1) (v:=0) (xs:=Pb S) rfl (by rw[nG];omega) (λd hd=>by
  obtain⟨r,hr,rfl⟩:=xw hd;have h3:=M.c3;have f:=bLs r S.length (M.row r hr).2 (by rw[(M.row r hr).1];omega)
  have el:(ba r0).length=r.length:=by rw[aZ,l0,(M.row r hr).1]
  simp[xN,e0,el,nG,f])
 refine bA rfl ?_
 unfold HR;refine dC (by simp[f1'])<|dC ?_ ?_
 .rw[WJ,LW];show ((e1 Dl _ [D.lst<|Pb S,none]).bind _).bind _=_;rw[a1];rfl
 .rw[wF];show (e1 Dl _ [D.lst<|Pb S,none]).bind _=_;rw[a2];rfl
def Ņ(M:Oa S rk c):wL [.lst<|ba rk,.int S.length]=.ok (.bl true):=by
 have h8:=M.most;have a1:=JA (E:=xO) (st:=[D.lst<|ba rk,S.length,none]) (j:=2) (v:=0) (xs:=ba rk) rfl (by rw[aZ,M.Wl];omega) (λd hd=>by
  obtain⟨x,hx,rfl⟩:=KA hd;simp[xO,SS])
 refine bA rfl ?_
 unfold JR;refine dC (by simp[xu,aZ,M.Wl]) ?_
 rw[wF];show (e1 Dl _ [D.lst<|ba rk,S.length,none]).bind _=_;rw[a1];rfl
def yR:dY "Machine" "many" (mD S rk c)=.ok (.int S.length):=by unfold mD;rw[FA,aF rfl];rfl
def Υ:dY "Machine" "letters" (mD S rk c)=.ok (.int c):=by unfold mD;rw[FA,aF rfl];rfl
def lJ:dY "Machine" "steps" (mD S rk c)=.ok (.lst<|Pb S):=by unfold mD;rw[FA,aF rfl];rfl
end
section
variable {c:Nat}
def UI(M:Oa S rk c):fP [.lst<|Pb S,.lst<|ba rk]=.ok (mD S rk c):=by
 obtain⟨r0,VN,e0,l0⟩:=M.JY;have h8:=M.most;refine bGx λx=>?_
 unfold bu;rw[aF<|show ([D.lst<|Pb S,D.lst<|ba rk]:List D).length=2 from rfl]
 have hs:=ń M;have hk:=Ņ M;have cp:=QS (E:=mH) (st:=[some<|.o (.i x "Machine" []) [],D.lst<|Pb S,D.lst<|ba rk,none]) (j:=3) (v:=1) (xs:=Pb S) rfl (by rw[nG];omega) (λd hd=>by
  obtain⟨r,hr,rfl⟩:=xw hd;simp[mH])
 have key:iY [some<|.o (.i x "Machine" []) [],D.lst<|Pb S,D.lst<|ba rk,none]=.ok (.nx [some<|.o (.i x "Machine" ["steps","ranks","many","letters"]) [.lst<|Pb S,.lst<|ba rk,.int S.length,.int c],D.lst<|Pb S,D.lst<|ba rk,none]):=by
  unfold iY;refine dC (by simp[hs])<|dC (by simp[nG,hk]) ?_
  refine aH (st':=[some<|.o (.i x "Machine" ["steps"]) [.lst<|Pb S],D.lst<|Pb S,D.lst<|ba rk,none]) ?_ ?_
  .rw[Ŀ,cp];simp
  refine aH (st':=[some<|.o (.i x "Machine" ["steps","ranks"]) [.lst<|Pb S,.lst<|ba rk],D.lst<|Pb S,D.lst<|ba rk,none]) (by simp) ?_
  refine aH (st':=[some<|.o (.i x "Machine" ["steps","ranks","many"]) [.lst<|Pb S,.lst<|ba rk,.int S.length],D.lst<|Pb S,D.lst<|ba rk,none]) (by simp[nG]) ?_
  simp[e0,aZ,l0]
 show (iY [some<|.o (.i x "Machine" []) [],D.lst<|Pb S,D.lst<|ba rk,none]).bind _=_;rw[key];simp[mD]
end
def MH(x:Nat)(l:List Nat):ba (x::l)=.int (x:Nat)::ba l:=rfl
def ņ(r:List Nat)(S:List (List Nat)):Pb (r::S)=.lst (ba r)::Pb S:=rfl
theorem fU:∀l:List Nat,gF (ba l)=true/\oU (ba l)=0/\lV (ba l) (ba l)=true
 |[]=>⟨rfl,by unfold ba;simp,by unfold ba;simp[lV]⟩
 |x::l=>by
  obtain⟨h1,h2,h3⟩:=fU l;rw[MH];refine⟨by simp[h1],by simp[h2],?_⟩
  unfold lV;rw[h3];simp
theorem WS:∀S:List (List Nat),gF (Pb S)=true/\oU (Pb S)<=1/\lV (Pb S) (Pb S)=true
 |[]=>⟨rfl,by unfold Pb;simp,by unfold Pb;simp[lV]⟩
 |r::S=>by
  obtain⟨h1,h2,h3⟩:=WS S;obtain⟨k1,k2,k3⟩:=fU r;have kd:Of (.lst<|ba r)=1:=by unfold Of;rw[k2]
  have ke:Fd (.lst<|ba r) (.lst<|ba r)=true:=by(conv=>lhs;unfold Fd);exact k3
  have kp:plain (.lst<|ba r)=true:=by(conv=>lhs;unfold plain);exact k1
  rw[ņ];refine⟨by rw[lY,kp,h1];rfl,by rw[JH,kd];omega,?_⟩
  conv=>lhs;unfold lV
  rw[ke,h3];rfl
def VI(l:List Nat):zg (.lst<|ba l) (.lst<|ba l)=.ok (.bl false)/\Qc (.lst<|ba l) (.lst<|ba l)=.ok (.bl true):=by
 obtain⟨k1,k2,k3⟩:=fU l;have kd:Of (.lst<|ba l)=1:=by unfold Of;rw[k2]
 have ke:Fd (.lst<|ba l) (.lst<|ba l)=true:=by(conv=>lhs;unfold Fd);exact k3
 have kp:plain (.lst<|ba l)=true:=by(conv=>lhs;unfold plain);exact k1
 rw[YJ,XJ,aF ⟨by omega,kp,kp⟩,aF ⟨by omega,kp,kp⟩,ke]
 exact⟨rfl,rfl⟩
def ZY(S:List (List Nat)):zg (.lst<|Pb S) (.lst<|Pb S)=.ok (.bl false)/\Qc (.lst<|Pb S) (.lst<|Pb S)=.ok (.bl true):=by
 obtain⟨k1,k2,k3⟩:=WS S;have kd:Of (.lst<|Pb S)<=2:=by unfold Of;omega
 have ke:Fd (.lst<|Pb S) (.lst<|Pb S)=true:=by(conv=>lhs;unfold Fd);exact k3
 have kp:plain (.lst<|Pb S)=true:=by(conv=>lhs;unfold plain);exact k1
 rw[YJ,XJ,aF ⟨by omega,kp,kp⟩,aF ⟨by omega,kp,kp⟩,ke]
 exact⟨rfl,rfl⟩
section
variable{S:List (List Nat)}{rk:List Nat}{c:Nat}
def Me(S:List (List Nat))(q a:Nat):Nat:=(S.getD q []).getD a 0
def Kw(M:Oa S rk c){q a:Nat}(hq:q<S.length)(ha:a<c):∃r,de (Pb S) (q:Int)=some (.lst<|ba r)/\de (ba r) (a:Int)=some (.int<|Me S q a)/\Me S q a<S.length:=by
 have hr:=M.row S[q] (Oj hq);have Aj:a<S[q].length:=by rw[hr.1];exact ha
 have e:Me S q a=S[q][a]:=by
  simp[Me,getD_eq_getElem?_getD,List.getElem?_eq_getElem hq,List.getElem?_eq_getElem Aj]
 refine⟨S[q],?_,?_,?_⟩
 .rw[Fc (by rw[nG];exact hq)];simp[Pb]
 .rw[Fc (by rw[aZ];exact Aj),e];simp[ba]
 .rw[e];exact hr.2 _<|Oj Aj
def Ň(h:m<=3){ch:Nat}(h1:97<=ch)(h2:(ch:Int)<97+m):qK [97,98,99] [ch] 0=some (ch-97):=by
 have:ch=97\/ch=98\/ch=99:=by omega
 rcases this with rfl|rfl|rfl<;>rfl
def bH4(M:Oa S rk c){q ch:Nat}(hq:q<S.length)(h1:97<=ch)(h2:(ch:Int)<97+c):∃r,de (Pb S) (q:Int)=some (.lst<|ba r)/\de (ba r) (((ch-97:Nat)):Int)=some (.int<|Me S q<|ch-97)/\Me S q (ch-97)<S.length:=Kw M hq (by omega)
def runs(S:List (List Nat)):Nat->List Nat->List Nat
 |_,[]=>[]
 |q,ch::x=>Me S q (ch-97)::runs S (Me S q<|ch-97) x
def vK(S:List (List Nat)):Nat->List Nat->Nat
 |q,[]=>q
 |q,ch::x=>vK S (Me S q<|ch-97) x
end
theorem mK:∀(n:Nat)(l:List Nat),l.Nodup->(∀x∈l,x<n)->l.length<=n
 |0,l,_,h=>by
  cases l with
  |nil=>exact Zc _
  |cons x l=>exact absurd (h x Jb) (by omega)
 |n+1,l,nd,h=>by
  have ih:=mK n (l.erase n) (nd.erase n) λx hx=>by
   have h1:=h x<|List.mem_of_mem_erase hx;have h2:x≠n:=λe=>((nd.mem_erase_iff).mp hx).1 e
   omega
  by_cases hm:n∈l
  .rw[List.length_erase_of_mem hm]at ih;omega
  .rw[List.erase_of_not_mem hm]at ih;omega
def AB(g:Nat)(l:List Nat):inD (.int g) (ba l)=decide (g∈l):=by
 unfold inD ba;rw[ly]
 by_cases h:g∈l
 .rw[Uc h,Hr];exact⟨g,h,by simp[Fd]⟩
 .rw[fe h,cE];intro x hx
  have : ¬ (x : Int) = (g : Int) := fun z => h (by have : x = g := by omega
                                                   rw[<-this];exact hx)
  simp[Fd,this]
def YB{q:Nat}(hq:q<S.length):de (Pb S) (q:Int)=some (.lst<|ba S[q]):=by
 rw[Fc (by rw[nG];exact hq)]
 unfold Pb;rw[JM]
section
variable{S:List (List Nat)}{rk:List Nat}{c:Nat}
def jI{m:String} {r:ue} {st:ua} (hf:f st=.ok (mD S rk c)) (hr:r st=.ok xs) (hm:m∉["steps","ranks","many","letters"]):dJ "Machine" m p dv f r st=p (mD S rk c::(xs++dv)):=by
 rw[GA,hf,hr];exact aF ⟨rfl,hm⟩
def bPe(c:Nat):D->Bool
 |.str x=>good c x
 |_=>false
def ň(M:Oa S rk c)(d:D)(hb:yo d=true)(hl:∀x,d=.str x->x.length<=1000000):pH [d,.int c]=.ok (.bl<|bPe c d):=by
 have h1:=M.c1;have h3:=M.c3;cases d<;>first|(exact V' _ _ rfl hb)|skip
 exact Ϯ _ _ (by omega) (by omega)<|hl _ rfl
theorem YR(M:Oa S rk c)(a t:Option Sl)(ha:a=some (.v<|mD S rk c)):∀(x:List Nat)(q:Nat)(xa:List Nat)(l:Option Sl),q<S.length->xn c x->xa.length+x.length<=1000000->∃l',Nb (jb 4) jW (x.map λch=>D.str [ch]) [a,q,t,some<|.o .l<|ba xa,l] =
  .ok (.nx [a,vK S q x,t,some<|.o .l<|ba<|xa++runs S q x,l'])
 |[],q,xa,l,_,_,_=>⟨l,by simp[vK,runs]⟩
 |ch::x,q,xa,l,h,hx,hl=>by
  rw[Te]at hl;obtain⟨h1,h2⟩:=hx ch Jb;obtain⟨r,e1,e2,h3⟩:=bH4 M h h1 h2;obtain⟨l',e⟩:=YR M a t ha x (Me S q<|ch-97) (xa++[Me S q<|ch-97]) (D.str [ch]) h3 (λz hz=>hx z<|Qb _ hz) (by rw[Wf,Gh];omega)
  refine⟨l',?_⟩;have f:=Ň M.c3 h1 h2;have en:ba (xa++[Me S q<|ch-97])=ba xa++[D.int<|Me S q<|ch-97]:=by unfold ba;simp
  rw[en]at e;rw[Vd,qP,show runs S q (ch::x)=Me S q (ch-97)::runs S (Me S q<|ch-97) x from rfl,show xa++Me S q (ch-97)::runs S (Me S q<|ch-97) x=xa++[Me S q<|ch-97]++runs S (Me S q<|ch-97) x by simp,show vK S q (ch::x)=vK S (Me S q<|ch-97) x from rfl,<-e]
  subst ha;simp[jW,lJ,e1,f,e2,aZ,show xa.length<big from Fw (by omega)]
def CU(M:Oa S rk c){q:Nat}(hq:q<S.length)(x:List Nat)(hx:xn c x)(hl:x.length<=500000):cW [mD S rk c,.int q,.str x]=.ok (.lst<|ba<|q::runs S q x):=by
 obtain⟨l',e⟩:=YR M _ (D.str x) rfl x q [q] none hq hx (by simp;omega)
 refine bA rfl ?_
 have hb:eZ [mD S rk c,q,D.str x,none,none]=.ok (.nx [mD S rk c,vK S q x,D.str x,some<|.o .l<|ba<|[q]++runs S q x,l']):=by
  unfold eZ;refine aH (st':=[mD S rk c,q,D.str x,some<|.o .l<|ba [q],none]) (by simp[ba])<|aH (by
   simp[show x.length<=big from gO (by omega)]
   exact e) rfl
 show oo eZ 3 [mD S rk c,q,D.str x,none,none]=_;unfold oo;rw[hb];rfl
theorem XS:∀(x:List Nat)(q:Nat),(q::runs S q x).getLast?=some (vK S q x)
 |[],q=>rfl
 |ch::x,q=>by
  have:=XS x<|Me S q<|ch-97;rw[show runs S q (ch::x)=Me S q (ch-97)::runs S (Me S q<|ch-97) x from rfl,List.getLast?_cons_cons,this]
  rfl
def Mi{xs:List α}{a:α}(h:xs.getLast?=some a):de xs (-1)=some a:=by
 have h0:xs≠[]:=λz=>by rw[z]at h;cases h
 have hp:0<xs.length:=List.length_pos_iff.mpr h0;rw[u3]at h;unfold de vh;rw[gb (by decide),kb (by omega)]
 show xs[((-1:Int)+(xs.length:Int)).toNat]?=some a;rw[show ((-1:Int)+(xs.length:Int)).toNat=xs.length-1 by omega]
 exact h
def ô{r:List Nat}{a:Nat}(h:r.getLast?=some a):(ba r).getLast?=some (.int a):=by
 unfold ba;rw[List.getLast?_map,h];rfl
end
def Ts(l:List Nat):Nat->Nat:=λb=>l.foldl (λb r=>b|||2^r) b
theorem WW(r:Nat):∀(l:List Nat)(b:Nat),(Ts l b).testBit r=(b.testBit r||decide (r∈l))
 |[],b=>by simp[Ts]
 |x::l,b=>by
  show (Ts l<|b|||2^x).testBit r=_
  rw[WW r l,Qo,XD]
  by_cases h:x=r
  .simp[h]
  .have h':¬ r=x:=λz=>h z.symm
   simp[h,h']
def cH(l:List Nat):Nat:=Ts l 0
def eO(l:List Nat)(r:Nat):(cH l).testBit r=decide (r∈l):=by
 unfold cH;rw[WW,xq,Bool.false_or]
def bH5{l':List Nat}(h:∀r,r∈l↔r∈l'):cH l=cH l':=Ik λr=>by
 rw[eO,eO,Ir.mpr<|h r]
def aQ(n:Nat):List Nat:=(List.range<|tX n).filter λr=>n.testBit r
def DU(h:tX n<=r):n.testBit r=false:=by
 unfold tX at h
 by_cases h0:(n:Int)=0
 .have:n=0:=by omega
  rw[this,xq]
 .rw[gb h0]at h;have hn:n≠0:=λz=>h0 (by rw[z];rfl)
  have h1:n<2^(n.log2+1):=(Nat.log2_lt hn).mp<|Qu _;exact R3<|Ig h1<|UL (by decide)<|by simpa using h
def aG:r∈aQ n↔n.testBit r=true:=by
 unfold aQ;rw[Be,Se];refine⟨λh=>h.2,λh=>⟨?_,h⟩⟩
 rcases Nat.lt_or_ge r (tX n) with h1|h1
 .exact h1
 .rw[DU h1]at h;cases h
def gJ(n:Nat):cH (aQ n)=n:=Ik λr=>by
 rw[eO];cases h:n.testBit r with
 |true=>exact Uc<|aG.mpr h
 |false=>exact fe λz=>by rw[aG.mp z]at h;cases h
def qX:r∈aQ (cH l)↔r∈l:=by
 rw[aG,eO,Jg]
def bC{k:Nat}(h:n<2^k)(hr:r∈aQ n):r<k:=by
 rw[aG]at hr;rcases Nat.lt_or_ge r k with h1|h1
 .exact h1
 .rw[R3<|Ig h<|UL (by decide) h1]at hr
  cases hr
def EU{k:Nat}(h:n<2^k):tX n<=k:=by
 unfold tX
 by_cases h0:(n:Int)=0
 .rw[kb h0];exact Ih _
 .rw[gb h0];have hn:n≠0:=λz=>h0 (by rw[z];rfl)
  have:n.log2<k:=(Nat.log2_lt hn).mpr h;show (n:Int).natAbs.log2+1<=k;rw[Int.natAbs_natCast];omega
@[simp] theorem ŉ(i j:Int):Cn (.int i) (.int j)=aW (0<=j/\j<=1000000/\i.natAbs<18446744073709551616) (.ok<|.int<|i*2^j.toNat):=rfl
@[simp] theorem bPf(i j:Int):yG (.int i) (.int j)=aW (0<=j) (.ok<|.int<|i/2^j.toNat):=rfl
@[simp] theorem mI(i j:Int):qJ (.int i) (.int j)=aW (0<=i/\0<=j) (.ok<|.int ((i.toNat&&&j.toNat:Nat):Int)):=rfl
@[simp] theorem bH6(i j:Int):Xj (.int i) (.int j)=aW (0<=i/\0<=j) (.ok<|.int ((i.toNat|||j.toNat:Nat):Int)):=rfl
@[simp] theorem bJv(i:Int):yB (.int i)=.ok (.int (tX i:Nat)):=rfl
def nI(n r:Nat):(((n:Int)/2^r).toNat&&&(1:Int).toNat)=if n.testBit r=true then 1 else 0:=by
 have e:((n:Int)/2^r).toNat=n/2^r:=by
  have:(n:Int)/2^r=((n/2^r:Nat):Int):=by push_cast;rfl
  rw[this,dj]
 rw[e,show (1:Int).toNat=1 from rfl,Nat.and_one_is_mod,Nat.testBit_eq_decide_div_mod_eq]
 by_cases h:n/2^r%2=1
 .simp[h]
 .have:n/2^r%2=0:=by omega
  simp[this]
def zV(n r:Nat):gQ [.int n,.int r]=.ok (.bl<|n.testBit r):=by
 have hb:=nI n r;have h0:0<=(n:Int)/2^r:=OM (by omega)<|SM<|by decide
 refine bA rfl ?_
 unfold SR;show cA _ [n,r]=_;have e1:e2 yG (aA 0) (aA 1) [n,r]=.ok (.int<|(n:Int)/2^r):=by simp
 have Xf:e2 qJ (e2 yG (aA 0)<|aA 1) (eC<|.int 1) [n,r]=.ok (.int ((if n.testBit r=true then 1 else 0:Nat):Int)):=by
  rw[rm,e1,aR,RC,aR,mI,aF ⟨h0,by decide⟩,hb]
 rw[wF,rm,Xf];cases n.testBit r<;>simp
theorem fM{tg:Tg}{C E:Ex}{st:ua}{q:Nat->Bool}{G:Nat->D}:∀(ks:List Nat),(∀k∈ks,∃s1,tg (.int k) st=.ok s1/\C s1=.ok (.bl<|q k)/\E s1=.ok (G k))->iR tg C E st (ba ks)=.ok ((ks.filter q).map G)
 |[],_=>rfl
 |k::ks,h=>by
  obtain⟨s1,e1,e2,e3⟩:=h k Jb;have ih:=fM ks λk hk=>h k<|Qb _ hk
  show iR tg C E st (.int k::ba ks)=_;rw[lX,e1];cases hq:q k with
  |true=>
   rw[Ll hq,Vd];simp[e2,e3,hq,ih]
  |false=>
   rw[Ml (by rw[hq];decide)]
   simp[e2,hq,ih]
def HG(n:Nat):lN 0 n=ba (List.range n):=by
 rw[GG];rfl
def lE{k:Nat}(h:n<2^k)(hk:k<=2000):cB [.int n]=.ok (.lst<|ba<|aQ n):=by
 have hb:=EU h;have e:=fM (tg:=jb 1) (C:=zP) (E:=zO) (st:=[some<|.v<|.int n,none]) (q:=λr=>n.testBit r) (G:=λr=>.int r) (List.range<|tX n)<|λr _=>⟨_,rfl,by
  simp[zP,zV n r],by simp[zO]⟩
 refine bA rfl ?_
 unfold TR;show cA _ [some<|.v<|.int n,none]=_;have hi:tH (e1 yB<|aA 0) [some<|.v<|.int n,none]=.ok (ba<|List.range<|tX n):=by
  simp[show ((tX n:Nat):Int)<=(big:Int) from zK (by omega)]
  exact HG _
 rw[wF,HA,hi];simp only[aR,aZ,length_range];rw[aF<|gO<|by omega,show Kh [1] [some<|Sl.v<|D.int n,none]=[some<|.v<|.int n,none] from rfl,e]
 rfl
theorem YS(a:Option Sl):∀(l:List Nat)(b:Nat)(x2:Option Sl),(∀r∈l,r<=1000000)->∃Pz,Nb (jb 2) pG (ba l) [a,b,x2]=.ok (.nx [a,Ts l b,Pz])
 |[],b,x2,_=>⟨x2,rfl⟩
 |r::l,b,x2,h=>by
  obtain⟨Pz,e⟩:=YS a l (b|||2^r) r λr hr=>h r<|Qb _ hr
  refine⟨Pz,?_⟩;have hr:=h r Jb;have Ee:(r:Int)<=1000000:=by omega
  have ee:((1:Int)*2^(r:Int).toNat)=((2^r:Nat):Int):=by push_cast;simp
  show Nb (jb 2) pG (.int r::ba l) _=_;rw[qP];have e3:(2:Int)^r=((2^r:Nat):Int):=by push_cast;rfl
  have t:pG [a,b,r]=.ok (.nx [a,((b|||2^r:Nat):Int),r]):=by
   have h1:e2 Cn (eC<|.int 1) (aA 2) [a,b,r]=.ok (.int ((2^r:Nat):Int)):=by
    simp only[rm,RC,JW,aR,getElem?_cons_succ,List.getElem?_cons_zero];rw[ŉ,aF ⟨by omega,Ee,by decide⟩,ee]
   unfold pG;rw[MW,rm,h1];simp only[JW,aR,getElem?_cons_succ,List.getElem?_cons_zero];rw[bH6,aF ⟨eM _,eM _⟩,dj,dj];rfl
  show (pG [a,b,r]).bind _=_;rw[t];exact e
def xt{l:List Nat}(h:∀r∈l,r<=1000000)(hl:l.length<=1000000):jV [.lst<|ba l]=.ok (.int<|cH l):=by
 obtain⟨Pz,e⟩:=YS (D.lst<|ba l) l 0 none h;refine bA rfl ?_
 unfold LS;refine aH (st':=[D.lst<|ba l,some<|.v<|.int 0,none]) (by simp) ?_
 refine aH (st':=[D.lst<|ba l,cH l,Pz]) ?_ (by simp)
 rw[NW,show Yc (aA 0) [some<|Sl.v<|D.lst<|ba l,some<|.v<|.int 0,none]=.ok (ba l) from rfl,aR]
 exact e
def ϯ{k:Nat}(h:n<2^k):(List.range k).filter (λr=>n.testBit r)=aQ n:=by
 have hb:=EU h;unfold aQ;obtain⟨d,rfl⟩:∃d,k=tX n+d:=⟨k-tX n,by omega⟩
 have h0:((List.range d).map (tX n + ·)).filter (λr=>n.testBit r)=[]:=Er.mpr λx hx=>by
  obtain⟨y,_,rfl⟩:=bg.mp hx;rw[DU<|LM _ _];decide
 rw[List.range_add,List.filter_append,h0,uh]
inductive Wc (S:List (List Nat)) (c:Nat) (al:Nat->Bool) (s:Nat):Nat->Prop where
 |here:Wc S c al s s
 |on {r l:Nat}:Wc S c al s r->l<c->al (Me S r l)=true->Wc S c al s (Me S r l)
def dD(n:Nat):(aQ n).Nodup:=List.nodup_range.filter _
def oN{l:List Nat}{k:Nat}(h:∀r∈l,r<k):cH l<2^k:=v3 _ λr hr=>by
 rw[eO];exact fe λz=>by have:=h r z;omega
open Classical in
noncomputable def gH(S:List (List Nat))(c n r:Nat):Nat:=cH<|(List.range S.length).filter λg=>decide (Wc S c (λg=>n.testBit g) r g)
section
variable {c:Nat}
def Xp(M:Oa S rk c) {s g:Nat} (hs:s<S.length) (h:Wc S c al s g):g<S.length:=by
 induction h with
 |here=>exact hs
 |on _ hl _ ih=>obtain⟨_,_,_,h⟩:=Kw M ih hl;exact h
def Lw{s g:Nat}(hs:al s=true)(h:Wc S c al s g):al g=true:=by
 cases h with
 |here=>exact hs
 |on _ _ ha=>exact ha
open Classical in
def iM(M:Oa S rk c){r:Nat}(hr:r<S.length)(g:Nat):(gH S c n r).testBit g=true↔Wc S c (λg=>n.testBit g) r g:=by
 unfold gH;rw[eO,Jg,Be,Se,Jg];exact⟨λh=>h.2,λh=>⟨Xp M hr h,h⟩⟩
def yS:gH S c n r<2^S.length:=oN λg hg=>Se.mp (Be.mp hg).1
def yU(M:Oa S rk c){a b:Nat}(ha:a<S.length):b∈S.getD a []↔∃l,l<c/\Me S a l=b:=by
 have hr:=(M.row S[a] (Oj ha)).1;have hg:S.getD a []=S[a]:=by rw[oi,Nf ha];rfl
 have e:∀l,Me S a l=S[a].getD l 0:=λl=>by unfold Me;rw[hg]
 rw[hg];constructor
 .intro h;obtain⟨l,hl,rfl⟩:=Ux.mp h;exact⟨l,by omega,by rw[e,oi,Nf hl];rfl⟩
 .rintro⟨l,hl,rfl⟩;have UE:l<S[a].length:=by omega
  rw[e,oi,Nf UE];exact Oj UE
def Wc.trans{a b d:Nat}(h1:Wc S c al a b)(h2:Wc S c al b d):Wc S c al a d:=by
 induction h2 with
 |here=>exact h1
 |on _ hl ha ih=>exact .on ih hl ha
end
def bLt(g:Nat)(l:List Nat):Yo (.int g) (.lst<|ba l)=.ok (.bl<|decide (g∈l)):=by
 obtain⟨p1,p2,_⟩:=fU l;rw[<-AB];exact aF ⟨by rw[p2];exact Ih 60,rfl,p1⟩
def eK(h:n<=1000000):Cn (.int 1) (.int n)=.ok (.int ((2^n:Nat):Int)):=by
 have e:((2^n:Nat):Int)=1*2^(n:Int).toNat:=by rw[Int.one_mul,dj];push_cast;rfl
 rw[e];exact aF ⟨by omega,by omega,by decide⟩
def rK(a b:Nat):qJ (.int a) (.int b)=.ok (.int ((a&&&b:Nat):Int)):=by
 rw[<-dj a,<-dj b];exact aF ⟨by omega,by omega⟩
def LA(g:Nat)(l:List Nat):uF (ba l) (.int g)=decide (g∈l):=by
 unfold uF ba;rw[ly]
 by_cases h:g∈l
 .rw[Uc h,Hr];exact⟨g,h,by simp[Ag]⟩
 .rw[fe h,cE];intro x hx
  have : ¬ (x : Int) = (g : Int) := fun z => h (by have e : x = g := by omega
                                                   rw[<-e];exact hx)
  simp[Ag,this]
theorem vL(V:Nat->D){g:Nat}:∀{l:List Nat},g∈l->ji (ba l) (l.map V) (.int g)=some (V g)
 |[],h=>nomatch h
 |x::l,h=>by
  show ji (.int x::ba l) (V x::l.map V) (.int g)=_;unfold ji;rw[dy,List.find?_cons]
  by_cases e:x=g
  .simp[Ag,e]
  .have:¬ (x:Int)=(g:Int):=by omega
   simp only[Ag,beq_eq_false_iff_ne.mpr this];exact vL V<|(Kc.mp h).resolve_left λz=>e z.symm
def jX(l:List Nat)(x:Nat):ba (l++[x])=ba l++[.int x]:=by unfold ba;simp
def yt{ks vs:List D}{g:Nat} (h:ji ks vs (.int g)=some d):Mb (.Ve false ks vs) (.int g)=.ok d:=by
 show aW (Nc false (.int g)=true) (Oh<|ji ks vs<|.int g)=_;rw[aF (c:=Nc false (.int g)=true) rfl,h];rfl
theorem ZS(S:List (List Nat)):∀(x:List Nat)(q ch:Nat),vK S q (x++[ch])=Me S (vK S q x) (ch-97)
 |[],_,_=>rfl
 |y::x,q,ch=>ZS S x _ ch
def yv(al:Nat->Bool)(xa:List (Nat×List Nat))(g:Nat)(w:List Nat):List (Nat×List Nat):=if al g=true/\g∉xa.map (·.1) then xa++[(g,w)] else xa
structure BM(S:List (List Nat))(s c:Nat)(al:Nat->Bool)(p j:Nat)(xa:List (Nat×List Nat)):Prop where
 nd:(xa.map (·.1)).Nodup
 hd:s∈xa.map (·.1)
 lt:∀x∈xa,x.1<S.length/\xn c x.2
 pt:∀x∈xa,vK S s x.2=x.1/\Wc S c al s x.1
 Yi:∀(k:Nat)(x:Nat×List Nat),xa[k]?=some x->x.2.length<=k
 cls:∀(i:Nat)(x:Nat×List Nat)(l:Nat),xa[i]?=some x->l<c->(i<p\/(i=p/\l<j))->al (Me S x.1 l)=true->Me S x.1 l∈xa.map (·.1)
section
variable{S:List (List Nat)}{rk:List Nat}{s c p j:Nat}{al:Nat->Bool}{xa:List (Nat×List Nat)}
def BM.start(hs:s<S.length):BM S s c al 0 0 [(s,[])] where
 nd:=by simp
 hd:=by simp
 lt:=λx hx=>by rw[Ce.mp hx];exact⟨hs,λ_ h=>nomatch h⟩
 pt:=λx hx=>by rw[Ce.mp hx];exact⟨rfl,.here⟩
 Yi:=λk x hx=>by
  have:=Ek hx;rw[Ce.mp this];exact Ih _
 cls:=λi x l _ _ h=>by omega
def BM.next(b:BM S s c al p c xa):BM S s c al (p+1) 0 xa:=⟨b.nd,b.hd,b.lt,b.pt,b.Yi,λi x l h1 h2 h3=>b.cls i x l h1 h2<|by omega⟩
def BM.turn(M:Oa S rk c)(b:BM S s c al p j xa){x:Nat×List Nat}(hx:xa[p]?=some x)(hj:j<c):BM S s c al p (j+1) (yv al xa (Me S x.1 j)<|x.2++[97+j]):=by
 have hp:=(Og.mp hx).1;obtain⟨x1,x2⟩:=b.lt x<|Ek hx;unfold yv
 by_cases h:al (Me S x.1 j)=true/\Me S x.1 j∉xa.map (·.1)
 .rw[kb h];obtain⟨_,_,_,hs⟩:=Kw M x1 hj;refine⟨?_,by rw[Qj];exact Fh _ b.hd,λy hy=>?_,λy hy=>?_,λk y hy=>?_,λi y l hy hl hi ha=>?_⟩
  .rw[Qj];exact Lo.mpr ⟨b.nd,by simp,λu hu v hv e=>h.2 (by
    rw[List.map_singleton,Ce]at hv;have hv:v=Me S x.1 j:=hv;rw[<-hv,<-e];exact hu)⟩
  .rcases Hh.mp hy with hy|hy
   .exact b.lt y hy
   .rw[Ce.mp hy];refine⟨hs,λz hz=>?_⟩
    rcases Hh.mp hz with hz|hz
    .exact x2 z hz
    .rw[Ce.mp hz];exact⟨by omega,by omega⟩
  .rcases Hh.mp hy with hy|hy
   .exact b.pt y hy
   .rw[Ce.mp hy,ZS,(b.pt x<|Ek hx).1,Nat.add_sub_cancel_left];exact⟨rfl,.on (b.pt x<|Ek hx).2 hj h.1⟩
  .by_cases hk:k<xa.length
   .rw[Io hk]at hy;exact b.Yi k y hy
   .have XE:=Ek hy;have hw:=b.Yi p x hx;rw[Tx (by omega)]at hy
    rw[Ce.mp<|Ek hy,Wf,Gh];omega
  .rw[Qj];have yi:i<xa.length:=by omega
   rw[Io yi]at hy
   by_cases hn:i=p/\l=j
   .obtain⟨rfl,rfl⟩:=hn;rw[hx]at hy;cases hy;exact Pg _ (by simp)
   .exact Fh _ (b.cls i y l hy hl (by omega) ha)
 .rw[gb h];refine⟨b.nd,b.hd,b.lt,b.pt,b.Yi,λi y l hy hl hi ha=>?_⟩
  by_cases hn:i=p/\l=j
  .obtain⟨rfl,rfl⟩:=hn;rw[hx]at hy;cases hy;exact Am λz=>h ⟨ha,z⟩
  .exact b.cls i y l hy hl (by omega) ha
def BM.whole(b:BM S s c al xa.length 0 xa){g:Nat}(h:Wc S c al s g):g∈xa.map (·.1):=by
 induction h with
 |here=>exact b.hd
 |on _ hl ha ih=>
  obtain⟨x,hx,rfl⟩:=bg.mp ih;obtain⟨i,hi⟩:=Ju.mp hx;exact b.cls i x _ hi hl (.inl (Og.mp hi).1) ha
def BM.len(b:BM S s c al p j xa):xa.length<=S.length:=by
 have h:=b.nd;have hsub:∀x∈xa.map (·.1),x∈List.range S.length:=λx hx=>by
  obtain⟨y,hy,rfl⟩:=bg.mp hx;exact Se.mpr (b.lt y hy).1
 have:=mK S.length (xa.map (·.1)) h λx hx=>Se.mp<|hsub x hx
 rwa [Yd]at this
def kD(xa:List (Nat×List Nat)):List D:=xa.map λx=>D.int (x.1:Nat)
def kC(xa:List (Nat×List Nat)):(kD xa).length=xa.length:=by unfold kD;simp
def AZ(xa:List (Nat×List Nat))(g:Nat)(w:List Nat):kD (xa++[(g,w)])=kD xa++[.int g]:=by unfold kD;simp
def bPg{k:Nat}{x:Nat×List Nat}(h:xa[k]?=some x):de (kD xa) (k:Int)=some (.int x.1):=by
 have hk:=(Og.mp h).1;rw[Fc (by rw[kC];exact hk)]
 unfold kD;rw[JM,(Og.mp h).2]
def bLu{g:Nat}{w:List Nat}{k:Nat}{x:Nat×List Nat}(h:xa[k]?=some x):(yv al xa g w)[k]?=some x:=by
 unfold yv;split
 .rw[Io (Og.mp h).1];exact h
 .exact h
def sC(g:Nat)(xa:List (Nat×List Nat)):uF (kD xa) (.int g)=decide (g∈xa.map (·.1)):=by
 unfold uF kD;rw[ly]
 by_cases h:g∈xa.map (·.1)
 .rw[Uc h,Hr];obtain⟨x,hx,e⟩:=bg.mp h;exact⟨x,hx,by simp[Ag,e]⟩
 .rw[fe h,cE];intro x hx;have:¬ (x.1:Int)=(g:Int):=λz=>h (bg.mpr ⟨x,hx,by omega⟩)
  simp[Ag,this]
end
def wD(xa:List (Nat×List Nat)):List D:=xa.map λx=>D.str x.2
def kK(nd:(xa.map (·.1)).Nodup){x:Nat×List Nat}(hx:x∈xa):ji (kD xa) (wD xa) (.int x.1)=some (.str x.2):=by
 unfold ji kD wD;rw[List.zip_map',List.find?_map];have:xa.find? ((λp:D×D=>Ag p.1<|.int x.1) ∘ λa=>(D.int (a.1:Nat),D.str a.2))=some x:=by
  induction xa with
  |nil=>cases hx
  |cons y xa ih=>
   rw[List.find?_cons];rw[Vd,Pj]at nd;rcases Kc.mp hx with rfl|hx
   .simp[Ag]
   .have:¬ (y.1:Int)=(x.1:Int):=λz=>nd.1 (bg.mpr ⟨x,hx,by omega⟩)
    simp only[Function.comp,Ag,beq_eq_false_iff_ne.mpr this];exact ih nd.2 hx
 rw[this];rfl
section
variable{S:List (List Nat)}{rk:List Nat}{s c p j:Nat}{al:Nat->Bool}{xa:List (Nat×List Nat)}
def Qh(S:List (List Nat))(s:Nat)(Pe:List Nat)(xa:List (Nat×List Nat))(p:Nat)(x6 x7 x8:Option Sl):ua:=
 [some<|.v<|.lst<|Pb S,some<|.v<|.int s,some<|.v<|.lst<|ba Pe,some<|.o (.d false<|kD xa)<|wD xa,some<|.o .l<|kD xa,some<|.v<|.int p,x6,x7,x8]
def bLv(xa:List (Nat×List Nat)):(wD xa).length=xa.length:=by unfold wD;simp
def bLw(xa:List (Nat×List Nat))(g:Nat)(w:List Nat):wD (xa++[(g,w)])=wD xa++[.str w]:=by unfold wD;simp
def õ(M:Oa S rk c)(Pe:List Nat)(b:BM S s c (λg=>decide (g∈Pe)) p j xa){x:Nat×List Nat}(hx:xa[p]?=some x)(ch g:Nat) :
  rG (Qh S s Pe xa p x.1 (D.str [ch]) g)=.ok (.nx<|Qh S s Pe (yv (λg=>decide (g∈Pe)) xa g<|x.2++[ch]) p x.1 (D.str [ch]) g):=by
 have n8:=M.most;have Pc:=b.len;have hw:=b.Yi p x hx;have hp:p<xa.length:=(Og.mp hx).1;obtain⟨p1,p2,_⟩:=fU Pe;have t1:e2 Yo (aA 8) (aA 2) (Qh S s Pe xa p x.1 (D.str [ch]) g)=.ok (.bl<|decide (g∈Pe)):=aK rfl rfl (by rw[<-AB];exact aF ⟨by rw[p2];decide,rfl,p1⟩)
 have t2:e2 uW (aA 8) (lO 3) (Qh S s Pe xa p x.1 (D.str [ch]) g)=.ok (.bl (!decide (g∈xa.map (·.1)))):=aK rfl rfl (by rw[<-sC];exact aF rfl)
 have t:=mJ t1 λ_=>t2
 unfold yv
 by_cases h:decide (g∈Pe)=true/\g∉xa.map (·.1)
 .rw[kb h];rw[h.1,fe h.2]at t;have hk:uF (kD xa) (.int g)=false:=by rw[sC,fe h.2]
  have ek:sO (kD xa) (.int g)=kD (xa++[(g,x.2++[ch])]):=by
   unfold sO;rw[hk,AZ];rfl
  have ev:wC (kD xa) (wD xa) (.int g) (.str<|x.2++[ch])=wD (xa++[(g,x.2++[ch])]):=by
   unfold wC;rw[hk,bLw];rfl
  refine tM t<|aH (st':=[D.lst<|Pb S,s,D.lst<|ba Pe,some<|.o (.d false<|kD<|xa++[(g,x.2++[ch])])<|wD<|xa++[(g,x.2++[ch])],some<|.o .l<|kD xa,p,x.1,D.str [ch],g]) ?_ ?_
  .have e:e2 qM (e2 Mb (lO 3)<|aA 6) (aA 7) (Qh S s Pe xa p x.1 (D.str [ch]) g)=.ok (.str<|x.2++[ch]):=by
    refine aK (x:=.str x.2) (y:=.str [ch]) (aK rfl rfl ?_) rfl<|aF<|gO<|by show x.2.length+1<=_;omega
    show aW (Nc false (.int x.1)=true) (Oh<|ji (kD xa) (wD xa)<|.int x.1)=_;rw[aF (c:=Nc false (.int x.1)=true) rfl,kK b.nd<|Ek hx];rfl
   unfold wg;rw[e,<-ek,<-ev];exact aF ⟨rfl,Fw<|by rw[bLv];omega⟩
  .rw[vJ (xs:=kD xa) (d:=.int g) rfl rfl (by rw[kC];omega),<-AZ xa g (x.2++[ch])]
   rfl
 .rw[gb h];refine iK (yQ t ?_) rfl;cases h1:decide (g∈Pe) with
  |false=>rfl
  |true=>rw[Uc<|Am λz=>h ⟨h1,z⟩];rfl
theorem ZR(M:Oa S rk c)(Pe:List Nat):∀(m j:Nat) (xa:List (Nat×List Nat)) (x7 x8:Option Sl) (x:Nat×List Nat),j+m=c->BM S s c (λg=>decide (g∈Pe)) p j xa->xa[p]?=some x->
  ∃ag Pp Qp,Nb (FF [7,8]) rG ((List.range' j m).map λl=>D.tup [.str [97+l],.int<|Me S x.1 l]) (Qh S s Pe xa p x.1 x7 x8)=.ok (.nx<|Qh S s Pe ag p x.1 Pp Qp)/\BM S s c (λg=>decide (g∈Pe)) p c ag/\ag[p]?=some x
 |0,j,xa,x7,x8,x,hj,b,hx=>⟨xa,x7,x8,rfl,by rw[show c=j by omega]at b ⊢; exact b,hx⟩
 |m+1,j,xa,x7,x8,x,hj,b,hx=>by
  obtain⟨ag,Pp,Qp,e,b',Sm⟩:=ZR M Pe m (j+1) _ (D.str [97+j]) (Me S x.1 j) x (by omega) (b.turn M hx<|by omega)<|bLu hx
  refine⟨ag,Pp,Qp,?_,b',Sm⟩;rw[List.range'_succ,Vd,qP];show (rG<|Qh S s Pe xa p x.1 (D.str [97+j])<|Me S x.1 j).bind _=_;rw[õ M Pe b hx];exact e
def bH7(M:Oa S rk c){h:Nat}(hh:h<S.length):Nj [97,98,99] (ba S[h])=(List.range' 0 c).map λl=>D.tup [.str [97+l],.int<|Me S h l]:=by
 have hr:=(M.row S[h] (Oj hh)).1;have e:∀l,Me S h l=S[h].getD l 0:=λl=>by simp[Me,getD_eq_getElem?_getD,List.getElem?_eq_getElem hh]
 have h1:=M.c1;have h3:=M.c3;simp only[e];generalize S[h]=r at hr
 match r,hr with
 |[],hr=>simp at hr;omega
 |[a],hr=>subst hr;rfl
 |[a,b],hr=>subst hr;rfl
 |[a,b,d],hr=>subst hr;rfl
 |_::_::_::_::r,hr=>simp at hr;omega
theorem aS(M:Oa S rk c)(Pe:List Nat):∀(m p:Nat) (xa:List (Nat×List Nat)) (x6 x7 x8:Option Sl) (f:Nat),S.length+1<=m+p->m<=f->BM S s c (λg=>decide (g∈Pe)) p 0 xa->p<=xa.length->
  ∃ag x6' Pp Qp,oV xK SQ f (Qh S s Pe xa p x6 x7 x8)=.ok (.nx<|Qh S s Pe ag ag.length x6' Pp Qp)/\BM S s c (λg=>decide (g∈Pe)) ag.length 0 ag
 |0,p,xa,x6,x7,x8,f,hm,hf,b,hp=>by have:=b.len;omega
 |m+1,p,xa,x6,x7,x8,f,hm,hf,b,hp=>by
  obtain⟨f,rfl⟩:∃g,f=g+1:=⟨f-1,by omega⟩
  have test:xK (Qh S s Pe xa p x6 x7 x8)=.ok (.bl<|decide ((p:Int)<((kD xa).length:Nat))):=aK rfl rfl rfl;rw[kC]at test
  by_cases h:p<xa.length
  .have hx:xa[p]?=some xa[p]:=Nf h;generalize xa[p]=x at hx;obtain⟨l1,_⟩:=b.lt x<|Ek hx;obtain⟨ag,Pp,Qp,e,b',Sm⟩:=ZR M Pe c 0 xa x7 x8 x (by omega) b hx
   have hp':p<ag.length:=(Og.mp Sm).1;obtain⟨PK,y6,y7,y8,ew,b3⟩:=aS M Pe m (p+1) ag x.1 Pp Qp f (by omega) (by omega) b'.next (by omega)
   refine⟨PK,y6,y7,y8,iw (yQ test<|U1 h) (st':=Qh S s Pe ag (p+1) x.1 Pp Qp) ?_ ew,b3⟩;refine aH (st':=Qh S s Pe xa p x.1 x7 x8) (bB<|aK rfl rfl<|iZ<|bPg hx)<|aH (st':=Qh S s Pe ag p x.1 Pp Qp) (dR (xs:=Nj [97,98,99]<|ba S[x.1]) ?_ ?_)<|bB rfl
   .show ((e2 Mb (aA 0)<|aA 6)<|Qh S s Pe xa p x.1 x7 x8).bind _=_;rw[aK (rfl:aA 0 (Qh S s Pe xa p x.1 x7 x8)=.ok (.lst<|Pb S)) rfl<|iZ<|YB l1];rfl
   .rw[bH7 M l1];exact e
  .have:p=xa.length:=by omega
   subst this;exact⟨xa,x6,x7,x8,yP<|yQ test<|V1 h,b⟩
def WI(M:Oa S rk c){s:Nat}(hs:s<S.length)(Pe:List Nat):∃xa,sW [.lst<|Pb S,.int s,.lst<|ba Pe]=.ok (.Ve false (kD xa)<|wD xa)/\BM S s c (λg=>decide (g∈Pe)) xa.length 0 xa:=by
 have n8:=M.most;obtain⟨xa,x6,x7,x8,e,b⟩:=aS M Pe (S.length+1) 0 [(s,[])] none none none 100000 (by omega) (by omega) (BM.start hs) (by simp)
 refine⟨xa,bA rfl ?_,b⟩;unfold DR;refine aH (st':=[D.lst<|Pb S,s,D.lst<|ba Pe,some<|.o (.d false<|kD [(s,[])])<|wD [(s,[])],none,none,none,none,none]) (by simp[cK,Kx,atom,kD,wD]) ?_
 refine aH (st':=[D.lst<|Pb S,s,D.lst<|ba Pe,some<|.o (.d false<|kD [(s,[])])<|wD [(s,[])],some<|.o .l<|kD [(s,[])],none,none,none,none]) (by simp[kD]) ?_
 refine aH (st':=Qh S s Pe [(s,[])] 0 none none none) (by simp[Qh]) ?_
 refine aH (st':=Qh S s Pe xa xa.length x6 x7 x8) (by rw[î];exact e) ?_
 simp[Qh,Ss]
end
def Fp(xa:List (Nat×List Nat)):List D:=xa.map λx=>D.tup [.int (x.1:Nat),.str x.2]
theorem BZ:∀xa:List (Nat×List Nat),List.zipWith (λk d=>D.tup [k,d]) (kD xa) (wD xa)=Fp xa
 |[]=>rfl
 |x::l=>congrArg (D.tup [.int (x.1:Nat),.str x.2] :: ·)<|BZ l
def bH8(xa:List (Nat×List Nat)):(Fp xa).length=xa.length:=by unfold Fp;rw[Yd]
section
variable{S:List (List Nat)}{rk:List Nat}{c:Nat}{xa:List (Nat×List Nat)}
abbrev bRl(S:List (List Nat))(c:Nat)(xa:List (Nat×List Nat)):Prop:=BM S 0 c (λg=>decide (g∈List.range S.length)) xa.length 0 xa
def ϰ(M:Oa S rk c):∃xa,oM [mD S rk c]=.ok (.lst<|Fp xa)/\bRl S c xa:=by
 have n8:=M.most;obtain⟨xa,e,b⟩:=WI M (show 0<S.length from M.one)<|List.range S.length
 have hl:=b.len;refine⟨xa,bA rfl ?_,b⟩;have h1:nD [mD S rk c,none]=.ok (.nx [mD S rk c,D.Ve false (kD xa)<|wD xa]):=by
  refine aH (st':=[mD S rk c,D.Ve false (kD xa)<|wD xa]) (bB<|aJ (aN (show dY "Machine" "steps" (mD S rk c)=_ from lJ)<|aN rfl<|aN (d:=.lst<|ba<|List.range S.length) ?_ rfl) e) rfl
  show R.bind (dY "Machine" "many"<|mD S rk c) vw=_;rw[yR,aR,<-(show lN 0 S.length=ba (List.range S.length) by rw[GG];rfl)]
  exact aF ⟨tw (by omega),zK<|by omega⟩
 show sS nD (e1 Jw<|aA 1) [mD S rk c,none]=_;unfold sS;rw[h1];show R.bind (aW ((kD xa).length<=big)<|.ok<|D.lst<|List.zipWith (λk d=>D.tup [k,d]) (kD xa)<|wD xa) _=_
 rw[aF<|gO<|by rw[kC];omega,BZ]
 rfl
end
inductive Pw (B:Nat->Nat->Prop) (K:Nat->Prop):Nat->Nat->Prop where
 |one {a b:Nat}:B a b->Pw B K a b
 |mid {a m b:Nat}:K m->Pw B K a m->Pw B K m b->Pw B K a b
def Pw.cut{B:Nat->Nat->Prop}{K K':Nat->Prop}{k a b:Nat}(hK:∀m,K' m->K m\/m=k)(h:Pw B K' a b):Pw B K a b\/(Pw B K a k/\Pw B K k b):=by
 induction h with
 |one h=>exact .inl<|.one h
 |mid hm _ _ i1 i2=>
  rename_i a m b _ _;rcases hK m hm with hm|rfl
  .rcases i1 with x|⟨x1,x2⟩
   .rcases i2 with y|⟨y1,y2⟩
    .exact .inl (.mid hm x y)
    .exact .inr ⟨.mid hm x y1,y2⟩
   .rcases i2 with y|⟨y1,y2⟩
    .exact .inr ⟨x1,.mid hm x2 y⟩
    .exact .inr ⟨x1,y2⟩
  .exact .inr ⟨i1.elim id λz=>z.1,i2.elim id λz=>z.2⟩
def Pw.mono{B:Nat->Nat->Prop}{K K':Nat->Prop}{a b:Nat}(hK:∀m,K m->K' m)(h:Pw B K a b):Pw B K' a b:=by
 induction h with
 |one h=>exact .one h
 |mid hm _ _ i1 i2=>exact .mid (hK _ hm) i1 i2
def kI(V:Nat->Nat)(m:Nat):Nat->Nat:=λr=>if (V r).testBit m=true then V r|||V m else V r
theorem YW{B:Nat->Nat->Prop}{R:Nat->Prop}(hR:∀a b,R a->B a b->R b):∀(ks ds:List Nat)(V:Nat->Nat),(∀k∈ks,R k)->(∀r,R r->∀g,(V r).testBit g=true↔Pw B (· ∈ ds) r g)->∀r,R r->∀g,((ks.foldl kI V) r).testBit g=true↔Pw B (· ∈ ds++ks) r g
 |[],ds,V,_,h,r,hr,g=>by rw[uh];exact h r hr g
 |k::ks,ds,V,hk,h,r,hr,g=>by
  have e:ds++k::ks=(ds++[k])++ks:=by simp
  rw[e];refine YW hR ks (ds++[k]) (kI V k) (λx hx=>hk x<|Qb _ hx) (λr hr g=>?_) r hr g
  have ip:=hk k Jb;have up:∀{a b:Nat},Pw B (· ∈ ds) a b->Pw B (· ∈ ds++[k]) a b:=λz=>z.mono λm hm=>Fh _ hm
  have FO:k∈ds++[k]:=by simp
  unfold kI
  by_cases hb:(V r).testBit k=true
  .rw[kb hb,Qo,Zu,h r hr g,h k ip g];constructor
   .rintro(z|z)
    .exact up z
    .exact .mid FO (up<|(h r hr k).mp hb) (up z)
   .intro z;rcases z.cut (K:=(· ∈ ds)) (k:=k) (λm hm=>by simpa using hm) with y|⟨_,y⟩
    .exact .inl y
    .exact .inr y
  .rw[gb hb,h r hr g];constructor
   .exact up
   .intro z;rcases z.cut (K:=(· ∈ ds)) (k:=k) (λm hm=>by simpa using hm) with y|⟨y,_⟩
    .exact y
    .exact absurd ((h r hr k).mpr y) hb
section
variable{S:List (List Nat)}{rk:List Nat}{c n:Nat}
def tY(S:List (List Nat))(n:Nat):Nat->Nat:=λr=>(cH (S.getD r [])|||2^r)&&&n
def Ŋ{g:Nat}:(tY S n r).testBit g=true↔(r=g\/g∈S.getD r [])/\n.testBit g=true:=by
 unfold tY;rw[Ol,Qo,eO,XD,wj,Zu,Jg,Jg];exact⟨λh=>⟨h.1.symm,h.2⟩,λh=>⟨h.1.symm,h.2⟩⟩
def ö(M:Oa S rk c)(hn:n<2^S.length) (hr:r∈aQ n) (g:Nat):(((aQ n).foldl kI<|tY S n) r).testBit g=true↔Wc S c (λg=>n.testBit g) r g:=by
 have hp:=YW (B:=λa b=>(a=b\/b∈S.getD a [])/\n.testBit b=true) (R:=(· ∈ aQ n)) (λa b _ h=>aG.mpr h.2) (aQ n) [] (tY S n) (λk hk=>hk) (λr _ g=>by
  rw[Ŋ];constructor
  .exact λh=>.one h
  .intro h;cases h with
   |one h=>exact h
   |mid h _ _=>cases h) r hr g
 rw[hp,Yu];clear hp;constructor
 .intro h;have hi:∀{a b:Nat},Pw (λa b=>(a=b\/b∈S.getD a [])/\n.testBit b=true) (· ∈ aQ n) a b->a∈aQ n->Wc S c (λg=>n.testBit g) a b:=by
   intro a b h
   induction h with
   |one h=>
    intro ha;obtain⟨rfl|h1,h2⟩:=h
    .exact .here
    .obtain⟨l,hl,rfl⟩:=(yU M<|bC hn ha).mp h1;exact .on .here hl h2
   |mid hm _ _ i1 i2=>exact λha=>Wc.trans (i1 ha)<|i2 hm
  exact hi h hr
 .intro h
  induction h with
  |here=>exact .one ⟨.inl rfl,aG.mp hr⟩
  |on h1 hl ha ih=>
   have hx:_∈aQ n:=aG.mpr<|Lw (al:=λg=>n.testBit g) (aG.mp hr) h1
   exact .mid hx ih<|.one ⟨.inr<|(yU M<|bC hn hx).mpr ⟨_,hl,rfl⟩,ha⟩
def ŋ(M:Oa S rk c)(hn:n<2^S.length) (hr:r∈aQ n):((aQ n).foldl kI<|tY S n) r=gH S c n r:=Ik λg=>by
 have e:=(ö M hn hr g).trans (iM M (bC hn hr) g).symm;cases h1:(((aQ n).foldl kI<|tY S n) r).testBit g with
 |true=>exact(e.mp h1).symm
 |false=>
  cases h2:(gH S c n r).testBit g with
  |true=>rw[e.mpr h2]at h1;cases h1
  |false=>rfl
def BB(a b:Nat):Xj (.int a) (.int b)=.ok (.int ((a|||b:Nat):Int)):=by
 rw[<-dj a,<-dj b];exact aF ⟨by omega,by omega⟩
def ni(S:List (List Nat))(n:Nat)(ks:List Nat)(V:Nat->Nat)(x4 x5:Option Sl):ua:=[some<|.v<|.lst<|Pb S,some<|.v<|.int n,some<|.v<|.lst<|ba<|aQ n,some<|.o (.d false<|ba ks)<|ks.map λr=>D.int (V r:Nat),x4,x5]
def XI{V:Nat->Nat}{r:Nat}{x:D}(hr:r∉ks):sO (ba ks) (.int r)=ba (ks++[r])/\wC (ba ks) (ks.map λr=>D.int (V r:Nat)) (.int r) x=(ks.map λr=>D.int (V r:Nat))++[x]:=by
 have hk:uF (ba ks) (.int r)=false:=by rw[LA,fe hr]
 unfold sO wC;rw[hk,jX];exact⟨rfl,rfl⟩
def ZW{V:Nat->Nat}{r x:Nat}(hr:r∈ks):sO (ba ks) (.int r)=ba ks/\wC (ba ks) (ks.map λr=>D.int (V r:Nat)) (.int r) (.int x)=ks.map λk=>D.int ((if k=r then x else V k:Nat):Int):=by
 have hk:uF (ba ks) (.int r)=true:=by rw[LA,Uc hr]
 unfold sO wC;rw[hk,kb rfl,kb rfl];refine⟨rfl,?_⟩;unfold ba;rw[List.zip_map',Jk];refine Fn λk _=>?_
 show (if Ag (.int (k:Int)) (.int (r:Int))=true then D.int (x:Int) else D.int (V k:Int))=_
 by_cases e:k=r
 .rw[kb e,kb (by rw[e];simp[Ag])]
 .have:¬ (k:Int)=(r:Int):=by omega
  rw[gb e,gb (by simp[Ag,this])]
def YI{st:ua}{k:D}{ks vs:List D}(hf:f st=.ok d)(hg:g st=.ok k)(hs:st[i]?=some (some<|.o (.d false ks) vs))(hk:Nc false k=true)(hl:vs.length<1000):wg i g f st=.ok (.nx<|st.set i<|some<|.o (.d false<|sO ks k)<|wC ks vs k d):=by
 unfold wg;rw[hf,aR,hg,aR,hs];exact aF ⟨hk,Fw<|by omega⟩
theorem aT(M:Oa S rk c):∀(rs ks:List Nat)(x4:Option Sl),(ks++rs).Nodup->(∀r∈ks++rs,r<S.length)->∃Lj,Nb (jb 4) IQ (ba rs) (ni S n ks (tY S n) x4 none)=.ok (.nx<|ni S n (ks++rs) (tY S n) Lj none)
 |[],ks,x4,_,_=>⟨x4,by rw[uh];rfl⟩
 |r::rs,ks,x4,nd,hl=>by
  have n8:=M.most;have h1:ks++r::rs=(ks++[r])++rs:=by simp
  rw[h1]at nd hl;obtain⟨Lj,e⟩:=aT M rs (ks++[r]) r nd hl;refine⟨Lj,?_⟩;rw[h1];have hr:r∉ks:=λz=>(Lo.mp (Lo.mp nd).1).2.2 r z r (Ce.mpr rfl) rfl
  have zh:r<S.length:=hl r (by simp)
  have Pc:ks.length<=S.length:=mK S.length ks (Lo.mp (Lo.mp nd).1).1 λx hx=>hl x (by simp[hx])
  have hg:S.getD r []=S[r]:=by rw[oi,Nf zh];rfl
  have Hs:=M.row S[r] (Oj zh);have c3:=M.c3;have hb:=xt (l:=S[r]) (λx hx=>by have:=Hs.2 x hx;omega) (by rw[Hs.1];omega)
  obtain⟨p1,p2⟩:=XI (V:=tY S n) (x:=.int (tY S n r:Nat)) hr;refine dM rfl (s2:=ni S n (ks++[r]) (tY S n) r none) ?_ e;have hv:e2 qJ (e2 Xj (aO jV<|aC (e2 Mb (aA 0)<|aA 4) aP)<|e2 Cn (eI 1)<|aA 4) (aA 1) (ni S n ks (tY S n) r none)=.ok (.int (tY S n r:Nat)):=by
   unfold tY;rw[hg];exact aK (aK (aJ (aN (aK rfl rfl<|iZ<|YB zh) rfl) hb) (aK rfl rfl<|eK<|by omega)<|BB _ _) rfl<|rK _ _
  refine(YI hv rfl rfl rfl<|by rw[Yd];omega).trans ?_
  rw[p1,p2];unfold ni;rw[Qj];rfl
def ø{V:Nat->Nat} (hl:ks.length<1000) (hr:r∈ks) (hm:m∈ks):pN (ni S n ks V r m)=.ok (.nx<|ni S n ks (λk=>if k=r then kI V m r else V k) r m):=by
 have gr:e2 Mb (lO 3) (aA 4) (ni S n ks V r m)=.ok (.int (V r:Nat)):=aK rfl rfl<|yt<|vL (λr=>D.int (V r:Nat)) hr
 have gm:e2 Mb (lO 3) (aA 5) (ni S n ks V r m)=.ok (.int (V m:Nat)):=aK rfl rfl<|yt<|vL (λr=>D.int (V r:Nat)) hm
 have t:=aJ (aN gr<|show aC (aA 5) aP (ni S n ks V r m)=.ok [.int m] from rfl)<|zV (V r) m
 by_cases hb:(V r).testBit m=true
 .rw[hb]at t;obtain⟨p1,p2⟩:=ZW (V:=V) (x:=V r|||V m) hr
  refine tM t<|(YI (aK gr gm<|BB _ _) rfl rfl rfl<|by rw[Yd];omega).trans ?_
  rw[p1,p2];unfold kI;rw[kb hb];rfl
 .rw[Gn.mpr hb]at t;refine iK t ?_
  have:(λk=>if k=r then kI V m r else V k)=V:=funext λk=>by
   by_cases e:k=r
   .rw[kb e,e];unfold kI;rw[gb hb]
   .rw[gb e]
  rw[this];rfl
theorem fT{ks:List Nat}{V:Nat->Nat}{m:Nat}(hl:ks.length<1000)(hm:m∈ks):∀(rs:List Nat)(W:Nat->Nat)(x4:Option Sl),(∀r∈rs,r∈ks)->W m=V m->(∀r∈rs,W r=V r\/W r=kI V m r)->∃W' Lj,Nb (jb 4) pN (ba rs) (ni S n ks W x4 m)=.ok (.nx<|ni S n ks W' Lj m)/\∀r,W' r=if r∈rs then kI V m r else W r
 |[],W,x4,_,_,_=>⟨W,x4,rfl,λr=>by rw[gb (by simp)]⟩
 |r::rs,W,x4,hs,hw,hv=>by
  have ho:kI W m r=kI V m r:=by
   rcases hv r Jb with h|h
   .unfold kI;rw[h,hw]
   .unfold kI at h ⊢;rw[h,hw]
    by_cases hb:(V r).testBit m=true
    .rw[kb hb]
     by_cases Tr:(V r|||V m).testBit m=true
     .rw[kb Tr,Nat.or_assoc,Nat.or_self]
     .rw[gb Tr]
    .rw[gb hb,gb hb]
  have hom:kI V m m=V m:=by
   unfold kI;split
   .exact Nat.or_self _
   .rfl
  obtain⟨W',Lj,e,h⟩:=fT hl hm rs (λk=>if k=r then kI W m r else W k) r (λx hx=>hs x<|Qb _ hx) (by
   show (if m=r then kI W m r else W m)=V m
   by_cases e:m=r
   .rw[kb e,ho,<-e,hom]
   .rw[gb e,hw]) (λx hx=>by
   show (if x=r then kI W m r else W x)=V x\/(if x=r then kI W m r else W x)=kI V m x
   by_cases e:x=r
   .rw[kb e,ho,e];exact .inr rfl
   .rw[gb e];exact hv x<|Qb _ hx)
  refine⟨W',Lj,dM rfl (ø hl (hs r Jb) hm) e,λx=>?_⟩
  rw[h x]
  by_cases hx:x∈rs
  .rw[kb hx,kb<|Qb _ hx]
  .rw[gb hx]
   by_cases e:x=r
   .rw[kb e,kb (by rw[e];exact Jb),ho,e]
   .rw[gb e,gb (by simp[e,hx])]
def bS{ks:List Nat}{V W:Nat->Nat}(h:∀k∈ks,V k=W k):ni S n ks V x4 x5=ni S n ks W x4 x5:=by
 unfold ni;rw[Fn λk hk=>congrArg (λx:Nat=>D.int (x:Int))<|h k hk]
theorem gT(hl:(aQ n).length<1000):∀(ms:List Nat)(V:Nat->Nat)(x4 x5:Option Sl),(∀m∈ms,m∈aQ n)->∃Lj xl,Nb (jb 5) JQ (ba ms) (ni S n (aQ n) V x4 x5)=.ok (.nx<|ni S n (aQ n) (ms.foldl kI V) Lj xl)
 |[],V,x4,x5,_=>⟨x4,x5,rfl⟩
 |m::ms,V,x4,x5,hs=>by
  obtain⟨W,y4,e,h⟩:=fT (S:=S) (n:=n) (V:=V) hl (hs m Jb) (aQ n) V x4 (λr hr=>hr) rfl λr _=>.inl rfl
  obtain⟨z4,z5,e'⟩:=gT hl ms (kI V m) y4 m λx hx=>hs x<|Qb _ hx
  refine⟨z4,z5,dM rfl (dR (L:=pN) rfl e) ?_⟩;rw[bS (W:=kI V m) λk hk=>by rw[h k,kb hk]]
  exact e'
def FU(M:Oa S rk c)(hn:n<2^S.length):kO [.lst<|Pb S,.int n]=.ok (.Ve false (ba<|aQ n)<|(aQ n).map λr=>D.int (gH S c n r:Nat)):=by
 have n8:=M.most;have Vi:=lE hn (by omega)
 have Pc:(aQ n).length<=S.length:=mK S.length _ (dD _) λx hx=>bC hn hx
 obtain⟨x4,e1⟩:=aT (n:=n) M (aQ n) [] none (dD n) λr hr=>bC hn hr
 obtain⟨y4,y5,e2⟩:=gT (S:=S) (n:=n) (by omega) (aQ n) (tY S n) x4 none λm hm=>hm
 refine bA rfl<|aH (st':=[D.lst<|Pb S,n,D.lst<|ba<|aQ n,none,none,none]) (bB<|aJ rfl Vi)<|aH (st':=ni S n [] (tY S n) none none) rfl<|aH (dR rfl e1)<|aH (dR rfl e2) ?_;rw[bS λk hk=>ŋ M hn hk]
 rfl
end
noncomputable def fJ(S:List (List Nat))(c n r:Nat):Nat:=cH<|(aQ<|gH S c n r).filter λg=>(gH S c n g).testBit r
def Bc(S:List (List Nat))(m:Nat):Bool:=decide (1<(aQ m).length)||decide ((aQ m).headD 0∈S.getD ((aQ m).headD 0) [])
noncomputable def dF(S:List (List Nat))(c n:Nat):List Nat:=(aQ n).foldl (λps r=>if fJ S c n r∉ps/\Bc S (fJ S c n r)=true then ps++[fJ S c n r] else ps) []
section
variable{S:List (List Nat)}{rk:List Nat}{c n:Nat}
def CB{n:Nat}:fJ S c n r<2^S.length:=oN λg hg=>bC yS (Be.mp hg).1
def Ō(M:Oa S rk c) (hm:m<2^S.length) (h0:m≠0):uG [.lst<|Pb S,.int m]=.ok (.bl<|Bc S m):=by
 have n8:=M.most;have Vi:=lE hm (by omega)
 obtain⟨r,T,eT⟩:∃r T,aQ m=r::T:=by
  cases h:aQ m with
  |nil=>
   refine absurd ?_ h0;have:=gJ m;rw[h]at this;exact this.symm
  |cons r T=>exact⟨r,T,rfl⟩
 rw[eT]at Vi;have hr:r<S.length:=bC hm (by rw[eT];exact Jb)
 refine bA rfl<|aH (st':=[D.lst<|Pb S,m,D.lst<|ba<|r::T]) (bB<|aJ rfl Vi)<|bO ?_;have ln:e1 lW (aA 2) [D.lst<|Pb S,m,D.lst<|ba<|r::T]=.ok (.int ((T.length+1:Nat):Int)):=by
  show R.ok (D.int (((ba<|r::T).length:Nat):Int))=_;rw[aZ];rfl
 have v0:e2 Mb (aA 2) (eI 0) [D.lst<|Pb S,m,D.lst<|ba<|r::T]=.ok (.int r):=aK rfl rfl<|iZ<|Fc (i:=0)<|by rw[aZ];exact Nat.succ_pos _
 have hg:S.getD r []=S[r]:=by rw[oi,Nf hr];rfl
 have t:=gu (aK ln (rfl:eC (.int 1) _=_) (rfl:Fq _ _=_)) λ_=>aK v0 (aK (rfl:aA 0 _=.ok (.lst<|Pb S)) v0<|iZ<|YB hr)<|bLt r S[r]
 refine yQ t ?_
 unfold Bc;rw[eT];show (decide ((1:Int)<((T.length+1:Nat):Int))||decide (r∈S[r]))=(decide (1<T.length+1)||decide (r∈S.getD r []))
 rw[hg];congr 1;exact Ir.mpr (by omega)
noncomputable def Gp(S:List (List Nat))(c n:Nat)(ps:List Nat)(x4 x5:Option Sl):ua:=[some<|.v<|.lst<|Pb S,some<|.v<|.int n,some<|.v<|.Ve false (ba<|aQ n)<|(aQ n).map λr=>D.int (gH S c n r:Nat),some<|.o .l<|ba ps,x4,x5,none]
def ϱ(M:Oa S rk c)(hn:n<2^S.length) (hr:r∈aQ n) (ps:List Nat) (UN:ps.length<=1000) (x5:Option Sl):∃xl,tL (Gp S c n ps r x5)=.ok (.nx<|Gp S c n (if fJ S c n r∉ps/\Bc S (fJ S c n r)=true then ps++[fJ S c n r] else ps) r xl):=by
 have n8:=M.most;have zh:=bC hn hr;have hrb:=aG.mp hr;have Vi:=lE (yS (S:=S) (c:=c) (n:=n) (r:=r)) (by omega)
 have hin:∀g∈aQ (gH S c n r),g∈aQ n:=λg hg=>aG.mpr<|Lw (al:=λg=>n.testBit g) hrb<|(iM M zh g).mp<|aG.mp hg
 have gk:∀{g:Nat},g∈aQ n->ji (ba<|aQ n) ((aQ n).map λr=>D.int (gH S c n r:Nat)) (.int g)=some (.int (gH S c n g:Nat)):=λ{g} h=>vL (λr=>D.int (gH S c n r:Nat)) h
 have Pc:(aQ<|gH S c n r).length<=S.length:=mK S.length _ (dD _) λx hx=>bC yS hx
 have ce:=fM (tg:=jb 6) (C:=dQ) (E:=ZP) (st:=Gp S c n ps r x5) (q:=λg=>(gH S c n g).testBit r) (G:=λg=>.int g) (aQ<|gH S c n r)<|λg hg=>⟨_,rfl,aJ (aN (aK rfl rfl<|yt<|gk<|hin g hg) rfl)<|zV (gH S c n g) r,rfl⟩
 have hi:Yc (aO cB<|aC (e2 Mb (aA 2)<|aA 4) aP) (Gp S c n ps r x5)=.ok (ba<|aQ<|gH S c n r):=pI<|aJ (aN (aK rfl rfl<|yt<|gk hr) rfl) Vi;have Qy:=eY (is:=[6]) hi (by rw[aZ];omega) ce
 have hbi:jV [.lst<|ba<|(aQ<|gH S c n r).filter λg=>(gH S c n g).testBit r]=.ok (.int<|fJ S c n r):=xt (λg hg=>by have:=bC yS (Be.mp hg).1;omega) (by have:=tq (λg=>(gH S c n g).testBit r)<|aQ<|gH S c n r;omega)
 have zi:fJ S c n r≠0:=λz=>by
  have:(fJ S c n r).testBit r=true:=by
   unfold fJ;rw[eO,Jg,Be];have h0:(gH S c n r).testBit r=true:=(iM M zh r).mpr .here;exact⟨aG.mpr h0,h0⟩
  rw[z,xq]at this;cases this
 have hgo:=Ō M (CB (S:=S) (c:=c) (n:=n) (r:=r)) zi;obtain⟨p1,p2,_⟩:=fU ps;refine⟨some<|.v<|.int<|fJ S c n r,aH (st':=Gp S c n ps r<|fJ S c n r) (bB<|aJ (aN Qy rfl) hbi) ?_⟩;have t:=mJ (st:=Gp S c n ps r<|fJ S c n r) (aK (f:=aA 5) (g:=lO 3) rfl rfl<|show uW (.int<|fJ S c n r) (.lst<|ba ps)=.ok (.bl<|!decide (fJ S c n r∈ps)) by rw[<-AB];exact aF ⟨by rw[p2];exact Ih 60,rfl,p1⟩) λ_=>aJ (r:=aC (aA 0)<|aC (aA 5) aP) rfl hgo
 by_cases h:fJ S c n r∉ps/\Bc S (fJ S c n r)=true
 .rw[kb h];refine tM (yQ t<|by rw[fe h.1,h.2];rfl) ?_
  rw[vJ (xs:=ba ps) (d:=.int<|fJ S c n r) rfl rfl (by rw[aZ];omega),<-jX]
  rfl
 .rw[gb h];refine iK (yQ t ?_) rfl;cases h1:Bc S (fJ S c n r) with
  |false=>rw[cy]
  |true=>rw[Uc<|Am λz=>h ⟨z,h1⟩];rfl
theorem cS(M:Oa S rk c)(hn:n<2^S.length):∀(rs:List Nat)(ps:List Nat)(x4 x5:Option Sl),(∀r∈rs,r∈aQ n)->ps.length+rs.length<=1000->∃Lj xl,Nb (jb 4) tL (ba rs) (Gp S c n ps x4 x5)=.ok (.nx<|Gp S c n (rs.foldl (λps r=>if fJ S c n r∉ps/\Bc S (fJ S c n r)=true then ps++[fJ S c n r] else ps) ps) Lj xl)
 |[],ps,x4,x5,_,_=>⟨x4,x5,rfl⟩
 |r::rs,ps,x4,x5,h,hl=>by
  rw[Te]at hl;obtain⟨xl,e1⟩:=ϱ M hn (h r Jb) ps (by omega) x5
  obtain⟨y4,y5,e2⟩:=cS M hn rs (if fJ S c n r∉ps/\Bc S (fJ S c n r)=true then ps++[fJ S c n r] else ps) r xl (λr hr=>h r<|Qb _ hr) (by
   split
   .rw[Wf,Gh];omega
   .omega)
  exact⟨y4,y5,dM rfl e1 e2⟩
def Φ(M:Oa S rk c)(hn:n<2^S.length):rF [.lst<|Pb S,.int n]=.ok (.lst<|ba<|dF S c n):=by
 have n8:=M.most;have Vi:=lE hn (by omega)
 have Pc:(aQ n).length<=S.length:=mK S.length _ (dD _) λx hx=>bC hn hx
 obtain⟨y4,y5,e⟩:=cS M hn (aQ n) [] none none (λ_ h=>h) (by simp;omega)
 exact bA rfl<|aH (bB<|aJ rfl<|FU M hn)<|aH (st':=Gp S c n [] none none) (pW<|fB rfl)<|aH (dR (pI<|aJ rfl Vi) e) rfl
def NA(M:Oa S rk c)(hn:n<2^S.length):fZ [mD S rk c,.int n]=.ok (.lst<|ba<|dF S c n):=
 bA rfl (bO<|aJ (aN (show dY "Machine" "steps" (mD S rk c)=_ from lJ) rfl)<|Φ M hn)
end
section
variable{S:List (List Nat)}{rk:List Nat}{c n:Nat}
def mL:dY "Machine" "ranks" (mD S rk c)=.ok (.lst<|ba rk):=by unfold mD;rw[FA,aF rfl];rfl
theorem zt:∀(l m:List Nat),lV (ba l) (ba m)=decide (l=m)
 |[],[]=>by simp[ba,lV]
 |[],y::m=>by simp[ba,lV]
 |x::l,[]=>by simp[ba,lV]
 |x::l,y::m=>by
  rw[MH,MH];unfold lV;rw[zt l m]
  by_cases h:x=y
  .subst h;simp[Fd]
  .have:¬ (x:Int)=(y:Int):=by omega
   simp[Fd,h,this]
def Wc.mono{Ho:Nat->Bool}(m:∀g,al g=true->Ho g=true){a b:Nat}(h:Wc S c al a b):Wc S c Ho a b:=by
 induction h with
 |here=>exact .here
 |on _ hl ha ih=>exact .on ih hl<|m _ ha
def ug(n:Nat):Nat->Bool:=λg=>n.testBit g
def Rh(S:List (List Nat))(c n a b:Nat):Prop:=Wc S c (ug n) a b/\Wc S c (ug n) b a
def kZ(M:Oa S rk c){g:Nat}(hr:r<S.length):(fJ S c n r).testBit g=true↔Rh S c n r g:=by
 unfold fJ;rw[eO,Jg,Be,aG,iM M hr];constructor
 .rintro⟨h1,h2⟩;exact⟨h1,(iM M (Xp M hr h1) r).mp h2⟩
 .rintro⟨h1,h2⟩;exact⟨h1,(iM M (Xp M hr h1) r).mpr h2⟩
def GU(M:Oa S rk c){g:Nat}(hr:r<S.length)(h:Wc S c (ug n) r g)(hb:Wc S c (ug n) g r):Wc S c (ug<|fJ S c n r) r g:=by
 induction h with
 |here=>exact .here
 |on h1 hl ha ih=>
  rename_i y l;have hy:Wc S c (ug n) y r:=Wc.trans (.on .here hl ha) hb;exact .on (ih hy) hl<|(kZ M hr).mpr ⟨.on h1 hl ha,hb⟩
def Rh.symm{a b:Nat}(h:Rh S c n a b):Rh S c n b a:=⟨h.2,h.1⟩
theorem Rh.trans{a b d:Nat}(h1:Rh S c n a b)(h2:Rh S c n b d):Rh S c n a d:=⟨Wc.trans h1.1 h2.1,Wc.trans h2.2 h1.2⟩
def HU(M:Oa S rk c){g:Nat}(hr:r<S.length)(h:Rh S c n r g):fJ S c n g=fJ S c n r:=Ik λx=>by
 have hg:=Xp M hr h.1;have e:(fJ S c n g).testBit x=true↔(fJ S c n r).testBit x=true:=by
  rw[kZ M hg,kZ M hr];exact⟨λz=>h.trans z,λz=>h.symm.trans z⟩
 cases h1:(fJ S c n g).testBit x with
 |true=>exact(e.mp h1).symm
 |false=>
  cases h2:(fJ S c n r).testBit x with
  |true=>rw[e.mpr h2]at h1;cases h1
  |false=>rfl
def ve(S:List (List Nat))(c n:Nat):Prop:=n≠0/\(∀a∈aQ n,∀b∈aQ n,Wc S c (ug n) a b)/\Bc S n=true
theorem IU(f:Nat->Nat)(q:Nat->Bool):∀(rs ps:List Nat)(m:Nat),m∈rs.foldl (λps r=>if f r∉ps/\q (f r)=true then ps++[f r] else ps) ps↔m∈ps\/∃r∈rs,f r=m/\q m=true
 |[],ps,m=>by simp
 |r::rs,ps,m=>by
  rw[Po,IU f q rs]
  by_cases h:f r∉ps/\q (f r)=true
  .rw[kb h];constructor
   .rintro(h1|⟨r',h1,h2⟩)
    .rcases Hh.mp h1 with h1|h1
     .exact .inl h1
     .rw[Ce]at h1;exact .inr ⟨r,Jb,h1.symm,by rw[h1];exact h.2⟩
    .exact .inr ⟨r',Qb _ h1,h2⟩
   .rintro(h1|⟨r',h1,h2,h3⟩)
    .exact .inl (Fh _ h1)
    .rcases Kc.mp h1 with rfl|h1
     .exact .inl (Pg _<|by rw[h2];simp)
     .exact .inr ⟨r',h1,h2,h3⟩
  .rw[gb h];constructor
   .rintro(h1|⟨r',h1,h2⟩)
    .exact .inl h1
    .exact .inr ⟨r',Qb _ h1,h2⟩
   .rintro(h1|⟨r',h1,h2,h3⟩)
    .exact .inl h1
    .rcases Kc.mp h1 with rfl|h1
     .refine .inl (Am λz=>h ⟨by rw[h2];exact z,by rw[h2];exact h3⟩)
     .exact .inr ⟨r',h1,h2,h3⟩
def lK:m∈dF S c n↔∃r∈aQ n,fJ S c n r=m/\Bc S m=true:=by
 unfold dF;rw[IU (λr=>fJ S c n r)<|Bc S]
 simp
theorem JU(f:Nat->Nat)(q:Nat->Bool)(m:Nat):∀(rs:List Nat),(∀r∈rs,f r=m)->rs.foldl (λps r=>if f r∉ps/\q (f r)=true then ps++[f r] else ps) [m]=[m]
 |[],_=>rfl
 |r::rs,h=>by
  rw[Po,gb λz=>z.1 (by rw[h r Jb];simp)]
  exact JU f q m rs λr hr=>h r<|Qb _ hr
def ZI(M:Oa S rk c) (hn:n<2^S.length) (hr:r∈aQ n) {g:Nat} (hg:g∈aQ (fJ S c n r)):g∈aQ n:=by
 have h:=(kZ M<|bC hn hr).mp<|aG.mp hg;exact aG.mpr<|Lw (al:=ug n) (aG.mp hr) h.1
def ō(M:Oa S rk c) (hn:n<2^S.length) (hr:r∈aQ n):r∈aQ (fJ S c n r):=aG.mpr<|(kZ M<|bC hn hr).mpr ⟨.here,.here⟩
def ù(M:Oa S rk c)(hn:n<2^S.length):dF S c n=[n]↔ve S c n:=by
 constructor
 .intro h;have hm:n∈dF S c n:=by rw[h];simp
  obtain⟨r,hr,e,hq⟩:=lK.mp hm;have zh:=bC hn hr;refine⟨(λz=>by rw[z]at hr;rw[aG,xq]at hr;cases hr),λa ha b hb=>?_,hq⟩
  have Aj:=(kZ (n:=n) M zh).mp (by rw[e];exact aG.mp ha)
  have Mh:=(kZ (n:=n) M zh).mp (by rw[e];exact aG.mp hb)
  exact Wc.trans Aj.2 Mh.1
 .rintro⟨h0,hs,hq⟩;have all:∀r∈aQ n,fJ S c n r=n:=λr hr=>Ik λg=>by
   have e:(fJ S c n r).testBit g=true↔n.testBit g=true:=by
    rw[kZ M<|bC hn hr];constructor
    .exact λz=>Lw (al:=ug n) (aG.mp hr) z.1
    .exact λz=>⟨hs r hr g<|aG.mpr z,hs g (aG.mpr z) r hr⟩
   cases h1:(fJ S c n r).testBit g with
   |true=>exact(e.mp h1).symm
   |false=>
    cases h2:n.testBit g with
    |true=>rw[e.mpr h2]at h1;cases h1
    |false=>rfl
  unfold dF;cases h:aQ n with
  |nil=>
   refine absurd ?_ h0;have:=gJ n;rw[h]at this;exact this.symm
  |cons r T=>
   rw[h]at all;have er:=all r Jb;rw[Po,kb ⟨by simp,by rw[er];exact hq⟩,er,Yu]
   exact JU (λr=>fJ S c n r) (Bc S) n T λr hr=>all r<|Qb _ hr
def NH(M:Oa S rk c) (hn:n<2^S.length) (hr:r∈aQ n) (hq:Bc S (fJ S c n r)=true):ve S c (fJ S c n r):=by
 have zh:=bC hn hr;refine⟨(λz=>by have:=ō M hn hr;rw[z,aG,xq]at this;cases this),λa ha b hb=>?_,hq⟩
 have Aj:=(kZ M zh).mp<|aG.mp ha;have Mh:=(kZ M zh).mp<|aG.mp hb;have Rk:=Xp M zh Aj.1;have h1:=GU (n:=n) M Rk Aj.2 Aj.1;rw[HU M zh Aj]at h1;exact Wc.trans h1<|GU M zh Mh.1 Mh.2
def bX(M:Oa S rk c){m:Nat}(hn:n<2^S.length)(hm:ve S c m)(hs:∀g∈aQ m,g∈aQ n)(hr:r∈aQ m):∀g∈aQ m,g∈aQ (fJ S c n r):=λg hg=>by
 have up:∀{a b:Nat},Wc S c (ug m) a b->Wc S c (ug n) a b:=λh=>Wc.mono (λg hg=>aG.mp<|hs g<|aG.mpr hg) h
 exact aG.mpr<|(kZ M<|bC hn<|hs r hr).mpr ⟨up<|hm.2.1 r hr g hg,up<|hm.2.1 g hg r hr⟩
end
def gX{l:List Int}(h:l≠[]):El l∈l/\∀x∈l,x<=El l:=by
 cases l with
 |nil=>exact(h rfl).elim
 |cons i r=>
  obtain⟨h1,h2,h3⟩:=KH r i;refine⟨?_,λx hx=>?_⟩
  .rcases h3 with h3|h3
   .show r.foldl _ i∈_;rw[h3];exact Jb
   .exact Qb _ h3
  .rcases Kc.mp hx with rfl|hx
   .exact h1
   .exact h2 x hx
section
variable{S:List (List Nat)}{rk:List Nat}{c n:Nat}
def lR(rk:List Nat)(n:Nat):Int:=El<|(aQ n).map λr=>(rk.getD r 0:Int)
def nK(M:Oa S rk c)(hn:n<2^S.length)(h0:n≠0):qT [mD S rk c,.int n]=.ok (.int<|lR rk n):=by
 have n8:=M.most;have Vi:=lE hn (by omega)
 have Pc:(aQ n).length<=S.length:=mK S.length _ (dD _) λx hx=>bC hn hx
 have Sk:0<(aQ n).length:=by
  cases h:aQ n with
  |nil=>
   refine absurd ?_ h0;have:=gJ n;rw[h]at this;exact this.symm
  |cons r T=>simp
 have ce:=Zz (tg:=jb 2) (c:=dB) (f:=uH) (st:=[some<|.v<|mD S rk c,some<|.v<|.int n,none]) (λd=>match d with|.int i=>.int (rk.getD i.toNat 0:Nat)|d=>d) (ba<|aQ n) λd hd=>by
  obtain⟨r,hr,rfl⟩:=KA hd;have Ee:r<rk.length:=by rw[M.Wl];exact bC hn hr
  have ea:de (ba rk) (r:Int)=some (.int (rk.getD r 0:Nat)):=by
   rw[Fc (by rw[aZ];exact Ee)]
   simp[ba,getD_eq_getElem?_getD,List.getElem?_eq_getElem Ee]
  refine⟨_,rfl,rfl,?_⟩;simp[uH,mL,ea]
 have em:(ba<|aQ n).map (λd=>match d with|.int i=>D.int (rk.getD i.toNat 0:Nat)|d=>d)=((aQ n).map λr=>(rk.getD r 0:Int)).map D.int:=by
  unfold ba;simp[Function.comp_def]
 rw[em]at ce;have hc:cN [2] (jb 2) (Yc<|aO cB<|aC (aA 1) aP) dB uH [some<|.v<|mD S rk c,some<|.v<|.int n,none]=.ok (.lst<|((aQ n).map λr=>(rk.getD r 0:Int)).map D.int):=by
  have hi:Yc (aO cB<|aC (aA 1) aP) [some<|.v<|mD S rk c,some<|.v<|.int n,none]=.ok (ba<|aQ n):=by simp[Vi]
  rw[HA,hi];simp only[aR,aZ];rw[aF<|gO<|by omega,show Kh [2] [some<|Sl.v<|mD S rk c,some<|.v<|.int n,none]=[some<|.v<|mD S rk c,some<|.v<|.int n,none] from rfl,ce]
  rfl
 refine bA rfl ?_
 unfold UR;have h0':¬ (n:Int)=0:=by omega
 refine dC (by simp[h0',h0]) ?_
 show cA _ [some<|.v<|mD S rk c,some<|.v<|.int n,none]=_;rw[wF,YK,hc];have hm:ox (.lst<|((aQ n).map λr=>(rk.getD r 0:Int)).map D.int)=.ok (.int<|lR rk n):=by
  show (yF _).bind _=_;rw[uT,aR,aF (by rw[Yd];exact Sk)]
  rfl
 rw[aR,hm];rfl
end
section
variable {c:Nat}
def ϲ(M:Oa S rk c)(hn:n<2^S.length):yK [mD S rk c,.int n]=.ok (.bl<|decide (dF S c n=[n])):=by
 have e:=NA M hn;obtain⟨p1,p2,_⟩:=fU<|dF S c n;have h:=zt (dF S c n) [n];refine bA rfl ?_
 unfold MS;have e1:[D.int (n:Int)]=ba [n]:=rfl;simp[e,p1,p2];rw[e1,h]
end
section
variable {c:Nat}
def bH9(M:Oa S rk c)(hn:n<2^S.length)(h0:n≠0):nF [mD S rk c,.int n]=.ok (.bl<|decide (lR rk n%2=0)):=by
 have e:=nK M hn h0;refine bA rfl ?_
 unfold NS
 by_cases h:lR rk n%2=0
 .simp[e,h]
 .simp[e,h]
end
def FD{a b n r:Nat}{st:ua}(ha:st[a]?=some (some<|.v<|.int (n:Int)))(hb:st[b]?=some (some<|.v<|.int (r:Int))):(e2 Qc (e2 qJ (e2 yG (aA a)<|aA b)<|eC<|.int 1)<|eC<|.int 1) st=.ok (.bl<|n.testBit r):=by
 have ht:=nI n r;have h0:0<=(n:Int)/2^r:=OM (by omega)<|SM<|by decide
 have t1:e2 yG (aA a) (aA b) st=.ok (.int<|(n:Int)/2^r):=by simp[ha,hb]
 have t2:e2 qJ (e2 yG (aA a)<|aA b) (eC<|.int 1) st=.ok (.int ((if n.testBit r=true then 1 else 0:Nat):Int)):=by
  rw[rm,t1,aR,RC,aR,mI,aF ⟨h0,by decide⟩,ht]
 rw[rm,t2];cases n.testBit r<;>simp
section
variable {c:Nat}
def sub_len{l m:List Nat}(h1:l.Nodup)(hs:∀x∈l,x∈m)(he:l.length=m.length){x:Nat}(hx:x∈m):x∈l:=by
 refine Am λhn=>?_
 have:(x::l).length<=m.length:=Q2 (Pj.mpr ⟨hn,h1⟩) λy hy=>by
  rcases Kc.mp hy with rfl|hy
  .exact hx
  .exact hs y hy
 rw[Te]at this;omega
def bLx{m o:Nat}:o|||m=o↔∀g∈aQ m,g∈aQ o:=by
 constructor
 .intro h g hg;rw[aG]at hg ⊢;rw[<-h,Qo,hg,TM]
 .intro h;refine Ik λg=>?_
  rw[Qo];cases hm:m.testBit g with
  |false=>rw[Bool.or_false]
  |true=>rw[aG.mp<|h g<|aG.mpr hm];rfl
def CZ{m o:Nat}(h1:∀g∈aQ m,g∈aQ o)(h2:∀g∈aQ o,g∈aQ m):m=o:=by
 rw[<-gJ m,<-gJ o];exact bH5 λr=>⟨h1 r,h2 r⟩
def KU{m o:Nat}(hm:ve S c m)(hs:∀g∈aQ m,g∈aQ o):Bc S o=true:=by
 have hq:=hm.2.2;have zi:∃r,r∈aQ m:=by
  cases h:aQ m with
  |nil=>
   refine absurd ?_ hm.1;have:=gJ m;rw[h]at this;exact this.symm
  |cons r T=>exact⟨r,by simp⟩
 obtain⟨r,hr⟩:=zi;have hl:(aQ m).length<=(aQ o).length:=Q2 (dD m) λx hx=>hs x hx
 unfold Bc at hq ⊢
 by_cases h1:1<(aQ o).length
 .rw[Uc h1];rfl
 .have he:(aQ m).length=(aQ o).length:=by
   have:0<(aQ m).length:=S3 hr;omega
  have:m=o:=CZ hs λg hg=>sub_len (dD m) hs he hg
  rw[<-this];exact hq
def eqE{a b:Ex}{m o:Nat}{st:ua}(ha:a st=.ok (.int (m:Int)))(hb:b st=.ok (.int (o:Int))):e2 Qc a b st=.ok (.bl<|decide (m=o)):=by
 rw[rm,ha,aR,hb,aR]
 by_cases h:m=o
 .subst h;simp
 .have:¬ (m:Int)=(o:Int):=by omega
  simp[h,this]
def OO{a b:Ex}{m o:Nat}{st:ua}(ha:a st=.ok (.int (m:Int)))(hb:b st=.ok (.int (o:Int))):e2 zg a b st=.ok (.bl<|!decide (m=o)):=by
 rw[rm,ha,aR,hb,aR]
 by_cases h:m=o
 .subst h;simp
 .have:¬ (m:Int)=(o:Int):=by omega
  simp[h,this]
def yw{a m:Nat}{st:ua}(ha:st[a]?=some (some<|.v<|.int (m:Int))):aA a st=.ok (.int (m:Int)):=by simp[ha]
end
section
variable {c:Nat}
def bHb(M:Oa S rk c)(hn:n<2^S.length)(h0:n≠0):zN [.lst<|ba rk,.int n]=.ok (.int<|lR rk n):=by
 have n8:=M.most;have Sk:0<(aQ n).length:=by
  cases h:aQ n with
  |nil=>
   refine absurd ?_ h0;have:=gJ n;rw[h]at this;exact this.symm
  |cons r T=>simp
 have ce:=fM (tg:=jb 2) (C:=zM) (E:=zL) (st:=[some<|.v<|.lst<|ba rk,some<|.v<|.int n,none]) (q:=λr=>n.testBit r) (G:=λr=>.int (rk.getD r 0:Nat)) (List.range rk.length)<|λr hr=>⟨_,rfl,by
  unfold zM;exact FD (a:=1) (b:=2) rfl rfl,by
  have Ee:=Se.mp hr;have ea:de (ba rk) (r:Int)=some (.int (rk.getD r 0:Nat)):=by
   rw[Fc (by rw[aZ];exact Ee)]
   simp[ba,getD_eq_getElem?_getD,List.getElem?_eq_getElem Ee]
  simp[zL,ea]⟩
 rw[M.Wl,ϯ hn]at ce;have em:(aQ n).map (λr=>D.int (rk.getD r 0:Nat))=((aQ n).map λr=>(rk.getD r 0:Int)).map D.int:=by simp[Function.comp_def]
 rw[em]at ce;refine bA rfl ?_
 unfold RR;show cA _ [some<|.v<|.lst<|ba rk,some<|.v<|.int n,none]=_;have hi:tH (e1 lW<|aA 0) [some<|.v<|.lst<|ba rk,some<|.v<|.int n,none]=.ok (ba<|List.range S.length):=by
  rw[<-HG];simp[aZ,M.Wl,show (S.length:Int)<=(big:Int) from zK (by omega)]
 have hm:ox (.lst<|((aQ n).map λr=>(rk.getD r 0:Int)).map D.int)=.ok (.int<|lR rk n):=by
  show (yF _).bind _=_;rw[uT,aR,aF (by rw[Yd];exact Sk)]
  rfl
 rw[wF,YK,HA,hi];simp only[aR,aZ,length_range];rw[aF<|gO<|by omega,show Kh [2] [some<|Sl.v<|.lst<|ba rk,some<|.v<|.int n,none]=[some<|.v<|.lst<|ba rk,some<|.v<|.int n,none] from rfl,ce,aR,aR,hm]
 rfl
end
section
variable {c:Nat}
def Tt:cH (List.range n)<2^n:=oN λr hr=>Se.mp hr
def iX(M:Oa S rk c):mC [mD S rk c]=.ok (.int<|cH<|List.range S.length):=by
 have n8:=M.most;refine bA rfl<|bO<|aJ (aN (d:=.lst<|ba<|List.range S.length) ?_ rfl)<|xt (λr hr=>by have:=Se.mp hr;omega)<|by rw[Nl];omega
 show R.bind (dY "Machine" "many"<|mD S rk c) vw=_;rw[yR,aR,<-HG];exact aF ⟨tw (by omega),zK<|by omega⟩
def kX(M:Oa S rk c){st:ua}(h:st[0]?=some (some<|.v<|mD S rk c)):aO kO (aC (e1 (dY "Machine" "steps")<|aA 0)<|aC (aO mC<|aC (aA 0) aP) aP) st=.ok (.Ve false (ba<|aQ<|cH<|List.range S.length)<|(aQ<|cH<|List.range S.length).map λr=>D.int (gH S c (cH<|List.range S.length) r:Nat)):=by
 have e:aA 0 st=.ok (mD S rk c):=by unfold aA;rw[h]
 exact aJ (aN (show R.bind (aA 0 st) (dY "Machine" "steps")=_ by rw[e,aR,lJ])<|aN (aJ (aN e rfl)<|iX M) rfl)<|FU M Tt
def nX{r:Nat}(hr:r<S.length):Mb (.Ve false (ba<|aQ<|cH<|List.range S.length)<|(aQ<|cH<|List.range S.length).map λr=>D.int (gH S c (cH<|List.range S.length) r:Nat)) (.int r)=.ok (.int (gH S c (cH<|List.range S.length) r:Nat)):=yt<|vL (λr=>D.int (gH S c (cH<|List.range S.length) r:Nat))<|qX.mpr<|Se.mpr hr
end
section
variable {c:Nat}
def LU(M:Oa S rk c) (hr:r<S.length):iD [mD S rk c,.int r]=.ok (.int<|gH S c (cH<|List.range S.length) r):=
 bA rfl (bO<|aK (kX M rfl) rfl<|nX hr)
end
def bHc{l:Nat}(h:l<3):Mb (.str [97,98,99]) (.int l)=.ok (.str [97+l]):=by
 show aW _ _=_;rw[aF<|gO<|by show 3<=_;omega,Fc (xs:=[97,98,99]) (i:=l) (by show l<3;exact h)]
 have:l=0\/l=1\/l=2:=by omega
 rcases this with rfl|rfl|rfl<;>rfl
def bLy(l m:List Nat):Qc (.lst<|ba l) (.lst<|ba m)=.ok (.bl<|decide (l=m)):=by
 obtain⟨p1,p2,_⟩:=fU l;obtain⟨q1,_,_⟩:=fU m;have:=zt l m;simp[p1,p2,q1,this]
section
variable{S:List (List Nat)}{rk:List Nat}{c n s g r:Nat}{al:Nat->Bool}
def Ox(S:List (List Nat))(rk:List Nat)(c n r:Nat)(x:List Nat)(h:Nat)(x5:Option Sl):ua:=[some<|.v<|mD S rk c,some<|.v<|.int n,some<|.v<|.int r,some<|.v<|.str x,some<|.v<|.int h,x5]
def dS{e:ue}{st:ua}(hf:f st=.ok (mD S rk c))(hr:e st=.ok xs):dJ "Machine" "rooms_along" p [] f e st=p (mD S rk c::xs):=by
 rw[GA,hf,hr];show aW _ (p<|mD S rk c::(xs++[]))=_;rw[uh];exact aF ⟨rfl,by decide⟩
def MU(M:Oa S rk c)(hn:n<2^S.length)(hL:ve S c n){a b:Nat}(ha:a∈aQ n)(hb:b∈aQ n):∃u,pP [mD S rk c,.int n,.int a,.int b]=.ok (.str u)/\xn c u/\u.length<=8:=by
 have n8:=M.most;have hba:=aG.mp ha;obtain⟨xa,e,m⟩:=WI M (bC hn ha)<|aQ n;have hm:b∈xa.map (·.1):=m.whole<|(hL.2.1 a ha b hb).mono λg hg=>Uc<|aG.mpr hg
 obtain⟨x,hx,rfl⟩:=bg.mp hm;obtain⟨k,hk⟩:=Ju.mp hx;have h1:=m.Yi k x hk;have h2:=(Og.mp hk).1;have h3:=m.len;refine⟨x.2,bA rfl<|dC (iK (gZ (p:=true)<|aJ rfl<|by rw[zV,hba]) rfl)<|bO ?_,(m.lt x hx).2,by omega⟩
 unfold zu;rw[aJ (aN (show dY "Machine" "steps" (mD S rk c)=_ from lJ)<|aN rfl<|aN (aJ rfl<|lE hn<|by omega) rfl) e]
 show aW (Nc false (.int x.1)=true) _=_;rw[aF (c:=Nc false (.int x.1)=true) rfl,kb (by rw[sC];exact Uc hm),kK m.nd hx]
 rfl
theorem WG(M:Oa S rk c)(hn:n<2^S.length)(hL:ve S c n)(hr:r∈aQ n):∀(gs:List Nat)(x:List Nat)(h j:Nat)(x5:Option Sl),(∀g∈gs,g∈aQ n)->xn c x->h∈aQ n->x.length<=j*8->j+gs.length<=8->
  ∃x' h' xl,Nb (jb 5) YQ (ba gs) (Ox S rk c n r x h x5)=.ok (.nx<|Ox S rk c n r x' h' xl)/\h'∈aQ n/\x'.length<=64
 |[],x,h,j,x5,_,h1,h2,h3,h4=>⟨x,h,x5,rfl,h2,by have h4:j+0<=8:=h4;omega⟩
 |g::gs,x,h,j,x5,hg,h1,h2,h3,h4=>by
  rw[Te]at h4;have zh:=bC hn hr;obtain⟨p1,p2,_⟩:=fU<|r::runs S r x;have t:e2 uW (aA 5) (dJ "Machine" "rooms_along" cW [] (aA 0)<|aC (aA 2)<|aC (aA 3) aP) (Ox S rk c n r x h g)=.ok (.bl<|!decide (g∈r::runs S r x)):=aK rfl ((dS rfl rfl).trans<|CU M zh x h1<|by omega) (by
   rw[<-AB];exact aF ⟨by rw[p2];exact Ih 60,rfl,p1⟩)
  cases hm:(!decide (g∈r::runs S r x)) with
  |false=>
   rw[hm]at t;obtain⟨x',h',xl,e,k⟩:=WG M hn hL hr gs x h j g (λy hy=>hg y<|Qb _ hy) h1 h2 h3 (by omega)
   exact⟨x',h',xl,dM rfl (iK t rfl) e,k⟩
  |true=>
   rw[hm]at t;obtain⟨u,w1,w2,w3⟩:=MU M hn hL h2<|hg g Jb;obtain⟨x',h',xl,e,k⟩:=WG M hn hL hr gs (x++u) g (j+1) g (λy hy=>hg y<|Qb _ hy) (λz hz=>(Hh.mp hz).elim (h1 z)<|w2 z) (hg g Jb) (by rw[Wf];omega) (by omega)
   exact⟨x',h',xl,dM rfl (tM t<|aH (st':=Ox S rk c n r (x++u) h g) (bB<|aK rfl (aJ rfl w1)<|aF<|gO<|by omega)<|bB rfl) e,k⟩
def eS(M:Oa S rk c)(hn:n<2^S.length)(hL:ve S c n)(hr:r∈aQ n):∃u,vB [mD S rk c,.int n,.int r]=.ok (.str u):=by
 have n8:=M.most;have c3:=M.c3;have zh:=bC hn hr;have Vi:=lE hn (by omega)
 have hk:(aQ n).length<=8:=bf (mK S.length _ (dD _) λy hy=>bC hn hy) n8
 have a1:Pd (lQ<|aO yK<|aC (aA 0)<|aC (aA 1) aP) qO cO [mD S rk c,n,r,none,none,none]=.ok (.nx [mD S rk c,n,r,none,none,none]):=iK ((gZ (p:=true)<|aJ rfl<|by rw[ϲ M hn,Uc<|(ù M hn).mpr hL])) rfl
 have a2:Pd (lQ<|aO gQ<|aC (aA 1)<|aC (aA 2) aP) qO cO [mD S rk c,n,r,none,none,none]=.ok (.nx [mD S rk c,n,r,none,none,none]):=iK ((gZ (p:=true)<|aJ rfl<|by rw[zV,aG.mp hr])) rfl
 have t3:=aK (op:=Qc) (f:=aO cB<|aC (aA 1) aP) (g:=jP<|aC (aA 2) aP) (st:=[mD S rk c,n,r,none,none,none]) (aJ rfl Vi) (fB (ds:=ba [r]) rfl)<|bLy (aQ n) [r]
 by_cases h1:aQ n=[r]
 .rw[Uc h1]at t3;have hq:=hL.2.2;unfold Bc at hq;rw[h1]at hq;have gf:r∈S.getD r []:=by
   have:=cj<|show decide (r∈S.getD r [])=true from hq
   exact this
  have hg:S.getD r []=S[r]:=by rw[oi,Nf zh];rfl
  rw[hg]at gf;have Hs:=(M.row S[r] (Oj zh)).1;have hs:((S[r].map λ(x:Nat)=>(x:Int)).findIdx? λi=>i==(r:Int)).isSome=true:=by
   rw[J4,Hr];exact⟨(r:Int),bg.mpr ⟨r,gf,rfl⟩,by simp⟩
  obtain⟨k,ip⟩:=C3.mp hs;obtain⟨k1,k2,_⟩:=O2.mp ip;rw[Yd]at k1;have hkr:S[r][k]=r:=by
   rw[JM,Sj]at k2;exact Int.ofNat_inj.mp k2
  have Nh:Me S r k=r:=by
   unfold Me;rw[hg,oi,Nf k1];exact hkr
  have hix:Ln TC (e2 Mb (e1 (dY "Machine" "steps")<|aA 0)<|aA 2) (aC (aA 2) aP) [mD S rk c,n,r,none,none,none]=.ok (.int k):=by
   unfold Ln;rw[aK (show e1 (dY "Machine" "steps") (aA 0) [mD S rk c,n,r,none,none,none]=_ from lJ) rfl<|iZ<|YB zh]
   show (yF<|ba S[r]).bind _=_;rw[show ba S[r]=(S[r].map λ(x:Nat)=>(x:Int)).map D.int by rw[Jk];rfl,uT,aR,ip]
   show R.bind (.ok k) _=_;rw[aR];exact aF<|gO<|by rw[Yd,Yd];omega
  exact⟨[97+k],bA rfl<|dC a1<|dC a2<|vH<|(tM t3<|bO<|aK rfl hix<|bHc<|by omega)⟩
 .rw[fe h1]at t3;obtain⟨x,h,x5,e,k2,k3⟩:=WG M hn hL hr (aQ n) [] r 0 none (λ_ z=>z) (λ_ z=>nomatch z) hr (Ih _) (by omega)
  obtain⟨y,w1,w2,w3⟩:=MU M hn hL k2 hr;exact⟨x++y,bA rfl (dC a1<|dC a2<|dC ((iK t3 rfl))<|aH ((bB rfl))<|aH (st':=Ox S rk c n r [] r none) ((bB rfl))<|aH ((dR (pI<|aJ rfl Vi) e))<|(bO<|aK rfl (aJ rfl w1)<|aF<|gO<|by omega)) ⟩
end
theorem rX{x:Int}:∀(l xa:List Int),x∈l.foldl (λxa x=>if xa.any (· == x) then xa else xa++[x]) xa↔x∈xa\/x∈l
 |[],xa=>by simp
 |y::l,xa=>by
  rw[Po,rX l]
  by_cases h:xa.any (· == y)=true
  .rw[kb h];have hy:y∈xa:=by
    obtain⟨z,hz,e⟩:=Hr.mp h;rw[<-eq_of_beq e];exact hz
   constructor
   .rintro(z|z)
    .exact .inl z
    .exact .inr (Qb _ z)
   .rintro(z|z)
    .exact .inl z
    .rcases Kc.mp z with rfl|z
     .exact .inl hy
     .exact .inr z
  .rw[gb h,Hh,Ce,Kc,or_assoc]
def bLz{x:Int}{l:List Int}:x∈Hl (tm l)↔x∈l:=by
 rw[(dw _).mem_iff];unfold tm;rw[rX];simp
def AK(l:List Int):∀xa:List Int,(l.foldl (λxa x=>if xa.any (· == x) then xa else xa++[x]) xa).length<=xa.length+l.length:=by
 induction l with
 |nil=>intro xa;exact Zc _
 |cons y l ih=>
  intro xa;rw[Po,Te];refine bf (ih _) ?_
  split
  .omega
  .rw[Wf,Gh];omega
section
variable{S:List (List Nat)}{rk:List Nat}{c n al:Nat}{p:Int}{w:Bool}
def rM(h0:n≠0):aQ n≠[]:=λz=>h0 (by
 have:=gJ n;rw[z]at this;exact this.symm)
def OA(h0:n≠0):(∃r∈aQ n,(rk.getD r 0:Int)=lR rk n)/\∀r∈aQ n,(rk.getD r 0:Int)<=lR rk n:=by
 obtain⟨h1,h2⟩:=gX (l:=(aQ n).map λr=>(rk.getD r 0:Int)) (by simpa using rM h0)
 obtain⟨r,hr,e⟩:=bg.mp h1;exact⟨⟨r,hr,e⟩,λr hr=>h2 _<|bg.mpr ⟨r,hr,rfl⟩⟩
def bM0{r:Nat}(hr:r∈aQ n)(e:(rk.getD r 0:Int)=p)(hx:∀r∈aQ n,(rk.getD r 0:Int)<=p):lR rk n=p:=
 uw (bg.mpr ⟨r,hr,e⟩) λx Sm=>by
  obtain⟨r,hr,rfl⟩:=bg.mp Sm;exact hx r hr
def yV(rk:List Nat)(al:Nat)(p:Int):Nat:=cH<|(aQ al).filter λr=>decide ((rk.getD r 0:Int)<=p)
def eJ:r∈aQ (yV rk al p)↔r∈aQ al/\(rk.getD r 0:Int)<=p:=by
 unfold yV;rw[qX,Be,Jg]
def Ut(ha:al<2^S.length):yV rk al p<2^S.length:=oN λr hr=>bC ha (Be.mp hr).1
noncomputable def wM(S:List (List Nat))(c:Nat)(rk:List Nat)(al:Nat)(p:Int):List Nat:=(dF S c<|yV rk al p).filter λm=>decide (lR rk m=p)
noncomputable def Au(rk:List Nat)(al:Nat)(w:Bool):List Int:=(Hl<|tm<|(aQ al).map λr=>(rk.getD r 0:Int)).filter λp=>decide (p%2=0)==w
noncomputable def pA(S:List (List Nat))(c:Nat)(rk:List Nat)(al:Nat)(w:Bool):List Nat:=(Au rk al w).flatMap<|wM S c rk al
noncomputable def bq(S:List (List Nat))(c:Nat)(rk:List Nat)(al:Nat)(p:Int)(r:Nat):Bool:=Bc S (fJ S c (yV rk al p) r)&&decide (lR rk (fJ S c (yV rk al p) r)=p)
def ú(M:Oa S rk c)(ha:al<2^S.length){r:Nat}(hr:r∈aQ (yV rk al p))(hg:bq S c rk al p r=true):ve S c (fJ S c (yV rk al p) r)/\(∀g∈aQ (fJ S c (yV rk al p) r),g∈aQ al)/\lR rk (fJ S c (yV rk al p) r)=p:=by
 unfold bq at hg;rw[wj,Jg]at hg;exact⟨NH M (Ut ha) hr hg.1,λg hg=>(eJ.mp<|ZI M (Ut ha) hr hg).1,hg.2⟩
def kT(M:Oa S rk c)(ha:al<2^S.length){m:Nat}(hm:ve S c m)(hs:∀g∈aQ m,g∈aQ al)(ht:lR rk m=p) (hr:r∈aQ m):r∈aQ (yV rk al p)/\bq S c rk al p r=true/\∀g∈aQ m,g∈aQ (fJ S c (yV rk al p) r):=by
 obtain⟨⟨g,hg,eg⟩,hx⟩:=OA (rk:=rk) hm.1;rw[ht]at eg hx;have hsub:∀g∈aQ m,g∈aQ (yV rk al p):=λg hg=>eJ.mpr ⟨hs g hg,hx g hg⟩
 have hin:=bX M (Ut ha) hm hsub hr;refine⟨hsub r hr,?_,hin⟩;unfold bq;rw[KU hm hin,Uc<|bM0 (hin g hg) eg λy hy=>(eJ.mp<|ZI M (Ut ha) (hsub r hr) hy).2]
 rfl
def lT(M:Oa S rk c)(ha:al<2^S.length){m:Nat}(h:m∈wM S c rk al p):m<2^S.length/\ve S c m/\(∀g∈aQ m,g∈aQ al)/\lR rk m=p:=by
 obtain⟨h1,h2⟩:=Be.mp h;obtain⟨r,hr,rfl,hq⟩:=lK.mp h1;exact⟨CB,ú M ha hr<|by unfold bq;rw[hq,h2];rfl⟩
def DB:p∈Au rk al w↔(∃r∈aQ al,(rk.getD r 0:Int)=p)/\(decide (p%2=0)==w)=true:=by
 unfold Au;rw[Be,bLz,bg]
end
theorem NU{tg:Tg}{C E:Ex}{st:ua}{q:Int->Bool}:∀(ks:List Int),(∀k∈ks,∃s1,tg (.int k) st=.ok s1/\C s1=.ok (.bl<|q k)/\E s1=.ok (.int k))->iR tg C E st (ks.map D.int)=.ok ((ks.filter q).map D.int)
 |[],_=>rfl
 |k::ks,h=>by
  obtain⟨s1,a1,a2,a3⟩:=h k Jb;have ih:=NU ks λk hk=>h k<|Qb _ hk
  rw[Vd,lX,a1,aR,a2,aR,oW];cases hq:q k with
  |true=>rw[Ll hq,Vd,kb rfl,a3,aR,ih];rfl
  |false=>rw[Ml (by rw[hq];decide),gb Cg,ih]
def bM1(p q:Bool):Qc (.bl p) (.bl q)=.ok (.bl<|p==q):=aF ⟨Ih 64,rfl,rfl⟩
def DZ(l:List Nat):Qc (.lst<|ba l) (.lst [])=.ok (.bl<|decide (l=[])):=by
 obtain⟨p1,p2,_⟩:=fU l;have:=zt l [];rw[show ba []=[] from rfl]at this
 simp[p1,p2,this]
section
variable {c al:Nat} {p:Int} {w:Bool}
def J0(M:Oa S rk c){r:Nat}(hr:r<S.length):de (ba rk) (r:Int)=some (.int (rk.getD r 0:Nat)):=by
 have Ee:r<rk.length:=by rw[M.Wl];exact hr
 rw[Fc (by rw[aZ];exact Ee)]
 simp[ba,getD_eq_getElem?_getD,List.getElem?_eq_getElem Ee]
def zw(hn:n<2^S.length):(aQ n).length<=S.length:=mK S.length _ (dD _) λx hx=>bC hn hx
def bHd(M:Oa S rk c)(ha:al<2^S.length):oJ [mD S rk c,.int al,.bl w]=.ok (.lst<|(Au rk al w).map D.int):=by
 have n8:=M.most;have Vi:=lE ha (by omega)
 have hl:=zw ha;have c1:=fM (tg:=jb 5) (C:=dB) (E:=pO) (st:=[mD S rk c,al,D.bl w,none,none,none]) (q:=λ_=>true) (G:=λr=>.int (rk.getD r 0:Nat)) (aQ al)<|λr hr=>⟨_,rfl,rfl,aK (show dY "Machine" "ranks" (mD S rk c)=_ from mL) rfl<|iZ<|J0 M<|bC ha hr⟩
 rw[Ku.mpr λ_ _=>rfl]at c1
 have em:(aQ al).map (λr=>D.int (rk.getD r 0:Nat))=((aQ al).map λr=>(rk.getD r 0:Int)).map D.int:=by rw[Jk];rfl
 rw[em]at c1;have h1:e1 OI (cN [5] (jb 5) (Yc<|aO cB<|aC (aA 1) aP) dB pO) [mD S rk c,al,D.bl w,none,none,none]=.ok (.lst<|(Hl<|tm<|(aQ al).map λr=>(rk.getD r 0:Int)).map D.int):=by
  rw[YK,eY (pI<|aJ rfl Vi) (by rw[aZ];omega) c1,aR]
  show (yF _).bind _=_;rw[uT,aR];exact aF ⟨by rw[Yd];omega,aE (AK _ [])<|by rw[Yd,Kr];omega⟩
 have hs:(Hl<|tm<|(aQ al).map λr=>(rk.getD r 0:Int)).length<=S.length:=by
  rw[(dw _).length_eq];refine bf (AK _ []) ?_
  rw[Yd];simpa using hl
 refine bA rfl<|aH (bB h1)<|bO<|eY (pI rfl) (by rw[Yd];omega)<|NU (q:=λp=>decide (p%2=0)==w) _ λk _=>⟨_,rfl,aK (aK (aK rfl rfl<|xP<|by decide) rfl<|vI _ _) rfl<|bM1 _ _,rfl⟩
def mT:(dF S c n).length<=(aQ n).length:=by
 have hf:∀(rs ps:List Nat),(rs.foldl (λps r=>if fJ S c n r∉ps/\Bc S (fJ S c n r)=true then ps++[fJ S c n r] else ps) ps).length<=ps.length+rs.length:=λrs=>by
  induction rs with
  |nil=>intro ps;exact Zc _
  |cons r rs ih=>
   intro ps;rw[Po,Te];refine bf (ih _) ?_
   split
   .rw[Wf,Gh];omega
   .omega
 have:=hf (aQ n) [];unfold dF;simpa using this
def AX(M:Oa S rk c)(hn:n<2^S.length) (h:m∈dF S c n):m<2^S.length/\m≠0:=by
 obtain⟨r,hr,rfl,hq⟩:=lK.mp h;exact⟨CB,(NH M hn hr hq).1⟩
def û(M:Oa S rk c)(ha:al<2^S.length):mF [mD S rk c,.int al,.int p]=.ok (.lst<|ba<|wM S c rk al p):=by
 have n8:=M.most;have Vi:=lE ha (by omega)
 have hl:=zw ha;have qp:=Ut (rk:=rk) (p:=p) ha;have h1:oK [mD S rk c,al,p,none,none,none]=.ok (.nx [mD S rk c,al,p,yV rk al p,none,none]):=by
  refine aH (bB<|aJ (aN (eY (pI<|aJ rfl Vi) (by rw[aZ];omega)<|fM (q:=λr=>decide ((rk.getD r 0:Int)<=p)) (G:=λr=>.int r) (aQ al) λr hr=>⟨_,rfl,aK (aK (show dY "Machine" "ranks" (mD S rk c)=_ from mL) rfl<|iZ<|J0 M<|bC ha hr) rfl rfl,rfl⟩) rfl)<|xt (l:=(aQ al).filter λr=>decide ((rk.getD r 0:Int)<=p)) (λr hr=>by have:=bC ha (Be.mp hr).1;omega) (by have:=tq (λr=>decide ((rk.getD r 0:Int)<=p))<|aQ al;omega)) rfl
 have ff:=bf (mT (S:=S) (c:=c) (n:=yV rk al p))<|zw qp;have h2:=eY (is:=[4]) (it:=Yc<|aO fZ<|aC (aA 0)<|aC (aA 3) aP) (st:=[mD S rk c,al,p,yV rk al p,none,none]) (pI<|aJ rfl<|NA M qp) (by rw[aZ];omega)<|fM (tg:=jb 4) (C:=nC) (E:=nA) (q:=λm=>decide (lR rk m=p)) (G:=λr=>.int r) (dF S c<|yV rk al p) λm hm=>⟨_,rfl,aK (aJ rfl<|nK M (AX M qp hm).1 (AX M qp hm).2) rfl<|vI _ _,rfl⟩
 refine bA rfl ?_
 show sS oK _ [mD S rk c,al,p,none,none,none]=_;unfold sS;rw[h1];show R.bind (cN [4] (jb 4) (Yc<|aO fZ<|aC (aA 0)<|aC (aA 3) aP) nC nA [mD S rk c,al,p,yV rk al p,none,none]) _=_;rw[h2];rfl
theorem pT(M:Oa S rk c)(ha:al<2^S.length):∀(ps:List Int)(F:List Nat)(x4:Option Sl),F.length+8*ps.length<=1000->∃Lj,Nb (jb 4) wJ (ps.map D.int) [mD S rk c,al,D.bl w,some<|.o .l<|ba F,x4]=.ok (.nx [mD S rk c,al,D.bl w,some<|.o .l<|ba<|F++ps.flatMap (wM S c rk al),Lj])
 |[],F,x4,_=>⟨x4,by rw[List.flatMap_nil,uh];rfl⟩
 |p::ps,F,x4,hl=>by
  rw[Te]at hl;have n8:=M.most;have ht:(wM S c rk al p).length<=8:=bf (tq _ _)<|bf (mT (S:=S) (c:=c))<|bf (zw<|Ut ha) n8;obtain⟨Lj,e⟩:=pT M ha ps (F++wM S c rk al p) p (by rw[Wf];omega)
  rw[Cm]at e;have hx:=bLr (i:=3) (f:=aO mF<|aC (aA 0)<|aC (aA 1)<|aC (aA 4) aP) (st:=[mD S rk c,al,D.bl w,some<|.o .l<|ba F,p]) (aJ rfl<|û (p:=p) M ha) rfl<|gO<|by rw[aZ,aZ];omega
  refine⟨Lj,dM rfl hx ?_⟩;rw[<-(show ba (F++wM S c rk al p)=ba F++ba (wM S c rk al p) from Qj),List.flatMap_cons]
  exact e
def Aw(M:Oa S rk c)(ha:al<2^S.length):cT [mD S rk c,.int al,.bl w]=.ok (.lst<|ba<|pA S c rk al w):=by
 have n8:=M.most;have hr:(Au rk al w).length<=8:=by
  refine bf (tq _ _) ?_
  rw[(dw _).length_eq];refine bf (AK _ []) ?_
  rw[Yd];have:=zw ha;simp only[length_nil];omega
 obtain⟨x4,e⟩:=pT (w:=w) M ha (Au rk al w) [] none (by simp only[length_nil];omega)
 exact bA rfl<|aH (pW<|fB rfl)<|aH (dR (pI<|aJ rfl<|bHd M ha) e) rfl
end
def ü{a b c:Bd}{st:ua}:aY (aY a b) c st=aY a (aY b c) st:=by
 show vm (vm (a st) b) c=vm (a st) λs=>vm (b s) c
 cases h:a st with
 |ok x=>cases x<;>rfl
 |exc e=>rfl
 |bad=>rfl
inductive Fits:List Nat->List Nat->Prop
 |nil:Fits [] []
 |cons {x m:Nat} {xs ms:List Nat}:x<m->Fits xs ms->Fits (x::xs) (m::ms)
theorem Fits.cut:∀{c n s:Nat}{xs:List Nat},Fits xs (List.replicate c n++[s])->∃r x,xs=r++[x]/\r.length=c/\(∀z∈r,z<n)/\x<s
 |0,n,s,_,.cons h .nil=>⟨[],_,rfl,rfl,λ_ z=>(nomatch z),h⟩
 |c+1,n,s,xs,h=>by
  rw[Ko,MM]at h;cases h with
  |cons h1 h2=>
   rename_i x xs;obtain⟨r,y,e,l,a,b⟩:=h2.cut;refine⟨x::r,y,by rw[e];rfl,by rw[Te,l],λz hz=>?_,b⟩
   rcases Kc.mp hz with q|q
   .rw[q];exact h1
   .exact a z q
def BX{k:Nat}(h:k<ns.length):de (ns.map D.int) (k:Int)=some (.int<|ns.getD k 0):=by
 rw[Fc (by rw[Yd];exact h)]
 simp[getD_eq_getElem?_getD,List.getElem?_eq_getElem h]
def bHe(S:List (List Nat))(r:List Nat):Pb (S++[r])=Pb S++[.lst<|ba r]:=by unfold Pb;simp
def Ŏ(l:List D)(d:D):cut (l++[d]) none (some<|-1)=l:=by
 have e:((-1:Int)+((l++[d]).length:Nat)).toNat=l.length:=by rw[Wf,Gh];omega
 show ((l++[d]).drop 0).take ((if (-1:Int)<0 then ((-1:Int)+((l++[d]).length:Nat)).toNat else min (-1:Int).toNat (l++[d]).length)-0)=l
 rw[kb (by decide),e]
 simp
theorem DX{E:Ex}{st:ua}{tg:Tg}{n:Nat}:∀r:List Nat,(∀g∈r,∃s1 v,tg (.int (g:Nat)) st=.ok s1/\E s1=.ok (.int (v:Nat))/\v<n)->∃r',iR tg dB E st (ba r)=.ok (ba r')/\r'.length=r.length/\∀z∈r',z<n
 |[],_=>⟨[],rfl,rfl,λ_ z=>(nomatch z)⟩
 |g::r,h=>by
  obtain⟨s1,v,lg,Xf,hv⟩:=h g Jb;obtain⟨r',e,l,hr⟩:=DX r λg hg=>h g<|Qb _ hg
  refine⟨v::r',?_,by rw[Te,Te,l],λz hz=>?_⟩
  .show iR tg dB E st (.int (g:Nat)::ba r)=.ok (.int (v:Nat)::ba r');rw[lX,lg];simp only[aR,show dB s1=.ok (.bl true) from rfl,oW,if_true,Xf,e]
  .rcases Kc.mp hz with q|q
   .rw[q];exact hv
   .exact hr z q
def xC{i j:Int}(h : -18446744073709551616<i/\i<18446744073709551616):wG (.int i) (.int j)=.ok (.int<|i*j):=aF<|.inl h
def BK{i j:Int}(h : -18446744073709551616<j/\j<18446744073709551616):wG (.int i) (.int j)=.ok (.int<|i*j):=aF<|.inr h
def lq{i j:Int}(h:0<j):∃v,pL (.int i) (.int j)=.ok (.int v)/\0<=v/\v<j:=⟨i%j,xP h,Int.emod_nonneg _ (by omega),Int.emod_lt_of_pos _ h⟩
def OU(ns:List Int)(k:Nat)(hk:k<=100000):∃v:Int,0<=v/\sU [.lst<|ns.map D.int,.int k]=.ok (.int v):=by
 have ln:∀x,e1 lW (aA 0) [D.lst<|ns.map D.int,k,x]=.ok (.int (ns.length:Nat)):=λx=>by
  show R.ok (D.int (((ns.map D.int).length:Nat):Int))=_;rw[Yd]
 by_cases h:k<ns.length
 .obtain⟨v,e,v0,_⟩:=lq (i:=ns.getD k 0) (j:=1000000000000000000000000000000) (by decide)
  refine⟨v,v0,bA rfl<|vH<|tM (aK rfl (ln none)<|by show R.ok (D.bl<|decide ((k:Int)<(ns.length:Nat)))=_;rw[U1 h])<|bO<|aK (aK rfl rfl<|iZ<|BX h) (aK rfl rfl (y:=.int 30)<|aF<|by decide) e⟩
 .have fin:∀r:Int,∃v:Int,0<=v/\e2 pL (e2 wG (e2 qM (e2 qM (e2 wG (aA 2)<|eI 48271)<|e2 wG (eI 7919)<|aA 1)<|eI 11)<|e2 qM (aA 1)<|eI 2) (eI 2147483647) [D.lst<|ns.map D.int,k,r]=.ok (.int v):=λr=>by
   obtain⟨v,e,v0,_⟩:=lq (i:=(r*48271+7919*(k:Int)+11)*((k:Int)+2)) (j:=2147483647) (by decide)
   exact⟨v,v0,aK (aK (aK (aK (aK rfl rfl<|BK<|by decide) (aK rfl rfl<|xC<|by decide) rfl) rfl rfl) (aK rfl rfl rfl)<|BK<|by omega) rfl e⟩
  have t1:e2 Ck (aA 1) (e1 lW<|aA 0) [D.lst<|ns.map D.int,k,none]=.ok (.bl false):=aK rfl (ln none) (by show R.ok (D.bl<|decide ((k:Int)<(ns.length:Nat)))=_;rw[V1 h])
  by_cases h0:ns.length=0
  .obtain⟨v,v0,e⟩:=fin 0;refine⟨v,v0,bA rfl<|aH (iK t1 rfl)<|aH (bB rfl)<|aH (iK (aK (ln _) rfl ?_) rfl)<|bO e⟩;show R.ok (D.bl<|decide ((0:Int)<(ns.length:Nat)))=_;rw[h0];rfl
  .have hm:k%ns.length<ns.length:=mod_lt _<|kM h0;have ec:((k%ns.length:Nat):Int)=(k:Int)%(ns.length:Nat):=by push_cast;rfl
   have e:=BX hm;rw[ec]at e;obtain⟨r,er,_,_⟩:=lq (i:=ns.getD (k%ns.length) 0) (j:=999983) (by decide)
   obtain⟨v,v0,ev⟩:=fin r;refine⟨v,v0,bA rfl<|aH (iK t1 rfl)<|aH (bB rfl)<|aH (tM (aK (ln _) rfl ?_)<|bB<|aK (aK rfl (aK rfl (ln _)<|xP<|by omega)<|iZ e) rfl er)<|bO ev⟩
   show R.ok (D.bl<|decide ((0:Int)<(ns.length:Nat)))=_;rw[Uc (by omega)]
def PU(c k:Int){m:Int}(h:0<m):∃v,sV [.int c,.int k,.int m]=.ok (.int v)/\0<=v/\v<m:=by
 obtain⟨a,lg,a0,a1⟩:=lq (i:=c+15485863*k) (j:=2147483629) (by decide)
 obtain⟨a',Xf,b0,b1⟩:=lq (i:=a*a) (j:=2147483647) (by decide)
 obtain⟨b,e3',c0,c1⟩:=lq (i:=a' * 69621) (j:=2147483629) (by decide)
 obtain⟨d,e4',d0,d1⟩:=lq (i:=b*b) (j:=2147483587) (by decide)
 obtain⟨v,e5',v0,v1⟩:=lq (i:=d/32) h;refine⟨v,bA rfl<|aH (bB<|aK (aK rfl (aK rfl rfl<|xC<|by decide) rfl) rfl lg)<|aH (bB<|aK (aK (aK (aK rfl rfl<|xC<|by omega) rfl Xf) rfl<|BK<|by decide) rfl e3')<|bO<|aK (aK (aK (aK rfl rfl<|xC<|by omega) rfl e4') rfl<|ww<|by decide) rfl e5',v0,v1⟩
theorem sT{x1:Option Sl}:∀(ms:List Nat)(c:Int)(row:List Nat)(x3:Option Sl),(∀m∈ms,1<=m/\m<=1000)->row.length+ms.length<=1000->∃c' oh y3,Nb (jb 3) NP (ba ms) [c,x1,some<|.o .l<|ba row,x3]=.ok (.nx [c',x1,some<|.o .l<|ba<|row++oh,y3])/\Fits oh ms
 |[],c,row,x3,_,_=>⟨c,[],x3,by rw[uh];rfl,.nil⟩
 |m::ms,c,row,x3,h,hl=>by
  obtain⟨m1,m2⟩:=h m Jb;rw[Te]at hl;have e0:c%(m:Int)=((c%(m:Int)).toNat:Int):=by have:=Int.emod_nonneg c (show (m:Int)≠0 by omega);omega
  have lg:(c%(m:Int)).toNat<m:=by have:=Int.emod_lt_of_pos c (show (0:Int)<m by omega);omega
  obtain⟨c',oh,y3,e,hf⟩:=sT (x1:=x1) ms (c/(m:Int)) (row++[(c%(m:Int)).toNat]) m (λm hm=>h m<|Qb _ hm) (by rw[Wf,Gh];omega)
  rw[Cm,u4]at e;refine⟨c',_,y3,dM rfl (aH (vJ (aK rfl rfl<|xP<|by omega) rfl<|by rw[aZ];omega)<|bB<|aK rfl rfl<|ww<|by omega) ?_,.cons lg hf⟩
  rw[jX,<-e0]at e;exact e
def EX(c:Int)(ms:List Nat)(h:∀m∈ms,1<=m/\m<=1000)(hl:ms.length<=1000):∃row,lH [.int c,.lst<|ba ms]=.ok (.lst<|ba row)/\Fits row ms:=by
 obtain⟨c',row,y3,e,hf⟩:=sT (x1:=some<|.v<|.lst<|ba ms) ms c [] none h (by rw[Kr];omega)
 exact⟨row,bA rfl<|aH (pW<|fB rfl)<|aH (dR rfl e)<|bO rfl,hf⟩
theorem oI{tg:Tg}{E:Ex}{st:ua}:∀(ms:List Nat)(j:Nat),(∀i m:Nat,ms[i]?=some m->∃s1 v,tg (.int ((j+i:Nat):Int)) st=.ok s1/\E s1=.ok (.int v)/\0<=v/\v<(m:Int))->∃row,iR tg dB E st (ba<|List.range' j ms.length)=.ok (ba row)/\Fits row ms
 |[],_,_=>⟨[],rfl,.nil⟩
 |m::ms,j,h=>by
  obtain⟨s1,v,lg,Xf,v0,v1⟩:=h 0 m rfl;obtain⟨row,e,hf⟩:=oI ms (j+1) λi m hm=>by
   obtain⟨s1,v,a,b,c⟩:=h (i+1) m (by simpa using hm)
   exact⟨s1,v,by rw[show j+1+i=j+(i+1) by omega];exact a,b,c⟩
  refine⟨v.toNat::row,?_,.cons (by omega) hf⟩
  rw[Te,List.range'_succ];show iR tg dB E st (.int (j:Nat)::ba (List.range' (j+1) ms.length))=_;rw[lX,show tg (.int (j:Nat)) st=.ok s1 from lg]
  have ev:ba (v.toNat::row)=.int v::ba row:=by
   show D.int ((v.toNat:Nat):Int)::ba row=_;rw[Int.toNat_of_nonneg v0]
  rw[ev];simp only[aR,show dB s1=.ok (.bl true) from rfl,oW,if_true,Xf,e]
def Bt{i x:Nat}(h:l[i]?=some x):de (ba l) (i:Int)=some (.int (x:Nat)):=by
 have hi:=(Og.mp h).1;rw[Fc (by rw[aZ];exact hi),<-Nf]
 unfold ba;rw[Hk,h];rfl
def ý(l:List Nat)(x:Nat):de (ba<|l++[x]) (-1)=some (.int (x:Nat)):=by
 rw[jX];unfold de vh;rw[gb (by decide),kb (by rw[Wf,Gh];omega)]
 have e:((-1:Int)+((ba l++[D.int (x:Nat)]).length:Nat)).toNat=(ba l).length:=by rw[Wf,Gh];omega
 show (ba l++[D.int (x:Nat)])[((-1:Int)+((ba l++[D.int (x:Nat)]).length:Nat)).toNat]?=_;rw[e];simp
def bHf(k:Nat)(d:D):rep k [d]=List.replicate k d:=by
 unfold rep
 induction k with
 |zero=>rfl
 |succ k ih=>rw[Ko,Gr,ih];rfl
def ŏ{k g w:Nat}(hk:k<n)(hg:g<n):∃v:Nat,wH [.int k,.int g,.int w,.int n]=.ok (.int v)/\v<n:=by
 have mx:kx (.int k) (.int g)=.ok (.int ((max k g:Nat):Int)):=by
  show R.ok (D.int<|if (g:Int)>(k:Int) then (g:Int) else (k:Int))=_
  congr 2;split<;>omega
 by_cases h1:w=1
 .refine⟨max k g,bA rfl<|vH<|tM (aK rfl rfl<|(vI _ _).trans ?_)<|bO<|aK rfl rfl mx,by omega⟩
  rw[Uc (by omega)]
 .have t1:e2 Qc (aA 2) (eI 1) [k,g,w,n]=.ok (.bl false):=aK rfl rfl ((vI _ _).trans<|by rw[fe (by omega)])
  have t2:mY (e2 Qc (aA 2)<|eI 2) (e2 Ck (e2 qm (aA 1)<|eI 2)<|e2 qm (aA 0)<|eI 2) [k,g,w,n]=.ok (.bl<|decide ((w:Int)=2)&&decide ((g:Int)/2<(k:Int)/2)):=mJ (aK rfl rfl<|vI _ _) λ_=>aK (aK rfl rfl<|ww<|by decide) (aK rfl rfl<|ww<|by decide) rfl
  cases h2:decide ((w:Int)=2)&&decide ((g:Int)/2<(k:Int)/2)
  .exact⟨g,bA rfl<|aH (iK t1 rfl)<|aH (iK (t2.trans<|by rw[h2]) rfl)<|bO rfl,hg⟩
  .refine⟨min (n-1)<|k-k%2+g%2,bA rfl<|aH (iK t1 rfl)<|vH<|tM (t2.trans<|by rw[h2])<|bO<|aK (aK rfl rfl rfl) (aK (aK rfl (aK rfl rfl<|xP<|by decide) rfl) (aK rfl rfl<|xP<|by decide) rfl) ?_,by omega⟩
   show R.ok (D.int<|if (k:Int)-(k:Int)%2+(g:Int)%2<(n:Int)-1 then (k:Int)-(k:Int)%2+(g:Int)%2 else (n:Int)-1)=_
   congr 2;split<;>omega
abbrev Jl(ns:List Int)(f:Int)(ms ds:List Nat)(n:Nat)(S rk:List D)(x9 x10 yg:Option Sl):ua:=[some<|.v<|.lst<|ns.map D.int,some<|.v<|.int 0,some<|.v<|.int 6,some<|.v<|.int f,some<|.v<|.lst<|ba ms,some<|.v<|.lst<|ba ds,some<|.v<|.int n,some<|.o .l S,some<|.o .l rk,x9,x10,yg,none,none]
section
variable{f:Int}{c s d0 d1 d2 d3 d4:Nat}
def ϳ(hn:1<=n/\n<=6)(hc:c<=3)(hs:1<=s/\s<=6)(h2:d2<4)(S:List (List Nat))(rk:List Nat)(hS:S.length<=100)(hrk:rk.length<=100)(k:Nat)(hk:k<n)(x10 yg:Option Sl) :
  ∃r v nj oj,qR (Jl ns f (List.replicate c n++[s]) [d0,d1,d2,d3,d4] n (Pb S) (ba rk) k x10 yg)=.ok (.nx<|Jl ns f (List.replicate c n++[s]) [d0,d1,d2,d3,d4] n (Pb<|S++[r]) (ba<|rk++[v]) k nj oj)/\r.length=c/\∀z∈r,z<n:=by
 have n5:∀m∈List.replicate c n++[s],1<=m/\m<=1000:=λm hm=>by
  rcases Hh.mp hm with h|h
  .rw[(List.mem_replicate.mp h).2];omega
  .rw[Ce.mp h];omega
 have hml:(List.replicate c n++[s]).length=c+1:=by simp
 obtain⟨cl,c0,ec⟩:=OU ns (0+1+k) (by omega)
 rw[show ((0+1+k:Nat):Int)=0+1+(k:Int) by omega]at ec
 obtain⟨row,ed,hd⟩:=EX cl (List.replicate c n++[s]) n5 (by omega)
 have ex:∃oh,(Pd (e2 Qc (e2 pL (aA 3)<|eI 2)<|eI 0) (cC 11<|cN [12] (jb 12) (tH<|e1 lW<|aA 4) dB qQ) cO) (Jl ns f (List.replicate c n++[s]) [d0,d1,d2,d3,d4] n (Pb S) (ba rk) k cl<|D.lst<|ba row)=.ok (.nx<|Jl ns f (List.replicate c n++[s]) [d0,d1,d2,d3,d4] n (Pb S) (ba rk) k cl<|D.lst<|ba oh)/\Fits oh (List.replicate c n++[s]):=by
  have t:(e2 Qc (e2 pL (aA 3)<|eI 2)<|eI 0) (Jl ns f (List.replicate c n++[s]) [d0,d1,d2,d3,d4] n (Pb S) (ba rk) k cl<|D.lst<|ba row)=.ok (.bl<|decide (f%2=0)):=aK (aK rfl rfl<|xP<|by decide) rfl<|vI _ _
  cases hf:decide (f%2=0)
  .exact⟨row,iK (t.trans<|by rw[hf]) rfl,hd⟩
  .obtain⟨oh,e,hF⟩:=oI (tg:=jb 12) (E:=qQ) (st:=Jl ns f (List.replicate c n++[s]) [d0,d1,d2,d3,d4] n (Pb S) (ba rk) k cl<|D.lst<|ba row) (List.replicate c n++[s]) 0 λi m hm=>by
    obtain⟨v,e,v0,v1⟩:=PU cl (11+((0+i:Nat):Int)) (m:=(m:Int)) (by have:=n5 m<|Ek hm;omega)
    exact⟨_,v,rfl,aJ (aN rfl<|aN (aK rfl rfl rfl)<|aN (aK rfl rfl<|iZ<|Bt<|by rw[DE];exact hm) rfl) e,v0,v1⟩
   refine⟨oh,tM (t.trans<|by rw[hf])<|bB<|eY (yO (n:=(List.replicate c n++[s]).length) ?_<|by omega) (by simp;omega) ?_,hF⟩
   .show R.ok (D.int ((ba<|List.replicate c n++[s]).length:Nat))=_;rw[aZ]
   .rw[<-List.range_eq_range']at e;exact e
 obtain⟨oh,e11,hF⟩:=ex;obtain⟨r,x,rfl,lr,hr,hx⟩:=hF.cut;have em:∃r',iR (jb 13) dB yI (Jl ns f (List.replicate c n++[s]) [d0,d1,d2,d3,d4] n (Pb S) (ba rk) k cl<|D.lst<|ba<|r++[x]) (ba r)=.ok (ba r')/\r'.length=r.length/\∀z∈r',z<n:=DX r λg hg=>by
  obtain⟨v,e,hv⟩:=ŏ (w:=d4) hk<|hr g hg;exact⟨_,v,rfl,aJ (aN rfl<|aN rfl<|aN (aK rfl rfl<|iZ (d:=.int d4) rfl) rfl) e,hv⟩
 obtain⟨r',er,lr',Ee⟩:=em;obtain⟨b,eb⟩:∃b:Nat,e2 Mb (jP<|aC (eI 0)<|aC (eI 0)<|aC (eI 1)<|aC (e2 xo (eI 10)<|eI 29) aP) (e2 Mb (aA 5)<|eI 2) (Jl ns f (List.replicate c n++[s]) [d0,d1,d2,d3,d4] n (Pb<|S++[r']) (ba rk) k cl<|D.lst<|ba<|r++[x])=.ok (.int (b:Nat)):=by
  have el:jP (aC (eI 0)<|aC (eI 0)<|aC (eI 1)<|aC (e2 xo (eI 10)<|eI 29) aP) (Jl ns f (List.replicate c n++[s]) [d0,d1,d2,d3,d4] n (Pb<|S++[r']) (ba rk) k cl<|D.lst<|ba<|r++[x])=.ok (.lst<|ba [0,0,1,10^29]):=fB<|aN rfl<|aN rfl<|aN rfl<|aN (aK rfl rfl<|aF<|by decide) rfl
  obtain⟨b,hb⟩:∃b,[0,0,1,10^29][d2]?=some b:=⟨_,Nf<|by simpa using h2⟩
  exact⟨b,aK el (aK rfl rfl<|iZ (d:=.int d2) rfl)<|iZ<|Bt hb⟩
 refine⟨r',b+x,cl,D.lst<|ba<|r++[x],aH (bB<|aJ (aN rfl<|aN (aK (aK rfl rfl rfl) rfl rfl) rfl) ec)<|aH (bB<|aJ rfl ed)<|aH e11<|aH (st':=Jl ns f (List.replicate c n++[s]) [d0,d1,d2,d3,d4] n (Pb<|S++[r']) (ba rk) k cl<|D.lst<|ba<|r++[x]) ?_ ?_,by rw[lr',lr],Ee⟩
 .rw[bHe];refine vJ (d:=.lst<|ba r') (eY (pI (xs:=ba r) ?_) (by rw[aZ,lr];omega) er) rfl (by rw[nG];omega)
  show R.ok (D.lst<|cut (ba<|r++[x]) none<|some<|-1)=_;rw[jX,Ŏ]
 .have:ba (rk++[b+x])=ba rk++[.int<|(b:Int)+(x:Int)]:=by rw[jX];push_cast;rfl
  rw[this];exact vJ (d:=.int<|(b:Int)+(x:Int)) (aK eb (aK rfl rfl<|iZ<|ý r x) rfl) rfl (by rw[aZ];omega)
theorem fS(hn:1<=n/\n<=6)(hc:c<=3)(hs:1<=s/\s<=6)(h2:d2<4):∀(ks:List Nat) (S:List (List Nat)) (rk:List Nat) (x9 x10 yg:Option Sl),(∀x∈ks,x<n)->S.length+ks.length<=100->rk.length=S.length->(∀r∈S,r.length=c/\∀z∈r,z<n)->
  ∃S' vF y9 nj oj,Nb (jb 9) qR (ba ks) (Jl ns f (List.replicate c n++[s]) [d0,d1,d2,d3,d4] n (Pb S) (ba rk) x9 x10 yg)=.ok (.nx<|Jl ns f (List.replicate c n++[s]) [d0,d1,d2,d3,d4] n (Pb S') (ba vF) y9 nj oj)/\S'.length=S.length+ks.length/\vF.length=S'.length/\∀r∈S',r.length=c/\∀z∈r,z<n
 |[],S,rk,x9,x10,yg,_,_,he,hr=>⟨S,rk,x9,x10,yg,rfl,rfl,he,hr⟩
 |x::ks,S,rk,x9,x10,yg,hk,hl,he,hr=>by
  rw[Te]at hl;obtain⟨r,v,nj,oj,t,tl,tr⟩:=ϳ (ns:=ns) (f:=f) (d0:=d0) (d1:=d1) (d3:=d3) (d4:=d4) hn hc hs h2 S rk (by omega) (by omega) x (hk x Jb) x10 yg
  obtain⟨S',vF,z9,Wv,Xv,e,h1,nN,h3⟩:=fS hn hc hs h2 ks (S++[r]) (rk++[v]) x nj oj (λx hx=>hk x<|Qb _ hx) (by rw[Wf,Gh];omega) (by rw[Wf,Wf,Gh,Gh,he]) (λr' Ee=>by
   rcases Hh.mp Ee with h|h
   .exact hr r' h
   .rw[Ce.mp h];exact⟨tl,tr⟩)
  exact⟨S',vF,z9,Wv,Xv,dM rfl t e,by rw[h1,Wf,Gh,Te];omega,nN,h3⟩
def Ő(ns:List Int):∃S rk c,lZ [.lst<|ns.map D.int,.int 0,.int 6]=.ok (.tup [.lst<|Pb S,.lst<|ba rk])/\Oa S rk c:=by
 obtain⟨f,f0,ef⟩:=OU ns 0 (by omega)
 obtain⟨ds,ed,hd⟩:∃ds,(aY (cC 5<|cN [9] (jb 9) (tH<|eI 5) dB jU)<|Pd (e2 Qc (e2 pL (aA 3)<|eI 2)<|eI 1) (cC 5<|aO lH<|aC (e2 qm (aA 3)<|eI 2)<|aC (aA 4) aP) cO) [D.lst<|ns.map D.int,some<|.v<|.int 0,some<|.v<|.int 6,f,D.lst<|ba [6,3,4,4,3],none,none,none,none,none,none,none,none,none]=.ok (.nx [D.lst<|ns.map D.int,some<|.v<|.int 0,some<|.v<|.int 6,f,D.lst<|ba [6,3,4,4,3],D.lst<|ba ds,none,none,none,none,none,none,none,none])/\Fits ds [6,3,4,4,3]:=by
  obtain⟨row,e,hF⟩:=oI (tg:=jb 9) (E:=jU) (st:=[D.lst<|ns.map D.int,some<|.v<|.int 0,some<|.v<|.int 6,f,D.lst<|ba [6,3,4,4,3],none,none,none,none,none,none,none,none,none]) [6,3,4,4,3] 0 λi m hm=>by
   have Sk:0<m:=by
    have:=Ek hm;simp at this;omega
   obtain⟨v,e,v0,v1⟩:=PU f (1+((0+i:Nat):Int)) (m:=(m:Int)) (by omega)
   exact⟨_,v,rfl,aJ (aN rfl<|aN (aK rfl rfl rfl)<|aN (aK rfl rfl<|iZ<|Bt<|by rw[DE];exact hm) rfl) e,v0,v1⟩
  obtain⟨oh,e',hF'⟩:=EX (f/2) [6,3,4,4,3] (λm hm=>by simp at hm;omega) (by decide)
  have t:(e2 Qc (e2 pL (aA 3)<|eI 2)<|eI 1) [D.lst<|ns.map D.int,some<|.v<|.int 0,some<|.v<|.int 6,f,D.lst<|ba [6,3,4,4,3],D.lst<|ba row,none,none,none,none,none,none,none,none]=.ok (.bl<|decide (f%2=1)):=aK (aK rfl rfl<|xP<|by decide) rfl<|vI _ _
  have s5:(cC 5<|cN [9] (jb 9) (tH<|eI 5) dB jU) [D.lst<|ns.map D.int,some<|.v<|.int 0,some<|.v<|.int 6,f,D.lst<|ba [6,3,4,4,3],none,none,none,none,none,none,none,none,none]=.ok (.nx [D.lst<|ns.map D.int,some<|.v<|.int 0,some<|.v<|.int 6,f,D.lst<|ba [6,3,4,4,3],D.lst<|ba row,none,none,none,none,none,none,none,none]):=bB<|eY (yO (n:=5) rfl<|by omega) (by simp) e
  cases hf:decide (f%2=1)
  .exact⟨row,aH s5<|iK (t.trans<|by rw[hf]) rfl,hF⟩
  .exact⟨oh,aH s5<|tM (t.trans<|by rw[hf])<|bB<|aJ (aN (aK rfl rfl<|ww<|by decide) rfl) e',hF'⟩
 cases hd with|cons h0 hd=>cases hd with|cons h1 hd=>cases hd with|cons h2 hd=>cases hd with|cons h3 hd=>cases hd with|cons h4 hd=>
 cases hd;rename_i d0 d1 d2 d3 d4;obtain⟨s,hs,es⟩:∃s,[2,3,4,6][d3]?=some s/\1<=s/\s<=6:=by
  have:d3=0\/d3=1\/d3=2\/d3=3:=by omega
  rcases this with rfl|rfl|rfl|rfl<;>exact⟨_,rfl,by decide⟩
 obtain⟨S,rk,y9,nj,oj,e,l1,l2,hr⟩:=fS (ns:=ns) (f:=f) (n:=1+d0) (c:=1+d1) (s:=s) (d0:=d0) (d1:=d1) (d2:=d2) (d3:=d3) (d4:=d4) (by omega) (by omega) es h2 (List.range<|1+d0) [] [] none none none (λx hx=>Se.mp hx) (by simp;omega) rfl<|λ_ h=>(nomatch h)
 rw[Nl,Kr,DE]at l1;refine⟨S,rk,1+d1,bA rfl<|aH (bB<|aJ rfl ef)<|aH (bB (d:=.lst<|ba [6,3,4,4,3])<|fB rfl) ?_,⟨by omega,by omega,by omega,by omega,λr Ee=>⟨(hr r Ee).1,λx hx=>by have:=(hr r Ee).2 x hx;omega⟩,l2⟩⟩
 obtain⟨z1,hz1,jz⟩:=R.ma<|show vm _ _=_ from ed
 refine(ü (a:=cC 5<|cN [9] (jb 9) (tH<|eI 5) dB jU)).symm.trans (aH ed<|aH (bB (d:=.int ((1+d0:Nat):Int))<|aK rfl (aK rfl rfl<|iZ (d:=.int d0) rfl) ?_)<|aH (bB (d:=.lst<|ba<|List.replicate (1+d1) (1+d0)++[s])<|aK (x:=.lst<|List.replicate (1+d1)<|.int ((1+d0:Nat):Int)) (y:=.lst [.int (s:Nat)]) ?_ ?_ ?_)<|aH (pW<|fB rfl)<|aH (pW<|fB rfl)<|aH (dR (yO rfl<|by omega) e)<|bO ?_)
 .show R.ok (D.int<|1+(d0:Int))=_
  push_cast;rfl
 .show (R.ok [D.int ((1+d0:Nat):Int)]).bind _=_;rw[aR,show (e2 qM (eI 1)<|e2 Mb (aA 5)<|eI 1) _=.ok (.int ((1+d1:Nat):Int)) from aK rfl (aK rfl rfl<|iZ (d:=.int d1) rfl) (by show R.ok (D.int<|1+(d1:Int))=_;push_cast;rfl),aR]
  show aW _ (R.ok<|D.lst<|rep ((1+d1:Nat):Int).toNat [.int ((1+d0:Nat):Int)])=_;rw[aF ⟨gO (by simp),gO (by simp;omega),by omega,by omega⟩,dj,bHf]
 .have el:jP (aC (eI 2)<|aC (eI 3)<|aC (eI 4)<|aC (eI 6) aP) (List.set [some<|Sl.v<|D.lst<|ns.map D.int,some<|.v<|.int 0,some<|.v<|.int 6,f,D.lst<|ba [6,3,4,4,3],D.lst<|ba [d0,d1,d2,d3,d4],none,none,none,none,none,none,none,none] 6 ((1+d0:Nat):Int))=.ok (.lst<|ba [2,3,4,6]):=fB rfl;exact fB<|aN (aK el (aK rfl rfl<|iZ (d:=.int d3) rfl)<|iZ<|Bt hs) rfl
 .show aW _ _=_;rw[aF<|gO<|by simp;omega]
  unfold ba;rw[Qj,List.map_replicate];rfl
 .show (R.ok [D.lst<|Pb S,.lst<|ba rk]).bind _=_;rw[aR];exact aF<|gO<|show 2<=10000000 by decide
end
section
variable{S:List (List Nat)}{rk:List Nat}{c n:Nat}
abbrev pB(m n:Nat):Prop:=∀g∈aQ m,g∈aQ n
def QA(h0:n≠0):aQ n≠[]:=λz=>h0 (by
 have:=gJ n;rw[z]at this;exact this.symm)
def dA(h0:n≠0):(∃r∈aQ n,(rk.getD r 0:Int)=lR rk n)/\∀r∈aQ n,(rk.getD r 0:Int)<=lR rk n:=by
 obtain⟨h1,h2⟩:=gX (l:=(aQ n).map λr=>(rk.getD r 0:Int)) (by simpa using QA h0)
 obtain⟨r,hr,e⟩:=bg.mp h1;exact⟨⟨r,hr,e⟩,λr hr=>h2 _<|bg.mpr ⟨r,hr,rfl⟩⟩
def Cb(rk:List Nat)(m:Nat):Bool:=decide (lR rk m%2=0)
def Mf(m:Nat):Nat:=(aQ m).length
def Xg(rk:List Nat)(m:Nat):Nat:=cH<|(aQ m).filter λr=>!decide ((rk.getD r 0:Int)=lR rk m)
def mO:r∈aQ (Xg rk m)↔r∈aQ m/\(rk.getD r 0:Int)≠lR rk m:=by
 unfold Xg;rw[qX,Be];simp
def pJ{k:Nat}(h:m<2^k):Xg rk m<2^k:=oN λr hr=>bC h (Be.mp hr).1
def dZ(M:Oa S rk c) (hm:m<2^S.length) (h:q∈dF S c m):ve S c q/\pB q m/\q<2^S.length:=by
 obtain⟨r,hr,rfl,hq⟩:=lK.mp h;exact⟨NH M hm hr hq,λg hg=>ZI M hm hr hg,CB⟩
def hJ(M:Oa S rk c){m z:Nat}(hm:m<2^S.length)(hz:ve S c z)(hs:pB z m):∃q∈dF S c m,pB z q:=by
 obtain⟨r,hr⟩:=rq _<|QA hz.1;have hsub:=bX M hm hz hs hr;exact⟨_,lK.mpr ⟨r,hs r hr,rfl,KU hz hsub⟩,hsub⟩
def wN(M:Oa S rk c){p g:Nat}(hm:m<2^S.length)(hp:p∈dF S c m)(hq:q∈dF S c m)(h1:g∈aQ p)(h2:g∈aQ q):p=q:=by
 obtain⟨a,ha,rfl,_⟩:=lK.mp hp;obtain⟨b,hb,rfl,_⟩:=lK.mp hq;have la:=bC hm ha;have lb:=bC hm hb;have m1:Rh S c m a g:=(kZ M la).mp<|aG.mp h1;have m2:Rh S c m b g:=(kZ M lb).mp<|aG.mp h2;exact(HU M lb<|m2.trans m1.symm)
def K0{p:Nat}(h:pB m p)(hr:r∈aQ p)(hn:r∉aQ m):Mf m<Mf p:=by
 have nd:(r::aQ m).Nodup:=Pj.mpr ⟨hn,dD m⟩;have:=nd.length_le_of_subset (l₂:=aQ p) λx hx=>by
  rcases Kc.mp hx with z|z
  .rw[z];exact hr
  .exact h x z
 rw[Te]at this;exact this
def tJ(M:Oa S rk c){p:Nat}(h0:p≠0)(hp:p<2^S.length)(h:q∈dF S c (Xg rk p)):Mf q<Mf p/\pB q p:=by
 obtain⟨⟨r,hr,e⟩,_⟩:=dA (rk:=rk) h0;obtain⟨_,h2,_⟩:=dZ M (pJ hp) h;exact⟨K0 (λg hg=>(mO.mp<|h2 g hg).1) hr λz=>(mO.mp<|h2 r z).2 e,λg hg=>(mO.mp<|h2 g hg).1⟩
inductive Mg (S:List (List Nat)) (c:Nat) (rk:List Nat) (w:Bool):Nat->Nat->Prop
 |out {P Y:Nat}:Y∈dF S c (Xg rk P)->Cb rk Y≠w->Mg S c rk w P Y
 |go {P Q Y:Nat}:Q∈dF S c (Xg rk P)->Cb rk Q=w->Mg S c rk w Q Y->Mg S c rk w P Y
def gK(M:Oa S rk c){w:Bool}{P Y:Nat}(h:Mg S c rk w P Y):P≠0->P<2^S.length->ve S c Y/\pB Y (Xg rk P)/\Y<2^S.length/\Mf Y<Mf P/\Cb rk Y≠w:=by
 induction h with
 |out h1 h2=>
  intro h0 hp;obtain⟨a,b,d⟩:=dZ M (pJ hp) h1;exact⟨a,b,d,(tJ M h0 hp h1).1,h2⟩
 |go h1 h2 _ ih=>
  intro h0 hp;obtain⟨a,b,d⟩:=dZ M (pJ hp) h1;obtain⟨i1,i2,i3,i4,i5⟩:=ih a.1 d;have hs:=tJ M h0 hp h1;exact⟨i1,λg hg=>b g (mO.mp<|i2 g hg).1,i3,by omega,i5⟩
def bM2(M:Oa S rk c){w:Bool}{P Y:Nat}(h:Mg S c rk w P Y):P≠0->P<2^S.length->∀{Z g:Nat},Mg S c rk w P Z->g∈aQ Y->g∈aQ Z->Y=Z:=by
 induction h with
 |out h1 h2=>
  intro h0 hp Z g hz Sy Xh;cases hz with
  |out h3 h4=>exact wN M (pJ hp) h1 h3 Sy Xh
  |go h3 h4 h5=>
   obtain⟨a,_,d⟩:=dZ M (pJ hp) h3;obtain⟨_,i2,_⟩:=gK M h5 a.1 d;have:=wN M (pJ hp) h1 h3 Sy (mO.mp<|i2 g Xh).1;rw[this]at h2;exact(h2 h4).elim
 |go h1 h2 h3 ih=>
  intro h0 hp Z g hz Sy Xh;obtain⟨a,_,d⟩:=dZ M (pJ hp) h1;obtain⟨_,i2,_⟩:=gK M h3 a.1 d;have g1:=(mO.mp<|i2 g Sy).1;cases hz with
  |out h4 h5=>
   have:=wN M (pJ hp) h1 h4 g1 Xh;rw[<-this]at h5;exact(h5 h2).elim
  |go h4 h5 h6=>
   obtain⟨a',_,d'⟩:=dZ M (pJ hp) h4;obtain⟨_,j2,_⟩:=gK M h6 a'.1 d';have:=wN M (pJ hp) h1 h4 g1 (mO.mp<|j2 g Xh).1;subst this;exact ih a.1 d h6 Sy Xh
def bHg{z p:Nat}(h0:z≠0)(hs:pB z p) (hr:r∈aQ z) (e:(rk.getD r 0:Int)=lR rk p):lR rk z=lR rk p:=by
 obtain⟨⟨r',Ee,e'⟩,hx⟩:=dA (rk:=rk) h0;have hp0:p≠0:=λz'=>by
  have:=hs r hr;rw[z']at this;exact absurd (aG.mp this) (by simp)
 obtain⟨_,hy⟩:=dA (rk:=rk) hp0;have h1:=hx r hr;have h2:=hy r'<|hs r' Ee;omega
theorem fA(M:Oa S rk c){w:Bool}:∀(k P:Nat),Mf P<=k->P≠0->P<2^S.length->Cb rk P=w->∀{Z:Nat},ve S c Z->pB Z P->(∃Y,Mg S c rk w P Y/\pB Z Y)\/(Cb rk Z=w/\∃r∈aQ Z,∀Y,Mg S c rk w P Y->r∉aQ Y)
 |0,P,hk,h0,_,_,_,_,_=>absurd (Gu.mp<|Nat.le_zero.mp hk)<|QA h0
 |k+1,P,hk,h0,hp,hw,Z,hz,hs=>by
  by_cases ht:∃r∈aQ Z,(rk.getD r 0:Int)=lR rk P
  .obtain⟨r,hr,e⟩:=ht;refine .inr ⟨?_,r,hr,λY hy Zy=>?_⟩
   .unfold Cb at hw ⊢;rw[bHg hz.1 hs hr e];exact hw
   .obtain⟨_,i2,_⟩:=gK M hy h0 hp;exact(mO.mp<|i2 r Zy).2 e
  .obtain⟨Q,hQ,ZN⟩:=hJ M (pJ (rk:=rk) hp) hz λg hg=>mO.mpr ⟨hs g hg,λe=>ht ⟨g,hg,e⟩⟩
   obtain⟨q1,q2,q3⟩:=dZ M (pJ hp) hQ;have hsz:=tJ M h0 hp hQ
   by_cases hq:Cb rk Q=w
   .rcases fA M k Q (by omega) q1.1 q3 hq hz ZN with ⟨Y,hy,hzy⟩|⟨e1,r,hr,hY⟩
    .exact .inl ⟨Y,.go hQ hq hy,hzy⟩
    .refine .inr ⟨e1,r,hr,λY hy Zy=>?_⟩
     have u5:=ZN r hr;cases hy with
     |out h3 h4=>
      have:=wN M (pJ hp) hQ h3 u5 Zy;rw[<-this]at h4;exact h4 hq
     |go h3 h4 h5=>
      obtain⟨a,_,d⟩:=dZ M (pJ hp) h3;obtain⟨_,i2,_⟩:=gK M h5 a.1 d;have:=wN M (pJ hp) hQ h3 u5 (mO.mp<|i2 r Zy).1;subst this;exact hY Y h5 Zy
   .exact .inl ⟨Q,.out hQ hq,ZN⟩
def qY(base:Nat)(good:Bool):Nat:=if (decide (base%2=0))==good then base else base+1
def vT(base:Nat)(good:Bool):(qY base good%2=0↔good=true)/\base<=qY base good:=by
 unfold qY
 by_cases h:base%2=0
 .cases good<;>simp[h] <;> omega
 .cases good<;>simp[h] <;> omega
def dq(f:Nat->Nat)(a:Nat)(l:List Nat):Nat:=l.foldl (λa y=>max a<|f y+1) a
theorem iA(f:Nat->Nat):∀(l:List Nat)(a:Nat),a<=dq f a l/\(∀y∈l,f y+1<=dq f a l)/\(dq f a l=a\/∃y∈l,dq f a l=f y+1)
 |[],a=>⟨Zc _,λ_ h=>(nomatch h),.inl rfl⟩
 |y::l,a=>by
  obtain⟨h1,h2,h3⟩:=iA f l<|max a<|f y+1;have e:dq f a (y::l)=dq f (max a<|f y+1) l:=rfl;rw[e];refine⟨by omega,λz hz=>?_,?_⟩
  .rcases Kc.mp hz with q|q
   .rw[q];omega
   .exact h2 z q
  .rcases h3 with q|⟨z,hz,q⟩
   .by_cases hle:f y+1<=a
    .exact .inl (by omega)
    .exact .inr ⟨y,Jb,by omega⟩
   .exact .inr ⟨z,Qb _ hz,q⟩
def Zn(S:List (List Nat))(c:Nat)(rk:List Nat)(L:Nat->List Nat):Prop:=∀X,X≠0->X<2^S.length->∀Y,Y∈L X↔Mg S c rk (Cb rk X) X Y
def bi(rk:List Nat)(L:Nat->List Nat)(base:Nat):Nat->Nat->Nat
 |0,_=>0
 |k+1,X=>dq (bi rk L base k) (qY base<|Cb rk X)<|L X
def qk(rk:List Nat)(L:Nat->List Nat)(base:Nat):Nat->Nat->Nat->Nat
 |0,_,_=>0
 |k+1,X,g=>match (L X).find? λY=>Y.testBit g with
  |some Y=>qk rk L base k Y g
  |none=>bi rk L base (k+1) X
section
variable{L:Nat->List Nat}{base:Nat}
def vM{X:Nat}(h:X≠0):1<=Mf X:=List.length_pos_iff.mpr<|QA h
def bHh{k X:Nat}:qY base (Cb rk X)<=bi rk L base (k+1) X:=(iA _ _ _).1
def bPh(hL:Zn S c rk L){k X Y:Nat}(h0:X≠0)(hX:X<2^S.length)(h:Mg S c rk (Cb rk X) X Y):bi rk L base k Y<bi rk L base (k+1) X:=(iA (bi rk L base k) (L X)<|qY base<|Cb rk X).2.1 Y<|(hL X h0 hX Y).mpr h
def L0(hL:Zn S c rk L){k X:Nat}(h0:X≠0)(hX:X<2^S.length):bi rk L base (k+1) X=qY base (Cb rk X)\/∃Y,Mg S c rk (Cb rk X) X Y/\bi rk L base (k+1) X=bi rk L base k Y+1:=by
 rcases (iA (bi rk L base k) (L X)<|qY base<|Cb rk X).2.2 with h|⟨Y,hY,h⟩
 .exact .inl h
 .exact .inr ⟨Y,(hL X h0 hX Y).mp hY,h⟩
theorem EZ(M:Oa S rk c)(hL:Zn S c rk L):∀(k X:Nat),Mf X<=k->X≠0->X<2^S.length->(bi rk L base k X%2=0↔Cb rk X=true)
 |0,X,hk,h0,_=>by have:=vM h0;omega
 |k+1,X,hk,h0,hX=>by
  rcases L0 (base:=base) hL (k:=k) h0 hX with e|⟨Y,hY,e⟩
  .rw[e];exact(vT base _).1
  .obtain⟨i1,_,i3,i4,i5⟩:=gK M hY h0 hX;have ih:=EZ M hL k Y (by omega) i1.1 i3
   rw[e];cases hx:Cb rk X<;>cases hy:Cb rk Y<;>rw[hx,hy]at i5<;>first|exact(i5 rfl).elim|skip
   .rw[hy]at ih;have:=ih.mpr rfl;constructor
    .intro z;omega
    .intro z;cases z
   .rw[hy]at ih;have:¬ bi rk L base k Y%2=0:=λz=>by cases ih.mp z
    constructor
    .intro _;rfl
    .intro _;omega
def XC(M:Oa S rk c)(hL:Zn S c rk L){k X Y g:Nat}(h0:X≠0)(hX:X<2^S.length)(hY:Mg S c rk (Cb rk X) X Y)(hg:g∈aQ Y):qk rk L base (k+1) X g=qk rk L base k Y g:=by
 show (match (L X).find? λY=>Y.testBit g with|some Y=>qk rk L base k Y g|none=>bi rk L base (k+1) X)=_
 cases hf:(L X).find? λY=>Y.testBit g with
 |none=>
  have:=List.find?_eq_none.mp hf Y<|(hL X h0 hX Y).mpr hY;exact(this<|aG.mp hg).elim
 |some Z=>
  have h1:=PM hf;have h2:=(hL X h0 hX Z).mp<|KD hf;rw[bM2 M hY h0 hX h2 hg<|aG.mpr h1]
def zC(hL:Zn S c rk L){k X g:Nat}(h0:X≠0)(hX:X<2^S.length)(h:∀Y,Mg S c rk (Cb rk X) X Y->g∉aQ Y):qk rk L base (k+1) X g=bi rk L base (k+1) X:=by
 show (match (L X).find? λY=>Y.testBit g with|some Y=>qk rk L base k Y g|none=>bi rk L base (k+1) X)=_
 cases hf:(L X).find? λY=>Y.testBit g with
 |none=>rfl
 |some Z=>
  have h1:=PM hf;exact(h Z ((hL X h0 hX Z).mp<|KD hf)<|aG.mpr h1).elim
theorem qx(M:Oa S rk c)(hL:Zn S c rk L):∀(k X:Nat),Mf X<=k->X≠0->X<2^S.length->∀g,base<=qk rk L base k X g/\qk rk L base k X g<=bi rk L base k X
 |0,X,hk,h0,_,_=>by have:=vM h0;omega
 |k+1,X,hk,h0,hX,g=>by
  have hb:=(vT base<|Cb rk X).2;have Tr:=bHh (rk:=rk) (L:=L) (base:=base) (k:=k) (X:=X)
  by_cases h:∃Y,Mg S c rk (Cb rk X) X Y/\g∈aQ Y
  .obtain⟨Y,hY,hg⟩:=h;obtain⟨i1,_,i3,i4,_⟩:=gK M hY h0 hX;have ih:=qx M hL k Y (by omega) i1.1 i3 g
   have hu:=bPh (base:=base) hL (k:=k) h0 hX hY;rw[XC M hL h0 hX hY hg];omega
  .rw[zC hL h0 hX λY hY hg=>h ⟨Y,hY,hg⟩]
   omega
theorem FZ(M:Oa S rk c)(hL:Zn S c rk L):∀(k X:Nat),Mf X<=k->X≠0->X<2^S.length->∀{Z:Nat},ve S c Z->pB Z X->∃T,(∃g∈aQ Z,qk rk L base k X g=T)/\(∀g∈aQ Z,qk rk L base k X g<=T)/\(T%2=0↔Cb rk Z=true)
 |0,X,hk,h0,_,_,_,_=>by have:=vM h0;omega
 |k+1,X,hk,h0,hX,Z,hz,hs=>by
  rcases fA M (k+1) X hk h0 hX rfl hz hs with ⟨Y,hY,hzy⟩|⟨e,r,hr,hn⟩
  .obtain⟨i1,_,i3,i4,_⟩:=gK M hY h0 hX;obtain⟨T,⟨g,hg,eT⟩,h2,h3⟩:=FZ M hL k Y (by omega) i1.1 i3 hz hzy
   exact⟨T,⟨g,hg,by rw[XC M hL h0 hX hY<|hzy g hg];exact eT⟩,λg hg=>by rw[XC M hL h0 hX hY<|hzy g hg];exact h2 g hg,h3⟩
  .refine⟨bi rk L base (k+1) X,⟨r,hr,zC hL h0 hX hn⟩,λg _=>(qx M hL (k+1) X hk h0 hX g).2,?_⟩
   rw[e];exact EZ M hL (k+1) X hk h0 hX
inductive Row (S:List (List Nat)) (c:Nat) (rk:List Nat) (base:Nat):Nat->Nat->Prop
 |one {Z:Nat}:ve S c Z->Row S c rk base Z (qY base<|Cb rk Z)
 |up {Y Z v:Nat}:Row S c rk base Y v->ve S c Z->pB Y Z->Cb rk Y≠Cb rk Z->Row S c rk base Z (v+1)
def Row.lp{v:Nat}(h:Row S c rk base Z v):ve S c Z:=by
 cases h with
 |one h=>exact h
 |up _ h _ _=>exact h
theorem GZ(M:Oa S rk c)(hL:Zn S c rk L):∀(k X:Nat),Mf X<=k->ve S c X->X<2^S.length->Row S c rk base X (bi rk L base k X)
 |0,X,hk,h0,_=>by have:=vM h0.1;omega
 |k+1,X,hk,h0,hX=>by
  rcases L0 (base:=base) hL (k:=k) h0.1 hX with e|⟨Y,hY,e⟩
  .rw[e];exact .one h0
  .obtain⟨i1,i2,i3,i4,i5⟩:=gK M hY h0.1 hX;rw[e];exact .up (GZ M hL k Y (by omega) i1 i3) h0 (λg hg=>(mO.mp<|i2 g hg).1) i5
end
end
section
variable{S:List (List Nat)}{rk:List Nat}{c n:Nat}
def mq(M:Oa S rk c)(hn:n<2^S.length):(aQ n).length<=8:=by
 have:=mK S.length _ (dD n) λx hx=>bC hn hx
 have:=M.most;omega
def QU(M:Oa S rk c)(hn:n<2^S.length){a:Nat}{st:ua}(h:st[a]?=some (some<|.v<|.int (n:Int))):aO cB (aC (aA a) aP) st=.ok (.lst<|ba<|aQ n):=
 aJ (aN (yw h) rfl) (lE hn (by have:=M.most;omega))
def ϴ(M:Oa S rk c)(hn:n<2^S.length)(h0:n≠0):rH [mD S rk c,.int n]=.ok (.int<|Xg rk n):=by
 have h8:=mq M hn;refine bA rfl ?_
 refine aH (st':=[mD S rk c,n,lR rk n,none]) (bB<|aJ rfl<|nK M hn h0) ?_
 have ce:iR (jb 3) oQ kQ [mD S rk c,n,lR rk n,none] (ba<|aQ n)=.ok (ba<|(aQ n).filter λr=>!decide ((rk.getD r 0:Int)=lR rk n)):=fM (aQ n) λr hr=>by
  have Ee:r<rk.length:=by rw[M.Wl];exact bC hn hr
  have ea:de (ba rk) (r:Int)=some (.int (rk.getD r 0:Nat)):=by
   rw[Fc (by rw[aZ];exact Ee)]
   simp[ba,getD_eq_getElem?_getD,List.getElem?_eq_getElem Ee]
  refine⟨_,rfl,?_,rfl⟩;exact aK (aK (show e1 (dY "Machine" "ranks") (aA 0) _=.ok (.lst<|ba rk) from mL) rfl<|iZ ea) rfl<|Rt _ _
 refine bO<|aJ (aN (eY (pI<|QU M hn rfl) (by rw[aZ];omega) ce) rfl) ?_
 exact xt (λr hr=>by have:=bC hn (Be.mp hr).1;have:=M.most;omega) (by have:=tq (λr=>!decide ((rk.getD r 0:Int)=lR rk n))<|aQ n;omega)
theorem gS(f:Nat->Nat)(q:Nat->Bool):∀(rs ps:List Nat),ps.Nodup->(rs.foldl (λps r=>if f r∉ps/\q (f r)=true then ps++[f r] else ps) ps).Nodup
 |[],_,h=>h
 |r::rs,ps,h=>by
  rw[Po];refine gS f q rs _ ?_
  split
  .rename_i z;refine Lo.mpr ⟨h,Pj.mpr ⟨HE,jv⟩,λa ha b hb e=>?_⟩
   rw[Ce.mp hb]at e;exact z.1<|e ▸ ha
  .exact h
def Χ:(dF S c m).Nodup:=gS _ _ _ _ jv
def Bg(l:List Nat):Nat:=(l.map Mf).sum
def AJ(l m:List Nat):Bg (l++m)=Bg l+Bg m:=by unfold Bg;simp
def bM3{l:List Nat}(nd:l.Nodup)(hs:∀q∈l,pB q m)(hd:∀p∈l,∀q∈l,∀g,g∈aQ p->g∈aQ q->p=q):Bg l<=Mf m:=by
 have key:∀l:List Nat,l.Nodup->(∀p∈l,∀q∈l,∀g,g∈aQ p->g∈aQ q->p=q)->(l.flatMap aQ).Nodup/\(l.flatMap aQ).length=Bg l:=λl=>by
  induction l with
  |nil=>exact λ_ _=>⟨jv,rfl⟩
  |cons p l ih=>
   intro nd hd;obtain⟨n1,n2⟩:=Pj.mp nd;obtain⟨i1,i2⟩:=ih n2 λp hp q hq=>hd p (Qb _ hp) q<|Qb _ hq
   rw[List.flatMap_cons];refine⟨Lo.mpr ⟨dD p,i1,λa ha b hb e=>?_⟩,?_⟩
   .obtain⟨q,hq,hb⟩:=Su.mp hb;subst e;rw[hd p Jb q (Qb _ hq) a ha hb]at n1;exact n1 hq
   .rw[Wf,i2];unfold Bg Mf;simp
 obtain⟨k1,k2⟩:=key l nd hd;rw[<-k2];exact k1.length_le_of_subset λg hg=>by
  obtain⟨q,hq,hg⟩:=Su.mp hg;exact hs q hq g hg
def þ(M:Oa S rk c){p:Nat}(h0:p≠0)(hp:p<2^S.length):Bg (dF S c<|Xg rk p)<Mf p:=by
 obtain⟨⟨r,hr,e⟩,_⟩:=dA (rk:=rk) h0;have h1:=bM3 (m:=Xg rk p) Χ (λq hq=>(dZ M (pJ hp) hq).2.1) λa ha b hb g h1 h2=>wN M (pJ hp) ha hb h1 h2
 have h2:Mf (Xg rk p)<Mf p:=K0 (λg hg=>(mO.mp hg).1) hr λz=>(mO.mp z).2 e
 omega
theorem yT(q:Nat->Bool):∀(l:List Nat),(∀x∈l,1<=Mf x)->(l.filter λx=>!q x).length+Bg (l.filter q)<=Bg l
 |[],_=>Zc _
 |x::l,h=>by
  have ih:=yT q l λx hx=>h x<|Qb _ hx
  have hx:=h x Jb;have e:Bg (x::l)=Mf x+Bg l:=by unfold Bg;simp
  cases hq:q x
  .rw[Ll (by simp[hq]),Ml (by simp[hq]),Te]
   omega
  .rw[Ml (by simp[hq]),Ll (by simp[hq])]
   have e2:Bg (x::l.filter q)=Mf x+Bg (l.filter q):=by unfold Bg;simp
   omega
abbrev Qn(S:List (List Nat))(rk:List Nat)(c n:Nat)(F T:List Nat)(x4 x5:Option Sl):ua:=[some<|.v<|mD S rk c,some<|.v<|.int n,some<|.o .l<|ba F,some<|.o .l<|ba T,x4,x5]
def BJ(M:Oa S rk c)(hn:n<2^S.length)(h0:n≠0){a:Nat}{st:ua}(h:st[a]?=some (some<|.v<|.int (n:Int)))(hm:st[0]?=some (some<|.v<|mD S rk c)):aO nF (aC (aA 0)<|aC (aA a) aP) st=.ok (.bl<|Cb rk n):=
 aJ (aN (d:=mD S rk c) (by simp[hm])<|aN (yw h) rfl) (bH9 M hn h0)
def FX(p q:Bool):Qc (.bl p) (.bl q)=.ok (.bl<|p==q):=aF ⟨Ih 64,rfl,rfl⟩
theorem OH(M:Oa S rk c)(hn:n<2^S.length)(h0:n≠0){x4:Option Sl}:∀(l F T:List Nat)(x5:Option Sl),(∀q∈l,q≠0/\q<2^S.length)->F.length+l.length<=1000->T.length+l.length<=1000->
  ∃y5,Nb (jb 5) sQ (ba l) (Qn S rk c n F T x4 x5)=.ok (.nx<|Qn S rk c n (F++l.filter λq=>!(Cb rk q==Cb rk n)) (T++l.filter λq=>Cb rk q==Cb rk n) x4 y5)
 |[],F,T,x5,_,_,_=>⟨x5,by rw[ny,ny,uh,uh];rfl⟩
 |q::l,F,T,x5,h,hF,hT=>by
  rw[Te]at hF hT;obtain⟨q0,q1⟩:=h q Jb;have test:(e2 Qc (aO nF<|aC (aA 0)<|aC (aA 5) aP)<|aO nF<|aC (aA 0)<|aC (aA 1) aP) (Qn S rk c n F T x4 q)=.ok (.bl<|Cb rk q==Cb rk n):=aK (BJ M q1 q0 rfl rfl) (BJ M hn h0 rfl rfl)<|FX _ _;cases hq:Cb rk q==Cb rk n
  .obtain⟨y5,e⟩:=OH M hn h0 (x4:=x4) l (F++[q]) T q (λq hq=>h q<|Qb _ hq) (by simp;omega) (by omega)
   refine⟨y5,dM (s1:=Qn S rk c n F T x4 q) rfl (iK (test.trans<|by rw[hq])<|vJ (d:=.int q) rfl rfl<|by rw[aZ];omega) ?_⟩
   rw[Ll (by simp[hq]),Ml (by simp[hq])]
   rw[Cm]at e;show Nb _ _ (ba l) [mD S rk c,n,some<|.o .l<|ba F++[.int q],some<|.o .l<|ba T,x4,q]=_;rw[<-jX];exact e
  .obtain⟨y5,e⟩:=OH M hn h0 (x4:=x4) l F (T++[q]) q (λq hq=>h q<|Qb _ hq) (by omega) (by simp;omega)
   refine⟨y5,dM (s1:=Qn S rk c n F T x4 q) rfl (tM (test.trans<|by rw[hq])<|vJ (d:=.int q) rfl rfl<|by rw[aZ];omega) ?_⟩
   rw[Ml (by simp[hq]),Ll (by simp[hq])]
   rw[Cm]at e;show Nb _ _ (ba l) [mD S rk c,n,some<|.o .l<|ba F,some<|.o .l<|ba T++[.int q],x4,q]=_;rw[<-jX];exact e
def xI{w:Bool}{P Y:Nat}:Mg S c rk w P Y↔(Y∈dF S c (Xg rk P)/\Cb rk Y≠w)\/∃Q∈dF S c (Xg rk P),Cb rk Q=w/\Mg S c rk w Q Y:=by
 constructor
 .intro h;cases h with
  |out h1 h2=>exact .inl ⟨h1,h2⟩
  |go h1 h2 h3=>exact .inr ⟨_,h1,h2,h3⟩
 .rintro(⟨h1,h2⟩|⟨Q,h1,h2,h3⟩)
  .exact .out h1 h2
  .exact .go h1 h2 h3
def Mw(T:List Nat):zg (.lst<|ba T) (.lst [])=.ok (.bl<|!decide (T=[])):=by
 obtain⟨k1,k2,_⟩:=fU T;have kd:Of (.lst<|ba T)=1:=by unfold Of;rw[k2]
 have kp:plain (.lst<|ba T)=true:=by(conv=>lhs;unfold plain);exact k1
 have ke:Fd (.lst<|ba T) (.lst [])=decide (T=[]):=by(conv=>lhs;unfold Fd);exact zt T []
 rw[YJ,aF ⟨by omega,kp,rfl⟩,ke]
def bHi{st:ua}{x:D} (hf:f st=.ok x) (hs:st[j]?=some (some<|.o .l<|ys++[d])) (hl:ys.length<1000) (hp:p [x,d]=.ok y):UC i j p f st=.ok (.nx<|(st.set j<|some<|.o .l ys).set i y):=by
 unfold UC;rw[hf,aR,hs];dsimp only;rw[List.getLast?_append,List.getLast?_singleton,Option.some_or];dsimp only;rw[aF<|gO<|by rw[Wf,Gh];omega,hp,aR,List.dropLast_concat]
def ϵ(M:Oa S rk c)(hn:n<2^S.length)(h0:n≠0):∀(k f:Nat)(F T:List Nat)(x4 x5:Option Sl),Bg T<=k->k<f->(∀q∈T,q≠0/\q<2^S.length)->F.length+Bg T<=100->
  ∃F' y4 y5,oV BQ AQ f (Qn S rk c n F T x4 x5)=.ok (.nx<|Qn S rk c n F' [] y4 y5)/\F'.length<=100/\∀Y,Y∈F'↔Y∈F\/∃P∈T,Mg S c rk (Cb rk n) P Y:=by
 intro k
 induction k with
 |zero=>
  intro f F T x4 x5 hk hf hT hl;obtain⟨f,rfl⟩:∃g,f=g+1:=⟨f-1,by omega⟩
  cases T with
  |nil=>exact⟨F,x4,x5,yP<|aK rfl (fB rfl)<|Mw [],by omega,λY=>⟨.inl,λz=>z.elim id λ⟨_,h,_⟩=>nomatch h⟩⟩
  |cons p T=>
   have:=vM (hT p Jb).1;unfold Bg at hk;simp at hk;omega
 |succ k ih=>
  intro f F T x4 x5 hk hf hT hl;obtain⟨f,rfl⟩:∃g,f=g+1:=⟨f-1,by omega⟩
  rcases B4 T with rfl|⟨T',p,rfl⟩
  .exact⟨F,x4,x5,yP<|aK rfl (fB rfl)<|Mw [],by omega,λY=>⟨.inl,λz=>z.elim id λ⟨_,h,_⟩=>nomatch h⟩⟩
  .rw[C4]at *;obtain⟨p0,p1⟩:=hT p<|Pg _ Jb;have hpz:=vM p0;have es:Bg (T'++[p])=Bg T'+Mf p:=by rw[AJ];unfold Bg;simp
   have UN:=þ M p0 p1;have parts:∀q∈dF S c (Xg rk p),q≠0/\q<2^S.length:=λq hq=>⟨(dZ M (pJ p1) hq).1.1,(dZ M (pJ p1) hq).2.2⟩
   have hsp:=yT (λq=>Cb rk q==Cb rk n) (dF S c<|Xg rk p) λq hq=>vM (parts q hq).1
   have L5:∀l:List Nat,(∀q∈l,q≠0)->l.length<=Bg l:=λl hl=>by
    induction l with
    |nil=>exact Zc _
    |cons q l ih=>
     have e:Bg (q::l)=Mf q+Bg l:=by unfold Bg;simp
     have:=vM<|hl q Jb;have:=ih λq hq=>hl q<|Qb _ hq
     rw[Te];omega
   have Kv:=L5 _ λq hq=>(parts q hq).1
   have hlT:=L5 T' λq hq=>(hT q<|Fh _ hq).1
   obtain⟨y5,e1⟩:=OH M hn h0 (x4:=some<|.v<|.int<|Xg rk p) (dF S c<|Xg rk p) F T' x5 parts (by omega) (by omega)
   obtain⟨F',z4,z5,e3,l3,i3⟩:=ih f (F++(dF S c<|Xg rk p).filter λq=>!(Cb rk q==Cb rk n)) (T'++(dF S c<|Xg rk p).filter λq=>Cb rk q==Cb rk n) (Xg rk p) y5 (by rw[AJ];omega) (by omega) (λq hq=>by
    rcases Hh.mp hq with h|h
    .exact hT q (Fh _ h)
    .exact parts q (Be.mp h).1) (by rw[AJ,Wf];omega)
   refine⟨F',z4,z5,iw (st':=Qn S rk c n (F++(dF S c<|Xg rk p).filter λq=>!(Cb rk q==Cb rk n)) (T'++(dF S c<|Xg rk p).filter λq=>Cb rk q==Cb rk n) (Xg rk p) y5) (aK rfl (fB rfl) ?_) (aH (st':=Qn S rk c n F T' (Xg rk p) x5) ?_<|dR (pI<|aJ rfl<|NA M<|pJ p1) e1) e3,l3,λY=>?_⟩
   .rw[show Ss .l (ba<|T'++[p])=.lst (ba<|T'++[p]) from rfl,Mw]
    simp
   .exact bHi (x:=mD S rk c) (ys:=ba T') (d:=.int p) rfl (by rw[<-jX];rfl) (by rw[aZ];omega) (ϴ M p1 p0)
   .rw[i3 Y];constructor
    .rintro(h|⟨P,hP,h⟩)
     .rcases Hh.mp h with h|h
      .exact .inl h
      .obtain⟨h1,h2⟩:=Be.mp h;exact .inr ⟨p,Pg _ Jb,xI.mpr<|.inl ⟨h1,by simpa using h2⟩⟩
     .rcases Hh.mp hP with h'|h'
      .exact .inr ⟨P,Fh _ h',h⟩
      .obtain⟨h1,h2⟩:=Be.mp h';exact .inr ⟨p,Pg _ Jb,xI.mpr<|.inr ⟨P,h1,by simpa using h2,h⟩⟩
    .rintro(h|⟨P,hP,h⟩)
     .exact .inl (Fh _ h)
     .rcases Hh.mp hP with h'|h'
      .exact .inr ⟨P,Fh _ h',h⟩
      .rw[Ce.mp h']at h;rcases xI.mp h with ⟨h1,h2⟩|⟨Q,h1,h2,h3⟩
       .exact .inl (Pg _<|Be.mpr ⟨h1,by simpa using h2⟩)
       .exact .inr ⟨Q,Pg _<|Be.mpr ⟨h1,by simpa using h2⟩,h3⟩
def RU(M:Oa S rk c)(hn:n<2^S.length)(h0:n≠0):∃F,iH [mD S rk c,.int n]=.ok (.lst<|ba F)/\F.length<=100/\∀Y,Y∈F↔Mg S c rk (Cb rk n) n Y:=by
 have h8:=mq M hn;have e1:Bg [n]=Mf n:=by unfold Bg;simp
 have Xf:Mf n<=8:=h8;obtain⟨F,y4,y5,e,l,i⟩:=ϵ M hn h0 8 100000 [] [n] none none (by omega) (by omega) (λq hq=>by rw[Ce.mp hq];exact⟨h0,hn⟩) (by simp;omega)
 refine⟨F,bA rfl ?_,l,λY=>?_⟩
 .refine aH (pW<|fB rfl) (aH (st':=Qn S rk c n [] [n] none none) (pW<|fB (ds:=[.int n]) rfl)<|aH e ?_);exact bO rfl
 .rw[i Y];constructor
  .rintro(h|⟨P,hP,h⟩)
   .exact nomatch h
   .rw[Ce.mp hP]at h;exact h
  .exact λh=>.inr ⟨n,Jb,h⟩
end
section
variable{S:List (List Nat)}{rk:List Nat}{c n:Nat}
theorem SU{x0 x1 x2:Option Sl}:∀(l:List Nat)(b:Nat)(x4:Option Sl),(∀r∈l,r<=1000000)->∃y4,Nb (jb 4) EQ (ba l) [x0,x1,x2,b,x4]=.ok (.nx [x0,x1,x2,Ts l b,y4])
 |[],b,x4,_=>⟨x4,rfl⟩
 |r::l,b,x4,h=>by
  obtain⟨y4,e⟩:=SU (x0:=x0) (x1:=x1) (x2:=x2) l (b|||2^r) r λr hr=>h r<|Qb _ hr
  exact⟨y4,dM (d:=.int (r:Nat)) rfl (bB<|aK rfl (aK rfl rfl<|eK<|h r Jb)<|BB _ _) e⟩
theorem iS(M:Oa S rk c){x0:Option Sl}:∀(T:List (List Nat)) (F:List Nat) (x2 x3 x4:Option Sl),(∀r∈T,r∈S)->F.length+T.length<=100->∃y2 y3 y4,Nb (jb 2) FQ (Pb T) [x0,some<|.o .l<|ba F,x2,x3,x4]=.ok (.nx [x0,some<|.o .l<|ba<|F++T.map cH,y2,y3,y4])
 |[],F,x2,x3,x4,_,_=>⟨x2,x3,x4,by rw[jy,uh];rfl⟩
 |r::T,F,x2,x3,x4,h,hl=>by
  rw[Te]at hl;have n8:=M.most;obtain⟨z4,lg⟩:=SU (x0:=x0) (x1:=some<|.o .l<|ba F) (x2:=some<|.v<|.lst<|ba r) r 0 x4 λx hx=>by have:=(M.row r<|h r Jb).2 x hx;omega
  obtain⟨y2,y3,y4,e⟩:=iS M (x0:=x0) T (F++[cH r]) (D.lst<|ba r) (cH r) z4 (λr hr=>h r<|Qb _ hr) (by rw[Wf,Gh];omega)
  rw[Cm,u4,jX]at e;exact⟨y2,y3,y4,dM (d:=.lst<|ba r) rfl (aH (bB rfl)<|aH (dR rfl lg)<|vJ (d:=.int (cH r:Nat)) rfl rfl<|by rw[aZ];omega) e⟩
def qg(S:List (List Nat)):List Nat:=S.map cH
def QH(M:Oa S rk c):mZ [.lst<|Pb S]=.ok (.lst<|ba<|qg S):=by
 have n8:=M.most;obtain⟨y2,y3,y4,e⟩:=iS M (x0:=some<|.v<|.lst<|Pb S) S [] none none none (λ_ h=>h) (by rw[Kr];omega)
 exact bA rfl<|aH (pW<|fB rfl)<|aH (dR rfl e)<|bO rfl
def M0{k:Nat}(hk:k<S.length):(qg S)[k]?=some (cH<|S.getD k []):=by
 unfold qg;rw[Hk,Nf hk,oi,Nf hk];rfl
def CK:(qg S).length=S.length:=Yd _
def bPi(M:Oa S rk c){k:Nat}(hk:k<S.length):cH (S.getD k [])<2^S.length:=oN λr hr=>by
 rw[oi,Nf hk]at hr;exact(M.row _<|Oj hk).2 r hr
def lj(S:List (List Nat))(ins:Nat)(F:Nat)(ks:List Nat)(w:Nat):Nat:=ks.foldl (λw k=>if F.testBit k=true then w|||(cH (S.getD k [])&&&ins) else w) w
theorem DK{ins:Nat}(g:Nat):∀(ks:List Nat)(w:Nat),(lj S ins F ks w).testBit g=true↔w.testBit g=true\/∃k∈ks,F.testBit k=true/\g∈S.getD k []/\ins.testBit g=true
 |[],w=>⟨.inl,λz=>z.elim id λ⟨_,h,_⟩=>nomatch h⟩
 |k::ks,w=>by
  have ih:=DK (ins:=ins) (F:=F) g ks<|if F.testBit k=true then w|||(cH (S.getD k [])&&&ins) else w
  show (lj S ins F ks _).testBit g=true↔_;rw[ih];constructor
  .rintro(h|⟨j,hj,h⟩)
   .by_cases hk:F.testBit k=true
    .rw[kb hk,Qo,Zu,Ol,wj,eO,Jg]at h;rcases h with h|h
     .exact .inl h
     .exact .inr ⟨k,Jb,hk,h.1,h.2⟩
    .rw[gb hk]at h;exact .inl h
   .exact .inr ⟨j,Qb _ hj,h⟩
  .rintro(h|⟨j,hj,h1,h2,h3⟩)
   .refine .inl ?_
    by_cases hk:F.testBit k=true
    .rw[kb hk,Qo,h];rfl
    .rw[gb hk];exact h
   .rcases Kc.mp hj with e|hj
    .subst e;refine .inl ?_
     rw[kb h1,Qo,Ol,eO,Uc h2,h3,Zu];exact .inr rfl
    .exact .inr ⟨j,hj,h1,h2,h3⟩
abbrev cst(S:List (List Nat))(ins b F:Nat)(m:Bool)(x5 x6:Option Sl):ua:=[some<|.v<|.lst<|ba<|qg S,some<|.v<|.int ins,some<|.v<|.int b,some<|.v<|.int F,some<|.v<|.bl m,x5,x6]
theorem zI{ins b:Nat}{m:Bool}:∀(ks:List Nat)(w:Nat)(x6:Option Sl),(∀k∈ks,k<S.length)->∃y6,Nb (jb 6) GQ (ba ks) (cst S ins b F m w x6)=.ok (.nx<|cst S ins b F m (lj S ins F ks w) y6)
 |[],w,x6,_=>⟨x6,rfl⟩
 |k::ks,w,x6,h=>by
  obtain⟨y6,e⟩:=zI (ins:=ins) (b:=b) (F:=F) (m:=m) ks (if F.testBit k=true then w|||(cH (S.getD k [])&&&ins) else w) k λk hk=>h k<|Qb _ hk
  have t:(e2 Qc (e2 qJ (e2 yG (aA 3)<|aA 6)<|eI 1)<|eI 1) (cst S ins b F m w k)=.ok (.bl<|F.testBit k):=FD rfl rfl;refine⟨y6,dM (d:=.int (k:Nat)) (s1:=cst S ins b F m w k) (s2:=cst S ins b F m (if F.testBit k=true then w|||(cH (S.getD k [])&&&ins) else w:Nat) k) rfl ?_ e⟩
  cases hk:F.testBit k
  .rw[gb Cg];exact iK (t.trans<|by rw[hk]) rfl
  .rw[kb rfl];exact tM (t.trans<|by rw[hk])<|bB<|aK rfl (aK (aK rfl rfl<|iZ<|Bt<|M0<|h k Jb) rfl<|rK _ _)<|BB _ _
def yk(S:List (List Nat))(c ins b g:Nat):Prop:=∃s,b.testBit s=true/\ins.testBit s=true/\Wc S c (ug ins) s g
def bHj(M:Oa S rk c){ins a g:Nat}{s:Nat}(ha:a<S.length)(hr:Wc S c (ug ins) s a)(hg:g∈S.getD a [])(hi:ins.testBit g=true):Wc S c (ug ins) s g:=by
 obtain⟨l,hl,rfl⟩:=(yU M ha).mp hg;exact .on hr hl hi
def Ϸ(M:Oa S rk c){ins b:Nat}(hb:b<2^S.length):∀(k f F:Nat)(x5 x6:Option Sl),S.length<=(aQ F).length+k->k+2<=f->F<2^S.length->(∀g,F.testBit g=true->yk S c ins b g)->(∀g,b.testBit g=true->ins.testBit g=true->F.testBit g=true)->
  ∃F' y5 y6,oV HQ uY f (cst S ins b F true x5 x6)=.ok (.nx<|cst S ins b F' false y5 y6)/\F' < 2^S.length/\∀g,F'.testBit g=true↔yk S c ins b g:=by
 have n8:=M.most;intro k
 induction k with
 |zero=>
  intro f F x5 x6 hk hf hF h1 h2;obtain⟨f,rfl⟩:∃g,f=g+2:=⟨f-2,by omega⟩
  have lt:∀g,F.testBit g=true->g<S.length:=λg hg=>bC hF<|aG.mpr hg
  obtain⟨y6,e⟩:=zI (S:=S) (ins:=ins) (b:=b) (F:=F) (m:=true) (List.range S.length) F x6 λk hk=>Se.mp hk
  have all:∀g,g<S.length->F.testBit g=true:=λg hg=>aG.mp (by
   refine Am λhn=>?_
   have:=(Pj.mpr ⟨hn,dD F⟩).length_le_of_subset (l₂:=List.range S.length) λx hx=>by
    rcases Kc.mp hx with q|q
    .rw[q];exact Se.mpr hg
    .exact Se.mpr (bC hF q)
   rw[Te,Nl]at this;omega)
  have same:lj S ins F (List.range S.length) F=F:=Ik λg=>by
   have:=DK (S:=S) (ins:=ins) (F:=F) g (List.range S.length) F;cases hg:F.testBit g with
   |true=>exact this.mpr<|.inl hg
   |false=>
    cases hz:(lj S ins F (List.range S.length) F).testBit g with
    |false=>rfl
    |true=>
     rcases this.mp hz with q|⟨a,ha,_,h4,_⟩
     .rw[hg]at q;cases q
     .have:=all g (by
       have ha:=Se.mp ha;rw[oi,Nf ha]at h4;exact(M.row _<|Oj ha).2 g h4)
      rw[hg]at this;cases this
  rw[same]at e;refine⟨F,F,y6,iw rfl (aH (bB rfl)<|aH (dR (yO (n:=S.length) (by show R.ok (D.int ((ba<|qg S).length:Nat))=_;rw[aZ,CK])<|by omega) e)<|aH (bB (d:=.bl false)<|aK rfl rfl<|(Rt _ _).trans<|by rw[Uc rfl];rfl)<|bB rfl)<|yP rfl,hF,λg=>⟨h1 g,λhg=>?_⟩⟩
  .obtain⟨s,s1,s2,hr⟩:=hg;exact all g<|Xp M (lt s<|h2 s s1 s2) hr
 |succ k ih=>
  intro f F x5 x6 hk hf hF h1 h2;obtain⟨f,rfl⟩:∃g,f=g+1:=⟨f-1,by omega⟩
  have lt:∀g,F.testBit g=true->g<S.length:=λg hg=>bC hF<|aG.mpr hg
  obtain⟨y6,e⟩:=zI (S:=S) (ins:=ins) (b:=b) (F:=F) (m:=true) (List.range S.length) F x6 λk hk=>Se.mp hk
  have bp:=λg=>DK (S:=S) (ins:=ins) (F:=F) g (List.range S.length) F
  have body:∀m,(!decide (((lj S ins F (List.range S.length) F:Nat):Int)=(F:Int)))=m->uY (cst S ins b F true x5 x6)=.ok (.nx<|cst S ins b (lj S ins F (List.range S.length) F) m (lj S ins F (List.range S.length) F) y6):=λm hm=>by
   refine aH (bB rfl)<|aH (dR (yO (n:=S.length) (by show R.ok (D.int ((ba<|qg S).length:Nat))=_;rw[aZ,CK])<|by omega) e)<|aH (bB (d:=.bl m)<|aK rfl rfl<|(Rt _ _).trans<|by rw[hm])<|bB rfl
  by_cases same:lj S ins F (List.range S.length) F=F
  .have Mh:=body false (by rw[same,Uc rfl];rfl)
   rw[same]at Mh;obtain⟨f,rfl⟩:∃g,f=g+1:=⟨f-1,by omega⟩
   refine⟨F,_,y6,iw rfl Mh<|yP rfl,hF,λg=>⟨h1 g,λhg=>?_⟩⟩
   obtain⟨s,s1,s2,hr⟩:=hg
   induction hr with
   |here=>exact h2 s s1 s2
   |on hr hl ha ih2=>
    rename_i r l;have Ee:=ih2;have hlt:=lt r Ee;rw[<-same];exact(bp _).mpr (.inr ⟨r,Se.mpr hlt,Ee,(yU M hlt).mpr ⟨l,hl,rfl⟩,ha⟩)
  .have Mh:=body true (by rw[fe λz=>same (by omega)];rfl)
   have sub:∀g,F.testBit g=true->(lj S ins F (List.range S.length) F).testBit g=true:=λg hg=>(bp g).mpr<|.inl hg
   have hN:lj S ins F (List.range S.length) F<2^S.length:=v3 _ λg hg=>by
    cases hz:(lj S ins F (List.range S.length) F).testBit g with
    |false=>rfl
    |true=>
     rcases (bp g).mp hz with q|⟨a,ha,_,h4,_⟩
     .have:=lt g q;omega
     .have ha:=Se.mp ha;rw[oi,Nf ha]at h4;have:=(M.row _<|Oj ha).2 g h4;omega
   have more:(aQ F).length<(aQ<|lj S ins F (List.range S.length) F).length:=by
    refine Am λhn=>same ?_
    have hle:(aQ F).length=(aQ<|lj S ins F (List.range S.length) F).length:=Nat.le_antisymm ((dD F).length_le_of_subset λg hg=>aG.mpr<|sub g<|aG.mp hg) (by omega)
    refine CZ (λg hg=>?_) λg hg=>aG.mpr<|sub g<|aG.mp hg
    exact sub_len (dD F) (λg hg=>aG.mpr<|sub g<|aG.mp hg) hle hg
   obtain⟨F',z5,z6,e3,l3,i3⟩:=ih f (lj S ins F (List.range S.length) F) (lj S ins F (List.range S.length) F) y6 (by omega) (by omega) hN (λg hg=>by
    rcases (bp g).mp hg with q|⟨a,ha,h3,h4,h5⟩
    .exact h1 g q
    .obtain⟨s,s1,s2,hr⟩:=h1 a h3;exact⟨s,s1,s2,bHj M (Se.mp ha) hr h4 h5⟩)<|λg g1 g2=>sub g<|h2 g g1 g2
   exact⟨F',z5,z6,iw rfl Mh e3,l3,i3⟩
def TU(M:Oa S rk c){ins b:Nat}(hb:b<2^S.length):∃F:Nat,fY [.lst<|ba<|qg S,.int ins,.int b]=.ok (.int F)/\F<2^S.length/\∀g,F.testBit g=true↔yk S c ins b g:=by
 have n8:=M.most;have hand:b&&&ins<2^S.length:=aE Nat.and_le_left hb;obtain⟨F,y5,y6,e,l,i⟩:=Ϸ M (ins:=ins) (b:=b) hb S.length 100000 (b&&&ins) none none (by omega) (by omega) hand (λg hg=>by
  rw[Ol,wj]at hg;exact⟨g,hg.1,hg.2,.here⟩) (λg g1 g2=>by rw[Ol,g1,g2];rfl)
 exact⟨F,bA rfl<|aH (bB<|aK rfl rfl<|rK _ _)<|aH (bB rfl)<|aH e<|bO rfl,l,i⟩
def ÿ(M:Oa S rk c) {a b:Nat} (ha:a<S.length) (h:Wc S c al a b):a=b\/∃s∈S.getD a [],al s=true/\Wc S c al s b:=by
 induction h with
 |here=>exact .inl rfl
 |on h hl hg ih=>
  rename_i r l;rcases ih with e|⟨s,hs,h1,h2⟩
  .subst e;exact .inr ⟨_,(yU M ha).mpr ⟨l,hl,rfl⟩,hg,.here⟩
  .exact .inr ⟨s,hs,h1,.on h2 hl hg⟩
def ő(M:Oa S rk c) (h0:m≠0) (hm:m<2^S.length):ve S c m↔∀k,m.testBit k=true->∀g,m.testBit g=true->yk S c m (cH<|S.getD k []) g:=by
 have lt:∀g,m.testBit g=true->g<S.length:=λg hg=>bC hm<|aG.mpr hg
 constructor
 .rintro⟨_,h1,h2⟩ k hk g hg;have go:∀{b},Wc S c (ug m) k b->b≠k->∃s∈S.getD k [],m.testBit s=true/\Wc S c (ug m) s b:=λ{b} h hn=>by
   rcases ÿ M (lt k hk) h with e|e
   .exact(hn e.symm).elim
   .exact e
  have fin:∀s,s∈S.getD k []->m.testBit s=true->Wc S c (ug m) s g->yk S c m (cH<|S.getD k []) g:=λs h1 h2 h3=>⟨s,by rw[eO,Uc h1],h2,h3⟩
  by_cases e:g=k
  .subst e
   by_cases hx:∃b,m.testBit b=true/\b≠g
   .obtain⟨b,hb,zi⟩:=hx;obtain⟨s,s1,s2,s3⟩:=go (h1 g (aG.mpr hk) b<|aG.mpr hb) zi;exact fin s s1 s2<|Wc.trans s3<|h1 b (aG.mpr hb) g<|aG.mpr hk
   .have only:∀b∈aQ m,b=g:=λb hb=>Am λhn=>hx ⟨b,aG.mp hb,hn⟩
    have hl:aQ m=[g]:=by
     have nd:=dD m;have Oq:=aG.mpr hk;cases hmm:aQ m with
     |nil=>rw[hmm]at Oq;cases Oq
     |cons a T=>
      rw[hmm]at only nd;have ea:=only a Jb;cases T with
      |nil=>rw[ea]
      |cons b T=>
       have eb:=only b (Qb _ Jb);rw[ea,eb]at nd;exact absurd Jb (Pj.mp nd).1
    unfold Bc at h2;rw[hl]at h2;have:g∈S.getD g []:=by simpa using h2
    exact fin g this hk .here
  .obtain⟨s,s1,s2,s3⟩:=go (h1 k (aG.mpr hk) g<|aG.mpr hg) e;exact fin s s1 s2 s3
 .intro h;refine⟨h0,λa ha b hb=>?_,?_⟩
  .obtain⟨s,s1,s2,s3⟩:=h a (aG.mp ha) b<|aG.mp hb;rw[eO,Jg]at s1;obtain⟨l,hl,rfl⟩:=(yU M<|bC hm ha).mp s1;exact Wc.trans (.on .here hl s2) s3
  .unfold Bc;rw[Zu,Jg,Jg];cases hmm:aQ m with
   |nil=>
    refine(h0 ?_).elim;have:=gJ m;rw[hmm]at this;exact this.symm
   |cons a T=>
    cases T with
    |cons b T=>exact .inl (by simp)
    |nil=>
     have ha:m.testBit a=true:=aG.mp (by rw[hmm];exact Jb)
     obtain⟨s,s1,s2,_⟩:=h a ha a ha;have:s∈aQ m:=aG.mpr s2;rw[hmm]at this;rw[eO,Jg,Ce.mp this]at s1;exact .inr s1
end
def Ψ(n:Nat):lN 1 n=ba (List.range' 1 n):=by
 unfold lN ba;rw[List.range'_eq_map_range,Jk];refine Fn λk _=>?_
 show D.int (1+(k:Int))=D.int ((1+k:Nat):Int)
 push_cast
 rfl
section
variable{S:List (List Nat)}{rk:List Nat}{c n:Nat}
open Classical in
noncomputable def Br(S:List (List Nat))(c al:Nat):List Nat:=(List.range' 1 al).filter λm=>decide (m&&&al=m)&&decide (ve S c m)
def Dt{o:Nat}:m&&&o=m↔pB m o:=by
 constructor
 .intro h g hg;have:=aG.mp hg;rw[<-h,Ol,wj]at this;exact aG.mpr this.2
 .intro h;refine Ik λg=>?_
  rw[Ol];cases hg:m.testBit g with
  |false=>rfl
  |true=>rw[aG.mp<|h g<|aG.mpr hg];rfl
open Classical in
def CJ{al m:Nat}:m∈Br S c al↔ve S c m/\pB m al:=by
 unfold Br;rw[Be,wj,Jg,Jg,Dt,List.mem_range'_1];constructor
 .exact λh=>⟨h.2.2,h.2.1⟩
 .intro h;have h0:=h.1.1;have:m<=al:=by rw[<-Dt.mpr h.2];exact Nat.and_le_right
  exact⟨by omega,h.2,h.1⟩
def Œ(M:Oa S rk c){k:Nat}(h0:m≠0)(hk:k<S.length):∃F:Nat,fY [.lst<|ba<|qg S,.int m,.int (cH (S.getD k []):Nat)]=.ok (.int F)/\(F=m↔∀g,m.testBit g=true->yk S c m (cH<|S.getD k []) g):=by
 obtain⟨F,e,_,hF⟩:=TU M (ins:=m)<|bPi M hk;refine⟨F,e,?_⟩;constructor
 .rintro rfl g hg;exact(hF g).mp hg
 .intro h;refine Ik λg=>?_
  cases hg:m.testBit g with
  |true=>exact(hF g).mpr (h g hg)
  |false=>
   cases hz:F.testBit g with
   |false=>rfl
   |true=>
    obtain⟨s,_,s2,s3⟩:=(hF g).mp hz;have:m.testBit g=true:=Lw (al:=ug m) s2 s3;rw[hg]at this;cases this
abbrev nq(S:List (List Nat))(al:Nat)(F:List Nat)(x3 x4:Option Sl):ua:=[some<|.v<|.lst<|ba<|qg S,some<|.v<|.int al,some<|.o .l<|ba F,x3,x4,none]
open Classical in
def œ(M:Oa S rk c){al m:Nat}(h0:m≠0)(Rk:al<2^S.length){F:List Nat}(hl:F.length<=1000)(x4:Option Sl):∃y4,oY (nq S al F m x4)=.ok (.nx<|nq S al (if decide (m&&&al=m)&&decide (ve S c m) then F++[m] else F) m y4):=by
 have n8:=M.most;have t:e2 Qc (e2 qJ (aA 3)<|aA 1) (aA 3) (nq S al F m x4)=.ok (.bl<|decide (m&&&al=m)):=eqE (aK rfl rfl<|rK _ _)<|yw rfl
 by_cases h:m&&&al=m
 .rw[Uc h]at t;rw[Uc h,Bool.true_and];have hm:m<2^S.length:=by rw[<-h];exact aE Nat.and_le_right Rk
  have ce:iR (jb 5) vA uZ (nq S al F m x4) (ba<|List.range S.length)=.ok (ba<|(List.range S.length).filter λk=>m.testBit k && !decide (∀g,m.testBit g=true->yk S c m (cH<|S.getD k []) g)):=fM (List.range S.length) λk hk=>by
   have hk:=Se.mp hk;obtain⟨Fk,e,hF⟩:=Œ M h0 hk;refine⟨_,rfl,mJ (FD rfl rfl) λ_=>?_,rfl⟩
   refine aK (aJ (aN rfl<|aN rfl<|aN (aK rfl rfl<|iZ<|Bt<|M0 hk) rfl) e) rfl<|(Rt _ _).trans ?_;have:decide ((Fk:Int)=(m:Int))=decide (∀g,m.testBit g=true->yk S c m (cH<|S.getD k []) g):=Ir.mpr<|Iff.trans ⟨λz=>by omega,λz=>by omega⟩ hF
   rw[this]
  have lp:((List.range S.length).filter λk=>m.testBit k && !decide (∀g,m.testBit g=true->yk S c m (cH<|S.getD k []) g))=[]↔ve S c m:=by
   rw[ő M h0 hm,Er];constructor
   .intro hz k hk;have:=hz k<|Se.mpr<|bC hm<|aG.mpr hk;rw[hk,Bool.true_and,Jn,LD]at this;exact Am λz=>this z
   .intro hz k _ z;rw[wj,Jn,LD]at z;exact z.2<|hz k z.1
  have em:=eY (is:=[5]) (it:=tH<|e1 lW<|aA 0) (st:=nq S al F m x4) (yO (n:=S.length) (by show R.ok (D.int ((ba<|qg S).length:Nat))=_;rw[aZ,CK])<|by omega) (by simp;omega) ce
  refine⟨some<|.v<|.lst<|ba<|(List.range S.length).filter λk=>m.testBit k && !decide (∀g,m.testBit g=true->yk S c m (cH<|S.getD k []) g),tM t<|aH (bB em) ?_⟩
  by_cases hL:ve S c m
  .rw[Uc hL,kb rfl];have ea:=jX F m;unfold nq;rw[ea];exact tM (aK rfl (fB rfl)<|(DZ _).trans<|by rw[Uc<|lp.mpr hL])<|vJ (d:=.int (m:Nat)) rfl rfl<|by rw[aZ];omega
  .rw[fe hL,gb Cg];exact iK (aK rfl (fB rfl)<|(DZ _).trans<|by rw[fe λz=>hL<|lp.mp z]) rfl
 .rw[fe h]at t;rw[fe h,Bool.false_and,gb Cg];exact⟨x4,iK t rfl⟩
open Classical in
theorem AI(M:Oa S rk c){al:Nat}(Rk:al<2^S.length):∀(ms F:List Nat)(x3 x4:Option Sl),(∀m∈ms,m≠0)->F.length+ms.length<=1000->∃y3 y4,Nb (jb 3) oY (ba ms) (nq S al F x3 x4)=.ok (.nx<|nq S al (F++ms.filter λm=>decide (m&&&al=m)&&decide (ve S c m)) y3 y4)
 |[],F,x3,x4,_,_=>⟨x3,x4,by rw[ny,uh];rfl⟩
 |m::ms,F,x3,x4,h,hl=>by
  rw[Te]at hl;obtain⟨z4,lg⟩:=œ M (h m Jb) Rk (F:=F) (by omega) x4
  cases hq:decide (m&&&al=m)&&decide (ve S c m)
  .rw[hq,gb Cg]at lg;obtain⟨y3,y4,e⟩:=AI M Rk ms F m z4 (λm hm=>h m<|Qb _ hm) (by omega)
   refine⟨y3,y4,dM (d:=.int (m:Nat)) rfl lg ?_⟩;rw[Ml (by rw[hq];decide)]
   exact e
  .rw[hq,kb rfl]at lg;obtain⟨y3,y4,e⟩:=AI M Rk ms (F++[m]) m z4 (λm hm=>h m<|Qb _ hm) (by rw[Wf,Gh];omega)
   refine⟨y3,y4,dM (d:=.int (m:Nat)) rfl lg ?_⟩;rw[Ll (by rw[hq])]
   rw[Cm]at e;exact e
def HZ(M:Oa S rk c):2^S.length<=256:=by
 have:2^S.length<=2^8:=UL (by decide) M.most
 omega
def DJ(M:Oa S rk c){al:Nat}(Rk:al<2^S.length):(Br S c al).length<=256:=by
 have:=HZ M;unfold Br;refine bf (tq _ _) ?_
 rw[List.length_range'];omega
def GX(M:Oa S rk c){al:Nat}(Rk:al<2^S.length):iJ [.lst<|ba<|qg S,.int al]=.ok (.lst<|ba<|Br S c al):=by
 have n2:=HZ M;obtain⟨y3,y4,e⟩:=AI M Rk (List.range' 1 al) [] none none (λm hm=>by have:=(List.mem_range'_1.mp hm).1;omega) (by rw[Kr,List.length_range'];omega)
 refine bA rfl<|aH (pW<|fB rfl)<|aH (dR (xs:=ba<|List.range' 1 al) ?_ e)<|bO rfl;rw[bH0];show aW _ (R.ok<|lN 1 ((al:Int)+1-1).toNat)=_;rw[aF ?_,show ((al:Int)+1-1).toNat=al by omega,Ψ]
 exact⟨tw (by omega),zK (by omega),tw (by omega),zK<|by omega⟩
end
def Nw{e:Ex}{st:ua} {j:Int} (he:e st=.ok d) (hg:g st=.ok (.int j)) (hs:st[i]?=some (some<|.o .l xs)) (h0:0<=j) (h1:j<xs.length):iq i g e st=.ok (.nx<|st.set i<|some<|.o .l<|xs.set j.toNat d):=by
 unfold iq;rw[he,aR,hg,aR];show (match st[i]? with|some (some<|.o .l xs)=>_|_=>_)=_
 rw[hs];show (Oh<|vh xs.length j).bind _=_;unfold vh;rw[kb h0,kb h1];rfl
section
variable{S:List (List Nat)}{rk:List Nat}{c n:Nat}
open Classical in
noncomputable def Bf(S:List (List Nat))(c m:Nat):Nat:=cH<|(List.range S.length).filter λg=>decide (yk S c 255 m g)
open Classical in
def iu(M:Oa S rk c){m:Nat}(hm:m<2^S.length):fY [.lst<|ba<|qg S,.int 255,.int m]=.ok (.int (Bf S c m:Nat))/\∀g,(Bf S c m).testBit g=true↔yk S c 255 m g:=by
 obtain⟨F,e,l,hF⟩:=TU M (ins:=255) hm;have ef:F=Bf S c m:=Ik λg=>by
  unfold Bf;rw[eO];cases hz:F.testBit g with
  |true=>exact(Uc<|Be.mpr ⟨Se.mpr<|bC l<|aG.mpr hz,Uc<|(hF g).mp hz⟩).symm
  |false=>
   refine(fe λz=>?_).symm
   have:=(hF g).mpr<|cj (Be.mp z).2;rw[hz]at this;cases this
 rw[<-ef];exact⟨e,hF⟩
def yW(M:Oa S rk c)(hn:n<2^S.length)(h0:n≠0):jD [.lst<|ba rk,.int n]=.ok (.bl<|Cb rk n):=bA rfl<|bO<|aK (aK (aJ rfl<|bHb M hn h0) rfl<|xP<|by decide) rfl<|vI _ _
def toN(A:Nat->Nat)(G B:Nat):Bool:=decide ((0:Int)<((A G&&&B:Nat):Int))
def To(A:Nat->Nat)(G B:Nat):Bool:=!toN A B G
def Uo(A:Nat->Nat)(G B:Nat):Bool:=!toN A G B
def Vo(A:Nat->Nat)(G B:Nat):Bool:=!(toN A G B&&toN A B G)
def Wo(G B:Nat):Bool:=!decide (G&&&B=G)
def Dq(G B:Nat):Bool:=!decide (G&&&B=B)
abbrev So(b0 b1 b2 b3 b4:Bool):List D:=[.bl b0,.bl b1,.bl b2,.bl b3,.bl b4]
abbrev Yq(S:List (List Nat))(rk L:List Nat)(A:Nat->Nat)(Gs Bs:List Nat)(t:List D)(x5 x9 x10 yg:Option Sl):ua:=[some<|.v<|.lst<|ba<|qg S,some<|.v<|.lst<|ba L,some<|.v<|.lst<|ba rk,some<|.o (.d false<|ba L)<|L.map λm=>D.int (A m:Nat),x5,some<|.v<|.lst<|ba Gs,some<|.v<|.lst<|ba Bs,some<|.o .l t,x9,x10,yg]
def bHk{A:Nat->Nat}{B:Nat}(hG:G∈L)(hB:B∈L){b0 b1 b2 b3 b4:Bool}{x10 yg:Option Sl}:∃nj oj,tK (Yq S rk L A Gs Bs (So b0 b1 b2 b3 b4) G B x10 yg)=.ok (.nx<|Yq S rk L A Gs Bs (So (b0&&To A G B) (b1&&Uo A G B) (b2&&Vo A G B) (b3&&Wo G B)<|b4&&Dq G B) G B nj oj):=by
 have at':∀{m:Nat},m∈L->Mb (.Ve false (ba L)<|L.map λm=>D.int (A m:Nat)) (.int m)=.ok (.int (A m:Nat)):=λh=>yt<|vL (λm=>D.int (A m:Nat)) h
 refine⟨some<|.v<|.bl<|toN A G B,D.bl<|toN A B G,?_⟩;refine aH (st':=Yq S rk L A Gs Bs (So b0 b1 b2 b3 b4) G B (D.bl<|toN A G B) yg) (bB<|aK (aK (aK rfl rfl<|at' hG) rfl<|rK _ _) rfl rfl) ?_
 refine aH (st':=Yq S rk L A Gs Bs (So b0 b1 b2 b3 b4) G B (D.bl<|toN A G B)<|D.bl<|toN A B G) (bB<|aK (aK (aK rfl rfl<|at' hB) rfl<|rK _ _) rfl rfl) ?_
 refine aH (Nw (d:=.bl<|b0&&To A G B) (j:=0) (mJ (aK rfl rfl rfl) λ_=>gZ rfl) rfl rfl (by decide)<|by simp) ?_
 refine aH (Nw (d:=.bl<|b1&&Uo A G B) (j:=1) (mJ (aK rfl rfl rfl) λ_=>gZ rfl) rfl rfl (by decide)<|by simp) ?_
 refine aH (Nw (d:=.bl<|b2&&Vo A G B) (j:=2) (mJ (aK rfl rfl rfl) λ_=>gZ<|mJ rfl λ_=>rfl) rfl rfl (by decide)<|by simp) ?_
 refine aH (Nw (d:=.bl<|b3&&Wo G B) (j:=3) (mJ (aK rfl rfl rfl) λ_=>OO (aK rfl rfl<|rK _ _)<|yw rfl) rfl rfl (by decide)<|by simp) ?_
 exact qy (Nw (xs:=[.bl<|b0&&To A G B,.bl<|b1&&Uo A G B,.bl<|b2&&Vo A G B,.bl<|b3&&Wo G B,.bl b4]) (d:=.bl<|b4&&Dq G B) (j:=4) (mJ (aK rfl rfl rfl) λ_=>OO (aK rfl rfl<|rK _ _)<|yw rfl) rfl rfl (by decide)<|by simp) rfl
theorem IZ{L Gs:List Nat}{A:Nat->Nat}{G:Nat}(hG:G∈L):∀(l:List Nat)(b0 b1 b2 b3 b4:Bool)(x9 x10 yg:Option Sl),(∀B∈l,B∈L)->∃y9 nj oj,Nb (jb 8) tK (ba l) (Yq S rk L A Gs Bs (So b0 b1 b2 b3 b4) G x9 x10 yg)=.ok (.nx<|Yq S rk L A Gs Bs (So (b0&&l.all (To A G)) (b1&&l.all (Uo A G)) (b2&&l.all (Vo A G)) (b3&&l.all (Wo G))<|b4&&l.all (Dq G)) G y9 nj oj)
 |[],b0,b1,b2,b3,b4,x9,x10,yg,_=>⟨x9,x10,yg,by simp only[List.all_nil,Bool.and_true];rfl⟩
 |B::l,b0,b1,b2,b3,b4,x9,x10,yg,h=>by
  obtain⟨Wv,Xv,lg⟩:=bHk (S:=S) (rk:=rk) (Gs:=Gs) (Bs:=Bs) (A:=A) hG (h B Jb) (b0:=b0) (b1:=b1) (b2:=b2) (b3:=b3) (b4:=b4) (x10:=x10) (yg:=yg);obtain⟨y9,nj,oj,e⟩:=IZ (Gs:=Gs) (Bs:=Bs) (A:=A) hG l _ _ _ _ _ B Wv Xv λB hB=>h B<|Qb _ hB
  refine⟨y9,nj,oj,dM (d:=.int (B:Nat)) rfl lg<|e.trans ?_⟩;simp only[all_cons,Bool.and_assoc]
theorem JZ{L Gs Bs:List Nat}{A:Nat->Nat}(hB:∀B∈Bs,B∈L):∀(l:List Nat)(b0 b1 b2 b3 b4:Bool)(x5 x9 x10 yg:Option Sl),(∀G∈l,G∈L)->∃y5 y9 nj oj,Nb (jb 4) yJ (ba l) (Yq S rk L A Gs Bs (So b0 b1 b2 b3 b4) x5 x9 x10 yg)=.ok (.nx<|Yq S rk L A Gs Bs (So (b0&&l.all λG=>Bs.all<|To A G) (b1&&l.all λG=>Bs.all<|Uo A G) (b2&&l.all λG=>Bs.all<|Vo A G) (b3&&l.all λG=>Bs.all<|Wo G)<|b4&&l.all λG=>Bs.all<|Dq G) y5 y9 nj oj)
 |[],b0,b1,b2,b3,b4,x5,x9,x10,yg,_=>⟨x5,x9,x10,yg,by simp only[List.all_nil,Bool.and_true];rfl⟩
 |G::l,b0,b1,b2,b3,b4,x5,x9,x10,yg,h=>by
  obtain⟨z9,Wv,Xv,lg⟩:=IZ (S:=S) (rk:=rk) (Gs:=Gs) (Bs:=Bs) (A:=A) (h G Jb) Bs b0 b1 b2 b3 b4 x9 x10 yg hB;obtain⟨y5,y9,nj,oj,e⟩:=JZ (Gs:=Gs) (A:=A) hB l _ _ _ _ _ G z9 Wv Xv λB hB=>h B<|Qb _ hB
  refine⟨y5,y9,nj,oj,dM (d:=.int (G:Nat)) rfl (dR rfl lg)<|e.trans ?_⟩;simp only[all_cons,Bool.and_assoc]
theorem jS(M:Oa S rk c):∀(l p:List Nat)(x5:Option Sl){x0 x1:Option Sl},(p++l).Nodup->(p++l).length<1000->(∀m∈l,m<2^S.length)->∃y5,Nb (jb 4) OP (ba l) [D.lst<|ba<|qg S,x0,x1,some<|.o (.d false<|ba p)<|p.map λm=>D.int (Bf S c m:Nat),x5,none,none,none,none,none,none]=.ok (.nx [D.lst<|ba<|qg S,x0,x1,some<|.o (.d false<|ba<|p++l)<|(p++l).map λm=>D.int (Bf S c m:Nat),y5,none,none,none,none,none,none])
 |[],p,x5,x0,x1,_,_,_=>⟨x5,by rw[uh];rfl⟩
 |m::l,p,x5,x0,x1,nd,hl,h=>by
  obtain⟨n1,n2,n3⟩:=Lo.mp nd;have hn:m∉p:=λz=>n3 m z m Jb rfl
  obtain⟨lg,Xf⟩:=XI (V:=Bf S c) (x:=.int (Bf S c m:Nat)) hn;have ea:p++m::l=p++[m]++l:=by simp
  rw[ea]at nd hl ⊢;obtain⟨y5,e⟩:=jS M l (p++[m]) m (x0:=x0) (x1:=x1) nd hl λm hm=>h m<|Qb _ hm
  refine⟨y5,dM (d:=.int (m:Nat)) (s2:=[D.lst<|ba<|qg S,x0,x1,some<|.o (.d false<|ba<|p++[m])<|(p++[m]).map λm=>D.int (Bf S c m:Nat),m,none,none,none,none,none,none]) rfl ((YI (k:=.int m) (d:=.int (Bf S c m:Nat)) (aJ rfl (iu M<|h m Jb).1) rfl rfl rfl<|by rw[Yd];rw[Wf,Wf]at hl;omega).trans ?_) e⟩
  rw[lg,Xf];have:(p++[m]).map (λm=>D.int (Bf S c m:Nat))=(p.map λr=>D.int (Bf S c r:Nat))++[.int (Bf S c m:Nat)]:=by simp
  rw[this];rfl
noncomputable abbrev Px(S:List (List Nat))(c:Nat):Nat:=Bf S c 1
noncomputable abbrev uf(S:List (List Nat))(c:Nat):List Nat:=Br S c<|Px S c
noncomputable def Bv(S:List (List Nat))(c:Nat)(rk:List Nat):List Nat:=(uf S c).filter λm=>Cb rk m
noncomputable def sy(S:List (List Nat))(c:Nat)(rk:List Nat):List Nat:=(uf S c).filter λm=>!Cb rk m
noncomputable def Yl(S:List (List Nat))(c:Nat)(rk:List Nat)(k:Nat->Nat->Bool):Bool:=(Bv S c rk).all λG=>(sy S c rk).all<|k G
noncomputable abbrev Zl(S:List (List Nat))(c:Nat)(rk:List Nat):List D:=So (Yl S c rk<|To<|Bf S c) (Yl S c rk<|Uo<|Bf S c) (Yl S c rk<|Vo<|Bf S c) (Yl S c rk Wo)<|Yl S c rk Dq
def EJ(M:Oa S rk c):Px S c<2^S.length:=oN λg hg=>Se.mp (Be.mp hg).1
def Ā(M:Oa S rk c):oA [.lst<|ba<|qg S,.lst<|ba<|uf S c,.lst<|ba rk]=.ok (.lst<|Zl S c rk):=by
 have n1:=M.one;have Rk:=EJ M;have hl:(uf S c).length<=256:=DJ M Rk;have Kv:∀m∈uf S c,m<2^S.length/\m≠0:=λm hm=>by
  obtain⟨h1,h2⟩:=CJ.mp hm;refine⟨?_,h1.1⟩;rw[<-gJ m];exact oN λr hr=>bC Rk<|h2 r hr
 have nd:(uf S c).Nodup:=List.Pairwise.filter _ List.nodup_range';obtain⟨y5,lg⟩:=jS M (uf S c) [] none (x0:=some<|.v<|.lst<|ba<|uf S c) (x1:=some<|.v<|.lst<|ba rk) nd (by rw[Yu];omega) λm hm=>(Kv m hm).1
 have cg:∀x5,iR (jb 4) RP QP [D.lst<|ba<|qg S,D.lst<|ba<|uf S c,D.lst<|ba rk,some<|.o (.d false<|ba<|uf S c)<|(uf S c).map λm=>D.int (Bf S c m:Nat),x5,none,none,none,none,none,none] (ba<|uf S c)=.ok (ba<|Bv S c rk):=λx5=>fM (uf S c) λm hm=>⟨_,rfl,aJ rfl<|yW M (Kv m hm).1 (Kv m hm).2,rfl⟩
 have cb:∀x5 x6,iR (jb 4) VP UP [D.lst<|ba<|qg S,D.lst<|ba<|uf S c,D.lst<|ba rk,some<|.o (.d false<|ba<|uf S c)<|(uf S c).map λm=>D.int (Bf S c m:Nat),x5,x6,none,none,none,none,none] (ba<|uf S c)=.ok (ba<|sy S c rk):=λx5 x6=>fM (uf S c) λm hm=>⟨_,rfl,gZ<|aJ rfl<|yW M (Kv m hm).1 (Kv m hm).2,rfl⟩
 obtain⟨z5,z9,Wv,Xv,Xf⟩:=JZ (S:=S) (rk:=rk) (L:=uf S c) (Gs:=Bv S c rk) (Bs:=sy S c rk) (A:=Bf S c) (λB hB=>(Be.mp hB).1) (Bv S c rk) true true true true true y5 none none none λG hG=>(Be.mp hG).1
 simp only[Bool.true_and]at Xf;refine bA rfl ?_
 refine aH rfl<|aH (dR rfl lg)<|aH (bB<|eY rfl (by rw[aZ];omega)<|cg _)<|aH (bB<|eY rfl (by rw[aZ];omega)<|cb _ _) ?_
 exact aH (pW<|fB rfl)<|aH (dR rfl Xf)<|bO rfl
def ā(M:Oa S rk c):∃F:Nat,fY [.lst<|ba<|qg S,.int 255,.int 1]=.ok (.int F)/\iJ [.lst<|ba<|qg S,.int F]=.ok (.lst<|ba<|uf S c):=
 ⟨Px S c,(iu M (m:=1)<|Nat.one_lt_two_pow (by have:=M.one;omega)).1,GX M<|EJ M⟩
end
theorem CT{α:Type}{tg:Tg}{C E:Ex}{st:ua}{F:α->D}{q:α->Bool}:∀(ks:List α),(∀k∈ks,∃s1,tg (F k) st=.ok s1/\C s1=.ok (.bl<|q k)/\E s1=.ok (F k))->iR tg C E st (ks.map F)=.ok ((ks.filter q).map F)
 |[],_=>rfl
 |k::ks,h=>by
  obtain⟨s1,a1,a2,a3⟩:=h k Jb;have ih:=CT ks λk hk=>h k<|Qb _ hk
  rw[Vd,lX,a1,aR,a2,aR,oW];cases hq:q k with
  |true=>rw[Ll hq,Vd,kb rfl,a3,aR,ih];rfl
  |false=>rw[Ml (by rw[hq];decide),gb Cg,ih]
def Et(d:D)(xs:List D):de (d::xs) 0=some d:=by
 unfold de vh;rw[kb (by decide),kb (by rw[Te];omega)]
 rfl
def EK{r:ue}{st:ua} (h:r st=.ok ds) (hl:ds.length<=1000):yu r st=.ok (.tup ds):=by
 show (r st).bind _=_;rw[h];exact aF<|gO<|bf hl<|by decide
section
variable{S:List (List Nat)}{rk:List Nat}{c n:Nat}
def Ă{Ho:Nat->Bool}{s:Nat}(h:∀g,al g=Ho g){g:Nat}:Wc S c al s g↔Wc S c Ho s g:=by
 have:al=Ho:=funext h;rw[this]
def bM4(n:Nat):(λg=>decide (g∈aQ n))=λg=>n.testBit g:=funext λg=>by
 cases h:n.testBit g with
 |true=>exact Uc<|aG.mpr h
 |false=>exact fe λz=>by rw[aG.mp z]at h;cases h
def bHl(M:Oa S rk c){s:Nat}(hn:n<2^S.length)(hs:s<S.length)(g:Nat):(pP [mD S rk c,.int n,.int s,.int g]=.ok .lc/\¬ (n.testBit s=true/\Wc S c (ug n) s g))\/∃u,pP [mD S rk c,.int n,.int s,.int g]=.ok (.str u)/\Wc S c (ug n) s g:=by
 have n8:=M.most;cases hb:n.testBit s with
 |false=>exact .inl ⟨bA rfl<|vH<|tM (gZ (p:=false)<|aJ rfl<|by rw[zV,hb])<|bO rfl,λz=>nomatch z.1⟩
 |true=>
  obtain⟨xa,e,b⟩:=WI M hs<|aQ n;rw[bM4]at b;have hg:∀{d:D},ur (.Ve false (kD xa)<|wD xa) (.int g) .lc=.ok d->pP [mD S rk c,.int n,.int s,.int g]=.ok d:=λh=>bA rfl<|dC (iK (gZ (p:=true)<|aJ rfl<|by rw[zV,hb]) rfl)<|bO (by
   unfold zu;rw[aJ (aN (show dY "Machine" "steps" (mD S rk c)=_ from lJ)<|aN rfl<|aN (aJ rfl<|lE hn<|by omega) rfl) e]
   exact h)
  have hh:=sC g xa
  by_cases hm:g∈xa.map (·.1)
  .rw[Uc hm]at hh;obtain⟨x,hx,rfl⟩:=bg.mp hm;refine .inr ⟨x.2,hg ?_,(b.pt x hx).2⟩;show aW (Nc false (.int x.1)=true) _=_;rw[aF (c:=Nc false (.int x.1)=true) rfl,kb hh,kK b.nd hx];rfl
  .rw[fe hm]at hh;refine .inl ⟨hg ?_,λz=>hm<|b.whole z.2⟩
   show aW (Nc false (.int g)=true) _=_;rw[aF (c:=Nc false (.int g)=true) rfl,gb (by rw[hh];decide)]
def bHm(M:Oa S rk c):eE [mD S rk c,.int 0]=.ok .lc:=YY rfl<|iK (gZ (p:=true)<|aJ (aN rfl<|aN (show e1 (dY "Machine" "many") (aA 0) _=.ok (.int (S.length:Nat)) from yR) rfl)<|US (x:=0) (by have:=M.one;omega)) rfl
def bHn(M:Oa S rk c){x:List Nat}(hx:xn c x)(hl:x.length<=1000):eN [mD S rk c,.str x]=.ok .lc:=YY rfl<|iK (gZ (p:=true)<|aJ (aN rfl<|aN (show e1 (dY "Machine" "letters") (aA 0) _=.ok (.int (c:Nat)) from Υ) rfl)<|(ň M (.str x) rfl<|λy e=>by cases e;omega).trans (by
 show R.ok (D.bl<|good c x)=_;rw[AU.mpr hx])) rfl
def Ŕ(M:Oa S rk c){x:List Nat}(hx:xn c x)(hl:x.length<=1000):lC [mD S rk c,.int 0,.str x]=.ok (.int (vK S 0 x:Nat)):=by
 refine bA rfl<|dC ?_<|dC ?_<|bO<|aK (x:=.lst<|ba<|0::runs S 0 x) ?_ rfl<|iZ<|Mi<|ô<|XS x 0
 .show (dJ "Machine" "check_room" eE [] (aA 0) (aC (aA 1) aP) _).bind _=_;rw[jI (S:=S) (rk:=rk) (c:=c) rfl rfl (by decide)]
  show (eE [mD S rk c,.int 0]).bind _=_;rw[bHm M];rfl
 .show (dJ "Machine" "check_word" eN [] (aA 0) (aC (aA 2) aP) _).bind _=_;rw[jI (S:=S) (rk:=rk) (c:=c) rfl rfl (by decide)]
  show (eN [mD S rk c,.str x]).bind _=_;rw[bHn M hx hl];rfl
 .exact(dS rfl rfl).trans (CU M (q:=0) (by have:=M.one;omega) x hx<|by omega)
noncomputable def Af(S:List (List Nat))(c:Nat):Nat:=gH S c (cH<|List.range S.length) 0
def pX:Af S c<2^S.length:=yS
def bHo{g:Nat}:(cH<|List.range S.length).testBit g=decide (g∈List.range S.length):=by rw[eO]
def Ft(M:Oa S rk c)(g:Nat):(Af S c).testBit g=true↔Wc S c (λg=>decide (g∈List.range S.length)) 0 g:=by
 rw[Af,iM M (by have:=M.one;omega)]
 exact Ă λg=>bHo
def HX(M:Oa S rk c){X:Nat}{row:List Nat}(hr:∀L∈X::row,ve S c L/\L<2^S.length/\pB X L)(hs:pB X (Af S c))(hl:row.length<=100):∃f us,uU [mD S rk c,.lst<|ba<|X::row]=.ok (.tup [.str f,.lst us])/\xn c f/\f.length<=8/\vK S 0 f∈aQ X/\us.length=row.length+1/\∀y∈us,∃u,y=.str u:=by
 obtain⟨xa,e,b⟩:=ϰ M;have n8:=M.most;have hX:=hr X Jb;have bl:=b.len;have ce:iR (jb 5) FR ER [mD S rk c,D.lst<|ba<|X::row,none,none,none,none,none] (Fp xa)=.ok (Fp<|xa.filter λx=>X.testBit x.1):=CT xa λx hx=>⟨_,rfl,aJ (aN (aK rfl rfl<|iZ<|Et (.int X)<|ba row)<|aN (aK (z:=.ok<|.int (x.1:Nat)) rfl rfl rfl) rfl)<|zV _ _,rfl⟩
 obtain⟨g,hg⟩:=rq _<|rM hX.1.1;have hin:g∈xa.map (·.1):=b.whole<|(Ft M g).mp<|aG.mp<|hs g hg;obtain⟨x0,zp,e0⟩:=bg.mp hin;cases hf:xa.filter λx=>X.testBit x.1 with
 |nil=>
  have:=Er.mp hf x0 zp;rw[e0]at this;exact(this<|aG.mp hg).elim
 |cons y T=>
  have hy:y∈xa.filter λx=>X.testBit x.1:=by rw[hf];exact Jb
  obtain⟨y1,y2⟩:=Be.mp hy;obtain⟨k,hk⟩:=Ju.mp y1;have hkl:=(Og.mp hk).1;have hw:=b.Yi k y hk;have C5:y.1∈aQ X:=aG.mpr y2;obtain⟨us,eu,lu,hu⟩:=BU (tg:=jb 6) (c:=dB) (f:=GR) (st:=[mD S rk c,D.lst<|ba<|X::row,D.lst<|Fp<|y::T,(y.1:Nat),D.str y.2,none,none]) (P:=λ_ z=>∃u,z=.str u) (ba<|X::row) λd hd=>by
   obtain⟨L,hL,rfl⟩:=KA hd;obtain⟨l1,l2,l3⟩:=hr L hL;obtain⟨u,eu⟩:=eS M l2 l1<|l3 y.1 C5;exact⟨_,.str u,rfl,rfl,aJ rfl eu,u,rfl⟩
  rw[hf]at ce;refine⟨y.2,us,bA rfl<|aH (bB<|eY (pI<|aJ rfl e) (by rw[bH8];omega) ce)<|aH (bB (d:=.int (y.1:Nat))<|aK (aK rfl rfl<|iZ<|Et (.tup [.int (y.1:Nat),.str y.2])<|Fp T) rfl rfl)<|aH (bB (d:=.str y.2)<|aK (aK rfl rfl<|iZ<|Et (.tup [.int (y.1:Nat),.str y.2])<|Fp T) rfl rfl)<|bO ?_,(b.lt y y1).2,by omega,by rw[(b.pt y y1).1];exact C5,by rw[lu,aZ,Te],λz hz=>(hu z hz).elim λ_ h=>h.2⟩
  exact EK (aN rfl<|aN (eY rfl (by rw[aZ,Te];omega) eu) rfl) (show 2<=1000 by decide)
def IX(h:pB m n'){a b:Nat}(hr:Wc S c (ug m) a b):Wc S c (ug n') a b:=Wc.mono (λg hg=>aG.mp<|h g<|aG.mpr hg) hr
def vj(S:List (List Nat))(c L G:Nat):Prop:=∃a∈aQ L,∃b∈aQ G,Wc S c (ug<|Af S c) a b
def FJ(M:Oa S rk c){L a b:Nat}(hL:ve S c L)(sL:pB L (Af S c))(hG:ve S c G)(sG:pB G (Af S c))(ha:a∈aQ L)(hb:b∈aQ G):vj S c L G↔Wc S c (ug<|Af S c) a b:=by
 constructor
 .rintro⟨x,hx,y,hy,h⟩;exact Wc.trans (IX sL<|hL.2.1 a ha x hx)<|Wc.trans h<|IX sG<|hG.2.1 y hy b hb
 .exact λh=>⟨a,ha,b,hb,h⟩
def Ue(S:List (List Nat))(c m:Nat):Prop:=ve S c m/\m<2^S.length/\pB m (Af S c)
def pK(M:Oa S rk c){w:Bool} (h:m∈pA S c rk (Af S c) w):Ue S c m/\Cb rk m=w:=by
 obtain⟨p,hp,hm⟩:=Su.mp h;obtain⟨h1,h2,h3,h4⟩:=lT M pX hm;refine⟨⟨h2,h1,h3⟩,?_⟩;have:=(DB.mp hp).2;unfold Cb;rw[h4];exact eq_of_beq this
def kA(M:Oa S rk c){m:Nat}(h:Ue S c m):∃F∈pA S c rk (Af S c) (Cb rk m),pB m F:=by
 obtain⟨h1,h2,h3⟩:=h;obtain⟨r,hr⟩:=rq _<|rM h1.1;obtain⟨a,b,d⟩:=kT (rk:=rk) M pX h1 h3 rfl hr;refine⟨fJ S c (yV rk (Af S c)<|lR rk m) r,Su.mpr ⟨lR rk m,DB.mpr ⟨?_,?_⟩,?_⟩,d⟩
 .obtain⟨⟨g,hg,e⟩,_⟩:=OA (rk:=rk) h1.1;exact⟨g,h3 g hg,e⟩
 .unfold Cb;exact gE _
 .unfold bq at b;rw[wj,Jg]at b;exact Be.mpr ⟨lK.mpr ⟨r,a,rfl,b.1⟩,Uc b.2⟩
noncomputable abbrev wB(S:List (List Nat))(rk:List Nat)(c:Nat)(g:Bool)(Gs:List Nat)(x4 x5 x6 x7 x8 x9:Option Sl):ua:=[some<|.v<|mD S rk c,some<|.v<|.bl g,some<|.v<|.int<|Af S c,some<|.v<|.lst<|ba Gs,x4,x5,x6,x7,x8,x9]
def bHp{G g:Nat}{T:List Nat}(M:Oa S rk c)(hG:G<2^S.length)(hm:aQ G=g::T){a:Nat}{st:ua}(h:st[a]?=some (some<|.v<|.int (G:Int))):e2 Mb (aO cB<|aC (aA a) aP) (eI 0) st=.ok (.int (g:Nat)):=aK (aJ (aN (show aA a st=.ok (.int (G:Int)) by unfold aA;rw[h]) rfl)<|lE hG (by have:=M.most;omega)) rfl<|iZ<|by rw[hm];exact Et _ _
theorem DT(M:Oa S rk c){g:Bool}{Gs:List Nat}{L a:Nat}{f:List Nat}{us:List D}{u:D}{T:List D}(dk:us=u::T)(hL:Ue S c L)(ha:a∈aQ L){x4:Option Sl}:∀(l:List Nat)(x7 x8 x9:Option Sl),(∀G∈l,Ue S c G)->
  ((∃y7 y8 y9,Nb (jb 7) iT (ba l) (wB S rk c g Gs x4 (D.tup [.str f,.lst us]) a x7 x8 x9)=.ok (.nx<|wB S rk c g Gs x4 (D.tup [.str f,.lst us]) a y7 y8 y9))/\∀G∈l,¬ vj S c L G)\/((∃ds,Nb (jb 7) iT (ba l) (wB S rk c g Gs x4 (D.tup [.str f,.lst us]) a x7 x8 x9)=.ok (.rt<|.tup ds))/\∃G∈l,vj S c L G)
 |[],x7,x8,x9,_=>.inl ⟨⟨x7,x8,x9,rfl⟩,λ_ h=>(nomatch h)⟩
 |G::l,x7,x8,x9,h=>by
  obtain⟨g1,g2,g3⟩:=h G Jb;have sa:a<S.length:=bC hL.2.1 ha;cases hm:aQ G with
  |nil=>exact(rM g1.1 hm).elim
  |cons e T'=>
   have he:e∈aQ G:=by rw[hm];exact Jb
   have lead:=FJ M hL.1 hL.2.2 g1 g3 ha he;have s8:cC 8 (e2 Mb (aO cB<|aC (aA 7) aP)<|eI 0) (wB S rk c g Gs x4 (D.tup [.str f,.lst us]) a G x8 x9)=.ok (.nx<|wB S rk c g Gs x4 (D.tup [.str f,.lst us]) a G e x9):=bB<|bHp M g2 hm rfl;rcases bHl M (pX (S:=S) (c:=c)) sa e with ⟨ew,hn⟩|⟨w,ew,hw⟩
   .have hnl:¬ vj S c L G:=λz=>hn ⟨aG.mp<|hL.2.2 a ha,lead.mp z⟩
    have t:iT (wB S rk c g Gs x4 (D.tup [.str f,.lst us]) a G x8 x9)=.ok (.nx<|wB S rk c g Gs x4 (D.tup [.str f,.lst us]) a G e<|some<|.v .lc):=aH s8<|aH (bB<|aJ rfl ew)<|iK (aK rfl rfl rfl) rfl;rcases DT M (g:=g) (Gs:=Gs) (f:=f) dk hL ha (x4:=x4) l G e (some<|.v .lc) λG hG=>h G (Qb _ hG) with ⟨⟨y7,y8,y9,e'⟩,Dg⟩|⟨⟨ds,e'⟩,G',Gv,hl⟩
    .refine .inl ⟨⟨y7,y8,y9,dM (d:=.int (G:Nat)) rfl t e'⟩,λG' Gv=>?_⟩
     rcases Kc.mp Gv with q|q
     .rw[q];exact hnl
     .exact Dg G' q
    .exact .inr ⟨⟨ds,dM (d:=.int (G:Nat)) rfl t e'⟩,G',Qb _ Gv,hl⟩
   .obtain⟨v,ev⟩:=eS M g2 g1 he;refine .inr ⟨⟨[.str f,u,.str w,.str v],?_⟩,G,Jb,lead.mpr hw⟩;have t:iT (wB S rk c g Gs x4 (D.tup [.str f,.lst us]) a G x8 x9)=.ok (.rt<|.tup [.str f,u,.str w,.str v]):=by
     subst dk;exact aH s8<|aH (bB<|aJ rfl ew)<|tM (aK rfl rfl rfl)<|bO<|EK (aN (aK (z:=.ok<|.str f) rfl rfl rfl)<|aN (aK (x:=.lst<|u::T) (aK rfl rfl rfl) rfl<|iZ<|Et u T)<|aN rfl<|aN (aJ rfl ev) rfl)<|show 4<=1000 by decide
    show Nb (jb 7) iT (.int (G:Nat)::ba l) _=_;rw[qP];show (iT<|wB S rk c g Gs x4 (D.tup [.str f,.lst us]) a G x8 x9).bind _=_;rw[t];rfl
theorem kS(M:Oa S rk c){g:Bool}{Gs:List Nat}(W4:∀G∈Gs,Ue S c G):∀(l:List Nat)(x4 x5 x6 x7 x8 x9:Option Sl),(∀L∈l,Ue S c L)->
  ((∃y4 y5 y6 y7 y8 y9,Nb (jb 4) iU (ba l) (wB S rk c g Gs x4 x5 x6 x7 x8 x9)=.ok (.nx<|wB S rk c g Gs y4 y5 y6 y7 y8 y9))/\∀L∈l,∀G∈Gs,¬ vj S c L G)\/((∃ds,Nb (jb 4) iU (ba l) (wB S rk c g Gs x4 x5 x6 x7 x8 x9)=.ok (.rt<|.tup ds))/\∃L∈l,∃G∈Gs,vj S c L G)
 |[],x4,x5,x6,x7,x8,x9,_=>.inl ⟨⟨x4,x5,x6,x7,x8,x9,rfl⟩,λ_ h=>(nomatch h)⟩
 |L::l,x4,x5,x6,x7,x8,x9,h=>by
  have hL:=h L Jb;obtain⟨f,us,en,f1,f2,f3,f4,_⟩:=HX M (X:=L) (row:=[]) (λL' xi=>by rw[Ce.mp xi];exact⟨hL.1,hL.2.1,λ_ z=>z⟩) hL.2.2 (by simp)
  obtain⟨u,T,dk⟩:∃u T,us=u::T:=by
   cases us with
   |nil=>simp at f4
   |cons u T=>exact⟨u,T,rfl⟩
  have s5:cC 5 (aO uU<|aC (aA 0)<|aC (jP<|aC (aA 4) aP) aP) (wB S rk c g Gs L x5 x6 x7 x8 x9)=.ok (.nx<|wB S rk c g Gs L (D.tup [.str f,.lst us]) x6 x7 x8 x9):=bB<|aJ (aN rfl<|aN (fB (ds:=ba [L]) rfl) rfl) en;have s6:cC 6 (dJ "Machine" "after" lC [] (aA 0)<|aC (eI 0)<|aC (e2 Mb (aA 5)<|eI 0) aP) (wB S rk c g Gs L (D.tup [.str f,.lst us]) x6 x7 x8 x9)=.ok (.nx<|wB S rk c g Gs L (D.tup [.str f,.lst us]) (vK S 0 f) x7 x8 x9):=bB (by
   rw[jI (S:=S) (rk:=rk) (c:=c) (xs:=[.int 0,.str f]) rfl (aN rfl<|aN (aK (z:=.ok<|.str f) rfl rfl rfl) rfl) (by decide)]
   exact Ŕ M f1<|by omega)
  rcases DT M (g:=g) (Gs:=Gs) (f:=f) dk hL f3 (x4:=some<|.v<|.int L) Gs x7 x8 x9 W4 with ⟨⟨y7,y8,y9,e'⟩,Dg⟩|⟨⟨ds,e'⟩,hex⟩
  .have t:iU (wB S rk c g Gs L x5 x6 x7 x8 x9)=.ok (.nx<|wB S rk c g Gs L (D.tup [.str f,.lst us]) (vK S 0 f) y7 y8 y9):=aH s5<|aH s6<|dR rfl e';rcases kS M (g:=g) W4 l L (D.tup [.str f,.lst us]) (vK S 0 f) y7 y8 y9 λL hL=>h L (Qb _ hL) with ⟨⟨z4,z5,z6,z7,z8,z9,Xf⟩,Jm⟩|⟨⟨ds,Xf⟩,L',xi,hl⟩
   .refine .inl ⟨⟨z4,z5,z6,z7,z8,z9,dM (d:=.int (L:Nat)) rfl t Xf⟩,λL' xi=>?_⟩
    rcases Kc.mp xi with q|q
    .rw[q];exact Dg
    .exact Jm L' q
   .exact .inr ⟨⟨ds,dM (d:=.int (L:Nat)) rfl t Xf⟩,L',Qb _ xi,hl⟩
  .refine .inr ⟨⟨ds,?_⟩,L,Jb,hex⟩;have t:iU (wB S rk c g Gs L x5 x6 x7 x8 x9)=.ok (.rt<|.tup ds):=aH s5<|aH s6<|dR rfl e';show Nb (jb 4) iU (.int (L:Nat)::ba l) _=_;rw[qP];show (iU<|wB S rk c g Gs L x5 x6 x7 x8 x9).bind _=_;rw[t];rfl
def fm(S:List (List Nat))(c:Nat)(rk:List Nat)(g:Bool):Prop:=∃L G,Ue S c L/\Ue S c G/\Cb rk L=!g/\Cb rk G=g/\vj S c L G
def GL(M:Oa S rk c):iD [mD S rk c,.int 0]=.ok (.int<|Af S c):=LU M (r:=0) (by have:=M.one;omega)
def ă(M:Oa S rk c)(g:Bool):(kW [mD S rk c,.bl g]=.ok .lc/\¬ fm S c rk g)\/((∃ds,kW [mD S rk c,.bl g]=.ok (.tup ds))/\fm S c rk g):=by
 have up:(∃L∈pA S c rk (Af S c) (!g),∃G∈pA S c rk (Af S c) g,vj S c L G)↔fm S c rk g:=by
  constructor
  .rintro⟨L,hL,G,hG,h⟩;obtain⟨l1,l2⟩:=pK M hL;obtain⟨g1,g2⟩:=pK M hG;exact⟨L,G,l1,g1,l2,g2,h⟩
  .rintro⟨L,G,l1,g1,l2,g2,a,ha,b,hb,h⟩;obtain⟨L',xi,sL⟩:=kA (rk:=rk) M l1;obtain⟨G',Gv,sG⟩:=kA (rk:=rk) M g1;rw[l2]at xi;rw[g2]at Gv;exact⟨L',xi,G',Gv,a,sL a ha,b,sG b hb,h⟩
 have s2:cC 2 (aO iD<|aC (aA 0)<|aC (eI 0) aP) [mD S rk c,D.bl g,none,none,none,none,none,none,none,none]=.ok (.nx [mD S rk c,D.bl g,Af S c,none,none,none,none,none,none,none]):=bB<|aJ rfl<|GL M;have s3:cC 3 (aO cT<|aC (aA 0)<|aC (aA 2)<|aC (aA 1) aP) [mD S rk c,D.bl g,Af S c,none,none,none,none,none,none,none]=.ok (.nx<|wB S rk c g (pA S c rk (Af S c) g) none none none none none none):=bB<|aJ rfl<|Aw M pX;have it:Yc (aO cT<|aC (aA 0)<|aC (aA 2)<|aC (lQ<|aA 1) aP) (wB S rk c g (pA S c rk (Af S c) g) none none none none none none)=.ok (ba<|pA S c rk (Af S c)<|!g):=pI<|aJ (aN rfl<|aN rfl<|aN (gZ rfl) rfl)<|Aw M pX;rcases kS M (g:=g) (Gs:=pA S c rk (Af S c) g) (λG hG=>(pK M hG).1) (pA S c rk (Af S c)<|!g) none none none none none none (λL hL=>(pK M hL).1) with ⟨⟨y4,y5,y6,y7,y8,y9,e⟩,Dg⟩|⟨⟨ds,e⟩,hex⟩
 .exact .inl ⟨bA rfl<|aH s2<|aH s3<|aH (dR it e)<|bO rfl,λz=>by
   obtain⟨L,hL,G,hG,h⟩:=up.mpr z;exact Dg L hL G hG h⟩
 .exact .inr ⟨⟨ds,bA rfl<|aH s2<|aH s3<|vH<|dR it e⟩,up.mp hex⟩
end
section
variable{S:List (List Nat)}{rk:List Nat}{c n:Nat}
abbrev wm(S:List (List Nat))(rk:List Nat)(c:Nat)(g:Bool)(x2 x3 x4:Option Sl):ua:=[some<|.v<|mD S rk c,some<|.v<|.bl g,x2,x3,x4]
theorem KR(M:Oa S rk c){g:Bool}:∀(l:List Nat)(x2 x3 x4:Option Sl),(∀L∈l,Ue S c L)->
  ((∃y2 y3 y4,Nb (jb 2) iW (ba l) (wm S rk c g x2 x3 x4)=.ok (.nx<|wm S rk c g y2 y3 y4))/\∀L∈l,∀Y,¬ Mg S c rk (Cb rk L) L Y)\/((∃ds,Nb (jb 2) iW (ba l) (wm S rk c g x2 x3 x4)=.ok (.rt<|.tup ds))/\∃L∈l,∃Y,Mg S c rk (Cb rk L) L Y)
 |[],x2,x3,x4,_=>.inl ⟨⟨x2,x3,x4,rfl⟩,λ_ h=>(nomatch h)⟩
 |L::l,x2,x3,x4,h=>by
  have hL:=h L Jb;obtain⟨F,eF,lF,iF⟩:=RU M hL.2.1 hL.1.1;have s3:cC 3 (aO iH<|aC (aA 0)<|aC (aA 2) aP) (wm S rk c g L x3 x4)=.ok (.nx<|wm S rk c g L (D.lst<|ba F) x4):=bB<|aJ rfl eF;have Mz:e2 zg (aA 3) (jP aP) (wm S rk c g L (D.lst<|ba F) x4)=.ok (.bl<|!decide (F=[])):=aK rfl (fB rfl)<|Mw F;cases F with
  |nil=>
   have t:iW (wm S rk c g L x3 x4)=.ok (.nx<|wm S rk c g L (D.lst<|ba []) x4):=aH s3<|iK Mz rfl;have wz:∀Y,¬ Mg S c rk (Cb rk L) L Y:=λY hY=>by cases (iF Y).mpr hY
   rcases KR M (g:=g) l L (D.lst<|ba []) x4 λL hL=>h L (Qb _ hL) with ⟨⟨z2,z3,z4,Xf⟩,Jm⟩|⟨⟨ds,Xf⟩,L',xi,hl⟩
   .refine .inl ⟨⟨z2,z3,z4,dM (d:=.int (L:Nat)) rfl t Xf⟩,λL' xi=>?_⟩
    rcases Kc.mp xi with q|q
    .rw[q];exact wz
    .exact Jm L' q
   .exact .inr ⟨⟨ds,dM (d:=.int (L:Nat)) rfl t Xf⟩,L',Qb _ xi,hl⟩
  |cons Y F=>
   have hY:=(iF Y).mp Jb;obtain⟨i1,i2,i3,_,_⟩:=gK M hY hL.1.1 hL.2.1;have sY:pB Y L:=λg hg=>(mO.mp<|i2 g hg).1
   obtain⟨f,us,en,_,_,_,f4,_⟩:=HX M (X:=Y) (row:=[L]) (λL' xi=>by
    rcases Kc.mp xi with q|q
    .rw[q];exact⟨i1,i3,λ_ z=>z⟩
    .rw[Ce.mp q];exact⟨hL.1,hL.2.1,sY⟩) (λg hg=>hL.2.2 g<|sY g hg) (by simp)
   obtain⟨u,v,dk⟩:∃u v,us=[u,v]:=by
    match us,f4 with
    |[u,v],_=>exact⟨u,v,rfl⟩
   subst dk;refine .inr ⟨⟨[.str f,u,.str [],v],?_⟩,L,Jb,Y,hY⟩;have t:iW (wm S rk c g L x3 x4)=.ok (.rt<|.tup [.str f,u,.str [],v]):=aH s3<|tM Mz<|aH (bB<|aJ (aN rfl<|aN (fB (ds:=ba [Y,L])<|aN (aK rfl rfl<|iZ<|Et (.int Y)<|ba F)<|aN rfl rfl) rfl) en)<|bO<|EK (aN (aK (z:=.ok<|.str f) rfl rfl rfl)<|aN (aK (x:=.lst [u,v]) (z:=.ok u) (aK rfl rfl rfl) rfl rfl)<|aN rfl<|aN (aK (x:=.lst [u,v]) (z:=.ok v) (aK rfl rfl rfl) rfl rfl) rfl)<|show 4<=1000 by decide
   show Nb (jb 2) iW (.int (L:Nat)::ba l) _=_;rw[qP];show (iW<|wm S rk c g L x3 x4).bind _=_;rw[t];rfl
def Zf(S:List (List Nat))(c:Nat)(rk:List Nat)(g:Bool):Prop:=∃L Y,Ue S c L/\ve S c Y/\pB Y L/\Cb rk L=g/\Cb rk Y=!g
def Ą(M:Oa S rk c)(g:Bool):(gB [mD S rk c,.bl g]=.ok .lc/\¬ Zf S c rk g)\/((∃ds,gB [mD S rk c,.bl g]=.ok (.tup ds))/\Zf S c rk g):=by
 have it:Yc (aO cT<|aC (aA 0)<|aC (aO iD<|aC (aA 0)<|aC (eI 0) aP)<|aC (aA 1) aP) (wm S rk c g none none none)=.ok (ba<|pA S c rk (Af S c) g):=pI<|aJ (aN rfl<|aN (aJ rfl<|GL M)<|aN rfl rfl)<|Aw M pX;have up:(∃L∈pA S c rk (Af S c) g,∃Y,Mg S c rk (Cb rk L) L Y)↔Zf S c rk g:=by
  constructor
  .rintro⟨L,hL,Y,hY⟩;obtain⟨l1,l2⟩:=pK M hL;obtain⟨i1,i2,_,_,i5⟩:=gK M hY l1.1.1 l1.2.1;refine⟨L,Y,l1,i1,λg hg=>(mO.mp<|i2 g hg).1,l2,?_⟩
   rw[l2]at i5;cases h:Cb rk Y<;>cases g<;>first|rfl|(rw[h]at i5;exact(i5 rfl).elim)
  .rintro⟨L,Y,l1,y1,sY,l2,y2⟩;obtain⟨L',xi,sL⟩:=kA (rk:=rk) M l1;rw[l2]at xi;obtain⟨m1,m2⟩:=pK M xi;refine⟨L',xi,?_⟩;rcases fA M (Mf L') L' (Zc _) m1.1.1 m1.2.1 rfl y1 (λg hg=>sL g<|sY g hg) with ⟨Z,hZ,_⟩|⟨e,_⟩
   .exact⟨Z,hZ⟩
   .rw[m2,y2]at e;cases g<;>cases e
 rcases KR M (g:=g) (pA S c rk (Af S c) g) none none none (λL hL=>(pK M hL).1) with ⟨⟨y2,y3,y4,e⟩,Dg⟩|⟨⟨ds,e⟩,hex⟩
 .exact .inl ⟨bA rfl<|aH (dR it e)<|bO rfl,λz=>by
   obtain⟨L,hL,Y,h⟩:=up.mpr z;exact Dg L hL Y h⟩
 .exact .inr ⟨⟨ds,bA rfl<|vH<|dR it e⟩,up.mp hex⟩
end
def BI{p:Prop}{r:R α}(h:¬ p):aW p r=.bad:=gb h
def wO{st:ua} (h:f st=.ok d):gP f g st=.ok d:=by unfold gP;rw[h]
def cF{st:ua}{r:R D}(h:f st=.bad)(hg:g st=r):gP f g st=r:=by unfold gP;rw[h];exact hg
def Ow{m:String} {r:ue} {st:ua} (h:f st=.ok (.ins c [] [])) (hr:r st=.ok xs) (hp:p (.ins c [] [] :: xs)=.ok d):dJ c m p [] f r st=.ok d:=by
 rw[GA,h,hr];show aW _ (p<|.ins c [] [] :: (xs++[]))=_;rw[uh,hp];exact aF ⟨rfl,HE⟩
def rN{m:String} {r:ue} {st:ua} (h:f st=.ok (.ins c' [] [])) (hr:r st=.ok xs) (hn:c'≠c):dJ c m p [] f r st=.bad:=by
 rw[GA,h,hr];exact BI λz=>hn z.1
theorem qA{α:Type}{tg:Tg}{C E:Ex}{st:ua}{F G:α->D}{q:α->Bool}:∀(ks:List α),(∀k∈ks,∃s1,tg (F k) st=.ok s1/\C s1=.ok (.bl<|q k)/\(q k=true->E s1=.ok (G k)))->iR tg C E st (ks.map F)=.ok ((ks.filter q).map G)
 |[],_=>rfl
 |k::ks,h=>by
  obtain⟨s1,a1,a2,a3⟩:=h k Jb;have ih:=qA ks λk hk=>h k<|Qb _ hk
  rw[Vd,lX,a1,aR,a2,aR,oW];cases hq:q k with
  |true=>rw[Ll hq,Vd,kb rfl,a3 hq,aR,ih];rfl
  |false=>rw[Ml (by rw[hq];decide),gb Cg,ih]
def kindS:List String:=["EarlyNo","EarlyYes","Settled","Again","Lasting"]
def fX(k:Nat):D:=.ins (kindS.getD k "Lasting") [] []
def NO{m:String}{p0 p1 p2 p3 p4:List D->R D} {r:ue} {st:ua} {k:Nat} (hk:k<5) (h:f st=.ok (fX k)) (hr:r st=.ok xs) (hp:([p0,p1,p2,p3,p4].getD k p0) (fX k::xs)=.ok d):gP (dJ "EarlyNo" m p0 [] f r) (gP (dJ "EarlyYes" m p1 [] f r)<|gP (dJ "Settled" m p2 [] f r)<|gP (dJ "Again" m p3 [] f r)<|dJ "Lasting" m p4 [] f r) st=.ok d:=by
 have:k=0\/k=1\/k=2\/k=3\/k=4:=by omega
 rcases this with rfl|rfl|rfl|rfl|rfl
 .exact wO (Ow h hr hp)
 .exact cF (rN h hr<|by decide) (wO<|Ow h hr hp)
 .exact cF (rN h hr<|by decide) (cF (rN h hr<|by decide)<|wO<|Ow h hr hp)
 .exact cF (rN h hr<|by decide) (cF (rN h hr<|by decide)<|cF (rN h hr<|by decide)<|wO<|Ow h hr hp)
 .exact cF (rN h hr<|by decide) (cF (rN h hr<|by decide)<|cF (rN h hr<|by decide)<|cF (rN h hr<|by decide)<|Ow h hr hp)
def ŕ{k:Nat}(hk:k<5):wI [.int k]=.ok (fX k):=by
 have t:∀j:Nat,e2 Qc (aA 0) (eC<|.int j) [k]=.ok (.bl<|decide ((k:Int)=(j:Int))):=λj=>aK rfl rfl<|vI _ _
 have:k=0\/k=1\/k=2\/k=3\/k=4:=by omega
 rcases this with rfl|rfl|rfl|rfl|rfl
 .exact bA rfl (vH<|tM (t 0)<|bO rfl)
 .exact bA rfl (aH (iK (t 0) rfl)<|vH<|tM (t 1)<|bO rfl)
 .exact bA rfl (aH (iK (t 0) rfl)<|aH (iK (t 1) rfl)<|vH<|tM (t 2)<|bO rfl)
 .exact bA rfl (aH (iK (t 0) rfl)<|aH (iK (t 1) rfl)<|aH (iK (t 2) rfl)<|vH<|tM (t 3)<|bO rfl)
 .exact bA rfl (aH (iK (t 0) rfl)<|aH (iK (t 1) rfl)<|aH (iK (t 2) rfl)<|aH (iK (t 3) rfl)<|bO rfl)
def N0{c:Ex}{st:ua}{r:R D}(h:c st=.ok (.bl true))(hf:f st=r):Gq c f g st=r:=by rw[WY,h];exact hf
def O0{c:Ex}{st:ua}{r:R D}(h:c st=.ok (.bl false))(hg:g st=r):Gq c f g st=r:=by rw[WY,h];exact hg
section
variable {c:Nat}
open Classical in
noncomputable def qN(S:List (List Nat))(c:Nat)(rk:List Nat):Nat->Bool
 |0=>!decide (fm S c rk true)
 |1=>!decide (fm S c rk false)
 |2=>!decide (Zf S c rk false) && !decide (Zf S c rk true)
 |3=>!decide (Zf S c rk false)
 |_=>!decide (Zf S c rk true)
open Classical in
def bRm(M:Oa S rk c){k:Nat}(hk:k<5):∃d,([iG,iV,jH,mG,jJ].getD k iG) [fX k,mD S rk c]=.ok d/\jk d=qN S c rk k:=by
 have O4:∀g,∃d,kW [mD S rk c,.bl g]=.ok d/\jk d=!decide (fm S c rk g):=λg=>by
  rcases ă M g with ⟨e,h⟩|⟨⟨ds,e⟩,h⟩
  .exact⟨_,e,by rw[fe h];rfl⟩
  .exact⟨_,e,by rw[Uc h];rfl⟩
 have wit:∀g,∃d,gB [mD S rk c,.bl g]=.ok d/\jk d=!decide (Zf S c rk g):=λg=>by
  rcases Ą M g with ⟨e,h⟩|⟨⟨ds,e⟩,h⟩
  .exact⟨_,e,by rw[fe h];rfl⟩
  .exact⟨_,e,by rw[Uc h];rfl⟩
 have:k=0\/k=1\/k=2\/k=3\/k=4:=by omega
 rcases this with rfl|rfl|rfl|rfl|rfl
 .obtain⟨d,e,hn⟩:=O4 true;exact⟨d,(bA rfl (bO<|aJ rfl e):iG [fX 0,mD S rk c]=.ok d),hn⟩
 .obtain⟨d,e,hn⟩:=O4 false;exact⟨d,(bA rfl (bO<|aJ rfl e):iV [fX 1,mD S rk c]=.ok d),hn⟩
 .obtain⟨d,e,hn⟩:=wit false;obtain⟨d',e',ON⟩:=wit true;have t:e2 Vp (aA 2) (eC .lc) [fX 2,mD S rk c,d]=.ok (.bl<|!jk d):=aK rfl rfl (by cases d<;>rfl)
  have g:∀z,Gq (e2 Vp (aA 2)<|eC .lc) (aA 2) (aO gB<|aC (aA 1)<|aC (eC<|.bl true) aP) [fX 2,mD S rk c,d]=.ok z->jH [fX 2,mD S rk c]=.ok z:=λz h=>bA rfl<|aH (bB<|aJ rfl e)<|bO h
  cases hz:jk d<;>rw[hz]at t
  .exact⟨d,g d<|N0 t rfl,by show _=(!decide (Zf S c rk false) && !decide (Zf S c rk true));rw[<-hn,hz];rfl⟩
  .exact⟨d',g d'<|O0 t<|aJ rfl e',by show _=(!decide (Zf S c rk false) && !decide (Zf S c rk true));rw[<-hn,hz,ON];rfl⟩
 .obtain⟨d,e,hn⟩:=wit false;exact⟨d,(bA rfl (bO<|aJ rfl e):mG [fX 3,mD S rk c]=.ok d),hn⟩
 .obtain⟨d,e,hn⟩:=wit true;exact⟨d,(bA rfl (bO<|aJ rfl e):jJ [fX 4,mD S rk c]=.ok d),hn⟩
end
section
variable {c:Nat}
def wQ(M:Oa S rk c){Ho:Nat->Bool}(h':∀g,g<S.length->Ho g=true){s g:Nat}(hs:s<S.length)(h:Wc S c al s g):Wc S c Ho s g:=by
 induction h with
 |here=>exact .here
 |on h hl _ ih=>
  obtain⟨_,_,_,hlt⟩:=Kw M (Xp M hs h) hl;exact .on ih hl<|h' _ hlt
def sx(M:Oa S rk c):∀g,g<S.length->ug 255 g=true:=λg hg=>by
 have n8:=M.most;have:g=0\/g=1\/g=2\/g=3\/g=4\/g=5\/g=6\/g=7:=by omega
 rcases this with rfl|rfl|rfl|rfl|rfl|rfl|rfl|rfl<;>rfl
def Ŗ(M:Oa S rk c):Px S c=Af S c:=Ik λg=>by
 have n1:=M.one;have h1:=(iu M (m:=1)<|Nat.one_lt_two_pow<|by omega).2 g
 have h2:=Ft M g;have:yk S c 255 1 g↔Wc S c (λg=>decide (g∈List.range S.length)) 0 g:=by
  constructor
  .rintro⟨s,s1,_,hr⟩;have e:s=0:=by
    refine Am λz=>?_
    have:(1:Nat).testBit s=false:=by
     obtain⟨k,rfl⟩:∃k,s=k+1:=⟨s-1,by omega⟩
     rw[Nat.testBit_succ];simp
    rw[this]at s1;cases s1
   rw[e]at hr;exact wQ M (λg hg=>Uc<|Se.mpr hg) (by omega) hr
  .exact λh=>⟨0,rfl,rfl,wQ M (sx M) (by omega) h⟩
 cases hz:(Af S c).testBit g with
 |true=>exact h1.mpr<|this.mpr<|h2.mp hz
 |false=>
  cases ha:(Px S c).testBit g with
  |false=>rfl
  |true=>
   have:=h2.mpr<|this.mp<|h1.mp ha;rw[hz]at this;cases this
def wR(M:Oa S rk c):m∈uf S c↔Ue S c m:=by
 unfold uf;rw[CJ,Ŗ M];constructor
 .rintro⟨h1,h2⟩;refine⟨h1,?_,h2⟩;rw[<-gJ m];exact oN λr hr=>bC pX<|h2 r hr
 .exact λh=>⟨h.1,h.2.2⟩
def JX(M:Oa S rk c):m∈Bv S c rk↔Ue S c m/\Cb rk m=true:=by unfold Bv;rw[Be,wR M]
def LX(M:Oa S rk c):m∈sy S c rk↔Ue S c m/\Cb rk m=false:=by unfold sy;rw[Be,wR M,Jn]
def xQ(M:Oa S rk c){k:Nat->Nat->Bool}:Yl S c rk k=true↔∀G B,Ue S c G->Ue S c B->Cb rk G=true->Cb rk B=false->k G B=true:=by
 unfold Yl;rw[Ru];constructor
 .intro h G B hG hB g1 b1;exact Ru.mp (h G<|(JX M).mpr ⟨hG,g1⟩) B<|(LX M).mpr ⟨hB,b1⟩
 .intro h G hG;rw[Ru];intro B hB;obtain⟨g1,g2⟩:=(JX M).mp hG;obtain⟨b1,b2⟩:=(LX M).mp hB;exact h G B g1 b1 g2 b2
def mS(M:Oa S rk c) {a b:Nat} (ha:a∈aQ (Af S c)) (h:Wc S c al a b):Wc S c (ug<|Af S c) a b:=by
 have hlt:=bC pX ha;have key:∀b,Wc S c al a b->Wc S c (ug<|Af S c) a b/\(Af S c).testBit b=true:=λb h=>by
  induction h with
  |here=>exact⟨.here,aG.mp ha⟩
  |on h hl Aj ih=>
   rename_i r l;have hr:=Xp M hlt h;obtain⟨_,_,_,h4⟩:=Kw M hr hl;have hs:(Af S c).testBit (Me S r l)=true:=(Ft M _).mpr<|.on ((Ft M r).mp ih.2) hl<|Uc<|Se.mpr h4;exact⟨.on ih.1 hl hs,hs⟩
 exact(key b h).1
def wU(M:Oa S rk c){B:Nat}(hG:Ue S c G)(hB:Ue S c B):toN (Bf S c) G B=true↔vj S c G B:=by
 have hb:=(iu M hG.2.1).2;unfold toN;rw[Jg];constructor
 .intro h;have h0:Bf S c G&&&B≠0:=by omega
  obtain⟨g,hg⟩:=rq _<|rM h0;have:=aG.mp hg;rw[Ol,wj]at this;obtain⟨s,s1,_,s3⟩:=(hb g).mp this.1;exact⟨s,aG.mpr s1,g,aG.mpr this.2,mS M (hG.2.2 s<|aG.mpr s1) s3⟩
 .rintro⟨a,ha,b,Mh,h⟩;have hlt:=bC hG.2.1 ha;have h1:(Bf S c G).testBit b=true:=(hb b).mpr ⟨a,aG.mp ha,sx M a hlt,wQ M (sx M) hlt h⟩;have h2:Bf S c G&&&B≠0:=λz=>by
   have:(Bf S c G&&&B).testBit b=true:=by rw[Ol,h1,aG.mp Mh];rfl
   rw[z]at this;simp at this
  omega
open Classical in
def bPj(M:Oa S rk c):Yl S c rk (To<|Bf S c)=qN S c rk 0:=by
 show _=!decide (fm S c rk true)
 by_cases h:fm S c rk true
 .rw[Uc h];obtain⟨L,G,hL,hG,l1,g1,hl⟩:=h;refine Gn.mpr λz=>?_
  have:=(xQ M).mp z G L hG hL g1 l1;unfold To at this;rw[(wU M hL hG).mpr hl]at this;cases this
 .rw[fe h];refine(xQ M).mpr λG B hG hB g1 b1=>?_
  unfold To;rw[Jn];exact Gn.mpr λz=>h ⟨B,G,hB,hG,b1,g1,(wU M hB hG).mp z⟩
open Classical in
def bPk(M:Oa S rk c):Yl S c rk (Uo<|Bf S c)=qN S c rk 1:=by
 show _=!decide (fm S c rk false)
 by_cases h:fm S c rk false
 .rw[Uc h];obtain⟨L,G,hL,hG,l1,g1,hl⟩:=h;refine Gn.mpr λz=>?_
  have:=(xQ M).mp z L G hL hG l1 g1;unfold Uo at this;rw[(wU M hL hG).mpr hl]at this;cases this
 .rw[fe h];refine(xQ M).mpr λG B hG hB g1 b1=>?_
  unfold Uo;rw[Jn];exact Gn.mpr λz=>h ⟨G,B,hG,hB,g1,b1,(wU M hG hB).mp z⟩
def wx(M:Oa S rk c){L Y:Nat}(hL:Ue S c L)(hY:ve S c Y)(hs:pB Y L):Ue S c Y:=by
 refine⟨hY,?_,λg hg=>hL.2.2 g<|hs g hg⟩
 rw[<-gJ Y];exact oN λr hr=>bC hL.2.1<|hs r hr
open Classical in
def bPl(M:Oa S rk c):Yl S c rk Wo=qN S c rk 3:=by
 show _=!decide (Zf S c rk false)
 by_cases h:Zf S c rk false
 .rw[Uc h];obtain⟨L,Y,hL,hY,hs,l1,y1⟩:=h;refine Gn.mpr λz=>?_
  have:=(xQ M).mp z Y L (wx M hL hY hs) hL y1 l1;unfold Wo at this;rw[Uc<|Dt.mpr hs]at this;cases this
 .rw[fe h];refine(xQ M).mpr λG B hG hB g1 b1=>?_
  unfold Wo;rw[Jn];exact fe λz=>h ⟨B,G,hB,hG.1,Dt.mp z,b1,g1⟩
open Classical in
def bPm(M:Oa S rk c):Yl S c rk Dq=qN S c rk 4:=by
 show _=!decide (Zf S c rk true)
 by_cases h:Zf S c rk true
 .rw[Uc h];obtain⟨L,Y,hL,hY,hs,l1,y1⟩:=h;refine Gn.mpr λz=>?_
  have:=(xQ M).mp z L Y hL (wx M hL hY hs) l1 y1;unfold Dq at this;rw[Nat.and_comm,Uc<|Dt.mpr hs]at this;cases this
 .rw[fe h];refine(xQ M).mpr λG B hG hB g1 b1=>?_
  unfold Dq;rw[Jn];exact fe λz=>h ⟨G,B,hG,hB.1,Dt.mp (by rw[Nat.and_comm];exact z),g1,b1⟩
def MX(M:Oa S rk c){B:Nat}(hG:Ue S c G)(hB:Ue S c B)(h1:vj S c G B)(h2:vj S c B G):∃X,Ue S c X/\pB G X/\pB B X:=by
 obtain⟨X,hX,sX⟩:=hJ M pX hG.1 hG.2.2;obtain⟨f1,f2,f3⟩:=dZ M pX hX;obtain⟨r0,VN,e0,_⟩:=lK.mp hX;obtain⟨g,hg⟩:=rq _<|rM hG.1.1;have M5:=bC pX VN;refine⟨X,⟨f1,f3,f2⟩,sX,λb hb=>?_⟩
 have m1:Rh S c (Af S c) r0 g:=(kZ M M5).mp (by rw[e0];exact aG.mp<|sX g hg)
 have m2:Rh S c (Af S c) g b:=⟨(FJ M hG.1 hG.2.2 hB.1 hB.2.2 hg hb).mp h1,(FJ M hB.1 hB.2.2 hG.1 hG.2.2 hb hg).mp h2⟩;have:=(kZ M M5).mpr<|m1.trans m2;rw[e0]at this;exact aG.mpr this
open Classical in
def bPn(M:Oa S rk c):Yl S c rk (Vo<|Bf S c)=qN S c rk 2:=by
 show _=(!decide (Zf S c rk false) && !decide (Zf S c rk true));have self:∀{L Y:Nat},Ue S c L->ve S c Y->pB Y L->vj S c Y L/\vj S c L Y:=λ{L Y} hL hY hs=>by
  obtain⟨g,hg⟩:=rq _<|rM hY.1;exact⟨⟨g,hg,g,hs g hg,.here⟩,⟨g,hs g hg,g,hg,.here⟩⟩
 by_cases h:Zf S c rk false\/Zf S c rk true
 .have:(!decide (Zf S c rk false) && !decide (Zf S c rk true))=false:=by
   rcases h with h|h
   .rw[Uc h];rfl
   .rw[Uc h,Bool.and_comm];rfl
  rw[this];refine Gn.mpr λz=>?_
  have bad:∀G B,Ue S c G->Ue S c B->Cb rk G=true->Cb rk B=false->vj S c G B->vj S c B G->False:=λG B hG hB g1 b1 l1 l2=>by
   have:=(xQ M).mp z G B hG hB g1 b1;unfold Vo at this;rw[(wU M hG hB).mpr l1,(wU M hB hG).mpr l2]at this;cases this
  rcases h with ⟨L,Y,hL,hY,hs,l1,y1⟩|⟨L,Y,hL,hY,hs,l1,y1⟩
  .obtain⟨a,b⟩:=self hL hY hs;exact bad Y L (wx M hL hY hs) hL y1 l1 a b
  .obtain⟨a,b⟩:=self hL hY hs;exact bad L Y hL (wx M hL hY hs) l1 y1 b a
 .rw[fe λz=>h<|.inl z,fe λz=>h<|.inr z]
  refine(xQ M).mpr λG B hG hB g1 b1=>?_
  unfold Vo;rw[Jn];refine Gn.mpr λz=>?_
  rw[wj,wU M hG hB,wU M hB hG]at z;obtain⟨X,hX,sG,sB⟩:=MX M hG hB z.1 z.2;cases hx:Cb rk X
  .exact h (.inl ⟨X,G,hX,hG.1,sG,hx,g1⟩)
  .exact h (.inr ⟨X,B,hX,hB.1,sB,hx,b1⟩)
def bM6(M:Oa S rk c):Oa S (rk.map (· + 1)) c:=⟨M.one,M.most,M.c1,M.c3,M.row,by rw[Yd];exact M.Wl⟩
end
section
variable{S:List (List Nat)}{rk:List Nat}{c n base:Nat}
open Classical in
noncomputable def xm(S:List (List Nat))(rk:List Nat)(c X:Nat):List Nat:=if h:∃F,iH [mD S rk c,.int X]=.ok (.lst<|ba F)/\F.length<=100/\∀Y,Y∈F↔Mg S c rk (Cb rk X) X Y then h.choose else []
def NX(M:Oa S rk c)(hn:n<2^S.length)(h0:n≠0):iH [mD S rk c,.int n]=.ok (.lst<|ba<|xm S rk c n)/\(xm S rk c n).length<=100/\∀Y,Y∈xm S rk c n↔Mg S c rk (Cb rk n) n Y:=by
 have h:=RU M hn h0;unfold xm;rw[dif_pos h];exact h.choose_spec
def wV(M:Oa S rk c):Zn S c rk (xm S rk c):=λX h0 hX Y=>(NX M hX h0).2.2 Y
noncomputable def GD(S:List (List Nat))(c:Nat):Nat:=gH S c (cH<|List.range S.length) 0
def Ht:GD S c<2^S.length:=yS
noncomputable def Dk(S:List (List Nat))(c:Nat):List Nat:=dF S c<|GD S c
def ŗ(M:Oa S rk c):rJ [mD S rk c]=.ok (.lst<|ba<|Dk S c):=
 bA rfl (bO<|aJ (aN rfl<|aN (aJ (ds:=[mD S rk c,.int (0:Nat)]) rfl<|LU M (by have:=M.one;omega)) rfl)<|NA M Ht)
end
section
variable{S:List (List Nat)}{rk:List Nat}{c n base:Nat}
abbrev dW(W:Nat->Nat)(l:List Nat):List D:=l.map λg=>D.int (W g:Nat)
def KZ{W:Nat->Nat} {g:Nat} (nd:l.Nodup):∃l',sO (ba l) (.int g)=ba l'/\wC (ba l) (dW W l) (.int g) (.int (W g:Nat))=dW W l'/\l'.Nodup/\l'.length<=l.length+1/\∀x,x∈l'↔x∈l\/x=g:=by
 by_cases h:g∈l
 .obtain⟨e1,e2⟩:=ZW (V:=W) (x:=W g) h;refine⟨l,e1,e2.trans<|Fn λk _=>?_,nd,by omega,λx=>⟨.inl,λz=>z.elim id λz=>z ▸ h⟩⟩
  by_cases hk:k=g
  .rw[kb hk,hk]
  .rw[gb hk]
 .obtain⟨e1,e2⟩:=XI (V:=W) (x:=.int (W g:Nat)) h;refine⟨l++[g],e1,e2.trans (by simp),Lo.mpr ⟨nd,Pj.mpr ⟨HE,jv⟩,λa ha b hb e=>?_⟩,by simp,λx=>by simp⟩
  rw[Ce.mp hb]at e;exact h<|e ▸ ha
end
section
variable{S:List (List Nat)}{rk:List Nat}{c n base:Nat}
noncomputable abbrev yh(S:List (List Nat))(rk:List Nat)(c base k X g:Nat):Nat:=qk rk (xm S rk c) base k X g
noncomputable abbrev Vn(S:List (List Nat))(rk:List Nat)(c base k X:Nat):Nat:=bi rk (xm S rk c) base k X
def bM7(M:Oa S rk c){k X:Nat}(hk:Mf X<=k)(hX:X<2^S.length)(hl:ve S c X):∃r∈aQ X,yh S rk c base k X r=Vn S rk c base k X:=by
 have h1:=vM hl.1;obtain⟨k,rfl⟩:∃j,k=j+1:=⟨k-1,by omega⟩
 rcases fA M (k+1) X hk hl.1 hX rfl hl (λ_ h=>h) with ⟨Y,hY,hs⟩|⟨_,r,hr,hn⟩
 .obtain⟨_,_,_,i4,_⟩:=gK M hY hl.1 hX;have:=(dD X).length_le_of_subset (l₂:=aQ Y) hs;unfold Mf at i4;omega
 .exact⟨r,hr,zC (wV M) hl.1 hX hn⟩
theorem LZ{W:Nat->Nat}:∀(m l:List Nat),l.Nodup->∃l',Il (ba l) (dW W l) (ba m) (dW W m)=(ba l',dW W l')/\l'.Nodup/\∀x,x∈l'↔x∈l\/x∈m
 |[],l,nd=>⟨l,by cases h:ba l<;>rfl,nd,λx=>by simp⟩
 |g::m,l,nd=>by
  obtain⟨l1,e1,e2,n1,_,i1⟩:=KZ (W:=W) (g:=g) nd;obtain⟨l2,e3,n2,i2⟩:=LZ m l1 n1;refine⟨l2,?_,n2,λx=>?_⟩
  .show Il (sO (ba l)<|.int g) (wC (ba l) (dW W l) (.int g)<|.int (W g:Nat)) (ba m) (dW W m)=_;rw[e1,e2,e3]
  .rw[i2,i1,Kc];constructor
   .rintro((h|h)|h)
    .exact .inl h
    .exact .inr (.inl h)
    .exact .inr (.inr h)
   .rintro(h|h|h)
    .exact .inl (.inl h)
    .exact .inl (.inr h)
    .exact .inr h
def MZ{W:Nat->Nat} {st:ua} {m:List Nat} (hf:f st=.ok (.Ve false (ba m)<|dW W m)) (hs:st[i]?=some (some<|.o (.d false<|ba l)<|dW W l)) (nd:l.Nodup) (h1:l.length<=1000) (h2:m.length<=1000):∃l',Nx i f st=.ok (.nx<|st.set i<|some<|.o (.d false<|ba l')<|dW W l')/\l'.Nodup/\∀x,x∈l'↔x∈l\/x∈m:=by
 obtain⟨l',e,n',i'⟩:=LZ (W:=W) m l nd;refine⟨l',?_,n',i'⟩;unfold Nx;rw[hf,aR];dsimp only;rw[hs];dsimp only;rw[aF ⟨by rw[aZ,Yd],gO<|by rw[Yd,Yd];omega⟩,e]
def bHr{W:Nat->Nat} {st:ua} {v:Nat} (hg:g st=.ok (.int r)) (hf:f st=.ok (.int v)) (hs:st[i]?=some (some<|.o (.d false<|ba l)<|dW W l)) (nd:l.Nodup) (hl:l.length<1000) (hv:r∉l->W r=v):∃l',VC i g f st=.ok (.nx<|st.set i<|some<|.o (.d false<|ba l')<|dW W l')/\l'.Nodup/\∀x,x∈l'↔x∈l\/x=r:=by
 have iO:st.set i (some<|.o (.d false<|ba l)<|dW W l)=st:=by
  have hi:=(Og.mp hs).1;refine DM λj=>?_
  rw[eh]
  by_cases e:i=j
  .subst e;rw[kb rfl,kb hi,hs]
  .rw[gb e]
 unfold VC;rw[hg,aR,hf,aR,hs];dsimp only;rw[aF ⟨rfl,Fw<|by rw[Yd];omega⟩,LA]
 by_cases h:r∈l
 .exact⟨l,by rw[Uc h,kb rfl,iO],nd,λx=>⟨.inl,λz=>z.elim id λz=>z ▸ h⟩⟩
 .obtain⟨l',e1,e2,n',_,i'⟩:=KZ (W:=W) (g:=r) nd;refine⟨l',?_,n',i'⟩;rw[fe h,gb Cg,e1,<-hv h,e2]
def Ř(base:Nat)(b:Bool):uK [.int base,.bl b]=.ok (.int<|qY base b):=by
 have t:(e2 Qc (e2 Qc (e2 pL (aA 0)<|eI 2)<|eI 0)<|aA 1) [base,D.bl b]=.ok (.bl<|decide (base%2=0)==b):=by
  refine aK (aK (aK rfl rfl<|xP<|by omega) rfl<|vI _ _) rfl<|(FX _ _).trans ?_
  have:decide (((base:Nat):Int)%2=0)=decide (base%2=0):=Ir.mpr (by omega)
  rw[this]
 refine bA rfl<|bO ?_;show (e2 Qc (e2 Qc (e2 pL (aA 0)<|eI 2)<|eI 0) (aA 1) [base,D.bl b]).bind _=_;rw[t,aR,oW];unfold qY;cases h:decide (base%2=0)==b
 .rw[gb Cg,gb Cg];exact aK rfl rfl (by show R.ok (D.int<|(base:Int)+1)=_;push_cast;rfl)
 .rw[kb rfl,kb rfl];rfl
abbrev qo(S:List (List Nat))(rk:List Nat)(c X base:Nat)(W:Nat->Nat)(l:List Nat)(r:Nat)(x5 x6 x7:Option Sl):ua:=[some<|.v<|mD S rk c,some<|.v<|.int X,some<|.v<|.int base,some<|.o (.d false<|ba l)<|dW W l,some<|.v<|.int r,x5,x6,x7]
def Gives(S:List (List Nat))(rk:List Nat)(c base k X:Nat)(p:List D->R D):Prop:=∃l,p [mD S rk c,.int X,.int base]=.ok (.Ve false (ba l)<|dW (yh S rk c base k X) l)/\l.Nodup/\∀g,g∈l↔g∈aQ X
def bHs(M:Oa S rk c){k Y:Nat}(hk:Mf Y<=k)(hY:Y<2^S.length)(hl:ve S c Y) (hm:∀g,g∈l↔g∈aQ Y):WC (.Ve false (ba l)<|dW (yh S rk c base k Y) l)=.ok (.int<|Vn S rk c base k Y):=by
 obtain⟨r,hr,er⟩:=bM7 (base:=base) M hk hY hl;have hz:=vM hl.1;show (yF<|dW (yh S rk c base k Y) l).bind _=_;have e:dW (yh S rk c base k Y) l=(l.map λg=>((yh S rk c base k Y g:Nat):Int)).map D.int:=by simp
 have hin:=(hm r).mpr hr;rw[e,uT,aR,aF (by rw[Yd];exact S3 hin)]
 congr 2;refine uw (bg.mpr ⟨r,hin,by rw[er]⟩) λx hx=>?_
 obtain⟨g,_,rfl⟩:=bg.mp hx;exact Int.ofNat_le.mpr (qx (base:=base) M (wV M) k Y hk hl.1 hY g).2
theorem LR(M:Oa S rk c){k X:Nat}(hk:Mf X<=k+1)(h0:X≠0)(hX:X<2^S.length){rec:List D->R D}(Yy:∀Y,Mf Y<=k->ve S c Y->Y<2^S.length->Gives S rk c base k Y rec){x6:Option Sl}:∀(Ys l:List Nat)(r:Nat)(x5 x7:Option Sl),(∀Y∈Ys,Mg S c rk (Cb rk X) X Y)->l.Nodup->(∀g∈l,g∈aQ X)->
  ∃l' y5 y7,Nb (jb 5) (yL rec) (ba Ys) (qo S rk c X base (yh S rk c base (k+1) X) l r x5 x6 x7)=.ok (.nx<|qo S rk c X base (yh S rk c base (k+1) X) l' (dq (Vn S rk c base k) r Ys) y5 x6 y7)/\l'.Nodup/\(∀g∈l',g∈aQ X)/\∀g,g∈l'↔g∈l\/∃Y∈Ys,g∈aQ Y
 |[],l,r,x5,x7,_,nd,hs=>⟨l,x5,x7,rfl,nd,hs,λg=>⟨.inl,λz=>z.elim id λ⟨_,h,_⟩=>nomatch h⟩⟩
 |Y::Ys,l,r,x5,x7,h,nd,hs=>by
  have hY:=h Y Jb;obtain⟨i1,i2,i3,i4,_⟩:=gK M hY h0 hX;obtain⟨m,e1,n1,m1⟩:=Yy Y (by omega) i1 i3
  have eW:dW (yh S rk c base k Y) m=dW (yh S rk c base (k+1) X) m:=Fn λg hg=>by
   show D.int ((qk rk (xm S rk c) base k Y g:Nat):Int)=D.int ((qk rk (xm S rk c) base (k+1) X g:Nat):Int);rw[XC M (wV M) h0 hX hY<|(m1 g).mp hg]
  have hm8:m.length<=8:=bf (n1.length_le_of_subset λg hg=>(m1 g).mp hg)<|mq M i3
  have hl8:l.length<=8:=bf (nd.length_le_of_subset hs)<|mq M hX;have emax:=bHs (base:=base) M (k:=k) (by omega) i3 i1 m1
  obtain⟨l1,u1,n2,m2⟩:=MZ (W:=yh S rk c base (k+1) X) (i:=3) (f:=aA 7) (st:=qo S rk c X base (yh S rk c base (k+1) X) l (max r<|Vn S rk c base k Y+1) Y x6<|D.Ve false (ba m)<|dW (yh S rk c base k Y) m) (l:=l) (m:=m) (by rw[<-eW];rfl) rfl nd (by omega) (by omega)
  have hs1:∀g∈l1,g∈aQ X:=λg hg=>((m2 g).mp hg).elim (hs g) λz=>(mO.mp<|i2 g<|(m1 g).mp z).1
  obtain⟨l',y5,y7,Xf,n3,YN,m3⟩:=LR M hk h0 hX Yy (x6:=x6) Ys l1 (max r<|Vn S rk c base k Y+1) Y (D.Ve false (ba m)<|dW (yh S rk c base k Y) m) (λY hY=>h Y<|Qb _ hY) n2 hs1
  refine⟨l',y5,y7,dM (s1:=qo S rk c X base (yh S rk c base (k+1) X) l r Y x6 x7) rfl (aH (st':=qo S rk c X base (yh S rk c base (k+1) X) l r Y x6<|D.Ve false (ba m)<|dW (yh S rk c base k Y) m) (bB<|aJ rfl e1)<|aH (bB<|aK rfl (aK (x:=.int<|Vn S rk c base k Y) emax rfl rfl) rfl) ?_) Xf,n3,YN,λg=>?_⟩
  .refine qy ?_ u1;have:(if (((Vn S rk c base k Y:Nat):Int)+1)>(r:Int) then (((Vn S rk c base k Y:Nat):Int)+1) else (r:Int))=((max r (Vn S rk c base k Y+1):Nat):Int):=by
    split<;>omega
   rw[this];rfl
  .rw[m3 g,m2 g,m1 g];constructor
   .rintro((h|h)|⟨Z,hZ,h⟩)
    .exact .inl h
    .exact .inr ⟨Y,Jb,h⟩
    .exact .inr ⟨Z,Qb _ hZ,h⟩
   .rintro(h|⟨Z,hZ,h⟩)
    .exact .inl (.inl h)
    .rcases Kc.mp hZ with z|hZ
     .exact .inl (.inr<|z ▸ h)
     .exact .inr ⟨Z,hZ,h⟩
theorem oS{rec:List D->R D}{X:Nat}{W:Nat->Nat}{r:Nat}:∀(gs l:List Nat)(x6:Option Sl),l.Nodup->l.length+gs.length<=100->(∀g∈gs,g∉l->W g=r)->∃l' y6,Nb (jb 6) (yM rec) (ba gs) (qo S rk c X base W l r x5 x6 x7)=.ok (.nx<|qo S rk c X base W l' r x5 y6 x7)/\l'.Nodup/\∀g,g∈l'↔g∈l\/g∈gs
 |[],l,x6,nd,_,_=>⟨l,x6,rfl,nd,λg=>by simp⟩
 |g::gs,l,x6,nd,hl,h=>by
  rw[Te]at hl;obtain⟨l1,e1,n1,m1⟩:=bHr (W:=W) (i:=3) (g:=aA 6) (f:=aA 4) (st:=qo S rk c X base W l r x5 g x7) (r:=g) (v:=r) rfl rfl rfl nd (by omega)<|h g Jb
  have hl1:l1.length<=l.length+1:=by
   have:=n1.length_le_of_subset (l₂:=g::l) λx hx=>by
    rcases (m1 x).mp hx with z|z
    .exact Qb _ z
    .rw[z];exact Jb
   rw[Te]at this;exact this
  obtain⟨l',y6,Xf,n2,m2⟩:=oS (rec:=rec) (X:=X) (W:=W) (r:=r) (x5:=x5) (x7:=x7) gs l1 g n1 (by omega) λx hx hn=>h x (Qb _ hx) λz=>hn<|(m1 x).mpr<|.inl z
  refine⟨l',y6,dM rfl e1 Xf,n2,λx=>?_⟩
  rw[m2 x,m1 x,Kc];constructor
  .rintro((h|h)|h)
   .exact .inl h
   .exact .inr (.inl h)
   .exact .inr (.inr h)
  .rintro(h|h|h)
   .exact .inl (.inl h)
   .exact .inl (.inr h)
   .exact .inr h
theorem UU(M:Oa S rk c):∀(k X:Nat),Mf X<=k->ve S c X->X<2^S.length->Gives S rk c base k X (lD k)
 |0,X,hk,h0,_=>by have:=vM h0.1;omega
 |k+1,X,hk,hl,hX=>by
  have h8:=mq M hX;obtain⟨e0,_,i0⟩:=NX M hX hl.1;obtain⟨l1,y5,y7,e1,n1,s1,m1⟩:=LR (base:=base) M hk hl.1 hX (λY h1 h2 h3=>UU M k Y h1 h2 h3) (x6:=none) (xm S rk c X) [] (qY base<|Cb rk X) none none (λY hY=>(i0 Y).mp hY) jv (λ_ h=>nomatch h)
  have hl1:l1.length<=8:=bf (n1.length_le_of_subset s1) h8;obtain⟨l2,y6,Xf,n2,m2⟩:=oS (S:=S) (rk:=rk) (c:=c) (base:=base) (rec:=lD k) (X:=X) (W:=yh S rk c base (k+1) X) (r:=Vn S rk c base (k+1) X) (x5:=y5) (x7:=y7) (aQ X) l1 none n1 (by omega) λg hg hn=>zC (wV M) hl.1 hX λY hY hgY=>hn<|(m1 g).mpr<|.inr ⟨Y,(i0 Y).mpr hY,hgY⟩
  refine⟨l2,bA rfl ?_,n2,λg=>?_⟩
  .refine aH (st':=[mD S rk c,X,base,some<|.o (.d false []) [],none,none,none,none]) rfl ?_
   refine aH (st':=qo S rk c X base (yh S rk c base (k+1) X) [] (qY base<|Cb rk X) none none none) (bB<|aJ (aN rfl<|aN (BJ M hX hl.1 rfl rfl) rfl)<|Ř _ _) ?_
   refine aH (dR (pI<|aJ rfl e0) e1) ?_
   refine aH (dR (pI<|QU M hX rfl) Xf) ?_
   exact bO rfl
  .rw[m2 g,m1 g];constructor
   .rintro((h|⟨Y,hY,h⟩)|h)
    .exact nomatch h
    .exact(mO.mp<|(gK M ((i0 Y).mp hY) hl.1 hX).2.1 g h).1
    .exact h
   .exact .inr
noncomputable def aj(S:List (List Nat))(rk:List Nat)(c base g:Nat):Nat:=match (Dk S c).find? λX=>X.testBit g with
 |some X=>yh S rk c base 12 X g
 |none=>base
def EB(M:Oa S rk c){X g:Nat}(hX:X∈Dk S c)(hg:g∈aQ X):aj S rk c base g=yh S rk c base 12 X g:=by
 unfold aj;cases hf:(Dk S c).find? λX=>X.testBit g with
 |none=>exact(List.find?_eq_none.mp hf X hX<|aG.mp hg).elim
 |some Z=>
  have h1:=PM hf;rw[wN M Ht hX (KD hf) hg<|aG.mpr h1]
def RA{g:Nat}(h:∀X∈Dk S c,g∉aQ X):aj S rk c base g=base:=by
 unfold aj;cases hf:(Dk S c).find? λX=>X.testBit g with
 |none=>rfl
 |some Z=>exact(h Z (KD hf)<|aG.mpr<|by simpa using List.find?_some hf).elim
noncomputable abbrev xx(S:List (List Nat))(rk:List Nat)(c base:Nat)(l:List Nat)(x3:Option Sl):ua:=[some<|.v<|mD S rk c,some<|.v<|.int base,some<|.o (.d false<|ba l)<|dW (aj S rk c base) l,x3,none]
theorem pS(M:Oa S rk c):∀(Xs l:List Nat)(x3:Option Sl),(∀X∈Xs,X∈Dk S c)->l.Nodup->(∀g∈l,g<S.length)->∃l' y3,Nb (jb 3) LQ (ba Xs) (xx S rk c base l x3)=.ok (.nx<|xx S rk c base l' y3)/\l'.Nodup/\(∀g∈l',g<S.length)/\∀g,g∈l'↔g∈l\/∃X∈Xs,g∈aQ X
 |[],l,x3,_,nd,hs=>⟨l,x3,rfl,nd,hs,λg=>⟨.inl,λz=>z.elim id λ⟨_,h,_⟩=>nomatch h⟩⟩
 |X::Xs,l,x3,h,nd,hs=>by
  have hX:=h X Jb;obtain⟨f1,f2,f3⟩:=dZ M Ht hX;have n8:=M.most;have h8:Mf X<=12:=bf (mq M f3) (by omega)
  obtain⟨m,e1,n1,m1⟩:=UU (base:=base) M 12 X h8 f1 f3;have eW:dW (yh S rk c base 12 X) m=dW (aj S rk c base) m:=Fn λg hg=>by rw[EB M hX<|(m1 g).mp hg]
  have hm8:m.length<=8:=bf (n1.length_le_of_subset λg hg=>(m1 g).mp hg)<|mq M f3
  have hl8:l.length<=S.length:=mK _ _ nd hs;rw[eW]at e1;obtain⟨l1,u1,n2,m2⟩:=MZ (W:=aj S rk c base) (i:=2) (f:=aO pQ<|aC (aA 0)<|aC (aA 3)<|aC (aA 1) aP) (st:=xx S rk c base l X) (l:=l) (m:=m) (aJ rfl e1) rfl nd (by omega) (by omega)
  have hs1:∀g∈l1,g<S.length:=λg hg=>((m2 g).mp hg).elim (hs g) λz=>bC f3<|(m1 g).mp z
  obtain⟨l',y3,Xf,n3,s3,m3⟩:=pS M Xs l1 X (λX hX=>h X<|Qb _ hX) n2 hs1
  refine⟨l',y3,dM rfl u1 Xf,n3,s3,λg=>?_⟩
  rw[m3 g,m2 g,m1 g];constructor
  .rintro((h|h)|⟨Z,hZ,h⟩)
   .exact .inl h
   .exact .inr ⟨X,Jb,h⟩
   .exact .inr ⟨Z,Qb _ hZ,h⟩
  .rintro(h|⟨Z,hZ,h⟩)
   .exact .inl (.inl h)
   .rcases Kc.mp hZ with z|hZ
    .exact .inl (.inr<|z ▸ h)
    .exact .inr ⟨Z,hZ,h⟩
def ř{b:Bd} {st s:ua} (h:b st=.ok (.nx s)) (hf:f s=.ok (.lst xs)):sS b f st=.ok (.rt<|.lst xs):=by
 unfold sS;rw[h];dsimp only;rw[hf,aR]
noncomputable def vN(S:List (List Nat))(rk:List Nat)(c base:Nat):List Nat:=(List.range S.length).map<|aj S rk c base
def OX(M:Oa S rk c)(base:Nat):pR [mD S rk c,.int base]=.ok (.lst<|ba<|vN S rk c base):=by
 obtain⟨l,y3,e,nd,hs,m⟩:=pS (base:=base) M (Dk S c) [] none (λ_ h=>h) jv (λ_ h=>nomatch h)
 have n8:=M.most;refine bA rfl ?_
 refine ř (aH (st':=xx S rk c base [] none) rfl<|aH (dR (pI<|aJ rfl<|ŗ M) e) rfl) ?_
 refine eY (yO (n:=S.length) yR<|by omega) (by simp;omega) ?_
 have:=fM (tg:=jb 4) (C:=dB) (E:=vC) (st:=xx S rk c base l y3) (q:=λ_=>true) (G:=λg=>D.int (aj S rk c base g:Nat)) (List.range S.length) λg hg=>⟨_,rfl,rfl,by
  show aW (Nc false (.int g)=true) (if uF (ba l) (.int g)=true then Oh (ji (ba l) (dW (aj S rk c base) l)<|.int g) else .ok (.int base))=_
  rw[aF<|show Nc false (.int g)=true from rfl,LA]
  by_cases h:g∈l
  .rw[Uc h,kb rfl,vL (λg=>D.int (aj S rk c base g:Nat)) h]
   rfl
  .rw[fe h,gb Cg,RA λX hX hgX=>h<|(m g).mpr<|.inr ⟨X,hX,hgX⟩]⟩
 refine qy this ?_
 rw[Ku.mpr<|λ_ _=>rfl]
 unfold vN ba;rw[Jk];rfl
end
section
variable{S:List (List Nat)}{rk:List Nat}{c n base:Nat}
inductive Ch (S:List (List Nat)) (c:Nat) (rk:List Nat) (g:Bool):Nat->Nat->Prop
 |one {Z:Nat}:ve S c Z->Cb rk Z=g->Ch S c rk g Z 1
 |up {Y Z m:Nat}:Ch S c rk g Y m->ve S c Z->pB Y Z->Cb rk Y≠Cb rk Z->Ch S c rk g Z (m+1)
open Classical in
noncomputable def ju(S:List (List Nat))(c:Nat):List Nat:=(List.range<|2^S.length).filter λm=>decide (ve S c m/\pB m (GD S c))
open Classical in
def SA{m:Nat}:m∈ju S c↔m<2^S.length/\ve S c m/\pB m (GD S c):=by
 unfold ju;rw[Be,Se];exact⟨λh=>⟨h.1,cj h.2⟩,λh=>⟨h.1,Uc h.2⟩⟩
def VU(M:Oa S rk c){X:Nat}(h:X∈Dk S c):X∈ju S c:=by
 obtain⟨a,b,d⟩:=dZ M Ht h;exact SA.mpr ⟨d,a,b⟩
def Ś(M:Oa S rk c) (h:Z∈ju S c):∃X∈Dk S c,pB Z X:=by
 obtain⟨_,b,d⟩:=SA.mp h;exact hJ M Ht b d
def FK(M:Oa S rk c){X:Nat}(h:X∈Dk S c):Mf X<=12/\ve S c X/\X<2^S.length:=by
 obtain⟨a,_,d⟩:=dZ M Ht h;exact⟨bf (mq M d) (by omega),a,d⟩
def ą:(vN S rk c base).length=S.length:=by unfold vN;simp
def PX(M:Oa S rk c):Oa S (vN S rk c base) c:=⟨M.one,M.most,M.c1,M.c3,M.row,ą⟩
def WU(h:r<S.length):(vN S rk c base).getD r 0=aj S rk c base r:=by
 unfold vN;rw[oi,Hk,YL h];rfl
def bHt(M:Oa S rk c) (h:Z∈ju S c):lR (vN S rk c base) Z%2=lR rk Z%2:=by
 obtain⟨X,hX,hs⟩:=Ś M h;obtain⟨z1,z2,_⟩:=SA.mp h;obtain⟨x1,x2,x3⟩:=FK M hX;obtain⟨T,⟨g,hg,eg⟩,hle,Xy⟩:=FZ (base:=base) M (wV M) 12 X x1 x2.1 x3 z2 hs;have at':∀r∈aQ Z,((vN S rk c base).getD r 0:Int)=((qk rk (xm S rk c) base 12 X r:Nat):Int):=λr hr=>by
  rw[WU<|bC z1 hr,EB M hX<|hs r hr]
 have e:lR (vN S rk c base) Z=(T:Int):=by
  refine uw (bg.mpr ⟨g,hg,by rw[at' g hg,eg]⟩) λx hx=>?_
  obtain⟨r,hr,rfl⟩:=bg.mp hx;rw[at' r hr];exact Int.ofNat_le.mpr<|hle r hr
 rw[e];unfold Cb at Xy;rw[Jg]at Xy;omega
def bHu(M:Oa S rk c)(g:Nat):base<=aj S rk c base g:=by
 by_cases h:∃X∈Dk S c,g∈aQ X
 .obtain⟨X,hX,hg⟩:=h;obtain⟨x1,x2,x3⟩:=FK M hX;rw[EB M hX hg];exact(qx (base:=base) M (wV M) 12 X x1 x2.1 x3 g).1
 .rw[RA λX hX hg=>h ⟨X,hX,hg⟩]
  exact Zc _
end
def Ć(l:List Nat)(k:Nat):cH (l++[k])=cH l|||2^k:=by
 unfold cH Ts;rw[List.foldl_append];rfl
theorem UA(p:Nat->Bool):∀k,(((List.range k).filter p).map λr=>2^r).sum=cH ((List.range k).filter p)
 |0=>rfl
 |k+1=>by
  rw[List.range_succ,List.filter_append];have ih:=UA p k;have hlt:cH ((List.range k).filter p)<2^k:=oN λr hr=>Se.mp (Be.mp hr).1
  cases hp:p k with
  |true=>
   rw[Ll hp,ny,Ć,Qj,List.sum_append,ih,List.map_singleton,List.sum_singleton,Nat.or_comm];have:=Nat.two_pow_add_eq_or_of_lt hlt 1;rw[Nat.mul_one]at this;rw[<-this,Nat.add_comm]
  |false=>rw[Ml (by rw[hp];decide),ny,uh,ih]
section
variable{S:List (List Nat)}{rk:List Nat}{c n:Nat}
noncomputable def vO(S:List (List Nat))(c G:Nat):Nat->Bool:=λr=>decide (0<gH S c (cH<|List.range S.length) r&&&G)
def ś(M:Oa S rk c)(G:Nat):zQ [mD S rk c,.int G]=.ok (.int<|cH<|(List.range S.length).filter<|vO S c G):=by
 have n8:=M.most;refine bA rfl<|aH (bB<|kX M rfl)<|bO<|aJ (aN (d:=.lst<|ba<|(List.range S.length).filter<|vO S c G) (eY (xs:=ba<|List.range S.length) ?_ (by rw[aZ,Nl];omega) ?_) rfl)<|xt (l:=(List.range S.length).filter<|vO S c G) (λr hr=>by have:=Se.mp (Be.mp hr).1;omega) (by have:=tq (vO S c G)<|List.range S.length;rw[Nl]at this;omega)
 .exact yO (by show dY "Machine" "many" (mD S rk c)=_;exact yR) (by omega)
 .exact fM (q:=vO S c G) (G:=λr=>.int r) (List.range S.length) (λr hr=>⟨_,rfl,yQ (aK (aK (aK rfl rfl<|nX<|Se.mp hr) rfl<|rK _ _) rfl<|Rt _ _) (by
   unfold vO
   by_cases h:0<gH S c (cH<|List.range S.length) r&&&G
   .rw[Uc h,fe (by omega)];rfl
   .rw[fe h,Uc (by omega)];rfl),rfl⟩)
end
def GJ{a b:Nat}:0<a&&&b↔∃g,a.testBit g=true/\b.testBit g=true:=by
 constructor
 .intro h;obtain⟨g,hg⟩:=Nat.exists_testBit_of_ne_zero<|Nat.pos_iff_ne_zero.mp h;rw[Ol,wj]at hg;exact⟨g,hg⟩
 .rintro⟨g,h1,h2⟩;refine kM λz=>?_
  have:(a&&&b).testBit g=true:=by rw[Ol,h1,h2];rfl
  rw[z,xq]at this;cases this
section
variable{S:List (List Nat)}{rk:List Nat}{c n al:Nat}{q:Nat}{w:Bool}
def jn(L:List Nat)(b:Nat):Nat:=L.foldl (λb m=>b|||m) b
theorem Qw{g:Nat}:∀(L:List Nat)(b:Nat),g∈aQ (jn L b)↔g∈aQ b\/∃m∈L,g∈aQ m
 |[],b=>by
  constructor
  .exact .inl
  .rintro(z|⟨m,h,_⟩)
   .exact z
   .cases h
 |m::L,b=>by
  show g∈aQ (jn L<|b|||m)↔_
  rw[Qw L,aG,Qo,Zu,<-aG,<-aG];constructor
  .rintro((z|z)|⟨o,h1,h2⟩)
   .exact .inl z
   .exact .inr ⟨m,Jb,z⟩
   .exact .inr ⟨o,Qb _ h1,h2⟩
  .rintro(z|⟨o,h1,h2⟩)
   .exact .inl (.inl z)
   .rcases Kc.mp h1 with rfl|h1
    .exact .inl (.inr h2)
    .exact .inr ⟨o,h1,h2⟩
def P0(a b:Nat):Xj (.int a) (.int b)=.ok (.int ((a|||b:Nat):Int)):=by
 have:Xj (.int (a:Int)) (.int (b:Int))=.ok (.int (((a:Int).toNat|||(b:Int).toNat:Nat):Int)):=aF ⟨by omega,by omega⟩
 rw[this,dj,dj]
theorem QX(x0:Option Sl):∀(L:List Nat)(b:Nat)(x2:Option Sl),∃y2,Nb (jb 2) XR (ba L) [x0,b,x2]=.ok (.nx [x0,jn L b,y2])
 |[],b,x2=>⟨x2,rfl⟩
 |m::L,b,x2=>by
  obtain⟨y2,e⟩:=QX x0 L (b|||m) m
  exact⟨y2,dM rfl (bB<|aK rfl rfl<|P0 b m) e⟩
def Q0(L:List Nat):gw [.lst<|ba L]=.ok (.int<|jn L 0):=by
 obtain⟨y2,e⟩:=QX (D.lst<|ba L) L 0 none;exact bA rfl<|aH (bB rfl)<|aH (dR (pI rfl) e) rfl
def ϸ(p:Nat->Bool):∀k,cH ((List.range k).filter p)+cH ((List.range k).filter λr=>!p r)=cH (List.range k):=λk=>by
 have h1:=UA p k;have h2:=UA (λr=>!p r) k
 have h3:=UA (λ_=>true) k
 have e3:(List.range k).filter (λ_=>true)=List.range k:=Ku.mpr λ_ _=>rfl
 rw[e3]at h3;rw[<-h1,<-h2,<-h3];generalize List.range k=l
 induction l with
 |nil=>rfl
 |cons a l ih=>
  cases h:p a with
  |true=>rw[Ll h,Ml (by rw[h];decide),Vd,Vd,sum_cons,sum_cons];omega
  |false=>rw[Ml (by rw[h];decide),Ll (by rw[h];rfl),Vd,Vd,sum_cons,sum_cons];omega
def bHv(p:Nat->Bool)(k:Nat):Mx (.int (cH (List.range k):Nat)) (.int (cH ((List.range k).filter p):Nat))=.ok (.int (cH ((List.range k).filter λr=>!p r):Nat)):=by
 have e:Mx (.int (cH (List.range k):Nat)) (.int (cH ((List.range k).filter p):Nat))=.ok (.int<|(((cH (List.range k):Int).toNat|||(cH ((List.range k).filter p):Int).toNat:Nat):Int)-(((cH (List.range k):Int).toNat&&&(cH ((List.range k).filter p):Int).toNat:Nat):Int)):=aF ⟨by omega,by omega⟩
 have o1:cH (List.range k)|||cH ((List.range k).filter p)=cH (List.range k):=bLx.mpr λg hg=>qX.mpr (Be.mp<|qX.mp hg).1
 have o2:cH (List.range k)&&&cH ((List.range k).filter p)=cH ((List.range k).filter p):=Ik λr=>by
  rw[Ol,eO,eO]
  by_cases h:r∈(List.range k).filter p
  .rw[Uc h,Uc (Be.mp h).1];rfl
  .rw[fe h,cy]
 rw[e,dj,dj,o1,o2];have:=ϸ p k;congr 2;omega
noncomputable def tZ(S:List (List Nat))(c:Nat)(rk:List Nat)(w:Bool):Nat:=jn (pA S c rk (cH<|List.range S.length) w) 0
def XU(M:Oa S rk c):jE [mD S rk c,.bl w]=.ok (.int<|cH<|(List.range S.length).filter λr=>!vO S c (tZ S c rk w) r):=
 bA rfl (aH (bB<|aJ rfl<|iX M)<|aH (bB<|aJ (aN (aJ rfl<|Aw M Tt) rfl)<|Q0 _)<|bO<|aK rfl (aJ rfl<|ś M _)<|bHv _ _)
def HJ(M:Oa S rk c) (hr:r<S.length):vO S c (tZ S c rk w) r=true↔∃m,m<2^S.length/\ve S c m/\(∀g∈aQ m,g∈aQ (gH S c (cH<|List.range S.length) r))/\(decide (lR rk m%2=0)==w)=true:=by
 have ha:cH (List.range S.length)<2^S.length:=Tt;unfold vO;rw[Jg,GJ];have sees:∀{g},(gH S c (cH<|List.range S.length) r).testBit g=true↔Wc S c (ug<|cH<|List.range S.length) r g:=λ{g}=>iM M hr g
 have inAll:∀{m:Nat},m<2^S.length->∀g∈aQ m,g∈aQ (cH<|List.range S.length):=λhm g hg=>qX.mpr<|Se.mpr<|bC hm hg
 constructor
 .rintro⟨g,h1,h2⟩;rcases (Qw _ _).mp (aG.mpr h2) with z|⟨m,hm,Uy⟩
  .rw[aG,xq]at z;cases z
  .obtain⟨p,hp,ht⟩:=Su.mp hm;obtain⟨t1,t2,t3,t4⟩:=lT M ha ht;refine⟨m,t1,t2,λx hx=>aG.mpr<|sees.mpr ?_,by rw[t4];exact(DB.mp hp).2⟩
   exact Wc.trans (sees.mp h1)<|Wc.mono (λy hy=>aG.mp<|inAll t1 y<|aG.mpr hy)<|t2.2.1 g Uy x hx
 .rintro⟨m,h1,h2,h3,h4⟩;have h0:=rM h2.1;obtain⟨g,T,hg⟩:∃g T,aQ m=g::T:=by
   cases h:aQ m with
   |nil=>exact(h0 h).elim
   |cons g T=>exact⟨g,T,rfl⟩
  have Uy:g∈aQ m:=by rw[hg];exact Jb
  obtain⟨l1,l2,l3⟩:=kT M ha h2 (inAll h1) rfl Uy;obtain⟨⟨x,hx,ex⟩,_⟩:=OA (rk:=rk) h2.1;refine⟨g,aG.mp<|h3 g Uy,aG.mp<|(Qw _ _).mpr<|.inr ⟨fJ S c (yV rk (cH<|List.range S.length)<|lR rk m) g,?_,l3 g Uy⟩⟩;refine Su.mpr ⟨lR rk m,DB.mpr ⟨⟨x,inAll h1 x hx,ex⟩,h4⟩,Be.mpr ⟨lK.mpr ⟨g,l1,rfl,?_⟩,?_⟩⟩
  .unfold bq at l2;exact(K4.mp l2).1
  .unfold bq at l2;exact(K4.mp l2).2
end
section
variable{S:List (List Nat)}{rk:List Nat}{c:Nat}
def bM8{m v:Nat}(h0:m≠0)(h:∀r∈aQ m,l.getD r 0=v):Cb l m=decide (v%2=0):=by
 obtain⟨⟨r,hr,e⟩,_⟩:=OA (rk:=l) h0;unfold Cb;rw[<-e,h r hr];exact Ir.mpr (by omega)
def xh(S:List (List Nat))(f:Nat->Nat):List Nat:=(List.range S.length).map f
def bM9{f:Nat->Nat} (hr:r<S.length):(xh S f).getD r 0=f r:=by
 unfold xh;rw[oi,Hk,YL hr];rfl
def bHw{f:Nat->Nat}:(xh S f).length=S.length:=by unfold xh;rw[Yd,Nl]
def IJ(M:Oa S rk c)(f:Nat->Nat):Oa S (xh S f) c:=⟨M.one,M.most,M.c1,M.c3,M.row,bHw⟩
def BC{f:Nat->Nat}{m v:Nat}(hm:Ue S c m)(h:∀r∈aQ m,f r=v):Cb (xh S f) m=decide (v%2=0):=bM8 hm.1.1 λr hr=>by rw[bM9<|bC hm.2.1 hr,h r hr]
noncomputable def Yj(S:List (List Nat))(c:Nat)(rk:List Nat)(g:Bool)(r:Nat):Nat:=if vO S c (tZ S c rk g) r=g then 0 else 1
def CC(M:Oa S rk c){x:Nat}(h:x<S.length):(cH<|List.range S.length).testBit x=true:=aG.mp<|qX.mpr<|Se.mpr h
def Ŝ(M:Oa S rk c){m:Nat}(hr:r∈aQ (Af S c))(h1:m<2^S.length)(h2:ve S c m)(h3:∀g∈aQ m,g∈aQ (gH S c (cH<|List.range S.length) r)):Ue S c m:=by
 refine⟨h2,h1,λg hg=>aG.mpr<|(Ft M g).mpr ?_⟩
 have n1:=M.one;refine Wc.trans ((Ft M r).mp<|aG.mp hr)<|wQ M (λg hg=>Uc<|Se.mpr hg) (bC pX hr)<|(iM M (bC pX hr) g).mp<|aG.mp<|h3 g hg
def bHx(M:Oa S rk c) (hm:m<2^S.length/\ve S c m) (hr:r∈aQ m):vO S c (tZ S c rk<|Cb rk m) r=true:=by
 have hl:=bC hm.1 hr;refine(HJ M hl).mpr ⟨m,hm.1,hm.2,λx hx=>aG.mpr<|(iM M hl x).mpr ?_,by unfold Cb;exact gE _⟩
 exact wQ M (λg hg=>CC M hg) hl<|hm.2.2.1 r hr x hx
def qS(M:Oa S rk c){g:Bool}(h:¬ fm S c rk g) (hm:Ue S c m):Cb (xh S<|Yj S c rk g) m=Cb rk m:=by
 by_cases hg:Cb rk m=g
 .rw[BC (v:=if true=g then 0 else 1) hm λr hr=>by unfold Yj;rw[<-hg,bHx M ⟨hm.2.1,hm.1⟩ hr],hg]
  cases g<;>rfl
 .have:∀r∈aQ m,vO S c (tZ S c rk g) r=false:=λr hr=>Gn.mpr λz=>by
   have hl:=bC hm.2.1 hr;obtain⟨m',h1,h2,h3,h4⟩:=(HJ M hl).mp z;have hc:=Ŝ M (hm.2.2 r hr) h1 h2 h3;obtain⟨x,hx⟩:=rq _<|rM h2.1;refine h ⟨m,m',hm,hc,by cases g<;>revert hg<;>cases Cb rk m<;>decide,eq_of_beq h4,r,hr,x,hx,mS M (hm.2.2 r hr)<|(iM M hl x).mp<|aG.mp<|h3 x hx⟩
  rw[BC (v:=if false=g then 0 else 1) hm λr hr=>by unfold Yj;rw[this r hr]]
  revert hg;cases g<;>cases Cb rk m<;>decide
noncomputable def Oz(S:List (List Nat))(c:Nat)(rk:List Nat):Nat:=jn (pA S c rk (Af S c) true) 0
noncomputable def Wn(S:List (List Nat))(c:Nat)(rk:List Nat)(r:Nat):Nat:=if (Oz S c rk).testBit r=true then 0 else 1
def DC(M:Oa S rk c):(Oz S c rk).testBit r=true↔∃m,Ue S c m/\Cb rk m=true/\r∈aQ m:=by
 unfold Oz;rw[<-aG,Qw];constructor
 .rintro(z|⟨m,hm,hr⟩)
  .rw[aG,xq]at z;cases z
  .obtain⟨h1,h2⟩:=pK M hm;exact⟨m,h1,h2,hr⟩
 .rintro⟨m,h1,h2,hr⟩;obtain⟨F,hF,hs⟩:=kA (rk:=rk) M h1;rw[h2]at hF;exact .inr ⟨F,hF,hs r hr⟩
def X'(M:Oa S rk c)(h1:¬ Zf S c rk false)(h2:¬ Zf S c rk true) (hm:Ue S c m):Cb (xh S<|Wn S c rk) m=Cb rk m:=by
 cases hg:Cb rk m
 .rw[BC (v:=1) hm λr hr=>?_]
  .rfl
  .unfold Wn;rw[gb λz=>?_]
   obtain⟨G,hG,g1,g2⟩:=(DC M).mp z;obtain⟨X,hX,sG,sB⟩:=MX M hG hm ⟨r,g2,r,hr,.here⟩ ⟨r,hr,r,g2,.here⟩;cases hx:Cb rk X
   .exact h1 ⟨X,G,hX,hG.1,sG,hx,g1⟩
   .exact h2 ⟨X,m,hX,hm.1,sB,hx,hg⟩
 .rw[BC (v:=0) hm λr hr=>by unfold Wn;rw[kb<|(DC M).mpr ⟨m,hm,hg,hr⟩]]
  rfl
def CI:Ue S c m↔m∈ju S c:=by
 rw[SA];exact⟨λh=>⟨h.2.1,h.1,h.2.2⟩,λh=>⟨h.2.1,h.1,h.2.2⟩⟩
def YU(M:Oa S rk c){base:Nat}(hm:Ue S c m):Cb (vN S rk c base) m=Cb rk m:=by
 unfold Cb;rw[bHt M<|CI.mp hm]
def bHy(M:Oa S rk c){b:Nat}(hb:b<2)(h:¬ Zf S c rk (decide (b=0))){v:Nat}(hr:Row S c rk b Z v):Ue S c Z->v<=b+1/\(Cb rk Z=decide (b=0)->v=b):=by
 have:b=0\/b=1:=by omega
 induction hr with
 |one hz=>
  rename_i Z;intro _;rcases this with rfl|rfl<;>cases Cb rk Z<;>decide
 |up _ hz hs zi ih=>
  rename_i Y Z v hY;intro hZ;have cY:=wx M hZ hY.lp hs;obtain⟨i1,i2⟩:=ih cY;have e:Cb rk Z=decide (b=0)->False:=λe=>h ⟨Z,Y,hZ,hY.lp,hs,e,by revert zi;rw[e];cases Cb rk Y<;>cases decide (b=0) <;> decide⟩
  refine⟨?_,λz=>(e z).elim⟩
  have:Cb rk Y=decide (b=0):=by
   revert zi e;cases Cb rk Y<;>cases Cb rk Z<;>cases decide (b=0) <;> simp
  have:=i2 this;omega
def bHz(M:Oa S rk c){b:Nat}(hb:b<2)(h:¬ Zf S c rk (decide (b=0)))(r:Nat):b<=aj S rk c b r/\aj S rk c b r<=b+1:=by
 refine⟨bHu M r,?_⟩
 by_cases hx:∃X∈Dk S c,r∈aQ X
 .obtain⟨X,hX,hr⟩:=hx;obtain⟨o1,o2,o3⟩:=FK M hX;rw[EB M hX hr];have h1:=(qx (base:=b) M (wV M) 12 X o1 o2.1 o3 r).2;have h2:=(bHy M hb h (GZ M (wV M) 12 X o1 o2 o3)<|CI.mpr<|VU M hX).1;exact bf h1 h2
 .rw[RA λX hX hr=>hx ⟨X,hX,hr⟩]
  omega
def bI0(M:Oa S rk c){b:Nat}(h:∀m,Ue S c m->r∉aQ m):aj S rk c b r=b:=RA λX hX=>h X<|CI.mpr<|VU M hX
end
def VA{st:ua}{r:R D}(h:f st=r)(hb:r≠.bad):gP f g st=r:=by
 unfold gP;rw[h];cases r with
 |bad=>exact(hb rfl).elim
 |ok _=>rfl
 |exc _=>rfl
def Rw{m:String} {r:ue} {st:ua} (h:f st=.ok (.ins c [] [])) (hr:r st=.ok xs):oX c m p [] f r st=p (.ins c [] [] :: xs):=by
 rw[OS,h,hr];show aW _ (p<|.ins c [] [] :: (xs++[]))=_;rw[uh];exact aF ⟨rfl,HE⟩
def rO{m:String} {r:ue} {st:ua} (h:f st=.ok (.ins c' [] [])) (hr:r st=.ok xs) (hn:c'≠c):oX c m p [] f r st=.bad:=by
 rw[OS,h,hr];exact BI λz=>hn z.1
def X1{m:String} {r:ue} {st:ua} {z:R D} {k:Nat} (hk:k<5) (h:f st=.ok (fX k)) (hr:r st=.ok xs) (hp:p (fX k::xs)=z) (hz:z≠.bad):gP (oX "EarlyNo" m p [] f r) (gP (oX "EarlyYes" m p [] f r)<|gP (oX "Settled" m p [] f r)<|gP (oX "Again" m p [] f r)<|oX "Lasting" m p [] f r) st=z:=by
 have:k=0\/k=1\/k=2\/k=3\/k=4:=by omega
 rcases this with rfl|rfl|rfl|rfl|rfl
 .exact VA ((Rw h hr).trans hp) hz
 .exact cF (rO h hr<|by decide) (VA ((Rw h hr).trans hp) hz)
 .exact cF (rO h hr<|by decide) (cF (rO h hr<|by decide)<|VA ((Rw h hr).trans hp) hz)
 .exact cF (rO h hr<|by decide) (cF (rO h hr<|by decide)<|cF (rO h hr<|by decide)<|VA ((Rw h hr).trans hp) hz)
 .exact cF (rO h hr<|by decide) (cF (rO h hr<|by decide)<|cF (rO h hr<|by decide)<|cF (rO h hr<|by decide)<|(Rw h hr).trans hp)
def iN{a:α}{k:Nat}(hk:k<5):[a,a,a,a,a].getD k a=a:=by
 have:k=0\/k=1\/k=2\/k=3\/k=4:=by omega
 rcases this with rfl|rfl|rfl|rfl|rfl<;>rfl
section
variable{S:List (List Nat)}{rk:List Nat}{c:Nat}
def R0(M:Oa S rk c)(n a b:Nat):oZ [mD S rk c,.int n,.int a,.int b]=.ok (.lst<|ba<|xh S λr=>if n.testBit r=true then a else b):=by
 have n8:=M.most;have ce:=fM (tg:=jb 4) (C:=dB) (E:=ZQ) (st:=[mD S rk c,n,a,b,none]) (q:=λ_=>true) (G:=λr=>.int ((if n.testBit r=true then a else b:Nat):Int)) (List.range S.length) λr hr=>⟨_,rfl,rfl,by
  have t:aO gQ (aC (aA 1)<|aC (aA 4) aP) [mD S rk c,n,a,b,(r:Nat)]=.ok (.bl<|n.testBit r):=aJ (aN rfl<|aN rfl rfl)<|zV _ _;cases hz:n.testBit r<;>rw[hz]at t
  .exact O0 t rfl
  .exact N0 t rfl⟩
 rw[Ku.mpr<|λ_ _=>rfl,show (List.range S.length).map (λr=>D.int ((if n.testBit r=true then a else b:Nat):Int))=ba (xh S λr=>if n.testBit r=true then a else b) by unfold ba xh;rw[Jk];rfl]at ce
 exact bA rfl<|bO<|eY (yO (show e1 (dY "Machine" "many") (aA 0) _=.ok (.int (S.length:Nat)) from yR)<|by omega) (by simp;omega) ce
noncomputable def Rn(S:List (List Nat))(c:Nat)(rk:List Nat):Nat->List Nat
 |0=>xh S<|Yj S c rk true
 |1=>xh S<|Yj S c rk false
 |2=>xh S<|Wn S c rk
 |3=>vN S rk c 1
 |_=>vN S rk c 0
def RX(M:Oa S rk c)(k:Nat):Oa S (Rn S c rk k) c:=by
 unfold Rn;split
 .exact IJ M _
 .exact IJ M _
 .exact IJ M _
 .exact PX M
 .exact PX M
open Classical in
def ŝ(M:Oa S rk c){k:Nat}(hq:qN S c rk k=true){m:Nat}(hm:Ue S c m):Cb (Rn S c rk k) m=Cb rk m:=by
 unfold qN at hq;split at hq
 .exact qS M (λz=>by rw[Uc z]at hq;cases hq) hm
 .exact qS M (λz=>by rw[Uc z]at hq;cases hq) hm
 .exact X' M (λz=>by rw[Uc z]at hq;cases hq) (λz=>by rw[Uc z,Bool.and_comm]at hq;cases hq) hm
 .exact YU M hm
 .unfold Rn;split<;>first|contradiction|exact YU M hm
def bMa(M:Oa S rk c){k:Nat}(hk:k<5):([fG,gG,gW,jF,gY].getD k fG) [fX k,mD S rk c]=.ok (.lst<|ba<|Rn S c rk k):=by
 have ea:∀(g:Bool)(a b:Nat),(∀r,(if (!vO S c (tZ S c rk g) r)=true then a else b)=Yj S c rk g r)->oZ [mD S rk c,.int (cH ((List.range S.length).filter λr=>!vO S c (tZ S c rk g) r):Nat),.int a,.int b]=.ok (.lst<|ba<|xh S<|Yj S c rk g):=λg a b h=>by
  rw[R0 M];congr 3;refine Fn λr hr=>?_
  rw[<-h r,eO];congr 1;refine propext ⟨λz=>(Be.mp<|cj z).2,λz=>Uc<|Be.mpr ⟨hr,z⟩⟩
 have:k=0\/k=1\/k=2\/k=3\/k=4:=by omega
 rcases this with rfl|rfl|rfl|rfl|rfl
 .have h:=ea true 1 0 λr=>by unfold Yj;cases vO S c (tZ S c rk true) r<;>rfl
  exact(bA rfl (bO<|aJ (aN rfl<|aN (aJ rfl (bA rfl (bO<|aJ rfl<|XU M):uI [mD S rk c]=_))<|aN rfl<|aN rfl rfl) h):fG [fX 0,mD S rk c]=_)
 .have h:=ea false 0 1 λr=>by unfold Yj;cases vO S c (tZ S c rk false) r<;>rfl
  exact(bA rfl (bO<|aJ (aN rfl<|aN (aJ rfl (bA rfl (bO<|aJ rfl<|XU M):uJ [mD S rk c]=_))<|aN rfl<|aN rfl rfl) h):gG [fX 1,mD S rk c]=_)
 .exact(bA rfl (aH (bB<|aJ (aN (aJ (aN rfl<|aN (aJ rfl<|GL M) rfl)<|Aw M pX) rfl)<|Q0 _)<|bO<|aJ rfl<|R0 M (Oz S c rk) 0 1):gW [fX 2,mD S rk c]=_)
 .exact(bA rfl (bO<|aJ rfl<|OX M 1):jF [fX 3,mD S rk c]=_)
 .exact(bA rfl (bO<|aJ rfl<|OX M 0):gY [fX 4,mD S rk c]=_)
def bI1{b:Bd} {d:D} (h:ds.length=np) (hb:b (ds.map (λd=>some<|.v d)++List.replicate (n-np) none)=.exc d):bV np n b ds=.exc d:=by
 unfold bV;rw[aF h,hb];rfl
def bMb{b:Bd}{st:ua}{x:Fl}(h:b st=.ok x):Dz b st=.ok x:=by unfold Dz;rw[h];rfl
def bI2{a b:Bd}{st:ua}{x:D}(h:a st=.exc x):aY a b st=.exc x:=by rw[NI,h];rfl
def S0(M:Oa S rk c){k:Nat}(hk:k<5):Ay (e2 Vp (gP (dJ "EarlyNo" "bar" iG [] (aA 0)<|aC (aA 1) aP)<|gP (dJ "EarlyYes" "bar" iV [] (aA 0)<|aC (aA 1) aP)<|gP (dJ "Settled" "bar" jH [] (aA 0)<|aC (aA 1) aP)<|gP (dJ "Again" "bar" mG [] (aA 0)<|aC (aA 1) aP)<|dJ "Lasting" "bar" jJ [] (aA 0)<|aC (aA 1) aP)<|eC .lc) [fX k,mD S rk c]=.ok (.bl<|!qN S c rk k):=by
 obtain⟨d,e,h⟩:=bRm M hk;have:e2 Vp (gP (dJ "EarlyNo" "bar" iG [] (aA 0)<|aC (aA 1) aP)<|gP (dJ "EarlyYes" "bar" iV [] (aA 0)<|aC (aA 1) aP)<|gP (dJ "Settled" "bar" jH [] (aA 0)<|aC (aA 1) aP)<|gP (dJ "Again" "bar" mG [] (aA 0)<|aC (aA 1) aP)<|dJ "Lasting" "bar" jJ [] (aA 0)<|aC (aA 1) aP) (eC .lc) [fX k,mD S rk c]=.ok (.bl<|!jk d):=aK (NO hk rfl (aN rfl rfl) e) rfl (by cases d<;>rfl)
 unfold Ay;rw[this,h];rfl
def ET(M:Oa S rk c){k:Nat}(hk:k<5)(hq:qN S c rk k=true):bT [fX k,mD S rk c]=.ok (mD S (Rn S c rk k) c):=by
 have t:=S0 M hk;rw[hq]at t;exact bA rfl<|dC (iK t rfl)<|bMb<|bO<|aJ (aN (show e1 (dY "Machine" "steps") (aA 1) _=.ok (.lst<|Pb S) from lJ)<|aN (NO hk rfl (aN rfl rfl)<|bMa M hk) rfl)<|UI<|RX M k
def ć(M:Oa S rk c){k:Nat}(hk:k<5)(hq:qN S c rk k=false):bT [fX k,mD S rk c]=.exc (.Sg "NoKind" [] []):=by
 have t:=S0 M hk;rw[hq]at t;exact bI1 rfl<|bI2<|tM t<|aF<|by decide
def bMc{b:Bd} {st:ua} {x:Fl} (h:b st=.ok x):Ar b hs st=.ok x:=by unfold Ar;rw[h]
def bI3{b:Bd} {st:ua} {c:String} {r:R Fl} (h:b st=.exc (.Sg c [] [])) (hr:Lx hs c st=r):Ar b hs st=r:=by unfold Ar;rw[h];exact hr
def U0{st:ua}{r:R D}(h:f st=r):jq f st=r.bind λ_=>.ok (.nx st):=by unfold jq;rw[h]
def Ϲ(M:Oa S rk c){k:Nat}(hk:k<5):pU [fX k,mD S rk c]=.ok (.bl<|!qN S c rk k):=by
 cases hq:qN S c rk k with
 |true=>exact bA rfl<|aH (bB rfl)<|dC (bMc<|U0<|X1 hk rfl (aN rfl rfl) (ET M hk hq)<|by simp)<|bO rfl
 |false=>exact bA rfl<|aH (bB rfl)<|aH (st':=[fX k,mD S rk c,D.bl true]) (bI3 (U0<|X1 hk rfl (aN rfl rfl) (ć M hk hq)<|by simp) rfl)<|bO rfl
end
theorem Sw:∀l:List Bool,gF (l.map D.bl)=true/\oU (l.map D.bl)=0
 |[]=>⟨by unfold gF;rfl,by unfold oU;rfl⟩
 |b::l=>by
  obtain⟨h1,h2⟩:=Sw l;refine⟨?_,?_⟩
  .rw[Vd,lY,h1];unfold plain;rfl
  .rw[Vd,JH,h2];unfold Of;rfl
def Y1(b:Bool)(l:List Bool):inD (.bl b) (l.map D.bl)=decide (b∈l):=by
 unfold inD;rw[ly]
 induction l with
 |nil=>rfl
 |cons a l ih=>
  rw[Bq,ih];cases a<;>cases b<;>simp[Fd]
def bMd(b:Bool)(l:List Bool):Yo (.bl b) (.lst<|l.map D.bl)=.ok (.bl<|decide (b∈l)):=by
 rw[<-Y1];exact aF ⟨by rw[(Sw l).2];exact Ih 60,rfl,(Sw l).1⟩
def bI4(b:Bool)(l:List Bool):uW (.bl b) (.lst<|l.map D.bl)=.ok (.bl<|!decide (b∈l)):=by
 rw[<-Y1];exact aF ⟨by rw[(Sw l).2];exact Ih 60,rfl,(Sw l).1⟩
def NZ(T:List Nat):Qc (.lst<|ba T) (.lst [])=.ok (.bl<|decide (T=[])):=by
 obtain⟨k1,k2,_⟩:=fU T;have kd:Of (.lst<|ba T)=1:=by unfold Of;rw[k2]
 have kp:plain (.lst<|ba T)=true:=by(conv=>lhs;unfold plain);exact k1
 have ke:Fd (.lst<|ba T) (.lst [])=decide (T=[]):=by(conv=>lhs;unfold Fd);exact zt T []
 rw[XJ,aF ⟨by omega,kp,rfl⟩,ke]
def HL{st:ua}{b:Bool}(h:f st=.ok (.bl b)):e1 Ao f st=.ok (.int (if b then 1 else 0:Nat)):=by
 show (f st).bind _=_;rw[h];cases b<;>rfl
section
variable{S:List (List Nat)}{rk:List Nat}{c:Nat}
abbrev fq(S:List (List Nat))(L rk:List Nat)(k:Nat)(F:List Nat)(x5 x6 x7:Option Sl):ua:=[some<|.v<|.lst<|ba<|qg S,some<|.v<|.lst<|ba L,some<|.v<|.lst<|ba rk,some<|.v<|.int k,some<|.o .l<|ba F,x5,x6,x7,none]
def OZ(M:Oa S rk c) {k:Nat} {f:Nat->Nat} (h:∀(r:Nat)(F:List Nat)(x6 x7:Option Sl),r<S.length->F.length<=100->∃y6 y7,zU (fq S L rk k F r x6 x7)=.ok (.nx<|fq S L rk k (F++[f r]) r y6 y7)):kY [.lst<|ba<|qg S,.lst<|ba L,.lst<|ba rk,.int k]=.ok (.lst<|ba<|xh S f):=by
 have n8:=M.most;have go:∀(rs F:List Nat)(x5 x6 x7:Option Sl),(∀r∈rs,r<S.length)->F.length+rs.length<=100->∃y5 y6 y7,Nb (jb 5) zU (ba rs) (fq S L rk k F x5 x6 x7)=.ok (.nx<|fq S L rk k (F++rs.map f) y5 y6 y7):=by
  intro rs
  induction rs with
  |nil=>exact λF x5 x6 x7 _ _=>⟨x5,x6,x7,by rw[jy,uh];rfl⟩
  |cons r rs ih=>
   intro F x5 x6 x7 hr hl;rw[Te]at hl;obtain⟨y6,y7,e⟩:=h r F x6 x7 (hr r Jb) (by omega)
   obtain⟨z5,z6,z7,e'⟩:=ih (F++[f r]) r y6 y7 (λr h=>hr r<|Qb _ h) (by rw[Wf,Gh];omega)
   rw[Cm]at e';exact⟨z5,z6,z7,dM (d:=.int (r:Nat)) rfl e e'⟩
 obtain⟨y5,y6,y7,e⟩:=go (List.range S.length) [] none none none (λr hr=>Se.mp hr) (by rw[Nl];simp;omega)
 refine bA rfl<|aH (pW<|fB rfl)<|aH (dR (yO (n:=S.length) ?_<|by omega) e) rfl
 show e1 lW (aA 2) _=.ok (.int (S.length:Nat));rw[<-M.Wl,<-aZ rk];rfl
def ne2{k:Nat} {st:ua} (h:f st=.ok (.int k)):e2 Qc f (eC<|.int j) st=.ok (.bl<|decide (k=j)):=by
 rw[aK h rfl<|vI k j];congr 2;exact Ir.mpr (by omega)
def bI5(M:Oa S rk c):kY [.lst<|ba<|qg S,.lst<|ba<|uf S c,.lst<|ba rk,.int 2]=.ok (.lst<|ba<|xh S<|Wn S c rk):=by
 refine OZ M (k:=2) λr F x6 x7 hr hl=>⟨x6,x7,?_⟩
 have hL:(uf S c).length<=256:=DJ M<|EJ M;have ce:=fM (tg:=jb 8) (C:=zT) (E:=zR) (st:=fq S (uf S c) rk 2 F r x6 x7) (q:=λm=>m.testBit r&&Cb rk m) (G:=λm=>.int m) (uf S c) λm hm=>⟨_,rfl,by
  have hc:=(wR M).mp hm;exact mJ (FD (a:=8) (b:=5) rfl rfl) λ_=>aJ (aN rfl<|aN rfl rfl)<|yW M hc.2.1 hc.1.1,rfl⟩
 have t:e1 Ao (e2 Qc (cN [8] (jb 8) (Yc<|aA 1) zT zR)<|jP aP) (fq S (uf S c) rk 2 F r x6 x7)=.ok (.int (Wn S c rk r:Nat)):=by
  rw[HL<|aK (eY rfl (by rw[aZ];omega) ce) (fB rfl)<|NZ<|(uf S c).filter λm=>m.testBit r&&Cb rk m]
  congr 2;unfold Wn
  by_cases h:(Oz S c rk).testBit r=true
  .rw[kb h,fe λz=>?_]
   .rfl
   .obtain⟨m,h1,h2,h3⟩:=(DC M).mp h;have:=Er.mp z m<|(wR M).mpr h1;rw[aG.mp h3,h2]at this;exact this rfl
  .rw[gb h,Uc<|Er.mpr λm hm z=>h<|(DC M).mpr ⟨m,(wR M).mp hm,?_⟩]
   .rfl
   .rw[wj]at z;exact⟨z.2,aG.mpr z.1⟩
 refine(tM (ne2 (k:=2) (j:=2) rfl)<|vJ t rfl<|by rw[aZ];omega).trans ?_
 show R.ok (Fl.nx [_,_,_,_,some<|.o .l<|ba F++[.int (Wn S c rk r:Nat)],_,_,_,_])=_;rw[<-jX]
noncomputable abbrev Xk(S:List (List Nat))(c:Nat):List Nat:=Br S c<|cH<|List.range S.length
def JJ(M:Oa S rk c):m∈Xk S c↔ve S c m/\m<2^S.length:=by
 rw[CJ];constructor
 .rintro⟨h1,h2⟩;refine⟨h1,?_⟩;rw[<-gJ m];exact oN λr hr=>bC Tt<|h2 r hr
 .rintro⟨h1,h2⟩;exact⟨h1,λg hg=>aG.mpr<|CC M<|bC h2 hg⟩
def Ĉ(M:Oa S rk c) (hr:r<S.length) (w:Bool):w∈((Xk S c).filter λm=>decide ((0:Int)<((m&&&Bf S c (2^r):Nat):Int))).map (Cb rk)↔vO S c (tZ S c rk w) r=true:=by
 have hb:=(iu M (m:=2^r)<|L4 (by decide) hr).2
 have ah:∀g,(Bf S c<|2^r).testBit g=true↔Wc S c (ug<|cH<|List.range S.length) r g:=λg=>by
  rw[hb g];constructor
  .rintro⟨s,s1,_,s3⟩;rw[XD]at s1;rw[<-cj s1]at s3;exact wQ M (λg hg=>CC M hg) hr s3
  .exact λh=>⟨r,by rw[XD];exact Uc rfl,sx M r hr,wQ M (sx M) hr h⟩
 rw[HJ M hr,bg];constructor
 .rintro⟨m,hm,e⟩;obtain⟨h1,h2⟩:=Be.mp hm;obtain⟨l1,l2⟩:=(JJ M).mp h1;have h2:=cj h2;obtain⟨g,g1,g2⟩:=GJ.mp (show 0<m&&&Bf S c (2^r) by omega)
  refine⟨m,l2,l1,λx hx=>aG.mpr<|(iM M hr x).mpr ?_,by rw[<-e];unfold Cb;exact gE _⟩
  exact Wc.trans ((ah g).mp g2)<|wQ M (λg hg=>CC M hg) (bC l2<|aG.mpr g1)<|l1.2.1 g (aG.mpr g1) x hx
 .rintro⟨m,h1,h2,h3,h4⟩;obtain⟨x,hx⟩:=rq _<|rM h2.1;refine⟨m,Be.mpr ⟨(JJ M).mpr ⟨h2,h1⟩,Uc ?_⟩,eq_of_beq h4⟩;have:=GJ.mpr ⟨x,aG.mp hx,(ah x).mpr<|(iM M hr x).mp<|aG.mp<|h3 x hx⟩;omega
def bI6(M:Oa S rk c){k:Nat}(hk:k<2):kY [.lst<|ba<|qg S,.lst<|ba<|Xk S c,.lst<|ba rk,.int k]=.ok (.lst<|ba<|xh S<|Yj S c rk<|decide (k=0)):=by
 refine OZ M (k:=k) λr F x6 x7 hr hl=>?_
 have n8:=M.most;have hL:(Xk S c).length<=256:=DJ M Tt;have hp:2^r<2^S.length:=L4 (by decide) hr
 obtain⟨ea,_⟩:=iu M hp;have ce:=fM (tg:=jb 8) (C:=fR) (E:=eR) (st:=fq S (Xk S c) rk k F r (Bf S c (2^r):Nat) x7) (q:=λm=>decide ((0:Int)<((m&&&Bf S c (2^r):Nat):Int))) (G:=λm=>.bl<|Cb rk m) (Xk S c) λm hm=>⟨_,rfl,aK (aK rfl rfl<|rK _ _) rfl rfl,by
  obtain⟨l1,l2⟩:=(JJ M).mp hm;exact aJ (aN rfl<|aN rfl rfl)<|yW M l2 l1.1⟩
 have em:∀l:List Nat,l.map (λm=>D.bl<|Cb rk m)=(l.map<|Cb rk).map D.bl:=λl=>by rw[Jk];rfl
 rw[em]at ce;have mi:=Ĉ M hr;generalize ((Xk S c).filter λm=>decide ((0:Int)<((m&&&Bf S c (2^r):Nat):Int))).map (Cb rk)=l at ce mi
 refine⟨some<|.v<|.int (Bf S c (2^r):Nat),D.lst<|l.map D.bl,?_⟩;have b:∀w,decide (w∈l)=vO S c (tZ S c rk w) r:=λw=>by
  cases h:vO S c (tZ S c rk w) r
  .exact fe λz=>by rw[(mi w).mp z]at h;cases h
  .exact Uc ((mi w).mpr h)
 have t:e2 Mb (jP<|aC (e1 Ao<|e2 uW (eC<|.bl true)<|aA 7)<|aC (e1 Ao<|e2 Yo (eC<|.bl false)<|aA 7) aP) (aA 3) (fq S (Xk S c) rk k F r (Bf S c (2^r):Nat)<|D.lst<|l.map D.bl)=.ok (.int (Yj S c rk (decide (k=0)) r:Nat)):=by
  refine aK (fB<|aN (HL<|aK rfl rfl<|bI4 _ _)<|aN (HL<|aK rfl rfl<|bMd _ _) rfl) rfl ?_
  rw[b,b];have:k=0\/k=1:=by omega
  rcases this with rfl|rfl
  .show R.ok (D.int _)=.ok (.int ((if vO S c (tZ S c rk true) r=true then 0 else 1:Nat):Int))
   cases vO S c (tZ S c rk true) r<;>rfl
  .show R.ok (D.int _)=.ok (.int ((if vO S c (tZ S c rk false) r=false then 0 else 1:Nat):Int))
   cases vO S c (tZ S c rk false) r<;>rfl
 refine(iK ((ne2 (k:=k) (j:=2) rfl).trans<|by rw[fe (show ¬ k=2 by omega)])<|aH (bB<|aJ (aN rfl<|aN rfl<|aN (aK rfl rfl<|eK<|by omega) rfl) ea)<|aH (bB<|eY rfl (by rw[aZ];omega) ce)<|vJ t rfl<|by rw[aZ];omega).trans ?_
 show R.ok (Fl.nx [_,_,_,_,some<|.o .l<|ba F++[.int (Yj S c rk (decide (k=0)) r:Nat)],_,_,_,_])=_;rw[<-jX]
end
def bRn{a b n r:Nat}{st:ua}(ha:st[a]?=some (some<|.v<|.int (n:Int)))(hb:st[b]?=some (some<|.v<|.int (r:Int))):(e2 Qc (e2 qJ (e2 yG (aA a)<|aA b)<|eC<|.int 1)<|eC<|.int 0) st=.ok (.bl<|!n.testBit r):=by
 have ht:=nI n r;have h0:0<=(n:Int)/2^r:=OM (by omega)<|SM<|by decide
 have t1:e2 yG (aA a) (aA b) st=.ok (.int<|(n:Int)/2^r):=by simp[ha,hb]
 have t2:e2 qJ (e2 yG (aA a)<|aA b) (eC<|.int 1) st=.ok (.int ((if n.testBit r=true then 1 else 0:Nat):Int)):=by
  rw[rm,t1,aR,RC,aR,mI,aF ⟨h0,by decide⟩,ht]
 rw[rm,t2];cases n.testBit r<;>simp
def bPq(b:Bool):zg (.bl b) (.bl b)=.ok (.bl false):=(show zg (.bl b) (.bl b)=.ok (.bl<|!(b==b)) from aF ⟨Ih 64,rfl,rfl⟩).trans (by cases b<;>rfl)
def bMf(i:Int):uL [.int i]=.ok (.bl true):=bA rfl<|bO<|mJ (p:=true) (q:=true) (aF rfl) λ_=>gZ (p:=false)<|aF rfl
def Z1{h:Ex}{st:ua}{a x b:Int}(hf:f st=.ok (.int a))(hg:g st=.ok (.int x))(hh:h st=.ok (.int b))(h1:a<=x)(h2:x<=b):kq Qi Qi f g h st=.ok (.bl true):=by
 unfold kq;rw[hf,aR,hg,aR,show Qi (.int a) (.int x)=.ok (.bl<|decide (a<=x)) from rfl,Uc h1,aR,oW,kb rfl,hh,aR,show Qi (.int x) (.int b)=.ok (.bl<|decide (x<=b)) from rfl,Uc h2]
section
variable{S:List (List Nat)}{rk R:List Nat}{c k:Nat}
noncomputable abbrev uA(S:List (List Nat))(rk R:List Nat)(c k:Nat)(x6 x7 x8 x9:Option Sl):ua:=[some<|.v<|mD S R c,some<|.v<|.lst<|Pb S,some<|.v<|.lst<|ba rk,some<|.v<|.int k,some<|.v<|.lst [.lst<|ba<|uf S c,.lst<|ba<|Xk S c],some<|.v<|.lst<|ba<|qg S,x6,x7,x8,x9,none]
theorem ZU:∀(l:List Nat)(x6:Option Sl),(∀x∈l,(k=3->1<=x/\x<=2)/\(k=4->x<=1))->∃y6,Nb (jb 6) MQ (ba l) (uA S rk R c k x6 x7 x8 x9)=.ok (.nx<|uA S rk R c k y6 x7 x8 x9)
 |[],x6,_=>⟨x6,rfl⟩
 |x::l,x6,h=>by
  obtain⟨h3,h4⟩:=h x Jb;obtain⟨y6,e⟩:=ZU (x7:=x7) (x8:=x8) (x9:=x9) l x λx hx=>h x<|Qb _ hx
  have b0:∀b:Bool,(b && !true)=false:=λb=>by cases b<;>rfl
  have t3:mY (e2 Qc (aA 3)<|eI 3) (lQ<|kq Qi Qi (eI 1) (aA 6)<|eI 2) (uA S rk R c k x x7 x8 x9)=.ok (.bl false):=yQ (mJ (ne2 (k:=k) (j:=3) rfl) λz=>gZ (p:=true)<|Z1 rfl rfl rfl (by have:=h3<|cj z;omega) (by have:=h3<|cj z;omega))<|b0 _
  have t4:mY (e2 Qc (aA 3)<|eI 4) (lQ<|kq Qi Qi (eI 0) (aA 6)<|eI 1) (uA S rk R c k x x7 x8 x9)=.ok (.bl false):=yQ (mJ (ne2 (k:=k) (j:=4) rfl) λz=>gZ (p:=true)<|Z1 rfl rfl rfl (by omega) (by have:=h4<|cj z;omega))<|b0 _
  exact⟨y6,dM (d:=.int (x:Nat)) rfl (iK (gu (p:=false) (q:=false) (gZ (p:=true)<|aJ rfl<|bMf x) λ_=>gu (p:=false) (q:=false) t3 λ_=>t4) rfl) e⟩
theorem gV(M:Oa S rk c)(MR:Oa S R c){x6 x9:Option Sl}:∀(l:List Nat)(b:Nat)(x8:Option Sl),(∀m∈l,Ue S c m/\Cb R m=Cb rk m)->∃y8,Nb (jb 8) NQ (ba l) (uA S rk R c k x6 b x8 x9)=.ok (.nx<|uA S rk R c k x6 (jn l b) y8 x9)
 |[],b,x8,_=>⟨x8,rfl⟩
 |m::l,b,x8,h=>by
  obtain⟨hc,he⟩:=h m Jb;obtain⟨y8,e⟩:=gV M MR (x6:=x6) (x9:=x9) l (b|||m) m λx hx=>h x<|Qb _ hx
  refine⟨y8,dM (d:=.int (m:Nat)) rfl (aH (st':=uA S rk R c k x6 ((b|||m:Nat):Int) m x9) (bB<|aK rfl rfl<|P0 b m)<|iK (aK (aJ (aN rfl<|aN rfl rfl)<|yW M hc.2.1 hc.1.1) (aJ (aN (show e1 (dY "Machine" "ranks") (aA 0) _=.ok (.lst<|ba R) from mL)<|aN rfl rfl)<|yW MR hc.2.1 hc.1.1) ?_) rfl) e⟩
  rw[he];exact bPq _
def Ş(M:Oa S rk c)(MR:Oa S R c)(hk:k<5)(h1:∀x∈R,(k=3->1<=x/\x<=2)/\(k=4->x<=1))(h2:k<2->R=xh S (Yj S c rk<|decide (k=0)))(h3:k=2->R=xh S (Wn S c rk))(h4:∀m,Ue S c m->Cb R m=Cb rk m)(h5:3<=k->∀r,r<S.length->(∀m,Ue S c m->r∉aQ m)->R.getD r 0=4-k):uM [mD S R c,.lst<|Pb S,.lst<|ba rk,.int k,.lst [.lst<|ba<|uf S c,.lst<|ba<|Xk S c]]=.ok (.bl true):=by
 have n8:=M.most;have fr:∀{x6 x7 x8 x9:Option Sl},e1 (dY "Machine" "ranks") (aA 0) (uA S rk R c k x6 x7 x8 x9)=.ok (.lst<|ba R):=mL;have ln:∀{x6 x7 x8 x9:Option Sl},e1 lW (aA 1) (uA S rk R c k x6 x7 x8 x9)=.ok (.int (S.length:Nat)):=by
  intros
  rw[<-nG S];rfl
 have lr:∀{x6 x7 x8 x9:Option Sl},e1 lW (e1 (dY "Machine" "ranks")<|aA 0) (uA S rk R c k x6 x7 x8 x9)=.ok (.int (S.length:Nat)):=by
  intros
  show (e1 (dY "Machine" "ranks") (aA 0) _).bind _=_;rw[fr,<-MR.Wl,<-aZ R];rfl
 obtain⟨y6,lg⟩:=ZU (S:=S) (rk:=rk) (R:=R) (c:=c) (k:=k) (x7:=none) (x8:=none) (x9:=none) R none h1;obtain⟨y8,Xf⟩:=gV (k:=k) M MR (x6:=y6) (x9:=none) (uf S c) 0 none λm hm=>⟨(wR M).mp hm,h4 m<|(wR M).mp hm⟩
 generalize hon:jn (uf S c) 0=on at Xf;have on_off:∀r,on.testBit r=false->∀m,Ue S c m->r∉aQ m:=λr z m hm hr=>by
  rw[<-hon]at z;have:=aG.mp<|(Qw (uf S c) 0).mpr<|.inr ⟨m,(wR M).mpr hm,hr⟩;rw[z]at this;cases this
 have cb:=fM (tg:=jb 10) (C:=PQ) (E:=OQ) (st:=uA S rk R c k y6 on y8 none) (q:=λr=>!on.testBit r) (G:=λr=>.int (R.getD r 0:Nat)) (List.range S.length) λr hr=>⟨_,rfl,bRn (a:=7) (b:=10) rfl rfl,aK (show e1 (dY "Machine" "ranks") (aA 0) _=.ok (.lst<|ba R) from mL) rfl<|iZ (by
  have Ee:r<R.length:=by rw[MR.Wl];exact Se.mp hr
  rw[Fc (by rw[aZ];exact Ee)]
  simp[ba,getD_eq_getElem?_getD,List.getElem?_eq_getElem Ee])⟩
 generalize hB:((List.range S.length).filter λr=>!on.testBit r).map (λr=>R.getD r 0)=Bs
 rw[show ((List.range S.length).filter λr=>!on.testBit r).map (λr=>D.int (R.getD r 0:Nat))=ba Bs by rw[<-hB];unfold ba;rw[Jk];rfl]at cb
 have hBl:Bs.length<=8:=by
  rw[<-hB,Yd];have:=tq (λr=>!on.testBit r)<|List.range S.length
  rw[Nl]at this;omega
 have ce:=fM (tg:=jb 6) (C:=vG) (E:=vD) (st:=uA S rk R c k none on y8<|D.lst<|ba Bs) (q:=λx=>!decide ((x:Int)=4-(k:Int))) (G:=λx=>.int x) Bs λx hx=>⟨_,rfl,aK rfl (aK rfl rfl rfl)<|Rt _ _,rfl⟩
 have last:Ql (e2 Ck (aA 3)<|eI 3) (e2 Qc (cN [6] (jb 6) (Yc<|aA 9) vG vD)<|jP aP) (uA S rk R c k y6 on y8<|D.lst<|ba Bs)=.ok (.bl true):=by
  refine yQ (gu (p:=decide ((k:Int)<3)) rfl λ_=>aK (eY rfl (by rw[aZ];omega) ce) (fB rfl)<|NZ<|Bs.filter λx=>!decide ((x:Int)=4-(k:Int))) ?_
  by_cases h:(k:Int)<3
  .rw[Uc h];rfl
  .rw[Uc (p:=Bs.filter _=[])<|Er.mpr λx hx z=>?_,TM]
   rw[<-hB]at hx;obtain⟨r,hr,rfl⟩:=bg.mp hx;obtain⟨r1,r2⟩:=Be.mp hr;have:=h5 (by omega) r (Se.mp r1)<|on_off r<|by rw[Jn]at r2;exact r2
   rw[Jn]at z;exact of_decide_eq_false z (by omega)
 have Q4:∀{x6 x7 x8 x9:Option Sl},(mY (e2 Ck (aA 3)<|eI 2)<|e2 zg (e1 (dY "Machine" "ranks")<|aA 0)<|aO kY<|aC (aA 5)<|aC (e2 Mb (aA 4)<|eI 1)<|aC (aA 2)<|aC (aA 3) aP) (uA S rk R c k x6 x7 x8 x9)=.ok (.bl false)/\(mY (e2 Qc (aA 3)<|eI 2)<|e2 zg (e1 (dY "Machine" "ranks")<|aA 0)<|aO kY<|aC (aA 5)<|aC (e2 Mb (aA 4)<|eI 0)<|aC (aA 2)<|aC (aA 3) aP) (uA S rk R c k x6 x7 x8 x9)=.ok (.bl false):=by
  intro x6 x7 x8 x9;refine⟨yQ (mJ (p:=decide ((k:Int)<2)) (q:=false) rfl λz=>?_)<|cy _,yQ (mJ (q:=false) (ne2 (k:=k) (j:=2) rfl) λz=>?_)<|cy _⟩
  .have z:k<2:=by have:=cj z;omega
   refine aK fr (aJ (aN rfl<|aN (aK rfl rfl rfl)<|aN rfl<|aN rfl rfl)<|bI6 M z) ?_
   rw[<-h2 z];exact(VI R).1
  .have z:=cj z;refine aK fr (aJ (ds:=[.lst<|ba<|qg S,.lst<|ba<|uf S c,.lst<|ba rk,.int 2]) (aN rfl<|aN (aK rfl rfl rfl)<|aN rfl<|aN (by rw[z];rfl) rfl)<|bI5 M) ?_
   rw[<-h3 z];exact(VI R).1
 refine bA rfl<|aH (st':=uA S rk R c k none none none none) (bB<|aJ rfl<|QH M) ?_;refine dC (iK (gu (p:=false) (q:=false) (gZ (p:=true)<|aF rfl) λ_=>gu (p:=false) (q:=false) (aK (show e1 (dY "Machine" "steps") (aA 0) _=.ok (.lst<|Pb S) from lJ) rfl (ZY S).1) λ_=>yQ (OO lr ln)<|by rw[Uc rfl];rfl) rfl) ?_
 refine aH (dR (pI fr) lg)<|dC (iK Q4.1 rfl)<|dC (iK Q4.2 rfl) ?_;exact aH (bB rfl)<|aH (dR (pI<|aK rfl rfl rfl) Xf)<|aH (bB<|eY (yO ln<|by omega) (by simp;omega) cb)<|bO last
end
section
variable{S:List (List Nat)}{rk:List Nat}{c:Nat}
open Classical in
def ĉ(M:Oa S rk c){k:Nat}(hk:k<5)(hq:qN S c rk k=true):(∀x∈Rn S c rk k,(k=3->1<=x/\x<=2)/\(k=4->x<=1))/\(k<2->Rn S c rk k=xh S (Yj S c rk<|decide (k=0)))/\(k=2->Rn S c rk k=xh S (Wn S c rk))/\(3<=k->∀r,r<S.length->(∀m,Ue S c m->r∉aQ m)->(Rn S c rk k).getD r 0=4-k):=by
 have two:∀b,b<2->¬ Zf S c rk (decide (b=0))->∀x∈vN S rk c b,b<=x/\x<=b+1:=λb hb h x hx=>by
  obtain⟨r,_,rfl⟩:=bg.mp hx;exact bHz M hb h r
 have off:∀b r,r<S.length->(∀m,Ue S c m->r∉aQ m)->(vN S rk c b).getD r 0=b:=λb r hr h=>by rw[WU hr,bI0 M h]
 have:k=0\/k=1\/k=2\/k=3\/k=4:=by omega
 rcases this with rfl|rfl|rfl|rfl|rfl
 .exact⟨λx _=>⟨nofun,nofun⟩,λ_=>rfl,nofun,λz=>by omega⟩
 .exact⟨λx _=>⟨nofun,nofun⟩,λ_=>rfl,nofun,λz=>by omega⟩
 .exact⟨λx _=>⟨nofun,nofun⟩,λz=>by omega,λ_=>rfl,λz=>by omega⟩
 .have h:=two 1 (by omega) λz=>by
   have hq:(!decide (Zf S c rk false))=true:=hq;rw[Uc (p:=Zf S c rk false) z]at hq;cases hq
  exact⟨λx hx=>⟨λ_=>h x hx,nofun⟩,λz=>by omega,nofun,λ_=>off 1⟩
 .have h:=two 0 (by omega) λz=>by
   have hq:(!decide (Zf S c rk true))=true:=hq;rw[Uc (p:=Zf S c rk true) z]at hq;cases hq
  exact⟨λx hx=>⟨nofun,λ_=>(h x hx).2⟩,λz=>by omega,nofun,λ_=>off 0⟩
noncomputable abbrev B2(S:List (List Nat))(c:Nat)(rk:List Nat):List D:=(List.range 5).map λk=>D.bl<|qN S c rk k
def ş(M:Oa S rk c):oA [.lst<|ba<|qg S,.lst<|ba<|uf S c,.lst<|ba rk]=.ok (.lst<|B2 S c rk):=by
 rw[Ā M];unfold Zl;rw[bPj M,bPk M,bPn M,bPl M,bPm M];rfl
def KY{f:Nat->D}{k:Nat}(hk:k<5):Mb (.lst<|(List.range 5).map f) (.int k)=.ok (f k):=by
 have:k=0\/k=1\/k=2\/k=3\/k=4:=by omega
 rcases this with rfl|rfl|rfl|rfl|rfl<;>rfl
noncomputable abbrev ku(S:List (List Nat))(rk:List Nat)(c:Nat)(x6:Option Sl):ua:=[some<|.v<|.lst<|(List.range 5).map fX,some<|.v<|mD S rk c,some<|.v<|.lst<|Pb S,some<|.v<|.lst<|ba rk,some<|.v<|.lst [.lst<|ba<|uf S c,.lst<|ba<|Xk S c],some<|.v<|.lst<|B2 S c rk,x6]
theorem rS(M:Oa S rk c):∀(l:List Nat)(x6:Option Sl),(∀k∈l,k<5)->∃y6,Nb (jb 6) sZ (ba l) (ku S rk c x6)=.ok (.nx<|ku S rk c y6)
 |[],x6,_=>⟨x6,rfl⟩
 |k::l,x6,h=>by
  have hk:=h k Jb;obtain⟨y6,e⟩:=rS M l k λk hk=>h k<|Qb _ hk
  refine⟨y6,dM (d:=.int (k:Nat)) (s2:=ku S rk c k) rfl ?_ e⟩;have ki:e2 Mb (aA 0) (aA 6) (ku S rk c k)=.ok (fX k):=aK rfl rfl<|KY hk;have t:e2 Mb (aA 5) (aA 6) (ku S rk c k)=.ok (.bl<|qN S c rk k):=aK rfl rfl<|KY (f:=λk=>D.bl<|qN S c rk k) hk
  cases hq:qN S c rk k with
  |false=>
   rw[hq]at t;have r:=Ϲ M hk;rw[hq]at r;exact tM (gZ t)<|iK (gZ (p:=true)<|aJ (aN ki<|aN rfl rfl) r) rfl
  |true=>
   rw[hq]at t;obtain⟨f1,f2,f3,f4⟩:=ĉ M hk hq;exact iK (gZ t)<|iK (gZ (p:=true)<|aJ (aN (NO hk ki (aN rfl rfl)<|by rw[iN hk];show (bT [fX k,mD S rk c]).Vg=_;rw[ET M hk hq];rfl)<|aN rfl<|aN rfl<|aN rfl<|aN rfl rfl)<|Ş M (RX M k) hk f1 f2 f3 (λm hm=>ŝ M hq hm) f4) rfl
def DI(M:Oa S rk c):fQ [.lst<|(List.range 5).map fX,mD S rk c,.lst<|Pb S,.lst<|ba rk,.lst [.lst<|ba<|uf S c,.lst<|ba<|Xk S c]]=.ok (.bl true):=by
 obtain⟨y6,e⟩:=rS M (List.range 5) none λk hk=>Se.mp hk
 refine bA rfl<|aH (st':=ku S rk c none) (bB<|aJ (aN (aJ rfl<|QH M)<|aN (aK rfl rfl rfl)<|aN rfl rfl)<|ş M)<|aH (dR (yO (n:=5) rfl<|by omega) e)<|bO ?_
 exact mJ (p:=true) (q:=true) (aK (show e1 (dY "Machine" "steps") (aA 1) _=.ok (.lst<|Pb S) from lJ) rfl (ZY S).2) λ_=>aK (show e1 (dY "Machine" "ranks") (aA 1) _=.ok (.lst<|ba rk) from mL) rfl (VI rk).2
end
def Tw{st:ua}(h:f st=.ok (.ins c [] [])):e1 (yH c b) f st=.ok (.bl b):=by
 show (f st).bind _=_;rw[h];exact aF rfl
def rP{st:ua}(h:f st=.ok (.ins c' [] []))(hn:c'≠c):e1 (yH c b) f st=.bad:=by
 show (f st).bind _=_;rw[h];exact BI hn
def bRo{st:ua} {k:Nat} (hk:k<5) (h:f st=.ok (fX k)):gP (e1 (yH "EarlyNo" b) f) (gP (e1 (yH "EarlyYes" b) f)<|gP (e1 (yH "Settled" b) f)<|gP (e1 (yH "Again" b) f)<|e1 (yH "Lasting" b) f) st=.ok (.bl b):=by
 have:k=0\/k=1\/k=2\/k=3\/k=4:=by omega
 rcases this with rfl|rfl|rfl|rfl|rfl
 .exact wO (Tw h)
 .exact cF (rP h<|by decide) (wO<|Tw h)
 .exact cF (rP h<|by decide) (cF (rP h<|by decide)<|wO<|Tw h)
 .exact cF (rP h<|by decide) (cF (rP h<|by decide)<|cF (rP h<|by decide)<|wO<|Tw h)
 .exact cF (rP h<|by decide) (cF (rP h<|by decide)<|cF (rP h<|by decide)<|cF (rP h<|by decide)<|Tw h)
def bRp(n:Nat):cH (List.range n)=2^n-1:=Ik λr=>by
 rw[eO,Nat.testBit_two_pow_sub_one];exact Ir.mpr Se
def bRq{st:ua} (h:f st=.ok (.int n)) (h1:1<=n) (h8:n<=8):e2 yG (e2 An (e2 xo (eI 2)<|eI 8)<|eI 1) (e2 An (eI 8) f) st=.ok (.int (cH (List.range n):Nat)):=by
 have p:e2 An (e2 xo (eI 2)<|eI 8) (eI 1) st=.ok (.int 255):=aK (aK rfl rfl<|aF<|by decide) rfl rfl
 rw[bRp];have:n=1\/n=2\/n=3\/n=4\/n=5\/n=6\/n=7\/n=8:=by omega
 rcases this with rfl|rfl|rfl|rfl|rfl|rfl|rfl|rfl<;>exact aK p (aK rfl h rfl)<|aF<|by decide
def law_true(ns:List Int)(hn:ns.length<=63):fu [.lst<|ns.map D.int]=.ok (.bl true):=by
 obtain⟨S,rk,c,em,M⟩:=Ő ns;have n8:=M.most;have M':=bM6 M;obtain⟨F,ec,ea⟩:=ā M;have eA:=GX M<|Tt (n:=S.length);have cr:∀{x1 x2 x3 x4 x8 x10 yg:Option Sl},iR (jb 9) dB SW [D.lst<|ns.map D.int,x1,x2,x3,x4,none,D.lst<|Pb S,D.lst<|ba rk,x8,none,x10,yg] (ba rk)=.ok (ba (rk.map (· + 1))):=by
  intros
  refine(qA (F:=λ(x:Nat)=>D.int (x:Int)) (q:=λ_=>true) (G:=λ(x:Nat)=>D.int (((x+1:Nat)):Int)) rk λx _=>⟨_,rfl,rfl,λ_=>aK rfl rfl<|by show R.ok (D.int<|(x:Int)+1)=_;push_cast;rfl⟩).trans ?_
  rw[Ku.mpr<|λ_ _=>rfl]
  unfold ba;rw[Jk];rfl
 have ck:∀{st:ua},iR (jb 8) dB QI st (ba<|List.range 5)=.ok (((List.range 5).filter λ_=>true).map fX)->iR (jb 8) dB QI st (ba<|List.range 5)=.ok ((List.range 5).map fX):=λh=>by rw[h,Ku.mpr<|λ_ _=>rfl]
 have cp:∀(st:ua)(E:Ex),st[6]?=some (some<|.v<|.lst<|Pb S)->(∀d∈Pb S,E ((st.set 10 none).set 10 d)=.ok d)->cN [10] (jb 10) (Yc<|aA 6) dB E st=.ok (.lst<|Pb S):=λst E h1 h2=>QS h1 (by rw[nG];omega) h2
 have ci:∀{st:ua},st.length=12->iR (jb 11) SI RI st ((List.range 5).map fX)=.ok []:=λ{st} hs=>by
  have:=qA (tg:=jb 11) (C:=SI) (E:=RI) (st:=st) (F:=fX) (G:=fX) (q:=λ_=>false) (List.range 5) λk hk=>⟨st.set 11<|fX k,rfl,gZ (p:=true)<|bRo (Se.mp hk)<|by unfold aA;rw[PL (by omega)],nofun⟩
  rw[this,Er.mpr<|λ_ _=>Cg]
  rfl
 refine bA rfl<|aH (st':=[D.lst<|ns.map D.int,none,none,none,none,none,D.lst<|Pb S,D.lst<|ba rk,none,none,none,none]) ?_ ?_
 .show R.bind (lZ [.lst<|ns.map D.int,.int 0,.int 6]) _=_;rw[em];rfl
 refine aH (bB<|aJ rfl<|QH M) ?_
 refine aH (bB<|fB (ds:=[.lst<|ba<|uf S c,.lst<|ba<|Xk S c])<|aN (aJ (aN rfl<|aN (aJ rfl ec) rfl) ea)<|aN (aJ (aN rfl<|aN (bRq (n:=S.length) (by rw[<-nG S];rfl) M.one n8) rfl) eA) rfl) ?_
 refine aH (bB<|aJ (aN (cp _ RW rfl λd hd=>by
  obtain⟨r,hr,rfl⟩:=xw hd;rfl)<|aN (d:=.lst<|ba rk) rfl rfl)<|UI M) ?_
 refine aH (bB<|eY (yO (n:=5) rfl<|by omega) (by simp)<|ck<|qA (List.range 5) λk hk=>⟨_,rfl,rfl,λ_=>aJ rfl<|ŕ<|Se.mp hk⟩) ?_
 refine dC (iK (aK (x:=.lst<|ba []) (eY rfl (by simp)<|ci rfl) (fB rfl)<|Mw []) rfl) ?_
 refine dC (iK (gZ (p:=true)<|aJ rfl<|DI M) rfl) ?_
 refine aH (bB<|eY rfl (by rw[aZ,M.Wl];omega) cr) ?_
 refine dC (iK (gZ (p:=true) (aJ (aN rfl (aN (aJ (aN (cp _ UW rfl λd hd=>by
  obtain⟨r,hr,rfl⟩:=xw hd;rfl) (aN (d:=.lst (ba (rk.map (· + 1)))) rfl rfl))<|UI M')<|aN rfl<|aN rfl<|aN rfl rfl))<|DI M')) rfl) ?_
 exact bO<|aJ rfl<|DI M
end Pu
namespace Pu
open PySem PySem.Spec PyProof.Rows L2
abbrev Zi:=L2.St
def jB:Dc->D
 |.inl i=>.int i
 |.inr x=>.str x.cps.toList
structure jm(K:Frag)(C:Addr):Prop where
 ga:findIn K (.ref C) "__getattribute__"=some (some<|.builtin "BaseException.__getattribute__")
 gn:findIn K (.ref C) "__getattr__"=some none
 mb:mroIn K C (.type "BaseException")=some true
 cl:(clsIn K C).isSome=true
 fd:findIn K (.ref C) "__class__"=some (some<|.builtin "object.__class__")
 sp:specialIn K (.builtin "object.__class__") "__get__"=some (some<|.builtin "getset_descriptor.__get__")
 tk:takesIn K (.builtin "object.__class__")=some true
 mr:mroIn K C (.type "object")=some true
structure ExcAt(K:Frag)(c:String)(C:Addr)(bm:List Value):Prop where
 ns:nsIn K mainGlobals (ofString c)=some (some<|.ref C)
 ob:∃(B newId kg:String)(Pl:List Value),ExcBaseFacts B newId kg Pl/\∀h,K.In h->∃N nm q bs hdct sn sub ab col dd k0 k1 k2 k3 k5 mN,
  h.get? C=some (excClassObj nm q C N bs bm hdct sn sub ab col dd k0 k1 k2 k3 k5 newId)/\h.Ns N mN/\mN "__init__"=none/\OwnTail h Pl bm
 ic:jm K C
def V0(a C:Addr)(h:Heap):Prop:=∃o,h.get? a=some o/\o.cls=.ref C/\notCls o=true
structure km(K:Frag)(c:String)(C:Addr):Prop where
 ns:nsIn K mainGlobals (ofString c)=some (some<|.ref C)
 ic:jm K C
def ExcAt.is{K:Frag} (h:ExcAt K c C bm):km K c C:=⟨h.ns,h.ic⟩
def m6(x C:Addr)(d:Option Addr)(h:Heap):Prop:=∃o,h.get? x=some o/\o.cls=.ref C/\notCls o=true/\o.dict=d
def j6(dx:Addr)(fs:List (Str×V))(h:Heap):Prop:=∃mA,h.Ns1 dx mA/\(∀f,zH (fs.lookup f)<|mA f)/\PySem.Within mA (fs.map (·.1))
def f6:List D->Bool
 |.str _::_=>true
 |_=>false
mutual
def Fb(K:Frag)(H:Hp):D->V->Prop
 |.lc,v=>v=V.lc
 |.bl b,v=>v=V.bl b
 |.int i,v=>v=V.int i
 |.str s,v=>v=V.str ⟨s.toArray⟩
 |.tup ds,v=>∃a vs,v=V.ref a/\H a=some (.tup vs)/\bI K H ds vs
 |.lst ds,v=>∃a vs,v=V.ref a/\Ae K H a vs/\bI K H ds vs/\(f6 ds=true->H a=some (.lst vs))
 |.Ve t ks ds,v=>∃a vs,v=V.ref a/\((t=false/\∃oa:List (Dc×V),H a=some (.dK oa)/\oa.map (λp=>jB p.1)=ks/\vs=oa.map (·.2))\/(t=true/\∃oa:List (List Dc×V),H a=some (.dT oa)/\oa.map (λp=>D.tup<|p.1.map jB)=ks/\vs=oa.map (·.2)))/\bI K H ds vs
 |.ins c ns ds,v=>∃a C dx fs vs,v=V.ref a/\H a=some (.ins C dx fs)/\nsIn K mainGlobals (ofString c)=some (some<|.ref C)/\fs.map (·.1)=ns.map ofString/\vs=fs.map (·.2)/\bI K H ds vs
 |.Sg c ns ds,v=>∃a φ C,v=V.ref a/\H a=some (.ext φ)/\(∀h,φ h->V0 a C h)/\km K c C/\∃dx fs vs,((ns=[]/\vs=[])\/(φ=m6 a C (some dx)/\dx≠a/\H dx=some (.ext<|j6 dx fs)/\fs.map (·.1)=ns.map ofString/\vs=fs.map (·.2)))/\bI K H ds vs
 |.fn f,v=>∃a,v=V.ref a/\nsIn K mainGlobals (ofString f)=some (some<|.ref a)
def bI(K:Frag)(H:Hp):List D->List V->Prop
 |[],vs=>vs=[]
 |d::ds,vs=>∃v r,vs=v::r/\Fb K H d v/\bI K H ds r
end
def jw{K:Frag} {xs:List V} (e:bG H H') (h:Zg K H a xs):Zg K H' a xs:=by
 rcases h with (h|⟨o,h⟩)|h
 .exact .inl (.inl<|e _ _ h)
 .exact .inl (.inr ⟨o,e _ _ h⟩)
 .exact .inr h
mutual
theorem Fb.mono{K:Frag}{H H':Hp}(s:bG H H'):∀{d:D}{v:V},Fb K H d v->Fb K H' d v
 |.lc,_,h=>by unfold Fb at h ⊢; exact h
 |.bl _,_,h=>by unfold Fb at h ⊢; exact h
 |.int _,_,h=>by unfold Fb at h ⊢; exact h
 |.str _,_,h=>by unfold Fb at h ⊢; exact h
 |.tup _,_,h=>by
  unfold Fb at h ⊢;obtain⟨a,vs,e,q,r⟩:=h;exact⟨a,vs,e,s _ _ q,bI.mono s r⟩
 |.lst _,_,h=>by
  unfold Fb at h ⊢;obtain⟨a,vs,e,q,r,t⟩:=h;exact⟨a,vs,e,s.seq q,bI.mono s r,λz=>s _ _<|t z⟩
 |.Ve _ _ _,_,h=>by
  unfold Fb at h ⊢;obtain⟨a,vs,e,q,r⟩:=h;refine⟨a,vs,e,?_,bI.mono s r⟩;rcases q with ⟨q0,oa,q1,q2⟩|⟨q0,oa,q1,q2⟩
  .exact .inl ⟨q0,oa,s _ _ q1,q2⟩
  .exact .inr ⟨q0,oa,s _ _ q1,q2⟩
 |.ins _ _ _,_,h=>by
  unfold Fb at h ⊢;obtain⟨a,C,dx,fs,vs,e,q1,q2,q3,q4,r⟩:=h;exact⟨a,C,dx,fs,vs,e,s _ _ q1,q2,q3,q4,bI.mono s r⟩
 |.fn _,_,h=>by unfold Fb at h ⊢; exact h
 |.Sg _ _ _,_,h=>by
  unfold Fb at h ⊢;obtain⟨a,φ,C,e,q,hφ,hi,dx,fs,vs,h1,r⟩:=h;refine⟨a,φ,C,e,s _ _ q,hφ,hi,dx,fs,vs,?_,bI.mono s r⟩;rcases h1 with h1|⟨h1,h2,h3,h4⟩
  .exact .inl h1
  .exact .inr ⟨h1,h2,s _ _ h3,h4⟩
theorem bI.mono{K:Frag}{H H':Hp}(s:bG H H'):∀{ds:List D}{vs:List V},bI K H ds vs->bI K H' ds vs
 |[],_,h=>by unfold bI at h ⊢; exact h
 |d::ds,_,h=>by
  unfold bI at h ⊢;obtain⟨v,r,e,q,t⟩:=h;exact⟨v,r,e,Fb.mono s q,bI.mono s t⟩
end
section
variable{K:Frag}{H:Hp}
def rQ:Fb K H .lc v↔v=V.lc:=by unfold Fb;exact Iff.rfl
def cU:Fb K H (.bl b) v↔v=V.bl b:=by unfold Fb;exact Iff.rfl
def bR{i:Int}:Fb K H (.int i) v↔v=V.int i:=by unfold Fb;exact Iff.rfl
def fL{s:List Nat}:Fb K H (.str s) v↔v=V.str ⟨s.toArray⟩:=by unfold Fb;exact Iff.rfl
def mw:Fb K H (.tup ds) v↔∃a vs,v=V.ref a/\H a=some (.tup vs)/\bI K H ds vs:=by conv=>lhs;unfold Fb
def jK(h:Fb K H (.tup ds) v):∃a vs,v=V.ref a/\Zg K H a vs/\bI K H ds vs:=
 let ⟨a,vs,e,q,r⟩:=mw.mp h;⟨a,vs,e,Zg.of q,r⟩
def EI:Fb K H (.lst ds) v↔∃a vs,v=V.ref a/\Ae K H a vs/\bI K H ds vs/\(f6 ds=true->H a=some (.lst vs)):=by conv=>lhs;unfold Fb
structure PF(K:Frag)(H:Hp)(ds:List D)(v:V):Prop where
 mp:Fb K H (.lst ds) v->∃a vs,v=V.ref a/\Ae K H a vs/\bI K H ds vs
 mpr:(∃a vs,v=V.ref a/\H a=some (.lst vs)/\bI K H ds vs)->Fb K H (.lst ds) v
def jR:PF K H ds v:=⟨λh=>let ⟨a,vs,e,q,r,_⟩:=EI.mp h;⟨a,vs,e,q,r⟩,λ⟨a,vs,e,h,r⟩=>EI.mpr ⟨a,vs,e,Ae.of h,r,λ_=>h⟩⟩
def uN{t:Bool}{ks:List D}:Fb K H (.Ve t ks ds) v↔∃a vs,v=V.ref a/\((t=false/\∃oa:List (Dc×V),H a=some (.dK oa)/\oa.map (λp=>jB p.1)=ks/\vs=oa.map (·.2))\/(t=true/\∃oa:List (List Dc×V),H a=some (.dT oa)/\oa.map (λp=>D.tup<|p.1.map jB)=ks/\vs=oa.map (·.2)))/\bI K H ds vs:=by conv=>lhs;unfold Fb
def GB{ns:List String}:Fb K H (.ins c ns ds) v↔∃a C dx fs vs,v=V.ref a/\H a=some (.ins C dx fs)/\nsIn K mainGlobals (ofString c)=some (some<|.ref C)/\fs.map (·.1)=ns.map ofString/\vs=fs.map (·.2)/\bI K H ds vs:=by conv=>lhs;unfold Fb
def bI7{ns:List String}:Fb K H (.Sg c ns ds) v↔∃a φ C,v=V.ref a/\H a=some (.ext φ)/\(∀h,φ h->V0 a C h)/\km K c C/\∃dx fs vs,((ns=[]/\vs=[])\/(φ=m6 a C (some dx)/\dx≠a/\H dx=some (.ext<|j6 dx fs)/\fs.map (·.1)=ns.map ofString/\vs=fs.map (·.2)))/\bI K H ds vs:=by conv=>lhs;unfold Fb
def bMg{f:String}:Fb K H (.fn f) v↔∃a,v=V.ref a/\nsIn K mainGlobals (ofString f)=some (some<|.ref a):=by conv=>lhs;unfold Fb
def dU:bI K H [] vs↔vs=[]:=by unfold bI;exact Iff.rfl
def bZ{d:D}:bI K H (d::ds) vs↔∃v r,vs=v::r/\Fb K H d v/\bI K H ds r:=by conv=>lhs;unfold bI
def bI.nil:bI K H [] []:=dU.mpr rfl
def bI.cons{d:D}{ds:List D}{v:V}{vs:List V}(h:Fb K H d v)(t:bI K H ds vs):bI K H (d::ds) (v::vs):=bZ.mpr ⟨v,vs,rfl,h,t⟩
theorem bI.length:∀{ds:List D}{vs:List V},bI K H ds vs->vs.length=ds.length
 |[],_,h=>by rw[dU.mp h];rfl
 |_::ds,_,h=>by
  obtain⟨v,r,rfl,_,t⟩:=bZ.mp h;rw[Te,Te,bI.length t]
theorem bI.get:∀{ds:List D}{vs:List V}{i:Nat}{d:D},bI K H ds vs->ds[i]?=some d->∃v,vs[i]?=some v/\Fb K H d v
 |[],_,_,_,_,e=>by simp at e
 |_::ds,_,0,d,h,e=>by
  obtain⟨v,r,rfl,q,t⟩:=bZ.mp h;simp at e;subst e;exact⟨v,rfl,q⟩
 |_::ds,_,i+1,d,h,e=>by
  obtain⟨v,r,rfl,q,t⟩:=bZ.mp h;obtain⟨u,e1,e2⟩:=bI.get (i:=i) t (by simpa using e)
  exact⟨u,by simpa using e1,e2⟩
theorem bI.append:∀{ds es:List D}{vs us:List V},bI K H ds vs->bI K H es us->bI K H (ds++es) (vs++us)
 |[],_,_,_,h,t=>by rw[dU.mp h];exact t
 |_::_,_,_,_,h,t=>by
  obtain⟨v,r,rfl,q,w⟩:=bZ.mp h;exact .cons q<|bI.append w t
theorem bI.set{d:D}{v:V}(hd:Fb K H d v):∀{ds:List D}{vs:List V}(i:Nat),bI K H ds vs->bI K H (ds.set i d) (vs.set i v)
 |[],_,_,h=>by rw[dU.mp h];exact .nil
 |_::_,_,0,h=>by
  obtain⟨v,r,rfl,q,w⟩:=bZ.mp h;exact .cons hd w
 |_::_,_,i+1,h=>by
  obtain⟨v,r,rfl,q,w⟩:=bZ.mp h;exact .cons q<|bI.set hd i w
theorem bI.take:∀{ds:List D}{vs:List V}(n:Nat),bI K H ds vs->bI K H (ds.take n) (vs.take n)
 |_,_,0,_=>.nil
 |[],_,_+1,h=>by rw[dU.mp h];exact .nil
 |_::_,_,n+1,h=>by
  obtain⟨v,r,rfl,q,w⟩:=bZ.mp h;exact .cons q<|bI.take n w
theorem bI.drop:∀{ds:List D}{vs:List V}(n:Nat),bI K H ds vs->bI K H (ds.drop n) (vs.drop n)
 |_,_,0,h=>h
 |[],_,_+1,h=>by rw[dU.mp h];exact .nil
 |_::_,_,n+1,h=>by
  obtain⟨v,r,rfl,q,w⟩:=bZ.mp h;exact bI.drop n w
theorem bI.rep{ds:List D}{vs:List V}(h:bI K H ds vs):∀n:Nat,bI K H (Pu.rep n ds) (List.replicate n vs).flatten
 |0=>.nil
 |n+1=>by
  unfold Pu.rep;rw[Ko,Gr,Ko,Gr];exact h.append<|bI.rep h n
end
def hide(A:List Addr)(H:Hp):Hp:=λb=>if b∈A then none else H b
def jT{b:Addr}(h:b∈A):hide A H b=none:=kb h
def cR{b:Addr}(h:b∉A):hide A H b=H b:=gb h
def bN(A:List Addr)(H:Hp):bG (hide A H) H:=λb o h=>by
 unfold hide at h;split at h
 .cases h
 .exact h
theorem bG.hide{A:List Addr}{H H':Hp}(s:bG H H'):bG (hide A H) (hide A H'):=λb o h=>by
 unfold Pu.hide at h ⊢;split at h
 .cases h
 .rename_i q;rw[gb q];exact s b o h
def lL{A':List Addr} (h:∀a∈A',a∈A):bG (hide A H) (hide A' H):=λb o q=>by
 by_cases hb:b∈A
 .rw[jT hb]at q;cases q
 .rw[cR hb]at q;rw[cR λz=>hb<|h b z]
  exact q
def vP(H:Hp):hide [] H=H:=by
 funext b;exact cR (by simp)
def ow(h:a∈A):hide A (Ob H a o)=hide A H:=by
 funext b
 by_cases hb:b∈A
 .rw[jT hb,jT hb]
 .rw[cR hb,cR hb];exact bU λz=>hb<|z ▸ h
def cL{p:Addr} (h:H p=none):bG H (Ob H p o):=λb u q=>by
 rw[bU<|bJ q h];exact q
def nT:HO->Bool
 |.tup _=>false
 |_=>true
def W0{o:Option HO}(h:o.any nT=true):∃u,o=some u/\nT u=true:=by
 cases o with
 |none=>cases h
 |some u=>exact⟨u,rfl,h⟩
def Own(A:List Addr)(H:Hp):Prop:=∀a∈A,(H a).any nT=true
def Own.mono(h:Own A H)(s:bG H H'):Own A H':=λa ha=>by
 obtain⟨o,e,n⟩:=W0<|h a ha;rw[s a o e];exact n
def Own.free(h:Own A H){p:Addr}(e:H p=none):p∉A:=λz=>by
 have q:=h p z;rw[e]at q;cases q
def kJ{K:Frag} {p:Addr} (w:Own A H) (e:H p=none) (h:bI K (hide A H) ds vs):Fb K (hide A<|Ob H p<|.lst vs) (.lst ds) (.ref p):=
 jR.mpr ⟨p,vs,rfl,(by rw[cR<|w.free e];exact cD),h.mono<|bG.hide<|cL e⟩
def NR{K:Frag} {p:Addr} (w:Own A H) (e:H p=none) (h:bI K (hide A H) ds vs):Fb K (hide A<|Ob H p<|.tup vs) (.tup ds) (.ref p):=
 mw.mpr ⟨p,vs,rfl,(by rw[cR<|w.free e];exact cD),h.mono<|bG.hide<|cL e⟩
def Tp(K:Frag):OK->Addr->HO->List V->Prop
 |.l,_,o,vs=>o=.lst vs
 |.d t ks,_,o,vs=>(t=false/\∃oa:List (Dc×V),o=.dK oa/\oa.map (λp=>jB p.1)=ks/\vs=oa.map (·.2))\/(t=true/\∃oa:List (List Dc×V),o=.dT oa/\oa.map (λp=>D.tup<|p.1.map jB)=ks/\vs=oa.map (·.2))
 |.i n c ns,a,o,vs=>a=n/\∃C dx fs,o=.ins C dx fs/\nsIn K mainGlobals (ofString c)=some (some<|.ref C)/\fs.map (·.1)=ns.map ofString/\vs=fs.map (·.2)
def Tp.rep{K:Frag} {k:OK} (ko:Tp K k a o vs) (h:H a=some o) (r:bI K H ds vs):Fb K H (Ss k ds) (.ref a):=by
 cases k with
 |l=>have e:o=.lst vs:=ko;subst e;exact jR.mpr ⟨a,vs,rfl,h,r⟩
 |d t ks=>
  refine uN.mpr ⟨a,vs,rfl,?_,r⟩;rcases ko with ⟨q0,oa,rfl,q⟩|⟨q0,oa,rfl,q⟩
  .exact .inl ⟨q0,oa,h,q⟩
  .exact .inr ⟨q0,oa,h,q⟩
 |i n c ns=>
  obtain⟨_,C,dx,fs,rfl,q1,q2,q3⟩:=ko;exact GB.mpr ⟨a,C,dx,fs,vs,rfl,h,q1,q2,q3,r⟩
def Tp.nt{K:Frag}{k:OK} (ko:Tp K k a o vs):nT o=true:=by
 cases k with
 |l=>rw[show o=.lst vs from ko];rfl
 |d t ks=>rcases ko with ⟨_,_,rfl,_⟩|⟨_,_,rfl,_⟩ <;> rfl
 |i n c ns=>obtain⟨_,_,_,_,rfl,_⟩:=ko;rfl
structure RS(K:Frag)(B A:List Addr)(H:Hp)(st:ua)(σ:Zi):Prop where
 len:st.length=σ.length
 own:Own (A++B) H
 vi:∀a∈A,a∉B
 val:∀(i:Nat) d,st[i]?=some (some<|.v d)->∃v,σ[i]?=some (some v)/\Fb K (hide (A++B) H) d v
 lst:∀(i:Nat) k xs,st[i]?=some (some<|.o k xs)->∃a o vs,σ[i]?=some (some<|.ref a)/\a∈A/\H a=some o/\Tp K k a o vs/\bI K (hide (A++B) H) xs vs/\
  ∀(j:Nat) k' ys,st[j]?=some (some<|.o k' ys)->σ[j]?=some (some<|.ref a)->j=i
theorem RS.mono{K:Frag}{B A:List Addr}{H H':Hp}{st:ua}(r:RS K B A H st σ)(s:bG H H'):RS K B A H' st σ where
 len:=r.len
 own:=r.own.mono s
 vi:=r.vi
 val:=λi d e=>let ⟨v,e1,q⟩:=r.val i d e;⟨v,e1,q.mono<|bG.hide s⟩
 lst:=λi k xs e=>let ⟨a,o,vs,e1,m,h,ko,q,u⟩:=r.lst i k xs e;⟨a,o,vs,e1,m,s _ _ h,ko,q.mono<|bG.hide s,u⟩
def Le(A:List Addr)(H:Hp)(A':List Addr)(H':Hp):Prop:=bG (hide A H)<|hide A' H'
theorem Le.refl{A:List Addr}{H:Hp}:Le A H A H:=bG.refl _
def Le.of(s:bG H H'):Le A H A H':=bG.hide s
theorem Le.trans{A A1 A2:List Addr}{H H1 H2:Hp}(a:Le A H A1 H1)(b:Le A1 H1 A2 H2):Le A H A2 H2:=bG.trans a b
def tI(K:Frag)(B:List Addr)(f:Ex):TE:=λσ H Q=>∃A st d,RS K B A H st σ/\f st=.ok d/\∀v H',bG H H'->Fb K (hide (A++B) H') d v->Q v H'
def nJ(K:Frag)(A:List Addr)(H:Hp)(d:D)(v:V):Prop:=
 Fb K (hide A H) d v\/∃a k o ds vs,d=Ss k ds/\v=V.ref a/\H a=some o/\Tp K k a o vs/\bI K (hide A H) ds vs
theorem nJ.mono{K:Frag}{A:List Addr}{H H':Hp}{d:D}{v:V}(s:bG H H')(h:nJ K A H d v):nJ K A H' d v:=by
 rcases h with h|⟨a,k,o,ds,vs,e1,e2,e3,ko,q⟩
 .exact .inl (h.mono<|bG.hide s)
 .exact .inr ⟨a,k,o,ds,vs,e1,e2,s _ _ e3,ko,q.mono<|bG.hide s⟩
def tP(K:Frag)(B:List Addr)(f:Ex):TE:=λσ H Q=>∃A st d,RS K B A H st σ/\f st=.ok d/\∀v H',bG H H'->nJ K (A++B) H' d v->Q v H'
def tA(K:Frag)(B:List Addr)(f:ue):TA:=λσ H Q=>∃A st ds,RS K B A H st σ/\f st=.ok ds/\∀vs H',bG H H'->bI K (hide (A++B) H') ds vs->Q vs H'
def tT(K:Frag)(B:List Addr)(f:Ex):TT:=λσ H Q=>∃A st b,RS K B A H st σ/\f st=.ok (.bl b)/\∀H',bG H H'->Q b H'
def tO(K:Frag)(B:List Addr)(f:ot):TO:=λσ H Q=>∃A st o,RS K B A H st σ/\f st=.ok o/\∀H',bG H H'->Q o H'
def Cr(K:Frag)(B A:List Addr)(H:Hp)(r:Fl)(Dn:Ends):Prop:=match r with
 |.nx st'=>∀A' Eb H',Le A H A' H'->RS K B A' H' st' Eb->Dn.nx Eb H'
 |.bk st'=>∀A' Eb H',Le A H A' H'->RS K B A' H' st' Eb->Dn.bk Eb H'
 |.ct st'=>∀A' Eb H',Le A H A' H'->RS K B A' H' st' Eb->Dn.ct Eb H'
 |.rt d=>∀A' v H',Le A H A' H'->Fb K (hide (A'++B) H') d v->Dn.rt v H'
def Cr.mono{K:Frag} {r:Fl} (l:Le A H A1 H1) (p:Cr K B A H r Dn):Cr K B A1 H1 r Dn:=by
 cases r with
 |nx st=>exact λA' Eb H' l'=>p A' Eb H'<|l.trans l'
 |bk st=>exact λA' Eb H' l'=>p A' Eb H'<|l.trans l'
 |ct st=>exact λA' Eb H' l'=>p A' Eb H'<|l.trans l'
 |rt d=>exact λA' v H' l'=>p A' v H'<|l.trans l'
def tS(K:Frag)(B:List Addr)(b:Bd):TS:=λDn σ H=>∃A st r,RS K B A H st σ/\b st=.ok r/\Cr K B A H r Dn
def Bu(K:Frag)(B A:List Addr)(H:Hp)(J:It)(ds:List D):Prop:=∀A' H',Le A H A' H'->Own (A'++B) H'->∀(i:Nat),
 (∀d,ds[i]?=some d->J.go i H'/\∀x H3,J.Vv i H' x H3->bG H' H3/\Fb K (hide (A'++B) H3) d x)/\(ds.length<=i->J.stop i H')
def Xl(K:Frag)(B:List Addr)(f:rn):TI:=λσ H R=>∃A st ds,RS K B A H st σ/\f st=.ok ds/\∀J H',bG H H'->Bu K B A H' J ds->R J H'
def tG(K:Frag)(B:List Addr)(g:Tg):TG:=λv σ H Q=>∃A st d s1,RS K B A H st σ/\Fb K (hide (A++B) H) d v/\g d st=.ok s1/\∀Eb,RS K B A H s1 Eb->Q Eb H
section
def cP{t t':TE}(h:PE X e t)(m:∀σ H Q,t' σ H Q->t σ H Q):PE X e t':=λaa s σ H Q I q=>h aa s σ H Q I<|m σ H Q q
def EC{t t':TT}(h:PT X e t)(m:∀σ H Q,t' σ H Q->t σ H Q):PT X e t':=λaa s σ H Q I q=>h aa s σ H Q I<|m σ H Q q
def PZ{t t':TT}(h:PW X e t)(m:∀σ H Q,t' σ H Q->t σ H Q):PW X e t':=λw aa s σ H Q I q=>h w aa s σ H Q I<|m σ H Q q
def QZ{t t':TA}(h:PA X es t)(m:∀σ H Q,t' σ H Q->t σ H Q):PA X es t':=λpos aa s σ H Q I q=>h pos aa s σ H Q I<|m σ H Q q
def RZ{e:Option Expr}{t t':TO}(h:PO X e t)(m:∀σ H Q,t' σ H Q->t σ H Q):PO X e t':=λaa s σ H Q I q=>h aa s σ H Q I<|m σ H Q q
def gU{st:Stmt}{t t':TS}(h:PS X st t)(m:∀D σ H,t' D σ H->t D σ H):PS X st t':=λaa s σ H D I q=>h aa s σ H D I<|m D σ H q
def wW{st:List Stmt}{t t':TS}(h:we X st t)(m:∀D σ H,t' D σ H->t D σ H):we X st t':=λaa s σ H D I q=>h aa s σ H D I<|m D σ H q
def TZ{t t':TG}(h:PG X e t)(m:∀v σ H Q,t' v σ H Q->t v σ H Q):PG X e t':=λaa s σ H v u Q I r q=>h aa s σ H v u Q I r<|m v σ H Q q
def GK{t t':TI}(h:L2.PI X tg e t)(m:∀σ H R,t' σ H R->t σ H R):L2.PI X tg e t':=λaa s σ H R I q=>h aa s σ H R I<|m σ H R q
end
section
variable {a b:Expr} {h:Ex}
def aD(hN:X.N[i]?=some x:=by rfl)(hv:Ei X.env.scope x:=by exact ll rfl)(hd:xf x:=by decide)
  (af:kl x:=by decide):PE X (.Name x pos) (tI X.K B<|aA i):=by
 refine cP (tE hN hv hd af) ?_
 rintro σ H Q ⟨A,st,d,rs,hd,q⟩;unfold aA at hd;split at hd
 .rename_i d' e;cases hd;obtain⟨v,e1,r⟩:=rs.val i _ e;exact⟨v,e1,q v H (bG.refl _) r⟩
 .cases hd
end
end Pu
variable{σ τ:Pu.Zi}
namespace Pu
open PySem PySem.Spec PyProof.Rows L2
section
variable{X:Cx}{B:List Addr}{a b e:Expr}{f g:Ex}{pos:Pos}
def Qv(h:PE X e (tC v))(r:∀H,Fb X.K H d v):PE X e (tI X.K B<|eC d):=cP h (by
 rintro σ H Q ⟨A,st,d',rs,hd,q⟩;cases hd;exact q v H (bG.refl _)<|r _)
def fH{i:Int}:PE X (.Constant (.int i) j pos) (tI X.K B<|eC<|.int i):=Qv bKh λ_=>bR.mpr rfl
def oE{q:Bool}:PE X (.Constant (.bool q) j pos) (tI X.K B<|eC<|.bl q):=Qv bO0 λ_=>cU.mpr rfl
def nu:PE X (.Constant .none j pos) (tI X.K B<|eC .lc):=Qv bKi λ_=>rQ.mpr rfl
def yx(s:List Nat)(hx:x=⟨s.toArray⟩:=by first|rfl|decide|decide+kernel):PE X (.Constant (.str x) j pos) (tI X.K B<|eC<|.str s):=Qv bKj λ_=>fL.mpr (by rw[hx])
def FC{y:Str}{t:Tok}(s:List Nat)(hm:X.mg x=some (.str y t))(hg:Gl X x:=by rfl)(hy:y=⟨s.toArray⟩:=by first|rfl|decide|decide+kernel)(hd:xf x:=by decide):PE X (.Name x pos) (tI X.K B<|eC<|.str s):=
 Qv (oB (v:=.str y) hg hm ⟨t,rfl⟩ hd) λ_=>fL.mpr (by rw[hy])
def UZ{i:Int}{t:Tok}(hm:X.mg x=some (.int i t))(hg:Gl X x:=by rfl)(hd:xf x:=by decide):PE X (.Name x pos) (tI X.K B<|eC<|.int i):=
 Qv (oB (v:=.int i) hg hm ⟨t,rfl⟩ hd) λ_=>bR.mpr rfl
def Ha(h:PE X e (tI X.K B f)):PE X e (tP X.K B f):=cP h (by
 rintro σ H Q ⟨A,st,d,rs,hd,q⟩;exact⟨A,st,d,rs,hd,λv H' s r=>q v H' s<|.inl r⟩)
def mQ(hN:X.N[i]?=some x:=by rfl)(hv:Ei X.env.scope x:=by exact ll rfl)(hd:xf x:=by decide)
  (af:kl x:=by decide):PE X (.Name x pos) (tP X.K B<|lO i):=by
 refine cP (tE hN hv hd af) ?_
 rintro σ H Q ⟨A,st,d,rs,hd,q⟩;unfold lO at hd;split at hd
 .rename_i d' e;cases hd;obtain⟨v,e1,r⟩:=rs.val i _ e;exact⟨v,e1,q v H (bG.refl _)<|.inl r⟩
 .rename_i k xs e;cases hd;obtain⟨a,o,vs,e1,m,h,ko,r,_⟩:=rs.lst i _ _ e;exact⟨_,e1,q _ H (bG.refl _)<|.inr ⟨a,_,o,xs,vs,rfl,rfl,h,ko,r⟩⟩
 .cases hd
section
variable{K:Frag}
theorem nJ.lc(h:nJ K A H .lc v):v=V.lc:=by
 rcases h with h|⟨_,k,_,_,_,e,_⟩
 .exact rQ.mp h
 .cases k<;>cases e
theorem nJ.bl{q:Bool}(h:nJ K A H (.bl q) v):v=V.bl q:=by
 rcases h with h|⟨_,k,_,_,_,e,_⟩
 .exact cU.mp h
 .cases k<;>cases e
theorem nJ.int{i:Int}(h:nJ K A H (.int i) v):v=V.int i:=by
 rcases h with h|⟨_,k,_,_,_,e,_⟩
 .exact bR.mp h
 .cases k<;>cases e
theorem nJ.str{s:List Nat}(h:nJ K A H (.str s) v):v=V.str ⟨s.toArray⟩:=by
 rcases h with h|⟨_,k,_,_,_,e,_⟩
 .exact fL.mp h
 .cases k<;>cases e
theorem nJ.tup{ds:List D}(h:nJ K A H (.tup ds) v):∃a vs,v=V.ref a/\Zg K H a vs/\bI K (hide A H) ds vs:=by
 rcases h with h|⟨_,k,_,_,_,e,_⟩
 .obtain⟨a,vs,e,q,r⟩:=jK h;exact⟨a,vs,e,jw (bN _ _) q,r⟩
 .cases k<;>cases e
theorem nJ.lst{ds:List D}(h:nJ K A H (.lst ds) v):∃a vs,v=V.ref a/\Ae K H a vs/\bI K (hide A H) ds vs:=by
 rcases h with h|⟨a,k,o,ME,vs,e,e2,h,ko,r⟩
 .obtain⟨a,vs,e,q,r⟩:=jR.mp h;exact⟨a,vs,e,(bN _ _).seq q,r⟩
 .cases k<;>cases e;have e3:o=.lst vs:=ko;subst e3;exact⟨a,vs,e2,Ae.of h,r⟩
end
def yX(K:Frag)(r:R2)(o:Yf):Prop:=∀(A:List Addr)(H:Hp)(x y d:D)(v u:V)(Q:VK),Own A H->nJ K A H x v->nJ K A H y u->o x y=.ok d->
 (∀w H',bG H H'->Fb K (hide A H') d w->Q w H')->r v u H Q
def GC{r:R2}{o:Yf}(wl:yX X.K r o) {Q:VK} (h:tI X.K B (e2 o f g) σ H Q):Hz r (tP X.K B f) (tP X.K B g) σ H Q:=by
 obtain⟨A,st,d,rs,hd,q⟩:=h;obtain⟨x,hx,h2⟩:=R.ma hd;obtain⟨y,hy,h3⟩:=R.ma h2;refine⟨A,st,x,rs,hx,λv H1 s1 r1=>⟨A,st,y,rs.mono s1,hy,λu H2 s2 r2=>?_⟩⟩
 exact wl (A++B) H2 x y d v u Q (rs.own.mono<|s1.trans s2) (r1.mono s2) r2 h3 λw H' s' r'=>q w H' (s1.trans<|s2.trans s') r'
def ym{op:Operator}{r:R2}{o:Yf}(ho:Oe X (binaryOp op) r)(wl:yX X.K r o)(ha:PE X a (tP X.K B f))(hb:PE X b (tP X.K B g)):PE X (.BinOp a op b pos) (tI X.K B<|e2 o f g):=
 cP (B0 ho ha hb) λ_ _ _ h=>GC wl h
def fV{r:R2}{o:Yf}(ho:Oe X (compareOp op) r)(wl:yX X.K r o)(ha:PE X a (tP X.K B f))(hb:PE X b (tP X.K B g))(hm:behindInMarks op b=false:=by first|exact RY _|rfl):PE X (.Compare a [op] [b] pos) (tI X.K B<|e2 o f g):=
 cP (bGc ho ha hb hm) λ_ _ _ h=>GC wl h
def IL{f:Ex} {Q:Bool->Hp->Prop} (h:tT X.K B f σ H Q):tI X.K B f σ H λx H'=>∃k,x=.bl k/\Q k H':=by
 obtain⟨A,st,k,rs,hk,q⟩:=h;exact⟨A,st,.bl k,rs,hk,λv H' s r=>⟨k,cU.mp r,q H' s⟩⟩
def bY{r:R2}{o:Yf}(ho:Oe X (compareOp op) r)(wl:yX X.K r o)(ha:PE X a (tP X.K B f))(hb:PE X b (tP X.K B g))(hm:behindInMarks op b=false:=by first|exact RY _|rfl):PT X (.Compare a [op] [b] pos) (tT X.K B<|e2 o f g):=
 EC (bGd ho ha hb hm) λ_ _ _ h=>GC wl<|IL h
def fK{f:Ex}(h:PE X e (tI X.K B f))(he:∀whole,isTrue e X.env whole=(do let v <- whole;standAt e.pos;holding [v] (truthy v)):=by intro _;rfl):PT X e (tT X.K B f):=
 EC (bKk h he) λ_ _ _ q=>IL q
def wX{K:Frag}{g:Int->Int->D} {o:Yf} (hr:∀H i j,Fb K H (g i j)<|gv i j) (ho:∀x y d,o x y=.ok d->∃i j,x=.int i/\y=.int j/\d=g i j):yX K (mj gv) o:=by
 intro A H x y d v u Q w rx ry e q;obtain⟨i,j,rfl,rfl,rfl⟩:=ho x y d e;exact⟨i,j,rx.int,ry.int,q _ H (bG.refl _)<|hr _ _ _⟩
def Uw{K:Frag}{C:Int->Int->Prop}{g:Int->Int->D} {o:Yf} (hr:∀H i j,Fb K H (g i j)<|gv i j) (ho:∀x y d,o x y=.ok d->∃i j,x=.int i/\y=.int j/\C i j/\d=g i j):yX K (rI C gv) o:=by
 intro A H x y d v u Q w rx ry e q;obtain⟨i,j,rfl,rfl,c,rfl⟩:=ho x y d e;exact⟨i,j,rx.int,ry.int,c,q _ H (bG.refl _)<|hr _ _ _⟩
def Ax(ha:PE X a (tP X.K B f))(hb:PE X b (tP X.K B g)):PE X (.BinOp a .Sub b pos) (tI X.K B<|e2 An f g):=
 ym bKx (wX (g:=λi j=>.int<|i-j) (λ_ _ _=>bR.mpr rfl) λx y d e=>by
  unfold An at e;split at e
  .cases e;exact⟨_,_,rfl,rfl,rfl⟩
  .cases e) ha hb
def Ww(ha:PE X a (tP X.K B f))(hb:PE X b (tP X.K B g)):PE X (.BinOp a .FloorDiv b pos) (tI X.K B<|e2 qm f g):=
 ym bGa (Uw (g:=λi j=>.int<|i/j) (λ_ _ _=>bR.mpr rfl) λx y d e=>by
  unfold qm at e;split at e
  .obtain⟨c,e⟩:=aU e;cases e;exact⟨_,_,rfl,rfl,c,rfl⟩
  .cases e) ha hb
def qL(ha:PE X a (tP X.K B f))(hb:PE X b (tP X.K B g)):PE X (.BinOp a .Mod b pos) (tI X.K B<|e2 pL f g):=
 ym bKz (Uw (g:=λi j=>.int<|i%j) (λ_ _ _=>bR.mpr rfl) λx y d e=>by
  unfold pL at e;split at e
  .obtain⟨c,e⟩:=aU e;cases e;exact⟨_,_,rfl,rfl,c,rfl⟩
  .cases e) ha hb
def eL(ha:PE X a (tP X.K B f))(hb:PE X b (tP X.K B g)):PE X (.BinOp a .Pow b pos) (tI X.K B<|e2 xo f g):=
 ym bL0 (Uw (g:=λi j=>.int<|i^j.toNat) (λ_ _ _=>bR.mpr rfl) λx y d e=>by
  unfold xo at e;split at e
  .obtain⟨c,e⟩:=aU e;cases e;exact⟨_,_,rfl,rfl,c,rfl⟩
  .cases e) ha hb
def bPt(K:Frag):R2:=λx y H Q=>∃l b xs zs,x=.ref l/\y=.ref b/\Ae K H l xs/\Ae K H b zs/\xs.length+zs.length<=sizeLine/\∀p,H p=none->Q (.ref p) (Ob H p<|.lst<|xs++zs)
def bI8:Oe X (binaryOp .Add) (bPt X.K):=by
 intro aa s σ H x y v u Q I rx ry h;obtain⟨l,b,xs,zs,rfl,rfl,hH,hB,hz,q⟩:=h;cases rx;cases ry;obtain⟨Sa,r,⟨⟨cls,dd,data,sl⟩,n,ho,hc,_,hd⟩,z⟩:=I.list hH;obtain⟨Zh,r2,⟨⟨cls2,ZM,data2,bt⟩,n2,p5,Py,_,hd2⟩,z2⟩:=I.list hB;simp only at hc hd Py hd2;subst hc hd Py hd2;have l1:=r.length;have l2:=r2.length;refine concat_meets ⟨_,ho,rfl⟩ ⟨_,p5,rfl⟩ noFill_list_add seq_list_add PySem.F.slot_list_add PySem.F.entry_list_add (PySem.F.args_list_add_2 _ _) (list_addW l b Sa.toArray Zh.toArray n n2 dd ZM sl bt<|by simp only[List.size_toArray];omega) ⟨ho,p5,?_⟩
 have ea:Sa.toArray++Zh.toArray=(Sa++Zh).toArray:=by simp
 rw[ea];exact⟨.ref _,_,I.Ks (t':=s.toks) (r.append r2) (by rw[Wf];omega),rfl,q _ I.fresh⟩
def bI9(x y:List Nat):(⟨x.toArray⟩:Str)++(⟨y.toArray⟩:Str)=⟨(x++y).toArray⟩:=by
 show Str.append _ _=_;unfold Str.append;simp
def str_len(x:List Nat):(⟨x.toArray⟩:Str).length=x.length:=by simp[Str.length]
def lim(h:n<=big):n<=sizeLine:=bf (by rw[pM]at h;exact h:n<=10000000) (by decide)
def oF(ha:PE X a (tP X.K B f))(hb:PE X b (tP X.K B g)):PE X (.BinOp a .Add b pos) (tI X.K B<|e2 qM f g):=by
 refine ym (bKw.or<|ϣ.or bI8) ?_ ha hb;intro A H x y d v u Q w rx ry e q;cases x<;>cases y<;>first|(cases e;done)|skip
 .cases e;exact .inl ⟨_,_,rx.int,ry.int,q _ H (bG.refl _)<|bR.mpr rfl⟩
 .obtain⟨c,e⟩:=aU e;cases e;exact .inr<|.inl ⟨_,_,rx.str,ry.str,by rw[str_len,str_len];exact lim c,q _ H (bG.refl _)<|fL.mpr<|by rw[bI9]⟩
 .obtain⟨c,e⟩:=aU e;cases e;obtain⟨l,xs,e1,h1,r1⟩:=rx.lst;obtain⟨m,ys,e2,h2,r2⟩:=ry.lst;have l1:=r1.length;have l2:=r2.length;refine .inr (.inr ⟨l,m,xs,ys,e1,e2,h1,h2,by rw[l1,l2];exact lim c,λp hp=>q _ _ (cL hp) ?_⟩)
  exact kJ w hp<|r1.append r2
def Vt{K:Frag}:yX K (mj λi j=>.bl<|decide (i<=j)) Qi:=wX (g:=λi j=>.bl<|decide (i<=j)) (λ_ _ _=>cU.mpr rfl) λx y d e=>by
 unfold Qi at e;split at e
 .cases e;exact⟨_,_,rfl,rfl,rfl⟩
 .cases e
def Xw{K:Frag}:yX K (mj λi j=>.bl<|decide (j<i)) Fq:=wX (g:=λi j=>.bl<|decide (j<i)) (λ_ _ _=>cU.mpr rfl) λx y d e=>by
 unfold Fq at e;split at e
 .cases e;exact⟨_,_,rfl,rfl,rfl⟩
 .cases e
def HK{K:Frag}:yX K (mj λi j=>.bl<|decide (j<=i)) zv:=wX (g:=λi j=>.bl<|decide (j<=i)) (λ_ _ _=>cU.mpr rfl) λx y d e=>by
 unfold zv at e;split at e
 .cases e;exact⟨_,_,rfl,rfl,rfl⟩
 .cases e
theorem nJ.ref{K:Frag}{A:List Addr}{H:Hp}{d:D}{v:V}(h:nJ K A H d v)(h1:d≠.lc)(h2:∀b,d≠.bl b)(h3:∀i,d≠.int i)(h4:∀s,d≠.str s):∃a,v=V.ref a:=by
 rcases h with h|⟨a,_,_,_,_,_,e,_⟩
 .cases d with
  |lc=>exact(h1 rfl).elim
  |bl b=>exact(h2 b rfl).elim
  |int i=>exact(h3 i rfl).elim
  |str s=>exact(h4 s rfl).elim
  |tup _=>obtain⟨a,_,e,_⟩:=jK h;exact⟨a,e⟩
  |lst _=>obtain⟨a,_,e,_⟩:=jR.mp h;exact⟨a,e⟩
  |Ve _ _ _=>obtain⟨a,_,e,_⟩:=uN.mp h;exact⟨a,e⟩
  |ins _ _ _=>obtain⟨a,_,_,_,_,e,_⟩:=GB.mp h;exact⟨a,e⟩
  |Sg _ _ _=>obtain⟨a,_,_,e,_⟩:=bI7.mp h;exact⟨a,e⟩
  |fn _=>obtain⟨a,e,_⟩:=bMg.mp h;exact⟨a,e⟩
 .exact⟨a,e⟩
def bIa{K:Frag} (h:nJ K A H d v):decide (v=V.lc)=jk d:=by
 cases d with
 |lc=>rw[h.lc];rfl
 |bl _=>rw[h.bl];rfl
 |int _=>rw[h.int];rfl
 |str _=>rw[h.str];rfl
 |tup _=>obtain⟨a,vs,e,_⟩:=h.tup;rw[e];rfl
 |lst _=>obtain⟨a,vs,e,_⟩:=h.lst;rw[e];rfl
 |Ve _ _ _=>obtain⟨a,e⟩:=h.ref (by intro z;cases z) (by intro _ z;cases z) (by intro _ z;cases z) (by intro _ z;cases z);rw[e];rfl
 |ins _ _ _=>obtain⟨a,e⟩:=h.ref (by intro z;cases z) (by intro _ z;cases z) (by intro _ z;cases z) (by intro _ z;cases z);rw[e];rfl
 |Sg _ _ _=>obtain⟨a,e⟩:=h.ref (by intro z;cases z) (by intro _ z;cases z) (by intro _ z;cases z) (by intro _ z;cases z);rw[e];rfl
 |fn _=>obtain⟨a,e⟩:=h.ref (by intro z;cases z) (by intro _ z;cases z) (by intro _ z;cases z) (by intro _ z;cases z);rw[e];rfl
def hV(n:Nat)(i:Int):L2.vh n i=Pu.vh n i:=rfl
theorem bI.de{K:Frag}{H:Hp}{ds:List D}{vs:List V}{i:Int}{d:D}(r:bI K H ds vs)(e:Pu.de ds i=some d):∃v,L2.de vs i=some v/\Fb K H d v:=by
 unfold Pu.de at e;unfold L2.de;rw[r.length,hV];cases h:Pu.vh ds.length i with
 |none=>rw[h]at e;cases e
 |some j=>
  rw[h]at e;exact r.get e
def Yp{o:Option α}{a:α}(h:Oh o=.ok a):o=some a:=by
 cases o with
 |none=>cases h
 |some b=>cases h;rfl
def bMi{K:Frag}{x:D}(hd:R1 x=false)(A:List Addr)(H:Hp)(x' y d:D)(v u:V)(Q:VK)(w:Own A H)(rx:nJ K A H x v)(ry:nJ K A H y u)(e:Mb x y=.ok d)(q:∀w H',bG H H'->Fb K (hide A H') d w->Q w H'):iP K v u H Q:=by
 cases x<;>first|(cases hd;done)|skip
 all_goals cases y
 all_goals first|(cases e;done)|skip
 .rename_i s i;obtain⟨hz,e⟩:=aU e;have e:=Yp e;cases h:Pu.de s i with
  |none=>rw[h]at e;cases e
  |some c=>
   rw[h]at e;cases e;refine .inr<|.inr ⟨_,i,c,rx.str,ry.int,by rw[str_len];exact lim hz,?_,q _ H (bG.refl _)<|fL.mpr rfl⟩
   show L2.de s.toArray.toList i=some c;rw[ZL];exact h
 .rename_i ds i;have h:=Yp (show Oh (Pu.de ds i)=.ok d from e)
  obtain⟨l,xs,e1,h1,r1⟩:=rx.tup;obtain⟨z,h2,r2⟩:=r1.de h;exact .inr<|.inl ⟨l,xs,i,z,e1,ry.int,h1,h2,q _ H (bG.refl _) r2⟩
 .rename_i ds i;have h:=Yp (show Oh (Pu.de ds i)=.ok d from e)
  obtain⟨l,xs,e1,h1,r1⟩:=rx.lst;obtain⟨z,h2,r2⟩:=r1.de h;exact .inl ⟨l,xs,i,z,e1,ry.int,h1,h2,q _ H (bG.refl _) r2⟩
def pY(h:PE X a (tI X.K B f)):PE X (.BoolOp .And [a] pos) (tI X.K B f):=PY h
def X0(h:PE X a (tI X.K B f)):PE X (.BoolOp .Or [a] pos) (tI X.K B f):=PY h
def uB{rest:List Expr}(ha:PE X a (tI X.K B f))(hb:PE X (.BoolOp .And (b::rest) pos) (tI X.K B g)):PE X (.BoolOp .And (a::b::rest) pos) (tI X.K B<|mY f g):=by
 refine cP (bKo ha hb) ?_
 rintro σ H Q ⟨A,st,d,rs,hd,q⟩;obtain⟨x,hx,h2⟩:=R.ma hd;obtain⟨k,rfl,h3⟩:=uX h2;refine⟨A,st,_,rs,hx,λv H1 s1 r1=>⟨k,cU.mp r1,?_⟩⟩
 cases k with
 |true=>exact⟨A,st,d,rs.mono s1,h3,λw H' s' r'=>q w H' (s1.trans s') r'⟩
 |false=>cases h3;exact q _ H1 s1<|cU.mpr rfl
def C2{rest:List Expr}(ha:PE X a (tI X.K B f))(hb:PE X (.BoolOp .Or (b::rest) pos) (tI X.K B g)):PE X (.BoolOp .Or (a::b::rest) pos) (tI X.K B<|Ql f g):=by
 refine cP (bO4 ha hb) ?_
 rintro σ H Q ⟨A,st,d,rs,hd,q⟩;obtain⟨x,hx,h2⟩:=R.ma hd;obtain⟨k,rfl,h3⟩:=uX h2;refine⟨A,st,_,rs,hx,λv H1 s1 r1=>⟨k,cU.mp r1,?_⟩⟩
 cases k with
 |true=>cases h3;exact q _ H1 s1<|cU.mpr rfl
 |false=>exact⟨A,st,d,rs.mono s1,h3,λw H' s' r'=>q w H' (s1.trans s') r'⟩
def ou(ha:PE X a (tI X.K B f)):PE X (.UnaryOp .Not a pos) (tI X.K B<|lQ f):=by
 refine cP (bKp ha) ?_
 rintro σ H Q ⟨A,st,d,rs,hd,q⟩;obtain⟨x,hx,h2⟩:=R.ma hd;obtain⟨k,rfl,h3⟩:=uX h2;cases h3;exact⟨A,st,_,rs,hx,λv H1 s1 r1=>⟨k,cU.mp r1,q _ H1 s1<|cU.mpr rfl⟩⟩
def zW(h:PT X a (tT X.K B f)):PW X (.BoolOp .And [a] pos) (tT X.K B f):=bG6 h
def gL(h:PT X a (tT X.K B f)):PW X (.BoolOp .Or [a] pos) (tT X.K B f):=bKl h
def so{rest:List Expr}(ha:PT X a (tT X.K B f))(hb:PW X (.BoolOp .And (b::rest) pos) (tT X.K B g)):PW X (.BoolOp .And (a::b::rest) pos) (tT X.K B<|mY f g):=by
 refine PZ (bKm ha hb) ?_
 rintro σ H Q ⟨A,st,d,rs,hd,q⟩;obtain⟨x,hx,h2⟩:=R.ma hd;obtain⟨k,rfl,h3⟩:=uX h2;refine⟨A,st,k,rs,hx,λH1 s1=>?_⟩
 cases k with
 |true=>exact⟨A,st,d,rs.mono s1,h3,λH' s'=>q H'<|s1.trans s'⟩
 |false=>cases h3;exact q H1 s1
def Qx{rest:List Expr}(ha:PT X a (tT X.K B f))(hb:PW X (.BoolOp .Or (b::rest) pos) (tT X.K B g)):PW X (.BoolOp .Or (a::b::rest) pos) (tT X.K B<|Ql f g):=by
 refine PZ (bO1 ha hb) ?_
 rintro σ H Q ⟨A,st,d,rs,hd,q⟩;obtain⟨x,hx,h2⟩:=R.ma hd;obtain⟨k,rfl,h3⟩:=uX h2;refine⟨A,st,k,rs,hx,λH1 s1=>?_⟩
 cases k with
 |true=>cases h3;exact q H1 s1
 |false=>exact⟨A,st,d,rs.mono s1,h3,λH' s'=>q H'<|s1.trans s'⟩
def oG(ha:PT X a (tT X.K B f)):PT X (.UnaryOp .Not a pos) (tT X.K B<|lQ f):=by
 refine EC (bKn ha) ?_
 rintro σ H Q ⟨A,st,d,rs,hd,q⟩;obtain⟨x,hx,h2⟩:=R.ma hd;obtain⟨k,rfl,h3⟩:=uX h2;cases h3;exact⟨A,st,k,rs,hx,λH1 s1=>q H1 s1⟩
def iL{c:Expr}{t:Ex}(hc:PT X c (tT X.K B t))(ha:PE X a (tI X.K B f))(hb:PE X b (tI X.K B g)):PE X (.IfExp c a b pos) (tI X.K B<|Gq t f g):=by
 refine cP (į hc ha hb) ?_
 rintro σ H Q ⟨A,st,d,rs,hd,q⟩;obtain⟨x,hx,h2⟩:=R.ma hd;obtain⟨k,rfl,h3⟩:=uX h2;refine⟨A,st,k,rs,hx,λH1 s1=>?_⟩
 cases k with
 |true=>exact⟨A,st,d,rs.mono s1,h3,λw H' s' r'=>q w H' (s1.trans s') r'⟩
 |false=>exact⟨A,st,d,rs.mono s1,h3,λw H' s' r'=>q w H' (s1.trans s') r'⟩
def aM:PA X [] (tA X.K B aP):=QZ gM (by
 rintro σ H Q ⟨A,st,d,rs,hd,q⟩;cases hd;exact q [] H (bG.refl _) .nil)
def aB{r:ue}(ha:PE X e (tI X.K B f))(hr:PA X es (tA X.K B r))(hs:Lf e es X.env:=by rfl):PA X (e::es) (tA X.K B<|aC f r):=by
 refine QZ (cJ ha hr hs) ?_
 rintro σ H Q ⟨A,st,ds,rs,hd,q⟩;obtain⟨x,hx,h2⟩:=R.ma hd;obtain⟨xs,Js,h3⟩:=R.ma h2;cases h3;refine⟨A,st,x,rs,hx,λv H1 s1 r1=>⟨A,st,xs,rs.mono s1,Js,λvs H2 s2 r2=>?_⟩⟩
 exact q _ H2 (s1.trans s2)<|.cons (r1.mono<|bG.hide s2) r2
def YC{r:ue} (h:PA X es (tA X.K B r)):PE X (.Tuple es x1 pos) (tI X.K B<|yu r):=by
 refine cP (bL8 h) ?_
 rintro σ H Q ⟨A,st,d,rs,hd,q⟩;obtain⟨xs,hx,h2⟩:=R.ma hd;obtain⟨c,h3⟩:=aU h2;cases h3;refine⟨A,st,xs,rs,hx,λvs H1 s1 r1=>⟨by rw[r1.length];exact lim c,λp hp=>q _ _ (s1.trans<|cL hp) ?_⟩⟩
 exact NR (rs.own.mono s1) hp r1
def uC{r:ue}(h:PA X es (tA X.K B r)):PE X (.List es pos) (tI X.K B<|jP r):=by
 refine cP (UJ h) ?_
 rintro σ H Q ⟨A,st,d,rs,hd,q⟩;obtain⟨xs,hx,h2⟩:=R.ma hd;obtain⟨c,h3⟩:=aU h2;cases h3;refine⟨A,st,xs,rs,hx,λvs H1 s1 r1=>⟨by rw[r1.length];exact lim c,λp hp=>q _ _ (s1.trans<|cL hp) ?_⟩⟩
 exact kJ (rs.own.mono s1) hp r1
def jc(K:Frag)(np:Nat)(p:List D->R D):Sp:=λvs H Q _=>∃A ds d,Own A H/\bI K (hide A H) ds vs/\ds.length=np/\p ds=.ok d/\∀v H',bG H H'->Fb K (hide A H') d v->Q v H'
def bMj{k:Nat} {r:ue} (F:Aa X.prog X.w X.K X.mg X.base Ib k fa fd ps (jc X.K np p)) (hr:dc k X.A) (hm:X.mg x=some (.ref fa))
  (hk:keepIn X.K (.ref fa)=true) (hb:Binds X.K fd ps []) (hl:∀ds d,p ds=.ok d->ds.length=np) (ha:PA X (e::es) (tA X.K B r)) (hg:Gl X x:=by rfl) (Rf:xf x:=by decide)
  (he:Lf e es X.env:=by rfl) (ff:Ci pos es X.env:=by rfl) :
  PE X (.Call (.Name x p0) (e::es) [] pos) (tI X.K B<|aO p r):=by
 refine cP (LI F hr hg hm hk hb .nil ix ha Rf he ff) ?_
 rintro σ H Q ⟨A,st,d,rs,hd,q⟩;obtain⟨xs,hx,h2⟩:=R.ma hd;refine⟨A,st,xs,rs,hx,λvs H1 s1 r1=>?_⟩
 show jc X.K np p (vs++[]) H1 Q E0;rw[uh];exact⟨A++B,xs,d,rs.own.mono s1,r1,hl _ _ h2,h2,λw H' s' r'=>q w H' (s1.trans s') r'⟩
end
def Jt(a b:Dc):Ag (jB a) (jB b)=decide (a=b):=by
 cases a with
 |inl i=>
  cases b with
  |inl j=>unfold jB Ag;rw[LY]
  |inr y=>unfold jB Ag;rw[NY]
 |inr x=>
  cases b with
  |inl j=>unfold jB Ag;rw[OY]
  |inr y=>
   unfold jB Ag;rw[MY,ay,Sj,Jg];constructor
   .intro h;cases x;cases y;congr 1;exact ext' h
   .rintro rfl;rfl
theorem nV:∀(a b:List Dc),zr (a.map jB) (b.map jB)=decide (a=b)
 |[],[]=>by unfold zr;simp
 |[],_::_=>by unfold zr;simp
 |_::_,[]=>by unfold zr;simp
 |x::a,y::b=>by
  have ih:=nV a b;rw[Vd,Vd];unfold zr;rw[Jt,ih,ay,wj,Jg,Jg,Jg,List.cons.injEq]
def pV(a b:List Dc):Ag (.tup<|a.map jB) (.tup<|b.map jB)=decide (a=b):=by
 rw[<-nV]
 conv=>lhs;unfold Ag
section
variable{κ:Type}[DecidableEq κ]{E:κ->D}(hE:∀a b,Ag (E a) (E b)=decide (a=b)){K:Frag}{H:Hp}
include hE
theorem KJ(k:κ):∀(oa:List (κ×V)) (ds:List D),bI K H ds (oa.map (·.2))->(∀d,ji (oa.map λp=>E p.1) ds (E k)=some d->∃v,xH oa k=some v/\Fb K H d v)/\(xH oa k).isSome=uF (oa.map λp=>E p.1) (E k)
 |[],ds,r=>⟨λd h=>by cases ds<;>simp[ji]at h,rfl⟩
 |(a,v)::oa,ds,r=>by
  cases ds with
  |nil=>have:=dU.mp r;simp at this
  |cons d ds=>
   obtain⟨v',r',e,h1,h2⟩:=bZ.mp r;rw[Vd]at e;injection e with e1 e2
   subst e1 e2;obtain⟨i1,i2⟩:=KJ k oa ds h2
   by_cases ha:a=k
   .have hk:Ag (E a) (E k)=true:=by rw[hE,Jg];exact ha
    refine⟨λd' h=>?_,?_⟩
    .unfold ji at h;rw[Vd,dy,T3 (by simpa using hk)]at h
     cases h;exact⟨v,aw ha,h1⟩
    .rw[aw ha];unfold uF;rw[Vd,Bq,hk];rfl
   .have hk:Ag (E a) (E k)=false:=by rw[hE,LD];exact ha
    refine⟨λd' h=>?_,?_⟩
    .rw[bw ha];refine i1 d' ?_
     unfold ji at h ⊢;rw[Vd,dy,U3 (by simpa using hk)]at h
     exact h
    .rw[bw ha,i2];unfold uF;rw[Vd,Bq,hk];rfl
def qV(k:κ)(oa:List (κ×V)):(oa.any λkv=>decide (kv.1=k))=uF (oa.map λp=>E p.1) (E k):=by
 unfold uF;rw[ly];congr 1;funext p;simp[hE]
def HB(k:κ)(v:V)(d:D)(hd:Fb K H d v)(oa:List (κ×V))(ds:List D)(r:bI K H ds (oa.map (·.2))) :
  (Ed oa k v).map (λp=>E p.1)=sO (oa.map λp=>E p.1) (E k)/\bI K H (wC (oa.map λp=>E p.1) ds (E k) d) ((Ed oa k v).map (·.2)):=by
 unfold Ed sO wC;rw[qV hE]
 by_cases hh:uF (oa.map λp=>E p.1) (E k)=true
 .rw[kb hh,kb hh,kb hh];constructor
  .rw[Jk];refine Fn λp _=>?_
   simp only[Function.comp_apply];split<;>rfl
  .clear hh
   induction oa generalizing ds with
   |nil=>have:=r.length;cases ds with|nil=>exact .nil|cons _ _=>simp at this
   |cons p oa ih=>
    obtain⟨a,w⟩:=p;cases ds with
    |nil=>have:=dU.mp r;simp at this
    |cons d0 ds=>
     obtain⟨v',r',e,h1,h2⟩:=bZ.mp r;rw[Vd]at e;injection e with e1 e2
     subst e1 e2;rw[Vd,Vd,Vd,dy,Vd];refine .cons ?_<|ih ds h2
     by_cases ha:a=k
     .have hk:Ag (E a) (E k)=true:=by rw[hE,Jg];exact ha
      rw[kb hk,kb ha];exact hd
     .have hk:Ag (E a) (E k)=false:=by rw[hE,LD];exact ha
      rw[gb (by rw[hk];exact Cg),gb ha]
      exact h1
 .rw[gb hh,gb hh,gb hh];refine⟨by rw[Qj];rfl,?_⟩
  rw[Qj];exact r.append<|.cons hd .nil
end
def zX{K:Frag} (r:Fb K H d v) (h:Nc false d=true):∃k:Dc,d=jB k/\v=kV k:=by
 cases d<;>first|(cases h;done)|skip
 .exact⟨.inl _,rfl,bR.mp r⟩
 .exact⟨.inr _,rfl,fL.mp r⟩
theorem kR{K:Frag}{H:Hp}:∀{ds:List D}{vs:List V},bI K H ds vs->ds.all Kx=true->∃ks:List Dc,ds=ks.map jB/\vs=ks.map kV
 |[],vs,r,_=>⟨[],rfl,dU.mp r⟩
 |d::ds,vs,r,h=>by
  obtain⟨v,r',rfl,h1,h2⟩:=bZ.mp r;rw[all_cons,wj]at h;obtain⟨ks,e1,e2⟩:=kR h2 h.2;obtain⟨k,e3,e4⟩:=zX h1 (by cases d<;>first|(cases h.1;done)|rfl)
  exact⟨k::ks,by rw[e1,e3];rfl,by rw[e2,e4];rfl⟩
def OR{K:Frag} (r:Fb K H d v) (h:Nc true d=true):∃(ks:List Dc)(b:Addr),d=.tup (ks.map jB)/\v=.ref b/\H b=some (.tup<|ks.map kV):=by
 cases d<;>first|(cases h;done)|skip
 rename_i xs;obtain⟨b,vs,e,hb,rs⟩:=mw.mp r;have h':xs.all Kx=true:=by
  unfold Nc at h;simpa using h
 obtain⟨ks,e1,e2⟩:=kR rs h';exact⟨ks,b,by rw[e1],e,by rw[<-e2];exact hb⟩
def IB{K:Frag} {t:Bool} {ks:List D} {k:D} {u:V} (rx:nJ K A H (.Ve t ks ds) v) (ry:Fb K H k u) (hk:Nc t k=true) :
  ∃a o,v=.ref a/\ii H a u o/\o.isSome=uF ks k/\∀d,ji ks ds k=some d->∃w,o=some w/\Fb K (hide A H) d w:=by
 have key:∃a vs,v=V.ref a/\((t=false/\∃oa:List (Dc×V),H a=some (.dK oa)/\oa.map (λp=>jB p.1)=ks/\vs=oa.map (·.2))\/(t=true/\∃oa:List (List Dc×V),H a=some (.dT oa)/\oa.map (λp=>D.tup<|p.1.map jB)=ks/\vs=oa.map (·.2)))/\bI K (hide A H) ds vs:=by
  rcases rx with h|⟨a,kk,o,ME,vs,e,e2,h,ko,r⟩
  .obtain⟨a,vs,e,q,r⟩:=uN.mp h;refine⟨a,vs,e,?_,r⟩;rcases q with ⟨q0,oa,q1,q2⟩|⟨q0,oa,q1,q2⟩
   .exact .inl ⟨q0,oa,bN _ _ _ _ q1,q2⟩
   .exact .inr ⟨q0,oa,bN _ _ _ _ q1,q2⟩
  .cases kk<;>cases e;refine⟨a,vs,e2,?_,r⟩;rcases ko with ⟨q0,oa,q1,q2⟩|⟨q0,oa,q1,q2⟩
   .subst q1;exact .inl ⟨q0,oa,h,q2⟩
   .subst q1;exact .inr ⟨q0,oa,h,q2⟩
 obtain⟨a,vs,e,q,r⟩:=key;rcases q with ⟨rfl,oa,q1,rfl,rfl⟩|⟨rfl,oa,q1,rfl,rfl⟩
 .obtain⟨k',e1,e2⟩:=zX ry hk;subst e1 e2;obtain⟨i1,i2⟩:=KJ Jt k' oa ds r;exact⟨a,_,e,ii.k q1,i2,λd hd=>let ⟨w,h1,h2⟩:=i1 d hd;⟨w,h1,h2⟩⟩
 .obtain⟨k',b,e1,e2,e3⟩:=OR ry hk;subst e1 e2;obtain⟨i1,i2⟩:=KJ pV k' oa ds r;exact⟨a,_,e,ii.t q1 e3,i2,λd hd=>let ⟨w,h1,h2⟩:=i1 d hd;⟨w,h1,h2⟩⟩
section
variable{X:Cx}{B:List Addr}{a b e:Expr}{f g:Ex}{pos:Pos}
def E2:R2:=λx y H Q=>∃p v,x=.ref p/\ii H p y (some v)/\Q v H
def bIb(hu:X.A.units+64<cLine):vn X E2:=by
 intro value slice aa s σ H x y v u Q I rx ry h hs;obtain⟨p,z,rfl,g,q⟩:=h;cases rx;have hT:=Ι I g;unfold subscriptTail;refine Ja ?_
 rw[getitemInPython_of_ne hT.not_modules];refine Ja<|QM hT PySem.F.slot_dict_getitem.lookup ?_;have h2:wpAny (model X.prog X.w) X.A (getItem (.ref p) u) (EP X aa σ Q) X.xe s:=ì (by omega) I g ry λw' s3 I3 Bh=>⟨z,H,I3,Bh,q⟩
 have fin:wpAny (model X.prog X.w) X.A (subscripted slice false (.ref p) u) (λr s3=>wpAny (model X.prog X.w) X.A (letTemporaryGo value (.ref p) r >>= λ_=>pure r) (EP X aa σ Q) X.xe s3) X.xe s:=by
  rw[hs];exact wpAny_operating<|Kk h2 (λr s3 h3=>Ja<|wpAny_letTemporaryGo<|Zb h3) λ_ _ x=>x
 first
  |exact Zb<|Ja fin
  |exact Ja<|Zb<|Ja fin
  |exact Ja fin
def bIc{K:Frag}:yX K (λx y H Q=>iP K x y H Q\/E2 x y H Q) Mb:=by
 intro A H x y d v u Q w rx ry e q
 by_cases hx:R1 x=true
 .cases x<;>first|(cases hx;done)|skip
  rename_i t ks vs;have e':aW (Nc t y=true) (Oh<|ji ks vs y)=.ok d:=by cases y<;>exact e
  obtain⟨hk,e2⟩:=aU e';have ryr:Fb K H y u:=by
   rcases ry with h|⟨a,kk,o,ds,Fg,e1,_⟩
   .exact h.mono (bN _ _)
   .subst e1;cases kk<;>cases t<;>cases hk
  obtain⟨a,o,e3,g,_,g2⟩:=IB rx ryr hk;obtain⟨z,e4,rz⟩:=g2 d<|Yp e2;subst e4;exact .inr ⟨a,z,e3,g,q _ H (bG.refl _) rz⟩
 .exact .inl (bMi (by simpa using hx) A H x y d v u Q w rx ry e q)
def cV(ha:PE X a (tP X.K B f))(hb:PE X b (tP X.K B g))(hs:HW b:=by intro _ _;rfl)(hu:X.A.units+64<cLine:=by exact dc.units<|by assumption):PE X (.Subscript a b pos) (tI X.K B<|e2 Mb f g):=
 cP (bOj (bLb.or<|bIb hu) ha hb hs) λ_ _ _ h=>GC bIc h
def Ċ:lU X (.builtin "len") (λxs H Q=>∃a oa,xs=[V.ref a]/\H a=some (.dK oa)/\Q (.int oa.length) H):=by
 intro aa s σ H xs us Q I r h;obtain⟨a,oa,rfl,hk,q⟩:=h;obtain⟨u,rfl,ru⟩:=r.one;obtain rfl:u=Value.ref a:=ru;exact bOp I (.inl hk) λt s' I'=>⟨.int oa.length,H,I',⟨t,rfl⟩,q⟩
def bId{K:Frag} {ks:List D} (rx:nJ K A H (.Ve false ks ds) v):∃a oa,v=.ref a/\H a=some (.dK oa)/\oa.length=ks.length:=by
 rcases rx with h|⟨a,kk,o,ME,vs,e,e2,h,ko,r⟩
 .obtain⟨a,vs,e,q,r⟩:=uN.mp h;rcases q with ⟨_,oa,q1,rfl,_⟩|⟨q0,_⟩
  .exact⟨a,oa,e,bN _ _ _ _ q1,by simp⟩
  .cases q0
 .cases kk<;>cases e;rcases ko with ⟨_,oa,rfl,rfl,_⟩|⟨q0,_⟩
  .exact⟨a,oa,e2,h,by simp⟩
  .cases q0
end
section
variable{K:Frag} {st:ua}
def sA{k:OK} (h:(st.set i<|some<|.v d)[j]?=some (some<|.o k xs)):j≠i/\st[j]?=some (some<|.o k xs):=by
 rw[eh]at h
 by_cases e:i=j
 .subst e;rw[kb rfl]at h;split at h<;>simp at h
 .rw[gb e]at h;exact⟨λz=>e z.symm,h⟩
def Le.app (l:Le A H A' H'):bG (hide (A++B) H) (hide (A'++B) H'):=λb u q=>by
 have q1:=bN _ _ _ _ q;have hb:b∉A++B:=λz=>by rw[jT z]at q;cases q
 have q2:hide A H b=some u:=by rw[cR λz=>hb<|Fh _ z];exact q1
 have q3:=l b u q2;have Mh:b∉A':=λz=>by rw[jT z]at q3;cases q3
 rw[cR λz=>(Hh.mp z).elim Mh λz=>hb<|Pg _ z]
 exact bN _ _ _ _ q3
theorem RS.set(r:RS K B A H st σ){d:D}{v:V}(i:Nat)(h:Fb K (hide (A++B) H) d v):RS K B A H (st.set i<|some<|.v d) (σ.set i<|some v) where
 len:=by rw[Kn,Kn,r.len]
 own:=r.own
 vi:=r.vi
 val:=λj d' e=>by
  rw[eh]at e
  by_cases hij:i=j
  .subst hij;rw[kb rfl]at e;split at e
   .rename_i hl;simp at e;subst e;exact⟨v,by rw[eh,kb rfl,kb (by rw[<-r.len];exact hl)],h⟩
   .cases e
  .rw[gb hij]at e;obtain⟨u,e1,q⟩:=r.val j d' e;exact⟨u,by rw[eh,gb hij];exact e1,q⟩
 lst:=λj kk xs e=>by
  obtain⟨hj,e'⟩:=sA e;obtain⟨a,o,vs,e1,m,h1,ko,q,u⟩:=r.lst j kk xs e';refine⟨a,o,vs,by rw[eh,gb λz=>hj z.symm];exact e1,m,h1,ko,q,λk k' ys ek Lh=>?_⟩
  obtain⟨hk,ek'⟩:=sA ek;rw[eh,gb λz=>hk z.symm]at Lh
  exact u k k' ys ek' Lh
def bIe{p:Addr} (n:nT o=true) (w:Own (A++B) H):Own ((p::A)++B) (Ob H p o):=λa ha=>by
 by_cases e:a=p
 .subst e;rw[cD];exact n
 .rw[bU e];exact w a<|(Kc.mp ha).resolve_left e
def WA{p:Addr} (hp:H p=none):bG (hide (A++B) H) (hide ((p::A)++B)<|Ob H p o):=λb u q=>by
 have q1:=bN _ _ _ _ q;have hb:b∉A++B:=λz=>by rw[jT z]at q;cases q
 have ne:b≠p:=bJ q1 hp;rw[cR<|show b∉(p::A)++B from λz=>(Kc.mp z).elim ne hb,bU ne]
 exact q1
def HC{p:Addr} (hp:H p=none):Le A H (p::A) (Ob H p o):=λb u q=>by
 have q1:=bN _ _ _ _ q;have hb:b∉A:=λz=>by rw[jT z]at q;cases q
 have ne:b≠p:=bJ q1 hp;rw[cR λz=>(Kc.mp z).elim ne hb,bU ne]
 exact q1
def RS.Zs(r:RS K B A H st σ){p:Addr}{kk:OK} (i:Nat) (hp:H p=none) (ko:Tp K kk p o vs) (h:bI K (hide (A++B) H) ds vs) :
  RS K B (p::A) (Ob H p o) (st.set i<|some<|.o kk ds) (σ.set i<|some<|.ref p) where
 len:=by rw[Kn,Kn,r.len]
 own:=bIe ko.nt r.own
 vi:=λa ha hb=>by
  rcases Kc.mp ha with rfl|ha
  .exact r.own.free hp (Pg _ hb)
  .exact r.vi a ha hb
 val:=λj d' e=>by
  rw[eh]at e
  by_cases hij:i=j
  .subst hij;rw[kb rfl]at e;split at e<;>simp at e
  .rw[gb hij]at e;obtain⟨u,e1,q⟩:=r.val j d' e;exact⟨u,by rw[eh,gb hij];exact e1,q.mono<|WA hp⟩
 lst:=λj k0 xs e=>by
  rw[eh]at e
  by_cases hij:i=j
  .subst hij;rw[kb rfl]at e;split at e
   .rename_i hl;simp at e;obtain⟨e0,e⟩:=e;subst e0 e;refine⟨p,o,vs,by rw[eh,kb rfl,kb (by rw[<-r.len];exact hl)],Jb,cD,ko,h.mono<|WA hp,λk k' ys ek Lh=>?_⟩
    by_cases hk:i=k
    .exact hk.symm
    .rw[eh,gb hk]at ek Lh;obtain⟨a,o',Fg,e1,m,h1,_⟩:=r.lst k k' ys ek;rw[e1]at Lh;cases Lh;rw[hp]at h1;cases h1
   .cases e
  .rw[gb hij]at e;obtain⟨a,o',Fg,e1,m,h1,ko',q,u⟩:=r.lst j k0 xs e;have ne:a≠p:=bJ h1 hp;refine⟨a,o',Fg,by rw[eh,gb hij];exact e1,Qb _ m,by rw[bU ne];exact h1,ko',q.mono<|WA hp,λk k' ys ek Lh=>?_⟩
   by_cases hk:i=k
   .subst hk;rw[eh,kb rfl]at Lh;split at Lh
    .simp at Lh;exact absurd Lh.symm ne
    .cases Lh
   .rw[eh,gb hk]at ek Lh;exact u k k' ys ek Lh
def RS.write(r:RS K B A H st σ) {k0 k1:OK} {o':HO} {Fg:List V} (hi:st[i]?=some (some<|.o k0 xs)) (hs:σ[i]?=some (some<|.ref a)) (ko:Tp K k1 a o' Fg) (h:bI K (hide (A++B) H) ds Fg) :
  RS K B A (Ob H a o') (st.set i<|some<|.o k1 ds) σ/\Le A H A (Ob H a o'):=by
 obtain⟨a',o,vs,e1,m,h1,_,q,u⟩:=r.lst i k0 xs hi;rw[hs]at e1;cases e1;have hh:hide (A++B) (Ob H a o')=hide (A++B) H:=ow<|Fh _ m;refine⟨⟨by rw[Kn,r.len],λb hb=>?_,r.vi,λj d e=>?_,λj kj ys e=>?_⟩,?_⟩
 .by_cases e:b=a
  .subst e;rw[cD];exact ko.nt
  .rw[bU e];exact r.own b hb
 .rw[hh];rw[eh]at e
  by_cases hij:i=j
  .subst hij;rw[kb rfl]at e;split at e<;>simp at e
  .rw[gb hij]at e;exact r.val j d e
 .rw[hh];have ne:∀{k:Nat}{kz:OK}{zs:List D},(st.set i<|some<|.o k1 ds)[k]?=some (some<|.o kz zs)->∃kw ws,st[k]?=some (some<|.o kw ws):=λ{k kz zs} ek=>by
   rw[eh]at ek
   by_cases hk:i=k
   .subst hk;exact⟨_,_,hi⟩
   .rw[gb hk]at ek;exact⟨_,_,ek⟩
  rw[eh]at e
  by_cases hij:i=j
  .subst hij;rw[kb rfl]at e;split at e
   .simp at e;obtain⟨e0,e⟩:=e;subst e0 e;exact⟨a,o',Fg,hs,m,cD,ko,h,λk kz zs ek Lh=>let ⟨kw,ws,ew⟩:=ne ek;u k kw ws ew Lh⟩
   .cases e
  .rw[gb hij]at e;obtain⟨c,oc,ws,c1,cm,ch,kc,cq,cu⟩:=r.lst j kj ys e;have BN:c≠a:=λz=>by subst z;exact hij (u j kj ys e c1).symm
   exact⟨c,oc,ws,c1,cm,by rw[bU BN];exact ch,kc,cq,λk kz zs ek Lh=>let ⟨kw,ws,ew⟩:=ne ek;cu k kw ws ew Lh⟩
 .unfold Le;rw[ow m];exact bG.refl _
theorem RS.Iq(r:RS K B A H st σ)(i:Nat):∃A',RS K B A' H (Pu.Iq st i) σ/\Le A H A' H:=by
 unfold Pu.Iq;split
 .rename_i kk xs e;obtain⟨a,o,vs,e1,m,h1,ko,q,u⟩:=r.lst i kk xs e;have hsub:∀b∈A.filter (λc=>decide (c≠a)),b∈A:=λb hb=>(Be.mp hb).1
  have hsub2:∀b∈A.filter (λc=>decide (c≠a))++B,b∈A++B:=λb hb=>(Hh.mp hb).elim (λz=>Fh _<|hsub b z)<|Pg _
  have sm:bG (hide (A++B) H) (hide (A.filter (λc=>decide (c≠a))++B) H):=lL hsub2
  have TN:a∉A.filter (λc=>decide (c≠a))++B:=λz=>(Hh.mp z).elim (λz=>cj (Be.mp z).2 rfl)<|r.vi a m
  refine⟨A.filter λc=>decide (c≠a),⟨by rw[Kn,r.len],λb hb=>r.own b<|hsub2 b hb,λb hb=>r.vi b<|hsub b hb,λj d ej=>?_,λj kj ys ej=>?_⟩,lL hsub⟩
  .rw[eh]at ej
   by_cases hij:i=j
   .subst hij;rw[kb rfl]at ej;split at ej
    .simp at ej;subst ej;exact⟨_,e1,ko.rep (by rw[cR TN];exact h1)<|q.mono sm⟩
    .cases ej
   .rw[gb hij]at ej;obtain⟨v,e2,q2⟩:=r.val j d ej;exact⟨v,e2,q2.mono sm⟩
  .obtain⟨hj,S4⟩:=sA ej;obtain⟨c,oc,ws,c1,cm,ch,kc,cq,cu⟩:=r.lst j kj ys S4;have BN:c≠a:=λz=>by subst z;exact hj (u j kj ys S4 c1)
   exact⟨c,oc,ws,c1,Be.mpr ⟨cm,Uc BN⟩,ch,kc,cq.mono sm,λk kz zs ek Lh=>cu k kz zs (sA ek).2 Lh⟩
 .exact⟨A,r,Le.refl⟩
def RS.fz(is:List Nat):∀{A:List Addr}{st:ua},RS K B A H st σ->∃A',RS K B A' H (is.foldl Pu.Iq st) σ/\Le A H A' H:=by
 induction is with
 |nil=>exact λr=>⟨_,r,Le.refl⟩
 |cons i is ih=>
  intro A st r;obtain⟨A1,r1,l1⟩:=r.Iq i;obtain⟨A2,r2,l2⟩:=ih r1;exact⟨A2,r2,l1.trans l2⟩
end
section
variable{X:Cx}{B:List Addr}{a b e:Expr}{f g:Ex}{pos:Pos}{bd Wj:Bd}{sm:Stmt}{rest:List Stmt}
def eQ:we X [] (tS X.K B cO):=wW FW (by
 rintro Dn σ H ⟨A,st,r,rs,hr,p⟩;cases hr;exact p A σ H Le.refl rs)
def aL(h1:PS X sm (tS X.K B bd))(h2:we X rest (tS X.K B Wj)):we X (sm::rest) (tS X.K B<|aY bd Wj):=by
 refine wW (EA h1 h2) ?_
 rintro Dn σ H ⟨A,st,r,rs,hr,p⟩;obtain⟨x,hx,h3⟩:=R.ma hr;refine⟨A,st,x,rs,hx,?_⟩;cases x with
 |nx s1=>exact λA' Eb H' l rs'=>⟨A',s1,r,rs',h3,p.mono l⟩
 |rt d=>cases h3;exact p
 |bk s1=>cases h3;exact p
 |ct s1=>cases h3;exact p
def aV(h1:PS X sm (tS X.K B bd)):we X [sm] (tS X.K B bd):=qB h1
def Kl(is:List Nat)(h:PS X sm (tS X.K B bd)):PS X sm (tS X.K B<|uk is bd):=gU h (by
 rintro Dn σ H ⟨A,st,r,rs,hr,p⟩;obtain⟨A',rs',l⟩:=RS.fz is rs;exact⟨A',_,r,rs',hr,p.mono l⟩)
def bK(h:PE X e (tI X.K B f)):PS X (.Return (some e) pos) (tS X.K B<|cA f):=gU (RJ h) (by
 rintro Dn σ H ⟨A,st,r,rs,hr,p⟩;obtain⟨d,hd,h3⟩:=R.ma hr;cases h3;exact⟨A,st,d,rs,hd,λv H' s q=>p A v H' (Le.of s) q⟩)
def Y0(h:PE X e (tI X.K B f))(hs:Hj e none pos.line X.env:=by rfl):PS X (.Expr e pos) (tS X.K B<|jq f):=gU (wt h hs) (by
 rintro Dn σ H ⟨A,st,r,rs,hr,p⟩;obtain⟨d,hd,h3⟩:=R.ma hr;cases h3;exact⟨A,st,d,rs,hd,λv H' s q=>p A σ H' (Le.of s)<|rs.mono s⟩)
def bW(he:PE X e (tI X.K B f))(hN:X.N.Nodup:=by assumption)(hi:X.N[i]?=some x:=by rfl)(hx:Loc X.env.scope x:=by exact Ip rfl)(hs:Hj e (some<|.Name x pos') pos.line X.env:=by rfl)
  (hf:Vl X x:=by first|exact .inl rfl|exact .inr rfl|assumption):PS X (.Assign [.Name x pos'] e pos) (tS X.K B<|cC i f):=gU (Ew hN hi hx he hs hf) (by
 rintro Dn σ H ⟨A,st,r,rs,hr,p⟩;obtain⟨d,hd,h3⟩:=R.ma hr;cases h3;exact⟨A,st,d,rs,hd,λv H' s q=>p A _ H' (Le.of s)<|(rs.mono s).set i q⟩)
def tF(K:Frag)(B:List Addr)(f:Ex):TE:=λσ H Q=>∃A st ds,RS K B A H st σ/\f st=.ok (.lst ds)/\∀p vs H',bG H H'->H' p=none->bI K (hide (A++B) H') ds vs->Q (.ref p) (Ob H' p<|.lst vs)
def yZ{r:ue}(h:PA X es (tA X.K B r)):PE X (.List es pos) (tF X.K B<|jP r):=by
 refine cP (UJ h) ?_
 rintro σ H Q ⟨A,st,d,rs,hd,q⟩;obtain⟨xs,hx,h2⟩:=R.ma hd;obtain⟨c,h3⟩:=aU h2;cases h3;exact⟨A,st,_,rs,hx,λvs H1 s1 r1=>⟨by rw[r1.length];exact lim c,λp hp=>q p vs H1 s1 hp r1⟩⟩
def qZ(he:PE X e (tF X.K B f))(hN:X.N.Nodup:=by assumption)(hi:X.N[i]?=some x:=by rfl)(hx:Loc X.env.scope x:=by exact Ip rfl)(hs:Hj e (some<|.Name x pos') pos.line X.env:=by rfl)
  (hf:Vl X x:=by first|exact .inl rfl|exact .inr rfl|assumption):PS X (.Assign [.Name x pos'] e pos) (tS X.K B<|tW i f):=gU (Ew hN hi hx he hs hf) (by
 rintro Dn σ H ⟨A,st,r,rs,hr,p⟩;obtain⟨d,hd,h3⟩:=R.ma hr;cases d<;>first|(cases h3;done)|skip
 cases h3;exact⟨A,st,_,rs,hd,λa vs H' s hn q=>p (a::A) _ _ ((Le.of s).trans<|HC hn)<|(rs.mono s).Zs (kk:=.l) i hn rfl q⟩)
def jG{c:Expr}{t:Ex}{x y:List Stmt}(hc:PT X c (tT X.K B t))(ha:we X x (tS X.K B bd))(hb:we X y (tS X.K B Wj)):PS X (.If c x y pos) (tS X.K B<|Pd t bd Wj):=gU (z0 hc ha hb) (by
 rintro Dn σ H ⟨A,st,r,rs,hr,p⟩;obtain⟨d,hd,h3⟩:=R.ma hr;obtain⟨k,rfl,h4⟩:=uX h3;refine⟨A,st,k,rs,hd,λH1 s1=>?_⟩
 cases k with
 |true=>exact⟨A,st,r,rs.mono s1,h4,p.mono<|Le.of s1⟩
 |false=>exact⟨A,st,r,rs.mono s1,h4,p.mono<|Le.of s1⟩)
def bL(hN:X.N.Nodup:=by assumption)(hi:X.N[i]?=some x:=by rfl)(hx:Loc X.env.scope x:=by exact Ip rfl)
  (hf:Vl X x:=by first|exact .inl rfl|exact .inr rfl|assumption):PG X (.Name x pos) (tG X.K B<|jb i):=TZ (bG7 hN hi hx hf) (by
 rintro v σ H Q ⟨A,st,d,s1,rs,hr,hg,q⟩;cases hg;exact q _<|rs.set i hr)
def EF(K:Frag)(B:List Addr)(is:List Nat):yn:=λvs σ H Q=>∃A st ds s1,RS K B A H st σ/\bI K (hide (A++B) H) ds vs/\Hw is ds st=.ok s1/\∀Eb,RS K B A H s1 Eb->Q Eb H
def SX{t t':yn}(h:om X es t)(m:∀v σ H Q,t' v σ H Q->t v σ H Q):om X es t':=λaa s σ H v u Q I r q=>h aa s σ H v u Q I r<|m v σ H Q q
def VZ:om X [] (EF X.K B []):=SX bG8 (by
 rintro v σ H Q ⟨A,st,ds,s1,rs,hr,hg,q⟩;cases ds with
 |nil=>cases hg;exact⟨dU.mp hr,q σ rs⟩
 |cons _ _=>exact nomatch hg)
def JB{i:Nat}{is:List Nat} (h2:om X es (EF X.K B is)) (hN:X.N.Nodup:=by assumption) (hi:X.N[i]?=some x:=by rfl) (hx:Loc X.env.scope x:=by exact Ip rfl)
  (hf:Vl X x:=by first|exact .inl rfl|exact .inr rfl|assumption)
  (hs:(assignEach (.Name x pos::es) X.env).map (·.2)=assign (.Name x pos) X.env::(assignEach es X.env).map (·.2):=by rfl):om X (.Name x pos::es) (EF X.K B<|i::is):=SX (İ (bL (pos:=pos) hN hi hx hf) h2 hs) (by
 rintro v σ H Q ⟨A,st,ds,s1,rs,hr,hg,q⟩;cases ds with
 |nil=>exact nomatch hg
 |cons d ds=>
  obtain⟨u,r,e,r1,r2⟩:=bZ.mp hr;exact⟨u,r,e,A,st,d,st.set i<|some<|.v d,rs,r1,rfl,λEb rs'=>⟨A,_,ds,s1,rs',r2,hg,q⟩⟩)
def uS{l it:Addr} (hl:h.IsList l items) (s:Heap.SameBut it h h') (zi:l≠it):h'.IsList l items:=by
 obtain⟨o,e,r⟩:=hl;exact⟨o,(s.2 l zi).trans e,r⟩
theorem FT{M:Program}{w:World}{A:Around}{E:Value->Shared->Prop}{it t:Addr}{items:Array Value}(zi:t≠it):∀(n i:Nat)(s:Shared)(Q:List Value->Shared->Prop),s.heap.IsListIter it t i->s.heap.IsList t items->i+n<=items.size->
  (∀h',h'.IsListIter it t (i+n)->Heap.SameBut it s.heap h'->Q ((items.toList.drop i).take n) {s with heap:=h'})->wpAny (model M w) A (draw (.ref it) n) Q E s
 |0,i,s,Q,hit,_,_,hQ=>by
  show wpAny _ _ (pure []) Q E s;exact Zb (by simpa using hQ s.heap hit (Heap.SameBut.refl ..))
 |n+1,i,s,Q,hit,ht,hle,hQ=>by
  have hlt:i<items.size:=by omega
  show wpAny _ _ (pyNext (.ref it) >>= _) Q E s;refine Ja<|wpAny_pyNext_list_item hit ht (x:=items[i]) (by simp[hlt]) λh1 Mm hs1=>?_
  refine Ja<|Rj<|FT zi n (i+1) _ _ Mm (uS ht hs1 zi) (by omega) λh2 js Ef=>Zb ?_
  have hd:items.toList.drop i=items[i] :: items.toList.drop (i+1):=by simp[List.drop_eq_getElem_cons,hlt]
  have:=hQ h2 (by rw[show i+(n+1)=i+1+n by omega];exact js)<|hs1.trans Ef
  rw[hd,List.take_succ_cons]at this;exact this
def Z8{M:Program} {A:Around} {s:Shared} {pos:Pos} {t:Addr} {Q:Unit->Shared->Prop} (hh:A.handled=none) (ht:s.heap.IsList t items)
  (hn:(assignEach Qk env).length=items.size) (cz:(assignEach Qk env).findIdx? (·.1)=none)
  (h:∀h',Heap.ExtBut s.heap.objs.size s.heap h'->wpAny (model M w) A (assignInOrder ((assignEach Qk env).map (·.2)) items.toList) Q E {s with heap:=h'}) :
  wpAny (model M w) A (assign (.Tuple Qk x1 pos) env<|.ref t) Q E s:=by
 have hlt:t≠s.heap.objs.size:=by obtain⟨o,ho,_⟩:=ht;exact Cf<|Ud ho
 rw[assign_Tuple];refine Ja<|Wu ?_;unfold unpack;rw[hn,cz];refine Ja<|Rj ?_;unfold unpackItems;refine Ja ?_
 unfold notIterableAtAll;refine Ja<|QM ht.typeIs PySem.F.slot_list_iter.lookup ?_;refine Zb ?_
 simp only[Bool.false_eq_true,if_false];refine Ja<|Rj<|dE ht ?_;have A5:(s.heap.push {cls:=.type "list_iterator",data:=.fields #[.ref t,rawInt 0]}).IsList t items:=by
  obtain⟨o,ho,r⟩:=ht;exact⟨o,ud _ ho,r⟩
 refine Ja<|Rj<|FT hlt items.size 0 _ _ ⟨_,Vf _ rfl,rfl,rfl⟩ A5 (by omega) λh1 Mm hs1=>?_
 have Dg:List.take items.size (List.drop 0 items.toList)=items.toList:=by
  rw[drop_zero];exact V3 (by simp)
 rw[Dg];rw[gb (by simp)]
 refine Ja<|Rj<|wpAny_pyNext_list_end hh Mm (uS A5 hs1 hlt) (by simp) λh2 he2=>?_
 simp only[Option.isSome_none,Bool.false_eq_true,if_false];refine Zb<|h h2 λb o hb e=>he2 b o hb<|hs1.extBut b o hb<|ud _ e
def bRr(K:Frag)(n:Nat)(t:yn):TG:=λv σ H Q=>∃a xs,v=.ref a/\(Zg K H a xs\/Ae K H a xs)/\xs.length=n/\t xs σ H Q
def bMk{k:Nat}{t:yn} (hc:X.calm=true) (h:om X es t)
  (hn:(assignEach es X.env).length=n:=by rfl) (Nh:(assignEach es X.env).findIdx? (·.1)=none:=by rfl):PG X (.Tuple es k pos) (bRr X.K n t):=by
 intro aa s σ H v u Q I r hw;obtain⟨a,xs,e1,hq,hl,hw⟩:=hw;rcases hq with hq|hq
 .exact bKs hc h hn Nh aa s σ H v u Q I r ⟨a,xs,e1,hq,hl,hw⟩
 .subst e1;cases r;obtain⟨Sa,rv,ht,hz⟩:=I.list hq;refine Z8 (I.ok.hd hc) ht.isList (by simp[hn,<-hl,rv.length]) Nh λh' hx=>?_
  have I1:ya X aa σ H {s with heap:=h'}:=I.kept (t':=s.toks) λb o e=>hx b o (Cf<|Ud e) e
  exact h aa _ σ H xs _ Q I1 (by simpa using rv) hw
def vS{s1:ua}:∀(is:List Nat)(ds:List D)(st:ua),Hw is ds st=.ok s1->ds.length=is.length:=by
 intro is
 induction is with
 |nil=>intro ds st h;cases ds with|nil=>rfl|cons _ _=>exact nomatch h
 |cons i is ih=>intro ds st h;cases ds with|nil=>exact nomatch h|cons _ ds=>exact congrArg (· + 1)<|ih ds _ h
def Z0{is:List Nat} {k:Nat} (hc:X.calm=true) (h:om X es (EF X.K B is)) (hn:(assignEach es X.env).length=is.length:=by rfl) (Nh:(assignEach es X.env).findIdx? (·.1)=none:=by rfl):PG X (.Tuple es k pos) (tG X.K B<|FF is):=TZ (bMk hc h hn Nh) (by
 rintro v σ H Q ⟨A,st,d,s1,rs,hr,hg,q⟩;cases d<;>first|(cases hg;done)|skip
 .rename_i ds;obtain⟨a,vs,e,h1,h2⟩:=jK hr;exact⟨a,vs,e,.inl<|jw (bN _ _) h1,by rw[h2.length];exact vS is ds st hg,A,st,ds,s1,rs,h2,hg,q⟩
 .rename_i ds;obtain⟨a,vs,e,h1,h2⟩:=jR.mp hr;exact⟨a,vs,e,.inr<|(bN _ _).seq h1,by rw[h2.length];exact vS is ds st hg,A,st,ds,s1,rs,h2,hg,q⟩)
def bPw{t:Tg}(he:PE X e (tI X.K B f))(hg:PG X tg (tG X.K B t))(hs:swapsWithSole [tg] e pos.line X.env=pure false:=by rfl)(hw:swappedStores [tg] e X.env=pure none:=by rfl)
  (h1:(assignEach [tg] X.env).map (·.2)=[assign tg X.env]:=by rfl):PS X (.Assign [tg] e pos) (tS X.K B<|S1 t f):=gU (SJ he hg hs hw h1) (by
 rintro Dn σ H ⟨A,st,r,rs,hr,p⟩;obtain⟨d,hd,h3⟩:=R.ma hr;obtain⟨s1,hs1,h4⟩:=R.ma h3;cases h4;exact⟨A,st,d,rs,hd,λv H' s q=>⟨A,st,d,s1,rs.mono s,q,hs1,λEb rs'=>p A Eb H' (Le.of s) rs'⟩⟩)
def jA {t:Tg} (hi:L2.PI X tg iter (Xl X.K B it)) (hg:PG X tg (tG X.K B t)) (hb:we X body (tS X.K B bd)) (hp:PassesOwn (model X.prog X.w) X.A X.env X.xe:=by exact PassesOwn.never) (hc:X.calm=true:=by rfl)
  (hs:∀x,foldedSetIterable iter X.env x=pure x:=by intro _;rfl):PS X (.For tg iter body [] pos) (tS X.K B<|nO t it bd):=gU (bKu hp hc hi hg hb hs) (by
 rintro Dn σ H ⟨A,st,r,rs,hr,p⟩;obtain⟨ds,hd,h3⟩:=R.ma hr;refine⟨A,st,ds,rs,hd,λJ H1 s1 GO=>?_⟩
 refine⟨λi m Eb H'=>∃A' st',m=ds.length-i/\i<=ds.length/\RS X.K B A' H' st' Eb/\Nb t bd (ds.drop i) st'=.ok r/\Le A H1 A' H',⟨ds.length,A,st,by simp,zero_le _,rs.mono s1,by rw[drop_zero];exact h3,Le.refl⟩,?_⟩
 rintro i m Eb H' ⟨A',st',rfl,hle,rs',hf,l⟩;obtain⟨i1,i2⟩:=GO A' H' l rs'.own i
 by_cases hlt:i<ds.length
 .have Wr:ds[i]?=some ds[i]:=Nf hlt;obtain⟨go,yl⟩:=i1 _ Wr;rw[A3 hlt]at hf;obtain⟨s2,Ef,h5⟩:=R.ma hf;obtain⟨fl,We,h6⟩:=R.ma h5;refine .inr ⟨go,λjt H2=>∃A2 Dh,i+1<=ds.length/\RS X.K B A2 H2 Dh jt/\Nb t bd (ds.drop<|i+1) Dh=.ok r/\Le A H1 A2 H2,?_,λx H2 y=>?_⟩
  .rintro jt H2 ⟨A2,Dh,LN,Xq,GN,l2⟩;exact⟨ds.length-(i+1),by omega,A2,Dh,rfl,LN,Xq,GN,l2⟩
  .obtain⟨sm,rx⟩:=yl x H2 y;have l5:Le A H1 A' H2:=l.trans<|Le.of sm;refine⟨A',st',ds[i],s2,rs'.mono sm,rx,Ef,λdm Tv=>⟨A',s2,fl,Tv,We,?_⟩⟩
   cases fl with
   |nx s4=>exact λA4 GP H4 l4 Vs=>⟨A4,s4,hlt,Vs,h6,l5.trans l4⟩
   |ct s4=>exact λA4 GP H4 l4 Vs=>⟨A4,s4,hlt,Vs,h6,l5.trans l4⟩
   |bk s4=>cases h6;exact p.mono<|(Le.of s1).trans l5
   |rt d=>cases h6;exact p.mono<|(Le.of s1).trans l5
 .have e:i=ds.length:=by omega
  subst e;rw[List.drop_length]at hf;cases hf;exact .inl ⟨i2<|Zc _,p A' Eb H' ((Le.of s1).trans l) rs'⟩)
def LJ{c:Expr}{t:Ex} (hc:PT X c (tT X.K B t)) (hb:we X body (tS X.K B bd)) (hp:PassesOwn (model X.prog X.w) X.A X.env X.xe:=by exact PassesOwn.never):PS X (.While c body [] pos) (tS X.K B<|Iw n t bd):=gU (ı hp hc hb) (by
 rintro Dn σ H ⟨A,st,r,rs,hr,p⟩;refine⟨λm Eb H'=>∃A' st',RS X.K B A' H' st' Eb/\oV t bd m st'=.ok r/\Le A H A' H',⟨n,A,st,rs,hr,Le.refl⟩,?_⟩
 rintro m Eb H' ⟨A',st',rs',hw,l⟩;cases m with
 |zero=>exact nomatch hw
 |succ m=>
  obtain⟨d,hd,h3⟩:=R.ma hw;obtain⟨k,rfl,h4⟩:=uX h3;refine⟨A',st',k,rs',hd,λH1 s1=>?_⟩
  cases k with
  |false=>
   cases h4;exact p A' Eb H1 (l.trans<|Le.of s1)<|rs'.mono s1
  |true=>
   obtain⟨fl,We,h6⟩:=R.ma h4;refine⟨λjt H2=>∃A2 Dh,RS X.K B A2 H2 Dh jt/\oV t bd m Dh=.ok r/\Le A H A2 H2,?_,A',st',fl,rs'.mono s1,We,?_⟩
   .rintro jt H2 ⟨A2,Dh,Xq,GN,l2⟩;exact⟨m,Qu m,A2,Dh,Xq,GN,l2⟩
   .cases fl with
    |nx s4=>exact λA4 GP H4 l4 Vs=>⟨A4,s4,Vs,h6,l.trans<|(Le.of s1).trans l4⟩
    |ct s4=>exact λA4 GP H4 l4 Vs=>⟨A4,s4,Vs,h6,l.trans<|(Le.of s1).trans l4⟩
    |bk s4=>cases h6;exact p.mono<|l.trans<|Le.of s1
    |rt d=>cases h6;exact p.mono<|l.trans<|Le.of s1)
def bMl{K:Frag} {l:Addr} (hq:Ae K (hide (A++B) H) l vs) (r:bI K (hide (A++B) H) ds vs):Bu K B A H (MF K l) ds:=by
 intro A' H' le own i;have gf:Ae K H' l vs:=(bN _ _).seq<|(Le.app le).seq hq;refine⟨λd hd=>?_,λhl=>⟨vs,gf,by rw[r.length];exact hl⟩⟩
 obtain⟨v,hv,rv⟩:=r.get hd;refine⟨⟨vs,v,gf,hv⟩,λx H3 y=>⟨by rw[y.1];exact bG.refl _,?_⟩⟩
 have hx:=y.2 vs gf;rw[y.1];rw[hv]at hx;cases hx;exact rv.mono<|Le.app le
def bMm{K:Frag} {l:Addr} (hq:Zg K (hide (A++B) H) l vs) (r:bI K (hide (A++B) H) ds vs):Bu K B A H (NF K l) ds:=by
 intro A' H' le own i;have gf:Zg K H' l vs:=jw (bN _ _)<|jw (Le.app le) hq;refine⟨λd hd=>?_,λhl=>⟨vs,gf,by rw[r.length];exact hl⟩⟩
 obtain⟨v,hv,rv⟩:=r.get hd;refine⟨⟨vs,v,gf,hv⟩,λx H3 y=>⟨by rw[y.1];exact bG.refl _,?_⟩⟩
 have hx:=y.2 vs gf;rw[y.1];rw[hv]at hx;cases hx;exact rv.mono<|Le.app le
def WZ{K:Frag} {lo:Int}:Bu K B A H (Zv lo n) (lN lo n):=by
 intro A' H' le own i;have hl:(lN lo n).length=n:=by simp[lN]
 refine⟨λd hd=>?_,λh=>by rw[hl]at h;exact h⟩
 have hi:i<n:=by
  have:=(Og.mp hd).1;rw[hl]at this;exact this
 have e:d=.int (lo+(i:Int)):=by
  unfold lN at hd;rw[Hk,YL hi]at hd;exact(Dm hd).symm
 subst e;exact⟨hi,λx H3 y=>⟨by rw[y.1];exact bG.refl _,bR.mpr y.2⟩⟩
def Tz(z:List Nat):It:=⟨λi _=>i<z.length,λi H x H'=>H'=H/\∃c,z[i]?=some c/\x=.str ⟨#[c]⟩,λi _=>z.length<=i⟩
def Š{K:Frag} {it:Addr} {n:String} {t:Tok} (hn:n="str_ascii_iterator"\/n="str_iterator"):Turn P w K tg (Tz z) [it] it (λi h=>h.IsStrIter it n ⟨z.toArray⟩ t i) where
 mem:=by simp
 obj:=λi h st b hb=>by
  have e:b=it:=by simpa using hb
  subst e;obtain⟨o,e,c,d⟩:=st;exact⟨o,e,λv z=>by rw[d]at z;cases z⟩
 keep:=λi h h' st k=>let ⟨o,e,r⟩:=st;⟨o,k it (by simp) o e,r⟩
 item:=by
  intro X hP hw hK hc i aa s σ H E I hf st hg;subst hP hw hK;obtain⟨f0,f1,f2,f3,f4,f5⟩:=hf it (by simp)
  have fin:∀v h' tk,SignAt ⟨z.toArray⟩ i v->Heap.IsStrIter h' it n ⟨z.toArray⟩ t (i+1)->(∀b o,b∉[it]->s.heap.get? b=some o->h'.get? b=some o)->
    ∃u,some v=some u/\wpAny (model X.prog X.w) X.A (letOwnedTupleGo tg (.ref it) u) (λ_ s2=>∃x H',ya X aa σ H' s2/\RelV x u/\(Tz z).Vv i H x H'/\Heap.IsStrIter s2.heap it n ⟨z.toArray⟩ t (i+1)/\∀b∈[it],H' b=none) E {s with heap:=h',toks:=tk}:=by
   intro v h' tk hv st' kk;obtain⟨c,u,hcu,rfl⟩:=hv;have I1:ya X aa σ H {s with heap:=h',toks:=tk}:=I.turned (λb o hb e=>kk b o (by simpa using hb) e) f0 f1 f3 f4 f5
   obtain⟨o,e,c',d⟩:=id st';refine⟨_,rfl,OC (s:={s with heap:=h',toks:=tk}) e c' d (by rcases hn with rfl|rfl<;>decide) ⟨.str ⟨#[c]⟩,H,I1,⟨u,rfl⟩,⟨rfl,c,?_,rfl⟩,st',λb hb=>(hf b hb).1⟩⟩
   simpa using hcu
  have Xh:i<z.length:=hg;have Oq:i<(⟨z.toArray⟩:Str).cps.size:=by simpa using Xh
  rcases hn with rfl|rfl
  .exact(Walks.strAscii (prog:=X.prog) (w:=X.w) (I.ok.hd hc) it ⟨z.toArray⟩ t).item i s _ _ Oq st λv h' tk hv st' kk=>fin v h' tk hv st' kk
  .exact(Walks.strWide (prog:=X.prog) (w:=X.w) (I.ok.hd hc) it ⟨z.toArray⟩ t).item i s _ _ Oq st λv h' tk hv st' kk=>fin v h' tk hv st' kk
 done:=by
  intro X hP hw hK hc i aa s σ H E I hf st hg;subst hP hw hK;obtain⟨f0,f1,f2,f3,f4,f5⟩:=hf it (by simp)
  have Xh:z.length<=i:=hg;rcases hn with rfl|rfl
  .exact wpAny_pyNext_ascii_end (I.ok.hd hc) st (by simpa using Xh) λh' eb=>⟨rfl,I.turned (t':=s.toks) (λb o hb e=>eb b o hb e) f0 f1 f3 f4 f5⟩
  .exact wpAny_pyNext_wide_end (I.ok.hd hc) st (by simpa using Xh) λh' eb=>⟨rfl,I.turned (t':=s.toks) (λb o hb e=>eb b o hb e) f0 f1 f3 f4 f5⟩
 self:=λ_ _ _ _ _ st h=>by
  rcases hn with rfl|rfl
  .exact wpAny_pyIter_striter_ascii st h
  .exact wpAny_pyIter_striter_wide st h
def bMn{K:Frag}:Bu K B A H (Tz z) (z.map λc=>.str [c]):=by
 intro A' H' le own i;refine⟨λd hd=>?_,λh=>(by simpa using h:z.length<=i)⟩
 rw[Hk]at hd;cases hz:z[i]? with
 |none=>rw[hz]at hd;cases hd
 |some c=>
  rw[hz]at hd;cases hd;refine⟨(Og.mp hz).1,λx H3 y=>⟨by rw[y.1];exact bG.refl _,?_⟩⟩
  obtain⟨c',Si,rfl⟩:=y.2;rw[hz]at Si;cases Si;exact fL.mpr rfl
def bRs(K:Frag)(tl:TE):TI:=λσ H R=>tl σ H λx H1=>(∃a,x=.ref a/\(((∃xs,Ae K H1 a xs)/\R (MF K a) H1)\/((∃xs,Zg K H1 a xs)/\R (NF K a) H1)))\/∃z:List Nat,x=.str ⟨z.toArray⟩/\R (Tz z) H1
def bMo{l:Expr}{tl:TE}(hl:PE X l tl):L2.PI X tg l (bRs X.K tl):=by
 intro aa s σ H R I h;refine qc (hl aa s σ H _ I h) λv s1 ⟨x,H1,I1,r1,q1⟩=>?_
 rcases q1 with ⟨a,e,q⟩|⟨z,rfl,q⟩
 rotate_left
 .obtain⟨t,rfl⟩:=r1;refine wpAny_pyIter_strU ?_
  refine⟨s1.heap.objs.size,[s1.heap.objs.size],_,_,H1,rfl,I1.kept (t':=s1.toks) λb o e=>ud _ e,Š (z:=z) (n:=strIterType ⟨z.toArray⟩) (t:=t) (by unfold strIterType;split<;>simp),⟨_,Vf _ rfl,rfl,rfl⟩,λb hb=>?_,q⟩
  have e:b=s1.heap.objs.size:=by simpa using hb
  subst e;exact I1.Hm (Zc _)<|I1.ib.fresh<|Zc _
 subst e;cases r1;rcases q with ⟨⟨xs,hq⟩,q⟩|⟨⟨xs,hq⟩,q⟩
 .obtain⟨Sa,rv,p,hz⟩:=I1.list hq;refine dE p.isList ?_
  refine⟨s1.heap.objs.size,[s1.heap.objs.size],_,_,H1,rfl,I1.kept (t':=s1.toks) λb o e=>ud _ e,Ü a _,⟨_,Vf _ rfl,rfl,rfl⟩,λb hb=>?_,q⟩
  have e:b=s1.heap.objs.size:=by simpa using hb
  subst e;exact I1.Hm (Zc _)<|I1.ib.fresh<|Zc _
 .obtain⟨Sa,rv,p,hz⟩:=I1.tuple hq;refine wpAny_pyIter_tuple (show s1.heap.IsTuple a Sa.toArray from p) ?_
  refine⟨s1.heap.objs.size,[s1.heap.objs.size],_,_,H1,rfl,I1.kept (t':=s1.toks) λb o e=>ud _ e,Ϡ a _,⟨_,Vf _ rfl,rfl,rfl⟩,λb hb=>?_,q⟩
  have e:b=s1.heap.objs.size:=by simpa using hb
  subst e;exact I1.Hm (Zc _)<|I1.ib.fresh<|Zc _
def iQ{l:Expr}(hl:PE X l (tI X.K B f)):L2.PI X tg l (Xl X.K B<|Yc f):=GK (bMo hl) (by
 rintro σ H Rq ⟨A,st,ds,rs,hd,q⟩;obtain⟨x,hx,h2⟩:=R.ma hd;refine⟨A,st,x,rs,hx,λv H1 s1 r1=>?_⟩
 cases x<;>first|(cases h2;done)|skip
 .obtain⟨_,h2⟩:=aU h2;cases h2;exact .inr ⟨_,fL.mp r1,q _ H1 s1 bMn⟩
 .cases h2;obtain⟨a,vs,e,h3,r3⟩:=jK r1;exact .inl ⟨a,e,.inr ⟨⟨vs,jw (bN _ _) h3⟩,q _ H1 s1<|bMm h3 r3⟩⟩
 .cases h2;obtain⟨a,vs,e,h3,r3⟩:=jR.mp r1;exact .inl ⟨a,e,.inl ⟨⟨vs,(bN _ _).seq h3⟩,q _ H1 s1<|bMl h3 r3⟩⟩)
def wY{p:Pos}(hm:X.mg "range"=none)(ha:PE X a (tP X.K B f))(hg:Gl X "range":=by rfl)(hs:starEach [a] X.env=[(false,eval a X.env)]:=by rfl):L2.PI X tg (.Call (.Name "range" p) [a] [] pos) (Xl X.K B<|tH f):=GK (Ý hg hm (cJ ha gM hs) hs) (by
 rintro σ H Rq ⟨A,st,ds,rs,hd,q⟩;obtain⟨x,hx,h2⟩:=R.ma hd;obtain⟨j,rfl,h3⟩:=Qt h2;obtain⟨c,h4⟩:=aU h3;rw[pM]at c;cases h4;exact⟨A,st,_,rs,hx,λv H1 s1 r1=>⟨j,by rw[r1.int],by omega,by omega,q _ H1 s1 WZ⟩⟩)
def bPx{p:Pos}(hm:X.mg "range"=none)(ha:PE X a (tP X.K B f))(hb:PE X b (tP X.K B g))(hg:Gl X "range":=by rfl)(hs:starEach [a,b] X.env=[(false,eval a X.env),(false,eval b X.env)]:=by rfl)(Ef:starEach [b] X.env=[(false,eval b X.env)]:=by rfl)
  (YN:starEach [a,b] X.env=(false,eval a X.env)::starEach [b] X.env:=by rfl):L2.PI X tg (.Call (.Name "range" p) [a,b] [] pos) (Xl X.K B<|FL f g):=GK (Þ hg hm (cJ ha (cJ hb gM Ef) YN) hs Ef) (by
 rintro σ H Rq ⟨A,st,ds,rs,hd,q⟩;obtain⟨x,hx,h2⟩:=R.ma hd;obtain⟨y,hy,h5⟩:=R.ma h2;obtain⟨i,rfl,h6⟩:=Qt h5;obtain⟨j,rfl,h3⟩:=Qt h6;obtain⟨c,h4⟩:=aU h3;rw[pM]at c;cases h4;exact⟨A,st,_,rs,hx,λv H1 s1 r1=>⟨A,st,_,rs.mono s1,hy,λu H2 s2 r2=>⟨i,j,by rw[r1.int,r2.int],⟨by omega,by omega,by omega,by omega⟩,q _ H2 (s1.trans s2) WZ⟩⟩⟩)
end
def YA{K:Frag} (w:Own B H) (r:bI K (hide B H) ds vs):RS K B [] H (ds.map (λd=>some<|Sl.v d)++List.replicate (N.length-ds.length) none) (L2.start N vs):=by
 have hl:=r.length;have Rv:∀(i:Nat)(s:Sl),(ds.map (λd=>some<|Sl.v d)++List.replicate (N.length-ds.length) none)[i]?=some (some s)->∃d,ds[i]?=some d/\s=.v d:=λi s e=>by
  by_cases hi:i<ds.length
  .rw[Io (by simpa using hi),List.getElem?_map,List.getElem?_eq_getElem hi]at e
   simp at e;exact⟨ds[i],Nf hi,e.symm⟩
  .rw[Tx (by simpa using hi),List.getElem?_replicate]at e
   split at e<;>simp at e
 refine⟨by unfold L2.start;simp[hl],by rw[Yu];exact w,λa ha=>absurd ha (by simp),λi d e=>?_,λi kk xs e=>?_⟩
 .obtain⟨d',e1,e2⟩:=Rv i _ e;cases e2;obtain⟨v,hv,rv⟩:=r.get e1;refine⟨v,?_,by rw[Yu];exact rv⟩
  unfold L2.start;have hi:i<vs.length:=(Og.mp hv).1;rw[Io (by simpa using hi),List.getElem?_map,hv]
  rfl
 .obtain⟨d',e1,e2⟩:=Rv i _ e;cases e2
def ZA(ds:List D)(d:D)(h:bV np n bd ds=.ok d):ds.length=np:=(aU h).1
structure Ga(P:Program)(w:World)(K:Frag)(mg:Str->Option Value)(base:Heap)(x:Str)(k np:Nat)(p:List D->R D):Prop where
 ex:∃(fa:Addr)(fd:FuncData)(ps:List Str),Aa P w K mg base Ib k fa fd ps (jc K np p)/\mg x=some (.ref fa)/\keepIn K (.ref fa)=true/\Binds K fd ps []
 len:∀ds d,p ds=.ok d->ds.length=np
def Ga.of{K:Frag} {k:Nat} (h:Aa P w K mg base Ib k fa fd ps (jc K np p)) (m:mg x=some (.ref fa))
  (kp:keepIn K (.ref fa)=true) (b:Binds K fd ps []) (l:∀ds d,p ds=.ok d->ds.length=np):Ga P w K mg base x k np p:=⟨⟨fa,fd,ps,h,m,kp,b⟩,l⟩
section
variable{X:Cx}{B:List Addr}{a b e:Expr}{f g:Ex}{pos:Pos}
def uO{k:Nat} {r:ue} (h:Ga X.prog X.w X.K X.mg X.base x k np p) (hr:dc j X.A) (hk:k<=j) (ha:PA X (e::es) (tA X.K B r)) (hg:Gl X x:=by rfl) (Rf:xf x:=by decide)
  (he:Lf e es X.env:=by rfl) (ff:Ci pos es X.env:=by rfl):PE X (.Call (.Name x p0) (e::es) [] pos) (tI X.K B<|aO p r):=by
 obtain⟨fa,fd,ps,F,m,kp,bd⟩:=h.ex;exact bMj F (hr.mono hk) m kp bd h.len ha hg Rf he ff
def Ϻ{K:Frag} {a:Addr} (hS:Ae K H a (ns.map V.int)):bI K H [.lst<|ns.map D.int] [.ref a]:=by
 refine .cons (EI.mpr ⟨a,_,rfl,hS,?_,λz=>by cases ns<;>cases z⟩) .nil
 clear hS
 induction ns with
 |nil=>exact .nil
 |cons n ns ih=>exact .cons (bR.mpr rfl) ih
def bMp{K:Frag} {a:Addr} {E:XK} (hS:Ae K H a (ns.map V.int)) (h:p [.lst<|ns.map D.int]=.ok (.bl true)):jc K 1 p [.ref a] H (λv _=>v=.bl true) E:=
 ⟨[],[.lst<|ns.map D.int],.bl true,λb hb=>absurd hb (by simp),by rw[vP];exact Ϻ hS,rfl,h,λv H' _ r=>cU.mp r⟩
def mR(hm:X.mg "len"=none)(ha:PE X a (tP X.K B f))(hg:Gl X "len":=by rfl)(hs:Lf a [] X.env:=by rfl):PE X (.Call (.Name "len" p0) [a] [] pos) (tI X.K B<|e1 lW f):=by
 refine cP (nZ (M_.or<|N_.or Ċ) hg hm PySem.boot_len (cJ ha gM hs) (he:=hs)) ?_
 rintro σ H Q ⟨A,st,d,rs,hd,q⟩;obtain⟨x,hx,h2⟩:=R.ma hd;refine⟨A,st,x,rs,hx,λv H1 s1 r1=>?_⟩
 cases x<;>first|(cases h2;done)|skip
 .obtain⟨c,h3⟩:=aU h2;cases h3;exact .inr<|.inl ⟨_,by rw[r1.str],by rw[str_len];exact lim c,by rw[str_len];exact q _ H1 s1<|bR.mpr rfl⟩
 .cases h2;obtain⟨l,vs,e,h3,r3⟩:=r1.tup;exact .inl ⟨l,vs,by rw[e],.inr h3,by rw[r3.length];exact q _ H1 s1<|bR.mpr rfl⟩
 .cases h2;obtain⟨l,vs,e,h3,r3⟩:=r1.lst;exact .inl ⟨l,vs,by rw[e],.inl h3,by rw[r3.length];exact q _ H1 s1<|bR.mpr rfl⟩
 .rename_i t ks ds;cases t<;>first|(cases h2;done)|skip
  cases h2;obtain⟨a,oa,e,h3,h4⟩:=bId r1;exact .inr<|.inr ⟨a,oa,by rw[e],h3,by rw[h4];exact q _ H1 s1<|bR.mpr rfl⟩
def XZ:PO X none (tO X.K B PC):=RZ bGk (by
 rintro σ H Q ⟨A,st,o,rs,ho,q⟩;cases ho;exact q H<|bG.refl _)
def YZ(h:PE X e (tP X.K B f)):PO X (some e) (tO X.K B<|QC f):=RZ (bGl h) (by
 rintro σ H Q ⟨A,st,o,rs,ho,q⟩;obtain⟨x,hx,h2⟩:=R.ma ho;obtain⟨i,rfl,h3⟩:=Qt h2;cases h3;exact⟨A,st,_,rs,hx,λv H1 s1 r1=>⟨i,r1.int,q H1 s1⟩⟩)
theorem rV{α:Type}(x:List α):∀(k a:Nat),((List.range k).map (a + ·)).filterMap (x[·]?)=(x.drop a).take k
 |0,a=>by simp
 |k+1,a=>by
  rw[W3,Vd,WD,Jk];have e:((λb=>a+b) ∘ Nat.succ)=λb=>(a+1)+b:=by funext b;simp only[Function.comp_apply];omega
  rw[e];have ih:=rV x k<|a+1;rw[ih]
  by_cases h:a<x.length
  .rw[EE,Nf h];simp only[List.drop_eq_getElem_cons h,List.take_succ_cons]
  .rw[EE,QD (by omega)]
   simp only[List.drop_eq_nil_of_le (by omega:x.length<=a),List.drop_eq_nil_of_le (by omega:x.length<=a+1),List.take_nil]
def TX(n d:Nat)(o:Option Int):(match o with|none=>(d:Int)|some i=>if (1:Int)>0 then max 0 (min (if i<0 then i+(n:Int) else i) (n:Int)) else max (-1) (min (if i<0 then i+(n:Int) else i)<|(n:Int)-1))=((yf n d o:Nat):Int):=by
 cases o with
 |none=>rfl
 |some i=>
  show (if (1:Int)>0 then _ else _)=(((if i<0 then (i+(n:Int)).toNat else min i.toNat n):Nat):Int)
  rw[kb (by decide)]
  by_cases h:i<0
  .rw[kb h,kb h];omega
  .rw[gb h,gb h];omega
def š(lo hi:Option Int)(n:Nat):Builtin.Str.strSliceIndices lo hi 1 n=(List.range<|yf n n hi-yf n 0 lo).map (yf n 0 lo + ·):=by
 unfold Builtin.Str.strSliceIndices;simp only[show (1:Int)>0 by decide,if_true]
 have e1:=TX n 0 lo;have e2:=TX n n hi;simp only[show (1:Int)>0 by decide,if_true]at e1 e2
 rw[show ((0:Nat):Int)=0 from rfl]at e1
 refine qy (congrArg (λz=>sliceRange z _ 1)<|show _=((yf n 0 lo:Nat):Int) from e1)<|qy (congrArg (λz=>sliceRange _ z 1)<|show _=((yf n n hi:Nat):Int) from e2) ?_
 unfold sliceRange;simp only[show (1:Int)>0 by decide,if_true]
 have hc:(if ((yf n 0 lo:Nat):Int)<((yf n n hi:Nat):Int) then (((yf n n hi:Nat):Int)-((yf n 0 lo:Nat):Int)+1-1)/1 else 0).toNat=yf n n hi-yf n 0 lo:=by
  by_cases h:((yf n 0 lo:Nat):Int)<((yf n n hi:Nat):Int)
  .rw[kb h,Int.ediv_one];omega
  .rw[gb h];omega
 rw[hc];refine Fn λk _=>?_
 omega
def bIf(n d:Nat)(hd:d<=n)(o:Option Int):yf n d o<=n:=by
 cases o with
 |none=>exact hd
 |some v=>
  show (if v<0 then (v+(n:Int)).toNat else min v.toNat n)<=n
  by_cases hv:v<0
  .rw[kb hv];omega
  .rw[gb hv];omega
def ċ(x:List Nat)(lo hi:Option Int):Txt.slice ⟨x.toArray⟩ lo hi=⟨(cut x lo hi).toArray⟩:=by
 unfold Txt.slice cut;rw[str_len,š,Yd,Nl];have h1:=bIf x.length x.length (Zc _) hi
 by_cases h:yf x.length x.length hi-yf x.length 0 lo=x.length
 .have e0:yf x.length 0 lo=0\/x.length=0:=by omega
  rw[kb (by simp[h]),h]
  rcases e0 with e0|e0
  .rw[e0,drop_zero,List.take_length]
  .rw[Gu.mp e0];simp
 .rw[gb (by simp[h])]
  have e:(λ(i:Nat)=>(⟨x.toArray⟩:Str).cps[i]?)=λi=>x[i]?:=by funext i;simp
  rw[e,rV]
def bRt:V->Option Int->Option Int->Hp->VK->Prop:=λx lo hi H Q=>∃z:List Nat,x=.str ⟨z.toArray⟩/\z.length<=sizeLine/\Q (.str ⟨(cut z lo hi).toArray⟩) H
def bMq:br X bRt:=by
 intro aa s σ H x v vl vu lo hi sl Q I rx hs pl pu h;obtain⟨z,rfl,hz,q⟩:=h;obtain⟨t,rfl⟩:=rx;refine⟨"str",_,PySem.F.slot_str_getitem.lookup,typeIs_str _ _ _,?_⟩;have hl:(Txt.slice ⟨z.toArray⟩ lo hi).length<=sizeLine:=bf (Txt.slice_le _ _ _) (by rw[str_len];exact hz)
 have fin:∀t' k,EP X aa σ Q (.str (Txt.slice ⟨z.toArray⟩ lo hi) t') {s with toks:=k}:=λt' k=>⟨.str ⟨(cut z lo hi).toArray⟩,H,I.tok k,⟨t',by rw[ċ]⟩,q⟩
 cases pl with
 |none=>
  cases pu with
  |none=>exact MD (l:=none) (u:=none) (st:=none) hs rfl<|nE ⟨hl,fin⟩
  |int j uj=>exact MD (l:=none) (u:=some (j,uj)) (st:=none) hs rfl<|nE ⟨hl,fin⟩
 |int i ui=>
  cases pu with
  |none=>exact MD (l:=some (i,ui)) (u:=none) (st:=none) hs rfl<|nE ⟨hl,fin⟩
  |int j uj=>exact MD (l:=some (i,ui)) (u:=some (j,uj)) (st:=none) hs rfl<|nE ⟨hl,fin⟩
def Ţ{K:Frag} (lo hi:Option Int) (r:bI K H ds vs):bI K H (cut ds lo hi) (wu vs lo hi):=by
 unfold cut wu;rw[r.length];exact(r.drop _).take _
def F2{lo:Option Expr}{l u:ot} (ha:PE X a (tP X.K B f)) (hl:PO X lo (tO X.K B l)) (hu:PO X hi (tO X.K B u)):PE X (.Subscript a (.Slice lo hi none p2) pos) (tI X.K B<|NE f l u):=by
 refine cP (Ķ (bGn.or bMq) ha hl hu) ?_
 rintro σ H Q ⟨A,st,d,rs,hd,q⟩;obtain⟨x,hx,h2⟩:=R.ma hd;obtain⟨l',UE,h3⟩:=R.ma h2;obtain⟨u',Je,h4⟩:=R.ma h3;refine⟨A,st,x,rs,hx,λv H1 s1 r1=>⟨A,st,l',rs.mono s1,UE,λH2 s2=>⟨A,st,u',rs.mono<|s1.trans s2,Je,λH3 s3=>?_⟩⟩⟩
 have r3:=r1.mono<|s2.trans s3;cases x<;>first|(cases h4;done)|skip
 .obtain⟨c,h5⟩:=aU h4;cases h5;exact .inr ⟨_,r3.str,lim c,q _ H3 (s1.trans<|s2.trans s3)<|fL.mpr rfl⟩
 .cases h4;obtain⟨p,vs,e,h6,r6⟩:=r3.lst;refine .inl ⟨p,vs,e,h6,λn hn=>q _ _ (s1.trans<|s2.trans<|s3.trans<|cL hn) ?_⟩
  exact kJ (rs.own.mono<|s1.trans<|s2.trans s3) hn<|Ţ _ _ r6
end
def xj(cells:List (Str×Addr)):List (Str×NameKind)->List (Str×Addr)->List (Str×Addr)
 |[],xa=>xa
 |(n,k)::r,xa=>if k == .free then xj cells r ((n,(cells.lookup n).getD 0)::xa) else xj cells r xa
theorem XG{env:Env}:∀(names:List (Str×NameKind)) (xa:List (Str×Addr)),(∀y∈names,y.2=.free->∃c,env.cells.lookup y.1=some c)->
  (forIn names xa λx cs=>if x.2 == .free then (do let c <- cellOf env x.1;pure (ForInStep.yield<|(x.1,c)::cs)) else pure (ForInStep.yield cs):Sem (List<|Str×Addr))=pure (xj env.cells names xa)
 |[],xa,_=>by rw[forIn_nil];rfl
 |(n,k)::r,xa,h=>by
  rw[forIn_cons];unfold xj
  by_cases hk:k=.free
  .subst hk;obtain⟨c,e⟩:=h (n,.free) Jb rfl;have e2:cellOf env n=pure c:=by unfold cellOf;rw[e]
   simp only[beq_self_eq_true,if_true,e2,e,getD_some];show (forIn r ((n,c)::xa) _:Sem (List<|Str×Addr))=_;exact XG r _ λy hy=>h y<|Qb _ hy
  .have hb:(k==NameKind.free)=false:=by simpa using hk
   simp only[hb,Bool.false_eq_true,if_false];show (forIn r xa _:Sem (List<|Str×Addr))=_;exact XG r _ λy hy=>h y<|Qb _ hy
def n_{scope:Scope} (h:∀y∈scope.names,y.2=.free->∃c,env.cells.lookup y.1=some c):closureFor scope env=pure (xj env.cells scope.names []):=by
 have q:=XG (env:=env) scope.names [] h;unfold closureFor;rw[<-q];simp only[pure_bind,bind_pure]
theorem MJ{cells:List (Str×Addr)}:∀(names:List (Str×NameKind)) (xa:List (Str×Addr)) (x:Str) (c:Addr),(∀y∈names,y.2=.free->∃c,cells.lookup y.1=some c)->(x,c)∈xj cells names xa->((x,NameKind.free)∈names/\cells.lookup x=some c)\/(x,c)∈xa
 |[],xa,x,c,_,h=>.inr h
 |(n,k)::r,xa,x,c,hn,h=>by
  unfold xj at h;have hr:∀y∈r,y.2=.free->∃c,cells.lookup y.1=some c:=λy hy=>hn y<|Qb _ hy
  by_cases hk:k=.free
  .subst hk;rw[kb (by simp)]at h
   obtain⟨c',e⟩:=hn (n,.free) Jb rfl;rcases MJ r _ x c hr h with ⟨h1,h2⟩|h1
   .exact .inl ⟨Qb _ h1,h2⟩
   .rcases Kc.mp h1 with h1|h1
    .cases h1;refine .inl ⟨Jb,?_⟩;have e':cells.lookup n=some c':=e;rw[e'];rfl
    .exact .inr h1
  .rw[gb (by simpa using hk)]at h
   rcases MJ r _ x c hr h with ⟨h1,h2⟩|h1
   .exact .inl ⟨Qb _ h1,h2⟩
   .exact .inr h1
theorem NJ{cells:List (Str×Addr)}:∀(names:List (Str×NameKind)) (xa:List (Str×Addr)) (x:Str),((x,NameKind.free)∈names\/∃c,(x,c)∈xa)->∃c,(x,c)∈xj cells names xa
 |[],xa,x,h=>by
  rcases h with h|h
  .cases h
  .exact h
 |(n,k)::r,xa,x,h=>by
  unfold xj
  by_cases hk:k=.free
  .subst hk;rw[kb (by simp)]
   refine NJ r _ x ?_
   rcases h with h|⟨c,h⟩
   .rcases Kc.mp h with h|h
    .cases h;exact .inr ⟨_,Jb⟩
    .exact .inl h
   .exact .inr ⟨c,Qb _ h⟩
  .rw[gb (by simpa using hk)]
   refine NJ r _ x ?_
   rcases h with h|h
   .rcases Kc.mp h with h|h
    .cases h;exact absurd rfl hk
    .exact .inl h
   .exact .inr h
theorem xR{α:Type}:∀{l:List (Str×α)} {x:Str} {c:α},(x,c)∈l->∃c',l.lookup x=some c'
 |(n,v)::r,x,c,h=>by
  rw[fj];cases hb:x==n with
  |true=>exact⟨v,rfl⟩
  |false=>
   rcases Kc.mp h with h|h
   .cases h;simp at hb
   .exact xR h
theorem pZ{env:Env}:∀(names:List (Str×NameKind)) (x:Str),(names.map λ(n,k)=>if (k==NameKind.free&&env.scope.kind == .function&&env.kindOf n==some .cell) then (n,NameKind.cell) else (n,k)).lookup x =
  (names.lookup x).map λk=>if (k==NameKind.free&&env.scope.kind == .function&&env.kindOf x==some .cell) then NameKind.cell else k
 |[],_=>rfl
 |(n,k)::r,x=>by
  have ih:=@pZ env r x;rw[Vd,fj];show List.lookup x ((if (k==NameKind.free&&env.scope.kind == .function&&env.kindOf n==some .cell)=true then (n,NameKind.cell) else (n,k))::_)=_
  cases hx:x==n with
  |true=>
   have e:x=n:=Sj.mp hx;subst e
   by_cases hc:(k==NameKind.free&&env.scope.kind == .function&&env.kindOf x==some .cell)=true
   .rw[kb hc,fj,fj,hx];simp only[map_some];rw[kb hc]
   .rw[gb hc,fj,fj,hx];simp only[map_some];rw[gb hc]
  |false=>
   by_cases hc:(k==NameKind.free&&env.scope.kind == .function&&env.kindOf n==some .cell)=true
   .rw[kb hc,fj,fj,hx];exact ih
   .rw[gb hc,fj,fj,hx];exact ih
theorem rR:∀(names:List (Str×NameKind)) (n:Nat) (xa:List (Str×Addr)),cellsFrom n names xa=cellsFrom n names []++xa
 |[],_,_=>rfl
 |(x,k)::r,n,xa=>by
  unfold cellsFrom;split
  .rw[rR r (n+1)<|(x,n)::xa,rR r (n+1) [(x,n)],Cm];rfl
  .exact rR r n xa
theorem zY:∀(names:List (Str×NameKind)) (n:Nat) (xa:List (Str×Addr)) (x:Str) (c:Addr),(x,c)∈cellsFrom n names xa->(x,c)∈xa\/(x,NameKind.cell)∈names
 |[],_,_,_,_,h=>.inl h
 |(y,k)::r,n,xa,x,c,h=>by
  unfold cellsFrom at h;split at h
  .rename_i hk;rcases zY r _ _ x c h with z|z
   .rcases Kc.mp z with z|z
    .cases z;exact .inr (by rw[show k=NameKind.cell from by simpa using hk];exact Jb)
    .exact .inl z
   .exact .inr (Qb _ z)
  .rcases zY r _ _ x c h with z|z
   .exact .inl z
   .exact .inr (Qb _ z)
theorem rT:∀(names:List (Str×NameKind)) (n:Nat) (xa:List (Str×Addr)) (x:Str),((x,NameKind.cell)∈names\/∃c,(x,c)∈xa)->∃c,(x,c)∈cellsFrom n names xa
 |[],_,_,x,h=>h.elim (λz=>nomatch z) id
 |(y,k)::r,n,xa,x,h=>by
  unfold cellsFrom;split
  .refine rT r _ _ x ?_
   rcases h with h|⟨c,h⟩
   .rcases Kc.mp h with h|h
    .cases h;exact .inr ⟨n,Jb⟩
    .exact .inl h
   .exact .inr ⟨c,Qb _ h⟩
  .rename_i hk;refine rT r _ _ x ?_
   rcases h with h|h
   .rcases Kc.mp h with h|h
    .cases h;exact absurd rfl hk
    .exact .inl h
   .exact .inr h
theorem xS{α:Type}(x:Str):∀(l r:List (Str×α)),(l++r).lookup x=(l.lookup x).or (r.lookup x)
 |[],r=>by simp
 |(y,v)::l,r=>by
  rw[MM,fj,fj];cases hb:x==y with
  |true=>rfl
  |false=>exact xS x l r
theorem rW{α:Type}:∀{l:List (Str×α)} {x:Str} {v:α},(l.map (·.1)).Nodup->(x,v)∈l->l.lookup x=some v
 |(y,w)::l,x,v,nd,h=>by
  rw[Vd,Pj]at nd;rw[fj];rcases Kc.mp h with h|h
  .cases h;simp
  .have zi:(x==y)=false:=by
    rw[Jo];intro z;exact nd.1<|bg.mpr ⟨(x,v),h,z⟩
   rw[zi];exact rW nd.2 h
def Č{A:Around} {s:Shared} {scope:Scope} {gl:Addr} {Q:Env->Shared->Prop}
  (hQ:∀h',h'.Ns s.heap.objs.size (λ_=>none)->(∀b o,s.heap.get? b=some o->h'.get? b=some o)->CellsOk h' (s.heap.objs.size+1) (cellsFrom (s.heap.objs.size+1) scope.names [])->
   Q {scope:=scope,locals:=s.heap.objs.size,globals:=gl,cells:=cellsFrom (s.heap.objs.size+1) scope.names cl,qual:=qual,func:=none,code:=env.code,frame:=env.frame,builtins:=env.builtins} {s with heap:=h'}) :
  wpAny M A (newFunctionEnv scope gl cl [] qual none .none<|some env) Q E s:=by
 simp only[newFunctionEnv,Option.isSome_some,if_true];refine Ja<|wpAny_alloc<|Ja<|wpAny_layCells _ (λname kind cells=>by cases hkc:kind==NameKind.cell<;>simp[hkc]) _ _ _ _ ?_
 rw[forIn_nil];refine Ja<|Zb<|Zb ?_;have ok:=cellsFrom_ok scope.names (s.heap.push {cls:=.type "dict",data:=.dict #[]}) (s.heap.objs.size+1) [] ⟨λ_ _ hm=>(nomatch hm),List.Pairwise.nil⟩ (by rw[Uh];exact Zc _)
 rw[Uh]at ok;have e:({s with heap:=s.heap.push {cls:=.type "dict",data:=.dict #[]} }:Shared).heap.objs.size=s.heap.objs.size+1:=Uh ..
 rw[e];exact hQ _ ((Heap.Ns.new s.heap<|.type "dict").keeps<|pushCells_keeps _ _) (λb o q=>pushCells_keeps _ _ b o<|ud _ q) ok
structure Tc(X:Cx)(scope:Scope)(is:List Nat):Prop where
 kind:scope.kind=.function
 nd:(scope.names.map (·.1)).Nodup
 free:∀x∈scope.names,x.2=.free->X.env.kindOf x.1=some .cell\/X.env.kindOf x.1=some .free
 own:∀(i:Nat) x,X.N[i]?=some x->(scope.names.lookup x=some .local\/scope.names.lookup x=some .cell)->i∈is
section
variable{X:Cx}{scope:Scope}{is:List Nat}
theorem Tc.names(S:Tc X scope is):∀x∈scope.names,x.2=.local->scope.names.lookup x.1=some .local:=λx hx e=>rW S.nd (by rw[<-e];exact hx)
def cM(X:Cx)(scope:Scope)(C:Addr)(Ba:Shared)(Ka:Hp)(fp:List Addr):Cx:=
 {X with Ba:=Ba,Ka:=Ka,env:=compEnvC scope (cellsFrom (C+1) scope.names<|xj X.env.cells scope.names []) C X.env,outer:=X.stack,stack:=X.stack,ex:=fp,fn:=λx=>scope.names.lookup x==some .cell,pn:=[],xe:=λ_ _=>False,calm:=true}
theorem Tc.cells(S:Tc X scope is)(ok:X.Ok):∀y∈scope.names,y.2=.free->∃c,X.env.cells.lookup y.1=some c:=λy hy hf=>ok.has y.1<|S.free y hy hf
def Tc.lk(S:Tc X scope is)(ok:X.Ok){n:Nat}{x:Str}{c:Addr}(h:(cellsFrom n scope.names<|xj X.env.cells scope.names []).lookup x=some c) :
  ((cellsFrom n scope.names []).lookup x=some c/\scope.names.lookup x=some .cell)\/(scope.names.lookup x=some .free/\X.env.cells.lookup x=some c):=by
 rw[rR,xS]at h;cases e:(cellsFrom n scope.names []).lookup x with
 |some c'=>
  rw[e]at h;cases h;rcases zY _ _ _ _ _ (Gk e) with z|z
  .cases z
  .exact .inl ⟨rfl,rW S.nd z⟩
 |none=>
  rw[e]at h;have h:(xj X.env.cells scope.names []).lookup x=some c:=h;rcases MJ scope.names [] x c (S.cells ok) (Gk h) with ⟨h1,h2⟩|h2
  .exact .inr ⟨rW S.nd h1,h2⟩
  .cases h2
def oq(is:List Nat)(σ:Zi):Zi:=is.foldl (λτ i=>τ.set i none) σ
def AV(is:List Nat):∀σ:Zi,(oq is σ).length=σ.length:=by
 induction is with
 |nil=>exact λ_=>rfl
 |cons i is ih=>intro σ;show (oq is<|σ.set i none).length=_;rw[ih,Kn]
def ţ(is:List Nat):∀(σ:Zi)(j:Nat)(v:V),(oq is σ)[j]?=some (some v)->σ[j]?=some (some v)/\j∉is:=by
 induction is with
 |nil=>exact λσ j v h=>⟨h,by simp⟩
 |cons i is ih=>
  intro σ j v h;obtain⟨h1,h2⟩:=ih (σ.set i none) j v h;rw[eh]at h1
  by_cases e:i=j
  .subst e;rw[kb rfl]at h1;split at h1<;>cases h1
  .rw[gb e]at h1;exact⟨h1,λz=>(Kc.mp z).elim (λz=>e z.symm) h2⟩
def ϻ{s:Shared}{fp:List Addr} (S:Tc X scope is) (hc:X.calm=true) (I:ya X aa σ H s) (hf:∀b∈fp,Mj X aa H b) (hlt:∀b∈fp,b<s.heap.objs.size)
  (hn:h'.Ns s.heap.objs.size λ_=>none) (hk:∀b o,s.heap.get? b=some o->h'.get? b=some o) (Pn:CellsOk h' (s.heap.objs.size+1) (cellsFrom (s.heap.objs.size+1) scope.names [])) :
  ya (cM X scope s.heap.objs.size s H fp) [] (oq is σ) H {s with heap:=h',toks:=t'}:=by
 have lk:=@Tc.lk X scope is S I.ok<|s.heap.objs.size+1;have nf:∀b∈fp,b≠s.heap.objs.size:=λb hb=>Cf<|hlt b hb
 have Gm:∀x c,X.env.cells.lookup x=some c->c<s.heap.objs.size:=λx c e=>by
  obtain⟨v,q⟩:=I.cell x c e;exact q.lt
 have ownGe:∀x c,(cellsFrom (s.heap.objs.size+1) scope.names []).lookup x=some c->s.heap.objs.size+1<=c:=λx c e=>(Pn.empty x c<|Gk e).2
 have has:∀x k,(k=.cell\/k=.free)->scope.names.lookup x=some k->∃c,(cellsFrom (s.heap.objs.size+1) scope.names<|xj X.env.cells scope.names []).lookup x=some c:=λx k hk e=>by
  have hm:=Gk e;rcases hk with rfl|rfl
  .obtain⟨c,q⟩:=rT scope.names (s.heap.objs.size+1) (xj X.env.cells scope.names []) x<|.inl hm;exact xR q
  .obtain⟨c,q⟩:=rT scope.names (s.heap.objs.size+1) (xj X.env.cells scope.names []) x<|.inr<|NJ (cells:=X.env.cells) scope.names [] x<|.inl hm;exact xR q
 have knd:∀x,(relabel scope X.env).names.lookup x=some .cell\/(relabel scope X.env).names.lookup x=some .free->scope.names.lookup x=some .cell\/scope.names.lookup x=some .free:=λx hx=>by
  unfold relabel at hx;rw[pZ]at hx;cases e:scope.names.lookup x with
  |none=>rw[e]at hx;rcases hx with hx|hx<;>cases hx
  |some k=>
   rw[e]at hx;simp only[map_some]at hx
   by_cases hc:(k==NameKind.free&&X.env.scope.kind == .function&&X.env.kindOf x==some .cell)=true
   .simp only[and_eq_true,beq_iff_eq]at hc;exact .inr (by rw[hc.1.1])
   .rw[gb hc]at hx;exact hx
 refine⟨⟨I.ok.mod,?_,I.ok.glob,I.ok.blt,Zc _,λx y c h1 h2=>?_,λx hx=>?_,λx c Zr e=>?_,λ_=>I.ok.hd hc,I.ok.frames,.inl rfl,λb hb=>⟨nf b hb,λx c e z=>?_⟩,I.bs,?_,λb o e hb=>?_,λb hb z=>?_,I.stack,I.Wg⟩,
  rfl,I.bare,Un.kept hk,⟨_,hn,λi x v e1 e2 e3=>?_⟩,λx c e=>?_,I.ib.fresh<|Zc _,λx c e=>?_,(λp hp=>absurd (show p∈([]:List (Addr×Obj)) from hp)<|by simp),I.ib.kept hk,by rw[AV];exact I.len⟩
 .show (relabel scope X.env).kind=.function;exact S.kind
 .rcases lk h1 with ⟨a1,_⟩|⟨_,a1⟩ <;> rcases lk h2 with ⟨a2,_⟩|⟨_,a2⟩
  .exact name_of_addr Pn.apart (Gk a1) (Gk a2)
  .exact absurd (Ig (Gm y c a2)<|EM<|ownGe x c a1) (Oi _)
  .exact absurd (Ig (Gm x c a1)<|EM<|ownGe y c a2) (Oi _)
  .exact I.ok.inj x y c a1 a2
 .rcases knd x hx with e|e
  .exact has x _ (.inl rfl) e
  .exact has x _ (.inr rfl) e
 .have Zr:scope.names.lookup x=some .cell:=Sj.mp Zr;rcases lk e with ⟨a1,_⟩|⟨a1,_⟩
  .have:=ownGe x c a1;show s.heap.objs.size<=c;omega
  .rw[Zr]at a1;cases a1
 .rcases lk e with ⟨a1,_⟩|⟨_,a1⟩
  .have h2:=hlt b hb;rw[<-z]at h2;exact absurd (Ig h2<|EM<|ownGe x c a1)<|Oi _
  .exact(hf b hb).2.2.2.2.1 x c a1 z
 .exact bf I.ok.Em I.sz
 .rcases (hf b hb).2.2.2.1 with z|z
  .exact I.ok.Fj b o e z
  .exact absurd (Ig (Ud e)<|bf I.ok.Em z) (Oi _)
 .rcases Kc.mp (I.Kj b z) with z|z
  .exact(hf b hb).2.1 z
  .exact(hf b hb).2.2.1 z
 .obtain⟨e2,WE⟩:=ţ is σ i v e2;have e3:(relabel scope X.env).names.lookup x=some .local\/(relabel scope X.env).names.lookup x=some .cell\/(relabel scope X.env).names.lookup x=some .free:=e3;have hfr:scope.names.lookup x=some .free:=by
   have e4:=e3;unfold relabel at e4;rw[pZ]at e4;cases e:scope.names.lookup x with
   |none=>rw[e]at e4;rcases e4 with e4|e4|e4<;>cases e4
   |some k=>
    rw[e]at e4;simp only[map_some]at e4
    by_cases hc:(k==NameKind.free&&X.env.scope.kind == .function&&X.env.kindOf x==some .cell)=true
    .simp only[and_eq_true,beq_iff_eq]at hc;rw[hc.1.1]
    .rw[gb hc]at e4;rcases e4 with e4|e4|e4
     .exact absurd (S.own i x e1<|.inl<|by rw[e,e4]) WE
     .exact absurd (S.own i x e1<|.inr<|by rw[e,e4]) WE
     .exact e4
  have WN:(relabel scope X.env).names.lookup x=some .cell\/(relabel scope X.env).names.lookup x=some .free:=by
   rcases e3 with e3|e3|e3
   .unfold relabel at e3;rw[pZ,hfr]at e3;simp only[map_some]at e3;split at e3<;>cases e3
   .exact .inl e3
   .exact .inr e3
  have iz:=S.free _ (Gk hfr) rfl;obtain⟨m,hm,hl⟩:=I.loc;obtain⟨u,ru,lu⟩:=hl i x v e1 e2<|.inr iz;refine⟨u,ru,.inr ⟨WN,?_⟩⟩;rcases lu with ⟨k1,_⟩|⟨_,c,ec,zc⟩
  .have k1:X.env.kindOf x=some .local:=k1;rcases iz with q|q<;>rw[k1]at q<;>cases q
  .obtain⟨c2,e5⟩:=has x _ (.inr rfl) hfr;rcases lk e5 with ⟨_,a1⟩|⟨_,a1⟩
   .rw[hfr]at a1;cases a1
   .rw[ec]at a1;cases a1;exact⟨c,e5,zc.keeps hk⟩
 .rcases lk e with ⟨a1,_⟩|⟨_,a1⟩
  .exact⟨_,(Pn.empty x c<|Gk a1).1⟩
  .obtain⟨v,q⟩:=I.cell x c a1;exact⟨v,q.keeps hk⟩
 .rcases lk e with ⟨a1,_⟩|⟨_,a1⟩
  .exact I.ib.fresh (by have:=ownGe x c a1;omega)
  .exact I.Fe x c a1
end
def M9(elt target iter c:Expr)(scope:Scope)(pos:Pos)(it xa:Value)(env:Env) :
  compTurn (.ListComp elt [⟨target,iter,[c],0⟩] scope pos) 0 it xa env=(standAt iter.pos >>= λ_=>pyNext it >>= λr=>match r with
   |none=>pure<|.done .next
   |some v=>letOwnedTupleGo target it v >>= λ_=>assign target env v >>= λ_=>isTrue c env (eval c env) >>= λok=>
    if ok=true then (eval elt env >>= λx=>call (.builtin "list.append") [xa,x] >>= λ_=>again<|.compLoop (.ListComp elt [⟨target,iter,[c],0⟩] scope pos) 0 it xa env)
    else again (.compLoop (.ListComp elt [⟨target,iter,[c],0⟩] scope pos) 0 it xa env)):=by
 unfold compTurn;simp[forIn_cons,forIn_nil];rfl
def w9(elt target iter:Expr)(scope:Scope)(pos:Pos)(it xa:Value)(env:Env) :
  compTurn (.ListComp elt [⟨target,iter,[],0⟩] scope pos) 0 it xa env=(standAt iter.pos >>= λ_=>pyNext it >>= λr=>match r with
   |none=>pure<|.done .next
   |some v=>letOwnedTupleGo target it v >>= λ_=>assign target env v >>= λ_=>
    (eval elt env >>= λx=>call (.builtin "list.append") [xa,x] >>= λ_=>again<|.compLoop (.ListComp elt [⟨target,iter,[],0⟩] scope pos) 0 it xa env)):=by
 unfold compTurn;simp[forIn_nil];rfl
section
variable{X:Cx}{scope:Scope}{is:List Nat}{elt tg iter:Expr}{pos:Pos}{wi:TI}{g:TG}{te:TE}{tt:TT}
def Z5(is:List Nat)(wi:TI)(g:TG)(tt:TT)(te:TE):TE:=λσ H Q=>wi σ H λJ H1=>∀p,H1 p=none->∃W:Nat->Nat->Zi->List V->Hp->Prop,(∃m,W 0 m (oq is σ) []<|Ob H1 p<|.lst [])/\
 ∀i m τ vs H,W i m τ vs H->H p=some (.lst vs)/\((J.stop i H/\Q (.ref p) H)\/(J.go i H/\∀x H',J.Vv i H x H'->g x τ H' λYn H2=>tt Yn H2 λk H3=>
  if k=true then te Yn H3 λy H4=>H4 p=some (.lst vs)/\vs.length<sizeLine/\∃m',m' < m/\W (i+1) m' Yn (vs++[y]) (Ob H4 p<|.lst<|vs++[y]) else ∃m',m' < m/\W (i+1) m' Yn vs H3))
def Bw{fp:List Addr} (I:ya X aa σ H s) (hf:∀b∈fp,Mj X aa H b) (hC:s.heap.objs.size<=C) (J:ya (cM X scope C s H fp) [] σ5 H5 s5)
  (hs:Heap.SameBut C s5.heap h'):ya X aa σ H5 {s5 with heap:=h'}:=by
 have Ui:H5 C=none:=J.free;have ne:∀b o,s.heap.get? b=some o->b≠C:=λb o e z=>by
  have:=Ud e;subst z;exact absurd (Ig this hC)<|Oi _
 have u:Un (De X.stack) fp H H5 s.heap h':=⟨λb o e n hb hx=>hs.extBut b o (ne b o e)<|J.base.keep b o e n hb hx,λb o e n hb hx=>by
   obtain⟨sl,q⟩:=J.base.slot b o e n hb hx;exact⟨sl,hs.extBut b _ (ne b o e) q⟩,J.base.free,λb o e hx=>by
   obtain⟨o',q⟩:=J.base.there b o e hx;exact⟨o',hs.extBut b _ (ne b o e) q⟩,J.base.rh,J.base.Qg,J.base.qh⟩
 have ib:Ze X.prog X.w H5 h':=λb o e=>by
  refine(J.ib b o e).ph (λc v hc q=>hs.extBut c v ?_ q) (λ_ q=>q) λ_ _ q=>q
  rintro rfl;rcases hc with z|z
  .subst z;rw[Ui]at e;cases e
  .rw[Ui]at z;cases z
 obtain⟨hh,gg,dd,tt,os⟩:=s5;have Nv:os=s.os:=J.os;subst Nv;have fin:=I.call (h':=h') (g':=gg) (d':=dd) (t':=tt) (ch:=fp) u ib J.bare λb hb=>⟨(hf b hb).2.2.2.1,(hf b hb).2.1,(hf b hb).2.2.2.2.1,(hf b hb).2.2.2.2.2⟩
 exact fin
def IT{p:Addr} {k:Sem α} {Q:α->Shared->Prop} (he:PE Y elt te) (hx:∀e s',Y.xe e s'->E e s') (I:ya Y aa τ H s) (hw:te τ H λy H4=>H4 p=some (.lst vs)/\vs.length<sizeLine/\∀s',ya Y aa τ (Ob H4 p<|.lst<|vs++[y]) s'->wpAny (model Y.prog Y.w) Y.A k Q E s') :
  wpAny (model Y.prog Y.w) Y.A (eval elt Y.env >>= λx=>call (.builtin "list.append") [.ref p,x] >>= λ_=>k) Q E s:=by
 refine Ja<|Kk (he aa s τ H _ I hw) (λu s1 ⟨y,H4,I4,r4,hp,hz,q⟩=>?_) hx
 obtain⟨z,Sa,n,r,hl,e⟩:=I4.Yk hp;refine Ja<|Lr QL ⟨_,e,rfl⟩ PySem.F.entry_list_append (J3 _ _) (PySem.list_append p Sa.toArray n u<|by rw[dh];omega) ⟨e,?_⟩
 refine q _<|I4.Bp (Sf:=Sa++[u]) (t':=s1.toks) hp e (by simp) (r.append<|.cons r4 .nil) ?_
 rw[Wf,Gh];omega
end
def č{env:Env}{g:TG} {it p:Addr} {fp:List Addr} {tn:Nat->Heap->Prop} {R:Result->Shared->Prop} {Ap:Pos} {rest:Sem Fin}
  (T:Turn Y.prog Y.w Y.K tg J fp it tn) (hc:Y.calm=true) (hE:Y.xe=λ_ _=>False) (hg:PG Y tg g) (hq:(Code.compLoop e 0 (.ref it) (.ref p) Y.env).quiet=true)
  (Xr:∀(s:Shared)(Q:Fin->Shared->Prop),wpAny (model Y.prog Y.w) Y.A (pyNext (.ref it) >>= λr=>match r with
    |none=>pure<|.done .next
    |some v=>letOwnedTupleGo tg (.ref it) v >>= λ_=>assign tg Y.env v >>= λ_=>rest) Q (λ_ _=>False) s->
   wpAny (model Y.prog Y.w) (Y.A.under<|.compLoop e 0 (.ref it) (.ref p) Y.env) ((model Y.prog Y.w).den<|.compLoop e 0 (.ref it) (.ref p) Y.env) Q (λ_ _=>False) s)
  (Pm:∀(τ:Zi)(H:Hp)(s:Shared) (aa:List (Addr×Obj)) (vs:List V) (N:Hp->List V->Prop) (Q:Fin->Shared->Prop),ya Y aa τ H s->
   (tt τ H λk H3=>if k=true then te τ H3 λy H4=>H4 p=some (.lst vs)/\vs.length<sizeLine/\N (Ob H4 p<|.lst<|vs++[y]) (vs++[y]) else N H3 vs)->
   (∀s' H' ws,ya Y aa τ H' s'->N H' ws->Q (.again<|.compLoop e 0 (.ref it) (.ref p) Y.env) s')->wpAny (model Y.prog Y.w) Y.A rest Q (λ_ _=>False) s)
  (W:Nat->Nat->Zi->List V->Hp->Prop) {Qe:Hp->Prop}
  (step:∀i m τ vs H,W i m τ vs H->H p=some (.lst vs)/\((J.stop i H/\Qe H)\/(J.go i H/\∀x H',J.Vv i H x H'->g x τ H' λYn H2=>tt Yn H2 λk H3=>
   if k=true then te Yn H3 λy H4=>H4 p=some (.lst vs)/\vs.length<sizeLine/\∃m',m' < m/\W (i+1) m' Yn (vs++[y]) (Ob H4 p<|.lst<|vs++[y]) else ∃m',m' < m/\W (i+1) m' Yn vs H3)))
  (hR:∀τ H s,ya Y [] τ H s->Qe H->R (.ok .next) s) (I:ya Y [] τ H s) (st:tn i s.heap) (fr:∀b∈fp,Mj Y [] H b) (w:W i m τ vs H) :
  codeAny (model Y.prog Y.w) Y.A (.compLoop e 0 (.ref it) (.ref p) Y.env) R s:=by
 have Jj:∀{H':Hp},(∀b∈fp,H' b=none)->∀b∈fp,Mj Y [] H' b:=λhn b hb=>⟨hn b hb,(fr b hb).2⟩
 refine codeAny_loop hq (λn s'=>∃i o6 Fg H',ya Y [] o6 H' s'/\tn i s'.heap/\(∀b∈fp,H' b=none)/\W i n o6 Fg H') (λn s3 hI=>?_) m ⟨i,τ,vs,H,I,st,λb hb=>(fr b hb).1,w⟩
 obtain⟨i,Qz,i6,H3,I3,Ez,Gy,w3⟩:=hI;refine Kk (Xr s3 _ ?_) (λ_ _ q=>q)<|λ_ _ q=>q.elim
 obtain⟨hp,hs⟩:=step i n Qz i6 H3 w3;rcases hs with ⟨stop,qe⟩|⟨go,hs⟩
 .refine Ja (qc (T.done Y rfl rfl rfl hc i [] s3 Qz H3 (λ_ _=>False) I3 (Jj Gy) Ez stop) λr s4 ⟨hr,I4⟩=>?_)
  subst hr;exact Zb<|hR Qz H3 s4 I4 qe
 .refine Ja (qc (T.item Y rfl rfl rfl hc i [] s3 Qz H3 (λ_ _=>False) I3 (Jj Gy) Ez go) λr s4 ⟨u,hr,h4⟩=>?_)
  subst hr;refine Ja<|qc h4 λ_ s5 ⟨x,H5,I5,r5,y5,st5,fr5⟩=>?_
  have Yv:=I5.pinned (Jj fr5)<|T.obj _ _ st5;have Oq:=hg _ s5 Qz H5 x u _ Yv r5<|hs x H5 y5;rw[hE]at Oq;refine Ja<|qc Oq λ_ s6 ⟨τ6,H6,I6,q6⟩=>?_
  refine Pm τ6 H6 s6 _ i6 (λH' ws=>∃m',m' < n/\W (i+1) m' τ6 ws H') _ I6 q6 λs7 H7 ws I7 ⟨m',hm,w7⟩=>?_
  refine⟨rfl,m',hm,i+1,τ6,ws,H7,I7.xg,T.keep _ _ _ st5 λb hb o e=>(I7.pin (b,o)<|Pg _<|Pg _<|zJ hb e).1,λb hb=>?_,w7⟩
  obtain⟨o,e,d⟩:=T.obj _ _ st5 b hb;exact(I7.pin (b,o)<|Pg _<|Pg _<|zJ hb e).2.1
section
variable{X:Cx}{scope:Scope}{is:List Nat}{elt tg iter c:Expr}{pos:Pos}{wi:TI}{g:TG}{te:TE}{tt:TT}
def uV{use:Option (Value->Sem Unit)} {aa:List (Addr×Obj)} {s:Shared} {H:Hp} {Q:VK} {ifs:List Expr} {rest:Env->Value->Value->Sem Fin} (S:Tc X scope is) (hc:X.calm=true) (hi:L2.PI X tg iter wi) (hg:∀C Ba Ka fp,PG (cM X scope C Ba Ka fp) tg g)
  (Es:∀it xa env,(Code.compLoop (.ListComp elt [⟨tg,iter,ifs,0⟩] scope pos) 0 it xa env).quiet=true)
  (Xr:∀C Ba Ka fp it p (s:Shared) (Q:Fin->Shared->Prop),wpAny (model X.prog X.w) X.A (pyNext (.ref it) >>= λr=>match r with
    |none=>pure<|.done .next
    |some v=>letOwnedTupleGo tg (.ref it) v >>= λ_=>assign tg (cM X scope C Ba Ka fp).env v >>= λ_=>rest (cM X scope C Ba Ka fp).env (.ref it)<|.ref p) Q (λ_ _=>False) s->
   wpAny (model X.prog X.w) (X.A.under<|.compLoop (.ListComp elt [⟨tg,iter,ifs,0⟩] scope pos) 0 (.ref it) (.ref p) (cM X scope C Ba Ka fp).env) ((model X.prog X.w).den<|.compLoop (.ListComp elt [⟨tg,iter,ifs,0⟩] scope pos) 0 (.ref it) (.ref p) (cM X scope C Ba Ka fp).env) Q (λ_ _=>False) s)
  (Pm:∀C Ba Ka fp it p (τ:Zi) (H:Hp) (s:Shared) (aa:List (Addr×Obj)) (vs:List V) (N:Hp->List V->Prop) (Q:Fin->Shared->Prop),ya (cM X scope C Ba Ka fp) aa τ H s->
   (tt τ H λk H3=>if k=true then te τ H3 λy H4=>H4 p=some (.lst vs)/\vs.length<sizeLine/\N (Ob H4 p<|.lst<|vs++[y]) (vs++[y]) else N H3 vs)->
   (∀s' H' ws,ya (cM X scope C Ba Ka fp) aa τ H' s'->N H' ws->Q (.again<|.compLoop (.ListComp elt [⟨tg,iter,ifs,0⟩] scope pos) 0 (.ref it) (.ref p) (cM X scope C Ba Ka fp).env) s')->
   wpAny (model X.prog X.w) X.A (rest (cM X scope C Ba Ka fp).env (.ref it)<|.ref p) Q (λ_ _=>False) s)
  (hs:∀x,foldedSetIterable iter X.env x=pure x) (I:ya X aa σ H s) (h:Z5 is wi g tt te σ H Q)
  (HN:∀C p H5 s5 m5 s3 H3 fp τ,s3.heap.objs.size<=C->ya X aa σ H3 s3->(∀b∈fp,Mj X aa H3 b)->ya (cM X scope C s3 H3 fp) [] τ H5 s5->s5.heap.Ns C m5->Q (.ref p) H5->compPost (model X.prog X.w) X.A X.xe use Qf (.ref p) C (.ok .next) s5) :
  wpAny (model X.prog X.w) X.A (comprehension (.ListComp elt [⟨tg,iter,ifs,0⟩] scope pos) scope X.env ppos (newList []) false (eval iter X.env) use) Qf X.xe s:=by
 refine wpAny_comprehension_free (use:=use) rfl hs (n_<|S.cells I.ok) S.kind S.names ?_
 refine qc (hi aa s σ H _ I h) λv s1 h1=>qc h1 λJO s2 h2=>?_
 obtain⟨it,fp,tn,J,H2,e,I2,T,Dh,f2,hW⟩:=h2;subst e;refine Nu<|Č λjg As hkp Vr=>?_
 have I3:ya X aa σ (Ob H2 s2.heap.objs.size<|.lst []) {s2 with heap:=s2.heap.push {cls:=.type "list",data:=.seq ([]:List Value).toArray} }:=I2.Ks (t':=s2.toks) .nil<|Ih _
 obtain⟨W,⟨m,w0⟩,step⟩:=hW s2.heap.objs.size I2.fresh;have hob:∀b∈fp,b<s2.heap.objs.size:=λb hb=>let ⟨o,e,_⟩:=T.obj 0 _ Dh b hb;Ud e
 have Ti:∀b∈fp,Mj X aa (Ob H2 s2.heap.objs.size<|.lst []) b:=λb hb=>⟨by rw[bU<|Cf<|hob b hb];exact(f2 b hb).1,(f2 b hb).2⟩
 have hk:∀b o,(s2.heap.push {cls:=.type "list",data:=.seq ([]:List Value).toArray}).get? b=some o->jg.get? b=some o:=hkp;have Ic:=ϻ (t':=s2.toks) S hc I3 Ti (λb hb=>Ig (hob b hb)<|by rw[Uh];exact Cq _) As hk Vr
 have W5:tn 0 jg:=T.keep 0 _ _ Dh λb _ o e=>hk b o<|ud _ e
 have fr4:∀b∈fp,Mj (cM X scope _ _ _ fp) [] (Ob H2 s2.heap.objs.size<|.lst []) b:=λb hb=>⟨(Ti b hb).1,(Ic.ok.Av b hb).1,Ic.ok.yj b hb,.inl hb,λx c e=>(Ic.ok.Av b hb).2 x c e,λp hp=>absurd (show p∈([]:List (Addr×Obj)) from hp)<|by simp⟩
 have loop:=č (Y:=cM X scope _ _ _ fp) (e:=.ListComp elt [⟨tg,iter,ifs,0⟩] scope pos) (env:=X.env) (Ap:=pos) T rfl rfl (hg _ _ _ fp) (Es _ _ _) (Xr _ _ _ fp it s2.heap.objs.size) (Pm _ _ _ fp it s2.heap.objs.size) W step
  (R:=compPost (model X.prog X.w) X.A X.xe use Qf (.ref s2.heap.objs.size) (s2.heap.push {cls:=.type "list",data:=.seq ([]:List Value).toArray}).objs.size) (λτ H5 s5 I5 q5=>by
   obtain⟨m5,Cj,_⟩:=I5.loc;exact HN _ _ H5 s5 m5 _ _ fp τ (Zc _) I3 Ti I5 Cj q5) Ic W5 fr4 w0
 exact codeAny_compStart_list loop<|T.self _ 0 _ _ _ W5 loop
def rA{it xa:Value}:(Code.compLoop e 0 it xa env).quiet=true:=rfl
def JL {it p : Addr}  {Q : Fin -> Shared -> Prop} (h : wpAny (model X.prog X.w) X.A (pyNext (.ref it) >>= fun r => match r with
        |none=>pure<|.done .next
        |some v=>letOwnedTupleGo tg (.ref it) v >>= λ_=>assign tg Y.env v >>= λ_=>(eval elt Y.env >>= λx=>call (.builtin "list.append") [.ref p,x] >>= λ_=>again<|.compLoop (.ListComp elt [⟨tg,iter,[],0⟩] scope pos) 0 (.ref it) (.ref p) Y.env)) Q (λ_ _=>False) s) :
      wpAny (model X.prog X.w) (X.A.under<|.compLoop (.ListComp elt [⟨tg,iter,[],0⟩] scope pos) 0 (.ref it) (.ref p) Y.env) ((model X.prog X.w).den<|.compLoop (.ListComp elt [⟨tg,iter,[],0⟩] scope pos) 0 (.ref it) (.ref p) Y.env) Q (λ_ _=>False) s:=by
 show wpAny _ _ ((compTurn (.ListComp elt [⟨tg,iter,[],0⟩] scope pos) 0 (.ref it) (.ref p) Y.env).onRaise<|λx=>do noteFrame x Y.env;theTreesLotGoes x) _ _ s
 refine wpAny_noted ?_
 rw[w9];exact Ja<|Wu<|Kk h (λ_ _ q=>q) λ_ _ q=>q.elim
def KL {it p : Addr}  {Q : Fin -> Shared -> Prop} (h : wpAny (model X.prog X.w) X.A (pyNext (.ref it) >>= fun r => match r with
        |none=>pure<|.done .next
        |some v=>letOwnedTupleGo tg (.ref it) v >>= λ_=>assign tg Y.env v >>= λ_=>(isTrue c Y.env (eval c Y.env) >>= λok=>if ok=true then (eval elt Y.env >>= λx=>call (.builtin "list.append") [.ref p,x] >>= λ_=>again<|.compLoop (.ListComp elt [⟨tg,iter,[c],0⟩] scope pos) 0 (.ref it) (.ref p) Y.env)
          else again (.compLoop (.ListComp elt [⟨tg,iter,[c],0⟩] scope pos) 0 (.ref it) (.ref p) Y.env))) Q (λ_ _=>False) s) :
      wpAny (model X.prog X.w) (X.A.under<|.compLoop (.ListComp elt [⟨tg,iter,[c],0⟩] scope pos) 0 (.ref it) (.ref p) Y.env) ((model X.prog X.w).den<|.compLoop (.ListComp elt [⟨tg,iter,[c],0⟩] scope pos) 0 (.ref it) (.ref p) Y.env) Q (λ_ _=>False) s:=by
 show wpAny _ _ ((compTurn (.ListComp elt [⟨tg,iter,[c],0⟩] scope pos) 0 (.ref it) (.ref p) Y.env).onRaise<|λx=>do noteFrame x Y.env;theTreesLotGoes x) _ _ s
 refine wpAny_noted ?_
 rw[M9];exact Ja<|Wu<|Kk h (λ_ _ q=>q) λ_ _ q=>q.elim
def LB:TT:=λ_ H Q=>Q true H
def kL(hY:Y.xe=λ_ _=>False)(he:PE Y elt te){it p:Addr}(τ:Zi)(H:Hp)(s:Shared)(aa:List (Addr×Obj))(vs:List V)(N:Hp->List V->Prop)(Q:Fin->Shared->Prop)(I:ya Y aa τ H s)
  (h:LB τ H λk H3=>if k=true then te τ H3 λy H4=>H4 p=some (.lst vs)/\vs.length<sizeLine/\N (Ob H4 p<|.lst<|vs++[y]) (vs++[y]) else N H3 vs)
  (mono:∀(Q Q':VK),(∀v H',Q v H'->Q' v H')->te τ H Q->te τ H Q')
  (q:∀s' H' ws,ya Y aa τ H' s'->N H' ws->Q (.again<|.compLoop (.ListComp elt [⟨tg,iter,[],0⟩] scope pos) 0 (.ref it) (.ref p) Y.env) s') :
  wpAny (model Y.prog Y.w) Y.A (eval elt Y.env >>= λx=>call (.builtin "list.append") [.ref p,x] >>= λ_=>again<|.compLoop (.ListComp elt [⟨tg,iter,[],0⟩] scope pos) 0 (.ref it) (.ref p) Y.env) Q (λ_ _=>False) s:=by
 have h':te τ H λy H4=>H4 p=some (.lst vs)/\vs.length<sizeLine/\N (Ob H4 p<|.lst<|vs++[y]) (vs++[y]):=h
 exact IT he (by rw[hY];exact λ_ _ z=>z) I<|mono _ _ (λy H4 ⟨a,b,n⟩=>⟨a,b,λs' I'=>Zb<|q s' _ _ I' n⟩) h'
end
section
variable{K:Frag} {st:ua}
def bIg(is:List Nat):∀st:ua,(Kh is st).length=st.length:=by
 induction is with
 |nil=>exact λ_=>rfl
 |cons i is ih=>intro st;show (Kh is<|st.set i none).length=_;rw[ih,Kn]
def MB(is:List Nat):∀(st:ua)(j:Nat)(x:Sl),(Kh is st)[j]?=some (some x)->st[j]?=some (some x)/\j∉is:=by
 induction is with
 |nil=>exact λσ j v h=>⟨h,by simp⟩
 |cons i is ih=>
  intro σ j v h;obtain⟨h1,h2⟩:=ih (σ.set i none) j v h;rw[eh]at h1
  by_cases e:i=j
  .subst e;rw[kb rfl]at h1;split at h1<;>cases h1
  .rw[gb e]at h1;exact⟨h1,λz=>(Kc.mp z).elim (λz=>e z.symm) h2⟩
def FI(is:List Nat):∀(σ:Zi)(j:Nat),j∉is->(oq is σ)[j]?=σ[j]?:=by
 induction is with
 |nil=>exact λσ j _=>rfl
 |cons i is ih=>
  intro σ j h;show (oq is<|σ.set i none)[j]?=_;rw[ih _ j λz=>h<|Qb _ z,eh,gb<|show ¬ i=j from λz=>h<|z ▸ Jb]
theorem RS.Kh(is:List Nat)(r:RS K B A H st σ):RS K B A H (Pu.Kh is st) (oq is σ) where
 len:=by rw[bIg,AV,r.len]
 own:=r.own
 vi:=r.vi
 val:=λi d e=>by
  obtain⟨e1,h⟩:=MB is st i _ e;rw[FI is σ i h];exact r.val i d e1
 lst:=λi kk xs e=>by
  obtain⟨e1,h⟩:=MB is st i _ e;obtain⟨a,o,vs,e2,m,h1,ko,q,u⟩:=r.lst i kk xs e1;refine⟨a,o,vs,by rw[FI is σ i h];exact e2,m,h1,ko,q,λj k' ys ej OE=>?_⟩
  obtain⟨e3,h3⟩:=MB is st j _ ej;rw[FI is σ j h3]at OE;exact u j k' ys e3 OE
def RS.weaken(r:RS K B A H st σ)(hl:st'.length=st.length)(h:∀(j:Nat)(x:Sl),st'[j]?=some (some x)->st[j]?=some (some x)):RS K B A H st' σ where
 len:=hl.trans r.len
 own:=r.own
 vi:=r.vi
 val:=λi d e=>r.val i d<|h i _ e
 lst:=λi kk xs e=>by
  obtain⟨a,o,vs,e2,m,h1,ko,q,u⟩:=r.lst i kk xs<|h i _ e;exact⟨a,o,vs,e2,m,h1,ko,q,λj k' ys ej OE=>u j k' ys (h j _ ej) OE⟩
def mem_mid{p b:Addr}:b∈A++p::B↔b=p\/b∈A++B:=by
 simp only[List.mem_append,mem_cons];constructor
 .rintro(h|h|h)
  .exact .inr (.inl h)
  .exact .inl h
  .exact .inr (.inr h)
 .rintro(h|h|h)
  .exact .inr (.inl h)
  .exact .inl h
  .exact .inr (.inr h)
def BV{p:Addr} (hp:H p=none):bG (hide (A++B) H) (hide (A++p::B)<|Ob H p o):=λb u q=>by
 have q1:=bN _ _ _ _ q;have hb:b∉A++B:=λz=>by rw[jT z]at q;cases q
 have ne:b≠p:=bJ q1 hp;rw[cR<|show b∉A++p::B from λz=>(mem_mid.mp z).elim ne hb,bU ne]
 exact q1
def RS.grow(r:RS K B A H st σ){p:Addr} (hp:H p=none):RS K (p::B) A (Ob H p<|.lst vs) st σ where
 len:=r.len
 own:=λa ha=>by
  by_cases e:a=p
  .subst e;rw[cD];rfl
  .rw[bU e];exact r.own a<|(mem_mid.mp ha).resolve_left e
 vi:=λa ha hb=>by
  rcases Kc.mp hb with rfl|hb
  .exact r.own.free hp (Fh _ ha)
  .exact r.vi a ha hb
 val:=λj d' e=>let ⟨u,e1,q⟩:=r.val j d' e;⟨u,e1,q.mono<|BV hp⟩
 lst:=λj kk xs e=>by
  obtain⟨a,o,Fg,e1,m,h1,ko,q,u⟩:=r.lst j kk xs e;exact⟨a,o,Fg,e1,m,by rw[bU<|bJ h1 hp];exact h1,ko,q.mono<|BV hp,u⟩
def RS.put{p:Addr}(r:RS K (p::B) A H st σ):RS K (p::B) A (Ob H p<|.lst vs) st σ:=by
 have hh:hide (A++p::B) (Ob H p<|.lst vs)=hide (A++p::B) H:=ow<|mem_mid.mpr<|.inl rfl;refine⟨r.len,λb hb=>?_,r.vi,λj d e=>by rw[hh];exact r.val j d e,λj kk xs e=>?_⟩
 .by_cases e:b=p
  .subst e;rw[cD];rfl
  .rw[bU e];exact r.own b hb
 .obtain⟨a,o,Fg,e1,m,h1,ko,q,u⟩:=r.lst j kk xs e;refine⟨a,o,Fg,e1,m,?_,ko,by rw[hh];exact q,u⟩
  have:a≠p:=λz=>r.vi a m<|z ▸ Jb
  rw[bU this];exact h1
end
def gq(is:List Nat)(t:Tg):Prop:=∀d st s2,t d st=.ok s2->s2.length=st.length/\∀(j:Nat),j∉is->s2[j]?=st[j]?
def qu:gq [i] (jb i):=λd st s2 h=>by
 cases h;refine⟨Kn,λj hj=>?_⟩
 rw[eh,gb λz=>hj (by simp[z])]
def kF:List Str->Bool
 |[]=>true
 |x::r=>!r.contains x&&kF r
theorem B1:∀{l:List Str},kF l=true->l.Nodup
 |[],_=>.nil
 |x::r,h=>by
  unfold kF at h;simp only[and_eq_true,not_eq_true']at h;exact Pj.mpr ⟨λz=>by rw[List.contains_iff_mem.mpr z]at h;exact Bool.noConfusion h.1,B1 h.2⟩
def G2(scope:Scope)(outer:List (Str×NameKind))(N:List Str)(is:List Nat):Bool:=
 scope.kind == .function&&kF (scope.names.map (·.1))&&scope.names.all (λx=>x.2 !=.free||outer.lookup x.1==some .cell||outer.lookup x.1==some .free) &&
  (List.range N.length).all λi=>(scope.names.lookup (N.getD i "") !=some .local&&scope.names.lookup (N.getD i "") !=some .cell)||is.contains i
def Tc.of{is:List Nat}(h:G2 scope X.env.scope.names X.N is=true):Tc X scope is:=by
 unfold G2 at h;simp only[and_eq_true,List.all_eq_true]at h;obtain⟨⟨⟨h1,h0⟩,h2⟩,h3⟩:=h;refine⟨by simpa using h1,B1 h0,λx hx hf=>?_,λi x e hl=>?_⟩
 .have:=h2 x hx;simp only[or_eq_true,bne_iff_ne,ne_eq,beq_iff_eq]at this;rcases this with (z|z)|z
  .exact absurd hf z
  .exact .inl z
  .exact .inr z
 .have hi:i<X.N.length:=(Og.mp e).1;have:=h3 i<|Se.mpr hi;rw[oi,e]at this;simp only[getD_some,or_eq_true,and_eq_true,bne_iff_ne,ne_eq]at this;rcases this with ⟨z1,z2⟩|z
  .rcases hl with hl|hl
   .exact absurd hl z1
   .exact absurd hl z2
  .simpa using z
def bIh{K:Frag} (Q Q':VK) (m:∀v H',Q v H'->Q' v H') (h:tI K B f τ H Q):tI K B f τ H Q':=
 let ⟨A,st,d,rs,hd,q⟩:=h;⟨A,st,d,rs,hd,λv H' s r=>m v H'<|q v H' s r⟩
def Xn(K:Frag)(f:Ex):TE:=λτ H Q=>∃B,tI K B f τ H Q
def Kz(K:Frag)(f:Ex):TT:=λτ H Q=>∃B,tT K B f τ H Q
def Y5(K:Frag)(t:Tg):TG:=λv τ H Q=>∃B,tG K B t v τ H Q
def Cu(h:∀B,PE X e<|tI X.K B f):PE X e (Xn X.K f):=λaa s σ H Q I ⟨B,q⟩=>h B aa s σ H Q I q
def LL(h:∀B,PT X e<|tT X.K B f):PT X e (Kz X.K f):=λaa s σ H Q I ⟨B,q⟩=>h B aa s σ H Q I q
def Du{t:Tg}(h:∀B,PG X e<|tG X.K B t):PG X e (Y5 X.K t):=λaa s σ H v u Q I r ⟨B,q⟩=>h B aa s σ H v u Q I r q
def zA{K:Frag} (Q Q':VK) (m:∀v H',Q v H'->Q' v H') (h:Xn K f τ H Q):Xn K f τ H Q':=let ⟨B,q⟩:=h;⟨B,bIh Q Q' m q⟩
def su{K:Frag} {is:List Nat} {t:Tg} {c:Ex} {H:Hp} (hsub:gq is t)
  (htt:∀τ H Q,Kz K c τ H Q->tt τ H Q) {st:ua} (rs:RS K B A H st σ) (hx:it st=.ok xs) (hl:xs.length<=big) (hy:iR t c f (Kh is st) xs=.ok ys) {Q:VK}
  (q:∀p vs H1 H',bG H H1->H1 p=none->bG H1 H'->H' p=some (.lst vs)->bI K (hide (A++p::B) H') ys vs->Q (.ref p) H'):Z5 is (Xl K B it) (Y5 K t) tt (Xn K f) σ H Q:=by
 refine⟨A,st,xs,rs,hx,λJ H1 s1 GO p hp=>?_⟩
 have rs1:=rs.mono s1;refine⟨λi m τ vs H'=>m=xs.length-i/\i<=xs.length/\vs.length<=i/\H' p=some (.lst vs)/\bG H1 H'/\RS K (p::B) A H' (Kh is st) τ/\
   ∃ds rest,bI K (hide (A++p::B) H') ds vs/\iR t c f (Kh is st) (xs.drop i)=.ok rest/\ds++rest=ys,⟨xs.length,by simp,Ih _,Ih _,cD,cL hp,(rs1.Kh is).grow hp,[],ys,.nil,by rw[drop_zero];exact hy,rfl⟩,?_⟩
 rintro i m τ vs H' ⟨rfl,hi,hvl,Ov,s2,Xq,ds,rest,Ij,hr,gp⟩;refine⟨Ov,?_⟩;have mv:∀a,a∈(p::A)++B↔a∈A++p::B:=λa=>by
  rw[mem_mid];exact Kc
 have le:Le A H1 (p::A) H':=λb u z=>by
  have z1:=bN _ _ _ _ z;have hb:b∉A:=λw=>by rw[jT w]at z;cases z
  have ne:b≠p:=bJ z1 hp;rw[cR<|show b∉p::A from λw=>(Kc.mp w).elim ne hb]
  exact s2 b u z1
 obtain⟨i1,i2⟩:=GO (p::A) H' le (λa ha=>Xq.own a<|(mv a).mp ha) i
 by_cases hlt:i<xs.length
 .have Wr:xs[i]?=some xs[i]:=Nf hlt;obtain⟨go,yl⟩:=i1 _ Wr;rw[A3 hlt]at hr;obtain⟨Dh,bz,h5⟩:=R.ma hr;obtain⟨cb,hcb,h6⟩:=R.ma h5;obtain⟨k,rfl,h7⟩:=uX h6;refine .inr ⟨go,λx H2 y=>?_⟩
  obtain⟨BF,rx⟩:=yl x H2 y;have Ov:=BF _ _ Ov;have s2:=s2.trans BF;have Xq:=Xq.mono BF;have Ij:=Ij.mono<|bG.hide BF;have rx':Fb K (hide (A++p::B) H2) xs[i] x:=rx.mono<|lL λa ha=>(mv a).mpr ha
  obtain⟨sl,sg⟩:=hsub _ _ _ bz;have back:∀(j:Nat)(z:Sl),(Kh is st)[j]?=some (some z)->Dh[j]?=some (some z):=λj z ez=>by rw[sg j (MB is st j z ez).2];exact ez
  refine⟨p::B,A,Kh is st,xs[i],Dh,Xq,rx',bz,λYn Tv=>htt _ _ _ ⟨p::B,A,Dh,k,Tv,hcb,λH3 s3=>?_⟩⟩
  cases k with
  |true=>
   obtain⟨y',XE,h8⟩:=R.ma h7;obtain⟨Cz,Fs,h9⟩:=R.ma h8;cases h9;refine⟨p::B,A,Dh,y',Tv.mono s3,XE,λv H4 s4 r4=>⟨s4 _ _<|s3 _ _ Ov,?_,xs.length-(i+1),by omega,rfl,hlt,by rw[Wf,Gh];omega,cD,?_,?_,ds++[y'],Cz,?_,Fs,by rw[Cm];exact gp⟩⟩
   .have:sizeLine=16777216:=by decide
    have hbg:=pM;omega
   .exact λb u z=>by rw[bU<|bJ z hp];exact s4 _ _<|s3 _ _<|s2 b u z
   .exact(((Tv.mono s3).mono s4).weaken (by rw[sl]) back).put
   .rw[ow<|mem_mid.mpr<|.inl rfl];exact(Ij.mono<|bG.hide<|s3.trans s4).append (.cons r4 .nil)
  |false=>exact⟨xs.length-(i+1),by omega,rfl,hlt,by omega,s3 _ _ Ov,s2.trans s3,(Tv.mono s3).weaken (by rw[sl]) back,ds,rest,Ij.mono<|bG.hide s3,h7,gp⟩
 .have e:i=xs.length:=by omega
  subst e;rw[List.drop_length]at hr;cases hr;rw[uh]at gp;subst gp;exact .inl ⟨i2<|Zc _,q p vs H1 H' s1 hp s2 Ov Ij⟩
section
variable {iter c:Expr} {t:Tg} {u:Ex}
def nL(hY:Y.xe=λ_ _=>False)(he:PE Y elt te)(ht:PT Y c tt){it p:Addr}(τ:Zi)(H:Hp)(s:Shared)(aa:List (Addr×Obj))(vs:List V)(N:Hp->List V->Prop)(Q:Fin->Shared->Prop)(I:ya Y aa τ H s)
  (h:tt τ H λk H3=>if k=true then te τ H3 λy H4=>H4 p=some (.lst vs)/\vs.length<sizeLine/\N (Ob H4 p<|.lst<|vs++[y]) (vs++[y]) else N H3 vs)
  (mono:∀H (Q Q':VK),(∀v H',Q v H'->Q' v H')->te τ H Q->te τ H Q')
  (q:∀s' H' ws,ya Y aa τ H' s'->N H' ws->Q (.again<|.compLoop (.ListComp elt [⟨tg,iter,[c],0⟩] scope pos) 0 (.ref it) (.ref p) Y.env) s') :
  wpAny (model Y.prog Y.w) Y.A (isTrue c Y.env (eval c Y.env) >>= fun ok => if ok = true then (eval elt Y.env >>= fun x => call (.builtin "list.append") [.ref p, x] >>= fun _ => again<|.compLoop (.ListComp elt [⟨tg, iter, [c], 0⟩] scope pos) 0 (.ref it) (.ref p) Y.env)
        else again (.compLoop (.ListComp elt [⟨tg,iter,[c],0⟩] scope pos) 0 (.ref it) (.ref p) Y.env)) Q (λ_ _=>False) s:=by
 have v5:=ht aa s τ H _ I h;rw[hY]at v5;refine Ja<|qc v5 λk s1 ⟨H1,I1,q1⟩=>?_
 cases k with
 |true=>
  rw[kb rfl];have q1:te τ H1 λy H4=>H4 p=some (.lst vs)/\vs.length<sizeLine/\N (Ob H4 p<|.lst<|vs++[y]) (vs++[y]):=q1
  exact IT he (by rw[hY];exact λ_ _ z=>z) I1<|mono _ _ _ (λy H4 ⟨a,b,n⟩=>⟨a,b,λs' I'=>Zb<|q s' _ _ I' n⟩) q1
 |false=>
  rw[gb Cg];exact Zb<|q s1 H1 vs I1 q1
def IC{Q:VK}{st:ua} {p:Addr} {H':Hp} (rs:RS X.K B A H st σ) (q:∀v H',bG H H'->Fb X.K (hide (A++B) H') (.lst ys) v->Q v H') (s1:bG H H1) (hp:H1 p=none) (s2:bG H1 H')
  (hv:H' p=some (.lst vs)) (r:bI X.K (hide (A++p::B) H') ys vs):Q (.ref p) H':=
 q _ H' (s1.trans s2) (jR.mpr ⟨p,vs,rfl,(by rw[cR<|(rs.own.mono s1).free hp];exact hv),r.mono<|lL λa ha=>mem_mid.mpr<|.inr ha⟩)
def rB{is:List Nat}(hi:L2.PI X tg iter (Xl X.K B it))(hg:∀(B:List Addr)(C:Addr)(Ba:Shared)(Ka:Hp)(fp:List Addr),PG (cM X scope C Ba Ka fp) tg<|tG X.K B t)
  (he:∀(B:List Addr)(C:Addr)(Ba:Shared)(Ka:Hp)(fp:List Addr),PE (cM X scope C Ba Ka fp) elt<|tI X.K B f) (hc:X.calm=true:=by rfl) (hsub:gq is t:=by exact qu) (S:Tc X scope is:=by exact .of rfl) (hs:∀x,foldedSetIterable iter X.env x=pure x:=by intro _;rfl) :
  PE X (.ListComp elt [⟨tg,iter,[],0⟩] scope pos) (tI X.K B<|cN is t it dB f):=by
 intro aa s σ H Q I h;obtain⟨A,st,d,rs,hd,q⟩:=h;obtain⟨xs,hx,h2⟩:=R.ma hd;obtain⟨hl,h3⟩:=aU h2;obtain⟨ys,hy,h4⟩:=R.ma h3;cases h4;rw[vE];refine uV (use:=none) (Qf:=EP X aa σ Q) (Q:=Q) (tt:=LB) (te:=Xn X.K f) (rest:=λenv it p=>eval elt env >>= λx=>call (.builtin "list.append") [p,x] >>= λ_=>again<|.compLoop (.ListComp elt [⟨tg,iter,[],0⟩] scope pos) 0 it p env) S hc hi (λC Ba Ka fp=>Du λB=>hg B C Ba Ka fp) (λ_ _ _=>rA)
  (λC Ba Ka fp it p s Q h=>JL (Y:=cM X scope C Ba Ka fp) h) (λC Ba Ka fp it p τ H s aa vs N Q I h q=>kL (Y:=cM X scope C Ba Ka fp) rfl (Cu λB=>he B C Ba Ka fp) τ H s aa vs N Q I h (λQ Q' m h=>zA Q Q' m h) q) hs I
  (su hsub (λτ H Q ⟨B,A,st,k,rs,hk,q⟩=>?_) rs hx hl hy λp vs H1 H' s1 hp s2 hv r=>IC rs q s1 hp s2 hv r) λC p H5 s5 m5 s3 H3 fp τ hC I3 Ti I5 Cj q5=>⟨m5,Cj,λh' xp=>⟨.ref p,H5,Bw I3 Ti hC I5 xp,rfl,q5⟩⟩
 cases hk;exact q H<|bG.refl _
def oH{is:List Nat}(hi:L2.PI X tg iter (Xl X.K B it))(hg:∀(B:List Addr)(C:Addr)(Ba:Shared)(Ka:Hp)(fp:List Addr),PG (cM X scope C Ba Ka fp) tg<|tG X.K B t)
  (ht:∀(B:List Addr)(C:Addr)(Ba:Shared)(Ka:Hp)(fp:List Addr),PT (cM X scope C Ba Ka fp) c<|tT X.K B u)
  (he:∀(B:List Addr)(C:Addr)(Ba:Shared)(Ka:Hp)(fp:List Addr),PE (cM X scope C Ba Ka fp) elt<|tI X.K B f) (hc:X.calm=true:=by rfl) (hsub:gq is t:=by exact qu) (S:Tc X scope is:=by exact .of rfl) (hs:∀x,foldedSetIterable iter X.env x=pure x:=by intro _;rfl) :
  PE X (.ListComp elt [⟨tg,iter,[c],0⟩] scope pos) (tI X.K B<|cN is t it u f):=by
 intro aa s σ H Q I h;obtain⟨A,st,d,rs,hd,q⟩:=h;obtain⟨xs,hx,h2⟩:=R.ma hd;obtain⟨hl,h3⟩:=aU h2;obtain⟨ys,hy,h4⟩:=R.ma h3;cases h4;rw[vE];exact uV (use:=none) (Qf:=EP X aa σ Q) (Q:=Q) (tt:=Kz X.K u) (te:=Xn X.K f) (rest:=λenv it p=>isTrue c env (eval c env) >>= λok=>if ok=true then (eval elt env >>= λx=>call (.builtin "list.append") [p,x] >>= λ_=>again<|.compLoop (.ListComp elt [⟨tg,iter,[c],0⟩] scope pos) 0 it p env) else again (.compLoop (.ListComp elt [⟨tg,iter,[c],0⟩] scope pos) 0 it p env)) S hc hi (λC Ba Ka fp=>Du λB=>hg B C Ba Ka fp) (λ_ _ _=>rA)
  (λC Ba Ka fp it p s Q h=>KL (Y:=cM X scope C Ba Ka fp) h) (λC Ba Ka fp it p τ H s aa vs N Q I h q=>nL (Y:=cM X scope C Ba Ka fp) rfl (Cu λB=>he B C Ba Ka fp) (LL λB=>ht B C Ba Ka fp) τ H s aa vs N Q I h (λ_ Q Q' m h=>zA Q Q' m h) q) hs I
  (su hsub (λτ H Q h=>h) rs hx hl hy λp vs H1 H' s1 hp s2 hv r=>IC rs q s1 hp s2 hv r) λC p H5 s5 m5 s3 H3 fp τ hC I3 Ti I5 Cj q5=>⟨m5,Cj,λh' xp=>⟨.ref p,H5,Bw I3 Ti hC I5 xp,rfl,q5⟩⟩
end
end Pu
namespace Pu
open PySem PySem.Spec PyProof.Rows L2 PySem.SeqAt
section
variable{X:Cx}{aa:List (Addr×Obj)}{σ:Zi}{H:Hp}{s:Shared}
def UX(I:ya X aa σ H s) {xs ys:List V} (h1:Ae X.K H a xs) (h2:Zg X.K H a ys):False:=by
 obtain⟨Sa,_,⟨o,n,e,hc,_⟩,_⟩:=I.list h1;obtain⟨Zh,_,⟨o2,e2,Py,_⟩,_⟩:=I.tuple h2;rw[e]at e2;cases e2;rw[hc]at Py;simp at Py
mutual
theorem Fb.inj(I:ya X aa σ H s):∀{x y:D}{v:V},plain x=true->plain y=true->Fb X.K H x v->Fb X.K H y v->x=y
 |x,y,v,px,py,h,h'=>by
  cases x<;>first|(simp at px;done)|skip
  all_goals cases y<;>first|(simp at py;done)|skip
  case tup.tup=>
   obtain⟨a,vs,e,hq,hr⟩:=jK h;obtain⟨a',Fg,e',gf,Ee⟩:=jK h';subst e;cases e';cases I.Ph hq gf;rw[bI.inj I (by simpa using px) (by simpa using py) hr Ee]
  case lst.lst=>
   obtain⟨a,vs,e,hq,hr⟩:=jR.mp h;obtain⟨a',Fg,e',gf,Ee⟩:=jR.mp h';subst e;cases e';cases I.nh hq gf;rw[bI.inj I (by simpa using px) (by simpa using py) hr Ee]
  case tup.lst=>
   obtain⟨a,vs,e,hq,hr⟩:=jK h;obtain⟨a',Fg,e',gf,Ee⟩:=jR.mp h';subst e;cases e';exact(UX I gf hq).elim
  case lst.tup=>
   obtain⟨a,vs,e,hq,hr⟩:=jR.mp h;obtain⟨a',Fg,e',gf,Ee⟩:=jK h';subst e;cases e';exact(UX I hq gf).elim
  all_goals simp only[rQ,cU,bR,fL,mw,jR]at h h'
  all_goals first|(obtain⟨_,_,h',_⟩:=h';subst h';cases h;done)|(obtain⟨_,_,h,_⟩:=h;subst h;cases h';done)|(subst h;cases h';first|rfl|done)|(subst h;injection h' with h';injection h' with h';rw[show _=_ by simpa using congrArg Array.toList h'])
theorem bI.inj(I:ya X aa σ H s):∀{xs ys:List D}{vs:List V},gF xs=true->gF ys=true->bI X.K H xs vs->bI X.K H ys vs->xs=ys
 |[],ys,vs,px,py,h,h'=>by
  have e:=dU.mp h;subst e;cases ys with
  |nil=>rfl
  |cons y ys=>obtain⟨_,_,h',_⟩:=bZ.mp h';cases h'
 |x::xs,ys,vs,px,py,h,h'=>by
  obtain⟨v,r,e,h1,h2⟩:=bZ.mp h;subst e;cases ys with
  |nil=>exact nomatch dU.mp h'
  |cons y ys=>
   obtain⟨v',r',e',kN,nN⟩:=bZ.mp h';cases e';simp only[lY,and_eq_true]at px py;rw[Fb.inj I px.1 py.1 h1 kN,bI.inj I px.2 py.2 h2 nN]
end
mutual
theorem CV:∀x:D,plain x=true->Fd x x=true
 |.lc,_=>by unfold Fd;rfl
 |.bl b,_=>by unfold Fd;simp
 |.int i,_=>by unfold Fd;simp
 |.str x,_=>by unfold Fd;simp
 |.tup x,h=>by unfold Fd;exact RH x (by simpa using h)
 |.lst x,h=>by unfold Fd;exact RH x (by simpa using h)
 |.Ve _ _ _,h=>by simp at h
 |.ins _ _ _,h=>by simp at h
 |.Sg _ _ _,h=>by simp at h
 |.fn _,h=>by simp at h
theorem RH:∀x:List D,gF x=true->lV x x=true
 |[],_=>by unfold lV;rfl
 |a::x,h=>by
  simp only[lY,and_eq_true]at h;unfold lV;rw[CV a h.1,RH x h.2];rfl
end
def pairE(xs ys:List D)(j:Nat):Bool:=Fd (xs.getD j .lc)<|ys.getD j .lc
theorem kB:∀xs ys:List D,((List.range<|min xs.length ys.length).all (pairE xs ys)&&xs.length==ys.length)=lV xs ys
 |[],[]=>by unfold lV;rfl
 |[],_::_=>by unfold lV;simp
 |_::_,[]=>by unfold lV;simp
 |x::xs,y::ys=>by
  have ih:=kB xs ys;have e:lV (x::xs) (y::ys)=(Fd x y&&lV xs ys):=by conv=>lhs;unfold lV
  rw[e,<-ih];have hm:min (x::xs).length (y::ys).length=min xs.length ys.length+1:=by simp only[length_cons];omega
  rw[hm,W3,all_cons,List.all_map];have e1:pairE (x::xs) (y::ys) 0=Fd x y:=rfl;have e2:(pairE (x::xs) (y::ys) ∘ Nat.succ)=pairE xs ys:=rfl;rw[e1,e2,Bool.and_assoc];congr 1;simp
def À(h:xs.length≠ys.length):lV xs ys=false:=by
 rw[<-kB];simp[h]
inductive Vw (X:Cx) (H:Hp) (s:Shared):D->Value->Prop
 |lc:Vw X H s .lc .none
 |bl (b:Bool):Vw X H s (.bl b) (.bool b)
 |int (i:Int) (t:Tok):Vw X H s (.int i) (.int i t)
 |str (x:List Nat) (t:Tok):Vw X H s (.str x) (.str ⟨x.toArray⟩ t)
 |tup {x:List D} {ws:List V} {Sa:List Value} {l:Addr} (hq:s.heap.IsTuple l Sa.toArray) (hr:bI X.K H x ws) (hv:Ca ws Sa):Vw X H s (.tup x) (.ref l)
 |lst {x:List D} {ws:List V} {Sa:List Value} {l:Addr} (hq:s.heap.IsList l Sa.toArray) (hr:bI X.K H x ws) (hv:Ca ws Sa):Vw X H s (.lst x) (.ref l)
def Vw.of(I:ya X aa σ H s){x:D} {a:Value} (h:Fb X.K H x v) (r:RelV v a) (p:plain x=true):Vw X H s x a:=by
 cases x with
 |lc=>have e:=rQ.mp h;subst e;have e:a=Value.none:=r;subst e;exact .lc
 |bl b=>have e:=cU.mp h;subst e;have e:a=Value.bool b:=r;subst e;exact .bl b
 |int i=>have e:=bR.mp h;subst e;obtain⟨t,e⟩:∃t,a=Value.int i t:=r;subst e;exact .int i t
 |str x=>have e:=fL.mp h;subst e;obtain⟨t,e⟩:∃t,a=Value.str ⟨x.toArray⟩ t:=r;subst e;exact .str x t
 |tup x=>obtain⟨l,ws,e,hq,hr⟩:=jK h;subst e;have e:a=Value.ref l:=r;subst e;obtain⟨Sa,rv,pl,_⟩:=I.tuple hq;exact .tup pl hr rv
 |lst x=>obtain⟨l,ws,e,hq,hr⟩:=jR.mp h;subst e;have e:a=Value.ref l:=r;subst e;obtain⟨Sa,rv,pl,_⟩:=I.list hq;exact .lst pl.isList hr rv
 |_=>simp at p
def bIi{A:Around}{x:D}{a b:Value}{k:Bool}(wa:Vw X H s x a)(wb:Vw X H s y b)(h:RcAt A s a b k)(hs:a=b->k=true):EqAt A s a b k:=λprog w E Q hq=>by
 unfold eqBool;refine Rj<|Hn (λe=>?_) λ_=>?_
 .rw[hs<|eq_of_beq e]at hq;exact Ja<|av<|Zb hq
 .cases wa<;>cases wb<;>exact Ja<|h prog w E _<|sq hq
def Ť{u:V}{a:Value}(h:RelV v a)(h':RelV u a):v=u:=by
 cases v<;>(first|subst h|(obtain⟨_,h⟩:=h;subst h)) <;> cases u<;>first|(cases h';done)|(cases h';rfl)|(obtain⟨_,h'⟩:=h';cases h';done)|(obtain⟨_,h'⟩:=h';cases h';rfl)
def DV(x y:List Nat):Fd (.str x) (.str y)=((⟨x.toArray⟩:Str)==⟨y.toArray⟩):=by rw[<-str_beq];unfold Fd;simp
def bQ0{A:Around}{a b:Value}{k k':Bool}(h:RcAt A s a b k)(e:k=k'):RcAt A s a b k':=e ▸ h
def bQ1{A:Around}{a b:Value}{k k':Bool}(h:RcNeAt A s a b k)(e:k=k'):RcNeAt A s a b k':=e ▸ h
def EV(I:ya X aa σ H s){x:D}{A:Around}{u:V}{a b:Value}(ra:Fb X.K H x v)(rb:Fb X.K H y u)(va:RelV v a)(vb:RelV u b)(px:plain x=true)(py:plain y=true)(h:RcAt A s a b (Fd x y)):EqAt A s a b (Fd x y):=
 bIi (Vw.of I ra va px) (Vw.of I rb vb py) h λe=>by rw[Fb.inj I px py ra<|Ť (e ▸ va) vb ▸ rb];exact CV y py
mutual
theorem JC(I:ya X aa σ H s)(x y:D)(A:Around)(v u:V)(a b:Value)(ra:Fb X.K H x v)(rb:Fb X.K H y u)(va:RelV v a)(vb:RelV u b)(hu:A.units+Of x<cLine)(px:plain x=true)(py:plain y=true):RcAt A s a b (Fd x y)/\RcNeAt A s a b (!Fd x y):=by
 have Je:A.units<cLine:=aE (LM _ _) hu;have wa:=Vw.of I ra va px;have wb:=Vw.of I rb vb py;clear ra rb va vb;cases wa<;>cases wb
 case tup.tup x _ i1 _ hq hr hv y _ i2 _ gf Ee yp=>
  have hd:Of (.tup x)=oU x+1:=by conv=>lhs;unfold Of
  have:=SH I x y A.in1 _ _ _ _ hr Ee hv yp (by show A.units+1+oU x<cLine;omega) (by simpa using px) (by simpa using py)
  have e:Fd (.tup x) (.tup y)=lV x y:=by conv=>lhs;unfold Fd
  rw[e,<-kB,<-hr.length,<-Ee.length,hv.length,yp.length,<-dh,<-dh];exact⟨RcAt.tuples hq gf Je λj j1 j2=>by simpa using this j (by simpa using j1) (by simpa using j2),RcNeAt.tuples hq gf Je λj j1 j2=>by simpa using this j (by simpa using j1) (by simpa using j2)⟩
 case lst.lst x _ i1 _ hq hr hv y _ i2 _ gf Ee yp=>
  have hd:Of (.lst x)=oU x+1:=by conv=>lhs;unfold Of
  have:=SH I x y A.in1 _ _ _ _ hr Ee hv yp (by show A.units+1+oU x<cLine;omega) (by simpa using px) (by simpa using py)
  have e:Fd (.lst x) (.lst y)=lV x y:=by conv=>lhs;unfold Fd
  have n1:i1.length=x.length:=by rw[<-hv.length,hr.length]
  have n2:i2.length=y.length:=by rw[<-yp.length,Ee.length]
  rw[e]
  by_cases hz:i1.length=i2.length
  .rw[show lV x y=(List.range i1.toArray.size).all (pairE x y) by rw[<-kB,dh,n1];simp[show x.length=y.length by omega]]
   exact⟨RcAt.lists hq gf (by simpa using hz) Je λj j1 j2=>by simpa using this j (by simpa using j1) (by simpa using j2),RcNeAt.lists hq gf (by simpa using hz) Je λj j1 j2=>by simpa using this j (by simpa using j1) (by simpa using j2)⟩
  .rw[À (by omega)]
   exact⟨RcAt.lists_lengths hq gf (by simpa using hz) Je,RcNeAt.lists_lengths hq gf (by simpa using hz) Je⟩
 all_goals
  constructor
  .apply bQ0
   .with_reducible first|exact RcAt.none_none|exact RcAt.none_bool _|exact RcAt.none_int _ _|exact RcAt.none_str _ _|exact RcAt.none_tuple ‹_› Je|exact RcAt.none_list ‹_› Je|exact RcAt.bool_none _|exact RcAt.bool_bool _ _|exact RcAt.bool_int _ _ _|exact RcAt.bool_str _ _ _|exact RcAt.bool_tuple _ ‹_› Je|exact RcAt.bool_list _ ‹_› Je|exact RcAt.int_none _ _|exact RcAt.int_bool _ _ _|exact RcAt.int_int _ _ _ _|exact RcAt.int_str _ _ _ _|exact RcAt.int_tuple _ _ ‹_› Je|exact RcAt.int_list _ _ ‹_› Je|exact RcAt.str_none _ _|exact RcAt.str_bool _ _ _|exact RcAt.str_int _ _ _ _|exact RcAt.str_str _ _ _ _|exact RcAt.str_tuple _ _ ‹_› Je|exact RcAt.str_list _ _ ‹_› Je|exact RcAt.tuple_none ‹_› Je|exact RcAt.tuple_bool _ ‹_› Je|exact RcAt.tuple_int _ _ ‹_› Je|exact RcAt.tuple_str _ _ ‹_› Je|exact RcAt.tuple_list ‹_› ‹_› Je|exact RcAt.list_none ‹_› Je|exact RcAt.list_bool _ ‹_› Je|exact RcAt.list_int _ _ ‹_› Je|exact RcAt.list_str _ _ ‹_› Je|exact RcAt.list_tuple ‹_› ‹_› Je
   .first|exact(DV _ _).symm|(unfold Fd;rfl)
  .apply bQ1
   .with_reducible first|exact RcNeAt.none_none|exact RcNeAt.none_bool _|exact RcNeAt.none_int _ _|exact RcNeAt.none_str _ _|exact RcNeAt.none_tuple ‹_› Je|exact RcNeAt.none_list ‹_› Je|exact RcNeAt.bool_none _|exact RcNeAt.bool_bool _ _|exact RcNeAt.bool_int _ _ _|exact RcNeAt.bool_str _ _ _|exact RcNeAt.bool_tuple _ ‹_› Je|exact RcNeAt.bool_list _ ‹_› Je|exact RcNeAt.int_none _ _|exact RcNeAt.int_bool _ _ _|exact RcNeAt.int_int _ _ _ _|exact RcNeAt.int_str _ _ _ _|exact RcNeAt.int_tuple _ _ ‹_› Je|exact RcNeAt.int_list _ _ ‹_› Je|exact RcNeAt.str_none _ _|exact RcNeAt.str_bool _ _ _|exact RcNeAt.str_int _ _ _ _|exact RcNeAt.str_str _ _ _ _|exact RcNeAt.str_tuple _ _ ‹_› Je|exact RcNeAt.str_list _ _ ‹_› Je|exact RcNeAt.tuple_none ‹_› Je|exact RcNeAt.tuple_bool _ ‹_› Je|exact RcNeAt.tuple_int _ _ ‹_› Je|exact RcNeAt.tuple_str _ _ ‹_› Je|exact RcNeAt.tuple_list ‹_› ‹_› Je|exact RcNeAt.list_none ‹_› Je|exact RcNeAt.list_bool _ ‹_› Je|exact RcNeAt.list_int _ _ ‹_› Je|exact RcNeAt.list_str _ _ ‹_› Je|exact RcNeAt.list_tuple ‹_› ‹_› Je
   .first|exact congrArg _ (DV _ _).symm|(unfold Fd;rfl)
theorem SH(I:ya X aa σ H s):∀(xs ys:List D)(A:Around)(vs us:List V)(as bs:List Value),bI X.K H xs vs->bI X.K H ys us->Ca vs as->Ca us bs->A.units+oU xs<cLine->gF xs=true->gF ys=true->∀(j:Nat)(h1:j<as.length)(h2:j<bs.length),EqAt A s as[j] bs[j] (pairE xs ys j)
 |[],_,A,vs,us,as,bs,ra,rb,va,vb,hu,px,py,j,h1,h2=>by
  have e:=dU.mp ra;subst e;cases va;exact absurd h1<|IE _
 |x::xs,[],A,vs,us,as,bs,ra,rb,va,vb,hu,px,py,j,h1,h2=>by
  have e:=dU.mp rb;subst e;cases vb;exact absurd h2<|IE _
 |x::xs,y::ys,A,vs,us,as,bs,ra,rb,va,vb,hu,px,py,j,h1,h2=>by
  obtain⟨v,r,e,p1,p2⟩:=bZ.mp ra;subst e;obtain⟨u,r',e,q1,q2⟩:=bZ.mp rb;subst e;have hd:oU (x::xs)=max (Of x) (oU xs):=by conv=>lhs;unfold oU
  rw[hd]at hu;simp only[lY,and_eq_true]at px py;cases va with
  |cons va vas=>
   cases vb with
   |cons vb vbs=>
    cases j with
    |zero=>exact EV I p1 q1 va vb px.1 py.1 (JC I x y A v u _ _ p1 q1 va vb (by omega) px.1 py.1).1
    |succ j=>exact SH I xs ys A r r' _ _ p2 q2 vas vbs (by omega) px.2 py.2 j (X3 h1)<|X3 h2
end
def ť(I:ya X aa σ H s)(x y:D)(A:Around)(v u:V)(a b:Value)(ra:Fb X.K H x v)(rb:Fb X.K H y u)(va:RelV v a)(vb:RelV u b)(hu:A.units+Of x<cLine)(px:plain x=true)(py:plain y=true):EqAt A s a b (Fd x y):=
 EV I ra rb va vb px py (JC I x y A v u _ _ ra rb va vb hu px py).1
def Ŧ(I:ya X aa σ H s)(x y:D)(A:Around)(v u:V)(a b:Value)(ra:Fb X.K H x v)(rb:Fb X.K H y u)(va:RelV v a)(vb:RelV u b)(hu:A.units+Of x<cLine)(px:plain x=true)(py:plain y=true):RcAt A s a b (Fd x y):=(JC I x y A v u a b ra rb va vb hu px py).1
def ŧ(I:ya X aa σ H s)(x y:D)(A:Around)(v u:V)(a b:Value)(ra:Fb X.K H x v)(rb:Fb X.K H y u)(va:RelV v a)(vb:RelV u b)(hu:A.units+Of x<cLine)(px:plain x=true)(py:plain y=true):RcNeAt A s a b (!Fd x y):=(JC I x y A v u a b ra rb va vb hu px py).2
end
end Pu
namespace Pu
open PySem PySem.Spec PyProof.Rows L2
section
variable{X:Cx}{B:List Addr}{a b e:Expr}{f g:Ex}{pos:Pos}
theorem nJ.rep{K:Frag}{A:List Addr}{H:Hp}{d:D}{v:V}(h:nJ K A H d v):Fb K H d v:=by
 rcases h with h|⟨a,k,o,ds,vs,e1,e2,e3,ko,q⟩
 .exact h.mono (bN _ _)
 .subst e1 e2;exact ko.rep e3<|q.mono<|bN _ _
def HD(K:Frag)(neg:Bool):R2:=λv u H Q=>∃x y,Fb K H x v/\Fb K H y u/\(Of x<=64/\plain x=true/\plain y=true)/\Q (.bl<|if neg then !Fd x y else Fd x y) H
def cX(hu:X.A.units+64<cLine:=by exact dc.units<|by assumption):Oe X (compareOp .Eq) (HD X.K false):=by
 intro aa s σ H v u a b Q I ra rb h;obtain⟨x,y,rx,ry,hd,q⟩:=h;exact Ŧ I x y X.A v u a b rx ry ra rb (by omega) hd.2.1 hd.2.2 X.prog X.w X.xe _ ⟨.bl _,H,I,rfl,q⟩
def nP(hu:X.A.units+64<cLine:=by exact dc.units<|by assumption):Oe X (compareOp .NotEq) (HD X.K true):=by
 intro aa s σ H v u a b Q I ra rb h;obtain⟨x,y,rx,ry,hd,q⟩:=h;exact ŧ I x y X.A v u a b rx ry ra rb (by omega) hd.2.1 hd.2.2 X.prog X.w X.xe _ ⟨.bl _,H,I,rfl,q⟩
def cZ{K:Frag}:yX K (HD K false) Qc:=by
 intro A H x y d v u Q w rx ry e q;obtain⟨c,e⟩:=aU e;cases e;exact⟨x,y,rx.rep,ry.rep,c,q _ H (bG.refl _)<|cU.mpr rfl⟩
def nQ{K:Frag}:yX K (HD K true) zg:=by
 intro A H x y d v u Q w rx ry e q;obtain⟨c,e⟩:=aU e;cases e;exact⟨x,y,rx.rep,ry.rep,c,q _ H (bG.refl _)<|cU.mpr rfl⟩
def tyD:D->String
 |.lc=>"NoneType"
 |.bl _=>"bool"
 |.int _=>"int"
 |.str _=>"str"
 |.tup _=>"tuple"
 |.lst _=>"list"
 |.Ve _ _ _=>"dict"
 |.ins _ _ _=>""
 |.Sg _ _ _=>""
 |.fn _=>""
structure IsT(T:String)(p:D->Bool):Prop where
 boot:bootBuiltins T=some (.type T)
 ñ:∀(K:Frag)(d:D),yo d=true->kitOne K (.type<|tyD d) (.type T)=some (p d)
def Ũ{p:D->Bool}(h:IsT T p):lU X (.builtin "isinstance") (λxs H Q=>∃v d,xs=[v,.ty T]/\yo d=true/\Fb X.K H d v/\Q (.bl<|p d) H):=by
 intro aa s σ H xs us Q I r q;obtain⟨v,d,rfl,Iv,rd,q⟩:=q;obtain⟨u,u2,rfl,ru,lP⟩:=r.two;have e2:u2=Value.type T:=lP;subst e2;have fin:∀tk,EP X aa σ Q (.bool<|p d) {s with toks:=tk}:=λtk=>⟨.bl<|p d,H,I.tok tk,rfl,q⟩
 have e:=h.ñ X.K d Iv;cases d with
 |lc=>have z:=rQ.mp rd;subst z;have z:u=Value.none:=ru;subst z;exact qi PySem.W.kitx_none I.tf True.intro e (λz=>nomatch z) fin
 |bl x=>have z:=cU.mp rd;subst z;have z:u=Value.bool x:=ru;subst z;exact qi PySem.W.kitx_bool I.tf True.intro e (λz=>nomatch z) fin
 |int x=>have z:=bR.mp rd;subst z;obtain⟨t,z⟩:∃t,u=Value.int x t:=ru;subst z;exact qi PySem.W.kitx_int I.tf True.intro e (λz=>nomatch z) fin
 |str x=>have z:=fL.mp rd;subst z;obtain⟨t,z⟩:∃t,u=Value.str ⟨x.toArray⟩ t:=ru;subst z;exact qi PySem.W.kitx_str I.tf True.intro e (λz=>nomatch z) fin
 |tup x=>
  obtain⟨l,vs,z,hq,_⟩:=jK rd;subst z;have z:u=Value.ref l:=ru;subst z;obtain⟨Sa,_,⟨o,h1,h2,_⟩,_⟩:=I.tuple hq;exact qi PySem.W.kitx_tuple I.tf ⟨o,h1,h2⟩ e (λz=>nomatch z) fin
 |lst x=>
  obtain⟨l,vs,z,hq,_⟩:=jR.mp rd;subst z;have z:u=Value.ref l:=ru;subst z;obtain⟨Sa,_,⟨o,n,h1,h2,_⟩,_⟩:=I.list hq;exact qi mM I.tf ⟨o,h1,h2⟩ e (λz=>nomatch z) fin
 |Ve t ks x=>
  obtain⟨l,vs,z,hq,_⟩:=uN.mp rd;subst z;have z:u=Value.ref l:=ru;subst z;have hd:∃o,s.heap.get? l=some o/\o.ExactDict:=by
   rcases hq with ⟨_,oa,hq,_⟩|⟨_,oa,hq,_⟩
   .obtain⟨_,_,Fg,_,m⟩:oa.length<=sizeLine/\(l==sysModules)=false/\∃vs,KV oa vs/\s.heap.DictOf (dN X.prog X.w) l vs:=I.ib l _ hq;obtain⟨o,es,n,h1,h2,_⟩:=m;exact⟨o,h1,h2⟩
   .obtain⟨_,_,xs,_,o,es,ep,h1,h2,_⟩:=I.ib l _ hq;exact⟨o,h1,h2⟩
  obtain⟨o,h1,h2⟩:=hd;exact qi sM I.tf ⟨o,h1,h2.1⟩ e (λz=>nomatch z) fin
 |ins _ _ _=>exact nomatch Iv
 |Sg _ _ _=>exact nomatch Iv
 |fn _=>exact nomatch Iv
def vQ{S:String}{p:D->Bool} (hT:IsT S p) (hm:X.mg "isinstance"=none) (hmT:X.mg T=none) (ha:PE X a (tP X.K B f)) (hST:bootBuiltins T=some (.type S):=by first|rfl|exact hT.boot) (hg:Gl X "isinstance":=by rfl) (hgT:Gl X T:=by rfl) (hnT:T≠"__name__":=by decide) (Rl:xf T:=by decide)
  (hs:starEach [a,.Name T p1] X.env=(false,eval a X.env)::starEach [.Name T p1] X.env:=by rfl) (Ef:starEach [.Name T p1] X.env=(false,eval (.Name T p1) X.env)::starEach [] X.env:=by rfl) :
  PE X (.Call (.Name "isinstance" p0) [a,.Name T p1] [] pos) (tI X.K B<|eB p f):=by
 have hTy:PE X (.Name T p1) (tC<|.ty S):=bG5 hgT hmT hST rfl hnT Rl;refine cP (nZ (Ũ hT) hg hm boot_isinstance (cJ ha (cJ hTy gM Ef) hs) (he:=hs)) ?_
 rintro σ H Q ⟨A,st,d,rs,hd,q⟩;obtain⟨x,hx,h2⟩:=R.ma hd;obtain⟨Iv,h2⟩:=aU h2;cases h2;exact⟨A,st,x,rs,hx,λv H1 s1 r1=>⟨v,x,rfl,Iv,r1.rep,q _ H1 s1<|cU.mpr rfl⟩⟩
def ty_str:IsT "str" CD:=⟨rfl,λK d hb=>by cases d<;>first|(cases hb;done)|kernel_rfl⟩
def ty_bool:IsT "bool" DD:=⟨rfl,λK d hb=>by cases d<;>first|(cases hb;done)|kernel_rfl⟩
def ty_int:IsT "int" isIn:=⟨rfl,λK d hb=>by cases d<;>first|(cases hb;done)|kernel_rfl⟩
def ty_list:IsT "list" xu:=⟨rfl,λK d hb=>by cases d<;>first|(cases hb;done)|kernel_rfl⟩
end
end Pu
namespace Pu
open PySem PySem.Spec PyProof.Rows L2 PySem.SeqAt PySem.StrLaws
def Á(x y:List Nat)(i:Nat):Builtin.Str.subAt ⟨x.toArray⟩ ⟨y.toArray⟩ i=((x.drop i).take y.length==y):=by
 rw[subAt_eq];simp[Str.length]
theorem FV(s sub:Str)(hi:Nat):∀(l:List Nat)(st:Array Nat×Nat),1<=st.1.size->(forIn l st<|occBody s sub hi 1).run.fst=st.1
 |[],st,h=>rfl
 |a::l,st,h=>by
  rw[forIn_cons];unfold occBody;rw[gb (λz=>by have:=z.1.1.1;omega)]
  exact FV s sub hi l (st.1,st.2) h
theorem GV(s sub:Str)(hi:Nat):∀(l:List Nat)(free:Nat),(∀i∈l,free<=i)->
  (forIn l ((#[]:Array Nat),free)<|occBody s sub hi 1).run.fst.toList=(l.find? λi=>decide (i+sub.length<=hi)&&Builtin.Str.subAt s sub i).toList
 |[],free,_=>rfl
 |a::l,free,hf=>by
  rw[forIn_cons];have ha:free<=a:=hf a Jb
  by_cases hc:a+sub.length<=hi/\Builtin.Str.subAt s sub a=true
  .have e:(decide (a+sub.length<=hi)&&Builtin.Str.subAt s sub a)=true:=by rw[hc.2,Uc hc.1];rfl
   rw[T3 (p:=λi=>decide (i+sub.length<=hi)&&Builtin.Str.subAt s sub i) e]
   have e2:occBody s sub hi 1 a ((#[]:Array Nat),free)=pure (ForInStep.yield ((#[]:Array Nat).push a,a+sub.length)):=by
    unfold occBody;exact kb ⟨⟨⟨by simp,ha⟩,hc.1⟩,hc.2⟩
   rw[e2];show (forIn l (((#[]:Array Nat).push a),a+sub.length)<|occBody s sub hi 1).run.fst.toList=_;rw[FV s sub hi l _ (by simp)]
   rfl
  .have e:¬ (decide (a+sub.length<=hi)&&Builtin.Str.subAt s sub a)=true:=λz=>hc (by simpa using z)
   rw[U3 (p:=λi=>decide (i+sub.length<=hi)&&Builtin.Str.subAt s sub i) e]
   have e2:occBody s sub hi 1 a ((#[]:Array Nat),free)=pure (ForInStep.yield ((#[]:Array Nat),free)):=by
    unfold occBody;exact gb λh=>hc ⟨h.1.2,h.2⟩
   rw[e2];exact GV s sub hi l free λi yi=>hf i<|Qb _ yi
def TH(x y:List Nat)(lo:Nat):Builtin.Str.occurrences ⟨x.toArray⟩ ⟨y.toArray⟩ lo (⟨x.toArray⟩:Str).length 1=(qK x y lo).toList:=by
 rw[occ_eq,GV _ _ _ _ _ (λi hi=>by simp[List.mem_range']at hi;omega)]
 unfold qK;simp only[Á,str_len]
def bIk(x y:List Nat):Txt.find ⟨x.toArray⟩ ⟨y.toArray⟩=Up (qK x y 0):=by
 unfold Txt.find;rw[TH];cases qK x y 0<;>rfl
def ũ(x y:List Nat)(i:Int)(h:0<=i):Txt.find3 ⟨x.toArray⟩ ⟨y.toArray⟩ i=Up (qK x y i.toNat):=by
 have e:fromIndex (⟨x.toArray⟩:Str).length i=i.toNat:=by unfold fromIndex;rw[gb (by omega)];omega
 unfold Txt.find3;rw[e,TH];cases qK x y i.toNat<;>rfl
theorem qC{α:Type}(p:α->Bool):∀x:List α,x.drop (x.takeWhile p).length=x.dropWhile p
 |[]=>rfl
 |a::x=>by
  cases h:p a with
  |true=>rw[X2 h,V2 h,Te,List.drop_succ_cons,qC p x]
  |false=>rw[Y2 (by simp[h]),W2 (by simp[h])];rfl
def WQ(p:α->Bool)(x:List α):(x.takeWhile p).length+(x.dropWhile p).length=x.length:=by
 rw[<-Wf,P2]
def Ū(x y:List Nat):Txt.stripChars ⟨x.toArray⟩ ⟨y.toArray⟩=⟨(xJ x y).toArray⟩:=by
 have hp:(y.toArray.contains:Nat->Bool)=λc=>y.contains c:=by funext c;simp
 have key:Builtin.Str.strSub ⟨x.toArray⟩ (stripLo y.toArray.contains true ⟨x.toArray⟩) (stripHi y.toArray.contains true ⟨x.toArray⟩<|stripLo y.toArray.contains true ⟨x.toArray⟩)=⟨(xJ x y).toArray⟩:=by
  unfold stripLo stripHi;rw[hp];simp only[if_true];rw[qC];unfold xJ;generalize hq:(λc=>y.contains c)=q
  have l1:=WQ q x;have l2:=WQ q (x.dropWhile q).reverse;rw[List.length_reverse]at l2;unfold Builtin.Str.strSub;simp only[str_len];congr 1;apply ext';rw[Array.toList_extract];simp only[List.toList_toArray,List.extract_eq_take_drop];rw[qC];have e3:((x.dropWhile q).reverse.dropWhile q).reverse=(x.dropWhile q).take ((x.dropWhile q).length-((x.dropWhile q).reverse.takeWhile q).length):=by
   have:(x.dropWhile q).reverse.dropWhile q=(x.dropWhile q).reverse.drop ((x.dropWhile q).reverse.takeWhile q).length:=(qC q _).symm;rw[this,List.drop_reverse,List.reverse_reverse]
  rw[e3];congr 1;omega
 unfold Txt.stripChars Txt.stripBy
 by_cases h:stripSame y.toArray.contains true true ⟨x.toArray⟩=true
 .rw[kb h];unfold stripSame at h;rw[wj,Sj,Sj]at h;rw[h.2,h.1]at key;rw[<-key];unfold Builtin.Str.strSub;simp[str_len]
 .rw[gb h];exact key
section
variable {a b o:Expr}
def J2{id:String}{m:qt}{r:ue} {q:V->List V->Hp->VK->Prop} (slot:Slot "str" name id) (dz:typeOf (.builtin id)=pure (.type "method_descriptor")) (hm:mm X id q)
  (hk:∀x xs d,m x xs=.ok d->∃s,x=.str s) (wl:∀(A:List Addr)(H:Hp)(x d:D)(xs:List D)(v:V)(vs:List V)(Q:VK),Own A H->nJ X.K A H x v->bI X.K (hide A H) xs vs->m x xs=.ok d->(∀w H',bG H H'->Fb X.K (hide A H') d w->Q w H')->q v vs H Q)
  (ho:PE X o (tP X.K B f)) (ha:PA X (e::es) (tA X.K B r))
  (fc:Ah o name X.env:=by rfl)
  (Df:jl Ta (e::es) X.env:=by rfl)
  (Ac:Bi xb Ta:=by rfl) (hs:Lf e es X.env:=by rfl) (ig:Ci Ta es X.env:=by rfl) :
  PE X (.Call (.Attribute o name xb) (e::es) [] Ta) (tI X.K B<|Ln m f r):=by
 refine cP (Zt PySem.F.plainAttrs_str slot dz hm ho ha fc Df Ac hs ig) ?_
 rintro σ H Q ⟨A,st,d,rs,hd,k⟩;obtain⟨x,hx,h2⟩:=R.ma hd;obtain⟨xs,Js,h3⟩:=R.ma h2;obtain⟨s,rfl⟩:=hk x xs d h3;refine⟨A,st,_,rs,hx,λv H1 s1 r1=>⟨?_,A,st,xs,rs.mono s1,Js,λvs H2 s2 r2=>?_⟩⟩
 .rw[r1.str];rfl
 .exact wl (A++B) H2 _ d xs v vs Q (rs.own.mono<|s1.trans s2) (r1.mono s2) r2 h3 λw H' s' r'=>k w H' (s1.trans<|s2.trans s') r'
def ZC{K:Frag} (h:bI K H [d] vs):∃v,vs=[v]/\Fb K H d v:=by
 obtain⟨v,r,rfl,h1,h2⟩:=bZ.mp h;rw[dU.mp h2];exact⟨v,rfl,h1⟩
def bQ3{K:Frag} {e:D} (h:bI K H [d,e] vs):∃v u,vs=[v,u]/\Fb K H d v/\Fb K H e u:=by
 obtain⟨v,r,rfl,h1,h2⟩:=bZ.mp h;obtain⟨u,rfl,h3⟩:=ZC h2;exact⟨v,u,rfl,h1,h3⟩
def bIl:mm X "str.find" (λx vs H Q=>∃(s:List Nat),x=.str ⟨s.toArray⟩/\((∃y:List Nat,vs=[.str ⟨y.toArray⟩]/\Q (.int<|Up<|qK s y 0) H)\/∃(y:List Nat)(i:Int),vs=[.str ⟨y.toArray⟩,.int i]/\0<=i/\Q (.int<|Up<|qK s y i.toNat) H)):=by
 intro aa s σ H x vs v us Q I rx rv h;obtain⟨z,rfl,h⟩:=h;obtain⟨t,rfl⟩:=rx;rcases h with ⟨y,rfl,q⟩|⟨y,i,rfl,hi,q⟩
 .obtain⟨u,rfl,t2,rfl⟩:=rv.one;exact SC.find ⟨.int _,H,I.tok _,⟨_,rfl⟩,by rw[bIk];exact q⟩
 .obtain⟨u,u2,rfl,⟨t2,rfl⟩,⟨t3,rfl⟩⟩:=rv.two;exact SC.find3 ⟨.int _,H,I.tok _,⟨_,rfl⟩,by rw[ũ _ _ _ hi];exact q⟩
def ū:mm X "str.strip" (λx vs H Q=>∃(s y:List Nat),x=.str ⟨s.toArray⟩/\vs=[.str ⟨y.toArray⟩]/\s.length<=sizeLine/\Q (.str ⟨(xJ s y).toArray⟩) H):=by
 intro aa s σ H x vs v us Q I rx rv h;obtain⟨z,y,rfl,rfl,hz,q⟩:=h;obtain⟨t,rfl⟩:=rx;obtain⟨u,rfl,t2,rfl⟩:=rv.one;exact SC.stripChars (λt' k=>⟨.str ⟨(xJ z y).toArray⟩,H,I.tok _,⟨_,by rw[Ū]⟩,q⟩) (by rw[str_len];exact hz)
end
end Pu
namespace Pu
open PySem PySem.Spec PyProof.Rows L2 PySem.SeqAt
section
variable{X:Cx}{B:List Addr}{a b e o:Expr}{f g:Ex}{pos:Pos}{r:ue}{es:List Expr}{xb Ta:Pos}
def bMu(ho:PE X o (tP X.K B f))(ha:PA X (e::es) (tA X.K B r))(fc:Ah o "find" X.env:=by rfl)
  (Df:jl Ta (e::es) X.env:=by rfl)
  (Ac:Bi xb Ta:=by rfl) (hs:Lf e es X.env:=by rfl) (ig:Ci Ta es X.env:=by rfl) :
  PE X (.Call (.Attribute o "find" xb) (e::es) [] Ta) (tI X.K B<|Ln jx f r):=by
 refine J2 (m:=jx) PySem.F.slot_str_find PySem.F.type_str_find bIl (λx xs d h=>?_) (λA H x d xs v vs Q w rx AF h k=>?_) ho ha fc Df Ac hs ig
 .cases x<;>first|exact⟨_,rfl⟩|exact nomatch h
 .unfold jx at h;split at h
  .cases h;obtain⟨u,rfl,ru⟩:=ZC AF;exact⟨_,rx.str,.inl ⟨_,by rw[fL.mp ru],k _ H (bG.refl _)<|bR.mpr rfl⟩⟩
  .obtain⟨c,h⟩:=aU h;cases h;obtain⟨u,u2,rfl,ru,lP⟩:=bQ3 AF;exact⟨_,rx.str,.inr ⟨_,_,by rw[fL.mp ru,bR.mp lP],c,k _ H (bG.refl _)<|bR.mpr rfl⟩⟩
  .cases h
def bIm(ho:PE X o (tP X.K B f))(ha:PA X (e::es) (tA X.K B r))(fc:Ah o "strip" X.env:=by rfl)
  (Df:jl Ta (e::es) X.env:=by rfl)
  (Ac:Bi xb Ta:=by rfl) (hs:Lf e es X.env:=by rfl) (ig:Ci Ta es X.env:=by rfl) :
  PE X (.Call (.Attribute o "strip" xb) (e::es) [] Ta) (tI X.K B<|Ln Gw f r):=by
 refine J2 (m:=Gw) PySem.F.slot_str_strip PySem.F.type_str_strip ū (λx xs d h=>?_) (λA H x d xs v vs Q w rx AF h k=>?_) ho ha fc Df Ac hs ig
 .cases x<;>first|exact⟨_,rfl⟩|exact nomatch h
 .unfold Gw at h;split at h
  .obtain⟨c,h⟩:=aU h;cases h;obtain⟨u,rfl,ru⟩:=ZC AF;exact⟨_,_,rx.str,by rw[fL.mp ru],lim c,k _ H (bG.refl _)<|fL.mpr rfl⟩
  .cases h
def ZZ(hm:X.mg "max"=none)(hc:X.calm=true)(ha:PE X a (tP X.K B f))(hb:PE X b (tP X.K B g))(hg:Gl X "max":=by rfl)(hs:starEach [a,b] X.env=(false,eval a X.env)::starEach [b] X.env:=by rfl)
  (Ef:Lf b [] X.env:=by rfl) (ff:(backTo pos<|starEach [b] X.env).any (·.1)=false:=by rfl):PE X (.Call (.Name "max" p0) [a,b] [] pos) (tI X.K B<|e2 kx f g):=by
 refine cP (nZ (á hc) hg hm (by rfl) (cJ ha (cJ hb gM Ef) hs) (he:=hs) (ff:=ff)) ?_
 rintro σ H Q ⟨A,st,d,rs,hd,q⟩;obtain⟨x,hx,h2⟩:=R.ma hd;obtain⟨y,hy,h3⟩:=R.ma h2;refine⟨A,st,x,rs,hx,λv H1 s1 r1=>⟨A,st,y,rs.mono s1,hy,λu H2 s2 r2=>?_⟩⟩
 unfold kx at h3;split at h3
 case h_2=>cases h3
 cases h3;exact⟨_,_,by rw[r1.int,r2.int],q _ H2 (s1.trans s2)<|bR.mpr rfl⟩
def bMv(hm:X.mg "min"=none)(hc:X.calm=true)(ha:PE X a (tP X.K B f))(hb:PE X b (tP X.K B g))(hg:Gl X "min":=by rfl)(hs:starEach [a,b] X.env=(false,eval a X.env)::starEach [b] X.env:=by rfl)
  (Ef:Lf b [] X.env:=by rfl) (ff:(backTo pos<|starEach [b] X.env).any (·.1)=false:=by rfl):PE X (.Call (.Name "min" p0) [a,b] [] pos) (tI X.K B<|e2 WK f g):=by
 refine cP (nZ (â hc) hg hm (by rfl) (cJ ha (cJ hb gM Ef) hs) (he:=hs) (ff:=ff)) ?_
 rintro σ H Q ⟨A,st,d,rs,hd,q⟩;obtain⟨x,hx,h2⟩:=R.ma hd;obtain⟨y,hy,h3⟩:=R.ma h2;refine⟨A,st,x,rs,hx,λv H1 s1 r1=>⟨A,st,y,rs.mono s1,hy,λu H2 s2 r2=>?_⟩⟩
 unfold WK at h3;split at h3
 case h_2=>cases h3
 cases h3;exact⟨_,_,by rw[r1.int,r2.int],q _ H2 (s1.trans s2)<|bR.mpr rfl⟩
def rL(ha:PE X a (tP X.K B f)):PE X (.UnaryOp .USub a pos) (tI X.K B<|e1 BD f):=by
 refine cP (bOb bL5 ha) ?_
 rintro σ H Q ⟨A,st,d,rs,hd,q⟩;obtain⟨x,hx,h2⟩:=R.ma hd;refine⟨A,st,x,rs,hx,λv H1 s1 r1=>?_⟩
 cases x<;>first|(cases h2;done)|skip
 cases h2;exact⟨_,r1.int,q _ H1 s1<|bR.mpr rfl⟩
def K2(neg:Bool):R2:=λx y H Q=>(y=.lc/\Q (.bl<|if neg then !decide (x=.lc) else decide (x=.lc)) H)\/∃c d,x=.bl c/\y=.bl d/\Q (.bl<|if neg then !(c==d) else (c==d)) H
def UH:Oe X (compareOp .IsNot) (K2 true):=by
 intro aa s σ H x y v u Q I rx ry h;rcases h with h|⟨c,d,rfl,rfl,q⟩
 .exact bGb aa s σ H x y v u Q I rx ry h
 .cases rx;cases ry;exact isnot_bool ⟨.bl<|!(c==d),H,I,rfl,q⟩
def VH{K:Frag}:yX K (K2 true) Vp:=by
 intro A H x y d v u Q w rx ry e q;cases y<;>first|(cases x<;>(cases e;done))|skip
 .cases e;exact .inl ⟨ry.lc,q _ H (bG.refl _)<|cU.mpr<|by rw[<-bIa rx];rfl⟩
 .cases x<;>first|(cases e;done)|skip
  cases e;exact .inr ⟨_,_,rx.bl,ry.bl,q _ H (bG.refl _)<|cU.mpr rfl⟩
open Classical in
noncomputable def bj(K:Frag)(H:Hp)(x:D)(u:Value):Bool:=if ∃d z,Fb K H d z/\RelV z u/\plain d=true/\Fd d x=true then true else false
def VX(I:ya X aa σ H s){x:D}{z:V} (r:Fb X.K H d z) (rz:RelV z u) (pd:plain d=true):bj X.K H x u=Fd d x:=by
 unfold bj;split
 .rename_i h;obtain⟨d',z',r',rz',pd',e⟩:=h;have:=RelV.inj rz rz';subst this;rw[Fb.inj I pd pd' r r',e]
 .rename_i h;cases hb:Fd d x with
  |false=>rfl
  |true=>exact(h ⟨d,z,r,rz,pd,hb⟩).elim
theorem Yw{aa:List (Addr×Obj)}{σ:Zi}{H:Hp}{s:Shared}(I:ya X aa σ H s){x:D}:∀{ds:List D}{zs:List V}{us:List Value},bI X.K H ds zs->Ca zs us->gF ds=true->us.any (bj X.K H x)=inD x ds
 |[],zs,us,r,v,_=>by
  have e:=dU.mp r;subst e;cases v;rfl
 |d::ds,zs,us,r,v,p=>by
  obtain⟨z,r',e,h1,h2⟩:=bZ.mp r;subst e;simp only[lY,and_eq_true]at p;cases v with
  |cons v vs=>
   rw[Bq,VX I h1 v p.1,Yw I h2 vs p.2];unfold inD;rw[Bq]
theorem Zw{aa:List (Addr×Obj)}{σ:Zi}{H:Hp}{s:Shared}(I:ya X aa σ H s){A:Around}{x:D}{zx:V}{ux:Value}(rx:Fb X.K H x zx)(vx:RelV zx ux)(px:plain x=true):∀{ds:List D}{zs:List V}{us:List Value},bI X.K H ds zs->Ca zs us->gF ds=true->A.units+oU ds<cLine->∀u∈us,EqAt A s u ux (bj X.K H x u)
 |[],zs,us,r,v,_,_=>by
  have e:=dU.mp r;subst e;cases v;exact λu hu=>nomatch hu
 |d::ds,zs,us,r,v,p,hd=>by
  obtain⟨z,r',e,h1,h2⟩:=bZ.mp r;subst e;simp only[lY,and_eq_true]at p;rw[JH]at hd;cases v with
  |cons v vs=>
   intro u hu;rcases Kc.mp hu with rfl|hu
   .rw[VX I h1 v p.1];exact ť I d x A z zx _ ux h1 rx v vx (by omega) p.1 px
   .exact Zw I rx vx px h2 vs p.2 (by omega) u hu
def ID(K:Frag)(neg:Bool):R2:=λv u H Q=>(∃a o,u=.ref a/\ii H a v o/\Q (.bl<|if neg then !o.isSome else o.isSome) H)\/(∃x ds zs p,u=.ref p/\(Ae K H p zs\/Zg K H p zs)/\Fb K H x v/\bI K H ds zs/\oU ds<=60/\plain x=true/\gF ds=true/\Q (.bl<|if neg then !inD x ds else inD x ds) H)\/
 ∃i j:List Nat,v=.str ⟨i.toArray⟩/\u=.str ⟨j.toArray⟩/\Q (.bl<|if neg then !(qK j i 0).isSome else (qK j i 0).isSome) H
def some_of(x y:List Nat):(!(Builtin.Str.occurrences ⟨x.toArray⟩ ⟨y.toArray⟩ 0 (⟨x.toArray⟩:Str).length 1).isEmpty)=(qK x y 0).isSome:=by
 rw[TH];cases qK x y 0<;>rfl
def IK(hu:X.A.units+64<cLine:=by exact dc.units<|by assumption):Oe X (compareOp .In) (ID X.K false):=by
 intro aa s σ H v u a b Q I ra rb h;rcases h with ⟨p,o,rfl,g,q⟩|⟨x,ds,zs,p,rfl,hq,rx,Ij,hd,px,pd,q⟩|⟨i,j,rfl,rfl,q⟩
 .cases rb;exact bRf (by omega) I g ra λs' I'=>⟨.bl _,H,I',rfl,q⟩
 .cases rb;have hin:X.A.in1.units+oU ds<cLine:=by show X.A.units+1+oU ds<cLine;omega
  rcases hq with hq|hq
  .obtain⟨Sa,r,pl,hz⟩:=I.list hq;refine SeqAt.in_listAt (bj X.K H x) pl.isList (λw hw=>Zw I rx ra px Ij r pd hin w<|by simpa using hw) ⟨.bl _,H,I,rfl,?_⟩
   rw[show Sa.toArray.any (bj X.K H x)=Sa.any (bj X.K H x) by simp,Yw I Ij r pd]
   exact q
  .obtain⟨Sa,r,pl,hz⟩:=I.tuple hq;refine SeqAt.in_tupleAt (bj X.K H x) pl (λw hw=>Zw I rx ra px Ij r pd hin w<|by simpa using hw) ⟨.bl _,H,I,rfl,?_⟩
   rw[show Sa.toArray.any (bj X.K H x)=Sa.any (bj X.K H x) by simp,Yw I Ij r pd]
   exact q
 .refine à aa s σ H _ _ a b Q I ra rb ⟨_,_,rfl,rfl,?_⟩;rw[some_of];exact q
def xA(hu:X.A.units+64<cLine:=by exact dc.units<|by assumption):Oe X (compareOp .NotIn) (ID X.K true):=by
 intro aa s σ H v u a b Q I ra rb h;rcases h with ⟨p,o,rfl,g,q⟩|⟨x,ds,zs,p,rfl,hq,rx,Ij,hd,px,pd,q⟩|⟨i,j,rfl,rfl,q⟩
 .cases rb;exact bGq (by omega) I g ra λs' I'=>⟨.bl _,H,I',rfl,q⟩
 .cases rb;have hin:X.A.in1.units+oU ds<cLine:=by show X.A.units+1+oU ds<cLine;omega
  rcases hq with hq|hq
  .obtain⟨Sa,r,pl,hz⟩:=I.list hq;refine SeqAt.notIn_listAt (bj X.K H x) pl.isList (λw hw=>Zw I rx ra px Ij r pd hin w<|by simpa using hw) ⟨.bl _,H,I,rfl,?_⟩
   rw[show Sa.toArray.any (bj X.K H x)=Sa.any (bj X.K H x) by simp,Yw I Ij r pd]
   exact q
  .obtain⟨Sa,r,pl,hz⟩:=I.tuple hq;refine SeqAt.notIn_tupleAt (bj X.K H x) pl (λw hw=>Zw I rx ra px Ij r pd hin w<|by simpa using hw) ⟨.bl _,H,I,rfl,?_⟩
   rw[show Sa.toArray.any (bj X.K H x)=Sa.any (bj X.K H x) by simp,Yw I Ij r pd]
   exact q
 .refine K_ aa s σ H _ _ a b Q I ra rb ⟨_,_,rfl,rfl,?_⟩;rw[some_of];exact q
def JK{K:Frag}:yX K (ID K false) Yo:=by
 intro A H x y d v u Q w rx ry e q;unfold Yo at e;split at e
 .obtain⟨c,e⟩:=aU e;cases e;rename_i t ks ds;have mP:Fb K H x v:=rx.rep;obtain⟨a,o,e1,g,g1,_⟩:=IB ry mP c;exact .inl ⟨a,o,e1,g,by rw[g1];exact q _ H (bG.refl _)<|cU.mpr rfl⟩
 .obtain⟨c,e⟩:=aU e;cases e;obtain⟨p,zs,h1,h2,h3⟩:=ry.lst;exact .inr<|.inl ⟨_,_,zs,p,h1,.inl h2,rx.rep,h3.mono<|bN _ _,c.1,c.2.1,c.2.2,q _ H (bG.refl _)<|cU.mpr rfl⟩
 .obtain⟨c,e⟩:=aU e;cases e;obtain⟨p,zs,h1,h2,h3⟩:=ry.tup;exact .inr<|.inl ⟨_,_,zs,p,h1,.inr h2,rx.rep,h3.mono<|bN _ _,c.1,c.2.1,c.2.2,q _ H (bG.refl _)<|cU.mpr rfl⟩
 .cases e;exact .inr<|.inr ⟨_,_,rx.str,ry.str,q _ H (bG.refl _)<|cU.mpr rfl⟩
 .cases e
def yA{K:Frag}:yX K (ID K true) uW:=by
 intro A H x y d v u Q w rx ry e q;unfold uW at e;split at e
 .obtain⟨c,e⟩:=aU e;cases e;rename_i t ks ds;have mP:Fb K H x v:=rx.rep;obtain⟨a,o,e1,g,g1,_⟩:=IB ry mP c;exact .inl ⟨a,o,e1,g,by rw[g1];exact q _ H (bG.refl _)<|cU.mpr rfl⟩
 .obtain⟨c,e⟩:=aU e;cases e;obtain⟨p,zs,h1,h2,h3⟩:=ry.lst;exact .inr<|.inl ⟨_,_,zs,p,h1,.inl h2,rx.rep,h3.mono<|bN _ _,c.1,c.2.1,c.2.2,q _ H (bG.refl _)<|cU.mpr rfl⟩
 .obtain⟨c,e⟩:=aU e;cases e;obtain⟨p,zs,h1,h2,h3⟩:=ry.tup;exact .inr<|.inl ⟨_,_,zs,p,h1,.inr h2,rx.rep,h3.mono<|bN _ _,c.1,c.2.1,c.2.2,q _ H (bG.refl _)<|cU.mpr rfl⟩
 .cases e;exact .inr<|.inr ⟨_,_,rx.str,ry.str,q _ H (bG.refl _)<|cU.mpr rfl⟩
 .cases e
end
end Pu
namespace Pu
open PySem PySem.Spec PyProof.Rows L2
section
variable{X:Cx}{B:List Addr}{a b e:Expr}{f g:Ex}{pos:Pos}
def Bl(i:Nat) (he:PE X e (tI X.K B f)) (hN:X.N[i]?=some x:=by rfl) (hv:Ei X.env.scope x:=by exact ll rfl) (hd:xf x:=by decide)
  (af:kl x:=by decide) (fc:Ah (.Name x p1) "append" X.env:=by rfl)
  (Df:jl Ta [e] X.env:=by rfl)
  (Ac:Bi xb Ta:=by rfl) (hs:Lf e [] X.env:=by rfl)
  (Qm:Hj (.Call (.Attribute (.Name x p1) "append" xb) [e] [] Ta) none pos.line X.env:=by rfl) :
  PS X (.Expr (.Call (.Attribute (.Name x p1) "append" xb) [e] [] Ta) pos) (tS X.K B<|tj i f):=by
 refine gU (wt (Zt ND QL PySem.F.type_list_append è (tE hN hv hd af) (cJ he gM hs) fc Df Ac hs rfl) Qm) ?_
 rintro Dn σ H ⟨A,st,r,rs,hr,p⟩;obtain⟨d,hd,h3⟩:=R.ma hr;split at h3
 .rename_i xs e1;obtain⟨c,h4⟩:=aU h3;cases h4;obtain⟨l,o,vs,e2,m,h1,ko,q,u⟩:=rs.lst i _ xs e1;have eo:o=.lst vs:=ko;subst eo;refine⟨.ref l,e2,.inl ⟨rfl,vs,Ae.of h1⟩,A,st,d,rs,hd,λv H' s rv=>?_⟩
  have ql:=q.length;refine⟨l,vs,v,rfl,rfl,s _ _ h1,by rw[ql];rw[pM]at c;exact Ig c (by decide),?_⟩
  obtain⟨w1,w2⟩:=(rs.mono s).write e1 e2 (k1:=.l) (ds:=xs++[d]) (Fg:=vs++[v]) rfl<|(q.mono<|bG.hide s).append<|.cons rv .nil;exact p A _ _ ((Le.of s).trans w2) w1
 .cases h3
def Bx(i:Nat) {j:Expr} (hj:PE X j (tP X.K B g)) (he:PE X e (tI X.K B f)) (hN:X.N[i]?=some x:=by rfl) (hv:Ei X.env.scope x:=by exact ll rfl) (hd:xf x:=by decide)
  (af:kl x:=by decide)
  (ha:∀v,assign (.Subscript (.Name x p1) j p2) X.env v=(do
   let ov <- holding [v] (eval (.Name x p1) X.env)
   let iv <- holding [v,ov] (eval j X.env)
   standAt p2
   holding [v,ov,iv] (setItem ov iv v)
   release [v,ov,iv] []):=by intro _;rfl)
  (hs:swapsWithSole [.Subscript (.Name x p1) j p2] e pos.line X.env=pure false:=by rfl) (hw:swappedStores [.Subscript (.Name x p1) j p2] e X.env=pure none:=by rfl)
  (h1:(assignEach [.Subscript (.Name x p1) j p2] X.env).map (·.2)=[assign (.Subscript (.Name x p1) j p2) X.env]:=by rfl) :
  PS X (.Assign [.Subscript (.Name x p1) j p2] e pos) (tS X.K B<|iq i g f):=by
 refine gU (SJ he (QY (tE hN hv hd af) hj set_list ha) hs hw h1) ?_
 rintro Dn σ H ⟨A,st,r,rs,hr,p⟩;obtain⟨d,hd,h3⟩:=R.ma hr;obtain⟨y,hy,h4⟩:=R.ma h3;obtain⟨k,rfl,h5⟩:=Qt h4;split at h5
 .rename_i xs e1;obtain⟨n,hn,h6⟩:=R.ma h5;cases h6;obtain⟨l,o,vs,e2,m,h1,ko,q,u⟩:=rs.lst i _ xs e1;have eo:o=.lst vs:=ko;subst eo;refine⟨A,st,d,rs,hd,λv H' s rv=>⟨.ref l,e2,A,st,_,rs.mono s,hy,λw H2 s2 rw2=>?_⟩⟩
  have ql:=q.length;have hk:L2.vh vs.length k=some n:=by rw[ql,hV];exact Yp hn
  refine⟨l,vs,k,n,rfl,rw2.int,(s.trans s2) _ _ h1,hk,?_⟩;obtain⟨w1,w2⟩:=(rs.mono<|s.trans s2).write e1 e2 (k1:=.l) (ds:=xs.set n d) (Fg:=vs.set n v) rfl<|bI.set (rv.mono<|bG.hide s2) n<|q.mono<|bG.hide<|s.trans s2;exact p A _ _ ((Le.of<|s.trans s2).trans w2) w1
 .cases h5
def OB(hN:X.N.Nodup:=by assumption)(hi:X.N[i]?=some x:=by rfl)(hx:Loc X.env.scope x:=by exact Ip rfl)(hs:Hj (.Dict [] [] dp) (some<|.Name x pos') pos.line X.env:=by rfl)
  (hf:Vl X x:=by first|exact .inl rfl|exact .inr rfl|assumption):PS X (.Assign [.Name x pos'] (.Dict [] [] dp) pos) (tS X.K B<|lx i false):=gU (Ew hN hi hx ĸ hs hf) (by
 rintro Dn σ H ⟨A,st,r,rs,hr,p⟩;cases hr;exact λa ha=>p (a::A) _ _ (HC ha)<|rs.Zs (kk:=.d false []) i ha (.inl ⟨rfl,[],rfl,rfl,rfl⟩) .nil)
def bQ5:V->V->V->Hp->(Hp->Prop)->Prop:=λo i v H Q=>∃p H',o=.ref p/\wo H p i v H'/\Q H'
def set_dict(hu:X.A.units+64<cLine):DL X bQ5:=by
 intro aa s σ H o i v ov iv u Q I ro ri rv h;obtain⟨p,H',rfl,g,q⟩:=h;cases ro;exact í (by omega) I g ri rv λs' I'=>⟨H',I',q⟩
def KC(hu:X.A.units+64<cLine)(i:Nat) {j:Expr} (hj:PE X j (tI X.K B g)) (he:PE X e (tI X.K B f)) (hN:X.N[i]?=some x:=by rfl) (hv:Ei X.env.scope x:=by exact ll rfl) (hd:xf x:=by decide)
  (af:kl x:=by decide)
  (ha:∀v,assign (.Subscript (.Name x p1) j p2) X.env v=(do
   let ov <- holding [v] (eval (.Name x p1) X.env)
   let iv <- holding [v,ov] (eval j X.env)
   standAt p2
   holding [v,ov,iv] (setItem ov iv v)
   release [v,ov,iv] []):=by intro _;rfl)
  (hs:swapsWithSole [.Subscript (.Name x p1) j p2] e pos.line X.env=pure false:=by rfl) (hw:swappedStores [.Subscript (.Name x p1) j p2] e X.env=pure none:=by rfl)
  (h1:(assignEach [.Subscript (.Name x p1) j p2] X.env).map (·.2)=[assign (.Subscript (.Name x p1) j p2) X.env]:=by rfl) :
  PS X (.Assign [.Subscript (.Name x p1) j p2] e pos) (tS X.K B<|wg i g f):=by
 refine gU (SJ he (QY (tE hN hv hd af) hj (set_dict hu) ha) hs hw h1) ?_
 rintro Dn σ H ⟨A,st,r,rs,hr,p⟩;obtain⟨d,hd,h3⟩:=R.ma hr;obtain⟨k,hk,h5⟩:=R.ma h3;split at h5
 .rename_i t ks ds e1;obtain⟨c,h6⟩:=aU h5;cases h6;obtain⟨l,o,vs,e2,m,h1,ko,q,u⟩:=rs.lst i _ _ e1;refine⟨A,st,d,rs,hd,λv H' s rv=>⟨.ref l,e2,A,st,k,rs.mono s,hk,λw H2 s2 rk=>?_⟩⟩
  have hl:H2 l=some o:=(s.trans s2) _ _ h1;have q2:=q.mono<|bG.hide<|s.trans s2;have U5:=rv.mono<|bG.hide s2;have T5:Fb X.K H2 k w:=rk.mono<|bN _ _;have Pc:ds.length<sizeLine:=by have:=c.2;rw[pM]at this;exact Ig this (by decide)
  have ql:=q.length;rcases ko with ⟨rfl,oa,rfl,rfl,rfl⟩|⟨rfl,oa,rfl,rfl,rfl⟩
  .obtain⟨k',e3,e4⟩:=zX T5 c.1;subst e3 e4;obtain⟨z1,z2⟩:=HB Jt k' v d U5 oa ds q2;refine⟨l,_,rfl,wo.k hl (by rw[Yd]at ql;omega),?_⟩
   obtain⟨w1,w2⟩:=(rs.mono<|s.trans s2).write e1 e2 (k1:=.d false<|sO (oa.map λp=>jB p.1)<|jB k') (.inl ⟨rfl,Ed oa k' v,rfl,z1,rfl⟩) z2
   exact p A _ _ ((Le.of<|s.trans s2).trans w2) w1
  .obtain⟨k',b,e3,e4,e5⟩:=OR T5 c.1;subst e3 e4;obtain⟨z1,z2⟩:=HB (E:=λl=>D.tup<|l.map jB) pV k' v d U5 oa ds q2
   refine⟨l,_,rfl,wo.t hl e5 (by rw[Yd]at ql;omega),?_⟩
   obtain⟨w1,w2⟩:=(rs.mono<|s.trans s2).write e1 e2 (k1:=.d true<|sO (oa.map λp=>D.tup<|p.1.map jB)<|.tup<|k'.map jB) (.inr ⟨rfl,Ed oa k' v,rfl,z1,rfl⟩) z2
   exact p A _ _ ((Le.of<|s.trans s2).trans w2) w1
 .cases h5
def bQ6(i:Nat) (he:PE X e (tF X.K B f)) (hN:X.N[i]?=some x:=by rfl) (hv:Ei X.env.scope x:=by exact ll rfl) (hd:xf x:=by decide)
  (af:kl x:=by decide) (fc:Ah (.Name x p1) "extend" X.env:=by rfl)
  (Df:jl Ta [e] X.env:=by rfl)
  (Ac:Bi xb Ta:=by rfl) (hs:Lf e [] X.env:=by rfl)
  (Qm:Hj (.Call (.Attribute (.Name x p1) "extend" xb) [e] [] Ta) none pos.line X.env:=by rfl) :
  PS X (.Expr (.Call (.Attribute (.Name x p1) "extend" xb) [e] [] Ta) pos) (tS X.K B<|ED i f):=by
 refine gU (wt (Zt ND PySem.F.slot_list_extend PySem.F.type_list_extend é (tE hN hv hd af) (cJ he gM hs) fc Df Ac hs rfl) Qm) ?_
 rintro Dn σ H ⟨A,st,r,rs,hr,p⟩;obtain⟨d,hd,h3⟩:=R.ma hr;cases d<;>first|(cases h3;done)|skip
 rename_i ys;have Sr:(match st[i]? with|some (some<|.o .l xs)=>aW (xs.length+ys.length<=big) (R.ok<|Fl.nx<|st.set i<|some<|.o .l<|xs++ys)|_=>.bad)=.ok r:=h3
 split at Sr
 .rename_i xs e1;obtain⟨c,h4⟩:=aU Sr;cases h4;obtain⟨l,o,vs,e2,m,h1,ko,q,u⟩:=rs.lst i _ xs e1;have eo:o=.lst vs:=ko;subst eo;refine⟨.ref l,e2,.inl ⟨rfl,vs,Ae.of h1⟩,A,st,ys,rs,hd,λn zs H' s hn rz=>?_⟩
  have ql:=q.length;have zl:=rz.length;have hl:H' l=some (.lst vs):=s _ _ h1;have ne:l≠n:=bJ hl hn;refine⟨l,n,vs,zs,rfl,rfl,by rw[bU ne];exact hl,cD,by rw[ql,zl];exact lim c,?_⟩
  have s2:=s.trans<|cL (o:=HO.lst zs) hn;obtain⟨w1,w2⟩:=(rs.mono s2).write e1 e2 (k1:=.l) (ds:=xs++ys) (Fg:=vs++zs) rfl<|(q.mono<|bG.hide s2).append<|rz.mono<|bG.hide<|cL hn;exact p A _ _ ((Le.of s2).trans w2) w1
 .cases Sr
end
section
open PySem.SeqAt
open PySem.AutoSeq1 (wpAny_loadPart')
open PySem.MeetsSeq PySem.MeetsSeq2 PySem.MeetsSeq3
inductive Ak (A:Around) (s:Shared):List Value->List Value->Bool->Prop where
 |nn:Ak A s [] [] false
 |nc {w:Value} {ws:List Value}:Ak A s [] (w::ws) true
 |cn {v:Value} {vs:List Value}:Ak A s (v::vs) [] false
 |eq {v w:Value} {vs ws:List Value} {b:Bool}:EqAt A s v w true->Ak A s vs ws b->Ak A s (v::vs) (w::ws) b
 |lt {v w:Value} {vs ws:List Value} {b:Bool}:EqAt A s v w false->(∀(prog:Program)(wd:World)(E Q:Value->Shared->Prop),Q (.bool b) s->wpAny (model prog wd) A (richCompare .Lt v w) Q E s)->Ak A s (v::vs) (w::ws) b
end
structure ClsAt(K:Frag)(c:String)(C:Addr):Prop where
 ns:nsIn K mainGlobals (ofString c)=some (some<|.ref C)
 cl:Al K C
def zZ{a b:String}(h:ofString a=ofString b):a=b:=by
 have h1:(ofString a).cps=(ofString b).cps:=by rw[h]
 rw[Str.ofString_eq_toList,Str.ofString_eq_toList]at h1;have h2:a.toList.map Char.toNat=b.toList.map Char.toNat:=by
  have:=congrArg Array.toList h1;simpa using this
 have inj:∀(x y:List Char),x.map Char.toNat=y.map Char.toNat->x=y:=by
  intro x
  induction x with
  |nil=>intro y h;cases y with|nil=>rfl|cons _ _=>simp at h
  |cons a x ih=>
   intro y h;cases y with
   |nil=>simp at h
   |cons b y=>
    rw[Vd,Vd]at h;injection h with h3 h4
    rw[ih y h4];congr 1;exact Char.ext<|UInt32.toNat_inj.mp h3
 exact String.toList_inj.mp<|inj _ _ h2
section
variable{K:Frag}
theorem zS{f:String}:∀{ns:List String}{ds:List D} {fs:List (Str×V)} {d:D},fs.map (·.1)=ns.map ofString->bI K H ds (fs.map (·.2))->(ns.zip ds).lookup f=some d->∃v,fs.lookup (ofString f)=some v/\Fb K H d v
 |[],ds,fs,d,_,_,h=>by simp at h
 |n::ns,[],fs,d,_,_,h=>by simp at h
 |n::ns,d0::ds,[],d,e,_,h=>by simp at e
 |n::ns,d0::ds,(g,w)::fs,d,e,r,h=>by
  rw[Vd,Vd]at e;injection e with e1 e2
  obtain⟨v,r',e3,h1,h2⟩:=bZ.mp r;rw[Vd]at e3;injection e3 with e4 e5
  subst e4 e5;have lg:g=ofString n:=e1;subst lg;rw[dy,fj]at h;rw[fj]
  by_cases hf:f=n
  .subst hf;simp only[beq_self_eq_true]at h ⊢;cases h;exact⟨_,rfl,h1⟩
  .have hb:(f==n)=false:=Jo.mpr hf;have Tr:(ofString f==ofString n)=false:=Jo.mpr λz=>hf (zZ z)
   rw[hb]at h;rw[Tr];exact zS e2 h2 h
theorem lookup_none{f:String}:∀{ns:List String} {fs:List (Str×V)},fs.map (·.1)=ns.map ofString->f∉ns->fs.lookup (ofString f)=none
 |[],fs,e,_=>by cases fs with|nil=>rfl|cons _ _=>simp at e
 |n::ns,[],e,_=>rfl
 |n::ns,(g,w)::fs,e,h=>by
  rw[Vd,Vd]at e;injection e with e1 e2
  have lg:g=ofString n:=e1;subst lg;rw[fj];have Tr:(ofString f==ofString n)=false:=Jo.mpr λz=>h (by rw[zZ z];exact Jb)
  rw[Tr];exact lookup_none e2 λz=>h<|Qb _ z
theorem HV{f:String}{v:V}:∀{ns:List String} {fs:List (Str×V)},fs.map (·.1)=ns.map ofString->f∉ns->gi (ofString f) v fs=fs++[(ofString f,v)]
 |[],fs,e,_=>by cases fs with|nil=>rfl|cons _ _=>simp at e
 |n::ns,[],e,_=>by simp at e
 |n::ns,(g,w)::fs,e,h=>by
  rw[Vd,Vd]at e;injection e with e1 e2
  have lg:g=ofString n:=e1;subst lg;unfold gi;rw[gb<|λz=>h<|by rw[zZ z];exact Jb,HV e2 λz=>h<|Qb _ z]
  rfl
end
section
variable{X:Cx}{B:List Addr}{a b e o:Expr}{f g:Ex}{pos:Pos}
theorem nJ.ins{K:Frag}{A:List Addr}{H:Hp}{c:String}{ns:List String}{ds:List D}{v:V}(h:nJ K A H (.ins c ns ds) v):∃p C dx fs,v=.ref p/\H p=some (.ins C dx fs)/\nsIn K mainGlobals (ofString c)=some (some<|.ref C)/\fs.map (·.1)=ns.map ofString/\bI K (hide A H) ds (fs.map (·.2)):=by
 rcases h with h|⟨p,kk,o,ME,vs,e,e2,h,ko,r⟩
 .obtain⟨p,C,dx,fs,vs,e,q1,q2,q3,q4,r⟩:=GB.mp h;subst q4;exact⟨p,C,dx,fs,e,bN _ _ _ _ q1,q2,q3,r⟩
 .cases kk<;>cases e;obtain⟨_,C,dx,fs,rfl,q2,q3,rfl⟩:=ko;exact⟨p,C,dx,fs,e2,h,q2,q3,r⟩
def jO (hc:ClsAt X.K c C) (hn:nM X.K C (ofString f')) (ho:PE X o (tP X.K B f)) (hb:Ah o (ofString f') X.env:=by rfl) :
  PE X (.Attribute o (ofString f') pos) (tI X.K B<|e1 (dY c f') f):=by
 refine cP (bL6 ho hb) ?_
 rintro σ H Q ⟨A,st,d,rs,hd,q⟩;obtain⟨x,hx,h2⟩:=R.ma hd;refine⟨A,st,x,rs,hx,λv H1 s1 r1=>?_⟩
 cases x<;>first|(cases h2;done)|skip
 obtain⟨e1,h3⟩:=aU h2;subst e1;obtain⟨p,C',dx,fs,e2,h4,h5,h6,h7⟩:=r1.ins;have:C'=C:=by have z:=h5.symm.trans hc.ns;injection z with z;injection z with z;injection z
 subst this;obtain⟨w,h8,h9⟩:=zS h6 h7<|Yp h3;exact⟨p,C',dx,fs,w,e2,h4,hc.cl,hn,h8,q w H1 s1 h9⟩
structure uc(P:Program)(w:World)(K:Frag)(mg:Str->Option Value)(base:Heap)(c m:String)(k np:Nat)(dv:List D)(p:List D->R D):Prop where
 ex:∃(C fa:Addr)(fd:FuncData)(ps:List Str)(Xd:List V)(ds:List Value),ClsAt K c C/\Meth K C (ofString m) fa/\Aa P w K mg base Ib k fa fd ps (jc K np p)/\Binds K fd ps ds/\Ca Xd ds/\∀H,bI K H dv Xd
 len:∀ds d,p ds=.ok d->ds.length=np
def jY{m:String}{k:Nat} {r:ue} (h:uc X.prog X.w X.K X.mg X.base c m k np dv p) (ho:PE X o (tI X.K B f)) (ha:PA X (e::es) (tA X.K B r)) (hr:dc j X.A:=by assumption) (hk:k<=j:=by decide)
  (Nh:Lf e es X.env:=by rfl) (ff:Ci pos es X.env:=by rfl)
  (ht:eval (.Call (.Attribute o (ofString m) xb) (e::es) [] pos) X.env=(do
   let ov <- eval o X.env
   standAt xb.atName
   let (f,first) <- holding [ov] (getMethod ov (ofString m) pl)
   callWith pos f first (backTo pos<|starEach (e::es) X.env) (backToKw pos<|keywordEach [] X.env)):=by rfl) :
  PE X (.Call (.Attribute o (ofString m) xb) (e::es) [] pos) (tI X.K B<|dJ c m p dv f r):=by
 obtain⟨C,fa,fd,ps,Xd,ds,hc,hm,F,bd,vd,rd⟩:=h.ex;refine cP (bGh (pl:=pl) ho hc.cl hm F (hr.mono hk) bd vd ix ha Nh ff ht) ?_
 rintro σ H Q ⟨A,st,d,rs,hd,q⟩;obtain⟨x,hx,h2⟩:=R.ma hd;obtain⟨xs,Js,h3⟩:=R.ma h2;refine⟨A,st,x,rs,hx,λv H1 s1 r1=>?_⟩
 cases x<;>first|(cases h3;done)|skip
 obtain⟨⟨e1,hn⟩,h4⟩:=aU h3;subst e1;obtain⟨p',C',dx,fs,e2,h5,h6,h7,h8⟩:=nJ.ins<|.inl r1;have:C'=C:=by have z:=h6.symm.trans hc.ns;injection z with z;injection z with z;injection z
 subst this;refine⟨p',dx,fs,e2,h5,lookup_none h7 hn,A,st,xs,rs.mono s1,Js,λvs H2 s2 r2=>?_⟩
 exact⟨A++B,_,d,rs.own.mono<|s1.trans s2,.cons (r1.mono<|bG.hide s2)<|r2.append<|rd _,h.len _ _ h4,h4,λw H' s' r'=>q w H' (s1.trans<|s2.trans s') r'⟩
def CF(K:Frag)(c:String)(np:Nat)(p:List D->R D):Sp:=λvs H Q _=>∃x ws A C dx ds d,vs=.ref x::ws/\H x=some (.ins C dx [])/\nsIn K mainGlobals (ofString c)=some (some<|.ref C)/\Own A H/\x∉A/\bI K (hide (x::A) H) ds ws/\ds.length=np/\p ds=.ok d/\
 ∀H',bG (hide [x] H) H'->Fb K (hide A H') d (.ref x)->Q .lc H'
structure Yg(P:Program)(w:World)(K:Frag)(mg:Str->Option Value)(base:Heap)(c:String)(k np:Nat)(p:List D->R D):Prop where
 ex:∃(C fa:Addr)(fd:FuncData)(ps:List Str),ClsAt K c C/\Mk K C fa/\Aa P w K mg base Ib k fa fd ps (CF K c np p)/\Binds K fd ps []/\mg (ofString c)=some (.ref C)
 len:∀ds d,p ds=.ok d->ds.length=np
def LK{k:Nat} {r:ue} (h:Yg X.prog X.w X.K X.mg X.base c k np p) (hr:dc j X.A) (hk:k+1<=j) (ha:PA X (e::es) (tA X.K B r)) (hg:Gl X (ofString c):=by rfl) (Rf:xf (ofString c):=by decide)
  (he:Lf e es X.env:=by rfl) (ff:Ci pos es X.env:=by rfl):PE X (.Call (.Name (ofString c) p0) (e::es) [] pos) (tI X.K B<|aO p r):=by
 obtain⟨C,fa,fd,ps,hc,M,F,bd,hm⟩:=h.ex;refine cP (bGi M F (hr.mono hk) hg hm bd .nil ix ha Rf he ff) ?_
 rintro σ H Q ⟨A,st,d,rs,hd,q⟩;obtain⟨xs,hx,h2⟩:=R.ma hd;refine⟨A,st,xs,rs,hx,λvs H1 s1 r1 x dx zp DN zi=>?_⟩
 have w1:=rs.own.mono s1;have DO:x∉A++B:=w1.free zp;have e0:∀b u,H1 b=some u->Ob (Ob H1 dx<|.own x) x (.ins C dx []) b=some u:=λb u z=>by
  rw[bU<|bJ z zp,bU<|bJ z DN];exact z
 refine⟨x,vs++[],A++B,C,dx,xs,d,rfl,cD,hc.ns,λb hb=>?_,DO,?_,h.len _ _ h2,h2,λH' sm rd=>⟨rfl,q _ H' (λb u z=>?_) rd⟩⟩
 .obtain⟨u,z,n⟩:=W0<|w1 b hb;rw[e0 b u z];exact n
 .rw[uh];refine r1.mono λb u z=>?_
  have z1:=bN _ _ _ _ z;have hb:b∉A++B:=λy=>by rw[jT y]at z;cases z
  rw[cR<|λy=>(Kc.mp y).elim (bJ z1 zp) hb]
  exact e0 b u z1
 .have z1:=s1 _ _ z;exact sm b u (by rw[cR (by simpa using bJ z1 zp)];exact e0 b u z1)
def Ď{K:Frag}{x:Addr} (w:Own A H) (DO:x∉A) (hx:H x=some (.ins C dx [])) (Mv:nsIn K mainGlobals (ofString c)=some (some<|.ref C)) (r:bI K (hide (x::A) H) ds ws) :
  RS K A [x] H (some (Sl.o (.i x c []) [])::(ds.map (λd=>some<|Sl.v d)++List.replicate (N.length-ds.length-1) none)) (L2.start N<|.ref x::ws):=by
 have hl:=r.length;have sh:L2.start N (.ref x::ws)=some (.ref x)::(ws.map some++List.replicate (N.length-ds.length-1) none):=by
  unfold L2.start;rw[Vd,MM,Te,hl];congr 2
 rw[sh];have Rv:∀(i:Nat)(s:Sl),(ds.map (λd=>some<|Sl.v d)++List.replicate (N.length-ds.length-1) none)[i]?=some (some s)->∃d,ds[i]?=some d/\s=.v d:=λi s e=>by
  by_cases hi:i<ds.length
  .rw[Io (by simpa using hi),List.getElem?_map,List.getElem?_eq_getElem hi]at e
   simp at e;exact⟨ds[i],Nf hi,e.symm⟩
  .rw[Tx (by simpa using hi),List.getElem?_replicate]at e
   split at e<;>simp at e
 refine⟨by simp[hl],λb hb=>?_,λb hb=>by rw[Ce.mp hb];exact DO,λi d e=>?_,λi k xs e=>?_⟩
 .rcases Hh.mp hb with hb|hb
  .rw[Ce.mp hb,hx];rfl
  .exact w b hb
 .cases i with
  |zero=>simp at e
  |succ i=>
   rw[Zx]at e;obtain⟨d',e1,e2⟩:=Rv i _ e;cases e2;obtain⟨v,hv,rv⟩:=r.get e1;refine⟨v,?_,rv⟩;have hi:i<ws.length:=(Og.mp hv).1;rw[Zx,Io (by simpa using hi),List.getElem?_map,hv]
   rfl
 .cases i with
  |zero=>
   simp at e;obtain⟨rfl,rfl⟩:=e;refine⟨x,_,[],rfl,Ce.mpr rfl,hx,⟨rfl,C,dx,[],rfl,Mv,rfl,rfl⟩,.nil,λj k' ys ej _=>?_⟩
   cases j with
   |zero=>rfl
   |succ j=>
    rw[Zx]at ej;obtain⟨_,_,e2⟩:=Rv j _ ej;cases e2
  |succ i=>
   rw[Zx]at e;obtain⟨_,_,e2⟩:=Rv i _ e;cases e2
def bIo{K:Frag} {st:Stmt} {f:Addr} {k:Nat} (F:Zq K x qual st f fd) (S:jd N ps (bM st)) (c:String) (np n:Nat) (bd:Bd) (Om:ps.length=np+1) (hn:N.length=n)
  (hb:∀(Cc:Value)(A:Around)(outer:List Env)(s:Shared)(H:Hp)(E:XK)(B:List Addr),dc k (A.deeper<|envOfC qual (bM st) s.heap.objs.size f Cc)->
   we (sj Ib P w K mg base N qual (bM st) f Cc A outer s H E).Vg (eX st) (tS K B bd)):Aa P w K mg base Ib (k+1) f fd ps (CF K c np<|zo c np n bd):=by
 refine F.ok S (λvs H Q E h=>?_)<|λCc A outer s H vs Q E hr h=>?_
 .obtain⟨y,ws,A,C,dx,ds,d,rfl,_,_,_,_,r,hl,_⟩:=h;rw[Te,r.length,hl,Om]
 .obtain⟨y,ws,A',C,dx,ds,d,rfl,hy,Mv,own,hyA,r,hl,hp,q⟩:=h;refine⟨tS K A' bd,hb Cc A outer s H E A' hr,?_⟩;obtain⟨_,h2⟩:=aU<|IW hp y;obtain⟨fl,We,h3⟩:=R.ma h2;have rs:=Ď (N:=N) (c:=c) own hyA hy Mv r;rw[hl,hn]at rs;refine⟨[y],_,fl,rs,We,?_⟩;cases fl with
  |nx s1=>
   intro A1 ft H1 l rs1;have Sr:(match (s1[0]?:Option (Option Sl)) with|some (some<|.o (.i y' c' ns) xs)=>aW (y'=y) (R.ok<|D.ins c' ns xs)|_=>.bad)=.ok d:=h3
   split at Sr
   .rename_i y' c' ns xs e1;obtain⟨rfl,h4⟩:=aU Sr;cases h4;obtain⟨a,o,vs,e2,m,h5,ko,r5,_⟩:=rs1.lst 0 _ _ e1;have ea:a=y':=ko.1;subst ea;refine q H1 (bG.trans (show bG (hide [a] H) (hide A1 H1) from l)<|bN _ _) ?_
    have:=ko.rep (H:=hide A' H1) (ds:=xs) (by rw[cR<|rs1.vi a m];exact h5)<|r5.mono<|lL λb hb=>Pg _ hb
    exact this
   .cases Sr
  |rt d'=>cases h3
  |bk s1=>cases h3
  |ct s1=>cases h3
def Ŭ(ds:List D)(d:D)(h:zo c np n bd ds=.ok d):ds.length=np:=(aU<|IW h 0).1
def LC(i:Nat) {f':String} {value:Expr} (hc:ClsAt X.K c C) (hn:nM X.K C (ofString f')) (he:PE X value (tI X.K B f)) (hN:X.N[i]?=some x:=by rfl) (hv:Ei X.env.scope x:=by exact ll rfl) (hd:xf x:=by decide)
  (af:kl x:=by decide) (hs:Hj value (some<|.Attribute (.Name x p1) (ofString f') p2) pos.line X.env:=by rfl) :
  PS X (.Assign [.Attribute (.Name x p1) (ofString f') p2] value pos) (tS X.K B<|au i c f' f):=by
 refine gU (bL7 (tE hN hv hd af) he hs) ?_
 rintro Dn σ H ⟨A,st,r,rs,hr,p⟩;obtain⟨d,hd,h3⟩:=R.ma hr;split at h3
 .rename_i n c' ns xs e1;obtain⟨⟨ec,hf,Pc⟩,h4⟩:=aU h3;subst ec;cases h4;obtain⟨l,o,vs,e2,m,h1,ko,q,u⟩:=rs.lst i _ _ e1;obtain⟨el,C',dx,fs,rfl,k1,k2,rfl⟩:=ko;have:C'=C:=by have z:=k1.symm.trans hc.ns;injection z with z;injection z with z;injection z
  subst this;refine⟨A,st,d,rs,hd,λy H1 s1 r1=>⟨.ref l,e2,l,C',dx,fs,rfl,s1 _ _ h1,hc.cl,hn,?_,?_⟩⟩
  .have:=congrArg List.length k2;rw[Yd,Yd]at this;omega
  .rw[HV k2 hf];obtain⟨w1,w2⟩:=(rs.mono s1).write e1 e2 (k1:=.i n c'<|ns++[f']) (o':=.ins C' dx<|fs++[(ofString f',y)]) (ds:=xs++[d]) (Fg:=fs.map (·.2)++[y]) ⟨el,C',dx,_,rfl,k1,by rw[Qj,Qj,k2];rfl,by rw[Qj];rfl⟩ ((q.mono<|bG.hide s1).append<|.cons r1 .nil)
   exact p A _ _ ((Le.of s1).trans w2) w1
 .cases h3
def ir:PS X sm (tS X.K B qO):=λ_ _ _ _ _ _ ⟨_,_,_,_,h,_⟩=>nomatch h
end
section
variable {iter c:Expr} {t:Tg} {u:Ex}
def JT{s3:Shared}{fp:List Addr}{p:Addr}{m5:Str->Option Value} (hN:X.N.Nodup) (hi:X.N[i]?=some x) (hx:Loc X.env.scope x)
  (hf:Vl X x) (hC:s3.heap.objs.size<=C) (I3:ya X aa σ H3 s3) (Ti:∀b∈fp,Mj X aa H3 b) (I5:ya (cM X scope C s3 H3 fp) [] τ H5 s5) (Cj:s5.heap.Ns C m5)
  (hQ:∀s',ya X aa (σ.set i<|some<|.ref p) H5 s'->Qf .none s'):compPost (model X.prog X.w) X.A X.xe (some<|assign (.Name x px) X.env) Qf (.ref p) C (.ok .next) s5:=by
 have Yv:ya X aa σ H5 {s5 with heap:=s5.heap}:=Bw I3 Ti hC I5<|.refl ..
 have lt:∀b o,s3.heap.get? b=some o->C≠b:=λb o e z=>Oi _<|Ig (Ud<|z ▸ e) hC
 have hL:C≠X.env.locals:=λz=>Oi _<|Ig (z ▸ I3.lt) hC
 have hc:∀y c,X.env.cells.lookup y=some c->c≠C:=λy c e=>by
  obtain⟨v,o,ho,_⟩:=I3.cell y c e;exact(lt c o ho).symm
 have hp:∀q∈X.pn++aa,q.1≠C:=λq hq=>(lt q.1 q.2 (I3.pin q hq).1).symm
 show wpAny _ X.A (assign (.Name x px) X.env<|.ref p) _ _ _;refine wpAny_assign_Name<|DS (v:=.ref p) Yv hN hi hx rfl (λs6 I6 ⟨a,hs,ha⟩=>?_) hf
 have hCa:C≠a:=by
  rcases ha with z|z
  .rw[z];exact hL
  .exact(hc x a z).symm
 refine⟨m5,Cj.sameBut hs hCa,λh' xp=>hQ _ ?_⟩
 exact I6.turned (t':=s6.toks) (λb o hb e=>(xp.2 b hb).trans e) (show H5 C=none from I5.free) hL (.inr<|bf I3.sz hC) hc hp
def MK{x:Str}{Xm:Pos}{is:List Nat}(hi:L2.PI X tg iter (Xl X.K B it))(hg:∀(B:List Addr)(C:Addr)(Ba:Shared)(Ka:Hp)(fp:List Addr),PG (cM X scope C Ba Ka fp) tg<|tG X.K B t)
  (he:∀(B:List Addr)(C:Addr)(Ba:Shared)(Ka:Hp)(fp:List Addr),PE (cM X scope C Ba Ka fp) elt<|tI X.K B f) (hc:X.calm=true:=by rfl) (hsub:gq is t:=by exact qu) (S:Tc X scope is:=by exact .of rfl) (hN:X.N.Nodup:=by assumption) (yi:X.N[i]?=some x:=by rfl) (hx:Loc X.env.scope x:=by exact Ip rfl)
  (Qm:swapsWith (.ListComp elt [⟨tg,iter,[],0⟩] scope pos) (some<|.Name x px) Xm.line X.env=pure true:=by rfl)
  (hf:Vl X x:=by first|exact .inl rfl|exact .inr rfl|assumption) (hs:∀x,foldedSetIterable iter X.env x=pure x:=by intro _;rfl) :
  PS X (.Assign [.Name x px] (.ListComp elt [⟨tg,iter,[],0⟩] scope pos) Xm) (tS X.K B<|cC i<|cN is t it dB f):=by
 intro aa s σ H Dn I h;obtain⟨A,st,r,rs,hr,q⟩:=h;obtain⟨d,hd,h3⟩:=R.ma hr;cases h3;obtain⟨xs,Sm,h2⟩:=R.ma hd;obtain⟨hl,h3⟩:=aU h2;obtain⟨ys,hy,h4⟩:=R.ma h3;cases h4;rw[exec_Assign_Name_used _ _ _ _ Qm];refine Ja<|Wu<|Ja ?_;show wpAny _ X.A (do let _ <- comprehension (.ListComp elt [⟨tg,iter,[],0⟩] scope pos) scope X.env _ (newList []) false (eval iter X.env) (some<|assign (.Name x px) X.env)) _ _ s
 refine Ja<|Kk (Q:=λ_ s'=>SP X aa Dn .next s') ?_ (λ_ s' hq=>Zb<|Zb hq) λ_ _ e=>e
 refine uV (use:=some<|assign (.Name x px) X.env) (Qf:=λ_ s'=>SP X aa Dn .next s') (Q:=λv H'=>Dn.nx (σ.set i<|some v) H') (tt:=LB) (te:=Xn X.K f) (rest:=λenv it p=>eval elt env >>= λx=>call (.builtin "list.append") [p,x] >>= λ_=>again<|.compLoop (.ListComp elt [⟨tg,iter,[],0⟩] scope pos) 0 it p env) S hc hi (λC Ba Ka fp=>Du λB=>hg B C Ba Ka fp) (λ_ _ _=>rA)
  (λC Ba Ka fp it p s Q h=>JL (Y:=cM X scope C Ba Ka fp) h) (λC Ba Ka fp it p τ H s aa vs N Q I h q=>kL (Y:=cM X scope C Ba Ka fp) rfl (Cu λB=>he B C Ba Ka fp) τ H s aa vs N Q I h (λQ Q' m h=>zA Q Q' m h) q) hs I
  (su hsub (λτ H Q ⟨B,A,st,k,rs,hk,q⟩=>?_) rs Sm hl hy λp vs H1 H' s1 hp s2 hv r=>IC (Q:=λv H'=>Dn.nx (σ.set i<|some v) H') rs (λv H' sm rv=>q A _ H' (Le.of sm)<|(rs.mono sm).set i rv) s1 hp s2 hv r) λC p H5 s5 m5 s3 H3 fp τ hC I3 Ti I5 Cj q5=>JT hN yi hx hf hC I3 Ti I5 Cj λs' I'=>⟨_,_,I',q5⟩
 cases hk;exact q H<|bG.refl _
def zB{x:Str}{Xm:Pos}{is:List Nat}(hi:L2.PI X tg iter (Xl X.K B it))(hg:∀(B:List Addr)(C:Addr)(Ba:Shared)(Ka:Hp)(fp:List Addr),PG (cM X scope C Ba Ka fp) tg<|tG X.K B t)
  (ht:∀(B:List Addr)(C:Addr)(Ba:Shared)(Ka:Hp)(fp:List Addr),PT (cM X scope C Ba Ka fp) c<|tT X.K B u)
  (he:∀(B:List Addr)(C:Addr)(Ba:Shared)(Ka:Hp)(fp:List Addr),PE (cM X scope C Ba Ka fp) elt<|tI X.K B f) (hc:X.calm=true:=by rfl) (hsub:gq is t:=by exact qu) (S:Tc X scope is:=by exact .of rfl) (hN:X.N.Nodup:=by assumption) (yi:X.N[i]?=some x:=by rfl) (hx:Loc X.env.scope x:=by exact Ip rfl)
  (Qm:swapsWith (.ListComp elt [⟨tg,iter,[c],0⟩] scope pos) (some<|.Name x px) Xm.line X.env=pure true:=by rfl)
  (hf:Vl X x:=by first|exact .inl rfl|exact .inr rfl|assumption) (hs:∀x,foldedSetIterable iter X.env x=pure x:=by intro _;rfl) :
  PS X (.Assign [.Name x px] (.ListComp elt [⟨tg,iter,[c],0⟩] scope pos) Xm) (tS X.K B<|cC i<|cN is t it u f):=by
 intro aa s σ H Dn I h;obtain⟨A,st,r,rs,hr,q⟩:=h;obtain⟨d,hd,h3⟩:=R.ma hr;cases h3;obtain⟨xs,Sm,h2⟩:=R.ma hd;obtain⟨hl,h3⟩:=aU h2;obtain⟨ys,hy,h4⟩:=R.ma h3;cases h4;rw[exec_Assign_Name_used _ _ _ _ Qm];refine Ja<|Wu<|Ja ?_;show wpAny _ X.A (do let _ <- comprehension (.ListComp elt [⟨tg,iter,[c],0⟩] scope pos) scope X.env _ (newList []) false (eval iter X.env) (some<|assign (.Name x px) X.env)) _ _ s
 refine Ja<|Kk (Q:=λ_ s'=>SP X aa Dn .next s') ?_ (λ_ s' hq=>Zb<|Zb hq) λ_ _ e=>e
 exact uV (use:=some<|assign (.Name x px) X.env) (Qf:=λ_ s'=>SP X aa Dn .next s') (Q:=λv H'=>Dn.nx (σ.set i<|some v) H') (tt:=Kz X.K u) (te:=Xn X.K f) (rest:=λenv it p=>isTrue c env (eval c env) >>= λok=>if ok=true then (eval elt env >>= λx=>call (.builtin "list.append") [p,x] >>= λ_=>again<|.compLoop (.ListComp elt [⟨tg,iter,[c],0⟩] scope pos) 0 it p env) else again (.compLoop (.ListComp elt [⟨tg,iter,[c],0⟩] scope pos) 0 it p env)) S hc hi (λC Ba Ka fp=>Du λB=>hg B C Ba Ka fp) (λ_ _ _=>rA)
  (λC Ba Ka fp it p s Q h=>KL (Y:=cM X scope C Ba Ka fp) h) (λC Ba Ka fp it p τ H s aa vs N Q I h q=>nL (Y:=cM X scope C Ba Ka fp) rfl (Cu λB=>he B C Ba Ka fp) (LL λB=>ht B C Ba Ka fp) τ H s aa vs N Q I h (λ_ Q Q' m h=>zA Q Q' m h) q) hs I
  (su hsub (λτ H Q h=>h) rs Sm hl hy λp vs H1 H' s1 hp s2 hv r=>IC (Q:=λv H'=>Dn.nx (σ.set i<|some v) H') rs (λv H' sm rv=>q A _ H' (Le.of sm)<|(rs.mono sm).set i rv) s1 hp s2 hv r) λC p H5 s5 m5 s3 H3 fp τ hC I3 Ti I5 Cj q5=>JT hN yi hx hf hC I3 Ti I5 Cj λs' I'=>⟨_,_,I',q5⟩
end
structure Pa(K:Frag)(x qual:Str)(st:Stmt)(dV:Value)(f:Addr)(fd:FuncData):Prop where
 ex:∃(oc:Value)(od:Option Addr)(kV doc pm:Value)(an:Option Addr)(Cc ct:Value) (Ai:Array (Option Value)),
  fd=fnOf x qual (jQ st) (eX st) (bM st) dV kV doc pm an Cc ct/\K.lookup f=some ⟨oc,od,.func fd,Ai⟩/\codeIn K Cc qual=true
 kp:keepIn K (.ref f)=true
section
variable {K:Frag} {st:Stmt} {f:Addr} {k:Nat}
def PB{od:Option Addr}{kV:Value} (l:K.lookup f=some ⟨oc,od,.func<|fnOf x qual (jQ st) (eX st) (bM st) dV kV doc pm an Cc ct,Ai⟩)
  (c:codeIn K Cc qual=true) (k:keepIn K (.ref f)=true):Pa K x qual st dV f (fnOf x qual (jQ st) (eX st) (bM st) dV kV doc pm an Cc ct):=⟨⟨oc,od,kV,doc,pm,an,Cc,ct,Ai,rfl,l,c⟩,k⟩
def Pa.fh(F:Pa K x qual st .none f fd)
  (h:∀(kV doc pm:Value)(an:Option Addr)(Cc ct:Value)(us:List Value),us.length=ps.length->bindArgs (fnOf x qual (jQ st) (eX st) (bM st) .none kV doc pm an Cc ct) ⟨us,[]⟩=pure (ps.zip us)):Binds K fd ps []:=by
 obtain⟨oc,od,kV,doc,pm,an,Cc,ct,Ai,rfl,lk,af⟩:=F.ex;exact .all<|h kV doc pm an Cc ct
def Pa.Tn(F:Pa K x qual st dV f fd)(S:jd N ps (bM st))(len:∀vs H Q E,sp vs H Q E->vs.length=ps.length)
  (Ri:∀(Cc:Value)(A:Around)(outer:List Env)(s:Shared)(H:Hp)(vs:List V)(Q:VK)(E:XK),dc k (A.deeper<|envOfC qual (bM st) s.heap.objs.size f Cc)->sp vs H Q E->
   ∃t,we (sj Ib P w K mg base N qual (bM st) f Cc A outer s H E).Vg (eX st) t/\t {nx:=λ_ H'=>Q .lc H',rt:=Q} (L2.start N vs) H):Aa P w K mg base Ib (k+1) f fd ps sp:=by
 obtain⟨oc,od,kV,doc,pm,an,Cc,ct,Ai,rfl,lk,af⟩:=F.ex;refine UK lk af S len λA outer s H vs Q E hr hsp=>?_
 obtain⟨t,h,q⟩:=Ri Cc A outer s H vs Q E hr hsp;exact⟨t,h.Vg,q⟩
def E1(F:Pa K x qual st dV f fd)(S:jd N ps (bM st))(np n:Nat)(bd:Bd)(Om:ps.length=np)(hn:N.length=n)
  (hb:∀(Cc:Value)(A:Around)(outer:List Env)(s:Shared)(H:Hp)(E:XK)(B:List Addr),dc k (A.deeper<|envOfC qual (bM st) s.heap.objs.size f Cc)->
   we (sj Ib P w K mg base N qual (bM st) f Cc A outer s H E).Vg (eX st) (tS K B bd)):Aa P w K mg base Ib (k+1) f fd ps (jc K np<|bV np n bd):=by
 refine F.Tn S (λvs H Q E h=>?_)<|λCc A outer s H vs Q E hr h=>?_
 .obtain⟨A,ds,d,own,r,hl,_⟩:=h;rw[r.length,hl,Om]
 .obtain⟨B,ds,d,own,r,hl,hp,q⟩:=h;refine⟨tS K B bd,hb Cc A outer s H E B hr,?_⟩;obtain⟨_,h2⟩:=aU hp;obtain⟨fl,We,h3⟩:=R.ma h2;have rs:=YA (N:=N) own r;rw[hl,hn]at rs;refine⟨[],_,fl,rs,We,?_⟩;have fin:∀{A':List Addr}{H':Hp},Le [] H A' H'->bG H H':=λ{A' H'} l=>by
   unfold Le at l;rw[vP]at l;exact l.trans<|bN _ _
  cases fl with
  |nx s1=>
   cases h3;exact λA' Eb H' l rs'=>q _ H' (fin l)<|rQ.mpr rfl
  |rt d'=>
   cases h3;exact λA' v H' l rv=>q v H' (fin l)<|rv.mono<|lL λa ha=>Pg _ ha
  |bk s1=>exact nomatch h3
  |ct s1=>exact nomatch h3
def uc.of{m:String} {ds:List Value} (hc:ClsAt K c C) (hm:Meth K C (ofString m) f) (F:Aa P w K mg base Ib k f fd ps (jc K np<|bV np n bd)) (b:Binds K fd ps ds) (v:Ca Xd ds) (r:∀H,bI K H dv Xd):uc P w K mg base c m k np dv (bV np n bd):=
 ⟨⟨C,f,fd,ps,Xd,ds,hc,hm,F,b,v,r⟩,ZA⟩
end
end Pu
namespace Pu
open PySem PySem.Spec PyProof.Rows L2 PySem.SeqAt
section
variable {a b o:Expr} {r:ue}
def Â:lU X (.type "list") (λvs H Q=>∃l xs,vs=[.ref l]/\(Ae X.K H l xs\/Zg X.K H l xs)/\∀n,H n=none->Q (.ref n) (Ob H n<|.lst xs)):=by
 intro aa s σ H vs us Q I r h;obtain⟨l,xs,rfl,hl,q⟩:=h;obtain⟨u,rfl,ru⟩:=r.one;obtain rfl:u=Value.ref l:=ru;rcases hl with hl|hl
 .obtain⟨Sa,rv,⟨ob,n,e,hc,_,hd⟩,hz⟩:=I.list hl;refine call_list_seq l (T:="list") (.inl rfl) e hc hd (λh' c' k hn=>?_) (by rw[rv.length]at hz;simpa using hz)
  exact⟨.ref s.heap.objs.size,_,I.laid (o:=.lst xs) (t':=s.toks) k (Zc _) ⟨hz,Sa,c',rv,hn⟩,rfl,q _<|I.ib.fresh<|Zc _⟩
 .obtain⟨Sa,rv,⟨ob,e,hc,n,hd⟩,hz⟩:=I.tuple hl;refine call_list_seq l (T:="tuple") (.inr rfl) e hc hd (λh' c' k hn=>?_) (by rw[rv.length]at hz;simpa using hz)
  exact⟨.ref s.heap.objs.size,_,I.laid (o:=.lst xs) (t':=s.toks) k (Zc _) ⟨hz,Sa,c',rv,hn⟩,rfl,q _<|I.ib.fresh<|Zc _⟩
def Wt(hm:X.mg "list"=none)(ha:PE X a (tP X.K B f))(hg:Gl X "list":=by rfl)(hs:Lf a [] X.env:=by rfl):PE X (.Call (.Name "list" p0) [a] [] pos) (tI X.K B<|e1 aq f):=by
 refine cP (yE Â hg hm (by rfl) (cJ ha gM hs) (he:=hs)) ?_
 rintro σ H Q ⟨A,st,d,rs,hd,q⟩;obtain⟨x,hx,h2⟩:=R.ma hd;refine⟨A,st,x,rs,hx,λv H1 s1 r1=>?_⟩
 cases x<;>first|(cases h2;done)|skip
 .cases h2;obtain⟨l,vs,e,h3,r3⟩:=r1.tup;exact⟨l,vs,by rw[e],.inr h3,λn hn=>q _ _ (s1.trans<|cL hn)<|kJ (rs.own.mono s1) hn r3⟩
 .cases h2;obtain⟨l,vs,e,h3,r3⟩:=r1.lst;exact⟨l,vs,by rw[e],.inl h3,λn hn=>q _ _ (s1.trans<|cL hn)<|kJ (rs.own.mono s1) hn r3⟩
theorem WX:∀{l:List Bool}{us:List Value},Ca (l.map V.bl) us->us=l.map Value.bool
 |[],_,.nil=>rfl
 |b::l,_,.cons r t=>by
  rw[WX t];cases r;rfl
def ď(hc:X.calm=true):lU X (.builtin "all") (λvs H Q=>∃(l:Addr)(bs:List Bool),vs=[.ref l]/\Ae X.K H l (bs.map V.bl)/\Q (.bl<|bs.all id) H):=by
 intro aa s σ H vs us Q I r h;obtain⟨l,bs,rfl,hl,q⟩:=h;obtain⟨u,rfl,ru⟩:=r.one;obtain rfl:u=Value.ref l:=ru;obtain⟨Sa,rv,⟨ob,n,e,Pn,_,hd⟩,hz⟩:=I.list hl;have ei:=WX rv;have ZE:s.heap.IsList l Sa.toArray:=⟨ob,e,Pn,n,hd⟩;have hlt:l<s.heap.objs.size:=Ud e;refine call_all_walk<|dE ZE ⟨s.heap.objs.size,_,_,_,_,_,λi=>bs[i]?.getD false,rfl,Walks.list (A:=X.A.in1) (I.ok.hd hc) _ l (Cf hlt) Sa.toArray,⟨⟨_,Vf _ rfl,rfl,rfl⟩,ZE.push _⟩,?_,λh' tk k=>?_⟩
 .intro i v s' Q' E' hv hq;rw[ei]at hv;simp only[List.getElem?_toArray,List.getElem?_map,Option.map_eq_some_iff]at hv;obtain⟨b,hb,rfl⟩:=hv;have gf:Q' (bs[i]?.getD false) s':=hq;rw[hb]at gf;exact Zb gf
 .refine⟨.bl<|bs.all id,H,I.kept<|λb u z=>k b u (λhb=>?_)<|ud _ z,?_,q⟩
  .have:=Ce.mp hb;exact Oi _<|this ▸ Ud z
  .show Value.bool _=Value.bool _;congr 1;rw[ay,Ru,Ru];have hsz:Sa.toArray.size=bs.length:=by rw[ei];simp
   rw[hsz];constructor
   .intro h x hx;obtain⟨i,hi,rfl⟩:=Ux.mp hx;have:=h i<|Se.mpr hi;rw[Nf hi]at this;exact this
   .intro h i hi;have yi:=Se.mp hi;rw[Nf yi];exact h _<|Oj yi
theorem XX{K:Frag}{H:Hp}:∀{l:List Bool}{vs:List V},bI K H (l.map D.bl) vs->vs=l.map V.bl
 |[],vs,h=>dU.mp h
 |b::l,vs,h=>by
  obtain⟨v,r,rfl,h1,h2⟩:=bZ.mp h;rw[XX h2,cU.mp h1];rfl
def eD(hm:X.mg "all"=none)(hc:X.calm=true)(ha:PE X a (tP X.K B f))(hg:Gl X "all":=by rfl)(hs:Lf a [] X.env:=by rfl):PE X (.Call (.Name "all" p0) [a] [] pos) (tI X.K B<|e1 Dl f):=by
 refine cP (nZ (ď hc) hg hm (by rfl) (cJ ha gM hs) (he:=hs)) ?_
 rintro σ H Q ⟨A,st,d,rs,hd,q⟩;obtain⟨x,hx,h2⟩:=R.ma hd;refine⟨A,st,x,rs,hx,λv H1 s1 r1=>?_⟩
 cases x<;>first|(cases h2;done)|skip
 obtain⟨bs,h3,h4⟩:=R.ma h2;cases h4;obtain⟨l,vs,e,h5,r5⟩:=r1.lst;rw[XY h3]at r5;rw[XX r5]at h5;exact⟨l,bs,by rw[e],h5,q _ H1 s1<|cU.mpr rfl⟩
theorem IV:∀{l:List Int}{us:List Value},Ca (l.map V.int) us->∃ps:List (Int×Tok),us=ps.map (λp=>Value.int p.1 p.2)/\ps.map (·.1)=l
 |[],_,.nil=>⟨[],rfl,rfl⟩
 |b::l,_,.cons r t=>by
  obtain⟨ps,e,e2⟩:=IV t;obtain⟨t,rfl⟩:=r;exact⟨(b,t)::ps,by rw[e];rfl,by rw[Vd,e2]⟩
def JV{ps:List (Int×Tok)} (hi:i<ps.length):numAt ps.toArray i=(ps.map (·.1))[i]'(by simpa using hi):=by
 unfold numAt;rw[RL,Nf hi];simp
def Đ(hc:X.calm=true):lU X (.builtin "max") (λvs H Q=>∃(l:Addr)(is:List Int),vs=[.ref l]/\Ae X.K H l (is.map V.int)/\0<is.length/\Q (.int<|El is) H):=by
 intro aa s σ H vs us Q I r h;obtain⟨l,is,rfl,hl,hp,q⟩:=h;obtain⟨u,rfl,ru⟩:=r.one;obtain rfl:u=Value.ref l:=ru;obtain⟨Sa,rv,⟨ob,n,e,Pn,_,hd⟩,hz⟩:=I.list hl;obtain⟨ps,ei,e2⟩:=IV rv;have Pc:ps.length=is.length:=by rw[<-e2,Yd]
 have ZE:s.heap.IsList l (intItems ps.toArray):=⟨ob,e,Pn,n,by rw[hd,ei];simp[intItems]⟩
 refine max_intList (I.ok.hd hc) ZE (by simpa [Pc] using hp) λv h' tk hv k=>?_
 obtain⟨t,rfl⟩:=intItems_at hv;refine⟨.int<|El is,H,I.kept k,⟨t,?_⟩,q⟩;congr 1;have hs:ps.toArray.size=ps.length:=rfl;rw[hs];obtain⟨h1,h2⟩:=argBest_gt (numAt ps.toArray)<|ps.length-1;have hb:argBest (λi j=>decide (numAt ps.toArray i>numAt ps.toArray j)) (ps.length-1)<ps.length:=by omega
 refine(uw ?_ λx hx=>?_).symm
 .rw[JV hb,<-e2];exact Oj _
 .rw[<-e2]at hx;obtain⟨i,hi,rfl⟩:=Ux.mp hx;have yi:i<ps.length:=by simpa using hi
  rw[<-JV yi];exact h2 i (by omega)
theorem GI{K:Frag}{H:Hp}:∀{l:List Int}{vs:List V},bI K H (l.map D.int) vs->vs=l.map V.int
 |[],vs,h=>dU.mp h
 |b::l,vs,h=>by
  obtain⟨v,r,rfl,h1,h2⟩:=bZ.mp h;rw[GI h2,bR.mp h1];rfl
def F1(hm:X.mg "max"=none)(hc:X.calm=true)(ha:PE X a (tP X.K B f))(hg:Gl X "max":=by rfl)(hs:Lf a [] X.env:=by rfl):PE X (.Call (.Name "max" p0) [a] [] pos) (tI X.K B<|e1 ox f):=by
 refine cP (nZ (Đ hc) hg hm (by rfl) (cJ ha gM hs) (he:=hs)) ?_
 rintro σ H Q ⟨A,st,d,rs,hd,q⟩;obtain⟨x,hx,h2⟩:=R.ma hd;refine⟨A,st,x,rs,hx,λv H1 s1 r1=>?_⟩
 cases x<;>first|(cases h2;done)|skip
 obtain⟨is,h3,h4⟩:=R.ma h2;obtain⟨c,h4⟩:=aU h4;cases h4;obtain⟨l,vs,e,h5,r5⟩:=r1.lst;rw[cw h3]at r5;rw[GI r5]at h5;exact⟨l,is,by rw[e],h5,c,q _ H1 s1<|bR.mpr rfl⟩
end
end Pu
namespace Pu
open PySem PySem.Spec PyProof.Rows L2
def Th:List Addr->Heap->Heap
 |[],h=>h
 |a::l,h=>(Th l h).update a λ_=>{cls:=.none,data:=.freed}
def đ(h:Heap)(a:Addr):(h.update a λ_=>{cls:=.none,data:=.freed}).get? a=none:=by
 cases h with
 |mk objs=>
  simp only[Heap.update,Heap.get?,Array.getElem?_modify,if_true];cases objs[a]? <;> rfl
theorem rC{b:Addr}{h:Heap}:∀{l:List Addr},b∈l->(Th l h).get? b=none
 |a::l,hb=>by
  by_cases e:b=a
  .rw[e];exact đ _ _
  .unfold Th;rw[Heap.get?_update_ne _ _ _ _ e];exact rC<|(Kc.mp hb).resolve_left e
theorem QB{b:Addr}{h:Heap}:∀{l:List Addr},b∉l->(Th l h).get? b=h.get? b
 |[],_=>rfl
 |a::l,hb=>by
  unfold Th;rw[Heap.get?_update_ne _ _ _ _ λe=>hb (by rw[e];exact Jb)]
  exact QB λz=>hb<|Qb _ z
def Cw(l:List Addr)(h:Heap):(Th l h).StaysIn h:=λb o e=>by
 by_cases hb:b∈l
 .rw[rC hb]at e;cases e
 .rwa [QB hb]at e
theorem pw{h base:Heap}:∀{l:List Env},h.FunFrames b0 l->(∀L∈De l,base.get? L=none)->h.FunFrames base l
 |[],_,_=>trivial
 |env::l,⟨k,⟨L,o,e1,_,e3,e4⟩,r⟩,hb=>by
  have hL:L∈De (env::l):=by unfold De;rw[E3 e1];exact Jb
  exact⟨k,⟨L,o,e1,hb L hL,e3,e4⟩,pw r λM hM=>hb M<|by unfold De;rw[E3 e1];exact Qb _ hM⟩
structure mn(C:Addr)(h0:Heap)(H:Hp)(e:Addr)(h:Heap):Prop where
 n0:h0.get? e=none
 nH:H e=none
 ex:∃oe vs a0,h.get? e=some oe/\oe.cls=.ref C/\oe.data=.fields vs/\vs[0]?=some a0/\
  (vs[1]?=some .none\/∃T oT ts,vs[1]?=some (.ref T)/\T≠e/\h.get? T=some oT/\oT.data=.fields ts/\ts[3]?=some .none/\h0.get? T=none/\H T=none)
structure qj(C:Addr)(h0:Heap)(H:Hp)(e:Addr)(h:Heap):Prop where
 n0:h0.get? e=none
 nH:H e=none
 ex:∃oe vs a0 T oT ts,h.get? e=some oe/\oe.cls=.ref C/\oe.data=.fields vs/\vs[0]?=some a0/\vs[1]?=some (.ref T)/\T≠e/\h.get? T=some oT/\oT.data=.fields ts/\ts[3]?=some .none/\h0.get? T=none/\H T=none
def qj.T4{e:Addr} (F:qj C h0 H e h):mn C h0 H e h:=by
 obtain⟨n0,nH,oe,vs,a0,T,oT,ts,he,hc,hd,hz,r⟩:=F;exact⟨n0,nH,oe,vs,a0,he,hc,hd,hz,.inr ⟨T,oT,ts,r⟩⟩
def tu(h0:Heap)(H:Hp)(fs:List Addr)(h h':Heap):Prop:=
 ∀b o,h.get? b=some o->((∃o0,h0.get? b=some o0)\/∃u,H b=some u)->(b∉fs->h'.get? b=some o)/\∃sl,h'.get? b=some {o with slots:=sl}
section
variable{A:Around} {e L:Addr} {b0:Heap} {Q:Unit->Shared->Prop}
def Wz{l:List Addr} (Sq:∀b o,h0.get? b=some o->∃o',h.get? b=some o') (hH:∀b u,H b=some u->∃o,h.get? b=some o) (n0:h0.get? e=none) (nH:H e=none)
  (hl:∀b∈l,b=e\/(h0.get? b=none/\H b=none)\/b∈De fl) (f:h'.FunFrames (Th l h) fl) (t:h'.TracedW (Th l h) e (.ref C) a0):qj C h0 H e h':=by
 obtain⟨oe,vs,T,oT,ts,he,⟨hc,hz⟩,hd,h1,tN,Mn,hT,Rl,h3⟩:=t;have:h0.get? T=none/\H T=none:=by
  by_cases hb:T∈l
  .rcases hl T hb with z|z|z
   .exact(Mn z).elim
   .exact z
   .obtain⟨_,o,ho,Qq⟩:=f.mem z;rw[hT]at ho;cases ho;exact(Qq ts Rl).elim
  .rw[QB hb]at tN;refine⟨?_,?_⟩
   .cases q:h0.get? T with
    |none=>rfl
    |some o=>obtain⟨o',z⟩:=Sq T o q;rw[tN]at z;cases z
   .cases q:H T with
    |none=>rfl
    |some u=>obtain⟨o',z⟩:=hH T u q;rw[tN]at z;cases z
 exact⟨n0,nH,oe,vs,a0,T,oT,ts,he,hc,hd,hz,h1,Mn,hT,Rl,h3,this⟩
def mB{l:List Addr} (hl:∀b∈l,(h0.get? b=none/\H b=none)\/b∈De fl) (f:h.FunFrames bb fl) (k1:(Th l h).StaysIn h')
  (k4:∀b o,h.get? b=some o->(∀vs,o.data≠.fields vs)->∃sl,h'.get? b=some {o with slots:=sl}):tu h0 H (De fl) h h':=λb o e hb=>by
 have hk:b∉De fl->h'.get? b=some o:=λhn=>k1 b o (by
  rw[QB λz=>?_];exact e
  rcases hl b z with ⟨q1,q2⟩|q
  .rcases hb with ⟨o0,z⟩|⟨u,z⟩
   .rw[q1]at z;cases z
   .rw[q2]at z;cases z
  .exact hn q)
 refine⟨hk,?_⟩
 by_cases hn:b∈De fl
 .obtain⟨_,o',ho,Qq⟩:=f.mem hn;rw[e]at ho;cases ho;exact k4 b o e Qq
 .exact⟨o.slots,hk hn⟩
def Ē(hfr:A.frames=some (env::outer))(hl:s.heap.FunFrames b0 (env::outer))(hf:env.frame=some L)(Sq:∀b o,h0.get? b=some o->∃o',s.heap.get? b=some o')(hH:∀b u,H b=some u->∃o,s.heap.get? b=some o)
  (F:mn C h0 H e s.heap) (hQ:∀h',mn C h0 H e h'->tu h0 H (De<|env::outer) s.heap h'->Q () {s with heap:=h'}):wpAny M A (leaving env<|.ref e) Q E s:=by
 obtain⟨n0,nH,oe,vs,a0,he,hc,hd,hz,ht⟩:=F;rcases ht with ht|⟨T,oT,ts,h1,Mn,hT,Rl,h3,nT,Cp⟩
 .have Bj:∀L∈De (env::outer),(Th (e::De (env::outer)) s.heap).get? L=none:=λL hL=>rC (Qb _ hL)
  refine wpAny_leaving_firstW (base:=Th (e::De (env::outer)) s.heap) hfr (pw hl Bj) hf he (Cw _ _) (rC Jb) hd ht hz λh' ⟨k1,k2,k3,k4⟩=>?_
  rw[hc]at k3;refine hQ h' (Wz (h:=s.heap) Sq hH n0 nH (λb hb=>?_) k2 k3).T4<|mB (λb hb=>?_) hl k1 k4
  .exact(Kc.mp hb).elim .inl λz=>.inr<|.inr z
  .exact(Kc.mp hb).elim (λz=>.inl<|by rw[z];exact⟨n0,nH⟩) .inr
 .have Bj:∀L∈De (env::outer),(Th (e::T::De (env::outer)) s.heap).get? L=none:=λL hL=>rC (Qb _<|Qb _ hL)
  refine wpAny_leaving_nextW (base:=Th (e::T::De (env::outer)) s.heap) (cls:=.ref C) (a0:=a0) hfr (pw hl Bj) hf ⟨oe,vs,T,oT,ts,he,⟨hc,hz⟩,hd,h1,rC<|Qb _ Jb,Mn,hT,Rl,h3⟩ (Cw _ _) (rC Jb) λh' ⟨k1,k2,k3,k4⟩=>?_
  refine hQ h' (Wz (h:=s.heap) Sq hH n0 nH (λb hb=>?_) k2 k3).T4<|mB (λb hb=>?_) hl k1 k4
  .rcases Kc.mp hb with z|hb
   .exact .inl z
   .exact(Kc.mp hb).elim (λz=>.inr<|.inl<|by rw[z];exact⟨nT,Cp⟩) λz=>.inr<|.inr z
  .rcases Kc.mp hb with z|hb
   .exact .inl (by rw[z];exact⟨n0,nH⟩)
   .exact(Kc.mp hb).elim (λz=>.inl<|by rw[z];exact⟨nT,Cp⟩) .inr
def ŭ(hfr:A.frames=some (env::outer))(hl:s.heap.FunFrames b0 (env::outer))(hf:env.frame=some L)(Sq:∀b o,h0.get? b=some o->∃o',s.heap.get? b=some o')(hH:∀b u,H b=some u->∃o,s.heap.get? b=some o)
  (F:mn C h0 H e s.heap) (hQ:∀h',qj C h0 H e h'->tu h0 H (De<|env::outer) s.heap h'->Q () {s with heap:=h'}):wpAny M A (noteFrame (.ref e) env) (λ_ s2=>wpAny M A (setFlight (.ref e) none) Q E s2) E s:=by
 obtain⟨n0,nH,oe,vs,a0,he,hc,hd,hz,ht⟩:=F;have fin:∀(l:List Addr),(∀b∈l,b=e\/(h0.get? b=none/\H b=none)\/b∈De (env::outer))->∀h',Heap.NotedW (Th l s.heap) (env::outer) e (.ref C) a0 (rawInt L) s.heap h'->wpAny M A (setFlight (.ref e) none) Q E {s with heap:=h'}:=by
  intro l d5 h' ⟨k1,k2,k3,k4⟩;refine wpAny_setFlight_noneW (s:={s with heap:=h'}) k1 k2 k3 λh2 m1 m2 m3 m4=>hQ h2 (Wz (h:=s.heap) Sq hH n0 nH d5 m2 m3)<|mB (λb hb=>?_) hl m1 λb o hb Qq=>?_
  .rcases d5 b hb with z|z|z
   .exact .inl (by rw[z];exact⟨n0,nH⟩)
   .exact .inl z
   .exact .inr z
  .obtain⟨sl,z⟩:=k4 b o hb Qq;exact⟨sl,m4 b _ z Qq⟩
 rcases ht with ht|⟨T,oT,ts,h1,Mn,hT,Rl,h3,nT,Cp⟩
 .have Bj:∀L∈De (env::outer),(Th (e::De (env::outer)) s.heap).get? L=none:=λL hL=>rC (Qb _ hL)
  unfold noteFrame;simp only[hf];refine Ja<|Aq he hd ht ?_;rw[gb (by decide)]
  refine wpAny_entryW (base:=Th (e::De (env::outer)) s.heap) hfr (pw hl Bj) hf he (Cw _ _) (rC Jb) hd (JD.mp ht).1 hz λh' N=>?_
  rw[hc]at N;exact fin _ (λb hb=>(Kc.mp hb).elim .inl λz=>.inr<|.inr z) h' N
 .have Bj:∀L∈De (env::outer),(Th (e::T::De (env::outer)) s.heap).get? L=none:=λL hL=>rC (Qb _<|Qb _ hL)
  refine wpAny_noteFrame_onW (base:=Th (e::T::De (env::outer)) s.heap) (cls:=.ref C) (a0:=a0) hfr (pw hl Bj) hf ⟨oe,vs,T,oT,ts,he,⟨hc,hz⟩,hd,h1,rC<|Qb _ Jb,Mn,hT,Rl,h3⟩ (Cw _ _) (rC Jb) λh' N=>?_
  refine fin _ (λb hb=>?_) h' N
  rcases Kc.mp hb with z|hb
  .exact .inl z
  .exact(Kc.mp hb).elim (λz=>.inr<|.inl<|by rw[z];exact⟨nT,Cp⟩) λz=>.inr<|.inr z
def bIp(Sq:∀b o,h0.get? b=some o->∃o',s.heap.get? b=some o')(hH:∀b u,H b=some u->∃o,s.heap.get? b=some o)(F:qj C h0 H e s.heap)
  (hQ:∀h',qj C h0 H e h'->tu h0 H [] s.heap h'->Q () {s with heap:=h'}):wpAny M A (setFlight (.ref e) none) Q E s:=by
 obtain⟨n0,nH,oe,vs,a0,T,oT,ts,he,hc,hd,hz,h1,Mn,hT,Rl,h3,nT,Cp⟩:=F;refine wpAny_setFlight_noneW (base:=Th [e,T] s.heap) (l:=[]) (cls:=.ref C) (a0:=a0) (fl:=.none) (Cw _ _) trivial ⟨oe,vs,T,oT,ts,he,⟨hc,hz⟩,hd,h1,rC (by simp),Mn,hT,Rl,h3⟩ λh2 m1 m2 m3 m4=>hQ h2 (Wz (h:=s.heap) (fl:=[]) Sq hH n0 nH (λb hb=>?_) m2 m3)<|mB (fl:=[]) (bb:=s.heap) (λb hb=>?_) trivial m1 λb o hb Qq=>⟨o.slots,m4 b o hb Qq⟩
 .rcases Kc.mp hb with z|z
  .exact .inl z
  .exact .inr (.inl<|by rw[Ce.mp z];exact⟨nT,Cp⟩)
 .rcases Kc.mp hb with z|z
  .exact .inl (by rw[z];exact⟨n0,nH⟩)
  .exact .inl (by rw[Ce.mp z];exact⟨nT,Cp⟩)
end
def Ω(x:jN P w H h a o):∃ob,h.get? a=some ob:=by
 cases o with
 |lst xs=>obtain⟨_,_,_,_,e⟩:=x;exact⟨_,e⟩
 |tup xs=>obtain⟨_,_,_,ob,e,_⟩:=x;exact⟨_,e⟩
 |dK oa=>obtain⟨_,_,_,_,o,_,_,e,_⟩:=x;exact⟨_,e⟩
 |dT oa=>obtain⟨_,_,_,_,o,_,_,e,_⟩:=x;exact⟨_,e⟩
 |set S n=>obtain⟨o,_,_,_,e,_⟩:=x;exact⟨_,e⟩
 |ins C dx fs=>obtain⟨_,_,_,e,_⟩:=x;exact⟨_,e⟩
 |own y=>obtain⟨_,e⟩:=x;exact⟨_,e⟩
 |xd fs=>obtain⟨_,⟨_,_,_,e,_⟩,_⟩:=x;exact⟨_,e⟩
 |Jp lo hi=>obtain⟨_,_,_,e⟩:=x;exact⟨_,e⟩
 |ij ob u=>obtain⟨e,_⟩:=x;exact⟨_,e⟩
 |Lp ps=>exact⟨_,(show h.get? a=some _ from x)⟩
 |met f y=>exact⟨_,(show h.get? a=some _ from x)⟩
 |ext φ=>obtain⟨_,⟨_,e⟩,_⟩:=x;exact⟨_,e⟩
def AA(x:Ze P w H h):∀b u,H b=some u->∃o,h.get? b=some o:=λb u e=>Ω<|x b u e
def WH{fs:List Addr}(x:Ze P w H h)(m:tu h0 H fs h h')(hf:∀b∈fs,H b=none):Ze P w H h':=λb u e=>by
 refine(x b u e).ph (λc v hc q=>?_) (λ_ q=>q) λ_ _ q=>q
 have ht:∃u,H c=some u:=by
  rcases hc with z|z
  .exact⟨u,by rw[z];exact e⟩
  .exact⟨_,z⟩
 obtain⟨u',hu⟩:=ht;exact(m c v q<|.inr ⟨u',hu⟩).1 λhb=>by rw[hf c hb]at hu;cases hu
def mn.back{e:Addr} (F:mn C h1 H e h) (k:∀b o,h0.get? b=some o->∃o',h1.get? b=some o'):mn C h0 H e h:=by
 have z:∀b,h1.get? b=none->h0.get? b=none:=λb hb=>by
  cases q:h0.get? b with
  |none=>rfl
  |some o=>obtain⟨o',q'⟩:=k b o q;rw[hb]at q';cases q'
 obtain⟨n0,nH,oe,vs,a0,he,hc,hd,hz,ht⟩:=F;refine⟨z _ n0,nH,oe,vs,a0,he,hc,hd,hz,?_⟩;rcases ht with ht|⟨T,oT,ts,kN,Mn,hT,Rl,h3,nT,Cp⟩
 .exact .inl ht
 .exact .inr ⟨T,oT,ts,kN,Mn,hT,Rl,h3,z _ nT,Cp⟩
def kn(P:Program)(w:World):Rp:=λouter H s E e s'=>∃ea C H',e=.ref ea/\s'.os=s.os/\AllBare s'.gens/\Un (De outer) [] H H' s.heap s'.heap/\Ze P w H' s'.heap/\mn C s.heap H' ea s'.heap/\E (.ref C) none H'
def Rx(X:Cx)(W:Addr->L2.St->Hp->Prop):Prop:=∀(aa:List (Addr×Obj)) (σ:L2.St) (H:Hp) (s:Shared) (ea C:Addr) (H':Hp) (s':Shared),ya X aa σ H s->s'.os=s.os->AllBare s'.gens->Un (De X.stack) [] H H' s.heap s'.heap->
 Ze X.prog X.w H' s'.heap->mn C s.heap H' ea s'.heap->W C σ H'->X.xe (.ref ea) s'
def Ů{K:Frag} {f:Addr} {A:Around} {E:XK} :
  Rx (sj (kn P w) P w K mg base N qual scope f cd A outer s0 H0 E) (λC _ H'=>E (.ref C) none H'):=by
 intro aa σ H s ea C H' s' I Nv hb un ib F hE;have J:ya _ aa σ H' s':=I.Fm (ch:=[]) Nv un ib hb λ_ z=>nomatch z
 have th0:∀b o,s0.heap.get? b=some o->∃o',s.heap.get? b=some o':=λb o e=>I.base.there b o e (by intro z;cases z)
 have d6:∀b o,s0.heap.get? b=some o->∃o',s'.heap.get? b=some o':=λb o e=>J.base.there b o e (by intro z;cases z)
 refine Ē (h0:=s0.heap) (L:=s0.heap.objs.size) J.ok.frames J.stack rfl d6 (AA ib) (F.back th0) λh' F' m=>?_
 refine⟨ea,C,H',rfl,J.os,hb,?_,WH ib m J.Wg,F',hE⟩;have nl:∀b o,s0.heap.get? b=some o->b≠s0.heap.objs.size:=λb o e=>Cf<|Ud e
 have nf:∀b o,s0.heap.get? b=some o->b∉De outer->b∉De (envOfC qual scope s0.heap.objs.size f cd::outer):=λb o e hn z=>by
  rcases Kc.mp (show b∈s0.heap.objs.size::De outer from z) with z|z
  .exact nl b o e z
  .exact hn z
 refine⟨λb o e n hb hx=>?_,λb o e n hb hx=>?_,λb o e n hx=>J.base.free b o e n (by intro z;cases z),λb o e hx=>?_,J.base.rh,J.base.Qg,J.base.qh⟩
 .exact(m b o (J.base.keep b o e n hb<|by intro z;cases z)<|.inl ⟨o,e⟩).1 (nf b o e hb)
 .obtain⟨sl,e1⟩:=J.base.slot b o e n hb (by intro z;cases z)
  obtain⟨bt,e2⟩:=(m b _ e1<|.inl ⟨o,e⟩).2;exact⟨bt,e2⟩
 .obtain⟨o',e1⟩:=d6 b o e;obtain⟨bt,e2⟩:=(m b _ e1<|.inl ⟨o,e⟩).2;exact⟨_,e2⟩
def ů{e:Addr}{vs:List Value} (x:Heap.MadeExcOf h h' e (.ref C) vs) (ib:Ze P w H h):mn C h H e h':=by
 obtain⟨t,he,ht,_⟩:=x.there;refine⟨x.new,?_,_,_,_,he,rfl,rfl,rfl,.inl rfl⟩;cases q:H e with
 |none=>rfl
 |some u=>obtain⟨o,z⟩:=AA ib e u q;rw[x.new]at z;cases z
section
variable {t:TA} {W:Addr->L2.St->Hp->Prop}
def Ű{np:Pos}(hL:Rx X W)(hc:ExcAt X.K c C tl)(hm:X.mg (ofString c)=some (.ref C))(Km:X.calm=true)(ha:PA X (e::es) t)(hg:Gl X (ofString c):=by rfl)(Rf:xf (ofString c):=by decide)
  (he:Lf e es X.env:=by rfl) (ff:Ci Ta es X.env:=by rfl) (Pc:(e::es).length<=100:=by decide) :
  PS X (.Raise (some<|.Call (.Name (ofString c) np) (e::es) [] Ta) none pos) (λ_ σ H=>t σ H λvs H'=>vs.length<=100/\W C σ H'):=by
 intro aa s σ H Dn I h;obtain⟨B,newId,kg,Pl,FB,hob⟩:=hc.ob;obtain⟨N,nm,q,bs,hdct,sn,sub,ab,col,dd,k0,k1,k2,k3,k5,mN,hC,hN,WE,T⟩:=hob X.base I.ok.mod.Ej;refine wpAny_Raise_call_subT (C:=C) (nm:=nm) (q:=q) (N:=N) (bs:=bs) (bm:=tl) (hdct:=hdct) (sn:=sn) (sub:=sub) (ab:=ab) (col:=col) (dd:=dd) (k0:=k0) (k1:=k1) (k2:=k2) (k3:=k3) (k5:=k5)
  FB (mN:=mN) (T.hasType FB.hasBase) (I.ok.hd Km) (by rw[he];show (false||(backTo Ta<|starEach es X.env).any (·.1))=false;rw[ff];rfl) WE (vt I hg hm ⟨rfl,?_⟩ Rf)
 have hh:=ha Ta aa s σ H _ I h;rw[he]at hh ⊢;refine VD<|qc hh λus s2 ⟨vs,H2,I2,r2,hv,hw⟩=>⟨rfl,?_,I2.bk _ _ hC,hN.keeps I2.bk,T.keeps I2.bk,λh' ea hx=>?_⟩
 .show us.length<=sizeLine;rw[<-r2.length];exact bf hv (by decide)
 .exact hL aa σ H2 s2 ea C H2 {s2 with heap:=h'} I2 rfl I2.bare (Un.kept hx.keeps) (I2.ib.kept hx.keeps) (ů hx I2.ib) hw
end
def LV{fs:List Addr} (u:Un fs [] H0 H h0 h) (m:tu h0 H gs h h') (hg:∀b∈gs,b∈fs):Un fs [] H0 H h0 h':=by
 have nx:∀b:Addr,b∉([]:List Addr):=λb z=>by cases z
 refine⟨λb o e n hb hx=>?_,λb o e n hb hx=>?_,λb o e n hx=>u.free b o e n hx,λb o e hx=>?_,u.rh,u.Qg,u.qh⟩
 .exact(m b o (u.keep b o e n hb hx)<|.inl ⟨o,e⟩).1 λz=>hb<|hg b z
 .obtain⟨sl,e1⟩:=u.slot b o e n hb hx;obtain⟨bt,e2⟩:=(m b _ e1<|.inl ⟨o,e⟩).2;exact⟨bt,e2⟩
 .obtain⟨o',e1⟩:=u.there b o e hx;obtain⟨bt,e2⟩:=(m b _ e1<|.inl ⟨o,e⟩).2;exact⟨_,e2⟩
structure FS(X:Cx)(aa:List (Addr×Obj))(σ:L2.St)(H:Hp)(ea C:Addr)(s:Shared):Prop where
 ex:∃Hc sc,ya X aa σ Hc sc/\s.os=sc.os/\AllBare s.gens/\Un (De X.stack) [] Hc H sc.heap s.heap/\Ze X.prog X.w H s.heap/\qj C sc.heap H ea s.heap
section
variable{X:Cx}{aa:List (Addr×Obj)}{σ:L2.St}{H:Hp}{ea C:Addr}{s:Shared}
def FS.inv(F:FS X aa σ H ea C s):ya X aa σ H s:=by
 obtain⟨Hc,sc,I,os,bare,un,ib,f⟩:=F.ex;exact I.Fm (ch:=[]) os un ib bare λ_ z=>nomatch z
def FS.there(F:FS X aa σ H ea C s):∃oe,s.heap.get? ea=some oe/\oe.cls=.ref C:=by
 obtain⟨Hc,sc,I,os,bare,un,ib,f⟩:=F.ex;obtain⟨_,_,oe,_,_,_,_,_,he,hc,_⟩:=f;exact⟨oe,he,hc⟩
abbrev held(X:Cx)(ea:Addr):Cx:={X with A:=X.A.mark<|some<|.ref ea,calm:=false,xe:=λ_ _=>False}
def bIq(ok:X.Ok)(ea:Addr):(held X ea).Ok:=
 ⟨ok.mod,ok.kind,ok.glob,ok.blt,ok.above,ok.inj,ok.has,ok.Mr,(λz=>nomatch z),ok.frames,ok.Uv,ok.Av,ok.bs,ok.Em,ok.Fj,ok.yj,ok.og,ok.Zo⟩
def MV(I:ya X aa σ H s)(ea:Addr):ya (held X ea) aa σ H s:=⟨bIq I.ok ea,I.os,I.bare,I.base,I.loc,I.cell,I.free,I.Fe,I.pin,I.ib,I.len⟩
def Xz(ok:X.Ok)(I:ya (held X ea) aa σ H s):ya X aa σ H s:=⟨ok,I.os,I.bare,I.base,I.loc,I.cell,I.free,I.Fe,I.pin,I.ib,I.len⟩
def ē{D:Ends}{f:Flow} (ok:X.Ok) (h:SP (held X ea) aa D f s'):SP X aa D f s':=by
 cases f with
 |next=>obtain⟨Eb,H',I,q⟩:=h;exact⟨Eb,H',Xz ok I,q⟩
 |brk=>obtain⟨Eb,H',I,q⟩:=h;exact⟨Eb,H',Xz ok I,q⟩
 |cont=>obtain⟨Eb,H',I,q⟩:=h;exact⟨Eb,H',Xz ok I,q⟩
 |ret u=>obtain⟨v,Eb,H',I,r,q⟩:=h;exact⟨v,Eb,H',Xz ok I,r,q⟩
def FS.set{A:Around} {Q:Unit->Shared->Prop} (F:FS X aa σ H ea C s) (h:∀s',FS X aa σ H ea C s'->Q () s'):wpAny M A (setFlight (.ref ea) none) Q E s:=by
 obtain⟨Hc,sc,I,os,bare,un,ib,f⟩:=F.ex;refine bIp (λb o e=>un.there b o e<|by intro z;cases z) (AA ib) f λh' f' m=>h _ ⟨Hc,sc,I,os,bare,LV un m (by intro b z;cases z),WH ib m (by intro b z;cases z),f'⟩
end
section
variable{A:Around} {nm q:Str} {N:Addr} {bs bm:List Value} {hdct:Bool} {sn:List Str} {sub:List Value} {ab:Bool} {col:Option Bool} {dd:Option Addr} {k0 k1 k2 k3 k5:Option Value}
variable{Q5 q':Str}{N':Addr}{P4:List Value}{Nq:Bool}{V5:List Str}{Fz:List Value}{IY:Bool}{xy:Option Bool}{gj:Option Addr}{j0 j1 j2 j3 j5:Option Value}{Vm:String}
def N9{g:Array GenState}{d:Drawn}{t:Nat}{os:OsState}{e:Addr}{Q:Bool->Shared->Prop}
  (hC:h.get? C=some (excClassObj nm q C N bs bm hdct sn sub ab col dd k0 k1 k2 k3 k5 newId)) (hD:h.get? D'=some (excClassObj Q5 q' D' N' P4 uy Nq V5 Fz IY xy gj j0 j1 j2 j3 j5 Vm)) (he:h.get? e=some oe) (Lm:oe.cls=.ref C) (fc:uy.contains (.type "BaseException")=true)
  (hq:Q ((Value.ref C::bm).contains<|.ref D') ⟨h,g,d,t,os⟩):wpAny M A (excMatches (.ref e)<|.ref D') Q E ⟨h,g,d,t,os⟩:=by
 have hcB:(Value.ref D' :: uy).contains (.type "BaseException")=true:=by rw[List.contains_cons,fc,TM]
 have f:=tc_notTuple;unfold excMatches;cases hb:(Value.ref C::bm).contains (.ref D') <;> rw[hb]at hq <;>
  repeat (first|(with_reducible refine wpAny_loadPart_at he ?_;rw[Lm])|with_reducible refine wpAny_loadPart_at hD ?_|(with_reducible refine wpAny_isSubtype_exc hD ?_;rw[hcB])|(with_reducible refine wpAny_isSubtype_exc hC ?_;rw[hb])|wp_step)
 .exact hq
 .exact hq
end
def PH(X:Cx)(hs:List ExceptHandler)(t:Addr->TS):Prop:=∀(aa:List (Addr×Obj)) (s:Shared) (σ:L2.St) (H:Hp) (Dn:Ends) (ea C:Addr),FS X aa σ H ea C s->t C Dn σ H->wpAny (model X.prog X.w) X.A (handleBy (.ref ea) X.env hs) (SP X aa Dn) X.xe s
section
variable{X:Cx}
def bIr{d:String} {np:Pos} {Pk:Stmt} {rest:List ExceptHandler} {tr:Addr->TS} (hD:ExcAt X.K d D' uy) (hm:X.mg (ofString d)=some (.ref D')) (hs:∀ea,we (held X ea) (Pk::xk) ts) (hr:PH X rest tr)
  (hg:Gl X (ofString d):=by rfl) (Rf:xf (ofString d):=by decide) :
  PH X (.ExceptHandler (some<|.Name (ofString d) np) none (Pk::xk) pos::rest) (λC Dn σ H=>∃c bm,ExcAt X.K c C bm/\if (Value.ref C::bm).contains (.ref D')=true then ts Dn σ H else tr C Dn σ H):=by
 intro aa s σ H Dn ea C F ⟨c,bm,hC,h⟩;have I:=F.inv;obtain⟨oe,he,Lm⟩:=F.there;obtain⟨B,newId,kg,Pl,FB,hob⟩:=hC.ob;obtain⟨B',Vm,YE,bmB',N7,QN⟩:=hD.ob;obtain⟨N,nm,q,bs,hdct,sn,sub,ab,col,dd,k0,k1,k2,k3,k5,mN,oC,_⟩:=hob s.heap I.tf;obtain⟨N',Q5,q',P4,Nq,V5,Fz,IY,xy,gj,j0,j1,j2,j3,j5,mN',oD,_,_,T'⟩:=QN s.heap I.tf;refine wpAny_handleBy_cons (codeAny_handlers_test<|vt (MV I ea) hg hm ?_ Rf) (by intro q;cases q)
 obtain⟨hp,g,dr,tk,os⟩:=s;refine N9 oC oD he Lm (T'.hasType N7.hasBase) ?_
 split at h
 .rename_i hb;rw[hb];refine codeAny_handlers_suite<|F.set λs' F'=>Kk (hs ea aa s' σ H Dn (MV F'.inv ea) h) (λf s2 z=>ē I.ok z) λ_ _ z=>z.elim
 .rename_i hb;rw[Bool.not_eq_true]at hb;rw[hb];exact hr aa _ σ H Dn ea C F h
def yz(X:Cx)(hs:List ExceptHandler)(aa:List (Addr×Obj))(Dn:Ends)(e:Value)(s1:Shared):Prop:=
 wpAny (model X.prog X.w) X.A (noteFrame e X.env) (λ_ s2=>wpAny (model X.prog X.w) X.A (setFlight e none) (λ_ s3=>wpAny (model X.prog X.w) X.A (handleBy e X.env hs) (SP X aa Dn) X.xe s3) X.xe s2) X.xe s1
abbrev Bo(X:Cx)(pn:List (Addr×Obj))(E:Value->Shared->Prop):Cx:={X with pn:=pn,xe:=E}
def bIs (ok:X.Ok):(Bo X pn E).Ok:=
 ⟨ok.mod,ok.kind,ok.glob,ok.blt,ok.above,ok.inj,ok.has,ok.Mr,ok.hd,ok.frames,ok.Uv,ok.Av,ok.bs,ok.Em,ok.Fj,ok.yj,ok.og,ok.Zo⟩
def ű{σ:L2.St} (I:ya X aa σ H s):ya (Bo X (X.pn++aa) E) [] σ H s:=
 ⟨bIs I.ok,I.os,I.bare,I.base,I.loc,I.cell,I.free,I.Fe,λp hp=>I.pin p (by rw[uh]at hp;exact hp),I.ib,I.len⟩
def vR {σ:L2.St} (ok:X.Ok) (I:ya (Bo X (X.pn++aa) E) nk σ H s):ya X aa σ H s:=
 ⟨ok,I.os,I.bare,I.base,I.loc,I.cell,I.free,I.Fe,λp hp=>I.pin p<|Fh _ hp,I.ib,I.len⟩
def Ĕ{D:Ends}{f:Flow} (ok:X.Ok) (h:SP (Bo X (X.pn++aa) E) [] D f s'):SP X aa D f s':=by
 cases f with
 |next=>obtain⟨Eb,H',I,q⟩:=h;exact⟨Eb,H',vR ok I,q⟩
 |brk=>obtain⟨Eb,H',I,q⟩:=h;exact⟨Eb,H',vR ok I,q⟩
 |cont=>obtain⟨Eb,H',I,q⟩:=h;exact⟨Eb,H',vR ok I,q⟩
 |ret u=>obtain⟨v,Eb,H',I,r,q⟩:=h;exact⟨v,Eb,H',vR ok I,r,q⟩
def bMw{h₀:ExceptHandler}{hs:List ExceptHandler} {tb:(Addr->L2.St->Hp->Prop)->TS} {th:Addr->TS} (Nh:X.stack=X.env::X.outer/\X.env.frame=some X.env.locals)
  (hb:∀(pn:List (Addr×Obj)) (E:Value->Shared->Prop) (W:Addr->L2.St->Hp->Prop),Rx (Bo X pn E) W->we (Bo X pn E) body (tb W)) (hh:PH X (h₀::hs) th) :
  PS X (.Try body (h₀::hs) [] [] pos) (λDn σ H=>tb (λC Eb H'=>th C Dn Eb H') Dn σ H):=by
 intro aa s σ H Dn I h;refine wpAny_Try_except ?_
 have hL:Rx (Bo X (X.pn++aa)<|yz X (h₀::hs) aa Dn) (λC Eb H'=>th C Dn Eb H'):=by
  intro nk Eb Hc sc ea C H' s' J Nv Lq un ib F hW;have J':=vR (aa:=aa) I.ok J;have K':ya X aa Eb H' s':=J'.Fm (ch:=[]) Nv un ib Lq λ_ z=>nomatch z
  have fr:=K'.ok.frames;have sk:=K'.stack;rw[Nh.1]at fr sk;refine ŭ fr sk Nh.2 (λb o e=>un.there b o e<|by intro z;cases z) (AA ib) F λh' F' m=>?_
  have un':Un (De X.stack) [] Hc H' sc.heap h':=LV un m (by rw[Nh.1];exact λ_ z=>z)
  exact hh aa _ Eb H' Dn ea C ⟨Hc,sc,J',Nv,Lq,un',WH ib m (by rw[<-Nh.1];exact K'.Wg),F'⟩ hW
 refine Kk (hb _ _ _ hL [] s σ H Dn (ű I) h) (λf s1 z=>?_) λe s1 z=>z
 have z':=Ĕ I.ok z;cases f with
 |next=>exact Zb z'
 |brk=>exact z'
 |cont=>exact z'
 |ret u=>exact z'
end
abbrev XW:=D->L2.St->Hp->Prop
def Exc(K:Frag)(B A:List Addr)(H:Hp)(sm:Bool)(st:ua)(x:D)(W:XW):Prop:=∀A' st' Eb H',Le A H A' H'->RS K B A' H' st' Eb->(sm=true->st'=st)->W x Eb H'
def Exc.mono{K:Frag} {sm:Bool} {st:ua} {x:D} (l:Le A H A1 H1) (h:Exc K B A H sm st x W):Exc K B A1 H1 sm st x W:=λA' st' Eb H' l'=>h A' st' Eb H'<|l.trans l'
def Exc.any{K:Frag} {sm:Bool}{st:ua} {x:D} (h:Exc K B A H false Dh x W):Exc K B A H sm st x W:=λA' st' Eb H' l r _=>h A' st' Eb H' l r λz=>nomatch z
def Out(K:Frag)(B A:List Addr)(H:Hp)(sm:Bool)(st:ua)(W:XW)(Dn:Ends)(r:R Fl):Prop:=match r with
 |.ok r=>Cr K B A H r Dn
 |.exc x=>Exc K B A H sm st x W
 |.bad=>False
theorem Out.mono{K:Frag}{B A:List Addr}{H H1:Hp}{sm:Bool}{st:ua}{Dn:Ends}{r:R Fl}(l:Le A H A1 H1)(h:Out K B A H sm st W Dn r):Out K B A1 H1 sm st W Dn r:=by
 cases r with
 |ok r=>exact Cr.mono l h
 |exc x=>exact Exc.mono l h
 |bad=>exact h
theorem Out.any{K:Frag}{B A:List Addr}{H:Hp}{sm:Bool}{st:ua}{Dn:Ends}{r:R Fl}(h:Out K B A H false Dh W Dn r):Out K B A H sm st W Dn r:=by
 cases r with
 |ok r=>exact h
 |exc x=>exact Exc.any h
 |bad=>exact h
def Di(K:Frag)(B:List Addr)(sm:Bool)(W:XW)(b:Bd):TS:=λDn σ H=>∃A st,RS K B A H st σ/\Out K B A H sm st W Dn (b st)
def Gz(K:Frag)(B:List Addr)(W:XW)(f:Ex):TE:=λσ H Q=>∃A st,RS K B A H st σ/\(match f st with
 |.ok d=>∀v H',bG H H'->Fb K (hide (A++B) H') d v->Q v H'
 |.exc x=>∀H',bG H H'->W x σ H'
 |.bad=>False)
def Dx(X:Cx)(W:XW):Prop:=Rx X λC σ H'=>∃c bm,ExcAt X.K c C bm/\W (.Sg c [] []) σ H'
section
variable {a b o:Expr} {rest:List Stmt} {W:XW} {s2:Bool}
def G1(h:PS X sm (Di X.K B s1 W bd)):PS X sm (Di X.K B false W bd):=gU h λDn σ H ⟨A,st,rs,q⟩=>⟨A,st,rs,q.any⟩
def bMx(h:PS X sm (tS X.K B bd)):PS X sm (Di X.K B s1 W<|Dz bd):=gU h (by
 rintro Dn σ H ⟨A,st,rs,q⟩;unfold Dz at q;cases hb:bd st with
 |ok r=>rw[hb]at q;exact⟨A,st,r,rs,hb,q⟩
 |exc x=>rw[hb]at q;exact q.elim
 |bad=>rw[hb]at q;exact q.elim)
def bQ7:we X [] (Di X.K B s1 W cO):=wW FW (by
 rintro Dn σ H ⟨A,st,rs,q⟩;exact q A σ H Le.refl rs)
def AL(h1:PS X sm (Di X.K B s1 W bd)):we X [sm] (Di X.K B s1 W bd):=qB h1
def bMy(h1:PS X sm (Di X.K B s1 W bd))(h2:we X rest (Di X.K B s2 W Wj)):we X (sm::rest) (Di X.K B false W<|aY bd Wj):=by
 refine wW (EA h1 h2) ?_
 rintro Dn σ H ⟨A,st,rs,q⟩;refine⟨A,st,rs,?_⟩;unfold aY vm at q;cases hb:bd st with
 |ok r=>
  rw[hb]at q;cases r with
  |nx s1=>exact λA' Eb H' l rs'=>⟨A',s1,rs',(q.mono l).any⟩
  |rt d=>exact q
  |bk s1=>exact q
  |ct s1=>exact q
 |exc x=>rw[hb]at q;exact Exc.any q
 |bad=>rw[hb]at q;exact q
def bRu{c:Expr}{t:Ex}{x y:List Stmt}(hc:PT X c (tT X.K B t))(ha:we X x (Di X.K B s1 W bd))(hb:we X y (Di X.K B s1 W Wj)):PS X (.If c x y pos) (Di X.K B s1 W<|Pd (Ay t) bd Wj):=gU (z0 hc ha hb) (by
 rintro Dn σ H ⟨A,st,rs,q⟩;unfold Pd Ay at q;cases ht:t st with
 |exc x=>rw[ht]at q;exact q.elim
 |bad=>rw[ht]at q;exact q.elim
 |ok d=>
  rw[ht]at q;cases d<;>first|exact q.elim|skip
  rename_i k;refine⟨A,st,k,rs,ht,λH1 s1=>?_⟩
  cases k with
  |true=>exact⟨A,st,rs.mono s1,Out.mono (Le.of s1) q⟩
  |false=>exact⟨A,st,rs.mono s1,Out.mono (Le.of s1) q⟩)
def bQ8(h:PE X e (Gz X.K B W f))(hs:Hj e none pos.line X.env:=by rfl):PS X (.Expr e pos) (Di X.K B true W<|jq f):=gU (wt h hs) (by
 rintro Dn σ H ⟨A,st,rs,q⟩;refine⟨A,st,rs,?_⟩;unfold jq at q;cases hf:f st with
 |ok d=>rw[hf]at q;exact λv H' s _=>q A σ H' (Le.of s)<|rs.mono s
 |exc x=>rw[hf]at q;exact λH' s=>q A st σ H' (Le.of s) (rs.mono s) λ_=>rfl
 |bad=>rw[hf]at q;exact q)
def x_raise{r:ue}{np:Pos}(hL:Dx X W)(hc:ExcAt X.K c C tl)(hm:X.mg (ofString c)=some (.ref C))(Km:X.calm=true)(ha:PA X (e::es) (tA X.K B r))(hg:Gl X (ofString c):=by rfl)(Rf:xf (ofString c):=by decide)
  (he:Lf e es X.env:=by rfl) (ff:Ci Ta es X.env:=by rfl) (Pc:(e::es).length<=100:=by decide) :
  PS X (.Raise (some<|.Call (.Name (ofString c) np) (e::es) [] Ta) none pos) (Di X.K B true W<|ZJ c r):=by
 refine gU (Ű hL hc hm Km ha hg Rf he ff Pc) ?_
 rintro Dn σ H ⟨A,st,rs,q⟩;unfold ZJ at q;cases hr:r st with
 |exc x=>rw[hr]at q;exact q.elim
 |bad=>rw[hr]at q;exact q.elim
 |ok ds=>
  rw[hr]at q
  by_cases hl:ds.length<=100
  .refine⟨A,st,ds,rs,hr,λvs H1 s1 r1=>⟨by rw[r1.length];exact hl,c,tl,hc,?_⟩⟩
   have q':Out X.K B A H true st W Dn (aW (ds.length<=100)<|.exc<|.Sg c [] []):=q;rw[aF hl]at q';exact q' A st σ H1 (Le.of s1) (rs.mono s1) λ_=>rfl
  .have q':Out X.K B A H true st W Dn (aW (ds.length<=100)<|.exc<|.Sg c [] []):=q;rw[show aW (ds.length<=100) (R.exc (α:=Fl)<|.Sg c [] [])=.bad from gb hl]at q'
   exact q'.elim
end
end Pu
variable{W:Pu.XW}
namespace Pu
open PySem PySem.Spec PyProof.Rows L2
def dt(K:Frag)(np:Nat)(p:List D->R D):Sp:=λvs H Q E=>∃A ds,Own A H/\bI K (hide A H) ds vs/\ds.length=np/\(match p ds with
 |.ok d=>∀v H',bG H H'->Fb K (hide A H') d v->Q v H'
 |.exc x=>∀C c bm H',x=.Sg c [] []->ExcAt K c C bm->bG H H'->E (.ref C) none H'
 |.bad=>False)
def bRv{K:Frag} {st:Stmt} {f:Addr} {k:Nat} {sm:Bool} (F:Pa K x qual st dV f fd) (S:jd N ps (bM st)) (np n:Nat) (bd:Bd) (Om:ps.length=np) (hn:N.length=n)
  (hb:∀(Cc:Value)(A:Around)(outer:List Env)(s:Shared)(H:Hp)(E:XK)(B:List Addr)(W:XW),dc k (A.deeper<|envOfC qual (bM st) s.heap.objs.size f Cc)->
   Dx (sj (kn P w) P w K mg base N qual (bM st) f Cc A outer s H E) W->we (sj (kn P w) P w K mg base N qual (bM st) f Cc A outer s H E) (eX st) (Di K B sm W bd)):Aa P w K mg base (kn P w) (k+1) f fd ps (dt K np<|bV np n bd):=by
 obtain⟨oc,od,kV,doc,pm,an,Cc,ct,Ai,rfl,lk,af⟩:=F.ex;refine UK lk af S (λvs H Q E h=>?_) λA outer s H vs Q E hr h=>?_
 .obtain⟨A,ds,own,r,hl,_⟩:=h;rw[r.length,hl,Om]
 .obtain⟨B,ds,own,r,hl,q⟩:=h
  let W:XW:=λx _ H'=>∀C c bm,x=.Sg c [] []->ExcAt K c C bm->E (.ref C) none H'
  refine⟨Di K B sm W bd,hb Cc A outer s H E B W hr ?_,?_⟩
  .intro aa σ H1 s1 ea C H' s' I h1 h2 h3 h4 h5 ⟨c,bm,hc,hw⟩;exact Ů aa σ H1 s1 ea C H' s' I h1 h2 h3 h4 h5<|hw C c bm rfl hc
  .have rs:=YA (N:=N) own r;rw[hl,hn]at rs;refine⟨[],_,rs,?_⟩;have fin:∀{A':List Addr}{H':Hp},Le [] H A' H'->bG H H':=λ{A' H'} l=>by
    unfold Le at l;rw[vP]at l;exact l.trans<|bN _ _
   unfold bV at q;rw[aF hl]at q;cases We:bd (ds.map (λd=>some<|Sl.v d)++List.replicate (n-np) none) with
   |ok fl=>
    rw[We]at q;cases fl with
    |nx s1=>exact λA' Eb H' l rs'=>q _ H' (fin l)<|rQ.mpr rfl
    |rt d'=>exact λA' v H' l rv=>q v H' (fin l)<|rv.mono<|lL λa ha=>Pg _ ha
    |bk s1=>exact q.elim
    |ct s1=>exact q.elim
   |exc x=>
    rw[We]at q;exact λA' st' Eb H' l rs' _ C c bm e hc=>q C c bm H' e hc<|fin l
   |bad=>rw[We]at q;exact q
def bIt{K:Frag} {k:Nat} {f:Addr} (F:Aa P w K mg base (kn P w) k f fd ps (dt K np p)):Aa P w K mg base Ib k f fd ps (jc K np<|Wq p):=by
 have up:∀vs H Q E,jc K np (Wq p) vs H Q E->dt K np p vs H Q E0:=by
  rintro vs H Q E ⟨A,ds,d,own,r,hl,hp,q⟩;refine⟨A,ds,own,r,hl,?_⟩;rw[R.Gj hp];exact q
 refine⟨λvs H Q E h=>F.len vs H Q E0<|up vs H Q E h,λA outer s H args us vs Q E hr e0 hb hv h=>?_⟩
 refine Oo (F.run A outer s H args us vs Q E0 hr e0 hb hv<|up vs H Q E h) λr s' z=>?_
 cases r with
 |error e=>obtain⟨_,_,_,_,_,_,_,_,_,hE⟩:=z;exact hE.elim
 |ok fl=>cases fl<;>exact z
def ĕ(ds:List D)(h:bV np n bd ds≠.bad):ds.length=np:=by
 by_cases hl:ds.length=np
 .exact hl
 .exact(h<|gb hl).elim
section
variable{X:Cx}{B:List Addr}{a b e o:Expr}{f g:Ex}{pos:Pos}{W:XW}
def bIu{k:Nat} {ds:List Value} {E:XK} {σ:L2.St} {Q:VK} (F:Aa X.prog X.w X.K X.mg X.base CX k fa fd ps sp) (hr:dc k X.A) (hb:Binds X.K fd ps ds) (hd:Ca Xd ds)
  (I:ya X aa σ H s) (r:Ca vs us) (hx:∀e s',CX X.stack H s E e s'->X.xe e s') (h:sp (vs++Xd) H Q E):wpAny (model X.prog X.w) X.A (call (.ref fa) us) (EP X aa σ Q) X.xe s:=by
 have r2:Ca (vs++Xd) (us++ds):=r.append hd;have hl:(us++ds).length=ps.length:=by rw[<-r2.length];exact F.len _ _ _ _ h
 refine my<|Oo (F.run X.A X.stack s H ⟨us,[]⟩ (us++ds) (vs++Xd) Q E hr I.Qr (hb s us I.tf hl) r2 h) λr s' hq=>?_
 cases r with
 |error e=>exact hx e s' hq
 |ok fl=>
  cases fl with
  |ret u=>exact I.after hq
  |next=>exact False.elim hq
  |brk=>exact False.elim hq
  |cont=>exact False.elim hq
def EW(X:Cx)(W:XW)(σ:L2.St):XK:=λcv _ H'=>∃C c bm,cv=.ref C/\ExcAt X.K c C bm/\W (.Sg c [] []) σ H'
def bRw{σ:L2.St} (hL:Dx X W) (I:ya X aa σ H s) (e:Value) (s':Shared) (h:kn X.prog X.w X.stack H s (EW X W σ) e s'):X.xe e s':=by
 obtain⟨ea,C,H',rfl,os,bare,un,ib,F,C',c,bm,e1,hc,hw⟩:=h;cases e1;exact hL aa σ H s ea C H' s' I os bare un ib F ⟨c,bm,hc,hw⟩
structure cc(P:Program)(w:World)(K:Frag)(mg:Str->Option Value)(base:Heap)(c m:String)(k np:Nat)(dv:List D)(p:List D->R D):Prop where
 ex:∃(C fa:Addr)(fd:FuncData)(ps:List Str)(Xd:List V)(ds:List Value),ClsAt K c C/\Meth K C (ofString m) fa/\Aa P w K mg base (kn P w) k fa fd ps (dt K np p)/\Binds K fd ps ds/\Ca Xd ds/\∀H,bI K H dv Xd
 len:∀ds,p ds≠.bad->ds.length=np
def cc.calm{K:Frag} {m:String} {k:Nat} (h:cc P w K mg base c m k np dv p):uc P w K mg base c m k np dv (Wq p):=by
 obtain⟨C,fa,fd,ps,Xd,ds,hc,hm,F,bd,vd,rd⟩:=h.ex;refine⟨⟨C,fa,fd,ps,Xd,ds,hc,hm,bIt F,bd,vd,rd⟩,λds d e=>h.len ds λz=>?_⟩
 rw[R.Gj e]at z;cases z
def Dw{m:String}{k:Nat} {r:ue} (h:cc X.prog X.w X.K X.mg X.base c m k np dv p) (hL:Dx X W) (hr:dc j X.A) (hk:k<=j) (ho:PE X o (tI X.K B f)) (ha:PA X (e::es) (tA X.K B r))
  (Nh:Lf e es X.env:=by rfl) (ff:Ci pos es X.env:=by rfl)
  (ht:eval (.Call (.Attribute o (ofString m) xb) (e::es) [] pos) X.env=(do
   let ov <- eval o X.env
   standAt xb.atName
   let (f,first) <- holding [ov] (getMethod ov (ofString m) pl)
   callWith pos f first (backTo pos<|starEach (e::es) X.env) (backToKw pos<|keywordEach [] X.env)):=by rfl) :
  PE X (.Call (.Attribute o (ofString m) xb) (e::es) [] pos) (Gz X.K B W<|oX c m p dv f r):=by
 obtain⟨C,fa,fd,ps,Xd,ds,hc,hm,F,bd,vd,rd⟩:=h.ex;intro aa s σ H Q I ⟨A,st,rs,q⟩;unfold oX at q;cases hf:f st with
 |exc x=>rw[hf]at q;exact q.elim
 |bad=>rw[hf]at q;exact q.elim
 |ok x=>
  rw[hf]at q;cases Ee:r st with
  |exc y=>rw[Ee]at q;exact q.elim
  |bad=>rw[Ee]at q;exact q.elim
  |ok xs=>
   rw[Ee]at q;cases x<;>first|exact q.elim|skip
   rename_i c' ns Hy
   by_cases hg:c'=c/\m∉ns
   .have q':(match aW (c'=c/\m∉ns) (p<|.ins c' ns Hy::(xs++dv)) with
     |.ok d=>∀v H',bG H H'->Fb X.K (hide (A++B) H') d v->Q v H'
     |.exc x=>∀H',bG H H'->W x σ H'
     |.bad=>False):=q
    rw[aF hg]at q';obtain⟨rfl,hn⟩:=hg;refine j4 (pl:=pl) (qc (ho aa s σ H (λv H1=>bG H H1/\Fb X.K (hide (A++B) H1) (.ins c' ns Hy) v) I ⟨A,st,_,rs,hf,λv H1 s1 r1=>⟨s1,r1⟩⟩) λu s1 ⟨y,H1,I1,rx,sm1,ry⟩=>?_) ht
    obtain⟨p',C',dx,fs,e2,h5,h6,h7,h8⟩:=nJ.ins<|.inl ry;have:C'=C:=by have z:=h6.symm.trans hc.ns;injection z with z;injection z with z;injection z
    subst this;subst e2;obtain rfl:u=Value.ref p':=rx;refine PR I1 h5 hc.cl hm (lookup_none h7 hn) ?_
    refine ZD (first:=[.ref p']) (h₀:=X.base) I.ok.mod.Ej hm.kp (qc (ha pos aa s1 σ H1 (λvs H2=>bG H1 H2/\bI X.K (hide (A++B) H2) xs vs) I1 ⟨A,st,xs,rs.mono sm1,Ee,λvs H2 s2 r2=>⟨s2,r2⟩⟩) λus s2 ⟨vs,H2,I2,rv,sm2,rp⟩=>⟨I2.tf,?_⟩) Nh ff
    refine bIu (us:=.ref p' :: us) (vs:=.ref p' :: vs) (E:=EW X W σ) F (hr.mono hk) bd vd I2 (.cons rfl rv) (bRw hL I2) ?_
    have sm:=sm1.trans sm2;refine⟨A++B,_,rs.own.mono sm,.cons (ry.mono<|bG.hide sm2)<|rp.append<|rd _,h.len _ λz=>?_,?_⟩
    .rw[z]at q';exact q'
    .cases hp:p (.ins c' ns Hy::(xs++dv)) with
     |ok d=>rw[hp]at q';exact λv H' s' r'=>q' v H' (sm.trans s') r'
     |exc x=>rw[hp]at q';exact λC c bm H' e1 hc s'=>⟨C,c,bm,rfl,hc,by rw[<-e1];exact q' H'<|sm.trans s'⟩
     |bad=>rw[hp]at q';exact q'
   .have q':(match aW (c'=c/\m∉ns) (p<|.ins c' ns Hy::(xs++dv)) with
     |.ok d=>∀v H',bG H H'->Fb X.K (hide (A++B) H') d v->Q v H'
     |.exc x=>∀H',bG H H'->W x σ H'
     |.bad=>False):=q
    rw[show aW (c'=c/\m∉ns) (p<|.ins c' ns Hy::(xs++dv))=.bad from gb hg]at q'
    exact q'.elim
def zk(K:Frag)(D':Addr)(b:Bool)(c:String):Prop:=∀C bm,ExcAt K c C bm->(Value.ref C::bm).contains (.ref D')=b
def Uz(X:Cx)(B:List Addr)(hs:List ExceptHandler)(hl:List (List String×List String×(String->Bd))):Prop:=
 PH X hs λC Dn σ H=>∃c bm A st r,ExcAt X.K c C bm/\RS X.K B A H st σ/\Lx hl c st=.ok r/\Cr X.K B A H r Dn
def bIv:Uz X B [] []:=λ_ _ _ _ _ _ _ _ ⟨_,_,_,_,_,_,_,h,_⟩=>nomatch h
def Ų{d:String}{np:Pos} {Pk:Stmt} {rest:List ExceptHandler} {yes no:List String} (hD:ExcAt X.K d D' uy) (hm:X.mg (ofString d)=some (.ref D')) (hy:∀c∈yes,zk X.K D' true c) (hn:∀c∈no,zk X.K D' false c)
  (hs:∀ea,we (held X ea) (Pk::xk)<|tS X.K B bh) (hr:Uz X B rest hl) (hg:Gl X (ofString d):=by rfl) (Rf:xf (ofString d):=by decide) :
  Uz X B (.ExceptHandler (some<|.Name (ofString d) np) none (Pk::xk) Sk::rest) ((yes,no,Y4 bh)::hl):=by
 intro aa s σ H Dn ea C F ⟨c,bm,A,st,r,hC,rs,h,q⟩;refine bIr (np:=np) (pos:=Sk) hD hm hs hr hg Rf aa s σ H Dn ea C F ⟨c,bm,hC,?_⟩;have h':(if c∈yes then (bh st).Vg else if c∈no then Lx hl c st else .bad)=.ok r:=h
 by_cases h1:c∈yes
 .rw[kb h1]at h';rw[kb<|hy c h1 C bm hC];exact⟨A,st,r,rs,R.Gj h',q⟩
 .rw[gb h1]at h'
  by_cases h2:c∈no
  .rw[kb h2]at h';rw[gb (by rw[hn c h2 C bm hC];decide)]
   exact⟨c,bm,A,st,r,hC,rs,h',q⟩
  .rw[gb h2]at h';cases h'
def bQ9{h₀:ExceptHandler}{hs:List ExceptHandler}{b:Bd} (hb:∀(pn:List (Addr×Obj)) (E:Value->Shared->Prop) (W:XW),Dx (Bo X pn E) W->we (Bo X pn E) body (Di X.K B true W b)) (hh:Uz X B (h₀::hs) hl)
  (Nh:X.stack=X.env::X.outer/\X.env.frame=some X.env.locals:=by exact⟨rfl,rfl⟩):PS X (.Try body (h₀::hs) [] [] pos) (tS X.K B<|Ar b hl):=by
 refine gU (bMw (tb:=λW'=>Di X.K B true (λx Eb H'=>∀C c bm,x=.Sg c [] []->ExcAt X.K c C bm->W' C Eb H') b) Nh (λpn E W' hL=>hb pn E _ ?_) hh) ?_
 .intro aa σ H s ea C H' s' I h1 h2 h3 h4 h5 ⟨c,bm,hc,hw⟩;exact hL aa σ H s ea C H' s' I h1 h2 h3 h4 h5<|hw C c bm rfl hc
 .rintro Dn σ H ⟨A,st,r,rs,hr,p⟩;refine⟨A,st,rs,?_⟩;unfold Ar at hr;cases hb:b st with
  |ok r'=>rw[hb]at hr;cases hr;exact p
  |bad=>rw[hb]at hr;cases hr
  |exc x=>
   rw[hb]at hr;intro A' st' Eb H' l rs' e C c bm ex hc;subst ex;have:=e rfl;subst this;exact⟨c,bm,A',st',r,hc,rs',hr,p.mono l⟩
def cc.of{K:Frag} {f:Addr} {k:Nat} {m:String} {ds:List Value} (hc:ClsAt K c C) (hm:Meth K C (ofString m) f) (F:Aa P w K mg base (kn P w) k f fd ps (dt K np<|bV np n bd)) (b:Binds K fd ps ds) (v:Ca Xd ds) (r:∀H,bI K H dv Xd):cc P w K mg base c m k np dv (bV np n bd):=
 ⟨⟨C,f,fd,ps,Xd,ds,hc,hm,F,b,v,r⟩,ĕ⟩
end
end Pu
namespace Pu
open PySem PySem.Spec PyProof.Rows L2
section
variable{K:Frag} {B kg:String}
def ų(F:ExcBaseFacts B newId kg Pl)(a:nsIn K mainGlobals (ofString c)=some (some<|.ref C))(q:excIn K C Pl newId=true)(g1:findIn K (.ref C) "__getattribute__"=some (some<|.builtin "BaseException.__getattribute__"))(g6:findIn K (.ref C) "__getattr__"=some none)(g7:mroIn K C (.type "BaseException")=some true)(g2:findIn K (.ref C) "__class__"=some (some<|.builtin "object.__class__"))
  (g3:specialIn K (.builtin "object.__class__") "__get__"=some (some<|.builtin "getset_descriptor.__get__")) (g4:takesIn K (.builtin "object.__class__")=some true) (g5:mroIn K C (.type "object")=some true):∃bm,ExcAt K c C bm:=by
 have cl:(clsIn K C).isSome=true:=by
  unfold mroIn at g5;cases e:clsIn K C with
  |none=>rw[e]at g5;cases g5
  |some cd=>rfl
 have ic:jm K C:=⟨g1,g6,g7,cl,g2,g3,g4,g5⟩;unfold excIn at q;split at q
 .rename_i dd cd sl ho;split at q
  .rename_i C' bm k0 k1 k2 k3 n k5 hm hsl;simp only[not_eq_true',beq_iff_eq,and_eq_true]at q;obtain⟨⟨⟨⟨⟨e1,e2⟩,e3⟩,e4⟩,e5⟩,e6⟩:=q;refine⟨bm,a,⟨B,newId,kg,Pl,F,λh Ej=>?_⟩,ic⟩
   obtain⟨nm,bs,mro,ns,qn,hd,sn,sub,ab,col,del⟩:=cd;dsimp only at hm e3 e5 e6;have AO:sl = #[k0,k1,k2,k3,some<|.builtin n,k5]:=by rw[<-Array.toArray_toList (xs:=sl),hsl]
   subst AO;subst e1 e2 e3 hm;exact⟨ns,nm,qn,bs,hd,sn,sub,ab,col,dd,k0,k1,k2,k3,k5,h.nsMap ns,Ej _ _ ho,.of_isNs<|PySem.W.isNs_of_in Ej e5,PySem.W.nsMap_none_of_in Ej e5 e6,PySem.W.tail_of_in Ej e4⟩
  .cases q
 .cases q
def bMz{b:Addr}(e:nsIn K mainGlobals x=some (some<|.ref a))(e':nsIn K mainGlobals x=some (some<|.ref b)):a=b:=by
 have z:=e.symm.trans e';injection z with z
 injection z with z
 injection z
def ax(Ej:K.In h)(a:nsIn K mainGlobals (ofString c)=some (some<|.ref C))(m:mroIn K C (.ref D')=some b):zk K D' b c:=λC1 bm hE=>by
 have:=bMz hE.ns a;subst this;obtain⟨_,_,_,_,_,hob⟩:=hE.ob;obtain⟨N,nm,q,bs,hdct,sn,sub,ab,col,dd,k0,k1,k2,k3,k5,mN,oC,_⟩:=hob h Ej;unfold mroIn at m;cases e:clsIn K C1 with
 |none=>rw[e]at m;cases m
 |some cd=>
  rw[e,Option.bind_some]at m;unfold clsIn at e;split at e
  .rename_i ho;cases e;have z:=(Ej _ _ ho).symm.trans oC;have z1:cd.mro=.ref C1::bm:=by
    injection z with z
    unfold excClassObj at z;injection z with _ _ z _
    injection z with z
    rw[z]
   split at m
   .cases m
   .injection m with m
    rw[z1]at m;exact m
  .cases e
end
section
variable {K:Frag} {f:Addr} {k:Nat}
def Yg.of(hc:ClsAt K c C)(hm:Mk K C f)(F:Aa P w K mg base Ib k f fd ps (CF K c np<|zo c np n bd))(b:Binds K fd ps [])(m:mg (ofString c)=some (.ref C)):Yg P w K mg base c k np (zo c np n bd):=
 ⟨⟨C,f,fd,ps,hc,hm,F,b,m⟩,Ŭ⟩
end
section
variable{P:List α->Prop}
def YX(h:P [])(us:List α)(hl:us.length=0):P us:=by rw[Gu.mp hl];exact h
def Kt(h:∀a us,us.length=n->P (a::us))(us:List α)(hl:us.length=n+1):P us:=by
 cases us with
 |nil=>cases hl
 |cons a us=>exact h a us<|Nat.succ.inj hl
def OJ(h:∀a,P [a])(us:List α)(hl:us.length=1):P us:=Kt (λa=>YX<|h a) us hl
def ZX(h:∀a b,P [a,b])(us:List α)(hl:us.length=2):P us:=Kt (λa=>OJ (P:=λus=>P<|a::us)<|h a) us hl
def RB(h:∀a b c,P [a,b,c])(us:List α)(hl:us.length=3):P us:=Kt (λa=>ZX (P:=λus=>P<|a::us)<|h a) us hl
def yY(h:∀a b c d,P [a,b,c,d])(us:List α)(hl:us.length=4):P us:=Kt (λa=>RB (P:=λus=>P<|a::us)<|h a) us hl
def AY(h:∀a b c d e,P [a,b,c,d,e])(us:List α)(hl:us.length=5):P us:=Kt (λa=>yY (P:=λus=>P<|a::us)<|h a) us hl
def bIw(h:∀a b c d e f,P [a,b,c,d,e,f])(us:List α)(hl:us.length=6):P us:=Kt (λa=>AY (P:=λus=>P<|a::us)<|h a) us hl
end
def LP(K:Frag)(G H:Hp):List (List D)->List Addr->Prop
 |[],ps=>ps=[]
 |xs::n6,ps=>∃p r vs,ps=p::r/\H p=some (.lst vs)/\bI K G xs vs/\LP K G H n6 r
def Iz(K:Frag)(B:List Addr)(i:Nat)(b:Bd):TS:=λDn σ H=>∃A st st' xs,RS K B A H st σ/\b st=.ok (.nx st')/\st'[i]?=some (some<|.o .l xs)/\∀A' a vs H',Le A H A' H'->a∈A'->H' a=some (.lst vs)->bI K (hide (A'++B) H') xs vs->Dn.rt (.ref a) H'
def vk(K:Frag)(np:Nat)(p:List D->R D):Sp:=λvs H Q _=>∃A ds xs,Own A H/\bI K (hide A H) ds vs/\ds.length=np/\p ds=.ok (.lst xs)/\∀a ws H',bG H H'->H a=none->H' a=some (.lst ws)->bI K (hide (a::A) H') xs ws->Q (.ref a) H'
section
variable {o:Expr} {rest:List Stmt}
def BY(h1:PS X sm (tS X.K B bd))(h2:we X rest (Iz X.K B i Wj)):we X (sm::rest) (Iz X.K B i<|aY bd Wj):=wW (EA h1 h2) (by
 rintro Dn σ H ⟨A,st,st',xs,rs,hb,hi,q⟩;unfold aY vm at hb;obtain⟨fl,We,h3⟩:=R.ma hb;refine⟨A,st,fl,rs,We,?_⟩;cases fl with
 |nx s1=>exact λA' Eb H' l rs'=>⟨A',s1,st',xs,rs',h3,hi,λA2 a vs H2 l2=>q A2 a vs H2<|l.trans l2⟩
 |rt d=>cases h3
 |bk s1=>cases h3
 |ct s1=>cases h3)
def bN0(hN:X.N[i]?=some x:=by rfl)(hv:Ei X.env.scope x:=by exact ll rfl)(hd:xf x:=by decide)(af:kl x:=by decide) :
  we X [.Return (some<|.Name x p1) pos] (Iz X.K B i cO):=wW (qB<|RJ<|tE hN hv hd af) (by
 rintro Dn σ H ⟨A,st,st',xs,rs,hb,hi,q⟩;cases hb;obtain⟨a,o,vs,e1,m,h1,ko,r,_⟩:=rs.lst i .l xs hi;have eo:o=.lst vs:=ko;subst eo;exact⟨.ref a,e1,q A a vs H Le.refl m h1 r⟩)
end
section
variable {K:Frag} {st:Stmt} {f:Addr} {k:Nat}
def bRx(F:Pa K x qual st dV f fd)(S:jd N ps (bM st))(np n i:Nat)(bd:Bd)(Om:ps.length=np)(hn:N.length=n)
  (hb:∀(Cc:Value)(A:Around)(outer:List Env)(s:Shared)(H:Hp)(E:XK)(B:List Addr),dc k (A.deeper<|envOfC qual (bM st) s.heap.objs.size f Cc)->
   we (sj Ib P w K mg base N qual (bM st) f Cc A outer s H E).Vg (eX st) (Iz K B i bd)):Aa P w K mg base Ib (k+1) f fd ps (vk K np<|bV np n<|oo bd i):=by
 refine F.Tn S (λvs H Q E h=>?_)<|λCc A outer s H vs Q E hr h=>?_
 .obtain⟨A,ds,d,own,r,hl,_⟩:=h;rw[r.length,hl,Om]
 .obtain⟨B,ds,xs,own,r,hl,hp,q⟩:=h;refine⟨Iz K B i bd,hb Cc A outer s H E B hr,?_⟩;obtain⟨_,h2⟩:=aU hp;obtain⟨fl,We,h3⟩:=R.ma h2;have rs:=YA (N:=N) own r;rw[hl,hn]at rs;unfold oo at We;split at We
  .rename_i s1 FN;unfold ZK at We;split at We
   .rename_i e1;cases We;cases h3;refine⟨[],_,s1,_,rs,FN,e1,λA' a Fg H' l ha hv rv=>?_⟩
    have sm:bG H H':=by
     unfold Le at l;rw[vP]at l;exact l.trans<|bN _ _
    refine q a Fg H' sm ?_ hv<|rv.mono<|lL λb hb=>?_
    .cases hH:H a with
     |none=>rfl
     |some o=>
      have z:=l a o (by rw[vP];exact hH)
      rw[jT ha]at z;cases z
    .rcases Kc.mp hb with rfl|hb
     .exact Fh _ ha
     .exact Pg _ hb
   .cases We
  .cases We
def Ė(h:bV np n (oo bd i) ds=.ok d):∃xs,d=.lst xs:=by
 obtain⟨_,h2⟩:=aU h;obtain⟨fl,We,h3⟩:=R.ma h2;unfold oo at We;split at We
 .unfold ZK at We;split at We
  .cases We;cases h3;exact⟨_,rfl⟩
  .cases We
 .cases We
def MT(hp:∀ds d,p ds=.ok d->∃xs,d=.lst xs) (F:Aa P w K mg base Ib k f fd ps (vk K np p)):Aa P w K mg base Ib k f fd ps (jc K np p):=by
 have up:∀vs H Q E,jc K np p vs H Q E->vk K np p vs H Q E:=by
  rintro vs H Q E ⟨A,ds,d,own,r,hl,he,q⟩;obtain⟨xs,rfl⟩:=hp ds d he;refine⟨A,ds,xs,own,r,hl,he,λa ws H' sm ha hv rv=>q _ H' sm<|jR.mpr ⟨a,ws,rfl,(by rw[cR<|own.free ha];exact hv),rv.mono<|lL λb hb=>Qb _ hb⟩⟩
 exact⟨λvs H Q E h=>F.len vs H Q E<|up vs H Q E h,λA outer s H args us vs Q E hr e0 hb hv h=>F.run A outer s H args us vs Q E hr e0 hb hv<|up vs H Q E h⟩
end
structure ae(P:Program)(w:World)(K:Frag)(mg:Str->Option Value)(base:Heap)(c m:String)(k np:Nat)(dv:List D)(p:List D->R D):Prop where
 ex:∃(C fa:Addr)(fd:FuncData)(ps:List Str)(Xd:List V)(ds:List Value),ClsAt K c C/\Meth K C (ofString m) fa/\Aa P w K mg base Ib k fa fd ps (vk K np p)/\Binds K fd ps ds/\Ca Xd ds/\∀H,bI K H dv Xd
 len:∀ds d,p ds=.ok d->ds.length=np
 lst:∀ds d,p ds=.ok d->∃xs,d=.lst xs
def ae.of{K:Frag} {k:Nat} {f:Addr} {m:String} {ds:List Value} (hc:ClsAt K c C) (hm:Meth K C (ofString m) f) (F:Aa P w K mg base Ib k f fd ps (vk K np<|bV np n<|oo bd i)) (b:Binds K fd ps ds) (v:Ca Xd ds) (r:∀H,bI K H dv Xd):ae P w K mg base c m k np dv (bV np n<|oo bd i):=
 ⟨⟨C,f,fd,ps,Xd,ds,hc,hm,F,b,v,r⟩,ZA,λ_ _ h=>Ė h⟩
def ae.plain{K:Frag} {m:String} {k:Nat} (h:ae P w K mg base c m k np dv p):uc P w K mg base c m k np dv p:=by
 obtain⟨C,fa,fd,ps,Xd,ds,hc,hm,F,b,v,r⟩:=h.ex;exact⟨⟨C,fa,fd,ps,Xd,ds,hc,hm,MT h.lst F,b,v,r⟩,h.len⟩
section
variable {a b:Expr}
theorem NV:∀{ns:List Int}{us:List Value},Ca (ns.map V.int) us->IntsAre us ns
 |[],us,h=>by rw[h.zero];exact .nil
 |n::ns,us,h=>by
  cases h with
  |cons r t=>
   obtain⟨k,rfl⟩:=r;exact .cons n k<|NV t
theorem NT{K:Frag}{H:Hp}:∀{l:List Int}{vs:List V},bI K H (l.map D.int) vs->vs=l.map V.int
 |[],vs,h=>dU.mp h
 |i::l,vs,h=>by
  obtain⟨v,r,rfl,h1,h2⟩:=bZ.mp h;rw[bR.mp h1,NT h2];rfl
end
def QO:Hp:=λ_=>none
def bIx:bG QO H:=λ_ _ h=>nomatch h
def Ŵ{K:Frag} (h:atom d=true) (r:Fb K H d v):Fb K QO d v:=by
 cases d<;>first|(cases h;done)|skip
 .exact rQ.mpr (rQ.mp r)
 .exact cU.mpr (cU.mp r)
 .exact bR.mpr (bR.mp r)
 .exact fL.mpr (fL.mp r)
def tC(K:Frag)(B:List Addr)(f:Ex):TE:=λσ H Q=>∃A st d xs,RS K B A H st σ/\f st=.ok d/\bLp d=.ok (.lst xs)/\∀P ps H',bG H H'->(∀p∈P::ps,H p=none)->(P::ps).Nodup->H' P=some (.lst<|ps.map V.ref)->LP K QO H' (xs.map unL) ps->Q (.ref P) H'
open Builtin
section
variable{prog:Program}{w:World}{A:Around}{E:Value->Shared->Prop}{s:Shared}
variable{z TI TO i1 i2 l:Addr}{fp:List Addr}{n k1 k2:Nat}{P:Nat->Value->Prop}{St:Nat->Heap->Prop}{ys:Array Value}{y a b:Value}
structure Sh(z TI TO i1 i2 l:Addr)(fp:List Addr):Prop where
 TIz:TI≠z
 TOz:TO≠z
 i1z:i1≠z
 i2z:i2≠z
 TITO:TI≠TO
 TIi1:TI≠i1
 TIi2:TI≠i2
 TOi1:TO≠i1
 TOi2:TO≠i2
 i12:i1≠i2
 lz:l≠z
 J5:l≠TO
 K5:l≠i1
 li2:l≠i2
 zf:z∉fp
 Tf:TO∉fp
 i2f:i2∉fp
def Ã{n l:Nat}(h:l<n):Sh (n+4) (n+2) (n+3) n (n+1) l [n]:=by
 constructor
 .show n+2≠n+4;omega
 .show n+3≠n+4;omega
 .show n≠n+4;omega
 .show n+1≠n+4;omega
 .show n+2≠n+3;omega
 .show n+2≠n;omega
 .show n+2≠n+1;omega
 .show n+3≠n;omega
 .show n+3≠n+1;omega
 .show n≠n+1;omega
 .show l≠n+4;omega
 .show l≠n+3;omega
 .show l≠n;omega
 .show l≠n+1;omega
 .intro z;have:n+4=n:=Ce.mp z;omega
 .intro z;have:n+3=n:=Ce.mp z;omega
 .intro z;have:n+1=n:=Ce.mp z;omega
abbrev En(h:Heap)(z TI TO:Addr)(f0 f1:Value):Prop:=h.get? z=some {cls:=.type "zip",dict:=none,data:=.fields #[f0,f1,.bool false,.ref TI,.ref TO],slots := #[]}
def OT(hz:En s.heap z TI TO .none f1)(Q:Bool->Shared->Prop)(q:Q true s):wpAny (model prog w) A (Builtin.SmallTypes.ownedTupleIsFree<|.ref z) Q E s:=by
 unfold Builtin.SmallTypes.ownedTupleIsFree;exact Ja<|Aq hz rfl (x:=.none) rfl<|Zb q
variable{f0 f1:Value}
def ŵ(D1:Draws prog w A i1 fp n P St)(D:Sh z TI TO i1 i2 l fp)
  (hz:En s.heap z TI TO f0 f1) (hfr:∀Q:Bool->Shared->Prop,Q true s->wpAny (model prog w) A (Builtin.SmallTypes.ownedTupleIsFree<|.ref z) Q E s) (zj:IsPair s.heap TI (.ref i1) (.ref i2)) (Zj:IsPair s.heap TO a b)
  (h1:St k1 s.heap) (hk1:k1<n) (h2:s.heap.IsListIter i2 l k2) (hl:s.heap.IsList l ys) (hy:ys[k2]?=some y)
  (hQ:∀h' tk x,P k1 x->IsZip h' z TI TO (rawInt s.heap.objs.size)->IsPair h' TO x y->St (k1+1) h'->h'.IsListIter i2 l (k2+1)->IsPair h' s.heap.objs.size x y->h'.objs.size=s.heap.objs.size+1->
   (∀c o,c≠z->c≠TO->c≠i1->c≠i2->s.heap.get? c=some o->h'.get? c=some o)->Q (.ref s.heap.objs.size) {s with heap:=h',toks:=tk}) :
  wpAny (model prog w) A (Builtin.«zip.__next__» ⟨[.ref z],[]⟩) (λfin s'=>∃v,fin=.done (.ret v)/\Q v s') E s:=by
 show wpAny _ _ (field (.ref z) 2 >>= _) _ _ _;refine Ja<|Aq hz rfl (x:=.bool false) rfl ?_;show wpAny _ _ (field (.ref z) 3 >>= _) _ _ _;refine Ja<|Aq hz rfl (x:=.ref TI) rfl ?_;refine Ja<|vq zj rfl ?_;show wpAny _ _ (Builtin.SmallTypes.ownedTupleIsFree (.ref z) >>= _) _ _ _;refine Ja<|hfr _ ?_;simp only[if_true];refine Ja<|av ?_;refine Ja<|Aq hz rfl (x:=.ref TO) rfl ?_;refine Ja<|Mu hz (by simp) λjg Lg hs₁=>?_
 replace Lg:En jg z TI TO .ellipsis f1:=Lg
 refine Ja ?_
 simp only[List.zipIdx_cons,List.zipIdx_nil,forIn_cons,forIn_nil];refine Ja<|Ja<|xE ?_;show wpAny _ _ (Builtin.SmallTypes.nextOf (.ref i1) >>= _) _ _ _;refine Ja<|D1.item k1 {s with heap:=jg} _ _ hk1 (D1.frame k1 s.heap jg h1 λb hb o e=>hs₁.extBut _ _ (λx=>D.zf<|x ▸ hb) e) λx mh tk hP Jq hs₂=>Zb ?_
 have hs₂:Heap.SameBut i1 jg mh:=hs₂;have kh:IsPair mh TO a b:=hs₂.extBut _ _ D.TOi1<|hs₁.extBut _ _ D.TOz Zj;refine Ja<|vq kh rfl ?_;refine Ja<|VL kh λWi Vh Kg=>?_
 replace Vh:IsPair Wi TO x b:=Vh
 refine Ja<|wpAny_letGo<|Zb ?_;refine Ja<|Ja<|xE ?_;show wpAny _ _ (Builtin.SmallTypes.nextOf (.ref i2) >>= _) _ _ _;refine Ja (wpAny_nextOf_list_item (((h2.extBut hs₁.extBut D.i2z).extBut hs₂.extBut D.i12.symm).extBut Kg.extBut D.TOi2.symm)
  (((hl.extBut hs₁.extBut D.lz).extBut hs₂.extBut D.K5).extBut Kg.extBut D.J5) hy λVk Jy hs₄=>Zb ?_)
 have Im:IsPair Vk TO x b:=hs₄.extBut _ _ D.TOi2 Vh;refine Ja<|vq Im rfl ?_;refine Ja<|VL Im λXe Wh ak=>?_
 replace Wh:IsPair Xe TO x y:=Wh
 refine Ja<|wpAny_letGo<|Zb<|Zb ?_;refine Ja<|vq Wh rfl ?_;refine Ja<|wpAny_newTuple ?_;have hs₃':Heap.SameBut TO mh Wi:=Kg;have hs₄':Heap.SameBut i2 Wi Vk:=hs₄;have lh:Heap.SameBut TO Vk Xe:=ak;have hsz:Xe.objs.size=s.heap.objs.size:=by rw[lh.1,hs₄'.1,hs₃'.1,hs₂.1,hs₁.1]
 have Vq:En Xe z TI TO .ellipsis f1:=lh.extBut _ _ D.TOz.symm<|hs₄'.extBut _ _ D.i2z.symm<|hs₃'.extBut _ _ D.TOz.symm<|hs₂.extBut _ _ D.i1z.symm Lg;have hk₅:∀c o,c≠z->c≠TO->c≠i1->c≠i2->s.heap.get? c=some o->Xe.get? c=some o:=λc o c1 c2 c3 c4 e=>
  lh.extBut _ _ c2 (hs₄'.extBut _ _ c4<|hs₃'.extBut _ _ c2<|hs₂.extBut _ _ c3<|hs₁.extBut _ _ c1 e)
 have Iy:St (k1+1) Xe:=D1.frame _ mh Xe Jq λb hb o e=>lh.extBut _ _ (λx=>D.Tf<|x ▸ hb)<|hs₄'.extBut _ _ (λx=>D.i2f<|x ▸ hb)<|hs₃'.extBut _ _ (λx=>D.Tf<|x ▸ hb) e
 have Ky:Xe.IsListIter i2 l (k2+1):=Jy.extBut lh.extBut D.TOi2.symm;have mz:z<Xe.objs.size:=Ud Vq;show wpAny _ _ (Builtin.SmallTypes.ownedTupleHandOut (.ref z) (.ref Xe.objs.size) >>= _) _ _ _;refine Ja ?_
 unfold Builtin.SmallTypes.ownedTupleHandOut;have oz:En (Xe.push {cls:=.type "tuple",data:=.seq #[x,y]}) z TI TO .ellipsis f1:=ud _ Vq;refine Ja<|Mu oz (by simp) λEO Um hs₇=>?_
 replace Um:En EO z TI TO (rawInt Xe.objs.size) f1:=Um
 refine Mu Um (by simp) λWk ik Rm=>?_
 replace ik:IsZip Wk z TI TO (rawInt Xe.objs.size):=ik
 have up:∀c o,c≠z->Xe.get? c=some o->Wk.get? c=some o:=λc o c1 e=>Rm.extBut _ _ c1<|hs₇.extBut _ _ c1<|ud _ e
 have Kq:IsPair Wk Xe.objs.size x y:=Rm.extBut _ _ (AE mz)<|hs₇.extBut _ _ (AE mz)<|Vf _ rfl;have F5:Wk.objs.size=Xe.objs.size+1:=by rw[Rm.1,hs₇.1,Uh]
 rw[hsz]at ik Kq F5;refine Zb ⟨_,rfl,?_⟩;show Q (.ref Xe.objs.size) _;rw[hsz];exact hQ Wk _ x hP ik (up _ _ D.TOz Wh) (D1.frame _ Xe Wk Iy λb hb o e=>up b o (λx=>D.zf<|x ▸ hb) e) (Ky.at λo e=>up _ o D.i2z e) Kq F5 λc o c1 c2 c3 c4 e=>up c o c1<|hk₅ c o c1 c2 c3 c4 e
def bIy(D1:Draws prog w A i1 fp n P St)(hh:A.handled=none)(D:Sh z TI TO i1 i2 l fp)
  (hz:En s.heap z TI TO f0 f1) (hfr:∀Q:Bool->Shared->Prop,Q true s->wpAny (model prog w) A (Builtin.SmallTypes.ownedTupleIsFree<|.ref z) Q E s) (zj:IsPair s.heap TI (.ref i1) (.ref i2)) (Zj:IsPair s.heap TO a b)
  (h1:St k1 s.heap) (h2:s.heap.IsListIter i2 l k2) (hl:s.heap.IsList l ys)
  (Yr:(∀(s:Shared)(Q:Value->Shared->Prop)(E:Value->Shared->Prop),St k1 s.heap->(∀h' e,Heap.ExtBut i1 s.heap h'->(∃o,h'.get? e=some o/\o.cls=.type "StopIteration")->E (.ref e) {s with heap:=h'})->wpAny (model prog w) A (Builtin.SmallTypes.nextOf<|.ref i1) Q E s)\/(k1<n/\ys[k2]?=none)) {Q:Fin->Shared->Prop}
  (hE:∀h' e tk,(∀c o,c≠z->c≠TO->c≠i1->c≠i2->s.heap.get? c=some o->h'.get? c=some o)->(∃o,h'.get? e=some o/\o.cls=.type "StopIteration")->E (.ref e) {s with heap:=h',toks:=tk}) :
  wpAny (model prog w) A (Builtin.«zip.__next__» ⟨[.ref z],[]⟩) Q E s:=by
 show wpAny _ _ (field (.ref z) 2 >>= _) _ _ _;refine Ja<|Aq hz rfl (x:=.bool false) rfl ?_;show wpAny _ _ (field (.ref z) 3 >>= _) _ _ _;refine Ja<|Aq hz rfl (x:=.ref TI) rfl ?_;refine Ja<|vq zj rfl ?_;show wpAny _ _ (Builtin.SmallTypes.ownedTupleIsFree (.ref z) >>= _) _ _ _;refine Ja<|hfr _ ?_;simp only[if_true];refine Ja<|av ?_;refine Ja<|Aq hz rfl (x:=.ref TO) rfl ?_;refine Ja<|Mu hz (by simp) λjg Lg hs₁=>?_
 replace Lg:En jg z TI TO .ellipsis f1:=Lg
 refine Ja ?_
 simp only[List.zipIdx_cons,List.zipIdx_nil,forIn_cons,forIn_nil];refine Ja<|Ja<|xE ?_;show wpAny _ _ (Builtin.SmallTypes.nextOf (.ref i1) >>= _) _ _ _;have U4:St k1 jg:=D1.frame k1 s.heap jg h1 λb hb o e=>hs₁.extBut _ _ (λx=>D.zf<|x ▸ hb) e
 rcases Yr with Yr|⟨hkn,hy⟩
 .refine Ja (Yr {s with heap:=jg} _ _ U4 λmh e hs₂ he=>?_)
  have hs₂:Heap.ExtBut i1 jg mh:=hs₂;obtain⟨oe,Ds,Ur⟩:=he;have Tq:En mh z TI TO .ellipsis f1:=hs₂ _ _ D.i1z.symm Lg;have EN:e≠z:=λx=>by subst x;rw[Tq]at Ds;cases Ds;simp at Ur
  refine Mu Tq (by simp) λWi _ Kg=>hE Wi e _ (λc o c1 _ c3 _ x=>Kg.extBut _ _ c1<|hs₂ _ _ c3<|hs₁.extBut _ _ c1 x) ⟨oe,Kg.extBut _ _ EN Ds,Ur⟩
 .refine Ja (D1.item k1 {s with heap:=jg} _ _ hkn U4 λx mh tk hP Jq hs₂=>Zb ?_)
  have hs₂:Heap.SameBut i1 jg mh:=hs₂;have kh:IsPair mh TO a b:=hs₂.extBut _ _ D.TOi1<|hs₁.extBut _ _ D.TOz Zj;refine Ja<|vq kh rfl ?_;refine Ja<|VL kh λWi Vh Kg=>?_
  have hs₃':Heap.SameBut TO mh Wi:=Kg;refine Ja<|wpAny_letGo<|Zb ?_;refine Ja<|Ja<|xE ?_;show wpAny _ _ (Builtin.SmallTypes.nextOf (.ref i2) >>= _) _ _ _;refine Ja (wpAny_nextOf_list_end hh (((h2.extBut hs₁.extBut D.i2z).extBut hs₂.extBut D.i12.symm).extBut hs₃'.extBut D.TOi2.symm)
   (((hl.extBut hs₁.extBut D.lz).extBut hs₂.extBut D.K5).extBut hs₃'.extBut D.J5) hy λVk e hs₄ he=>?_)
  have hs₄:Heap.ExtBut i2 Wi Vk:=hs₄;obtain⟨oe,Ds,Ur⟩:=he;have Uq:En Vk z TI TO .ellipsis f1:=hs₄ _ _ D.i2z.symm<|hs₃'.extBut _ _ D.TOz.symm<|hs₂.extBut _ _ D.i1z.symm Lg;have EN:e≠z:=λx=>by subst x;rw[Uq]at Ds;cases Ds;simp at Ur
  refine Mu Uq (by simp) λXe _ ak=>hE Xe e _ (λc o c1 c2 c3 c4 x=>ak.extBut _ _ c1<|hs₄ _ _ c4<|hs₃'.extBut _ _ c2<|hs₂.extBut _ _ c3<|hs₁.extBut _ _ c1 x) ⟨oe,ak.extBut _ _ EN Ds,Ur⟩
end
section
variable{prog:Program}{w:World}{A:Around}{E:Value->Shared->Prop}{s:Shared}
abbrev HF(h:Heap)(x:Str)(t:Tok):Heap:=h.push {cls:=.type<|strIterType x,data:=.fields #[.str x t,.int 0 0]}
abbrev IF(h:Heap)(x:Str)(t:Tok)(l:Addr):Heap:=(HF h x t).push {cls:=.type "list_iterator",data:=.fields #[.ref l,.int 0 0]}
abbrev JF(h:Heap)(x:Str)(t:Tok)(l:Addr):Heap:=(IF h x t l).push {cls:=.type "tuple",data:=.seq #[.ref h.objs.size,.ref (HF h x t).objs.size]}
abbrev LF(h:Heap)(x:Str)(t:Tok)(l:Addr):Heap:=(JF h x t l).push {cls:=.type "tuple",data:=.seq #[.none,.none]}
abbrev et(h:Heap)(x:Str)(t:Tok)(l:Addr):Heap:=(LF h x t l).push {cls:=.type "zip",data:=.fields #[.none,.bool false,.bool false,.ref (IF h x t l).objs.size,.ref (JF h x t l).objs.size]}
def Ä(x:Str)(t:Tok)(l:Addr)(ys:Array Value) :
  Meets (Builtin.«zip.__new__» ⟨[.type "zip",.str x t,.ref l],[]⟩) (λ_ R s=>s.heap.IsList l ys/\
   R (.ok<|.ret<|.ref (LF s.heap x t l).objs.size) {s with heap:=et s.heap x t l}):=
 .of_wp λprog w A R s h=>by
  obtain⟨hp,g,d,tk,os⟩:=s;obtain⟨hl,h⟩:=h;have hsub:=sub_zip;have hL:Heap.IsList (Shared.heap ⟨hp.push {cls:=.type<|strIterType x,data:=.fields #[.str x t,.int 0 0]},g,d,tk,os⟩) l ys:=Heap.IsList.push hl _
  wp_walk using wpAny_pyIter_strU,wpAny_pyIter_list hL
  exact⟨_,rfl,h⟩
def ė{t:Tok}{l:Addr}{ys:Array Value} (hl:s.heap.IsList l ys)
  (h:∀h',IsZip h' (s.heap.objs.size+4) (s.heap.objs.size+2) (s.heap.objs.size+3) .none->IsPair h' (s.heap.objs.size+2) (.ref s.heap.objs.size) (.ref<|s.heap.objs.size+1)->
   IsPair h' (s.heap.objs.size+3) .none .none->h'.IsStrIter s.heap.objs.size (strIterType x) x t 0->h'.IsListIter (s.heap.objs.size+1) l 0->h'.objs.size=s.heap.objs.size+5->
   (∀c o,s.heap.get? c=some o->h'.get? c=some o)->Q (.ref<|s.heap.objs.size+4) {s with heap:=h'}) :
  wpAny (model prog w) A (call (.type "zip") [.str x t,.ref l]) Q E s:=by
 refine callType_new PySem.F.called_zip (by decide) (PySem.F.typeCall_zip_2 _ _) (PySem.F.newCall_zip_2 _ _) (λobj=>PySem.F.args_object_init_3 obj _ _) PySem.F.entry_zip_new
  (Ä x t l ys) ⟨hl,?_⟩
 have z1:(HF s.heap x t).objs.size=s.heap.objs.size+1:=Uh ..;have z2:(IF s.heap x t l).objs.size=s.heap.objs.size+2:=by rw[Uh,z1]
 have z3:(JF s.heap x t l).objs.size=s.heap.objs.size+3:=by rw[Uh,z2]
 have z4:(LF s.heap x t l).objs.size=s.heap.objs.size+4:=by rw[Uh,z3]
 have z5:(et s.heap x t l).objs.size=s.heap.objs.size+5:=by rw[Uh,z4]
 have g5:(et s.heap x t l).get? (LF s.heap x t l).objs.size=some _:=Vf _ rfl;have g4:(et s.heap x t l).get? (JF s.heap x t l).objs.size=some _:=ud _<|Vf _ rfl;have g3:(et s.heap x t l).get? (IF s.heap x t l).objs.size=some _:=ud _<|ud _<|Vf _ rfl;have g2:(et s.heap x t l).get? (HF s.heap x t).objs.size=some _:=ud _<|ud _<|ud _<|Vf _ rfl;have g1:(et s.heap x t l).get? s.heap.objs.size=some _:=ud _<|ud _<|ud _<|ud _<|Vf _ rfl;show _/\_;rw[z2,z3,z4]at g5;rw[z1,z2]at g3;rw[z3]at g4;rw[z1]at g2;rw[z4];exact⟨⟨_,g5,rfl⟩,h _ g5 g3 g4 ⟨_,g1,rfl,rfl⟩ ⟨_,g2,rfl,rfl⟩ z5 λc o x=>
  ud _ (ud _<|ud _<|ud _<|ud _ x)⟩
def QT(hh:A.handled=none)(it:Addr)(x:Str)(t:Tok){n:String}(hn:n="str_ascii_iterator"\/n="str_iterator") :
  Draws prog w A it [it] x.cps.size (λi v=>∃c u,x.cps[i]?=some c/\v=.str ⟨#[c]⟩ u) (λi h=>h.IsStrIter it n x t i):=by
 rcases hn with rfl|rfl
 .exact Draws.strAscii hh it x t
 .exact Draws.strWide hh it x t
def bIz(hh:A.handled=none){it:Addr} {t:Tok} {n:String} (hn:n="str_ascii_iterator"\/n="str_iterator") (st:s.heap.IsStrIter it n x t i) (hx:x.cps[i]?=none)
  (hE:∀h' e,Heap.ExtBut it s.heap h'->(∃o,h'.get? e=some o/\o.cls=.type "StopIteration")->E (.ref e) {s with heap:=h'}):wpAny (model prog w) A (Builtin.SmallTypes.nextOf<|.ref it) Q E s:=by
 rcases hn with rfl|rfl
 .exact wpAny_nextOf_ascii_end hh st hx hE
 .exact wpAny_nextOf_wide_end hh st hx hE
def o_(x:Str):strIterType x="str_ascii_iterator"\/strIterType x="str_iterator":=by
 unfold strIterType;split<;>simp
end
def OF(K:Frag)(z:List Nat)(a:Addr):It:=
 ⟨λi H=>i<z.length/\∃xs x,Ae K H a xs/\xs[i]?=some x,λi H x H'=>∃T c v,x=V.ref T/\H T=none/\z[i]?=some c/\H'=Ob H T (.tup [.str ⟨#[c]⟩,v])/\∀xs,Ae K H a xs->xs[i]?=some v,λi H=>∃xs,Ae K H a xs/\(z.length<=i\/xs.length<=i)⟩
def Ŷ{K:Frag} {x1} {tp:Pos} {zs:List Nat} {t:Tok} {n:String} (hn:n="str_ascii_iterator"\/n="str_iterator") (a z TI TO i1 i2:Addr) (D:∀l,l=a->Sh z TI TO i1 i2 l [i1]) :
  Turn P w K (.Tuple Qk x1 tp) (OF K zs a) [z,TI,TO,i1,i2] z (λi h=>IsZip h z TI TO .none/\IsPair h TI (.ref i1) (.ref i2)/\(∃u v,IsPair h TO u v)/\h.IsStrIter i1 n ⟨zs.toArray⟩ t i/\h.IsListIter i2 a i) where
 mem:=by simp
 obj:=λi h st b hb=>by
  obtain⟨hz,zj,⟨u,v,Zj⟩,⟨o1,q1,c1,d1⟩,⟨o2,q2,c2,d2⟩⟩:=st;simp only[mem_cons,not_mem_nil,or_false]at hb;rcases hb with rfl|rfl|rfl|rfl|rfl
  .exact⟨_,hz,λv z=>by cases z⟩
  .exact⟨_,zj,λv z=>by cases z⟩
  .exact⟨_,Zj,λv z=>by cases z⟩
  .exact⟨o1,q1,λv z=>by rw[d1]at z;cases z⟩
  .exact⟨o2,q2,λv z=>by rw[d2]at z;cases z⟩
 keep:=λi h h' st k=>by
  obtain⟨hz,zj,⟨u,v,Zj⟩,⟨o1,q1,r1⟩,h2⟩:=st;exact⟨k z (by simp) _ hz,k TI (by simp) _ zj,⟨u,v,k TO (by simp) _ Zj⟩,⟨o1,k i1 (by simp) _ q1,r1⟩,h2.at λo x=>k i2 (by simp) o x⟩
 item:=by
  intro X hP hw hK hc i aa s σ H E I hf st hg;subst hP hw hK;obtain⟨hz,zj,⟨u0,v0,Zj⟩,h1,h2⟩:=st;obtain⟨hi,xs,x,hq,hx⟩:=hg;obtain⟨Sa,rv,p,_⟩:=I.list hq;obtain⟨u,hu,ru⟩:=rv.get hx;have D:=D a rfl;have fo:∀b∈[z,TI,TO,i1,i2],H b=none:=λb hb=>(hf b hb).1
  have hT:H s.heap.objs.size=none:=I.ib.fresh<|Zc _;have nz:s.TypeIs (.ref z) "zip":=⟨_,hz,rfl⟩;have hh:=I.ok.hd hc;unfold pyNext;refine Ja<|Xu (Hu (name:=ofString "__next__") nz RD
   (Mo RD nz Y3
    (ŵ (QT (A:=X.A.in1) hh i1 ⟨zs.toArray⟩ t hn) D hz (OT hz) zj Zj h1 (by simpa using hi) h2 p.isList (y:=u) (by simpa using hu) λh' tk v hP a1 a2 a3 a4 a5 a6 hk=>wpAny_pure ?_) (PySem.F.args_zip_next_1 _)))
  obtain⟨c,uu,SE,rfl⟩:=hP;refine⟨_,rfl,wpAny_letOwnedTupleGo_zip (s:={s with heap:=h',toks:=tk}) a1 λh9 hz9 sb=>?_⟩
  have Pq:∀b o,b≠z->b≠TO->b≠i1->b≠i2->s.heap.get? b=some o->h9.get? b=some o:=λb o e1 e2 e3 e4 q=>(sb.2 b e1).trans<|hk b o e1 e2 e3 e4 q
  have zlt:z≠s.heap.objs.size:=Cf<|Ud hz;have BO:h9.get? s.heap.objs.size=some {cls:=.type "tuple",data:=.seq #[.str ⟨#[c]⟩ uu,u]}:=(sb.2 _ zlt.symm).trans a5;have nT:∀b u',H b=some u'->b≠s.heap.objs.size:=λb u' q=>bJ q hT
  have nx:∀b u',H b=some u'->b≠z/\b≠TO/\b≠i1/\b≠i2:=λb u' q=>⟨bJ q<|fo z<|by simp,bJ q<|fo TO<|by simp,bJ q<|fo i1<|by simp,bJ q<|fo i2<|by simp⟩
  have mx:∀b:Addr,b∉[z,TI,TO,i1,i2]->b≠z/\b≠TO/\b≠i1/\b≠i2:=λb hb=>⟨λq=>hb (by simp[q]),λq=>hb (by simp[q]),λq=>hb (by simp[q]),λq=>hb<|by simp[q]⟩
  have inL:∀b o,s.heap.get? b=some o->b≠s.heap.objs.size:=λb o q=>Cf<|Ud q
  have kp:∀b o,b∉[z,TI,TO,i1,i2]->s.heap.get? b=some o->h9.get? b=some o:=λb o hb q=>Pq b o (mx b hb).1 (mx b hb).2.1 (mx b hb).2.2.1 (mx b hb).2.2.2 q
  have un:Un (De X.stack) [z,TI,TO,i1,i2] H (Ob H s.heap.objs.size<|.tup [.str ⟨#[c]⟩,x]) s.heap h9:=by
   refine⟨λb o q n hb hx=>kp b o hx q,λb o q n hb hx=>⟨o.slots,kp b o hx q⟩,λb o q n hx=>by rw[bU<|inL b o q];exact n,λb o q hx=>⟨o,kp b o hx q⟩,λb ys q=>by rw[bU<|nT b _ q];exact q,λb o u' q=>by rw[bU<|nT b _ q];exact q,λb ps q=>⟨#[],by rw[bU<|nT b _ q,Array.append_empty];exact q⟩⟩
  have ib:Ze X.prog X.w (Ob H s.heap.objs.size<|.tup [.str ⟨#[c]⟩,x]) h9:=λb u' q=>by
   by_cases hb:b=s.heap.objs.size
   .subst hb;rw[cD]at q;cases q;exact⟨show 2<=sizeLine by decide,[.str ⟨#[c]⟩ uu,u],.cons ⟨_,rfl⟩<|.cons ru .nil,_,BO,rfl,_,rfl⟩
   .rw[bU hb]at q;refine(I.ib b u' q).ph (λc v Si q'=>?_) (λc q'=>by rw[bU<|nT c _ q'];exact q') λc ys q'=>by rw[bU<|nT c _ q'];exact q'
    have:∃Nz,H c=some Nz:=by
     rcases Si with z|z
     .exact⟨u',by rw[z];exact q⟩
     .exact⟨_,z⟩
    obtain⟨Nz,Uk⟩:=this;obtain⟨e1,e2,e3,e4⟩:=nx c _ Uk;exact Pq c v e1 e2 e3 e4 q'
  have I2:ya X aa σ (Ob H s.heap.objs.size<|.tup [.str ⟨#[c]⟩,x]) {s with heap:=h9,toks:=tk}:=I.call (g':=s.gens) (t':=tk) (d':=s.drawn) (ch:=[z,TI,TO,i1,i2]) un ib I.bare λb hb=>by
   have fb:=hf b hb;exact⟨fb.2.2.2.1,fb.2.1,fb.2.2.2.2.1,fb.2.2.2.2.2⟩
  have up:∀b o,b≠z->h'.get? b=some o->h9.get? b=some o:=λb o e q=>(sb.2 b e).trans q
  refine⟨.ref s.heap.objs.size,_,I2,rfl,⟨_,c,x,rfl,hT,by simpa using SE,rfl,λys hy=>by rw[I.nh hy hq];exact hx⟩,⟨hz9,up _ _ D.TIz<|hk _ _ D.TIz D.TITO D.TIi1 D.TIi2 zj,⟨_,_,up _ _ D.TOz a2⟩,?_,a4.at λo y=>up _ o D.i2z y⟩,λb hb=>?_⟩
  .obtain⟨o1,q1,r1⟩:=a3;exact⟨o1,up _ _ D.i1z q1,r1⟩
  .have hbs:∃o,s.heap.get? b=some o:=by
    simp only[mem_cons,not_mem_nil,or_false]at hb;obtain⟨o1,q1,_⟩:=h1;obtain⟨o2,q2,_⟩:=h2;rcases hb with rfl|rfl|rfl|rfl|rfl
    .exact⟨_,hz⟩
    .exact⟨_,zj⟩
    .exact⟨_,Zj⟩
    .exact⟨_,q1⟩
    .exact⟨_,q2⟩
   obtain⟨o,q⟩:=hbs;rw[bU<|inL b o q];exact fo b hb
 done:=by
  intro X hP hw hK hc i aa s σ H E I hf st hg;subst hP hw hK;obtain⟨hz,zj,⟨u0,v0,Zj⟩,h1,h2⟩:=st;obtain⟨xs,hq,hx⟩:=hg;obtain⟨Sa,rv,p,_⟩:=I.list hq;have D:=D a rfl;have nz:s.TypeIs (.ref z) "zip":=⟨_,hz,rfl⟩;have hh:=I.ok.hd hc;have hl:=rv.length;unfold pyNext;refine Ja<|Xu (Hu (name:=ofString "__next__") nz RD
   (Mo RD nz Y3
    (bIy (QT (A:=X.A.in1) hh i1 ⟨zs.toArray⟩ t hn) hh D hz (OT hz) zj Zj h1 h2 p.isList (by
     by_cases hi:zs.length<=i
     .refine .inl λs' Q E st hE=>bIz (A:=X.A.in1) hh hn st (by simpa using hi) hE
     .exact .inr ⟨by simpa using hi,by simp;omega⟩) λh' e tk hk he=>?_) (PySem.F.args_zip_next_1 _)))
  obtain⟨o,ho,Ur⟩:=he;refine Ja<|iE (T:="StopIteration") (b:=true) ⟨o,ho,Ur⟩ isSubtype_stop ?_;refine Zb ⟨rfl,?_⟩;have fo:∀b∈[z,TI,TO,i1,i2],H b=none:=λb hb=>(hf b hb).1
  have mx:∀b:Addr,b∉[z,TI,TO,i1,i2]->b≠z/\b≠TO/\b≠i1/\b≠i2:=λb hb=>⟨λq=>hb (by simp[q]),λq=>hb (by simp[q]),λq=>hb (by simp[q]),λq=>hb<|by simp[q]⟩
  have kp:∀b o,b∉[z,TI,TO,i1,i2]->s.heap.get? b=some o->h'.get? b=some o:=λb o hb q=>hk b o (mx b hb).1 (mx b hb).2.1 (mx b hb).2.2.1 (mx b hb).2.2.2 q
  have un:Un (De X.stack) [z,TI,TO,i1,i2] H H s.heap h':=
   ⟨λb o q n hb hx=>kp b o hx q,λb o q n hb hx=>⟨o.slots,kp b o hx q⟩,λb o q n hx=>n,λb o q hx=>⟨o,kp b o hx q⟩,λb ys q=>q,λb o u' q=>q,λb ps q=>⟨#[],by rw[Array.append_empty];exact q⟩⟩
  have ib:Ze X.prog X.w H h':=λb u' q=>by
   refine(I.ib b u' q).ph (λc v Si q'=>?_) (λc q'=>q') λc ys q'=>q'
   have:∃Nz,H c=some Nz:=by
    rcases Si with z|z
    .exact⟨u',by rw[z];exact q⟩
    .exact⟨_,z⟩
   obtain⟨Nz,Uk⟩:=this;exact hk c v (bJ Uk<|fo z<|by simp) (bJ Uk<|fo TO<|by simp) (bJ Uk<|fo i1<|by simp) (bJ Uk<|fo i2<|by simp) q'
  exact I.call (g':=s.gens) (t':=tk) (d':=s.drawn) (ch:=[z,TI,TO,i1,i2]) un ib I.bare λb hb=>by
   have fb:=hf b hb;exact⟨fb.2.2.2.1,fb.2.1,fb.2.2.2.2.1,fb.2.2.2.2.2⟩
 self:=λ_ _ _ _ _ st h=>wpAny_pyIter_zip st.1 h
theorem OV:∀(z:List Nat)(ds:List D),(Nj z ds).length=min z.length ds.length
 |[],ds=>by simp[Nj]
 |c::z,[]=>by simp[Nj]
 |c::z,d::ds=>by rw[Nj,Te,Te,Te,OV];omega
theorem PV:∀(z:List Nat)(ds:List D)(i:Nat)(d:D),(Nj z ds)[i]?=some d->∃c e,z[i]?=some c/\ds[i]?=some e/\d=.tup [.str [c],e]
 |[],ds,i,d,h=>by simp[Nj]at h
 |c::z,[],i,d,h=>by simp[Nj]at h
 |c::z,e::ds,0,d,h=>by
  rw[Nj]at h;simp at h;exact⟨c,e,rfl,rfl,h.symm⟩
 |c::z,e::ds,i+1,d,h=>by
  rw[Nj,Zx]at h;obtain⟨c',e',h1,h2,h3⟩:=PV z ds i d h;exact⟨c',e',by simpa using h1,by simpa using h2,h3⟩
section
variable {a b:Expr}
def bN1{K:Frag} {l:Addr} (hq:Ae K (hide (A++B) H) l vs) (r:bI K (hide (A++B) H) ds vs):Bu K B A H (OF K z l) (Nj z ds):=by
 intro A' H' le own i;have gf:Ae K H' l vs:=(bN _ _).seq<|(Le.app le).seq hq;refine⟨λd hd=>?_,λhl=>⟨vs,gf,?_⟩⟩
 .obtain⟨c,e,h1,h2,rfl⟩:=PV z ds i d hd;obtain⟨v,hv,rv⟩:=r.get h2;refine⟨⟨(Og.mp h1).1,vs,v,gf,hv⟩,λx H3 y=>?_⟩
  obtain⟨T,c',v',rfl,hT,Si,rfl,h5⟩:=y;have hx:=h5 vs gf;rw[hv]at hx;cases hx;rw[h1]at Si;cases Si;exact⟨cL hT,NR own hT<|.cons (fL.mpr rfl)<|.cons (rv.mono<|Le.app le) .nil⟩
 .rw[OV]at hl;rw[r.length];omega
def bN2{x1}{tp p:Pos}(hm:X.mg "zip"=none)(ha:PE X a (tI X.K B f))(hb:PE X b (tI X.K B g))(hg:Gl X "zip":=by rfl)(hs:starEach [a,b] X.env=(false,eval a X.env)::starEach [b] X.env:=by rfl)(Ef:starEach [b] X.env=[(false,eval b X.env)]:=by rfl):L2.PI X (.Tuple Qk x1 tp) (.Call (.Name "zip" p) [a,b] [] pos) (Xl X.K B<|G0 f g):=by
 intro aa s σ H Rq I ⟨A,st,ds,rs,hd,q⟩;obtain⟨x,hx,h2⟩:=R.ma hd;obtain⟨y,hy,h3⟩:=R.ma h2;split at h3
 rotate_left
 .cases h3
 rename_i zs ws;cases h3;refine Call_<|jr I hg hm boot_zip<|Sx (qc ((cJ ha (cJ hb gM Ef) hs) pos aa s σ H (λvs H1=>∃v w,vs=[v,w]/\bG H H1/\Fb X.K (hide (A++B) H1) (.str zs) v/\Fb X.K (hide (A++B) H1) (.lst ws) w) I ⟨A,st,_,rs,hx,λv H1 s1 r1=>⟨A,st,_,rs.mono s1,hy,λw H2 s2 r2=>⟨v,w,rfl,s1.trans s2,r1.mono<|bG.hide s2,r2⟩⟩⟩) λus s1 ⟨vs,H1,I1,r1,v,w,hv,sm,rv,Bh⟩=>?_) hs<|by rw[Ef];rfl
 subst hv;obtain⟨u1,u2,rfl,ra,rb⟩:∃u1 u2,us=[u1,u2]/\L2.RelV v u1/\L2.RelV w u2:=by
  cases r1 with
  |cons ra rb=>
   cases rb with
   |cons rb rc=>
    cases rc;exact⟨_,_,rfl,ra,rb⟩
 obtain⟨l,ts,rfl,hq,rr⟩:=jR.mp Bh;have ev:=fL.mp rv;subst ev;obtain⟨t,rfl⟩:=(show ∃t,u1=Value.str ⟨zs.toArray⟩ t from ra)
 have eu:u2=Value.ref l:=rb;subst eu;obtain⟨Sa,rvv,pl,hz⟩:=I1.list<|(bN _ _).seq hq;have hlt:l<s1.heap.objs.size:=by
  obtain⟨o,e,_⟩:=pl.isList;exact Ud e
 refine ė pl.isList λh' E5 zj Zj Mm js hsz hk=>?_
 refine wpAny_pyIter_zip E5 ⟨s1.heap.objs.size+4,[s1.heap.objs.size+4,s1.heap.objs.size+2,s1.heap.objs.size+3,s1.heap.objs.size,s1.heap.objs.size+1],_,OF X.K zs l,H1,rfl,I1.kept (t':=s1.toks) hk,Ŷ (t:=t) (o_ ⟨zs.toArray⟩) l (s1.heap.objs.size+4) (s1.heap.objs.size+2) (s1.heap.objs.size+3) s1.heap.objs.size (s1.heap.objs.size+1)<|λl' e=>?_,⟨E5,zj,⟨_,_,Zj⟩,Mm,js⟩,λb hb=>?_,q _ H1 sm<|bN1 hq rr⟩
 .subst e;exact Ã hlt
 .simp only[mem_cons,not_mem_nil,or_false]at hb;rcases hb with rfl|rfl|rfl|rfl|rfl<;>exact I1.Hm (by simp)<|I1.ib.fresh<|by simp
end
section
variable {a b:Expr} {q:Pos}
def bN3{ta:TA}(hm:X.mg "range"=none)(ha:PA X [a] ta)(hg:Gl X "range":=by rfl)(hs:starEach [a] X.env=[(false,eval a X.env)]:=by rfl) :
  PE X (.Call (.Name "range" p1) [a] [] q) (λσ H Q=>ta σ H λvs H1=>∃j:Int,vs=[.int j]/\∀r,H1 r=none->Q (.ref r) (Ob H1 r<|.Jp 0 j)):=by
 intro aa s σ H Q I h;refine Call_<|jr I hg hm boot_range<|Sx (qc (ha q aa s σ H _ I h) λus s1 ⟨vs,H1,I1,r1,j,e,qq⟩=>?_) hs rfl
 subst e;cases r1 with
 |cons r rr=>
  cases rr;obtain⟨t,rfl⟩:=r;exact call_range_1 ⟨.ref s1.heap.objs.size,_,I1.laid (a:=s1.heap.objs.size) (o:=.Jp 0 j) (λb o e=>ud _ e) (Zc _) ⟨_,_,_,Vf _ rfl⟩,rfl,qq _<|I1.ib.fresh<|Zc _⟩
def Y'(hc:X.calm=true):lU X (.type "list") (λvs H Q=>∃r,∃j:Int,vs=[.ref r]/\H r=some (.Jp 0 j)/\-10000000<=j/\j<=10000000/\∀n,H n=none->Q (.ref n) (Ob H n<|.lst<|(List.range j.toNat).map λ(k:Nat)=>V.int (k:Int))):=by
 intro aa s σ H vs us Q I r h;obtain⟨l,j,rfl,hl,h1,h2,q⟩:=h;obtain⟨u,rfl,ru⟩:=r.one;obtain rfl:u=Value.ref l:=ru;obtain⟨t,u,v,ho⟩:=(show ∃t u v,s.heap.get? l=some {cls:=.type "range",data:=.fields #[.int 0 t,.int j u,.int 1 v]} from I.ib l _ hl)
 have hn:Builtin.Range.rangeSize 0 j 1=(j.toNat:Nat):=by rw[rangeSize_one];split<;>omega
 refine call_list_range (I.ok.hd hc) ho (small_one (by omega) (by omega) (by omega)<|by omega) hn (by omega) λh' tk xa c' hk hs hi=>?_
 refine⟨.ref s.heap.objs.size,_,I.laid (o:=.lst<|(List.range j.toNat).map λ(k:Nat)=>V.int (k:Int)) (t':=tk) hk (Zc _) ⟨?_,xa.toList,c',?_,by simpa using hs⟩,rfl,q _<|I.ib.fresh<|Nat.le_refl _⟩
 .rw[Yd,Nl,zq];omega
 .obtain⟨h3,h4⟩:=hi;have key:∀(n:Nat)(xs:List Value),xs.length=n->(∀(k:Nat) w,xs[k]?=some w->∃t,w=.int (0+(k:Int)*1) t)->Ca ((List.range n).map λ(k:Nat)=>V.int (k:Int)) xs:=by
   intro n
   induction n with
   |zero=>intro xs hx _;rw[Gu.mp hx];exact .nil
   |succ n ih=>
    intro xs hx hp;obtain⟨ys,y,rfl⟩:∃ys y,xs=ys++[y]:=by
     rcases B4 xs with e|⟨ys,y,e⟩
     .rw[e]at hx;simp at hx
     .exact⟨ys,y,by rw[e,C4]⟩
    have hy:ys.length=n:=by simpa using hx
    rw[List.range_succ,Qj];refine(ih ys hy λk w hk=>?_).append (.cons ?_ .nil)
    .exact hp k w (by rw[Io (Og.mp hk).1];exact hk)
    .obtain⟨t,e⟩:=hp n y (by rw[Tx (by omega),hy];simp)
     exact⟨t,by rw[e];simp⟩
  exact key _ _ (by simpa using h3) λk w hk=>by
   obtain⟨t,e⟩:=h4 k w (by simpa using hk)
   exact⟨t,e⟩
def Å{K:Frag} (n:Nat):bI K H (lN 0 n) ((List.range n).map λ(k:Nat)=>V.int (k:Int)):=by
 unfold lN;generalize List.range n=l
 induction l with
 |nil=>exact .nil
 |cons x l ih=>exact .cons (bR.mpr<|by rw[Int.zero_add]) ih
def QV(hm:X.mg "list"=none)(hr:X.mg "range"=none)(hc:X.calm=true)(ha:PE X a (tP X.K B f))(hg:Gl X "list":=by rfl)(Xh:Gl X "range":=by rfl)(hs:Lf a [] X.env:=by rfl)(Ef:starEach [Expr.Call (.Name "range" p1) [a] [] q] X.env=(false,eval (.Call (.Name "range" p1) [a] [] q) X.env)::starEach [] X.env:=by rfl) :
  PE X (.Call (.Name "list" p0) [.Call (.Name "range" p1) [a] [] q] [] pos) (tI X.K B<|e1 vw f):=by
 refine cP (yE (Y' hc) hg hm (by rfl) (cJ (bN3 hr (cJ ha gM hs) Xh hs) gM Ef) (he:=Ef)) ?_
 rintro σ H Q ⟨A,st,d,rs,hd,qq⟩;obtain⟨x,hx,h2⟩:=R.ma hd;refine⟨A,st,x,rs,hx,λv H1 s1 r1=>?_⟩
 cases x<;>first|(cases h2;done)|skip
 rename_i j;obtain⟨c,h3⟩:=aU h2;cases h3;rw[pM]at c;refine⟨j,by rw[r1.int],λr hr=>⟨r,j,rfl,cD,by omega,by omega,λn hn=>?_⟩⟩
 have w1:=rs.own.mono<|s1.trans<|cL (o:=.Jp 0 j) hr;exact qq _ _ (s1.trans<|(cL hr).trans<|cL hn)<|kJ w1 hn<|Å _
def bJ0(i:Nat) {dp:Pos} (hk:PE X a (tI X.K B g)) (hv:PE X b (tI X.K B f)) (hN:X.N.Nodup) (hi:X.N[i]?=some x:=by rfl) (hx:Loc X.env.scope x:=by exact Ip rfl) (hs:Hj (.Dict [some a] [b] dp) (some<|.Name x pos') pos.line X.env:=by rfl)
  (hf:Vl X x:=by first|exact .inl rfl|exact .inr rfl|assumption):PS X (.Assign [.Name x pos'] (.Dict [some a] [b] dp) pos) (tS X.K B<|cK i g f):=gU (Ew hN hi hx (bGs (Ĺ hk hv bGr) rfl rfl (by simp)<|show 1<=15 by omega) hs hf) (by
 rintro Dn σ H ⟨A,st,r,rs,hr,p⟩;obtain⟨k,hk,h2⟩:=R.ma hr;obtain⟨d,hd,h3⟩:=R.ma h2;obtain⟨⟨c1,c2⟩,h4⟩:=aU h3;cases h4;intro a ha;refine⟨A,st,k,rs.mono<|cL ha,hk,λu H1 s1 r1=>⟨A,st,d,(rs.mono<|cL ha).mono s1,hd,λv H2 s2 r2=>?_⟩⟩
 have e2:H2 a=some (.dK []):=s2 _ _<|s1 _ _ cD;obtain⟨kk,ek,ev⟩:∃kk:Dc,jB kk=k/\u=kV kk:=by
  cases k<;>first|(cases c1;done)|skip
  .exact⟨.inl _,rfl,bR.mp r1⟩
  .refine⟨.inr ⟨_⟩,?_,fL.mp r1⟩;simp[jB]
 refine⟨e2,[(kk,v)],by rw[ev];rfl,(show 1<=15 by omega),?_⟩
 let G:Hp:=λb=>if b=a then none else H2 b
 have sG:bG H G:=λb o z=>by
  have hb:b≠a:=bJ z ha;show (if b=a then none else H2 b)=_
  rw[gb hb];exact s2 _ _<|s1 _ _<|by rw[bU hb];exact z
 have gN:G a=none:=kb rfl;have eG:Ob H2 a (.dK<|Pt [] [(kk,v)])=Ob G a (.dK [(kk,v)]):=by
  funext b
  by_cases hb:b=a
  .subst hb;rw[cD,cD];rfl
  .rw[bU hb,bU hb];exact(gb hb).symm
 rw[eG];exact p (a::A) _ _ ((Le.of sG).trans<|HC gN)<|(rs.mono sG).Zs (kk:=.d false [k]) i gN (.inl ⟨rfl,[(kk,v)],rfl,by rw[<-ek];rfl,rfl⟩)<|.cons ((Ŵ c2 r2).mono bIx) .nil)
end
def bitAnd_nn{i j:Int}(h1:0<=i)(h2:0<=j):Builtin.bitAnd i j=((i.toNat&&&j.toNat:Nat):Int):=by
 unfold Builtin.bitAnd;rw[Uc h1,Uc h2]
def RV{i j:Int}(h1:0<=i)(h2:0<=j):Builtin.bitOr i j=((i.toNat|||j.toNat:Nat):Int):=by
 unfold Builtin.bitOr Builtin.bitAnd;have a1:¬ 0<=Builtin.bitNot i:=by unfold Builtin.bitNot;omega
 have a2:¬ 0<=Builtin.bitNot j:=by unfold Builtin.bitNot;omega
 rw[fe a1,fe a2];have e1:Builtin.bitNot (Builtin.bitNot i)=i:=by unfold Builtin.bitNot;omega
 have e2:Builtin.bitNot (Builtin.bitNot j)=j:=by unfold Builtin.bitNot;omega
 show Builtin.bitNot (Builtin.bitNot _)=_;rw[e1,e2];unfold Builtin.bitNot;omega
section
variable {a b o:Expr}
def sD(ha:PE X a (tP X.K B f))(hb:PE X b (tP X.K B g)):PE X (.BinOp a .LShift b pos) (tI X.K B<|e2 Cn f g):=
 ym bL1 (Uw (g:=λi j=>.int<|i*2^j.toNat) (λ_ _ _=>bR.mpr rfl) λx y d e=>by
  unfold Cn at e;split at e
  .obtain⟨c,e⟩:=aU e;cases e;exact⟨_,_,rfl,rfl,c,rfl⟩
  .cases e) ha hb
def xr(ha:PE X a (tP X.K B f))(hb:PE X b (tP X.K B g)):PE X (.BinOp a .RShift b pos) (tI X.K B<|e2 yG f g):=
 ym bL2 (Uw (g:=λi j=>.int<|i/2^j.toNat) (λ_ _ _=>bR.mpr rfl) λx y d e=>by
  unfold yG at e;split at e
  .obtain⟨c,e⟩:=aU e;cases e;exact⟨_,_,rfl,rfl,c,rfl⟩
  .cases e) ha hb
def nR(ha:PE X a (tP X.K B f))(hb:PE X b (tP X.K B g)):PE X (.BinOp a .BitAnd b pos) (tI X.K B<|e2 qJ f g):=
 ym bL3 (wX (g:=λi j=>.int<|Builtin.bitAnd i j) (λ_ _ _=>bR.mpr rfl) λx y d e=>by
  unfold qJ at e;split at e
  .obtain⟨c,e⟩:=aU e;cases e;exact⟨_,_,rfl,rfl,by rw[bitAnd_nn c.1 c.2]⟩
  .cases e) ha hb
def yr(ha:PE X a (tP X.K B f))(hb:PE X b (tP X.K B g)):PE X (.BinOp a .BitOr b pos) (tI X.K B<|e2 Xj f g):=
 ym bOd (wX (g:=λi j=>.int<|Builtin.bitOr i j) (λ_ _ _=>bR.mpr rfl) λx y d e=>by
  unfold Xj at e;split at e
  .obtain⟨c,e⟩:=aU e;cases e;exact⟨_,_,rfl,rfl,by rw[RV c.1 c.2]⟩
  .cases e) ha hb
theorem AS{K:Frag}{H:Hp}:∀{l:List Int}{vs:List V},bI K H (l.map D.int) vs->vs=l.map V.int
 |[],vs,h=>dU.mp h
 |i::l,vs,h=>by
  obtain⟨v,r,rfl,h1,h2⟩:=bZ.mp h;rw[bR.mp h1,AS h2];rfl
theorem Qd:∀{l:List Int}{us:List Value},Ca (l.map V.int) us->∀(j:Nat)(h:j<us.length),∃i t,l[j]?=some i/\us[j]=.int i t
 |[],us,r,j,h=>by cases r;simp at h
 |i::l,us,r,j,h=>by
  cases r with
  |cons ra rb=>
   obtain⟨t,rfl⟩:=ra;cases j with
   |zero=>exact⟨i,t,rfl,rfl⟩
   |succ j=>
    obtain⟨i',t',h1,h2⟩:=Qd rb j (by simpa using h)
    exact⟨i',t',by simpa using h1,by simpa using h2⟩
def Ę:mm X "list.index" (λx vs H Q=>∃(p:Addr)(l:List Int)(k:Int)(n:Nat),x=V.ref p/\vs=[.int k]/\Ae X.K H p (l.map V.int)/\l.findIdx? (λi=>i==k)=some n/\l.length<=10000000/\Q (.int (n:Int)) H):=by
 intro aa s σ H x vs v us Q I rx rv h;obtain⟨p,l,k,n,rfl,rfl,hq,hn,hl,q⟩:=h;obtain⟨u,rfl,ru⟩:=rv.one;obtain⟨t,rfl⟩:=(show ∃t,u=Value.int k t from ru)
 have ep:v=Value.ref p:=rx;subst ep;obtain⟨Sa,rr,⟨⟨cls,dd,data,sl⟩,n0,ho,hc,_,hd⟩,hz⟩:=I.list hq;have Pc:=rr.length;rw[Yd]at Pc;obtain⟨h1,h2,h3⟩:=O2.mp hn;dsimp only at hc hd;subst hc hd;have o5:n<Sa.length:=by omega
 refine Lr M3 ⟨_,ho,rfl⟩ PySem.F.entry_list_index (PySem.F.args_list_index_2 _ _) (PySem.SeqAt.list_indexAt p Sa.toArray n0 dd sl (.int k t) (λy=>match y with|.int i _=>i==k|_=>false) n (by simpa using o5) (by omega) ?_ λm hm hmn=>?_) ⟨ho,λy hy=>?_,?_⟩
 .obtain⟨i,t',e1,e2⟩:=Qd rr n o5;rw[M4,e2];rw[Nf h1]at e1;cases e1;exact h2
 .have Lv:m<Sa.length:=by simpa using hm
  obtain⟨i,t',e1,e2⟩:=Qd rr m Lv;rw[M4,e2];rw[Nf (by omega)]at e1
  cases e1;have:=h3 m hmn;simpa using this
 .obtain⟨m,hm,rfl⟩:=Ux.mp (show y∈Sa by simpa using hy)
  obtain⟨i,t',e1,e2⟩:=Qd rr m hm;rw[e2];exact(PySem.MeetsSeq.EqGives.int i k t' t).at _ _
 .exact⟨.int (n:Int),H,I.tok _,⟨_,rfl⟩,q⟩
def ŷ{r:ue}(ho:PE X o (tP X.K B f))(ha:PA X [e] (tA X.K B r))(fc:Ah o "index" X.env:=by rfl)
  (Df:jl Ta [e] X.env:=by rfl)
  (Ac:Bi xb Ta:=by rfl) (hs:Lf e [] X.env:=by rfl) :
  PE X (.Call (.Attribute o "index" xb) [e] [] Ta) (tI X.K B<|Ln TC f r):=by
 refine cP (Zt ND M3 PySem.F.type_list_index Ę ho ha fc Df Ac hs rfl) ?_
 rintro σ H Q ⟨A,st,d,rs,hd,k⟩;obtain⟨x,hx,h2⟩:=R.ma hd;obtain⟨xs,Js,h3⟩:=R.ma h2;unfold TC at h3;split at h3
 .rename_i ys j;obtain⟨l,hl,h4⟩:=R.ma h3;obtain⟨n,hn,h5⟩:=R.ma h4;obtain⟨c,h6⟩:=aU h5;cases h6;have ey:=cw hl;subst ey;refine⟨A,st,_,rs,hx,λv H1 s1 r1=>?_⟩
  obtain⟨p,vs,e1,hq,rr⟩:=r1.lst;have ev:=AS rr;subst ev;refine⟨by rw[e1];exact .inl ⟨rfl,_,hq⟩,A,st,_,rs.mono s1,Js,λws H2 s2 r2=>?_⟩
  obtain⟨w,rfl,Bh⟩:=ZC r2;rw[pM,Yd]at c;exact⟨p,l,j,n,e1,by rw[bR.mp Bh],s2.seq hq,Yp hn,c,k _ H2 (s1.trans s2)<|bR.mpr rfl⟩
 .cases h3
def bJ1:mm X "int.bit_length" (λx vs H Q=>∃i:Int,x=.int i/\vs=[]/\Q (.int ((Builtin.Int.intBits i:Nat):Int)) H):=by
 intro aa s σ H x vs v us Q I rx rv h;obtain⟨i,rfl,rfl,q⟩:=h;obtain⟨t,rfl⟩:=(show ∃t,v=Value.int i t from rx)
 have dk:=rv.zero;subst dk;exact call_int_bit_length ⟨.int _,H,I.tok _,⟨_,rfl⟩,q⟩
def bJ2(i:Int):Builtin.Int.intBits i=tX i:=by
 unfold Builtin.Int.intBits tX
 by_cases h:i=0
 .rw[kb h,kb (by rw[h];rfl)]
 .rw[gb h,gb (by simpa using h)]
def bN4(ho:PE X o (tP X.K B f))(fc:Ah o "bit_length" X.env:=by rfl)(Ac:Bi xb Ta:=by rfl) :
  PE X (.Call (.Attribute o "bit_length" xb) [] [] Ta) (tI X.K B<|e1 yB f):=by
 refine cP (WB PySem.F.plainAttrs_int PySem.F.slot_int_bit_length PySem.F.type_int_bit_length bJ1 ho fc Ac) ?_
 rintro σ H Q ⟨A,st,d,rs,hd,k⟩;obtain⟨x,hx,h2⟩:=R.ma hd;cases x<;>first|(cases h2;done)|skip
 cases h2;refine⟨A,st,_,rs,hx,λv H1 s1 r1=>⟨by rw[r1.int];rfl,_,r1.int,rfl,?_⟩⟩
 rw[bJ2];exact k _ H1 s1<|bR.mpr rfl
end
section
open PySem.SeqAt
open PySem.AutoSeq1 (wpAny_loadPart')
open PySem.MeetsSeq PySem.MeetsSeq2 PySem.MeetsSeq3
inductive Bk (A:Around) (s:Shared):List Value->List Value->Bool->Prop where
 |nn:Bk A s [] [] true
 |nc {w:Value} {ws:List Value}:Bk A s [] (w::ws) true
 |cn {v:Value} {vs:List Value}:Bk A s (v::vs) [] false
 |eq {v w:Value} {vs ws:List Value} {b:Bool}:EqAt A s v w true->Bk A s vs ws b->Bk A s (v::vs) (w::ws) b
 |lt {v w:Value} {vs ws:List Value} {b:Bool}:EqAt A s v w false->(∀(prog:Program)(wd:World)(E Q:Value->Shared->Prop),Q (.bool b) s->wpAny (model prog wd) A (richCompare .LtE v w) Q E s)->Bk A s (v::vs) (w::ws) b
end
def bN5{k:Dc} (h:sr k u=true):L2.RelV (kV k) u:=by
 rcases iC h with ⟨i,t,rfl,rfl⟩|⟨x,t,rfl,rfl⟩
 .exact⟨t,rfl⟩
 .exact⟨t,rfl⟩
section
variable {a:Expr}
def bN6{vs:List (Dc×Value)}(r:KV oa vs):vs.length=oa.length:=by
 unfold KV at r
 induction r with
 |nil=>rfl
 |cons _ _ ih=>simp[ih]
end
end Pu
namespace Pu
section
open PySem PySem.Spec PyProof.Rows L2
variable {a b:Expr}
def Mt{K:Frag}:yX K (mj λi j=>.bl<|decide (i<j)) Ck:=wX (g:=λi j=>.bl<|decide (i<j)) (λ_ _ _=>cU.mpr rfl) λx y d e=>by
 unfold Ck at e;split at e
 .cases e;exact⟨_,_,rfl,rfl,rfl⟩
 .cases e
def Ÿ{i j:Int}(c:(-18446744073709551616<i/\i<18446744073709551616)\/(-18446744073709551616<j/\j<18446744073709551616)):Jx i j:=by
 unfold Jx;omega
def qr(ha:PE X a (tP X.K B f))(hb:PE X b (tP X.K B g)):PE X (.BinOp a .Mult b pos) (tI X.K B<|e2 wG f g):=by
 refine ym bKy ?_ ha hb;intro A H x y d v u Q w rx ry e q;unfold wG at e;split at e
 .obtain⟨c,e⟩:=aU e;cases e;exact⟨_,_,rx.int,ry.int,Ÿ c,q _ H (bG.refl _)<|bR.mpr rfl⟩
 .cases e
end
end Pu
namespace Pu
open PySem PySem.Spec PyProof.Rows L2
def N2{K:Frag} {p:Addr} (s1:bG H H1) (hp:H1 p=none) (s2:bG H1 H') (hv:H' p=some (.lst vs)) (r:bI K (hide (A++p::B) H') ds vs):∃G,bG H G/\G p=none/\Ob G p (.lst vs)=H'/\bI K (hide (A++B) G) ds vs:=by
 let G:Hp:=λb=>if b=p then none else H' b
 have gN:G p=none:=kb rfl;refine⟨G,λb o z=>?_,gN,?_,r.mono λb o z=>?_⟩
 .have hb:b≠p:=bJ (s1 _ _ z) hp;show (if b=p then none else H' b)=_
  rw[gb hb];exact s2 _ _<|s1 _ _ z
 .funext b
  by_cases hb:b=p
  .subst hb;rw[cD,hv]
  .rw[bU hb];exact gb hb
 .have hb:b∉A++p::B:=λw=>by rw[jT w]at z;cases z
  have z1:=bN _ _ _ _ z;rw[cR λw=>hb<|mem_mid.mpr<|.inr w]
  show (if b=p then none else H' b)=_
  rw[gb λw=>hb<|mem_mid.mpr<|.inl w]
  exact z1
section
variable {iter:Expr} {t:Tg} {h:Ex} {rest:List Stmt}
def bN7{is:List Nat}(hi:L2.PI X tg iter (Xl X.K B it))(hg:∀(B:List Addr)(C:Addr)(Ba:Shared)(Ka:Hp)(fp:List Addr),PG (cM X scope C Ba Ka fp) tg<|tG X.K B t)
  (he:∀(B:List Addr)(C:Addr)(Ba:Shared)(Ka:Hp)(fp:List Addr),PE (cM X scope C Ba Ka fp) elt<|tI X.K B f) (hc:X.calm=true:=by rfl) (hsub:gq is t:=by exact qu) (S:Tc X scope is:=by exact .of rfl) (hs:∀x,foldedSetIterable iter X.env x=pure x:=by intro _;rfl) :
  PE X (.ListComp elt [⟨tg,iter,[],0⟩] scope pos) (tF X.K B<|cN is t it dB f):=by
 intro aa s σ H Q I h;obtain⟨A,st,d,rs,hd,q⟩:=h;obtain⟨xs,hx,h2⟩:=R.ma hd;obtain⟨hl,h3⟩:=aU h2;obtain⟨ys,hy,h4⟩:=R.ma h3;cases h4;rw[vE];refine uV (use:=none) (Qf:=EP X aa σ Q) (Q:=Q) (tt:=LB) (te:=Xn X.K f) (rest:=λenv it p=>eval elt env >>= λx=>call (.builtin "list.append") [p,x] >>= λ_=>again<|.compLoop (.ListComp elt [⟨tg,iter,[],0⟩] scope pos) 0 it p env) S hc hi (λC Ba Ka fp=>Du λB=>hg B C Ba Ka fp) (λ_ _ _=>rA)
  (λC Ba Ka fp it p s Q h=>JL (Y:=cM X scope C Ba Ka fp) h) (λC Ba Ka fp it p τ H s aa vs N Q I h q=>kL (Y:=cM X scope C Ba Ka fp) rfl (Cu λB=>he B C Ba Ka fp) τ H s aa vs N Q I h (λQ Q' m h=>zA Q Q' m h) q) hs I
  (su hsub (λτ H Q ⟨B,A,st,k,rs,hk,q⟩=>?_) rs hx hl hy λp vs H1 H' s1 hp s2 hv r=>?_) λC p H5 s5 m5 s3 H3 fp τ hC I3 Ti I5 Cj q5=>⟨m5,Cj,λh' xp=>⟨.ref p,H5,Bw I3 Ti hC I5 xp,rfl,q5⟩⟩
 .obtain⟨G,g1,g2,g3,g4⟩:=N2 s1 hp s2 hv r;have:=q p vs G g1 g2 g4;rw[g3]at this;exact this
 .cases hk;exact q H<|bG.refl _
end
def Fx(v d:Addr):HO:=.ext λh=>h.IsItemsView v d
section
variable {σ:List (Option V)}
def Ź(I:ya X aa σ H s)(k:∀b u,s.heap.get? b=some u->h'.get? b=some u)(sm:bG H H')(hn:∀b,b<s.heap.objs.size->H' b=H b)(new:∀a o,H a=none->H' a=some o->jN X.prog X.w H' h' a o):ya X aa σ H' {s with heap:=h',toks:=t'}:=by
 refine I.un ⟨λb u q _ _ _=>k b u q,λb u q _ _ _=>⟨u.slots,k b u q⟩,λb u q n _=>by rw[hn b<|Ud q];exact n,λb u q _=>⟨u,k b u q⟩,λb xs q=>sm _ _ q,λb u xs q=>sm _ _ q,λb ps q=>⟨#[],by rw[sm _ _ q];simp⟩⟩ λa o e=>?_
 cases hH:H a with
 |none=>exact new a o hH e
 |some u=>
  have z:=sm a u hH;rw[e]at z;cases z;exact(I.ib a _ hH).ph (λb v _ q=>k b v q) (λb q=>sm _ _ q) λb xs q=>sm _ _ q
def ź:mm X "dict.items" (λx vs H Q=>∃(d:Addr) (oa:List (Dc×V)),x=.ref d/\vs=[]/\H d=some (.dK oa)/\∀n,H n=none->Q (.ref n) (Ob H n<|Fx n d)):=by
 intro aa s σ H x vs v us Q I rx rv h;obtain⟨d,oa,rfl,rfl,hd,q⟩:=h;cases rx;have dk:=rv.zero;subst dk;obtain⟨hz,hs,xs,kv,hD⟩:=jo I.ib hd;refine wq N3 hD.typeIs PySem.F.entry_dict_items (PySem.F.args_dict_items_1 _) (meets_dict_items (dN X.prog X.w) d hs) ⟨⟨xs,hD⟩,?_⟩;have e:(s.heap.push {cls:=.type "dict_items",data:=.fields #[.ref d]}).get? s.heap.objs.size=some {cls:=.type "dict_items",data:=.fields #[.ref d]}:=Vf _ rfl;exact⟨.ref s.heap.objs.size,_,I.laid (o:=Fx s.heap.objs.size d) (t':=s.toks) (λb u q=>ud _ q) (Zc _) ⟨⟨_,e,rfl,rfl⟩,⟨_,e⟩,λh1 h2 ⟨o,ho,hc,hd⟩ k=>⟨o,k o ho,hc,hd⟩⟩,rfl,q _<|I.ib.fresh<|Zc _⟩
theorem MC:∀{oa:List (Dc×V)} {vs:List (Dc×Value)} {j:Nat} {k:Dc} {x:Value},KV oa vs->vs[j]?=some (k,x)->∃p,oa[j]?=some p/\p.1=k/\RelV p.2 x
 |_,_,j,k,x,.nil,e=>by simp at e
 |_,_,0,k,x,.cons h _,e=>by
  simp at e;subst e;exact⟨_,rfl,h.1,h.2⟩
 |_,_,j+1,k,x,.cons _ t,e=>by
  obtain⟨p,e1,e2⟩:=MC (j:=j) (k:=k) (x:=x) t (by simpa using e)
  exact⟨p,by simpa using e1,e2⟩
def Æ(hc:X.calm=true):lU X (.type "list") (λvs H Q=>∃(v d:Addr) (oa:List (Dc×V)),vs=[.ref v]/\H v=some (Fx v d)/\H d=some (.dK oa)/\
  ∀(n:Addr)(ps:List Addr)(H':Hp),bG H H'->H' n=none->ps.length=oa.length->(∀a∈ps,H a=none)->(∀(j:Nat)(a:Addr),ps[j]?=some a->∃p,oa[j]?=some p/\H' a=some (.tup [kV p.1,p.2]))->Q (.ref n) (Ob H' n<|.lst<|ps.map V.ref)):=by
 intro aa s σ H vs us Q I r h;obtain⟨v,d,oa,rfl,hv,hd,q⟩:=h;obtain⟨u,rfl,ru⟩:=r.one;obtain rfl:u=Value.ref v:=ru;obtain⟨hz,hs,xs,kv,hD⟩:=jo I.ib hd;have Pc:=bN6 kv;obtain⟨ep,Hv⟩:=hD.dictAt;obtain⟨gz,_,_⟩:=I.ib v _ hv;refine PySem.W.kdx_call (knd:=dN X.prog X.w) (I.ok.hd hc) gz Hv (by omega) λh' tk xa c as hk hS hl hG Ny=>?_
 have nd:as.Nodup:=hG.rise.imp Cf;have lo:∀a∈as,s.heap.objs.size<a:=hG.above;have nn:∀a∈as,H a=none:=λa ha=>I.ib.fresh<|gy<|lo a ha
 let G:Hp:=λb=>if b∈as then (oa[as.idxOf b]?).map (λp=>.tup [kV p.1,p.2]) else H b
 have sG:bG H G:=λb o e=>by
  show (if b∈as then _ else H b)=_
  rw[gb λz=>by rw[nn b z]at e;cases e]
  exact e
 have gN:G s.heap.objs.size=none:=by
  show (if _∈as then _ else H _)=_
  rw[gb λz=>Oi _<|lo _ z]
  exact I.ib.fresh<|Zc _
 have gA:∀(j:Nat)(a:Addr),as[j]?=some a->∃p,oa[j]?=some p/\G a=some (.tup [kV p.1,p.2]):=λj a e=>by
  obtain⟨key,k,x,e1,e2,e3⟩:=hG.pairs j a e;obtain⟨p,e4,e5,e6⟩:=MC kv e1;refine⟨p,e4,?_⟩;show (if a∈as then _ else H a)=_
  rw[kb<|Ek e];obtain⟨hj,ej⟩:=Og.mp e;rw[<-ej,nd.idxOf_getElem j hj,e4];rfl
 refine⟨.ref s.heap.objs.size,_,Ź (H':=Ob G s.heap.objs.size<|.lst<|as.map V.ref) (t':=tk) I hk (sG.trans<|cL gN) (λb hb=>?_)<|λa o ha e=>?_,rfl,q _ as G sG gN (by rw[hl];exact Pc) nn gA⟩
 .rw[bU<|Cf hb];show (if b∈as then _ else H b)=_
  rw[gb λz=>Oi _<|ky hb<|lo _ z]
 .by_cases hb:a=s.heap.objs.size
  .subst hb;rw[cD]at e;cases e;refine⟨by rw[Yd,hl];omega,xa.toList,c,?_,by simpa using hS⟩
   rw[Ny];clear Ny hG nd lo nn gA sG gN hl G
   induction as with
   |nil=>exact .nil
   |cons a as ih=>exact .cons rfl ih
  .rw[bU hb]at e;have Aj:a∈as:=by
    refine Am λz=>?_
    have e':(if a∈as then (oa[as.idxOf a]?).map (λp=>HO.tup [kV p.1,p.2]) else H a)=some o:=e
    rw[gb z,ha]at e';cases e'
   obtain⟨j,hj⟩:=Ju.mp Aj;obtain⟨p,e1,e2⟩:=gA j a hj;obtain⟨key,k,x,f1,f2,f3⟩:=hG.pairs j a hj;obtain⟨p',g1,g2,g3⟩:=MC kv f1;rw[e1]at g1;cases g1;rw[e2]at e;cases e;refine⟨by rw[zq];show 2<=16777216;decide,[key,x],.cons ?_<|.cons g3 .nil,_,f3,?_⟩
   .rw[g2];exact bN5 f2
   .exact⟨rfl,_,rfl⟩
theorem BS{K:Frag}{H:Hp}:∀(oa:List (Dc×V)) (ds:List D) (ps:List Addr),bI K H ds (oa.map (·.2))->ps.length=oa.length->(∀(j:Nat)(a:Addr),ps[j]?=some a->∃p,oa[j]?=some p/\H a=some (.tup [kV p.1,p.2]))->bI K H (List.zipWith (λk d=>.tup [k,d]) (oa.map λp=>jB p.1) ds) (ps.map V.ref)
 |[],ds,ps,_,hl,_=>by
  rw[Gu.mp hl];exact .nil
 |p::oa,[],ps,r,_,_=>by
  have:=r.length;simp at this
 |p::oa,d::ds,[],_,hl,_=>by simp at hl
 |p::oa,d::ds,a::ps,r,hl,h=>by
  obtain⟨v,rest,e,r1,r2⟩:=bZ.mp r;cases e;obtain⟨p',e1,e2⟩:=h 0 a rfl;cases e1;refine .cons (mw.mpr ⟨a,_,rfl,e2,.cons ?_<|.cons r1 .nil⟩)<|BS oa ds ps r2 (by simpa using hl) λj b hj=>?_
  .obtain⟨k,v⟩:=p;cases k with
   |inl i=>exact bR.mpr rfl
   |inr x=>exact fL.mpr (by simp[kV])
  .obtain⟨p',e1,e2⟩:=h (j+1) b (by simpa using hj)
   exact⟨p',by simpa using e1,e2⟩
end
section
variable{X:Cx}{B:List Addr}{a e:Expr}{es:List Expr}{f:Ex}{pos p0 xb Ta:Pos}{sm:Stmt}{rest:List Stmt}{bd Wj:Bd}{r:ue}
def bJ3(hm:X.mg "list"=none)(hc:X.calm=true)(ha:PE X a (tI X.K B f))(hg:Gl X "list":=by rfl)(fc:Ah a "items" X.env:=by rfl)(Ac:Bi xb Ta:=by rfl)
  (hs:starEach [.Call (.Attribute a "items" xb) [] [] Ta] X.env=(false,eval (.Call (.Attribute a "items" xb) [] [] Ta) X.env)::starEach [] X.env:=by rfl):PE X (.Call (.Name "list" p0) [.Call (.Attribute a "items" xb) [] [] Ta] [] pos) (tF X.K B<|e1 Jw f):=by
 refine cP (yE (Æ hc) hg hm (by rfl) (cJ (WB Fu N3 PySem.F.type_dict_items ź ha fc Ac) gM hs) (he:=hs)) ?_
 rintro σ H Q ⟨A,st,ds,rs,hd,q⟩;obtain⟨x,hx,h2⟩:=R.ma hd;refine⟨A,st,x,rs,hx,λv H1 s1 r1=>?_⟩
 unfold Jw at h2;split at h2
 .obtain⟨c,h3⟩:=aU h2;cases h3;obtain⟨p,vs,rfl,h4,r4⟩:=uN.mp r1;rcases h4 with ⟨_,oa,h5,rfl,rfl⟩|⟨h5,_⟩
  .have h6:=bN _ _ _ _ h5;refine⟨.inr<|.inr<|.inl ⟨rfl,.inl ⟨oa,h6⟩⟩,p,oa,rfl,rfl,h6,λn hn=>⟨n,p,oa,rfl,cD,by rw[bU<|bJ h6 hn];exact h6,λm ps H' s2 Lv hl UN hp=>?_⟩⟩
   have s3:=(cL (o:=Fx n p) hn).trans s2;refine q m _ H' (s1.trans s3) Lv<|BS oa _ ps (r4.mono<|bG.hide s3) hl λj b hj=>?_
   obtain⟨p',e1,e2⟩:=hp j b hj;have hb:=UN b<|Ek hj;exact⟨p',e1,by rw[cR<|(rs.own.mono<|s1.trans<|cL (o:=Fx n p) hn).free hb];exact e2⟩
  .cases h5
 .cases h2
def Jz(K:Frag)(B:List Addr)(b:Bd)(f:Ex):TS:=λDn σ H=>∃A st st' xs,RS K B A H st σ/\b st=.ok (.nx st')/\f st'=.ok (.lst xs)/\∀A' a vs H',Le A H A' H'->a∈A'->H' a=some (.lst vs)->bI K (hide (A'++B) H') xs vs->Dn.rt (.ref a) H'
def TB(h1:PS X sm (tS X.K B bd))(h2:we X rest (Jz X.K B Wj f)):we X (sm::rest) (Jz X.K B (aY bd Wj) f):=wW (EA h1 h2) (by
 rintro Dn σ H ⟨A,st,st',xs,rs,hb,hi,q⟩;unfold aY vm at hb;obtain⟨fl,We,h3⟩:=R.ma hb;refine⟨A,st,fl,rs,We,?_⟩;cases fl with
 |nx s1=>exact λA' Eb H' l rs'=>⟨A',s1,st',xs,rs',h3,hi,λA2 a vs H2 l2=>q A2 a vs H2<|l.trans l2⟩
 |rt d=>cases h3
 |bk s1=>cases h3
 |ct s1=>cases h3)
def NK(he:PE X e (tF X.K B f)):we X [.Return (some e) pos] (Jz X.K B cO f):=wW (qB<|RJ he) (by
 rintro Dn σ H ⟨A,st,st',xs,rs,hb,hf,q⟩;cases hb;exact⟨A,st,xs,rs,hf,λp vs H' s hp r=>q (p::A) p vs (Ob H' p<|.lst vs) ((Le.of s).trans<|HC hp) Jb cD<|r.mono<|WA hp⟩)
end
section
variable {K:Frag} {st:Stmt} {f:Addr} {k:Nat}
def ML(F:Pa K x qual st dV f fd)(S:jd N ps (bM st))(np n:Nat)(bd:Bd)(g:Ex)(Om:ps.length=np)(hn:N.length=n)
  (hb:∀(Cc:Value)(A:Around)(outer:List Env)(s:Shared)(H:Hp)(E:XK)(B:List Addr),dc k (A.deeper<|envOfC qual (bM st) s.heap.objs.size f Cc)->
   we (sj Ib P w K mg base N qual (bM st) f Cc A outer s H E).Vg (eX st) (Jz K B bd g)):Aa P w K mg base Ib (k+1) f fd ps (vk K np<|bV np n<|sS bd g):=by
 refine F.Tn S (λvs H Q E h=>?_)<|λCc A outer s H vs Q E hr h=>?_
 .obtain⟨A,ds,d,own,r,hl,_⟩:=h;rw[r.length,hl,Om]
 .obtain⟨B,ds,xs,own,r,hl,hp,q⟩:=h;refine⟨Jz K B bd g,hb Cc A outer s H E B hr,?_⟩;obtain⟨_,h2⟩:=aU hp;obtain⟨fl,We,h3⟩:=R.ma h2;have rs:=YA (N:=N) own r;rw[hl,hn]at rs;unfold sS at We;split at We
  .rename_i s1 FN;obtain⟨d,hd,h4⟩:=R.ma We;split at h4
   .cases h4;cases h3;refine⟨[],_,s1,_,rs,FN,hd,λA' a Fg H' l ha hv rv=>?_⟩
    have sm:bG H H':=by
     unfold Le at l;rw[vP]at l;exact l.trans<|bN _ _
    refine q a Fg H' sm ?_ hv<|rv.mono<|lL λb hb=>?_
    .cases hH:H a with
     |none=>rfl
     |some o=>
      have z:=l a o (by rw[vP];exact hH)
      rw[jT ha]at z;cases z
    .rcases Kc.mp hb with rfl|hb
     .exact Fh _ ha
     .exact Pg _ hb
   .cases h4
  .cases We
def ę(ds:List D)(d:D)(h:bV np n (sS bd g) ds=.ok d):∃xs,d=.lst xs:=by
 obtain⟨_,h2⟩:=aU h;obtain⟨fl,We,h3⟩:=R.ma h2;unfold sS at We;split at We
 .obtain⟨d,hd,h4⟩:=R.ma We;split at h4
  .cases h4;cases h3;exact⟨_,rfl⟩
  .cases h4
 .cases We
end
structure Wd(P:Program)(w:World)(K:Frag)(mg:Str->Option Value)(base:Heap)(x:Str)(k np:Nat)(p:List D->R D):Prop where
 ex:∃(fa:Addr)(fd:FuncData)(ps:List Str),Aa P w K mg base Ib k fa fd ps (vk K np p)/\mg x=some (.ref fa)/\keepIn K (.ref fa)=true/\Binds K fd ps []
 len:∀ds d,p ds=.ok d->ds.length=np
 lst:∀ds d,p ds=.ok d->∃xs,d=.lst xs
def Wd.of{K:Frag} {k:Nat} (h:Aa P w K mg base Ib k fa fd ps (vk K np<|bV np n<|sS bd g)) (m:mg x=some (.ref fa))
  (kp:keepIn K (.ref fa)=true) (b:Binds K fd ps []):Wd P w K mg base x k np (bV np n<|sS bd g):=⟨⟨fa,fd,ps,h,m,kp,b⟩,ZA,ę⟩
def Wd.plain{K:Frag} {k:Nat} (h:Wd P w K mg base x k np p):Ga P w K mg base x k np p:=by
 obtain⟨fa,fd,ps,F,m,kp,bd⟩:=h.ex;exact⟨⟨fa,fd,ps,MT h.lst F,m,kp,bd⟩,h.len⟩
section
variable {r:ue}
def bJ4{k:Nat} (h:Wd X.prog X.w X.K X.mg X.base x k np p) (hr:dc j X.A) (hk:k<=j) (ha:PA X (e::es) (tA X.K B r)) (hg:Gl X x:=by rfl) (Rf:xf x:=by decide)
  (he:Lf e es X.env:=by rfl) (ff:Ci pos es X.env:=by rfl):PE X (.Call (.Name x p0) (e::es) [] pos) (tF X.K B<|aO p r):=by
 obtain⟨fa,fd,ps,F,m,kp,bd⟩:=h.ex;refine cP (LI F (hr.mono hk) hg m kp bd .nil ix ha Rf he ff) ?_
 rintro σ H Q ⟨A,st,d,rs,hd,q⟩;obtain⟨xs,hx,h2⟩:=R.ma hd;refine⟨A,st,xs,rs,hx,λvs H1 s1 r1=>?_⟩
 show vk X.K np p (vs++[]) H1 Q E0;rw[uh];refine⟨A++B,xs,d,rs.own.mono s1,r1,h.len _ _ h2,h2,λa ws H' s' Aj hv rv=>?_⟩
 have e0:Ob (hide [a] H') a (.lst ws)=H':=by
  funext b
  by_cases hb:b=a
  .subst hb;rw[cD];exact hv.symm
  .rw[bU hb,cR (by simpa using hb)]
 have z:=q a ws (hide [a] H') (λb u hz=>?_) (jT<|by simp) ?_
 .rw[e0]at z;exact z
 .have jz:=s1 _ _ hz;rw[cR (by simpa using bJ jz Aj)]
  exact s' _ _ jz
 .refine rv.mono λb u hz=>?_
  have hb:b∉a::(A++B):=λy=>by rw[jT y]at hz;cases hz
  rw[cR λy=>hb<|Qb _ y,cR (by simpa using λy=>hb<|by rw[y];exact Jb)]
  exact bN _ _ _ _ hz
end
structure DA(K:Frag)(n:Str)(st:Stmt):Prop where
 ex:∃(f:Addr)(fd:FuncData),nsIn K mainGlobals n=some (some<|.ref f)/\Pa K n n st .none f fd
section
variable{P:Program}{w:World}{K:Frag}{h base:Heap}{mg:Str->Option Value}{n:Str}{st:Stmt}{f:Addr}{ps:List Str}{k np m:Nat}{p:List D->R D}{bd:Bd}{g:Ex}
def cI{od:Option Addr}{kV:Value} (a:nsIn K mainGlobals n=some (some<|.ref f)) (l:K.lookup f=some ⟨oc,od,.func<|fnOf n n (jQ st) (eX st) (bM st) .none kV doc pm an Cc ct,Ai⟩)
  (c:codeIn K Cc n=true) (k:keepIn K (.ref f)=true):DA K n st:=⟨⟨f,_,a,PB l c k⟩⟩
structure Ct(P:Program)(w:World)(K:Frag)(mg:Str->Option Value)(base h:Heap):Prop where
 X:K.In h
 G:h.Ns mainGlobals mg
def Bn(n:Str)(st:Stmt)(ps:List Str):Prop:=∀(kV doc pm:Value)(an:Option Addr)(Cc ct:Value)(us:List Value),us.length=ps.length->bindArgs (fnOf n n (jQ st) (eX st) (bM st) .none kV doc pm an Cc ct) ⟨us,[]⟩=pure (ps.zip us)
structure Rz(n q:Str)(st:Stmt)(ps:List Str):Prop where
 ok:∀(kV doc pm:Value)(an:Option Addr)(Cc ct:Value)(us:List Value),us.length=ps.length->bindArgs (fnOf n q (jQ st) (eX st) (bM st) .none kV doc pm an Cc ct) ⟨us,[]⟩=pure (ps.zip us):=by first|exact λ_ _ _ _ _ _=>YX rfl|exact λ_ _ _ _ _ _=>OJ λ_=>rfl|exact λ_ _ _ _ _ _=>ZX λ_ _=>rfl|exact λ_ _ _ _ _ _=>RB λ_ _ _=>rfl|exact λ_ _ _ _ _ _=>yY λ_ _ _ _=>rfl|exact λ_ _ _ _ _ _=>AY λ_ _ _ _ _=>rfl|exact λ_ _ _ _ _ _=>bIw λ_ _ _ _ _ _=>rfl
def DA.use(D:DA K n st)(C:Ct P w K mg base h)(b:Bn n st ps):∃(f:Addr)(fd:FuncData),Pa K n n st .none f fd/\mg n=some (.ref f)/\Binds K fd ps []:=by
 obtain⟨f,fd,a,F⟩:=D.ex;exact⟨f,fd,F,si C.X C.G a,F.fh b⟩
theorem DA.ok(D:DA K n st)(C:Ct P w K mg base h)(r:∀{f:Addr}{fd:FuncData},Pa K n n st .none f fd->Aa P w K mg base Ib k f fd ps (jc K np<|bV np m bd))(b:Rz n n st ps:=by exact {}):Ga P w K mg base n k np (bV np m bd):=by
 obtain⟨f,fd,F,a,z⟩:=D.use C b.ok;exact .of (r F) a F.kp z ZA
def DA.bP(D:DA K n st)(C:Ct P w K mg base h)(r:∀{f:Addr}{fd:FuncData},Pa K n n st .none f fd->Aa P w K mg base Ib k f fd ps (vk K np<|bV np m<|sS bd g))(b:Rz n n st ps:=by exact {}):Wd P w K mg base n k np (bV np m<|sS bd g):=by
 obtain⟨f,fd,F,a,z⟩:=D.use C b.ok;exact .of (r F) a F.kp z
structure MA(K:Frag)(C:Addr)(m:String)(n q:Str)(st:Stmt):Prop where
 ex:∃(f:Addr)(fd:FuncData),Meth K C (ofString m) f/\Pa K n q st .none f fd
def qD{m:String}{q:Str}{od:Option Addr}{kV:Value} (a:findIn K (.ref C) (ofString m)=some (some<|.ref f)) (e:isFn K (.ref f)=true) (l:K.lookup f=some ⟨oc,od,.func<|fnOf n q (jQ st) (eX st) (bM st) .none kV doc pm an Cc ct,Ai⟩)
  (c:codeIn K Cc q=true) (k:keepIn K (.ref f)=true):MA K C m n q st:=⟨⟨f,_,⟨a,e,k⟩,PB l c k⟩⟩
theorem MA.ok{C:Addr}{c m:String}{q:Str}{j:Nat}(D:MA K C m n q st)(_:Ct P w K mg base h)(hc:ClsAt K c C)(r:∀{f:Addr}{fd:FuncData},Pa K n q st .none f fd->Aa P w K mg base Ib k f fd ps (jc K np<|bV np j bd))(b:Rz n q st ps:=by exact {}):uc P w K mg base c m k np [] (bV np j bd):=by
 obtain⟨f,fd,M,F⟩:=D.ex;exact uc.of (Xd:=[]) hc M (r F) (F.fh b.ok) .nil λ_=>.nil
end
structure XA(K:Frag)(c:String)(C:Addr)(Pl:List Value)(newId:String):Prop where
 a:nsIn K mainGlobals (ofString c)=some (some<|.ref C)
 q:excIn K C Pl newId=true
 g1:findIn K (.ref C) "__getattribute__"=some (some<|.builtin "BaseException.__getattribute__")
 g6:findIn K (.ref C) "__getattr__"=some none
 g7:mroIn K C (.type "BaseException")=some true
 g2:findIn K (.ref C) "__class__"=some (some<|.builtin "object.__class__")
 g5:mroIn K C (.type "object")=some true
def XA.at{K:Frag}{B:String} (Y:XA K c C Pl newId) (F:ExcBaseFacts B newId kg Pl) (g3:specialIn K (.builtin "object.__class__") "__get__"=some (some<|.builtin "getset_descriptor.__get__")) (g4:takesIn K (.builtin "object.__class__")=some true):∃bm,ExcAt K c C bm:=ų F Y.a Y.q Y.g1 Y.g6 Y.g7 Y.g2 g3 g4 Y.g5
end Pu
namespace Pu
open PySem
structure TI(b:Bool)(t:SetTable):Prop where
 rise:t.place.toList.Pairwise (· < ·)
 R4:t.dummies = #[]
 led:t.led=b
theorem HI(xs:Array Nat)(j:Nat)(hr:xs.toList.Pairwise (· < ·)):∀(fuel lo hi:Nat),hi-lo<=fuel->lo<=hi->hi<=xs.size->(∀(i:Nat)(a:Nat),i<lo->xs[i]?=some a->a<j)->(∀(i:Nat)(a:Nat),hi<=i->xs[i]?=some a->j<=a)->
  (∀(i:Nat)(a:Nat),i<SetTable.below.go xs j fuel lo hi->xs[i]?=some a->a<j)/\(∀(i:Nat)(a:Nat),SetTable.below.go xs j fuel lo hi<=i->xs[i]?=some a->j<=a)/\SetTable.below.go xs j fuel lo hi<=xs.size
 |0,lo,hi,hf,hl,hs,h1,h2=>by
  have e:lo=hi:=by omega
  subst e;exact⟨h1,h2,hs⟩
 |fuel+1,lo,hi,hf,hl,hs,h1,h2=>by
  unfold SetTable.below.go;have up:∀(i k:Nat)(a b:Nat),i<k->xs[i]?=some a->xs[k]?=some b->a<b:=λi k a b hik ha hb=>by
   rw[<-uq]at ha hb;obtain⟨yi,ei⟩:=Og.mp ha;obtain⟨ip,ek⟩:=Og.mp hb;have:=NL.mp hr i k yi ip hik;rw[ei,ek]at this;exact this
  by_cases hlt:lo<hi
  .rw[kb hlt];have hm:(lo+hi)/2<xs.size:=by omega
   have hx:xs[(lo+hi)/2]?=some xs[(lo+hi)/2]:=Bm hm;have hg:xs.getD ((lo+hi)/2) j=xs[(lo+hi)/2]:=by rw[SD,hx];rfl
   dsimp only;rw[hg]
   by_cases hc:xs[(lo+hi)/2] < j
   .rw[kb hc];refine HI xs j hr fuel _ _ (by omega) (by omega) hs (λi a yi ha=>?_) h2
    by_cases he:i=(lo+hi)/2
    .subst he;rw[hx]at ha;cases ha;exact hc
    .exact ky (up i _ a _ (by omega) ha hx) hc
   .rw[gb hc];refine HI xs j hr fuel _ _ (by omega) (by omega) (by omega) h1 λi a yi ha=>?_
    by_cases he:i=(lo+hi)/2
    .subst he;rw[hx]at ha;cases ha;omega
    .have:=up _ i _ a (by omega) hx ha;omega
  .rw[gb hlt];have e:lo=hi:=by omega
   subst e;exact⟨h1,h2,hs⟩
def CS(xs:Array Nat)(j:Nat)(hr:xs.toList.Pairwise (· < ·)):(∀(i:Nat)(a:Nat),i<SetTable.below xs j->xs[i]?=some a->a<j)/\(∀(i:Nat)(a:Nat),SetTable.below xs j<=i->xs[i]?=some a->j<=a)/\SetTable.below xs j<=xs.size:=
 HI xs j hr xs.size 0 xs.size (by omega) (Ih _) (Zc _) (λi a h=>absurd h<|IE _) λi a h ha=>by
  have:=(JD.mp ha).1;omega
def ϊ(xs:Array Nat)(j:Nat)(hr:xs.toList.Pairwise (· < ·))(hn:xs[SetTable.below xs j]?≠some j):(SetTable.insertAt xs (SetTable.below xs j) j).toList.Pairwise (· < ·):=by
 obtain⟨h1,h2,h3⟩:=CS xs j hr;have e:(SetTable.insertAt xs (SetTable.below xs j) j).toList=xs.toList.take (SetTable.below xs j)++j::xs.toList.drop (SetTable.below xs j):=by
  unfold SetTable.insertAt;simp only[Array.toList_append,toList_push,Array.toList_extract];simp[List.extract_eq_drop_take,List.append_assoc];rw[V3 (by simp)]
 rw[e,List.pairwise_append];have ge:∀a∈xs.toList.drop (SetTable.below xs j),j<a:=λa ha=>by
  obtain⟨k,hk⟩:=Ju.mp ha;rw[List.getElem?_drop,uq]at hk;have:=h2 _ a (LM _ _) hk;rcases Nat.lt_or_eq_of_le this with h|h
  .exact h
  .subst h;exfalso;have hb:SetTable.below xs j<xs.size:=by have:=(JD.mp hk).1;omega
   have hx:xs[SetTable.below xs j]?=some xs[SetTable.below xs j]:=Bm hb;have g1:=h2 _ _ (Zc _) hx
   by_cases hz:k=0
   .subst hz;rw[EE]at hk;exact hn hk
   .have ip:=(JD.mp hk);have:=NL.mp hr (SetTable.below xs j) (SetTable.below xs j+k) (by simpa using hb) (by simpa using ip.1) (by omega)
    rw[N4,N4,ip.2]at this;omega
 refine⟨hr.sublist<|List.take_sublist _ _,List.pairwise_cons.mpr ⟨ge,hr.sublist<|List.drop_sublist _ _⟩,λa ha b hb=>?_⟩
 have la:a<j:=by
  obtain⟨k,hk⟩:=Ju.mp ha;rw[List.getElem?_take]at hk;split at hk
  .rename_i hlt;rw[uq]at hk;exact h1 k a hlt hk
  .cases hk
 rcases Kc.mp hb with rfl|hb
 .exact la
 .exact ky la (ge b hb)
def CY(j:Nat):SetTable.has #[] j=false:=rfl
theorem SV(t:SetTable)(hashAt:Nat->Int)(h:Int)(hd:t.dummies = #[]):∀(fuel:Nat)(p:SetTable.Probe)(j:Nat)(d:Option Nat),SetTable.probe.go t hashAt h fuel p=some (.empty j d)->t.slot j=.empty/\d=p.dummy
 |0,p,j,d,e=>by cases e
 |fuel+1,p,j,d,e=>by
  unfold SetTable.probe.go at e;cases hs:t.slot p.j with
  |empty=>rw[hs]at e;cases e;exact⟨hs,rfl⟩
  |dummy=>
   exfalso;unfold SetTable.slot at hs;dsimp only at hs;split at hs
   .cases hs
   .rw[hd,CY]at hs;cases hs
  |live i=>
   rw[hs]at e;dsimp only at e;have ð:(t.advance p).dummy=p.dummy:=by
    unfold SetTable.advance;split<;>rfl
   split at e
   .cases e
   .obtain⟨a,b⟩:=SV t hashAt h hd fuel _ j d e;exact⟨a,b.trans ð⟩
def Ě{t:SetTable}{h:Int} {w:Bool} (hd:t.dummies = #[]) (e:t.freeSlot h=some (j,w)):t.slot j=.empty:=by
 unfold SetTable.freeSlot at e;split at e
 .rename_i j' d hp;obtain⟨a,b⟩:=SV t _ h hd _ _ _ _ hp;have:d=none:=b;subst this;cases e;exact a
 .cases e
def ě{t:SetTable} (h:t.slot j=.empty):t.place[SetTable.below t.place j]?≠some j:=λe=>by
 unfold SetTable.slot at h;dsimp only at h;rw[kb (by rw[e];exact gE _)]at h
 cases h
theorem TI.put{b:Bool}{t:SetTable}{j:Nat}(x:TI b t)(h:t.slot j=.empty):TI b (t.put j).1:=by
 refine⟨ϊ t.place j x.rise<|ě h,?_,x.led⟩;show (if SetTable.has t.dummies j then _ else t.dummies)=_
 rw[x.R4,CY];rfl
def Ç(n:Nat):(Array.range n).toList.Pairwise (· < ·):=by
 rw[Array.toList_range];exact Z3
def TI.wk{t:SetTable}(x:TI b t)(n:Nat):TI b (t.standIn n):=⟨Ç n,rfl,x.led⟩
def TI.Ep{t:SetTable}(x:TI b t)(n:Nat):TI b (t.orStandIn n):=by
 unfold SetTable.orStandIn;split
 .exact x
 .exact x.wk n
def TI.lay{t:SetTable}(x:TI b t)(es:Array (Int×Value))(h:Int)(v:Value):TI b (layNew t es h v).2.1:=by
 unfold layNew;split
 .rename_i j w e;exact(x.put<|Ě x.R4 e).Ep _
 .exact x.wk _
def TI.Bz{t:SetTable}(x:TI b t)(es:Array (Int×Value))(n:Nat):TI b (relayAll t es n).2.1:=by
 unfold relayAll;split
 .rename_i t' order e;have y:TI b t':=by
   unfold SetTable.relaid SetTable.laid at e;obtain⟨owner,_,e2⟩:=Option.bind_eq_some_iff.mp e;cases e2;refine⟨?_,rfl,x.led⟩;show ((List.map (λx:Nat×Nat=>x.1)<|List.filterMap (λj=>Option.map (λx=>(j,x))<|owner.getD j Option.none)<|List.range<|SetTable.sizeAbove n-1+1).toArray).toList.Pairwise (· < ·)
   rw[ZL,List.map_filterMap];refine(Z3 (n:=_)).filterMap _ λa a' haa c hc c' Si=>?_
   have h1:c=a:=by
    cases ho:(owner.getD a none) with
    |none=>rw[ho]at hc;cases hc
    |some k=>rw[ho]at hc;cases hc;rfl
   have h2:c'=a':=by
    cases ho:(owner.getD a' none) with
    |none=>rw[ho]at Si;cases Si
    |some k=>rw[ho]at Si;cases Si;rfl
   rw[h1,h2];exact haa
  dsimp only;split
  .exact y
  .exact x.wk _
 .exact x.wk _
theorem TI.fresh(b:Bool):TI b (.fresh 0 0 b):=⟨List.Pairwise.nil,rfl,rfl⟩
def TV(t:SetTable)(es:Array (Int×Value))(h:Int)(v:Value):(layNew t es h v).1.toList.Perm (es.toList++[(h,v)]):=by
 have p:=layNew_perm t es h v;rw[toList_push]at p;exact p
def numOf:Value->Int
 |.int n _=>n
 |_=>0
def Eu(e:Int×Value):Prop:=∃(n:Int)(t:Tok),e=(hashInt n,.int n t)
structure Ec(b:Bool)(a:Addr)(ns:List Int)(es:Array (Int×Value))(ep:Nat)(t:SetTable)(h:Heap):Prop where
 obj:h.get? a=some {cls:=.type "set",dict:=none,data:=.set es ep t,slots := #[]}
 fit:t.fits es.size=true
 ti:TI b t
 perm:(es.toList.map λe=>numOf e.2).Perm ns
 nums:∀e∈es.toList,Eu e
def Ec.keep{es:Array (Int×Value)} {t:SetTable} (x:Ec b a ns es ep t h) (k:∀o,h.get? a=some o->h'.get? a=some o):Ec b a ns es ep t h':=
 ⟨k _ x.obj,x.fit,x.ti,x.perm,x.nums⟩
theorem Ec.size{b:Bool}{a:Addr}{ns:List Int}{es:Array (Int×Value)}{ep:Nat}{t:SetTable}{h:Heap}(x:Ec b a ns es ep t h):es.size=ns.length:=by
 have:=x.perm.length_eq;simpa using this
def Ec.put{es Pf:Array (Int×Value)} {t t':SetTable} (x:Ec b a ns es ep t h) (fit:t'.fits Pf.size=true) (ti:TI b t') (perm:(Pf.toList.map λe=>numOf e.2).Perm Sn) (nums:∀e∈Pf.toList,Eu e) :
  Ec b a Sn Pf (ep+1) t' (h.update a<|Obj.putSet Pf t'):=by
 refine⟨?_,fit,ti,perm,nums⟩;rw[pq (Obj.putSet Pf t') x.obj rfl];rfl
def Co(ns:List Int)(k:Int):List Int:=if ns.any (· == k) then ns else ns++[k]
def bJ5(ns:List Int)(k:Int):(Co ns k).length<=ns.length+1:=by
 unfold Co;split
 .exact Cq _
 .simp
section
variable {A:Around}
def bJ6{es:List (Int×Value)}(nums:∀e∈es,Eu e):ElemsOf (intKind prog w) es:=λe he=>by
 obtain⟨n,t,rfl⟩:=nums e he;exact⟨⟨n,oy prog w n t,rfl⟩,rfl⟩
def bJ7{es:List (Int×Value)} (nums:∀e∈es,Eu e) (perm:(es.map λe=>numOf e.2).Perm ns) (k:Int):(es.findIdx?<|λe=>(intKind prog w).is k e.2).isSome=ns.any (· == k):=by
 rw[J4,ay,Hr,Hr];constructor
 .rintro⟨e,he,hp⟩;obtain⟨n,t,rfl⟩:=nums e he;have en:n=k:=(intKind prog w).inj _ n k (oy prog w n t) hp;exact⟨n,perm.mem_iff.mp<|bg.mpr ⟨_,he,rfl⟩,Sj.mpr en⟩
 .rintro⟨n,hn,hp⟩;obtain⟨e,he,hv⟩:=bg.mp<|perm.mem_iff.mpr hn;obtain⟨n',t,rfl⟩:=nums e he;have e1:n'=n:=hv;have e2:n=k:=Sj.mp hp;refine⟨_,he,?_⟩;rw[<-e2,<-e1];exact oy prog w n' t
def PJ{Q:Unit->Shared->Prop}(c:Bool)(q:Q () s):wpAny (model prog w) A (match c with|true=>rule "set.scan.the-table-gave-way"|false=>pure ()) Q E s:=by
 cases c with
 |true=>exact av q
 |false=>exact Zb q
def Ff{es Pf:Array (Int×Value)}{ep:Nat}{t t':SetTable}{d:Bool}{R:Option Bool->Shared->Prop}{g:Bool->Sem Unit}
  (hg:∀(c:Bool)(Lb:Shared)(Q:Unit->Shared->Prop),Q () Lb->wpAny (model prog w) A (g c) Q E Lb) (x:Ec b a ns es ep t s.heap)
  (jh:Pf.size<scanBound) (fit:t'.fits Pf.size=true) (ti:TI b t') (perm:(Pf.toList.map λe=>numOf e.2).Perm Sn) (nums:∀e∈Pf.toList,Eu e)
  (r:∀(h':Heap) (es:Array (Int×Value)) (ep:Nat) (t:SetTable),Heap.SameBut a s.heap h'->Ec b a Sn es ep t h'->R (some true) {s with heap:=h'}) :
  wpAny (model prog w) A (storeSet a Pf t' >>= λ_=>if (!d&&t'.tooFull)=true then g (relayAll t' Pf<|SetTable.grown Pf.size).2.2 >>= λ_=>storeSet a (relayAll t' Pf<|SetTable.grown Pf.size).1 (relayAll t' Pf<|SetTable.grown Pf.size).2.1 >>= λ_=>pure (some true) else pure (some true)) R E s:=by
 have y:=x.put fit ti perm nums;have o1:=Wx s.heap a<|Obj.putSet Pf t';refine Ja<|wpAny_storeSet_of x.obj rfl ?_<|fE jh
 by_cases hc:(!d&&t'.tooFull)=true
 .rw[kb hc];have p:=relayAll_perm t' Pf<|SetTable.grown Pf.size;have sz:(relayAll t' Pf<|SetTable.grown Pf.size).1.size=Pf.size:=by simpa using p.length_eq
  have z:=y.put (relayAll_fits t' Pf<|SetTable.grown Pf.size) (ti.Bz Pf _) ((p.map _).trans perm) λe he=>nums e<|p.mem_iff.mp he
  exact Ja<|hg _ _ _<|Ja<|wpAny_storeSet_of y.obj rfl (Zb<|r _ _ _ _ (o1.trans<|Wx _ a _) z)<|fE<|by rw[sz];exact jh
 .rw[gb hc];exact Zb<|r _ _ _ _ o1 y
def bN9{es:Array (Int×Value)}{ep:Nat}{t:SetTable}{k:Int}{Q:Bool->Shared->Prop}(x:Ec b a ns es ep t s.heap)(jh:ns.length+1<scanBound)
  (q:∀(c:Bool)(h':Heap) (es:Array (Int×Value)) (ep:Nat) (t:SetTable),Heap.SameBut a s.heap h'->Ec b a (Co ns k) es ep t h'->Q c {s with heap:=h'}) :
  wpAny (model prog w) A (setAddHashed a (.int k tk)<|hashInt k) Q E s:=by
 have el:ElemsOf (intKind prog w) es.toList:=bJ6 x.nums;have fz:es.size<scanBound:=by rw[x.size];omega
 have fk:=bJ7 (prog:=prog) (w:=w) x.nums x.perm k;have Dp:∀e∈(layNew t es (hashInt k)<|.int k tk).1.toList,Eu e:=λe he=>by
  rcases Hh.mp ((TV t es _ _).mem_iff.mp he) with he|he
  .exact x.nums e he
  .exact⟨k,tk,Ce.mp he⟩
 have Wm:((layNew t es (hashInt k)<|.int k tk).1.toList.map λe=>numOf e.2).Perm (ns++[k]):=by
  have:=(TV t es (hashInt k)<|.int k tk).map λe=>numOf e.2
  rw[Qj]at this;exact this.trans<|x.perm.append_right _
 have Kp:(layNew t es (hashInt k)<|.int k tk).1.size<scanBound:=by
  have:=Wm.length_eq;simp at this;omega
 unfold setAddHashed setAddHashedIn;refine Rj<|Ja<|Ou x.obj rfl x.fit ?_;dsimp only;rw[kb<|byScan_of rfl fz el];unfold setAddByScan;refine Ja<|Ja<|av<|Ja<|wpAny_setScan_of (knd:=intKind prog w) (oy prog w k tk) x.obj rfl x.fit el ?_;cases hr:es.toList.findIdx? (λe=>(intKind prog w).is k e.2) with
 |some j=>
  rw[hr]at fk;have:Co ns k=ns:=kb fk.symm;rw[this]at q;exact Zb<|Zb<|q false s.heap es ep t (Heap.SameBut.refl a s.heap) x
 |none=>
  rw[hr]at fk;have:Co ns k=ns++[k]:=by unfold Co;rw[<-fk];rfl
  rw[this]at q;have tl:=x.ti.lay es (hashInt k)<|.int k tk;have fl:=layNew_fits t es (hashInt k)<|.int k tk;generalize layNew t es (hashInt k) (.int k tk)=L at Wm Dp Kp tl fl ⊢;obtain⟨es1,t1,d,gv⟩:=L;dsimp only at Wm Dp Kp tl fl ⊢;refine Ja<|PJ _ ?_
  by_cases hp:t1.plain=true
  .rw[kb hp];refine Ja ?_
   rw[hashByValue_scannable 8 rfl];exact Zb<|Ff (λc Lb Q' h'=>PJ c h') x Kp fl tl Wm Dp λh' es ep t sb y=>Zb<|q true h' es ep t sb y
  .rw[gb hp];exact Ja<|Zb<|Ff (λc Lb Q' h'=>PJ c h') x Kp fl tl Wm Dp λh' es ep t sb y=>Zb<|q true h' es ep t sb y
end
end Pu
namespace Pu
open PySem PyProof.Rows
section
variable{prog:Program}{w:World}{A:Around}{E:Value->Shared->Prop}{s:Shared}
def Eo(val:Nat->Int):Nat->List Int
 |0=>[]
 |i+1=>Co (Eo val i)<|val i
theorem DY(val:Nat->Int):∀i,(Eo val i).length<=i
 |0=>Zc _
 |i+1=>bf (bJ5 _ _)<|Nat.succ_le_succ<|DY val i
def jZ(b:Bool)(a:Addr)(ns:List Int)(h:Heap):Prop:=∃es ep t,Ec b a ns es ep t h
theorem jZ.keep{b:Bool}{a:Addr}{ns:List Int}{h h':Heap}(x:jZ b a ns h)(k:∀o,h.get? a=some o->h'.get? a=some o):jZ b a ns h':=
 let ⟨es,ep,t,y⟩:=x
 ⟨es,ep,t,y.keep k⟩
def bNa{k:Int}{t:Tok}{Q:Bool->Shared->Prop}(x:jZ b a ns s.heap)(jh:ns.length+1<scanBound)
  (q:∀(c:Bool)(h':Heap),Heap.SameBut a s.heap h'->jZ b a (Co ns k) h'->Q c {s with heap:=h',toks:=s.toks+1}) :
  wpAny (model prog w) A (setAdd a<|.int k t) Q E s:=by
 obtain⟨es,ep,tb,y⟩:=x;unfold setAdd;refine Rj<|Ja<|(intKind prog w).pyHash (k:=k) (oy prog w k t) ?_;exact bN9 (s:={s with toks:=s.toks+1}) y jh λc h' Pf Ey t' sb z=>q c h' sb ⟨Pf,Ey,t',z⟩
variable{I:Addr}{fp wr:List Addr}{G:Array GenState->Array GenState->Prop}{n:Nat}{P:Nat->Value->Prop}{St:Nat->Shared->Prop}
def bJ8(W:WalksS prog w A.in1 I fp wr G n P St){R:Result->Shared->Prop}(a:Addr)(b:Bool)(out:a∉fp)(val:Nat->Int)(jk:∀i v,P i v->∃t,v=.int (val i) t)(jh:n+1<scanBound) :
  ∀(m i:Nat)(s:Shared),i+m=n->St i s->jZ b a (Eo val i) s.heap->
   (∀s',Moved (a::wr) G s s'->jZ b a (Eo val n) s'.heap->R (.ok<|.ret .none) s')->
   codeAny (model prog w) A (.builtin "set.update.loop" ⟨[.ref a,.ref I],[]⟩) R s:=by
 have nw:a∉wr:=λh=>out<|W.sub _ h
 have up:∀c∈wr,c∈a::wr:=λc hc=>Qb _ hc
 intro m
 induction m with
 |zero=>
  intro i s e st x r;rw[EE]at e;subst e;refine Uu F.entry_set_update_loop ?_
  rw[Vx OL _];show wpAny _ A.in1 (pyNext (.ref I) >>= _) _ _ s;exact Ja<|W.done s _ _ st λs' mv=>Zb<|r s' (mv.mono up)<|x.keep λo ho=>mv.heap a o nw ho
 |succ m ih=>
  intro i s e st x r;refine Uu F.entry_set_update_loop ?_
  rw[Vx OL _];show wpAny _ A.in1 (pyNext (.ref I) >>= _) _ _ s;refine Ja<|W.item i s _ _ (by omega) st λv s' pv st' mv=>?_
  obtain⟨t,rfl⟩:=jk i v pv;have fw:(Eo val i).length+1<scanBound:=by have:=DY val i;omega
  refine Ja<|Rj<|bNa (x.keep λo ho=>mv.heap a o nw ho) fw λc h' sb y=>Zb ⟨fy OL _,?_⟩
  have other:∀c,c≠a->h'.get? c=s'.heap.get? c:=λc hc=>sb.2 c hc
  refine ih (i+1) _ (by omega) (W.frame _ s' _ _ st' (Cq _) λc hc o ho=>?_) y λs2 mv2 z=>?_
  .rw[other c λh=>out<|h ▸ hc]
   exact ho
  .refine r s2 (Moved.trans W.gtrans ((mv.mono up).then_heap (Cq _) λc o hc ho=>?_) mv2) z
   rw[other c λh=>hc<|h ▸ Jb]
   exact ho
end
section
variable{prog:Program}{w:World}{A:Around}{E:Value->Shared->Prop}{s:Shared}
def zE(w:World):Bool:=w.params.followText "set-order"
def vU(w:World):Obj:={cls:=.type "set",dict:=none,data:=.set #[] 0 (.fresh 0 0<|!zE w),slots := #[]}
def bJ9(a:Value) (q:Q (.ref s.heap.objs.size) {s with heap:=s.heap.push (vU w)}) :
  codeAny (model prog w) A (.call (.builtin "set.__new__") ⟨[.type "set",a],[]⟩) (wants Q E) s:=by
 refine codeAny_of_tree (?_:wpAny _ A.in1 (checkBuiltinCall "set.__new__" ⟨[.type "set",a],[]⟩ >>= λ_=>again<|.builtin "set.__new__" ⟨[.type "set",a],[]⟩) _ _ s)
 refine Ja<|wpAny_of_eq (F.newCall_set_1 a)<|Zb ⟨fy F.plain_set_new _,Uu F.entry_set_new ?_⟩;rw[Vx F.plain_set_new _];unfold Builtin.«set.__new__» Builtin.Frozenset.newClass;have sub:=sub_set_self;obtain⟨hp,g,d,tk,os⟩:=s;dsimp only
 wp_walk
 refine Tu<|Zb ?_;dsimp only;simp only[newObj];exact Ja<|wpAny_alloc<|Zb<|Zb q
def Ĝ(w:World) (o:h.get? a=some (vU w)):jZ (!zE w) a [] h:=
 ⟨#[],0,_,o,rfl,TI.fresh _,List.Perm.nil,λe he=>nomatch he⟩
def bJa{l:Addr} {R:Result->Shared->Prop} (hh:A.handled=none) (o:s.heap.get? a=some (vU w)) (ne:l≠a) (hl:s.heap.IsList l items) (jk:IntsAre items.toList ns) (jh:items.size+1<scanBound)
  (r:∀(h':Heap)(tk:Nat),jZ (!zE w) a (Eo (λi=>ns.getD i 0) items.size) h'->(∀b o,b≠a->s.heap.get? b=some o->h'.get? b=some o)->R (.ok<|.ret .none) {s with heap:=h',toks:=tk}) :
  wpAny (model prog w) A.in1 (Builtin.«set.__init__» ⟨[.ref a,.ref l],[]⟩) (λfin s'=>match fin with|.done f=>R (.ok f) s'|.again c'=>c'.quiet=true/\codeAny (model prog w) A c' R s') (λe s'=>R (.error e) s') s:=by
 have hT:s.TypeIs (.ref a) "set":=⟨_,o,rfl⟩;obtain⟨ol,hol,Pn,nl,Z4⟩:=id hl;obtain⟨cl,di,da,sl⟩:=ol;dsimp only at Pn Z4;subst Pn;subst Z4;have o':s.heap.get? a=some {cls:=.type "set",dict:=none,data:=.set #[] 0 (.fresh 0 0<|!zE w),slots := #[]}:=o;have h1:=F.sub_list_set;have h2:=F.sub_list_frozenset;have h3:(Value.type "list" == Value.type "dict")=false:=by decide
 unfold Builtin.«set.__init__» noKeywords Builtin.Frozenset.updateFrom;generalize hp:pyIter=it
 wp_walk
 subst hp;refine dE hl<|Ja<|wpAny_runValue ?_;have ia:a≠s.heap.objs.size:=Cf<|Ud o;have il:l≠s.heap.objs.size:=Cf<|Ud hol;have out:a∉[s.heap.objs.size,l]:=by
  intro h;rcases Kc.mp h with h|h
  .exact ia h
  .exact ne (Ce.mp h).symm
 refine bJ8 ((Walks.list (by simp[hh]) _ l il items).toS) a (!zE w) out (λi=>ns.getD i 0) (λi v hv=>IntsAre.int_at jk i v<|by rw[uq];exact hv) jh items.size 0 _ (DE _)
  ⟨⟨_,Vf _ rfl,rfl,rfl⟩,hl.push _⟩ (Ĝ w<|ud _ o) λs' mv x=>?_
 rw[Moved.eq_with mv];refine Zb<|Zb<|r s'.heap s'.toks x λb o hb ho=>mv.heap b o (λhm=>?_)<|ud _ ho
 rcases Kc.mp hm with h|h
 .exact hb h
 .exact absurd (Ce.mp h) (Cf<|Ud ho)
def bJb{l:Addr} (hh:A.handled=none) (hl:s.heap.IsList l items) (jk:IntsAre items.toList ns) (jh:items.size+1<scanBound)
  (q:∀(h':Heap)(tk:Nat),jZ (!zE w) s.heap.objs.size (Eo (λi=>ns.getD i 0) items.size) h'->(∀b o,s.heap.get? b=some o->h'.get? b=some o)->Q (.ref s.heap.objs.size) {s with heap:=h',toks:=tk}) :
  wpAny (model prog w) A (call (.type "set") [.ref l]) Q E s:=by
 obtain⟨c,tl,hmro⟩:=yq.mro;have g1:=yq.made;have g2:=yq.sub;have g3:=yq.notType;have g4:=yq.canCreate;have g5:=F.typeCall_set_1<|.ref l;refine my<|codeAny_of_tree (?_:wpAny _ _ (callAny (.type "set") _) _ _ _);refine Zb ⟨Code.quiet_builtin _ (by decide+kernel),Uu F.entry_type_call ?_⟩
 rw[Around.under_plain (weight_type_call_type "set" [.ref l] []) rfl]
 repeat (any_goals (first|assumption|wp_step))
 refine Oo (bJ9 (.ref l) (E:=E) (Q:=λv Lb=>v=.ref s.heap.objs.size/\Lb={s with heap:=s.heap.push (vU w)}) ⟨rfl,rfl⟩) λres Lb XN=>?_
 match res,XN with
 |.error e,he=>exact he
 |.ok (.ret v),⟨hv,hs⟩=>
  subst hv;subst hs;have ob:(s.heap.push<|vU w).get? s.heap.objs.size=some (vU w):=Vf _ rfl;have hT:Shared.TypeIs {s with heap:=s.heap.push (vU w)} (.ref s.heap.objs.size) "set":=⟨_,ob,rfl⟩
  have g6:=yq.init.lookup;have g7:=yq.init.bind<|.ref s.heap.objs.size
  repeat (any_goals (first|assumption|wp_step))
  have ne:l≠s.heap.objs.size:=let ⟨_,h,_⟩:=hl;Cf (Ud h);refine Oo (codeAny_call_builtin (R:=wants (λr Ym=>r=.none/\Q (.ref s.heap.objs.size) Ym) E) yq.init.plain F.entry_set_init (check_set_init_1 hT
   (bJa (by simp[hh]) ob ne (hl.push _) jk jh λh' tk x k=>⟨rfl,q h' tk x λb o ho=>k b o (Cf<|Ud ho)<|ud _ ho⟩))) λoP Ym az=>?_
  match oP,az with
  |.error e,he=>exact he
  |.ok (.ret _),⟨h0,hq⟩=>
   subst h0
   repeat (any_goals (first|assumption|wp_step))
end
theorem YG{α:Type}:∀(xs:List α)(i:Nat)(x:α),xs[i]?=some x->(x::xs.eraseIdx i).Perm xs
 |[],_,_,h=>nomatch h
 |y::xs,0,x,h=>by cases h;exact pE _
 |y::xs,i+1,x,h=>by
  have:=YG xs i x (by simpa using h)
  exact(List.Perm.swap y x _).trans (this.cons y)
theorem RT{α:Type}(next:Nat->Nat):∀(n k:Nat)(left:List α)(out:Array α),left.length=n->(pickOrder.go next n k left out).toList.Perm (out.toList++left)
 |0,k,left,out,h=>by
  cases left with
  |nil=>rw[uh];exact pE _
  |cons _ _=>cases h
 |n+1,k,left,out,h=>by
  unfold pickOrder.go;have hl:next k%left.length<left.length:=mod_lt _ (by omega)
  have e:left[next k%left.length]?=some left[next k%left.length]:=Nf hl
  rw[e];dsimp only;refine(RT next n (k+1) _ _ (by rw[Z2 hl];omega)).trans ?_
  rw[toList_push,Cm];exact(YG left _ _ e).append_left _
def O9(next:Nat->Nat)(xs:Array α):(pickOrder next xs).toList.Perm xs.toList:=RT next xs.size 0 xs.toList #[] (Array.length_toList)
section
variable {A:Around}
def ĝ{s:Shared} {Q:Nat->Shared->Prop} (hn:n≠0) (q:∀i d,i<n->Q i {s with drawn:=d}):wpAny (model prog w) A (choose src n) Q E s:=
 λ_ _ _=>⟨hn,q _ _<|mod_lt _<|kM hn⟩
def bJc{α:Type}(n:Nat):∀(xs:List α)(s:Shared)(Q:List α->Shared->Prop),xs.length=n->(∀ys d,ys.Perm xs->Q ys {s with drawn:=d})->wpAny (model prog w) A (drawOrder n xs) Q E s:=by
 induction n with
 |zero=>
  intro xs s Q h q;have e:xs=[]:=Gu.mp h;subst e;exact Zb<|q [] s.drawn<|pE _
 |succ n ih=>
  intro xs s Q h q;have ne:xs≠[]:=λe=>by rw[e]at h;cases h
  obtain⟨x,l,rfl⟩:=List.exists_cons_of_ne_nil ne;refine(?_:wpAny (model prog w) A (choose .order (x::l).length >>= λi=>match (x::l)[i]? with|some y=>drawOrder n ((x::l).eraseIdx i) >>= λr=>pure (y::r)|none=>unsupported "internal:drawOrder") Q E s)
  refine Ja<|ĝ (by simp) λi d hi=>?_
  have e:(x::l)[i]?=some (x::l)[i]:=Nf hi;rw[e];refine Ja<|ih _ _ _ (by rw[Z2 hi];omega) λys d' hy=>Zb<|q _ d' ?_
  exact(hy.cons _).trans (YG _ _ _ e)
end
def rY:Slot "set_iterator" "__next__" "set_iterator.__next__":=
 .of (owner:="set_iterator") (n:="__next__") (by rw[RM,TL];kernel_rfl) (by decide+kernel) (by decide+kernel) (by decide+kernel) (.inl<|by decide+kernel) (by rw[isSubtype_type];kernel_rfl)
def nB:entryFor table "set_iterator.__next__"=some Builtin.«set_iterator.__next__» := entryFor_of_tree (by kernel_rfl)
def WV:Manifest.owners.lookup (String.ofList ['r', 'o', 't', 'a', 'r', 'e', 't', 'i', '_', 't', 'e', 's'].reverse)=some Manifest.sig_set_iterator:=by kernel_rfl
def UB(a:Value):argsOk "set_iterator.__next__" ⟨[a],[]⟩:=by
 unfold argsOk;rw[signature?_of (id:="set_iterator.__next__") (n:=['_', '_', 't', 'x', 'e', 'n', '_', '_']) (o:=['r', 'o', 't', 'a', 'r', 'e', 't', 'i', '_', 't', 'e', 's']) (by kernel_rfl) WV]
 kernel_rfl
def YV:Slot "set_iterator" "__iter__" "set_iterator.__iter__":=
 .of (owner:="set_iterator") (n:="__iter__") (by rw[RM,TL];kernel_rfl) (by decide+kernel) (by decide+kernel) (by decide+kernel) (.inl<|by decide+kernel) (by rw[isSubtype_type];kernel_rfl)
def Ğ:entryFor table "set_iterator.__iter__"=some Builtin.«dict_keyiterator.__iter__» := entryFor_alias (id':="dict_keyiterator.__iter__") (by kernel_rfl) rfl (by decide+kernel) (by kernel_rfl)
def Ż(a:Value):argsOk "set_iterator.__iter__" ⟨[a],[]⟩:=by
 unfold argsOk;rw[signature?_of (id:="set_iterator.__iter__") (n:=['_', '_', 'r', 'e', 't', 'i', '_', '_']) (o:=['r', 'o', 't', 'a', 'r', 'e', 't', 'i', '_', 't', 'e', 's']) (by kernel_rfl) WV]
 kernel_rfl
def È:entryFor table "set.__iter__"=some Builtin.«frozenset.__iter__» := entryFor_alias (id':="frozenset.__iter__") (by kernel_rfl) rfl (by decide+kernel) (by kernel_rfl)
def bJd:typeLookup (.type "set") "__len__"=pure (some<|.builtin "set.__len__"):=by rw[RM,TL];kernel_rfl
def zm(first:Value)(i:Nat)(a:Addr)(n ep:Nat):Obj:={cls:=.type "set_iterator",dict:=none,data:=.fields #[first,.int i 0,.ref a,.int n 0,.int ep 0],slots := #[]}
section
variable{prog:Program}{w:World}{A:Around}{E:Value->Shared->Prop}{s:Shared}
def bJe{es:Array (Int×Value)} {t:SetTable} {c c':Nat} {v:Value} {Q:Option Value->Shared->Prop}
  (hI:s.heap.get? I=some (zm (.int c 0) i a es.size ep)) (x:Ec b a ns es ep t s.heap)
  (nx:∀(A:Around)(E:Value->Shared->Prop) (Q:Option (Value×Nat)->Shared->Prop),Q (some (v,c')) s->wpAny (model prog w) A (setNext a c i ep) Q E s)
  (q:∀h',h'.get? I=some (zm (.int c' 0) (i+1) a es.size ep)->Heap.SameBut I s.heap h'->Q (some v) {s with heap:=h'}) :
  wpAny (model prog w) A (pyNext<|.ref I) Q E s:=by
 have hT:s.TypeIs (.ref I) "set_iterator":=⟨_,hI,rfl⟩;unfold pyNext;refine Ja<|Xu<|Hu (name:=ofString "__next__") hT rY<|Mo rY hT nB ?_<|UB _;unfold Builtin.«set_iterator.__next__»;refine Ja<|Zb ?_;refine Ja<|qE hI rfl ?_;dsimp only;refine Ja<|Xx x.obj rfl x.fit ?_;rw[gb (by simp)]
 refine Ja<|nx _ _ _ ?_;dsimp only;refine Ja<|Vu hI rfl (by simp) ?_
 have h1:(s.heap.update I (Obj.mapFields (·.setIfInBounds 0 (rawInt c')))).get? I=some (zm (.int c' 0) i a es.size ep):=by
  rw[pq _ hI<|UD<|bE rfl _];rfl
 refine Ja<|Vu h1 rfl (by simp) ?_
 refine Zb ⟨v,rfl,Zb<|q _ ?_<|(Wx ..).trans<|Wx ..⟩;rw[pq _ h1<|UD<|bE rfl _];rfl
def EY{R:Value->Shared->Prop}{Q:Fin->Shared->Prop}(hh:A.handled=none)(r:∀(h':Heap)(e:Addr),(∀b o,s.heap.get? b=some o->h'.get? b=some o)->(∃o,h'.get? e=some o/\o.cls=.type "StopIteration")->R (.ref e) {s with heap:=h'}) :
  wpAny (model prog w) A (newExc (.type "StopIteration") [] >>= λe=>raiseNew e) Q R s:=by
 refine Ja ?_
 simp only[newExc,newTuple];refine Ja<|Nu ?_<|by size_fits
 refine Ja (m:=firstArgMember _ _)<|wpAny_of_eq (a:=Value.none) (by first|rfl|(simp only[firstArgMember];rfl))<|Nu ?_<|by size_fits
 simp only[raiseNew];refine Ja<|wpAny_handled ?_;rw[hh];exact Ja<|Zb<|wpAny_throw<|r _ _ (λb o ho=>ud _<|ud _ ho) ⟨_,Vf _ rfl,rfl⟩
def bNb{b:Bool} {es:Array (Int×Value)} {t:SetTable} {c:Nat} {Q:Option Value->Shared->Prop} (hh:A.handled=none)
  (hI:s.heap.get? I=some (zm (.int c 0) i a es.size ep)) (x:Ec b a ns es ep t s.heap)
  (nx:∀(A:Around)(E:Value->Shared->Prop) (Q:Option (Value×Nat)->Shared->Prop),Q none s->wpAny (model prog w) A (setNext a c i ep) Q E s)
  (q:∀h',(∀b o,b≠I->s.heap.get? b=some o->h'.get? b=some o)->Q none {s with heap:=h'}) :
  wpAny (model prog w) A (pyNext<|.ref I) Q E s:=by
 have hT:s.TypeIs (.ref I) "set_iterator":=⟨_,hI,rfl⟩;unfold pyNext;refine Ja<|Xu<|Hu (name:=ofString "__next__") hT rY<|Mo rY hT nB ?_<|UB _;unfold Builtin.«set_iterator.__next__»;refine Ja<|Zb ?_;refine Ja<|qE hI rfl ?_;dsimp only;refine Ja<|Xx x.obj rfl x.fit ?_;rw[gb (by simp)]
 refine Ja<|nx _ _ _ ?_;dsimp only;refine Ja<|Vu hI rfl (by simp) ?_
 refine EY hh λh' e k o=>?_
 obtain⟨o,ho,hc⟩:=o;refine Ja<|iE (T:="StopIteration") (b:=true) ⟨o,ho,hc⟩ isSubtype_stop<|Zb<|q _ λb o' hb Dj=>k b o' ?_
 rw[Dr _ _<|Nk hb];exact Dj
def ğ{es:Array (Int×Value)} {t:SetTable} (x:Ec b a ns es ep t s.heap) (hb:zE w=true) (c i:Nat) {Q:Option (Value×Nat)->Shared->Prop}
  (q:Q (((pickOrder (w.params.setOrder a ep) es)[i]?).map λe=>(e.2,c)) s):wpAny (model prog w) A (setNext a c i ep) Q E s:=by
 have Mh:w.params.followText "set-order"=true:=hb;unfold setNext;refine Ja<|Ou x.obj rfl x.fit ?_;dsimp only;unfold setsByText;refine Ja<|Ja<|Tu<|Zb ?_;refine Hn (λ_=>?_) λh=>absurd Mh h
 rw[gb (by simp)]
 refine Ja ?_
 unfold setWalk;refine Ja<|Ou x.obj rfl x.fit ?_;dsimp only;unfold setsByText;refine Ja<|Ja<|Tu<|Zb ?_;refine Hn (λ_=>?_) λh=>absurd Mh h
 exact Ja<|Tu<|Zb<|Zb q
def ao(t:SetTable):Nat->Nat
 |0=>0
 |i+1=>t.place.getD i 0+1
def below_at{t:SetTable}(ti:TI b t)(i:Nat)(hi:i<=t.place.size):SetTable.below t.place (ao t i)=i:=by
 obtain⟨h1,h2,h3⟩:=CS t.place (ao t i) ti.rise;generalize hm:SetTable.below t.place (ao t i)=m at h1 h2 h3;rcases Nat.lt_trichotomy m i with h|h|h
 .exfalso;have lt:i-1<t.place.size:=by omega
  have e:t.place[i-1]?=some t.place[i-1]:=Bm lt;have:=h2 (i-1) _ (by omega) e
  have se:ao t i=t.place[i-1]+1:=by
   cases i with
   |zero=>omega
   |succ k=>
    show t.place.getD k 0+1=_;rw[SD,Bm (by omega)]
    rfl
  omega
 .exact h
 .exfalso;have lt:i<t.place.size:=by omega
  have e:t.place[i]?=some t.place[i]:=Bm lt;have g:=h1 i _ h e;cases i with
  |zero=>exact absurd g<|IE _
  |succ k=>
   have gk:t.place[k]?=some t.place[k]:=Bm (by omega)
   have se:ao t (k+1)=t.place[k]+1:=by
    show t.place.getD k 0+1=_;rw[SD,gk];rfl
   have r:=NL.mp ti.rise k (k+1) (by simp;omega) (by simp;omega) (by omega)
   simp at r;omega
def ż{es:Array (Int×Value)} {t:SetTable} (x:Ec true a ns es ep t s.heap) (hb:zE w=false) (hd:(!t.plain&&decide (es.size>1))=false) (i:Nat) (hi:i<=es.size) {Q:Option (Value×Nat)->Shared->Prop}
  (q:Q ((es[i]?).map λe=>(e.2,ao t<|i+1)) s):wpAny (model prog w) A (setNext a (ao t i) i ep) Q E s:=by
 have Mh:w.params.followText "set-order"=false:=hb;have sz:t.place.size=es.size:=by
  have:=x.fit;simp only[SetTable.fits,and_eq_true,beq_iff_eq]at this;exact this.1
 unfold setNext;refine Ja<|Ou x.obj rfl x.fit ?_;dsimp only;unfold setsByText;refine Ja<|Ja<|Tu<|Zb ?_;refine Hn (λh=>absurd (Mh.symm.trans h) Cg) λ_=>?_
 refine Hn (λh=>absurd (hd.symm.trans h) Cg) λ_=>?_
 refine Ja (m:=(if (!t.led && !es.isEmpty)=true then unsupported "set:maker-not-led" else pure ())) ?_
 rw[gb (by rw[x.ti.led];exact Cg)]
 refine Zb ?_
 rw[below_at x.ti i (by rw[sz];exact hi)]
 by_cases hlt:i<es.size
 .rw[Bm hlt]at q;rw[Bm hlt,Bm (by rw[sz];exact hlt)]
  refine Zb ?_
  have:ao t (i+1)=t.place[i]+1:=by
   show t.place.getD i 0+1=_;rw[SD,Bm (by rw[sz];exact hlt)]
   rfl
  rw[this]at q;exact q
 .have hn:es[i]?=none:=Array.getElem?_eq_none (by omega)
  rw[hn]at q ⊢;exact Zb q
def bJf {es:Array (Int×Value)} {t:SetTable} {ys:List Nat} {e:Int×Value} {y:Nat} {Q:Option Value->Shared->Prop}
  (hI:s.heap.get? I=some (zm (.ref T) i a es.size ep)) (x:Ec b a ns es ep t s.heap) (hy:s.heap.get? T=some {cls:=.type "tuple",data:=.seq (ys.map λ(n:Nat)=>rawInt n).toArray})
  (hi:ys[i]?=some y) (he:es[y]?=some e)
  (q:∀h',h'.get? I=some (zm (.ref T) (i+1) a es.size ep)->Heap.SameBut I s.heap h'->Q (some e.2) {s with heap:=h'}) :
  wpAny (model prog w) A (pyNext<|.ref I) Q E s:=by
 have hT:s.TypeIs (.ref I) "set_iterator":=⟨_,hI,rfl⟩;unfold pyNext;refine Ja<|Xu<|Hu (name:=ofString "__next__") hT rY<|Mo rY hT nB ?_<|UB _;unfold Builtin.«set_iterator.__next__»;refine Ja<|Zb ?_;refine Ja<|qE hI rfl ?_;dsimp only;refine Ja<|Xx x.obj rfl x.fit ?_;rw[gb (by simp)]
 refine Ja<|vq hy rfl ?_;dsimp only;have ei:((ys.map λ(n:Nat)=>rawInt n).toArray)[(i:Int).toNat]?=some (.int y 0):=by
  rw[dj,RL,Hk,hi];rfl
 rw[ei];dsimp only;unfold setNextDrawn;refine Ja<|Ja<|Ou x.obj rfl x.fit ?_;dsimp only;rw[gb (by simp),dj,he]
 refine Zb ?_
 refine Ja<|Vu hI rfl (by simp) ?_
 refine Zb ⟨e.2,rfl,Zb<|q _ ?_<|Wx ..⟩;rw[pq _ hI<|UD<|bE rfl _];rfl
def bNc{b:Bool} {es:Array (Int×Value)} {t:SetTable} {ys:List Nat} {Q:Option Value->Shared->Prop} (hh:A.handled=none)
  (hI:s.heap.get? I=some (zm (.ref T) i a es.size ep)) (x:Ec b a ns es ep t s.heap) (hy:s.heap.get? T=some {cls:=.type "tuple",data:=.seq (ys.map λ(n:Nat)=>rawInt n).toArray})
  (hi:ys[i]?=none)
  (q:∀h',(∀b o,b≠I->s.heap.get? b=some o->h'.get? b=some o)->Q none {s with heap:=h'}) :
  wpAny (model prog w) A (pyNext<|.ref I) Q E s:=by
 have hT:s.TypeIs (.ref I) "set_iterator":=⟨_,hI,rfl⟩;unfold pyNext;refine Ja<|Xu<|Hu (name:=ofString "__next__") hT rY<|Mo rY hT nB ?_<|UB _;unfold Builtin.«set_iterator.__next__»;refine Ja<|Zb ?_;refine Ja<|qE hI rfl ?_;dsimp only;refine Ja<|Xx x.obj rfl x.fit ?_;rw[gb (by simp)]
 refine Ja<|vq hy rfl ?_;dsimp only;have ei:((ys.map λ(n:Nat)=>rawInt n).toArray)[(i:Int).toNat]?=none:=by
  rw[dj,RL,Hk,hi];rfl
 rw[ei];dsimp only;refine Ja<|Vu hI rfl (by simp) ?_
 have h1:(s.heap.update I (Obj.mapFields (·.setIfInBounds 0 (rawInt 0)))).get? I=some (zm (.int 0 0) i a es.size ep):=by
  rw[pq _ hI<|UD<|bE rfl _];rfl
 refine Ja<|Vu h1 rfl (by simp) ?_
 refine EY hh λh' e k o=>?_
 obtain⟨o,ho,hc⟩:=o;refine Ja<|iE (T:="StopIteration") (b:=true) ⟨o,ho,hc⟩ isSubtype_stop<|Zb<|q _ λb o' hb Dj=>k b o' ?_
 rw[Dr _ _<|Nk hb,Dr _ _<|Nk hb];exact Dj
end
section
variable{prog:Program}{w:World}{A:Around}{E:Value->Shared->Prop}{s:Shared}
def FY{o:Obj} (hI:s.heap.get? I=some o) (hc:o.cls=.type "set_iterator") (q:Q (.ref I) s):wpAny (model prog w) A (pyIter<|.ref I) Q E s:=by
 have hT:s.TypeIs (.ref I) "set_iterator":=⟨o,hI,hc⟩;refine wpAny_pyIter_slot hT YV<|Mo YV hT Ğ (?_:wpAny _ _ (ret<|.ref I) _ _ s)<|Ż _;exact Zb ⟨_,rfl,"set_iterator",_,hT,rY.lookup,q⟩
def ZV(hh:A.handled=none) (ne:a≠I) {es:Array (Int×Value)} {t:SetTable} (c:Nat->Nat) (vs:List Value)
  (nx:∀(s:Shared)(i:Nat),i<=vs.length->Ec b a ns es ep t s.heap->∀(A:Around)(E:Value->Shared->Prop) (Q:Option (Value×Nat)->Shared->Prop),Q ((vs[i]?).map λv=>(v,c<|i+1)) s->wpAny (model prog w) A (setNext a (c i) i ep) Q E s) :
  Walks prog w A I [I,a] [I] vs.length (λi v=>vs[i]?=some v) (λi h=>h.get? I=some (zm (.int (c i) 0) i a es.size ep)/\Ec b a ns es ep t h) where
 sub:=λb hb=>by rw[Ce.mp hb];exact Jb
 frame:=λ_ _ _ st k=>⟨k I Jb _ st.1,st.2.keep λo ho=>k a (Qb _ Jb) o ho⟩
 item:=λi s Q E hi st q=>by
  have e:vs[i]?=some vs[i]:=Nf hi;refine bJe (v:=vs[i]) (c':=c<|i+1) st.1 st.2 (λA E Q' h=>nx s i (gy hi) st.2 A E Q'<|by rw[e];exact h) λh' hI sb=>?_
  have k:∀b o,b≠I->s.heap.get? b=some o->h'.get? b=some o:=λb o hb ho=>by rw[sb.2 b hb];exact ho
  exact q _ h' s.toks e ⟨hI,st.2.keep λo ho=>k a o ne ho⟩ λb o hb ho=>k b o (λh=>hb<|Ce.mpr h) ho
 done:=λs Q E st q=>
  bNb hh st.1 st.2 (λA E Q' h=>nx s _ (Zc _) st.2 A E Q'<|by rw[QD<|Zc _];exact h) λh' k=>q h' s.toks λb o hb ho=>k b o (λh=>hb<|Ce.mpr h) ho
 self:=λ_ _ _ _ st q=>FY st.1 rfl q
def bJg(hh:A.handled=none){T:Addr}(ne:a≠I)(nT:T≠I) {es:Array (Int×Value)} {t:SetTable} (ys:List Nat) (lt:∀y∈ys,y<es.size) :
  Walks prog w A I [I,a,T] [I] (ys.map λy=>(es.getD y (0,.none)).2).length (λi v=>(ys.map λy=>(es.getD y (0,.none)).2)[i]?=some v)
   (λi h=>h.get? I=some (zm (.ref T) i a es.size ep)/\Ec b a ns es ep t h/\h.get? T=some {cls:=.type "tuple",data:=.seq (ys.map λ(n:Nat)=>rawInt n).toArray}) where
 sub:=λb hb=>by rw[Ce.mp hb];exact Jb
 frame:=λ_ _ _ st k=>⟨k I Jb _ st.1,st.2.1.keep λo ho=>k a (Qb _ Jb) o ho,k T (Qb _<|Qb _ Jb) _ st.2.2⟩
 item:=λi s Q E hi st q=>by
  rw[Yd]at hi;have e:ys[i]?=some ys[i]:=Nf hi;have l:=lt _<|Oj hi;have eg:es[ys[i]]?=some es[ys[i]]:=Bm l;refine bJf (e:=es[ys[i]]) st.1 st.2.1 st.2.2 e eg λh' hI sb=>?_
  have k:∀b o,b≠I->s.heap.get? b=some o->h'.get? b=some o:=λb o hb ho=>by rw[sb.2 b hb];exact ho
  refine q _ h' s.toks ?_ ⟨hI,st.2.1.keep λo ho=>k a o ne ho,k T _ nT st.2.2⟩ λb o hb ho=>k b o (λh=>hb<|Ce.mpr h) ho
  rw[Hk,e];simp[getD_eq_getD_getElem?,eg]
 done:=λs Q E st q=>by
  rw[Yd]at st;exact bNc hh st.1 st.2.1 st.2.2 (QD<|Zc _) λh' k=>q h' s.toks λb o hb ho=>k b o (λh=>hb<|Ce.mpr h) ho
 self:=λ_ _ _ _ st q=>FY st.1 rfl q
def Nums(vs:List Value)(ns:List Int):Prop:=(vs.map numOf).Perm ns/\∀v∈vs,∃n t,v=.int n t
def Ec.ai{es:Array (Int×Value)} {t:SetTable} (x:Ec b a ns es ep t h) {l:List (Int×Value)} (p:l.Perm es.toList):Nums (l.map (·.2)) ns:=by
 refine⟨?_,λv hv=>?_⟩
 .rw[Jk];exact(p.map λe=>numOf e.2).trans x.perm
 .obtain⟨e,he,rfl⟩:=bg.mp hv;obtain⟨n,tk,rfl⟩:=x.nums e<|p.mem_iff.mp he;exact⟨n,tk,rfl⟩
def bJh(hh:A.handled=none) (x:jZ (!zE w) a ns s.heap) (jh:ns.length<scanBound)
  (q:∀(I:Addr)(h':Heap)(d:_)(vs:List Value)(fp:List Addr)(St:Nat->Heap->Prop),Nums vs ns->(∀b o,s.heap.get? b=some o->h'.get? b=some o)->s.heap.objs.size<=I->(∀f∈fp,f=a\/s.heap.objs.size<=f)->
   Walks prog w A I fp [I] vs.length (λi v=>vs[i]?=some v) St->St 0 h'->Q (.ref I) {s with heap:=h',drawn:=d}) :
  wpAny (model prog w) A (pyIter<|.ref a) Q E s:=by
 obtain⟨es,ep,t,x⟩:=x;have hT:s.TypeIs (.ref a) "set":=⟨_,x.obj,rfl⟩;have la:a<s.heap.objs.size:=Ud x.obj;refine wpAny_pyIter_slot hT F.slot_set_iter<|Mo F.slot_set_iter hT È ?_<|F.args_set_iter_1 _;unfold Builtin.«frozenset.__iter__» Builtin.Frozenset.slot0;refine Ja<|Ja<|Zb (?_:wpAny _ _ (pure a) _ _ s);refine Zb ?_
 unfold Builtin.Frozenset.sizeOf;refine Ja<|Ja<|Xx x.obj rfl x.fit<|Zb ?_;unfold setDrawn;refine Ja<|Ja<|Ou x.obj rfl x.fit ?_;dsimp only;unfold setsByText;refine Ja<|Ja<|Tu<|Zb<|Zb ?_;have fin:∀(s':Shared)(first:Value),Ec (!zE w) a ns es ep t s'.heap->Q (.ref s'.heap.objs.size) {s' with heap:=s'.heap.push (zm first 0 a es.size ep)}->wpAny (model prog w) A.in1 (setEpoch a >>= λe=>newFields "set_iterator" [first,rawInt 0,.ref a,rawInt es.size,rawInt e] >>= λr=>ret r)
   (λfin s'=>∃r,fin=.done (.ret r)/\∃T' r',s'.TypeIs r T'/\typeLookup (.type T') "__next__"=pure (some r')/\Q r s') E s':=λs' first y q'=>by
  refine Ja<|wpAny_setEpoch_of y.obj rfl y.fit ?_;unfold newFields;refine Ja<|Nu<|Zb ⟨_,rfl,"set_iterator",_,⟨_,Vf _ rfl,rfl⟩,rY.lookup,?_⟩;exact q'
 by_cases hd:(!zE w&&(!t.plain&&decide (es.size>1)))=true
 .refine Hn (λ_=>?_) λh=>absurd hd h
  refine Ja<|bJc es.size (List.range es.size) s _ Nl λys d py=>?_
  have lt:∀y∈ys,y<es.size:=λy hy=>Se.mp<|py.mem_iff.mp hy
  have sz:ys.length<=sizeLine:=fE (by rw[py.length_eq,Nl,x.size];exact jh)
  simp only[newTuple];refine Ja<|Nu ?_<|by show (List.map _ ys).toArray.size<=sizeLine;rw[dh,Yd];exact sz
  refine fin _ _ (x.keep λo ho=>ud _ ho) ?_
  refine q _ _ d (ys.map λy=>(es.getD y (0,.none)).2) _ _ ?_ (λb o ho=>ud _<|ud _ ho) ?_ (λf hf=>?_)
   (bJg hh (T:=s.heap.objs.size) ?_ ?_ ys lt) ⟨Vf _ rfl,x.keep λo ho=>ud _<|ud _ ho,ud _<|Vf _ rfl⟩
  .have e:(ys.map λy=>(es.getD y (0,.none)).2)=(ys.map λy=>es.getD y (0,.none)).map (·.2):=by rw[Jk];rfl
   rw[e];refine x.ai<|(py.map _).trans<|List.Perm.of_eq ?_;refine DM λi=>?_
   by_cases hi:i<es.size
   .simp[List.getElem?_map,List.getElem?_range hi,getD_eq_getD_getElem?,hi]
   .simp[hi]
  .rw[Uh];exact Cq _
  .rcases Kc.mp hf with h|h
   .exact .inr (by rw[h,Uh];exact Cq _)
   .rcases Kc.mp h with h|h
    .exact .inl h
    .exact .inr (iy (Ce.mp h).symm)
  .rw[Uh];exact Cf<|HM la
  .rw[Uh];exact Cf<|Qu _
 .refine Hn (λh=>absurd h hd) λ_=>Ja (Zb ?_)
  refine fin s (.int 0 0) x ?_
  by_cases hb:zE w=true
  .refine q s.heap.objs.size _ s.drawn ((pickOrder (w.params.setOrder a ep) es).toList.map (·.2)) _ _ (x.ai<|O9 _ es) (λb o ho=>ud _ ho) (Zc _) (λf hf=>?_)
    (ZV hh (Cf la) (λ_=>0) _ λs i hi y A E Q' h=>ğ y hb 0 i ?_) ⟨Vf _ rfl,x.keep λo ho=>ud _ ho⟩
   .rcases Kc.mp hf with h|h
    .exact .inr (iy h.symm)
    .exact .inl (Ce.mp h)
   .rw[Hk,Option.map_map,uq]at h;exact h
  .have AN:zE w=false:=by revert hb;cases zE w<;>intro h<;>first|rfl|exact absurd rfl h
   have hd0:(!t.plain&&decide (es.size>1))=false:=by
    rw[AN]at hd;revert hd;cases (!t.plain&&decide (es.size>1)) <;> intro h<;>first|rfl|exact absurd rfl h
   have x':Ec true a ns es ep t s.heap:=by rw[AN]at x;exact x
   refine q s.heap.objs.size _ s.drawn (es.toList.map (·.2)) _ _ (x.ai<|pE _) (λb o ho=>ud _ ho) (Zc _) (λf hf=>?_)
    (ZV hh (b:=true) (t:=t) (ns:=ns) (Cf la) (ao t) _ λs i hi y A E Q' h=>ż y AN hd0 i (by simpa using hi) ?_) ⟨Heap.get?_push_size _ rfl,x'.keep λo ho=>Heap.get?_push_of_some _ ho⟩
   .rcases Kc.mp hf with h|h
    .exact .inr (iy h.symm)
    .exact .inl (Ce.mp h)
   .rw[Hk,Option.map_map,uq]at h;exact h
end
section
variable {A:Around}
def Ž{r:Addr}{Q:Bool->Shared->Prop}(hT:s.TypeIs (.ref r) "set")(q:Q false s):wpAny (model prog w) A (Builtin.List.listLengthHint<|.ref r) Q E s:=by
 unfold Builtin.List.listLengthHint;refine Ja<|QM hT bJd ?_;generalize b5:("set.__len__":String)=id0
 wp_delta
 rw[show splitId id0=some ("set","__len__") from by subst b5;decide+kernel]
 subst b5;refine Ja<|iE (T:="set") (b:=true) hT sub_set_self ?_;refine Hn (λh=>absurd h<|by decide) λ_=>Hn (λ_=>?_) λh=>absurd (by decide+kernel) h
 exact Ja<|wpAny_typeOf hT<|Zb q
def jZ.typeIs(x:jZ b a ns s.heap):s.TypeIs (.ref a) "set":=let ⟨_,_,_,y⟩:=x;⟨_,y.obj,rfl⟩
def Nums.len{vs:List Value} (h:Nums vs ns):vs.length=ns.length:=by
 have:=h.1.length_eq;simpa using this
def bNd{S:Addr} {R:Result->Shared->Prop} (hh:A.handled=none) (x:jZ (!zE w) a ns s.heap) (jh:ns.length<scanBound) (hS:s.heap.get? S=some {cls:=.type "list",data:=.seq #[] 0}) (ne:S≠a)
  (r:∀(h':Heap)(d:_)(tk:Nat)(vs:List Value)(c:Nat),Nums vs ns->(∀b o,b≠S->s.heap.get? b=some o->h'.get? b=some o)->h'.get? S=some {cls:=.type "list",dict:=none,data:=.seq vs.toArray c,slots := #[]}->R (.ok<|.ret res) {s with heap:=h',drawn:=d,toks:=tk}) :
  wpAny (model prog w) A.in1 (Builtin.List.listExtendWith (.ref S) (.ref a) res) (λfin s'=>match fin with|.done f=>R (.ok f) s'|.again c'=>c'.quiet=true/\codeAny (model prog w) A c' R s') (λe s'=>R (.error e) s') s:=by
 unfold Builtin.List.listExtendWith;refine Ja<|wpAny_typeOf (T:="set") x.typeIs ?_;rw[gb (by simp[Builtin.List.listSameRef,ne])]
 refine Ja<|bJh (A:=A.in1) hh x jh λI h' d vs fp St nv k lI lf W st=>?_
 refine Ja<|Rj<|Ž (jZ.typeIs (s:={s with heap:=h',drawn:=d})<|x.keep λo ho=>k a o ho) ?_
 have lS:S<s.heap.objs.size:=Ud hS;have nS:S∉fp:=λh=>by
  rcases lf S h with e|e
  .exact ne e
  .exact absurd lS (Nat.not_lt.mpr e)
 have go:∀(h1:Heap)(Xo:Nat),St 0 h1->(∀b o,b≠S->s.heap.get? b=some o->h1.get? b=some o)->h1.get? S=some {cls:=.type "list",data:=.seq #[] Xo}->
   codeAny (model prog w) A (.builtin "list.extend.loop" ⟨[.ref S,.ref I,res],[]⟩) R {s with heap:=h1,drawn:=d}:=λh1 Xo st1 k1 hS1=>by
  refine codeAny_extend_loopS W.toS (fE<|by rw[nv.len];exact jh) S nS res vs.length 0 _ #[] Xo rfl (Ih _) st1 hS1 (ItemsOf.nil _) λs' xa c' mv hS' it=>?_
  have ev:xa=vs.toArray:=by
   apply ext';refine DM λi=>?_
   rw[uq,ZL];cases ha:xa[i]? with
   |some v=>exact(it.2 i v ha).symm
   |none=>exact(QD<|by rw[<-it.1];exact Array.getElem?_eq_none_iff.mp ha).symm
  subst ev;rw[Moved.eq_with mv];refine r s'.heap d s'.toks vs c' nv (λb o hb ho=>mv.heap b o (λhm=>?_)<|k1 b o hb ho) hS'
  rcases Kc.mp hm with h|h
  .exact hb h
  .exact absurd (Ud ho) (by rw[Ce.mp h];exact Nat.not_lt.mpr lI)
 refine Hn (λ_=>?_) λ_=>Zb ⟨fy B3 _,go h' 0 st (λb o _ ho=>k b o ho)<|k S _ hS⟩
 refine Ja (av (Ja (?_:wpAny _ _ (updateSeq S (·.push .none) >>= λ_=>updateSeq S (·.pop)) _ _ _)))
 have o1:=k S _ hS;have o2:=pq (Obj.mapSeq (·.push Value.none)) o1 rfl;have o3:=pq (Obj.mapSeq (·.pop)) o2 rfl;have R5:∀b o,b≠S->h'.get? b=some o->((h'.update S (Obj.mapSeq (·.push Value.none))).update S (Obj.mapSeq (·.pop))).get? b=some o:=λb o hb ho=>by
  rw[Dr _ _<|Nk hb,Dr _ _<|Nk hb];exact ho
 refine Ja<|wpAny_updateSeq o1 rfl<|wpAny_updateSeq (hz:=by seq_fits) o2 rfl ?_
 exact Zb ⟨fy B3 _,go _ _ (W.frame 0 _ _ st λb hb o ho=>R5 b o (λe=>nS<|e ▸ hb) ho) (λb o hb ho=>R5 b o hb<|k b o ho) o3⟩
def bJi{R:List Value->Shared->Prop}(hh:A.handled=none)(x:jZ (!zE w) a ns s.heap)(jh:ns.length<scanBound)
  (r:∀(h':Heap)(d:_)(tk:Nat)(vs:List Value),Nums vs ns->(∀b o,s.heap.get? b=some o->h'.get? b=some o)->R vs {s with heap:=h',drawn:=d,toks:=tk}) :
  wpAny (model prog w) A (collect<|.ref a) R E s:=by
 unfold collect;refine Ja<|wpAny_runValue<|Uu entry_proto_collect' ?_;rw[Vx PySem.F.plain_proto_collect _];refine(?_:wpAny _ A.in1 (newList [] >>= λl=>again<|.builtin "list.__iadd__" ⟨[l,.ref a],[]⟩) _ _ s)
 refine Ja<|Nu<|Zb ⟨fy O3 _,Uu entry_list_iadd' ?_⟩;rw[Vx O3 _];have la:a<s.heap.objs.size:=let ⟨_,_,_,y⟩:=x;Ud y.obj;have hS:(s.heap.push {cls:=.type "list",data:=.seq ([]:List Value).toArray}).get? s.heap.objs.size=some {cls:=.type "list",data:=.seq #[] 0}:=Vf _ rfl;have key:=bNd (A:=A) (s:={s with heap:=s.heap.push {cls:=.type "list",data:=.seq ([]:List Value).toArray} }) (res:=.ref s.heap.objs.size) (prog:=prog)
  (R:=λ(q:Result)(s':Shared)=>q=.ok (.ret<|.ref s.heap.objs.size)/\∃(h':Heap)(d:_)(tk:Nat)(vs:List Value)(c:Nat),s'={s with heap:=h',drawn:=d,toks:=tk}/\Nums vs ns/\(∀b o,s.heap.get? b=some o->h'.get? b=some o)/\h'.get? s.heap.objs.size=some {cls:=.type "list",dict:=none,data:=.seq vs.toArray c,slots := #[]})
  hh (x.keep λo ho=>ud _ ho) jh hS (AE la)
  λh' d tk vs c nv k o=>⟨rfl,h',d,tk,vs,c,rfl,nv,λb o' ho=>k b o' (Cf<|Ud ho)<|ud _ ho,o⟩
 have last:∀(h':Heap)(d:_)(tk:Nat)(vs:List Value)(c:Nat),Nums vs ns->(∀b o,s.heap.get? b=some o->h'.get? b=some o)->h'.get? s.heap.objs.size=some {cls:=.type "list",dict:=none,data:=.seq vs.toArray c,slots := #[]}->
   wpAny (model prog w) A (load s.heap.objs.size >>= λo=>match o.data with|.seq xs _=>pure xs.toList|_=>unsupported "internal:collect") R E {s with heap:=h',drawn:=d,toks:=tk}:=λh' d tk vs c nv k o=>by
  refine Ja<|wpAny_load o ?_;exact Zb<|r h' d tk vs nv k
 refine Kk key (λfin s' y=>?_) λe s' y=>nomatch y.1
 cases fin with
 |done f=>
  obtain⟨e,h',d,tk,vs,c,rfl,nv,k,o⟩:=y;cases e;exact last h' d tk vs c nv k o
 |again Xo=>
  refine⟨y.1,Oo y.2 λq Ym z=>?_⟩
  obtain⟨rfl,h',d,tk,vs,c,rfl,nv,k,o⟩:=z;exact last h' d tk vs c nv k o
theorem AW:∀{vs:List Value},(∀v∈vs,∃n t,v=Value.int n t)->IntsAre vs (vs.map Pu.numOf)
 |[],_=>IntsAre.nil
 |v::vs,h=>by
  obtain⟨n,t,rfl⟩:=h v Jb;exact IntsAre.cons _ _<|AW λv hv=>h v<|Qb _ hv
def Ġ(hh:A.handled=none)(x:jZ (!zE w) a ns s.heap)(jh:ns.length<64)
  (q:∀(D:Addr)(h':Heap)(d:_)(tk:Nat)(out:Array Value)(Sn:List Int)(c:Nat),IntsAre out.toList Sn->Sn.Perm ns->Sn.Pairwise (· <= ·)->(∀b o,s.heap.get? b=some o->h'.get? b=some o)->(∀b o,s.heap.get? b=some o->b<D)->h'.get? D=some (seqObj "list" out c)->Q (.ref D) {s with heap:=h',drawn:=d,toks:=tk}) :
  wpAny (model prog w) A (call (.builtin "sorted") [.ref a]) Q E s:=by
 refine Calls.call_function_entry kind_sorted plain_sorted entry_sorted (args_sorted1 _) ?_
 unfold Builtin.«sorted»;have fb:ns.length<scanBound:=by unfold scanBound;omega
 refine Ja (m:=checkCount "sorted" 1 1 _)<|Zb<|Ja<|bJi (A:=A.in1) hh x fb λh' d tk vs nv k=>?_
 have l64:vs.length<64:=by rw[nv.len];exact jh
 refine Ja<|wpAny_newList ?_<|by rw[zq];omega
 have o:(h'.push<|seqObj "list" vs.toArray 0).get? h'.objs.size=some (seqObj "list" vs.toArray 0):=Vf _ rfl;refine Ja<|Rj<|Mo slot_list_sort ⟨_,o,rfl⟩ entry_list_sort (list_sort_tree o (AW nv.2) l64 λout Sn e1 e2 e3=>⟨_,rfl,?_⟩)<|args_list_sort _
 obtain⟨c,oc⟩:=sortedHeap_at (out:=out) o;refine Zb ⟨_,rfl,q _ _ d tk out Sn c e1 (e2.trans nv.1) e3 (λb ob hb=>?_) (λb ob hb=>Ud<|k b ob hb) oc⟩
 have l:=Ud<|k b ob hb;rw[sortedHeap_old (Cf l) (by rw[Uh];exact HM l)]
 exact ud _<|k b ob hb
end
end Pu
namespace Pu
open PySem PySem.Spec PyProof.Rows L2
theorem UT(ns:List Int):∀k,k<=ns.length->Eo (λi=>ns.getD i 0) k=tm (ns.take k)
 |0,_=>rfl
 |k+1,h=>by
  have e:ns.take (k+1)=ns.take k++[ns.getD k 0]:=by
   rw[List.take_add_one,oi,Nf (show k<ns.length by omega)]
   rfl
  rw[e];show Co (Eo _ k) _=_;rw[UT ns k (by omega)]
  unfold tm;rw[List.foldl_append];rfl
def bNe{l m:List Int}(h:m.Perm l)(hw:m.Pairwise (· <= ·)):m=Hl l:=List.Perm.eq_of_pairwise (le:=(· <= ·)) (λa b _ _ h1 h2=>Int.le_antisymm h1 h2) hw (ŀ l)<|h.trans (dw l).symm
theorem BW:∀{us:List Value}{ns:List Int},IntsAre us ns->Ca (ns.map V.int) us
 |_,_,.nil=>.nil
 |_,_,.cons n t h=>.cons ⟨t,rfl⟩<|BW h
def ž(x:jN P w H h a o):∃u,h.get? a=some u:=by
 cases o with
 |lst xs=>obtain⟨_,_,_,_,e⟩:=x;exact⟨_,e⟩
 |tup xs=>obtain⟨_,_,_,o,e,_⟩:=x;exact⟨_,e⟩
 |dK oa=>obtain⟨_,_,_,_,o,_,_,e,_⟩:=x;exact⟨_,e⟩
 |dT oa=>obtain⟨_,_,_,_,o,_,_,e,_⟩:=x;exact⟨_,e⟩
 |set S n=>obtain⟨o,_,_,_,e,_⟩:=x;exact⟨_,e⟩
 |ins C dx fs=>obtain⟨_,_,_,e,_⟩:=x;exact⟨_,e⟩
 |own y=>obtain⟨_,e⟩:=x;exact⟨_,e⟩
 |xd fs=>obtain⟨_,⟨_,_,_,e,_⟩,_⟩:=x;exact⟨_,e⟩
 |Jp lo hi=>obtain⟨_,_,_,e⟩:=x;exact⟨_,e⟩
 |ij ob u=>obtain⟨e,_⟩:=x;exact⟨_,e⟩
 |Lp ps=>exact⟨_,(show h.get? a=some _ from x)⟩
 |met f y=>exact⟨_,(show h.get? a=some _ from x)⟩
 |ext φ=>obtain⟨_,⟨_,e⟩,_⟩:=x;exact⟨_,e⟩
section
variable {a:Expr}
def ġ(hc:X.calm=true):lU X (.type "set") (λxs H Q=>∃p ns,xs=[.ref p]/\Ae X.K H p (ns.map V.int)/\ns.length<=4000/\∀l,H l=none->Q (.ref l) (Ob H l<|.ext<|jZ (!zE X.w) l<|tm ns)):=by
 intro aa s σ H xs us Q I r h;obtain⟨p,ns,rfl,hq,hl,q⟩:=h;obtain⟨u,rfl,rx⟩:=vals1 r;cases rx;obtain⟨Sa,r',pl,hz⟩:=I.list hq;have Pc:=r'.length;rw[Yd]at Pc;refine bJb (ns:=ns) (I.ok.hd hc) pl.isList (by simpa using NV r') (by rw[List.size_toArray,<-Pc];show ns.length+1<4096;omega) λh' tk hS hk=>?_
 rw[show Sa.toArray.size=ns.length by rw[dh,Pc],UT ns _<|Zc _,List.take_length]at hS
 obtain⟨es,ep,t,hIs⟩:=id hS;exact⟨.ref s.heap.objs.size,_,I.laid (t':=tk) (o:=.ext<|jZ (!zE X.w) s.heap.objs.size<|tm ns) hk (Zc _) ⟨hS,⟨_,hIs.obj⟩,λh1 h2 x k=>x.keep k⟩,rfl,q _<|I.ib.fresh<|Zc _⟩
def Ģ(hc:X.calm=true):lU X (.builtin "sorted") (λxs H Q=>∃p ns,xs=[.ref p]/\H p=some (.ext<|jZ (!zE X.w) p ns)/\ns.length<64/\∀l,H l=none->Q (.ref l) (Ob H l<|.lst<|(Hl ns).map V.int)):=by
 intro aa s σ H xs us Q I r h;obtain⟨p,ns,rfl,hq,hn,q⟩:=h;obtain⟨u,rfl,rx⟩:=vals1 r;cases rx;obtain⟨hS,_,_⟩:=I.ib _ _ hq;refine Ġ (I.ok.hd hc) hS hn λD h' d tk out Sn c ho hp hw hk hD hd=>?_
 obtain rfl:=bNe hp hw;have V4:H D=none:=by
  cases hH:H D with
  |none=>rfl
  |some o=>
   obtain⟨u,e⟩:=ž<|I.ib D o hH;exact absurd (hD D u e)<|Oi _
 have sm:bG H (Ob H D<|.lst<|(Hl ns).map V.int):=cL V4;have hl:(Hl ns).length=ns.length:=(dw ns).length_eq;refine⟨.ref D,Ob H D<|.lst<|(Hl ns).map V.int,I.step (g':=s.gens) (d':=d) (t':=tk) (ch:=[]) (λ_ z=>nomatch z) (λb o _ _ _ e _=>hk b o e) (λb o _ _ _ e _=>⟨o.slots,hk b o e⟩) (λb o _ e n=>by rw[bU<|Cf<|hD b o e];exact n) (λb o _ e=>⟨o,hk b o e⟩) (λb xs e=>sm _ _ e) (λb o u e=>sm _ _ e) (λb ps e=>⟨#[],by rw[sm _ _ e];simp⟩) (λm ⟨o,es,ep,ho,r⟩=>⟨o,es,ep,hk _ o ho,r⟩) (λb o e=>?_) I.bare,rfl,q _ V4⟩
 by_cases hb:b=D
 .subst hb;rw[cD]at e;cases e;exact⟨by rw[Yd,hl,zq];omega,out.toList,c,BW ho,by simpa using hd⟩
 .rw[bU hb]at e;exact(I.ib b _ e).ph (λb v _ q=>hk b v q) (λb q=>sm _ _ q) λb xs q=>sm _ _ q
theorem CW{K:Frag}{H:Hp}:∀(l:List Int),bI K H (l.map D.int) (l.map V.int)
 |[]=>.nil
 |_::l=>.cons (bR.mpr rfl)<|CW l
def ſ(hm:X.mg "sorted"=none)(hm2:X.mg "set"=none)(hc:X.calm=true)(ha:PE X a (tP X.K B f))(hg:Gl X "sorted":=by rfl)(Xh:Gl X "set":=by rfl)(hs:starEach [.Call (.Name "set" p1) [a] [] p2] X.env=(false,eval (.Call (.Name "set" p1) [a] [] p2) X.env)::starEach [] X.env:=by rfl)
  (Ef:Lf a [] X.env:=by rfl):PE X (.Call (.Name "sorted" p0) [.Call (.Name "set" p1) [a] [] p2] [] pos) (tI X.K B<|e1 OI f):=by
 refine cP (nZ (Ģ hc) hg hm PyProof.Rows.boot_sorted (cJ (yE (ġ hc) Xh hm2 PyProof.Rows.boot_set (cJ ha gM Ef) (he:=Ef)) gM hs) (he:=hs)) ?_
 rintro σ H Q ⟨A,st,d,rs,hd,q⟩;obtain⟨x,hx,h2⟩:=R.ma hd;cases x<;>first|(cases h2;done)|skip
 rename_i xs;obtain⟨l,hl,h3⟩:=R.ma h2;obtain⟨c,h4⟩:=aU h3;cases h4;refine⟨A,st,_,rs,hx,λv H1 s1 r1=>?_⟩
 obtain⟨p,vs,e,h6,r6⟩:=r1.lst;rw[cw hl]at r6;rw[NT r6]at h6;exact⟨p,l,by rw[e],h6,c.1,λn hn=>⟨n,_,rfl,cD,c.2,λm Lv=>q _ _ (s1.trans<|(cL hn).trans<|cL Lv)<|kJ (rs.own.mono<|s1.trans<|cL hn) Lv<|CW _⟩⟩
end
section
variable {iter c:Expr} {t:Tg} {u:Ex}
def bFq{is:List Nat}(hi:L2.PI X tg iter (Xl X.K B it))(hg:∀(B:List Addr)(C:Addr)(Ba:Shared)(Ka:Hp)(fp:List Addr),PG (cM X scope C Ba Ka fp) tg<|tG X.K B t)
  (ht:∀(B:List Addr)(C:Addr)(Ba:Shared)(Ka:Hp)(fp:List Addr),PT (cM X scope C Ba Ka fp) c<|tT X.K B u)
  (he:∀(B:List Addr)(C:Addr)(Ba:Shared)(Ka:Hp)(fp:List Addr),PE (cM X scope C Ba Ka fp) elt<|tI X.K B f) (hc:X.calm=true:=by rfl) (hsub:gq is t:=by exact qu) (S:Tc X scope is:=by exact .of rfl) (hs:∀x,foldedSetIterable iter X.env x=pure x:=by intro _;rfl) :
  PE X (.ListComp elt [⟨tg,iter,[c],0⟩] scope pos) (tF X.K B<|cN is t it u f):=by
 intro aa s σ H Q I h;obtain⟨A,st,d,rs,hd,q⟩:=h;obtain⟨xs,hx,h2⟩:=R.ma hd;obtain⟨hl,h3⟩:=aU h2;obtain⟨ys,hy,h4⟩:=R.ma h3;cases h4;rw[vE];refine uV (use:=none) (Qf:=EP X aa σ Q) (Q:=Q) (tt:=Kz X.K u) (te:=Xn X.K f) (rest:=λenv it p=>isTrue c env (eval c env) >>= λok=>if ok=true then (eval elt env >>= λx=>call (.builtin "list.append") [p,x] >>= λ_=>again<|.compLoop (.ListComp elt [⟨tg,iter,[c],0⟩] scope pos) 0 it p env) else again (.compLoop (.ListComp elt [⟨tg,iter,[c],0⟩] scope pos) 0 it p env)) S hc hi (λC Ba Ka fp=>Du λB=>hg B C Ba Ka fp) (λ_ _ _=>rA)
  (λC Ba Ka fp it p s Q h=>KL (Y:=cM X scope C Ba Ka fp) h) (λC Ba Ka fp it p τ H s aa vs N Q I h q=>nL (Y:=cM X scope C Ba Ka fp) rfl (Cu λB=>he B C Ba Ka fp) (LL λB=>ht B C Ba Ka fp) τ H s aa vs N Q I h (λ_ Q Q' m h=>zA Q Q' m h) q) hs I
  (su hsub (λτ H Q h=>h) rs hx hl hy λp vs H1 H' s1 hp s2 hv r=>?_) λC p H5 s5 m5 s3 H3 fp τ hC I3 Ti I5 Cj q5=>⟨m5,Cj,λh' xp=>⟨.ref p,H5,Bw I3 Ti hC I5 xp,rfl,q5⟩⟩
 obtain⟨G,g1,g2,g3,g4⟩:=N2 s1 hp s2 hv r;have:=q p vs G g1 g2 g4;rw[g3]at this;exact this
end
section
variable {o x:Expr} {h:Ex}
def g0{K:Frag} {t:Bool} {ks:List D} (rx:nJ K A H (.Ve t ks ds) v):∃a,v=.ref a/\Sz H a:=by
 rcases rx with h|⟨a,kk,o,ME,vs,e,e2,h,ko,r⟩
 .obtain⟨a,vs,e,q,r⟩:=uN.mp h;rcases q with ⟨_,oa,q1,_,_⟩|⟨_,oa,q1,_,_⟩
  .exact⟨a,e,.inl ⟨oa,.inl<|bN _ _ _ _ q1⟩⟩
  .exact⟨a,e,.inr ⟨oa,.inl<|bN _ _ _ _ q1⟩⟩
 .cases kk<;>cases e;rcases ko with ⟨_,oa,q1,_⟩|⟨_,oa,q1,_⟩
  .subst q1;exact⟨a,e2,.inl ⟨oa,.inl h⟩⟩
  .subst q1;exact⟨a,e2,.inr ⟨oa,.inl h⟩⟩
def GY{K:Frag} {k z r:D} {u y:V} (hv:v=.ref a) (rx:nJ K A H d v) (ry:Fb K (hide A H) k u) (rz:Fb K (hide A H) z y) (hd:ur d k z=.ok r):∃ov,ii H a u ov/\Fb K (hide A H) r (ov.getD y):=by
 unfold ur at hd;split at hd
 .obtain⟨hk,h2⟩:=aU hd;obtain⟨a',ov,e3,g,hs,g2⟩:=IB rx (ry.mono<|bN _ _) hk;rw[hv]at e3;cases e3;refine⟨ov,g,?_⟩;split at h2
  .obtain⟨w,rfl,Bh⟩:=g2 r<|Yp h2;exact Bh
  .rename_i hn;cases h2;have:ov=none:=by
    cases ov with
    |none=>rfl
    |some w=>exact absurd (hs.symm.trans rfl) hn
   rw[this];exact rz
 .cases hd
def DW{k z r:D}(hd:ur d k z=.ok r):∃t ks vs,d=.Ve t ks vs:=by
 unfold ur at hd;split at hd
 .exact⟨_,_,_,rfl⟩
 .cases hd
def bNf(hu:X.A.units+64<cLine)(ho:PE X o (tP X.K B f))(he:PE X e (tI X.K B g))(m1:Ah o "get" X.env:=by rfl)
  (m2:jl Ta [e] X.env:=by rfl)
  (m3:Bi xb Ta:=by rfl) (m4:backTo Ta (starEach [e] X.env)=[(false,eval e X.env)]:=by rfl):PE X (.Call (.Attribute o "get" xb) [e] [] Ta) (tI X.K B<|zu f g<|eC .lc):=by
 refine cP (ĺ (by omega) ho he ⟨m1,m2,m3,m4⟩) ?_
 rintro σ H Q ⟨A,st,r,rs,hr,q⟩;obtain⟨d,hd,h2⟩:=R.ma hr;obtain⟨k,hk,h3⟩:=R.ma h2;have h4:ur d k .lc=.ok r:=h3;refine⟨A,st,d,rs,hd,λv H1 s1 rx=>?_⟩
 obtain⟨t,ks,vs,rfl⟩:=DW h4;obtain⟨a,rfl,hD⟩:=g0 rx;refine⟨a,rfl,hD,A,st,k,rs.mono s1,hk,λu H2 s2 ry=>?_⟩
 obtain⟨ov,g1,g2⟩:=GY rfl (rx.mono s2) ry (rQ.mpr rfl) h4;exact⟨ov,g1,q _ H2 (s1.trans s2) g2⟩
def bNg(hu:X.A.units+64<cLine)(ho:PE X o (tP X.K B f))(he:PE X e (tI X.K B g))(hx:PE X x (tI X.K B h))(m1:Ah o "get" X.env:=by rfl)
  (m2:jl Ta [e,x] X.env:=by rfl)
  (m3:Bi xb Ta:=by rfl) (m4:backTo Ta (starEach [e,x] X.env)=[(false,eval e X.env),(false,eval x X.env)]:=by rfl):PE X (.Call (.Attribute o "get" xb) [e,x] [] Ta) (tI X.K B<|zu f g h):=by
 refine cP (Ļ (by omega) ho he hx ⟨m1,m2,m3,m4⟩) ?_
 rintro σ H Q ⟨A,st,r,rs,hr,q⟩;obtain⟨d,hd,h2⟩:=R.ma hr;obtain⟨k,hk,h3⟩:=R.ma h2;obtain⟨z,hz,h4⟩:=R.ma h3;refine⟨A,st,d,rs,hd,λv H1 s1 rx=>?_⟩
 obtain⟨t,ks,vs,rfl⟩:=DW h4;obtain⟨a,rfl,hD⟩:=g0 rx;refine⟨a,rfl,hD,A,st,k,rs.mono s1,hk,λu H2 s2 ry=>⟨A,st,z,rs.mono<|s1.trans s2,hz,λy H3 s3 rz=>?_⟩⟩
 obtain⟨ov,g1,g2⟩:=GY rfl (rx.mono<|s2.trans s3) (ry.mono<|bG.hide s3) rz h4;exact⟨ov,g1,q _ H3 (s1.trans<|s2.trans s3) g2⟩
end
section
variable {a b:Expr} {r:ue}
def bNh(ha:PA X es (tA X.K B r))(hb:PE X b (tP X.K B g)):PE X (.BinOp (.List es p1) .Mult b pos) (tI X.K B<|I0 r g):=by
 refine cP (B0 bLd (UJ ha) hb) ?_
 rintro σ H Q ⟨A,st,d,rs,hd,q⟩;obtain⟨xs,hx,h2⟩:=R.ma hd;obtain⟨y,hy,h3⟩:=R.ma h2;obtain⟨j,rfl,h4⟩:=Qt h3;obtain⟨⟨c0,c1,c2,c3⟩,h5⟩:=aU h4;cases h5;refine⟨A,st,xs,rs,hx,λvs H1 s1 r1=>⟨by rw[r1.length];exact lim c0,λp hp=>?_⟩⟩
 have s2:=s1.trans<|cL (o:=.lst vs) hp;refine⟨A,st,_,rs.mono s2,hy,λv H2 s3 r2=>?_⟩
 refine⟨p,j,vs,rfl,r2.int,s3 _ _ cD,by omega,by omega,by rw[r1.length];exact lim c1,λn hn=>?_⟩
 refine q _ _ (s2.trans<|s3.trans<|cL hn)<|kJ (rs.own.mono<|s2.trans s3) hn ?_;exact((r1.mono<|bG.hide<|cL hp).mono<|bG.hide s3).rep j.toNat
def QJ(hm:X.mg "int"=none)(ha:PE X a (tP X.K B f))(hg:Gl X "int":=by rfl)(hs:Lf a [] X.env:=by rfl):PE X (.Call (.Name "int" p0) [a] [] pos) (tI X.K B<|e1 Ao f):=by
 refine cP (yE ã hg hm (by rfl) (cJ ha gM hs) (he:=hs)) ?_
 rintro σ H Q ⟨A,st,d,rs,hd,q⟩;obtain⟨y,hy,h2⟩:=R.ma hd;refine⟨A,st,y,rs,hy,λv H1 s1 r1=>?_⟩
 unfold Ao at h2;split at h2
 .cases h2;exact .inl ⟨_,by rw[r1.int],q _ H1 s1<|bR.mpr rfl⟩
 .cases h2;exact .inr ⟨_,by rw[r1.bl],q _ H1 s1<|bR.mpr rfl⟩
 .cases h2
end
structure lm(K:Frag)(C:Addr):Prop where
 makes:makesIn K C=true
 init:findIn K (.ref C) "__init__"=some (some<|.builtin "object.__init__")
 kp:keepIn K (.ref C)=true
structure fi(K:Frag)(C:Addr):Prop where
 one:kitOne K (.ref C) (.ref C)=some true
 at_:findIn K (.ref C) "__class__"=some (some<|.builtin "object.__class__")
 get:specialIn K (.builtin "object.__class__") "__get__"=some (some<|.builtin "getset_descriptor.__get__")
 b6:takesIn K (.builtin "object.__class__")=some true
 top:mroIn K C (.type "object")=some true
section
variable {a b:Expr}
def uD(hf:PE X e (tI X.K B f))(hg:PE X e (tI X.K B g)):PE X e (tI X.K B<|gP f g):=by
 intro aa s σ H Q I h;obtain⟨A,st,d,rs,hd,q⟩:=h;rcases bLq hd with h|h
 .exact hf aa s σ H Q I ⟨A,st,d,rs,h,q⟩
 .exact hg aa s σ H Q I ⟨A,st,d,rs,h,q⟩
def bx(n:lm X.K C)(hc:ClsAt X.K c C)(hm:X.mg (ofString c)=some (.ref C))(hg:Gl X (ofString c):=by rfl)(Rf:xf (ofString c):=by decide) :
  PE X (.Call (.Name (ofString c) p0) [] [] pos) (tI X.K B<|du c):=by
 intro aa s σ H Q I h;obtain⟨A,st,d,rs,hd,q⟩:=h;cases hd;refine Yx<|vt I hg hm ?_ Rf;refine PySem.W.callWith_K0 I.tf n.kp ?_
 have Y:=IM (M:=model X.prog X.w) I.tf n.makes;refine my<|å I.tf n.makes n.init (λself=>PySem.W.Looks.of_pure<|PySem.W.oi_bind self) ?_
 have hx:((s.heap.push emptyDict).push<|instObj C s.heap.objs.size).get? (s.heap.objs.size+1)=some (instObj C s.heap.objs.size):=by
  have:=Vf (s.heap.push emptyDict) (o:=instObj C s.heap.objs.size) rfl
  rwa [Uh]at this
 have t1:Looks (model X.prog X.w) ((s.heap.push emptyDict).push<|instObj C s.heap.objs.size) (typeOf<|.ref<|s.heap.objs.size+1) (.ref C):=(PySem.W.Looks.ld hx).andThen .now;have t2:Looks (model X.prog X.w) ((s.heap.push emptyDict).push<|instObj C s.heap.objs.size) (isInstance (.ref<|s.heap.objs.size+1)<|.type "object") true:=t1.andThen<|Y.top.keeps λb o z=>ud _<|ud _ z
 refine codeAny_call_builtin PySem.W.oi_plain PySem.W.entry_oi<|@PySem.W.check_slot (model X.prog X.w) _ _ _ "object.__init__" "object" "__init__" (.ref<|s.heap.objs.size+1) [] [] _ PySem.W.oi_kind PySem.W.oi_split t2 (PySem.W.oi_args<|.ref<|s.heap.objs.size+1) ?_;rw[PySem.W.oi_run];refine Zb<|And.intro rfl ?_;have zp:H (s.heap.objs.size+1)=none:=I.ib.fresh<|Cq _;have DN:H s.heap.objs.size=none:=I.ib.fresh<|Zc _;refine⟨V.ref<|s.heap.objs.size+1,_,ya.made (C:=C) I,rfl,q _ _ (λb u z=>?_) ?_⟩
 .rw[bU<|bJ z zp,bU<|bJ z DN];exact z
 .refine GB.mpr ⟨_,C,s.heap.objs.size,[],[],rfl,?_,hc.ns,rfl,rfl,.nil⟩;rw[cR<|rs.own.free zp];exact cD
def bFs:lU X (.builtin "isinstance") (λxs H Q=>∃l C dx fs,xs=[.ref l,.ref C]/\H l=some (.ins C dx fs)/\Al X.K C/\fi X.K C/\Q (.bl true) H):=by
 intro aa s σ H xs us Q I r q;obtain⟨l,C,dx,fs,rfl,hl,hc,hi,q⟩:=q;obtain⟨u1,u2,rfl,r1,r2⟩:=r.two;have e2:u2=Value.ref C:=r2;subst e2;exact ES I r1 (.ins hl hc hi.at_ hi.get hi.b6 hi.top) hi.one λtk=>⟨.bl true,H,I.tok tk,rfl,q⟩
def bQb(hm:X.mg "isinstance"=none)(hc:ClsAt X.K c C)(hD:X.mg (ofString c)=some (.ref C))(hi:fi X.K C)(ha:PE X a (tP X.K B f))(hg:Gl X "isinstance":=by rfl)(Xh:Gl X (ofString c):=by rfl)(Rf:xf (ofString c):=by decide)
  (hs:starEach [a,.Name (ofString c) p1] X.env=(false,eval a X.env)::starEach [.Name (ofString c) p1] X.env:=by rfl) (Ef:starEach [.Name (ofString c) p1] X.env=(false,eval (.Name (ofString c) p1) X.env)::starEach [] X.env:=by rfl) :
  PE X (.Call (.Name "isinstance" p0) [a,.Name (ofString c) p1] [] pos) (tI X.K B<|e1 (T1 c) f):=by
 refine cP (nZ bFs hg hm boot_isinstance (cJ ha (cJ (oB (v:=.ref C) Xh hD rfl Rf) gM Ef) hs) (he:=hs)) ?_
 rintro σ H Q ⟨A,st,d,rs,hd,q⟩;obtain⟨x,hx,h2⟩:=R.ma hd;refine⟨A,st,x,rs,hx,λv H1 s1 r1=>?_⟩
 cases x<;>first|(cases h2;done)|skip
 obtain⟨e1,h3⟩:=aU h2;subst e1;cases h3;obtain⟨p,C',dx,fs,e2,h4,h5,h6,h7⟩:=r1.ins;subst e2;have:C'=C:=by have z:=h5.symm.trans hc.ns;injection z with z;injection z with z;injection z
 subst this;exact⟨p,C',dx,fs,rfl,h4,hc.cl,hi,q _ H1 s1<|cU.mpr rfl⟩
def bNi(i j:Nat){y fx:Str}{k jj:Nat} {cp:Pos} (h:Ga X.prog X.w X.K X.mg X.base fx k 2 p) (hr:dc jj X.A) (hk:k<=jj) (he:PE X e (tI X.K B f)) (hN:X.N.Nodup) (hi:X.N[i]?=some x:=by rfl) (hj:X.N[j]?=some y:=by rfl)
  (hx:Loc X.env.scope x:=by exact Ip rfl) (hv:Ei X.env.scope y:=by exact ll rfl) (hd:xf y:=by decide) (af:kl y:=by decide)
  (hg:Gl X fx:=by rfl) (Rf:xf fx:=by decide) (fc:Ah (.Name y p1) "pop" X.env:=by rfl) (Ac:Bi xb Ta:=by rfl)
  (Ef:starEach [.Call (.Attribute (.Name y p1) "pop" xb) [] [] Ta] X.env=(false,eval (.Call (.Attribute (.Name y p1) "pop" xb) [] [] Ta) X.env)::starEach [] X.env:=by rfl)
  (hs1:starEach [e,.Call (.Attribute (.Name y p1) "pop" xb) [] [] Ta] X.env=(false,eval e X.env)::starEach [.Call (.Attribute (.Name y p1) "pop" xb) [] [] Ta] X.env:=by rfl)
  (ff:(backTo cp<|starEach [.Call (.Attribute (.Name y p1) "pop" xb) [] [] Ta] X.env).any (·.1)=false:=by rfl)
  (hs:Hj (.Call (.Name fx p0) [e,.Call (.Attribute (.Name y p1) "pop" xb) [] [] Ta] [] cp) (some<|.Name x pos') pos.line X.env:=by rfl)
  (hf:Vl X x:=by first|exact .inl rfl|exact .inr rfl|assumption) :
  PS X (.Assign [.Name x pos'] (.Call (.Name fx p0) [e,.Call (.Attribute (.Name y p1) "pop" xb) [] [] Ta] [] cp) pos) (tS X.K B<|UC i j p f):=by
 obtain⟨fa,fd,ps,F,m,kp,bd⟩:=h.ex;refine gU (Ew hN hi hx (LI F (hr.mono hk) hg m kp bd .nil ix (cJ he (cJ (WB ND PySem.F.slot_list_pop PySem.F.type_list_pop bLc (tE hj hv hd af) fc Ac) gM Ef) hs1) Rf hs1 ff) hs hf) ?_
 rintro Dn σ H ⟨A,st,r,rs,hr,pc⟩;obtain⟨x',Sm,h3⟩:=R.ma hr;split at h3
 .rename_i ys e1;split at h3
  .rename_i d ed;obtain⟨c,h4⟩:=aU h3;obtain⟨y',hy,h5⟩:=R.ma h4;cases h5;obtain⟨l,o,vs,e2,ml,h1,ko,q,u⟩:=rs.lst j _ ys e1;have eo:o=.lst vs:=ko;subst eo;refine⟨A,st,x',rs,Sm,λv H' s rv=>?_⟩
   have ql:=q.length;have q':=q.mono<|bG.hide s;rw[u3]at ed;obtain⟨w,hw,Bh⟩:=q'.get ed;obtain⟨w1,w2⟩:=(rs.mono s).write e1 e2 (k1:=.l) (ds:=ys.dropLast) (Fg:=vs.dropLast) rfl (by
    rw[E4,E4,ql];exact q'.take _)
   refine⟨.ref l,e2,.inl ⟨rfl,vs,Ae.of<|s _ _ h1⟩,l,vs,w,rfl,rfl,s _ _ h1,by rw[ql];exact hw,?_⟩
   have hh:hide (A++B) (Ob H' l<|.lst vs.dropLast)=hide (A++B) H':=ow<|Fh _ ml;refine⟨A++B,[x',d],y',w1.own,?_,rfl,hy,λz H3 s3 r3=>pc A _ H3 ((Le.of s).trans<|w2.trans<|Le.of s3)<|(w1.mono s3).set i r3⟩
   rw[hh];exact .cons rv<|.cons Bh .nil
  .cases h3
 .cases h3
end
section
def ģ (hc:Al X.K C) (hi:fi X.K C) (ho:kitOne X.K (.ref C) (.ref C')=some b):lU X (.builtin "isinstance") (λxs H Q=>∃l dx fs,xs=[.ref l,.ref C']/\H l=some (.ins C dx fs)/\Q (.bl b) H):=by
 intro aa s σ H xs us Q I r q;obtain⟨l,dx,fs,rfl,hl,q⟩:=q;obtain⟨u1,u2,rfl,r1,r2⟩:=r.two;have e2:u2=Value.ref C':=r2;subst e2;exact ES I r1 (.ins hl hc hi.at_ hi.get hi.b6 hi.top) ho λtk=>⟨.bl b,H,I.tok tk,rfl,q⟩
def cx{a:Expr} (hm:X.mg "isinstance"=none) (hc:ClsAt X.K c C) (hD:X.mg (ofString c')=some (.ref C')) (hi:fi X.K C) (ho:kitOne X.K (.ref C) (.ref C')=some b) (ha:PE X a (tP X.K B f)) (hg:Gl X "isinstance":=by rfl) (Xh:Gl X (ofString c'):=by rfl) (Rf:xf (ofString c'):=by decide)
  (hs:starEach [a,.Name (ofString c') p1] X.env=(false,eval a X.env)::starEach [.Name (ofString c') p1] X.env:=by rfl) (Ef:starEach [.Name (ofString c') p1] X.env=(false,eval (.Name (ofString c') p1) X.env)::starEach [] X.env:=by rfl) :
  PE X (.Call (.Name "isinstance" p0) [a,.Name (ofString c') p1] [] pos) (tI X.K B<|e1 (yH c b) f):=by
 refine cP (nZ (ģ hc.cl hi ho) hg hm boot_isinstance (cJ ha (cJ (oB (v:=.ref C') Xh hD rfl Rf) gM Ef) hs) (he:=hs)) ?_
 rintro σ H Q ⟨A,st,d,rs,hd,q⟩;obtain⟨x,hx,h2⟩:=R.ma hd;refine⟨A,st,x,rs,hx,λv H1 s1 r1=>?_⟩
 cases x<;>first|(cases h2;done)|skip
 obtain⟨e1,h3⟩:=aU h2;subst e1;cases h3;obtain⟨p,C',dx,fs,e2,h4,h5,h6,h7⟩:=r1.ins;subst e2;have:C'=C:=by have z:=h5.symm.trans hc.ns;injection z with z;injection z with z;injection z
 subst this;exact⟨p,dx,fs,rfl,h4,q _ H1 s1<|cU.mpr rfl⟩
end
section
variable {a b:Expr}
def bNj(ha:PE X a (tP X.K B f))(hb:PE X b (tP X.K B g)):PE X (.BinOp a .BitXor b pos) (tI X.K B<|e2 Mx f g):=
 ym bL4 (wX (g:=λi j=>.int<|Builtin.bitXor i j) (λ_ _ _=>bR.mpr rfl) λx y d e=>by
  unfold Mx at e;split at e
  .obtain⟨c,e⟩:=aU e;cases e;exact⟨_,_,rfl,rfl,by unfold Builtin.bitXor;rw[RV c.1 c.2,bitAnd_nn c.1 c.2]⟩
  .cases e) ha hb
end
section
variable {a b c:Expr} {h:Ex}
def bFt{r:R2}{o:Yf}(wl:yX X.K r o)(Ws:yX X.K r' o') {Q:VK} (hh:tI X.K B (kq o o' f g h) σ H Q):SY r r' (tP X.K B f) (tP X.K B g) (tP X.K B h) σ H Q:=by
 obtain⟨A,st,d,rs,hd,q⟩:=hh;obtain⟨x,hx,h2⟩:=R.ma hd;obtain⟨y,hy,h3⟩:=R.ma h2;obtain⟨z,hz,h4⟩:=R.ma h3;obtain⟨k,rfl,h5⟩:=uX h4;refine⟨A,st,x,rs,hx,λv H1 s1 r1=>⟨A,st,y,rs.mono s1,hy,λu H2 s2 r2=>?_⟩⟩
 refine wl (A++B) H2 x y _ v u _ (rs.own.mono<|s1.trans s2) (r1.mono s2) r2 hz λw H3 s3 r3=>⟨k,cU.mp r3,?_⟩
 cases k with
 |false=>
  rw[gb Cg]at h5 ⊢;cases h5;exact q _ H3 (s1.trans<|s2.trans s3)<|cU.mpr rfl
 |true=>
  rw[kb rfl]at h5 ⊢;obtain⟨z2,jz,h6⟩:=R.ma h5;refine⟨A,st,z2,rs.mono<|s1.trans<|s2.trans s3,jz,λw4 H4 s4 r4=>?_⟩
  exact Ws (A++B) H4 y z2 d u w4 Q (rs.own.mono<|s1.trans<|s2.trans<|s3.trans s4) (r2.mono<|s3.trans s4) r4 h6 λw5 H5 s5 r5=>q w5 H5 (s1.trans<|s2.trans<|s3.trans<|s4.trans s5) r5
def HY{r:R2}{o:Yf}(ho:Oe X (compareOp op) r)(wl:yX X.K r o)(Dj:Oe X (compareOp op') r')(Ws:yX X.K r' o')(ha:PE X a (tP X.K B f))(hb:PE X b (tP X.K B g))(hc:PE X c (tP X.K B h))
  (hm:lastMarks [op,op'] [b,c]=false:=by with_unfolding_all rfl):PT X (.Compare a [op,op'] [b,c] pos) (tT X.K B<|kq o o' f g h):=EC (Ĳ ho Dj ha hb hc hm) λ_ _ _ q=>bFt wl Ws<|IL q
end
def Fo(oa more:List (Dc×V)):List (Dc×V):=more.foldl (λxa p=>Ed xa p.1 p.2) oa
def bFu(more:List (Dc×V)):∀oa:List (Dc×V),(Fo oa more).length<=oa.length+more.length:=by
 induction more with
 |nil=>intro oa;exact Zc _
 |cons p more ih=>
  intro oa;have h1:=ih<|Ed oa p.1 p.2;have h2:=sJ oa p.1 p.2;show (Fo (Ed oa p.1 p.2) more).length<=_;rw[Te];omega
def KV.mrg(r2:KV more us):∀{oa:List (Dc×V)} {vs:List (Dc×Value)},KV oa vs->KV (Fo oa more) (merged vs us):=by
 induction r2 with
 |nil=>exact λr=>r
 |@cons p q more us h _ ih=>
  intro oa vs r;obtain⟨e,rv⟩:=h;have z:=ih<|KV.put r p.1 rv;show KV (Fo (Ed oa p.1 p.2) more) (merged (stored vs q.1 q.2) us);rw[<-e];exact z
section
variable {σ:L2.St} {b:Addr} {A:Around} {oa more:List (Dc×V)} {k:Dc} {r:Value}
def bQc(I:ya X aa σ H s)(e:H a=some (.dK oa))(e2:H b=some (.dK more))(ne:a≠b)(hl:oa.length+more.length<=sizeLine)(h:∀s',ya X aa σ (Ob H a<|.dK<|Fo oa more) s'->Q .none s'):wpAny (model X.prog X.w) A (call (.builtin "dict.update") [.ref a,.ref b]) Q E s:=by
 obtain⟨z,hd,vs,rel,dd⟩:=jo I.ib e;obtain⟨z2,hd2,Mp,Az,ZM⟩:=jo I.ib e2;refine wq F3 dd.typeIs PySem.F.entry_dict_update (PySem.F.args_dict_update_2 _ _) (meets_dict_update (dN X.prog X.w) a b ne hd2) ⟨vs,Mp,dd,ZM,by rw[<-rel.length,<-Az.length];exact hl,λh' gj _ hs=>h _ ?_⟩
 have he:∃q,h'.get? a=some q:=let ⟨q,_,_,hq,_⟩:=gj;⟨q,hq⟩;exact qw (t':=s.toks) I (by rw[e];exact True.intro) hs he<|XB (bf (bFu more oa) hl) hd (KV.mrg Az rel) gj
def bNk(I:ya X aa σ H s)(e:H a=some (.dK oa))(ry:RelV (kV k) u)(rv:RelV v r)(hl:oa.length+1<=sizeLine)
  (h1:∀w',xH oa k=some w'->∀u' s',RelV w' u'->ya X aa σ H s'->Q u' s') (h2:xH oa k=none->∀s',ya X aa σ (Ob H a<|.dK<|Ed oa k v) s'->Q r s'):wpAny (model X.prog X.w) A (call (.builtin "dict.setdefault") [.ref a,u,r]) Q E s:=by
 obtain⟨z,hd,vs,rel,dd⟩:=jo I.ib e;refine wq S2 dd.typeIs PySem.F.entry_dict_setdefault (PySem.F.args_dict_setdefault_3 _ _ _) (kt_meets_setdefault (dN X.prog X.w) a (bo ry) hd r) ⟨vs,dd,by rw[<-rel.length];exact z,λv' yp=>?_,λhn h' gj hs=>?_⟩
 .have q:=rel.val k;rw[yp]at q;cases e3:xH oa k with
  |none=>rw[e3]at q;exact q.elim
  |some w'=>
   rw[e3]at q;exact h1 w' e3 _ _ q<|I.tok _
 .have q:=rel.val k;rw[hn]at q;cases e3:xH oa k with
  |some w'=>rw[e3]at q;exact q.elim
  |none=>
   have he:∃q,h'.get? a=some q:=let ⟨q,_,_,hq,_⟩:=gj;⟨q,hq⟩;exact h2 e3 _<|qw I (by rw[e];exact True.intro) hs he<|XB (by have:=sJ oa k v;omega) hd (KV.put rel k rv) gj
end
theorem y0{K:Frag}{H:Hp}:∀(more:List (Dc×V)) (es:List D) (oa:List (Dc×V)) (ds:List D),bI K H es (more.map (·.2))->bI K H ds (oa.map (·.2))->
  (Fo oa more).map (λp=>jB p.1)=(Il (oa.map λp=>jB p.1) ds (more.map λp=>jB p.1) es).1/\bI K H (Il (oa.map λp=>jB p.1) ds (more.map λp=>jB p.1) es).2 ((Fo oa more).map (·.2))
 |[],es,oa,ds,_,r=>by
  refine⟨?_,?_⟩
  .show oa.map _=(Il _ _ [] es).1;unfold Il;rfl
  .show bI K H (Il _ _ [] es).2 (oa.map _);unfold Il;exact r
 |p::more,[],oa,ds,h,r=>by
  have:=h.length;simp at this
 |p::more,d::es,oa,ds,h,r=>by
  obtain⟨v,vs,e,r1,r2⟩:=bZ.mp h;rw[Vd]at e;injection e with e1 e2
  subst e1 e2;obtain⟨z1,z2⟩:=HB Jt p.1 p.2 d r1 oa ds r;have ih:=y0 more es (Ed oa p.1 p.2) _ r2 z2;rw[z1]at ih;exact ih
def bRy:V->List V->Hp->VK->Prop:=λx vs H Q=>∃a b oa more,x=.ref a/\vs=[.ref b]/\H a=some (.dK oa)/\H b=some (.dK more)/\a≠b/\oa.length+more.length<=sizeLine/\Q .lc (Ob H a<|.dK<|Fo oa more)
def bNl:mm X "dict.update" bRy:=by
 intro aa s σ H x vs v us Q I rx rv h;obtain⟨a,b,oa,more,rfl,rfl,e,e2,ne,hl,q⟩:=h;cases rx;obtain⟨u,rfl,ru⟩:=rv.one;cases ru;exact bQc I e e2 ne hl λs' I'=>⟨.lc,_,I',rfl,q⟩
section
def J1(i:Nat) (he:PE X e (tI X.K B f)) (hN:X.N[i]?=some x:=by rfl) (hv:Ei X.env.scope x:=by exact ll rfl) (hd:xf x:=by decide)
  (af:kl x:=by decide) (fc:Ah (.Name x p1) "update" X.env:=by rfl)
  (Df:jl Ta [e] X.env:=by rfl)
  (Ac:Bi xb Ta:=by rfl) (hs:Lf e [] X.env:=by rfl)
  (Qm:Hj (.Call (.Attribute (.Name x p1) "update" xb) [e] [] Ta) none pos.line X.env:=by rfl) :
  PS X (.Expr (.Call (.Attribute (.Name x p1) "update" xb) [e] [] Ta) pos) (tS X.K B<|Nx i f):=by
 refine gU (wt (Zt Fu F3 PySem.F.type_dict_update bNl (tE hN hv hd af) (cJ he gM hs) fc Df Ac hs rfl) Qm) ?_
 rintro Dn σ H ⟨A,st,r,rs,hr,p⟩;obtain⟨d,hd,h3⟩:=R.ma hr;split at h3
 .rename_i fF Mp;split at h3
  .rename_i ks ds e1;obtain⟨⟨c1,c2⟩,h4⟩:=aU h3;cases h4;obtain⟨l,o,vs,e2,m,h1,ko,q,u⟩:=rs.lst i _ _ e1;rcases ko with ⟨_,oa,rfl,rfl,rfl⟩|⟨z,_⟩
   .refine⟨.ref l,e2,.inr<|.inr<|.inl ⟨rfl,.inl ⟨oa,h1⟩⟩,A,st,_,rs,hd,λv H' s rv=>?_⟩
    obtain⟨b,us,rfl,hb,rr⟩:=uN.mp rv;rcases hb with ⟨_,more,hb,rfl,rfl⟩|⟨z,_⟩
    .have Mh:H' b=some (.dK more):=bN _ _ _ _ hb;have hin:l∈A++B:=Fh _ m;have ne:l≠b:=λz=>by rw[<-z,jT hin]at hb;cases hb
     have ql:=q.length;have rl:=rr.length;rw[Yd]at ql rl;refine⟨l,b,oa,more,rfl,rfl,s _ _ h1,Mh,ne,by rw[ql,rl];rw[pM]at c2;exact bf c2 (by decide),?_⟩
     obtain⟨z1,z2⟩:=y0 more Mp oa ds rr<|q.mono<|bG.hide s;obtain⟨w1,w2⟩:=(rs.mono s).write e1 e2 (k1:=.d false (Il (oa.map λp=>jB p.1) ds (more.map λp=>jB p.1) Mp).1) (.inl ⟨rfl,Fo oa more,rfl,z1,rfl⟩) z2
     exact p A _ _ ((Le.of s).trans w2) w1
    .cases z
   .cases z
  .cases h3
 .cases h3
end
def bQd:V->List V->Hp->VK->Prop:=λx vs H Q=>∃a oa k v,x=.ref a/\vs=[kV k,v]/\H a=some (.dK oa)/\oa.length+1<=sizeLine/\(∀w',xH oa k=some w'->Q w' H)/\(xH oa k=none->Q v (Ob H a<|.dK<|Ed oa k v))
def bJj:mm X "dict.setdefault" bQd:=by
 intro aa s σ H x vs v us Q I rx rv h;obtain⟨a,oa,k,v',rfl,rfl,e,hl,q1,q2⟩:=h;cases rx;obtain⟨u1,u2,rfl,r1,r2⟩:=rv.two;exact bNk I e r1 r2 hl (λw' hw u' s' ru I'=>⟨w',H,I',ru,q1 w' hw⟩) λhn s' I'=>⟨v',_,I',r2,q2 hn⟩
section
variable {e1 e2:Expr}
def bNm(i:Nat) (hk:PE X e1 (tI X.K B g)) (he:PE X e2 (tI X.K B f)) (hN:X.N[i]?=some x:=by rfl) (hv:Ei X.env.scope x:=by exact ll rfl) (hd:xf x:=by decide)
  (af:kl x:=by decide) (fc:Ah (.Name x p1) "setdefault" X.env:=by rfl)
  (Df:jl Ta [e1,e2] X.env:=by rfl)
  (Ac:Bi xb Ta:=by rfl) (hs:starEach [e1,e2] X.env=(false,eval e1 X.env)::starEach [e2] X.env:=by rfl) (Ef:Lf e2 [] X.env:=by rfl)
  (ff:(backTo Ta<|starEach [e2] X.env).any (·.1)=false:=by rfl)
  (Qm:Hj (.Call (.Attribute (.Name x p1) "setdefault" xb) [e1,e2] [] Ta) none pos.line X.env:=by rfl) :
  PS X (.Expr (.Call (.Attribute (.Name x p1) "setdefault" xb) [e1,e2] [] Ta) pos) (tS X.K B<|VC i g f):=by
 refine gU (wt (Zt Fu S2 PySem.F.type_dict_setdefault bJj (tE hN hv hd af) (cJ hk (cJ he gM Ef) hs) fc Df Ac hs ff) Qm) ?_
 rintro Dn σ H ⟨A,st,r,rs,hr,p⟩;obtain⟨k,hk,h2⟩:=R.ma hr;obtain⟨d,hd,h3⟩:=R.ma h2;split at h3
 .rename_i ks ds e3;obtain⟨⟨c1,c2⟩,h4⟩:=aU h3;cases h4;obtain⟨l,o,vs,e4,m,h1,ko,q,u⟩:=rs.lst i _ _ e3;rcases ko with ⟨_,oa,rfl,rfl,rfl⟩|⟨z,_⟩
  .refine⟨.ref l,e4,.inr<|.inr<|.inl ⟨rfl,.inl ⟨oa,h1⟩⟩,A,st,k,rs,hk,λv1 H1 s1 r1=>⟨A,st,d,rs.mono s1,hd,λv2 H2 s2 r2=>?_⟩⟩
   obtain⟨k',e5,e6⟩:=zX r1 c1;subst e5 e6;have ql:=q.length;rw[Yd]at ql;have q2:=q.mono<|bG.hide<|s1.trans s2;have an:uF (oa.map λp=>jB p.1) (jB k')=(xH oa k').isSome:=by rw[<-gI,qV (E:=jB) Jt]
   refine⟨l,oa,k',v2,rfl,rfl,(s1.trans s2) _ _ h1,by rw[ql];rw[pM]at c2;exact bf c2 (by decide),λw' hw=>?_,λhn=>?_⟩
   .rw[hw]at an;have QK:uF (oa.map λp=>jB p.1) (jB k')=true:=an
    rw[kb QK]at p;exact p A _ _ (Le.of<|s1.trans s2)<|rs.mono<|s1.trans s2
   .rw[hn]at an;have QK:uF (oa.map λp=>jB p.1) (jB k')=false:=an
    rw[gb (by rw[QK];exact Cg)]at p
    obtain⟨z1,z2⟩:=HB Jt k' v2 d r2 oa ds q2;obtain⟨w1,w2⟩:=(rs.mono<|s1.trans s2).write e3 e4 (k1:=.d false<|sO (oa.map λp=>jB p.1)<|jB k') (.inl ⟨rfl,Ed oa k' v2,rfl,z1,rfl⟩) z2
    exact p A _ _ ((Le.of<|s1.trans s2).trans w2) w1
  .cases z
 .cases h3
end
def BL(v d:Addr):HO:=.ext λh=>h.IsValuesView v d
section
def Ĥ:mm X "dict.values" (λx vs H Q=>∃(d:Addr) (oa:List (Dc×V)),x=.ref d/\vs=[]/\H d=some (.dK oa)/\∀n,H n=none->Q (.ref n) (Ob H n<|BL n d)):=by
 intro aa s σ H x vs v us Q I rx rv h;obtain⟨d,oa,rfl,rfl,hd,q⟩:=h;cases rx;have dk:=rv.zero;subst dk;obtain⟨hz,hs,xs,kv,hD⟩:=jo I.ib hd;refine wq G3 hD.typeIs PySem.F.entry_dict_values (PySem.F.args_dict_values_1 _) (meets_dict_values (dN X.prog X.w) d hs) ⟨⟨xs,hD⟩,?_⟩;have e:(s.heap.push {cls:=.type "dict_values",data:=.fields #[.ref d]}).get? s.heap.objs.size=some {cls:=.type "dict_values",data:=.fields #[.ref d]}:=Vf _ rfl;exact⟨.ref s.heap.objs.size,_,I.laid (o:=BL s.heap.objs.size d) (t':=s.toks) (λb u q=>ud _ q) (Zc _) ⟨⟨_,e,rfl,rfl⟩,⟨_,e⟩,λh1 h2 ⟨o,ho,hc,hd⟩ k=>⟨o,k o ho,hc,hd⟩⟩,rfl,q _<|I.ib.fresh<|Zc _⟩
def ĥ(hc:X.calm=true):lU X (.builtin "max") (λvs H Q=>∃(v d:Addr) (oa:List (Dc×V)) (is:List Int),vs=[.ref v]/\H v=some (BL v d)/\H d=some (.dK oa)/\oa.map (·.2)=is.map V.int/\0<is.length/\Q (.int<|El is) H):=by
 intro aa s σ H vs us Q I r h;obtain⟨v,d,oa,is,rfl,hv,hd,hi,hp,q⟩:=h;obtain⟨u,rfl,ru⟩:=r.one;obtain rfl:u=Value.ref v:=ru;obtain⟨hz,hs,xs,kv,hD⟩:=jo I.ib hd;obtain⟨ep,Hv⟩:=hD.dictAt;have hvw:s.heap.IsValuesView v d:=(I.ib v _ hv).1;have zi:d≠s.heap.objs.size:=Cf Hv.lt_size;have Pc:xs.length=is.length:=by
  have h1:=kv.length;have h2:=congrArg List.length hi;rw[Yd,Yd]at h2;omega
 have num:∀(i:Nat)(w:Value),(∃k,xs[i]?=some (k,w))->∃t,w=.int (is.getD i 0) t:=λi w ⟨k,e⟩=>by
  obtain⟨p,e1,_,e3⟩:=MC kv e;have e4:(oa.map (·.2))[i]?=some p.2:=by rw[Hk,e1];rfl
  rw[hi,Hk]at e4;cases e5:is[i]? with
  |none=>rw[e5]at e4;cases e4
  |some n=>
   rw[e5]at e4;have e6:V.int n=p.2:=by simpa using e4
   rw[<-e6]at e3;obtain⟨t,e7⟩:=e3;exact⟨t,by rw[e7,oi,e5];rfl⟩
 refine call_max_walk<|wpAny_pyIter_values hvw Hv ?_;refine⟨_,_,_,_,_,_,_,rfl,Walks.dictValues (knd:=dN X.prog X.w) (A:=X.A.in1) (I.ok.hd hc) s.heap.objs.size d zi xs ep,⟨⟨_,Vf _ rfl,rfl,rfl⟩,Hv.push _⟩,λb hb=>?_,by omega,CmpOf.ints_gt (λi=>is.getD i 0) num,λw h' tk hP hk=>?_⟩
 .rw[Uh];rcases Kc.mp hb with rfl|hb
  .exact Qu _
  .rw[Ce.mp hb];exact HM Hv.lt_size
 .obtain⟨t,rfl⟩:=num _ _ hP;refine⟨.int<|El is,H,I.kept λb o e=>hk b o (λhm=>?_)<|ud _ e,⟨t,?_⟩,q⟩
  .rw[Ce.mp hm]at e;exact absurd (Ud e)<|Oi _
  .congr 1;obtain⟨h1,h2⟩:=argBest_gt (λi=>is.getD i 0) (xs.length-1)
   have hb:argBest (λi j=>decide (is.getD i 0>is.getD j 0)) (xs.length-1)<is.length:=by omega
   refine(uw ?_ λx hx=>?_).symm
   .rw[oi,Nf hb];exact Oj _
   .obtain⟨i,yi,rfl⟩:=Ux.mp hx;have:=h2 i (by omega)
    rwa [oi,Nf yi]at this
end
section
variable {a:Expr}
def bNn(hm:X.mg "max"=none)(hc:X.calm=true)(ha:PE X a (tI X.K B f))(hg:Gl X "max":=by rfl)(fc:Ah a "values" X.env:=by rfl)(Ac:Bi xb Ta:=by rfl)
  (hs:starEach [.Call (.Attribute a "values" xb) [] [] Ta] X.env=(false,eval (.Call (.Attribute a "values" xb) [] [] Ta) X.env)::starEach [] X.env:=by rfl):PE X (.Call (.Name "max" p0) [.Call (.Attribute a "values" xb) [] [] Ta] [] pos) (tI X.K B<|e1 WC f):=by
 refine cP (nZ (ĥ hc) hg hm (by rfl) (cJ (WB Fu G3 PySem.F.type_dict_values Ĥ ha fc Ac) gM hs) (he:=hs)) ?_
 rintro σ H Q ⟨A,st,d,rs,hd,q⟩;obtain⟨x,hx,h2⟩:=R.ma hd;refine⟨A,st,x,rs,hx,λv H1 s1 r1=>?_⟩
 unfold WC at h2;split at h2
 .rename_i ks ds;obtain⟨l,h3,h4⟩:=R.ma h2;obtain⟨c,h5⟩:=aU h4;cases h5;obtain⟨p,vs,rfl,h6,r4⟩:=uN.mp r1;rcases h6 with ⟨_,oa,h7,rfl,rfl⟩|⟨z,_⟩
  .have h8:=bN _ _ _ _ h7;rw[cw h3]at r4;refine⟨.inr<|.inr<|.inl ⟨rfl,.inl ⟨oa,h8⟩⟩,p,oa,rfl,rfl,h8,λn hn=>⟨n,p,oa,l,rfl,cD,by rw[bU<|bJ h8 hn];exact h8,GI r4,c,q _ _ (s1.trans<|cL hn)<|bR.mpr rfl⟩⟩
  .cases z
 .cases h2
end
def bFx:we X ss (tS X.K B qO):=by
 intro aa s σ H Dn I h;obtain⟨A,st,r,_,hr,_⟩:=h;cases hr
section
def NC(hf:PE X e (Gz X.K B W f))(hg:PE X e (Gz X.K B W g)):PE X e (Gz X.K B W<|gP f g):=by
 intro aa s σ H Q I ⟨A,st,rs,q⟩;unfold gP at q;cases h:f st with
 |bad=>rw[h]at q;exact hg aa s σ H Q I ⟨A,st,rs,q⟩
 |ok d=>rw[h]at q;exact hf aa s σ H Q I ⟨A,st,rs,by rw[h];exact q⟩
 |exc x=>rw[h]at q;exact hf aa s σ H Q I ⟨A,st,rs,by rw[h];exact q⟩
end
section
variable {K:Frag} {n:Str} {st:Stmt} {k:Nat}
def MA.Tn{m:String}{q:Str} (D:MA K C m n q st) (_:Ct P w K mg base h) (hc:ClsAt K c C) (r:∀{f:Addr}{fd:FuncData},Pa K n q st .none f fd->Aa P w K mg base (kn P w) k f fd ps (dt K np<|bV np j bd)) (b:Rz n q st ps:=by exact {}):cc P w K mg base c m k np [] (bV np j bd):=by
 obtain⟨f,fd,M,F⟩:=D.ex;exact cc.of (Xd:=[]) hc M (r F) (F.fh b.ok) .nil λ_=>.nil
end
section
def qa(hN:X.N[i]?=some x:=by rfl)(hv:Ei X.env.scope x:=by exact ll rfl)(hd:xf x:=by decide)
  (af:kl x:=by decide):PE X (.Name x pos) (tP X.K B<|aA i):=Ha<|aD hN hv hd af
def ub{i:Int}:PE X (.Constant (.int i) j pos) (tP X.K B<|eC<|.int i):=Ha fH
def Lc{P:List Str}{sc:Scope}(h:N.Nodup/\N.take P.length=P/\(∀x∈P,sc.names.lookup x=some .local\/sc.names.lookup x=some .cell)/\∀y∈sc.names,y.2≠.free:=by decide+kernel)(k:sc.kind=.function:=by rfl)(co:sc.isCoroutine=false:=by rfl)(gen:sc.isGenerator=false:=by rfl):jd N P sc:=⟨k,co,gen,h.1,h.2.1,h.2.2.1,h.2.2.2⟩
def bQ{k:Nat} {r:ue} (h:Ga X.prog X.w X.K X.mg X.base x k np p) (ha:PA X (e::es) (tA X.K B r)) (hr:dc j X.A:=by assumption) (hk:k<=j:=by decide) (hg:Gl X x:=by rfl) (Rf:xf x:=by decide)
  (he:Lf e es X.env:=by rfl) (ff:Ci pos es X.env:=by rfl):PE X (.Call (.Name x p0) (e::es) [] pos) (tI X.K B<|aO p r):=uO h hr hk ha hg Rf he ff
end
end Pu
set_option maxHeartbeats 4000000
namespace Pu
open PySem PySem.Spec PyProof.Rows L2
def top(i:Nat):Stmt:=PySem.Challenge.pw_looprank_k41_marked.main.body.getD i<|.Pass ⟨0,0,0,0⟩
def Zd(s:Stmt)(j:Nat):Stmt:=match s with
 |.ClassDef _ _ _ b _ _ _ _ _ _ _=>b.getD j<|.Pass ⟨0,0,0,0⟩
 |_=>.Pass ⟨0,0,0,0⟩
abbrev IG:Stmt:=top 66
abbrev JG:Stmt:=top 67
abbrev xT:Stmt:=top 68
abbrev KG:Stmt:=top 70
abbrev vV:Stmt:=top 71
abbrev SF:Stmt:=top 72
abbrev TF:Stmt:=top 73
abbrev rD:Stmt:=top 74
abbrev LG:Stmt:=top 78
abbrev ZG:Stmt:=top 75
abbrev MG:Stmt:=top 76
abbrev xU:Stmt:=top 77
abbrev kH:Stmt:=top 26
abbrev AH:Stmt:=top 27
abbrev XH:Stmt:=top 25
abbrev VF:Stmt:=top 30
abbrev NG:Stmt:=top 28
abbrev OG:Stmt:=top 31
abbrev tQ:Stmt:=top 41
abbrev XF:Stmt:=top 33
abbrev xV:Stmt:=top 34
abbrev YF:Stmt:=top 35
abbrev BH:Stmt:=top 37
abbrev vW:Stmt:=top 42
abbrev tR:Stmt:=top 43
abbrev QG:Stmt:=top 22
abbrev tU:Stmt:=top 23
abbrev YH:Stmt:=top 36
abbrev II:Stmt:=top 39
abbrev dO:Stmt:=Zd (top 20) 3
abbrev CH:Stmt:=top 40
abbrev ZH:Stmt:=top 54
abbrev DH:Stmt:=top 14
abbrev EH:Stmt:=top 15
abbrev mU:Stmt:=Zd (top 20) 1
abbrev aI:Stmt:=top 10
abbrev mV:Stmt:=Zd (top 20) 2
abbrev tV:Stmt:=Zd (top 20) 5
abbrev ZF:Stmt:=top 56
abbrev xW:Stmt:=Zd (top 60) 1
abbrev vX:Stmt:=Zd (top 61) 1
abbrev xX:Stmt:=top 48
abbrev fI:Stmt:=top 38
abbrev xY:Stmt:=top 49
abbrev kG:Stmt:=top 57
abbrev xZ:Stmt:=Zd (top 62) 1
abbrev RG:Stmt:=Zd (top 63) 1
abbrev yC:Stmt:=Zd (top 64) 1
abbrev FH:Stmt:=top 58
abbrev JI:Stmt:=top 29
abbrev GH:Stmt:=top 32
abbrev qF:Stmt:=top 44
abbrev AG:Stmt:=top 45
abbrev nU:Stmt:=Zd (top 60) 2
abbrev BG:Stmt:=top 46
abbrev mW:Stmt:=Zd (top 61) 2
abbrev nW:Stmt:=Zd (top 62) 2
abbrev yD:Stmt:=top 50
abbrev CG:Stmt:=top 51
abbrev vY:Stmt:=top 52
abbrev DG:Stmt:=top 53
abbrev qG:Stmt:=Zd (top 63) 2
abbrev nY:Stmt:=Zd (top 64) 2
abbrev rE:Stmt:=top 16
abbrev KI:Stmt:=top 17
abbrev SG:Stmt:=top 18
abbrev UG:Stmt:=top 19
abbrev fW:Stmt:=Zd (top 20) 0
abbrev iI:Stmt:=Zd (top 59) 0
abbrev vZ:Stmt:=top 81
abbrev EG:Stmt:=top 69
abbrev HH:Stmt:=top 79
abbrev FG:Stmt:=top 80
abbrev pC:Stmt:=top 82
abbrev uo:Stmt:=top 83
abbrev Mc(N:List Str)(k:Nat)(st:Stmt):Prop:=jd N (N.take k)<|bM st
theorem dG{K:Frag} {st:Stmt} {f:Addr} {k:Nat} (F:Pa K x qual st dV f fd) (S:jd N ps (bM st))
  (hb:∀{Cc:Value}{A:Around}{outer:List Env}{s:Shared}{H:Hp}{E:XK}{B:List Addr},dc k (A.deeper<|envOfC qual (bM st) s.heap.objs.size f Cc)->N.Nodup->
   we (sj Ib P w K mg base N qual (bM st) f Cc A outer s H E).Vg (eX st) (tS K B bd)) (Om:ps.length=np:=by rfl) (hn:N.length=n:=by rfl):Aa P w K mg base Ib (k+1) f fd ps (jc K np<|bV np n bd):=E1 F S np n bd Om hn λ_ _ _ _ _ _ _ h=>hb h S.nd
theorem Z':Mc ["_law_script","_law_k","_law_rest"] 2 IG:=Lc
theorem γ:Mc ["_law_cell_here","_law_k","_law_many","_law_number"] 3 JG:=Lc
theorem P9:Mc ["_law_cell_here","_law_sizes","_law_found","_law_size"] 2 xT:=Lc
theorem δ:Mc ["_law_k","_law_goal_here","_law_way","_law_many"] 4 KG:=Lc
theorem A9:Mc ["_law_script","_law_start","_law_most","_law_first","_law_sizes","_law_drawn","_law_many","_law_steps","_law_ranks","_law_k","_law_cell_here","_law_found","_law_j","_law_goal_here"] 3 vV:=Lc
theorem p_:Mc ["_law_steps","_law_goals_here","_law_step","_law_bits","_law_goal_here"] 1 SF:=Lc
theorem q_:Mc ["_law_goals_here","_law_inside","_law_begin","_law_found","_law_more","_law_wider","_law_k"] 3 TF:=Lc
theorem b9:Mc ["_law_goals_here","_law_allowed","_law_loops","_law_bits","_law_turned","_law_k"] 2 rD:=Lc
theorem ε:Mc ["_law_k"] 1 LG:=Lc
theorem ϋ:Mc ["_law_ranks","_law_bits","_law_k"] 2 ZG:=Lc
theorem ζ:Mc ["_law_ranks","_law_bits"] 2 MG:=Lc
theorem Q9:Mc ["_law_goals_here","_law_loops","_law_ranks","_law_ahead","_law_one","_law_goods","_law_bads","_law_truths_here","_law_other","_law_to","_law_back"] 3 xU:=Lc
theorem ό:Mc ["bits","room"] 2 kH:=Lc
theorem ύ:Mc ["bits","room"] 1 AH:=Lc
theorem É:Mc ["rooms","bits","room"] 1 XH:=Lc
theorem r_:Mc ["steps","allowed","rooms","seen","room","middle"] 2 VF:=Lc
theorem η:Mc ["machine"] 1 NG:=Lc
theorem θ:Mc ["machine","room"] 2 OG:=Lc
theorem m9:Mc ["machine","allowed","wanted","ranks","rank","room"] 3 tQ:=Lc
theorem s_:Mc ["steps","part","rooms"] 2 XF:=Lc
theorem R9:Mc ["steps","allowed","seen","parts","room","part","other"] 2 xV:=Lc
theorem t_:Mc ["machine","allowed"] 2 YF:=Lc
theorem ώ:Mc ["machine","bits","room"] 2 BH:=Lc
theorem CQ:Mc ["machine","allowed","rank","low","part","room"] 3 vW:=Lc
theorem n9:Mc ["machine","allowed","wanted","found","rank"] 3 tR:=Lc
theorem ι:Mc ["steps","start","allowed","ways","met","place","here","letter","room"] 3 QG:=Lc
theorem zF:Mc ["machine","ways"] 1 tU:=Lc
theorem Ê:Mc ["machine","bits"] 2 YH:=Lc
theorem Ħ:Mc ["machine","allowed","room","goal"] 4 II:=Lc
theorem qH:Mc ["self","room","text","rooms","letter"] 3 dO:=Lc
theorem Ϗ:Mc ["machine","bits","room","text","here","goal"] 3 CH:=Lc
theorem Ë:Mc ["machine","row","entries","room","front","entry","loop"] 2 ZH:=Lc
theorem ϐ:Mc ["thing"] 1 DH:=Lc
theorem ϑ:Mc ["thing","limit"] 2 EH:=Lc
theorem q8:Mc ["self","thing"] 2 mU:=Lc
theorem Ì:Mc ["thing","many"] 2 aI:=Lc
theorem r8:Mc ["self","thing"] 2 mV:=Lc
theorem o9:Mc ["self","room","text"] 3 tV:=Lc
theorem u_:Mc ["machine","good","reached","goals","loop","nest","start","goal","end","way"] 2 ZF:=Lc
theorem S9:Mc ["self","machine"] 2 xW:=Lc
theorem B9:Mc ["self","machine"] 2 vX:=Lc
theorem T9:Mc ["machine","loop","rank","room"] 2 xX:=Lc
theorem Í:Mc ["machine","bits"] 2 fI:=Lc
theorem U9:Mc ["machine","loop","found","left","rest","part"] 2 xY:=Lc
theorem v_:Mc ["machine","good","loop","inner","nest"] 2 kG:=Lc
theorem V9:Mc ["self","machine","bar"] 2 xZ:=Lc
theorem μ:Mc ["self","machine"] 2 RG:=Lc
theorem W9:Mc ["self","machine"] 2 yC:=Lc
theorem ϒ:Mc ["machine","bits","inside","outside","room"] 4 FH:=Lc
theorem ħ:Mc ["sets","bits","rooms"] 1 JI:=Lc
theorem ϓ:Mc ["machine","goals","seen","room"] 2 GH:=Lc
theorem R8:Mc ["machine","wanted","everywhere","goals"] 2 qF:=Lc
theorem w_:Mc ["machine"] 1 AG:=Lc
theorem C8:Mc ["self","machine"] 2 nU:=Lc
theorem x_:Mc ["machine"] 1 BG:=Lc
theorem t8:Mc ["self","machine"] 2 mW:=Lc
theorem E8:Mc ["self","machine","good"] 2 nW:=Lc
theorem X9:Mc ["machine"] 1 yD:=Lc
theorem y_:Mc ["base","good"] 2 CG:=Lc
theorem DQ:Mc ["machine","loop","base","ranks","rank","inner","room","below"] 3 vY:=Lc
theorem XQ:Mc ["machine","base","ranks","loop","room"] 2 DG:=Lc
theorem S8:Mc ["self","machine"] 2 qG:=Lc
theorem F8:Mc ["self","machine"] 2 nY:=Lc
theorem d9:Mc ["thing","most"] 2 rE:=Lc
theorem Ĩ:Mc ["thing","letters","rooms","room"] 3 KI:=Lc
theorem ν:Mc ["thing","row"] 1 SG:=Lc
theorem ξ:Mc ["thing","rooms","rank"] 2 UG:=Lc
theorem uE:Mc ["self","steps","ranks","row"] 3 fW:=Lc
theorem QQ:Mc ["self","machine"] 2 iI:=Lc
theorem C9:Mc ["_law_kind_here","_law_machine_here","_law_refused_here"] 2 vZ:=Lc
theorem z_:Mc ["_law_found"] 1 EG:=Lc
theorem ϔ:Mc ["_law_goals_here","_law_loops","_law_ranks","_law_k","_law_due_here","_law_room","_law_ahead","_law_sorts","_law_bits"] 4 HH:=Lc
theorem A_:Mc ["_law_found","_law_steps","_law_ranks","_law_k","_law_loops","_law_goals_here","_law_rank","_law_on","_law_bits","_law_base","_law_room"] 5 FG:=Lc
theorem M8:Mc ["_law_kinds","_law_machine_here","_law_steps","_law_ranks","_law_loops","_law_truths_here","_law_k"] 5 pC:=Lc
theorem bNo:Mc ["_law_script","_law_goals_here","_law_loops","_law_machine_here","_law_kinds","_law_more","_law_steps","_law_ranks","_law_k","_law_rank","_law_step","_law_kind_here"] 1 uo:=Lc
section
variable{P:Program}{w:World}{K:Frag}{mg:Str->Option Value}{base:Heap}{fa:Addr}{fd:FuncData}{dV:Value}
variable(cQ:mg "len"=none)
include cQ in
theorem ϕ(F:Pa K "_law_cell" "_law_cell" IG dV fa fd):Aa P w K mg base Ib 1 fa fd ["_law_script","_law_k"] (jc K 2 sU):=by
 refine dG F Z' λhr nd=>?_
 refine aL (jG (bY Xt Mt qa<|Ha<|mR cQ qa) (aV<|bK<|qL (Ha<|cV qa qa)<|Ha<|eL ub ub) eQ) ?_
 refine aL (bW fH) ?_
 refine aL (jG (bY gx Xw (Ha<|mR cQ qa) ub) (aV<|bW<|qL (Ha<|cV qa<|Ha<|qL qa<|Ha<|mR cQ qa) ub) eQ) ?_
 exact aV<|bK<|qL (Ha<|qr (Ha<|oF (Ha<|oF (Ha<|qr qa ub)<|Ha<|qr ub qa) ub)<|Ha<|oF qa ub) ub
theorem ϖ(F:Pa K "_law_pick" "_law_pick" JG dV fa fd):Aa P w K mg base Ib 1 fa fd ["_law_cell_here","_law_k","_law_many"] (jc K 3 sV):=by
 refine dG F γ λhr nd=>?_
 refine aL (bW<|qL (Ha<|oF qa<|Ha<|qr ub qa) ub) ?_
 refine aL (bW<|qL (Ha<|qr (Ha<|qL (Ha<|qr qa qa) ub) ub) ub) ?_
 exact aV<|bK<|qL (Ha<|Ww (Ha<|qL (Ha<|qr qa qa) ub) ub) qa
theorem B_(F:Pa K "_law_digits" "_law_digits" xT dV fa fd):Aa P w K mg base Ib 1 fa fd ["_law_cell_here","_law_sizes"] (jc K 2 lH):=by
 refine dG F P9 λhr nd=>?_
 refine aL (qZ<|yZ aM) ?_
 refine aL (jA (iQ aD) bL<|aL (by exact Bl 2<|qL qa qa)<|by exact aV<|bW<|Ww qa qa) ?_
 exact aV<|Kl [2]<|bK aD
variable(wZ:mg "max"=none)(Tj:mg "min"=none)
include wZ Tj in
theorem ϗ(F:Pa K "_law_goal" "_law_goal" KG dV fa fd):Aa P w K mg base Ib 1 fa fd ["_law_k","_law_goal_here","_law_way","_law_many"] (jc K 4 wH):=by
 refine dG F δ λhr nd=>?_
 refine aL (jG (bY cX cZ qa ub) (aV<|bK<|ZZ wZ rfl qa qa) eQ) ?_
 refine aL (jG (PW.pt<|so (bY cX cZ qa ub)<|zW<|bY Xt Mt (Ha<|Ww qa ub)<|Ha<|Ww qa ub) (aV<|bK<|bMv Tj rfl (Ha<|Ax qa ub)<|Ha<|oF (Ha<|Ax qa<|Ha<|qL qa ub)<|Ha<|qL qa ub) eQ) ?_
 exact aV<|bK aD
variable(tD:Ga P w K mg base "_law_cell" 1 2 sU)(Sd:Ga P w K mg base "_law_pick" 1 3 sV)(gd:Ga P w K mg base "_law_digits" 1 2 lH)(Ge:Ga P w K mg base "_law_goal" 1 4 wH)(za:mg "range"=none)
include cQ tD Sd gd Ge za in
theorem Y9(F:Pa K "_law_machine" "_law_machine" vV dV fa fd):Aa P w K mg base Ib 2 fa fd ["_law_script","_law_start","_law_most"] (jc K 3 lZ):=by
 refine dG F A9 λhr nd=>?_
 refine aL (bW<|bQ tD<|aB aD<|aB aD aM) ?_
 refine aL (bW<|uC<|aB aD<|aB fH<|aB fH<|aB fH<|aB fH aM) ?_
 refine aL (bW<|rB (wY za ub) (λ_ _ _ _ _=>bL)<|λ_ _ _ _ _=>bQ Sd<|aB aD<|aB (oF ub qa)<|aB (cV qa qa) aM) ?_
 refine aL (jG (bY cX cZ (Ha<|qL qa ub) ub) (aV<|bW<|bQ gd<|aB (Ww qa ub)<|aB aD aM) eQ) ?_
 refine aL (bW<|oF ub<|Ha<|cV qa ub) ?_
 refine aL (bW<|oF (Ha<|bNh (aB aD aM)<|Ha<|oF ub<|Ha<|cV qa ub)<|Ha<|uC<|aB (cV (Ha<|uC<|aB fH<|aB fH<|aB fH<|aB fH aM)<|Ha<|cV qa ub) aM) ?_
 refine aL (qZ<|yZ aM) ?_
 refine aL (qZ<|yZ aM) ?_
 refine aL (jA (wY za qa) bL<|aL (by exact bW<|bQ tD<|aB aD<|aB (oF (Ha<|oF qa ub) qa) aM)<|by exact aL (by exact bW<|bQ gd<|aB aD<|aB aD aM)<|by exact aL (by exact jG (bY cX cZ (Ha<|qL qa ub) ub) (aV<|MK (wY za<|Ha<|mR cQ qa) (λ_ _ _ _ _=>bL)<|λ_ _ _ _ _=>bQ Sd<|aB aD<|aB (oF ub qa)<|aB (cV qa qa) aM) eQ)<|by exact aL (by exact Bl 7<|rB (iQ<|F2 qa XZ<|YZ<|Ha<|rL ub) (λ_ _ _ _ _=>bL)<|λ_ _ _ _ _=>bQ Ge<|aB aD<|aB aD<|aB (cV qa ub)<|aB aD aM)<|by exact aV<|Bl 8<|oF (Ha<|cV (Ha<|uC<|aB fH<|aB fH<|aB fH<|aB (eL ub ub) aM)<|Ha<|cV qa ub)<|Ha<|cV qa<|Ha<|rL ub) ?_
 exact aV<|Kl [7,8]<|bK<|YC<|aB aD<|aB aD aM
theorem ο(F:Pa K "_law_goals" "_law_goals" SF dV fa fd):Aa P w K mg base Ib 1 fa fd ["_law_steps"] (jc K 1 mZ):=by
 refine dG F p_ λhr nd=>?_
 refine aL (qZ<|yZ aM) ?_
 refine aL (jA (iQ aD) bL<|aL (by exact bW fH)<|by exact aL (by exact jA (iQ aD) bL<|aV<|bW<|yr qa<|Ha<|sD ub qa)<|by exact aV<|Bl 1 aD) ?_
 exact aV<|Kl [1]<|bK aD
include cQ za in
theorem π(F:Pa K "_law_close" "_law_close" TF dV fa fd):Aa P w K mg base Ib 1 fa fd ["_law_goals_here","_law_inside","_law_begin"] (jc K 3 fY):=by
 refine dG F q_ λhr nd=>?_
 refine aL (bW<|nR qa qa) ?_
 refine aL (bW oE) ?_
 refine aL (LJ (fK aD)<|aL (by exact bW aD)<|by exact aL (by exact jA (wY za<|Ha<|mR cQ qa) bL<|aV<|jG (bY cX cZ (Ha<|nR (Ha<|xr qa qa) ub) ub) (aV<|bW<|yr qa<|Ha<|nR (Ha<|cV qa qa) qa) eQ)<|by exact aL (by exact bW<|fV nP nQ qa qa)<|by exact aV<|bW aD) ?_
 exact aV<|bK aD
variable(dH:Ga P w K mg base "_law_close" 1 3 fY)
include cQ za dH in
theorem p9(F:Pa K "_law_all_loops" "_law_all_loops" rD dV fa fd):Aa P w K mg base Ib 2 fa fd ["_law_goals_here","_law_allowed"] (jc K 2 iJ):=by
 refine dG F b9 λhr nd=>?_
 refine aL (qZ<|yZ aM) ?_
 refine aL (jA (bPx za ub<|Ha<|oF qa ub) bL<|aV<|jG (bY cX cZ (Ha<|nR qa qa) qa) (aL (by exact zB (wY za<|Ha<|mR cQ qa) (λ_ _ _ _ _=>bL) (λ_ _ _ _ _=>PW.pt<|so (bY cX cZ (Ha<|nR (Ha<|xr qa qa) ub) ub)<|zW<|bY nP nQ (Ha<|bQ dH<|aB aD<|aB aD<|aB (cV qa qa) aM) qa)<|λ_ _ _ _ _=>aD)<|by exact aV<|jG (bY cX cZ qa<|Ha<|uC aM) (aV<|Bl 2 aD) eQ) eQ) ?_
 exact aV<|Kl [2]<|bK aD
variable{Vc:Addr}(yd:ClsAt K "Again" Vc)
variable{Ub:Addr}(vc:ClsAt K "EarlyNo" Ub)
variable{Gb:Addr}(bc:ClsAt K "EarlyYes" Gb)
variable{Vb:Addr}(wc:ClsAt K "Lasting" Vb)
variable{Wb:Addr}(xc:ClsAt K "Settled" Wb)
variable(zG:mg (ofString "Again")=some (.ref Vc))(Gd:mg (ofString "EarlyNo")=some (.ref Ub))(qd:mg (ofString "EarlyYes")=some (.ref Gb))(Hd:mg (ofString "Lasting")=some (.ref Vb))(Jd:mg (ofString "Settled")=some (.ref Wb))(Hf:lm K Ub)(qf:lm K Gb)(Kf:lm K Wb)(Ug:lm K Vc)(Jf:lm K Vb)
include yd vc bc wc xc zG Gd qd Hd Jd Hf qf Kf Ug Jf in
theorem Ϙ(F:Pa K "_law_kind" "_law_kind" LG dV fa fd):Aa P w K mg base Ib 1 fa fd ["_law_k"] (jc K 1 wI):=by
 refine dG F ε λhr nd=>?_
 refine aL (jG (bY cX cZ qa ub) (aV<|bK<|bx Hf vc Gd) eQ) ?_
 refine aL (jG (bY cX cZ qa ub) (aV<|bK<|bx qf bc qd) eQ) ?_
 refine aL (jG (bY cX cZ qa ub) (aV<|bK<|bx Kf xc Jd) eQ) ?_
 refine aL (jG (bY cX cZ qa ub) (aV<|bK<|bx Ug yd zG) eQ) ?_
 exact aV<|bK<|bx Jf wc Hd
include cQ wZ za in
theorem Î(F:Pa K "_law_top" "_law_top" ZG dV fa fd):Aa P w K mg base Ib 1 fa fd ["_law_ranks","_law_bits"] (jc K 2 zN):=by
 refine dG F ϋ λhr nd=>?_
 exact aV<|bK<|F1 wZ rfl<|Ha<|oH (wY za<|Ha<|mR cQ qa) (λ_ _ _ _ _=>bL) (λ_ _ _ _ _=>bY cX cZ (Ha<|nR (Ha<|xr qa qa) ub) ub)<|λ_ _ _ _ _=>cV qa qa
variable(Yz:Ga P w K mg base "_law_top" 1 2 zN)
include Yz in
theorem ϙ(F:Pa K "_law_good" "_law_good" MG dV fa fd):Aa P w K mg base Ib 2 fa fd ["_law_ranks","_law_bits"] (jc K 2 jD):=by
 refine dG F ζ λhr nd=>?_
 exact aV<|bK<|fV cX cZ (Ha<|qL (Ha<|bQ Yz<|aB aD<|aB aD aM) ub) ub
variable(eU:Ga P w K mg base "_law_good" 2 2 jD)
include dH eU in
theorem C_(F:Pa K "_law_truths" "_law_truths" xU dV fa fd):Aa P w K mg base Ib 3 fa fd ["_law_goals_here","_law_loops","_law_ranks"] (jc K 3 oA):=by
 refine dG F Q9 λhr nd=>?_
 refine aL OB ?_
 refine aL (jA (iQ aD) bL<|aV<|KC hr.units 3 aD<|bQ dH<|aB aD<|aB fH<|aB aD aM) ?_
 refine aL (zB (iQ aD) (λ_ _ _ _ _=>bL) (λ_ _ _ _ _=>fK<|bQ eU<|aB aD<|aB aD aM)<|λ_ _ _ _ _=>aD) ?_
 refine aL (zB (iQ aD) (λ_ _ _ _ _=>bL) (λ_ _ _ _ _=>oG<|fK<|bQ eU<|aB aD<|aB aD aM)<|λ_ _ _ _ _=>aD) ?_
 refine aL (qZ<|yZ<|aB oE<|aB oE<|aB oE<|aB oE<|aB oE aM) ?_
 refine aL (jA (iQ aD) bL<|aV<|jA (iQ aD) bL<|aL (by exact bW<|fV gx Xw (Ha<|nR (Ha<|cV mQ qa) qa) ub)<|by exact aL (by exact bW<|fV gx Xw (Ha<|nR (Ha<|cV mQ qa) qa) ub)<|by exact aL (by exact Bx 7 ub<|uB (cV mQ ub)<|pY<|ou aD)<|by exact aL (by exact Bx 7 ub<|uB (cV mQ ub)<|pY<|ou aD)<|by exact aL (by exact Bx 7 ub<|uB (cV mQ ub)<|pY<|ou<|uB aD<|pY aD)<|by exact aL (by exact Bx 7 ub<|uB (cV mQ ub)<|pY<|fV nP nQ (Ha<|nR qa qa) qa)<|by exact aV<|Bx 7 ub<|uB (cV mQ ub)<|pY<|fV nP nQ (Ha<|nR qa qa) qa) ?_
 exact aV<|Kl [7]<|bK aD
theorem Ï(F:Pa K "has_room" "has_room" kH dV fa fd):Aa P w K mg base Ib 1 fa fd ["bits","room"] (jc K 2 gQ):=by
 refine dG F ό λhr nd=>?_
 exact aV<|bK<|fV cX cZ (Ha<|nR (Ha<|xr qa qa) ub) ub
variable(cG:Ga P w K mg base "has_room" 1 2 gQ)
include za cG in
theorem Ð(F:Pa K "rooms_of" "rooms_of" AH dV fa fd):Aa P w K mg base Ib 2 fa fd ["bits"] (jc K 1 cB):=by
 refine dG F ύ λhr nd=>?_
 exact aV<|bK<|oH (wY za<|Ha<|bN4 qa) (λ_ _ _ _ _=>bL) (λ_ _ _ _ _=>fK<|bQ cG<|aB aD<|aB aD aM)<|λ_ _ _ _ _=>aD
theorem ĩ(F:Pa K "bits_of" "bits_of" XH dV fa fd):Aa P w K mg base Ib 1 fa fd ["rooms"] (jc K 1 jV):=by
 refine dG F É λhr nd=>?_
 refine aL (bW fH) ?_
 refine aL (jA (iQ aD) bL<|aV<|bW<|yr qa<|Ha<|sD ub qa) ?_
 exact aV<|bK aD
variable(bF:Ga P w K mg base "rooms_of" 2 1 cB)(pb:Ga P w K mg base "bits_of" 1 1 jV)
include cG bF pb in
theorem ρ(F:Pa K "seen_among" "seen_among" VF dV fa fd):Aa P w K mg base Ib 3 fa fd ["steps","allowed"] (jc K 2 kO):=by
 refine dG F r_ λhr nd=>?_
 refine aL (bW<|bQ bF<|aB aD aM) ?_
 refine aL OB ?_
 refine aL (jA (iQ aD) bL<|aV<|KC hr.units 3 aD<|nR (Ha<|yr (Ha<|bQ pb<|aB (cV qa qa) aM)<|Ha<|sD ub qa) qa) ?_
 refine aL (jA (iQ aD) bL<|aV<|jA (iQ aD) bL<|aV<|jG (fK<|bQ cG<|aB (cV mQ qa)<|aB aD aM) (aV<|KC hr.units 3 aD<|yr (Ha<|cV mQ qa)<|Ha<|cV mQ qa) eQ) ?_
 exact aV<|Kl [3]<|bK aD
variable{Ra:Addr}(ja:ClsAt K "Machine" Ra)
variable(bD:nM K Ra (ofString "many"))(Rb:mg "list"=none)
include za pb ja bD Rb in
theorem Ϛ(F:Pa K "all_rooms" "all_rooms" NG dV fa fd):Aa P w K mg base Ib 2 fa fd ["machine"] (jc K 1 mC):=by
 refine dG F η λhr nd=>?_
 exact aV<|bK<|bQ pb<|aB (QV Rb za rfl<|Ha<|jO ja bD qa) aM
variable(gC:Ga P w K mg base "seen_among" 3 2 kO)(Tb:Ga P w K mg base "all_rooms" 2 1 mC)(ka:nM K Ra (ofString "steps"))
include ja gC Tb ka in
theorem ϛ(F:Pa K "seen_from" "seen_from" OG dV fa fd):Aa P w K mg base Ib 4 fa fd ["machine","room"] (jc K 2 iD):=by
 refine dG F θ λhr nd=>?_
 exact aV<|bK<|cV (Ha<|bQ gC<|aB (jO ja ka qa)<|aB (bQ Tb<|aB aD aM) aM) qa
variable(aX:nM K Ra (ofString "ranks"))(ng:mg "sorted"=none)(Uj:mg "set"=none)
include bF ja aX ng Uj in
theorem E9(F:Pa K "ranks_of_sort" "ranks_of_sort" tQ dV fa fd):Aa P w K mg base Ib 3 fa fd ["machine","allowed","wanted"] (jc K 3 oJ):=by
 refine dG F m9 λhr nd=>?_
 refine aL (bW<|ſ ng Uj rfl<|Ha<|rB (iQ<|bQ bF<|aB aD aM) (λ_ _ _ _ _=>bL)<|λ_ _ _ _ _=>cV (Ha<|jO ja aX qa) qa) ?_
 exact aV<|bK<|oH (iQ aD) (λ_ _ _ _ _=>bL) (λ_ _ _ _ _=>bY cX cZ (Ha<|fV cX cZ (Ha<|qL qa ub) ub) qa)<|λ_ _ _ _ _=>aD
include cQ bF in
theorem ς(F:Pa K "goes_round" "goes_round" XF dV fa fd):Aa P w K mg base Ib 3 fa fd ["steps","part"] (jc K 2 uG):=by
 refine dG F s_ λhr nd=>?_
 refine aL (bW<|bQ bF<|aB aD aM) ?_
 exact aV<|bK<|C2 (fV gx Xw (Ha<|mR cQ qa) ub)<|X0<|fV IK JK (Ha<|cV qa ub)<|Ha<|cV qa<|Ha<|cV qa ub
variable(uP:Ga P w K mg base "goes_round" 3 2 uG)
include cG bF pb gC uP in
theorem D_(F:Pa K "parts_among" "parts_among" xV dV fa fd):Aa P w K mg base Ib 4 fa fd ["steps","allowed"] (jc K 2 rF):=by
 refine dG F R9 λhr nd=>?_
 refine aL (bW<|bQ gC<|aB aD<|aB aD aM) ?_
 refine aL (qZ<|yZ aM) ?_
 refine aL (jA (iQ<|bQ bF<|aB aD aM) bL<|aL (by exact bW<|bQ pb<|aB (oH (iQ<|bQ bF<|aB (cV qa qa) aM) (λ_ _ _ _ _=>bL) (λ_ _ _ _ _=>fK<|bQ cG<|aB (cV qa qa)<|aB aD aM)<|λ_ _ _ _ _=>aD) aM)<|by exact aV<|jG (PW.pt<|so (bY xA yA qa mQ)<|zW<|fK<|bQ uP<|aB aD<|aB aD aM) (aV<|Bl 3 aD) eQ) ?_
 exact aV<|Kl [3]<|bK aD
variable(rZ:Ga P w K mg base "parts_among" 4 2 rF)
include ja ka rZ in
theorem υ(F:Pa K "loop_parts" "loop_parts" YF dV fa fd):Aa P w K mg base Ib 5 fa fd ["machine","allowed"] (jc K 2 fZ):=by
 refine dG F t_ λhr nd=>?_
 exact aV<|bK<|bQ rZ<|aB (jO ja ka qa)<|aB aD aM
include wZ bF ja aX in
theorem Ñ(F:Pa K "top_rank" "top_rank" BH dV fa fd):Aa P w K mg base Ib 3 fa fd ["machine","bits"] (jc K 2 qT):=by
 refine dG F ώ λhr nd=>?_
 refine aL (jG (bY cX cZ qa ub) (aV ir) eQ) ?_
 exact aV<|bK<|F1 wZ rfl<|Ha<|rB (iQ<|bQ bF<|aB aD aM) (λ_ _ _ _ _=>bL)<|λ_ _ _ _ _=>cV (Ha<|jO ja aX qa) qa
variable(dI:Ga P w K mg base "loop_parts" 5 2 fZ)(gc:Ga P w K mg base "top_rank" 3 2 qT)
include bF pb ja aX dI gc in
theorem Z9(F:Pa K "parts_topped" "parts_topped" vW dV fa fd):Aa P w K mg base Ib 6 fa fd ["machine","allowed","rank"] (vk K 3 mF):=by
 refine ML (k:=5) F CQ 3 6 oK (cN [4] (jb 4) (Yc<|aO fZ<|aC (aA 0)<|aC (aA 3) aP) nC nA) rfl rfl λCc A outer s H E B hr=>?_
 have nd:=CQ.nd;exact TB (by exact bW<|bQ pb<|aB (oH (iQ<|bQ bF<|aB aD aM) (λ_ _ _ _ _=>bL) (λ_ _ _ _ _=>bY Yt Vt (Ha<|cV (Ha<|jO ja aX qa) qa) qa)<|λ_ _ _ _ _=>aD) aM) (by exact NK<|bFq (iQ<|bQ dI<|aB aD<|aB aD aM) (λ_ _ _ _ _=>bL) (λ_ _ _ _ _=>bY cX cZ (Ha<|bQ gc<|aB aD<|aB aD aM) qa)<|λ_ _ _ _ _=>aD)
variable(oO:Ga P w K mg base "ranks_of_sort" 3 3 oJ)(Cd:Wd P w K mg base "parts_topped" 6 3 mF)
include oO Cd in
theorem F9(F:Pa K "loops_of_sort" "loops_of_sort" tR dV fa fd):Aa P w K mg base Ib 7 fa fd ["machine","allowed","wanted"] (jc K 3 cT):=by
 refine dG F n9 λhr nd=>?_
 refine aL (qZ<|yZ aM) ?_
 refine aL (jA (iQ<|bQ oO<|aB aD<|aB aD<|aB aD aM) bL<|aV<|bQ6 3<|bJ4 Cd hr (by decide)<|aB aD<|aB aD<|aB aD aM) ?_
 exact aV<|Kl [3]<|bK aD
variable(xD:mg "zip"=none)
variable{Eg:Tok}(Xb:mg "LETTERS"=some (.str "abc" Eg))
include cQ xD Xb in
theorem Ϝ(F:Pa K "ways_from" "ways_from" QG dV fa fd):Aa P w K mg base Ib 1 fa fd ["steps","start","allowed"] (jc K 3 sW):=by
 refine dG F ι λhr nd=>?_
 refine aL (bJ0 3 aD (yx []) nd) ?_
 refine aL (qZ<|yZ<|aB aD aM) ?_
 refine aL (bW fH) ?_
 refine aL (LJ (bY Xt Mt qa<|Ha<|mR cQ mQ)<|aL (by exact bW<|cV mQ qa)<|by exact aL (by exact jA (bN2 xD (FC [97,98,99] Xb)<|cV qa qa) (Z0 rfl<|JB<|JB VZ)<|aV<|jG (PW.pt<|so (bY IK JK qa qa)<|zW<|bY xA yA qa mQ) (aL (by exact KC hr.units 3 aD<|oF (Ha<|cV mQ qa) qa)<|by exact aV<|Bl 4 aD) eQ)<|by exact aV<|bW<|oF qa ub) ?_
 exact aV<|Kl [3]<|bK aD
variable(mX:Ga P w K mg base "ways_from" 1 3 sW)
include za ja bD Rb ka mX in
theorem G9(F:Pa K "rooms_reached" "rooms_reached" tU dV fa fd):Aa P w K mg base Ib 2 fa fd ["machine"] (vk K 1 oM):=by
 refine ML (k:=1) F zF 1 2 nD (e1 Jw<|aA 1) rfl rfl λCc A outer s H E B hr=>?_
 have nd:=zF.nd;exact TB (by exact bW<|bQ mX<|aB (jO ja ka qa)<|aB fH<|aB (QV Rb za rfl<|Ha<|jO ja bD qa) aM) (by exact NK<|bJ3 Rb rfl aD)
include dI in
theorem Ī(F:Pa K "is_loop" "is_loop" YH dV fa fd):Aa P w K mg base Ib 6 fa fd ["machine","bits"] (jc K 2 yK):=by
 refine dG F Ê λhr nd=>?_
 exact aV<|bK<|fV cX cZ (Ha<|bQ dI<|aB aD<|aB aD aM)<|Ha<|uC<|aB aD aM
include cG bF ja ka mX in
theorem bFy(F:Pa K "way_in" "way_in" II dV fa fd):Aa P w K mg base Ib 3 fa fd ["machine","allowed","room","goal"] (jc K 4 pP):=by
 refine dG F Ħ λhr nd=>?_
 refine aL (jG (oG<|fK<|bQ cG<|aB aD<|aB aD aM) (aV<|bK nu) eQ) ?_
 exact aV<|bK<|bNf hr.units (Ha<|bQ mX<|aB (jO ja ka qa)<|aB aD<|aB (bQ bF<|aB aD aM) aM) aD
include ja ka Xb in
theorem v8(F:Pa K "rooms_along" "Machine.rooms_along" dO dV fa fd):Aa P w K mg base Ib 1 fa fd ["self","room","text"] (vk K 3 cW):=by
 refine bRx (k:=0) F qH 3 5 3 eZ rfl rfl λCc A outer s H E B hr=>?_
 have nd:=qH.nd;exact BY (by exact qZ<|yZ<|aB aD aM) (by exact BY (by exact jA (iQ aD) bL<|aL (by exact bW<|cV (Ha<|cV (Ha<|jO ja ka qa) qa)<|Ha<|bMu (Ha<|FC [97,98,99] Xb)<|aB aD aM)<|by exact aV<|Bl 3 aD)<|by exact bN0)
variable(BA:Ga P w K mg base "is_loop" 6 2 yK)(Td:Ga P w K mg base "way_in" 3 4 pP)(Ya:ae P w K mg base "Machine" "rooms_along" 1 3 [] cW)
include cG bF ja ka Xb BA Td Ya in
theorem Ò(F:Pa K "round_in" "round_in" CH dV fa fd):Aa P w K mg base Ib 7 fa fd ["machine","bits","room"] (jc K 3 vB):=by
 refine dG F Ϗ λhr nd=>?_
 refine aL (jG (oG<|fK<|bQ BA<|aB aD<|aB aD aM) (aV ir) eQ) ?_
 refine aL (jG (oG<|fK<|bQ cG<|aB aD<|aB aD aM) (aV ir) eQ) ?_
 refine aL (jG (bY cX cZ (Ha<|bQ bF<|aB aD aM)<|Ha<|uC<|aB aD aM) (aV<|bK<|cV (Ha<|FC [97,98,99] Xb)<|Ha<|ŷ (Ha<|cV (Ha<|jO ja ka qa) qa)<|aB aD aM) eQ) ?_
 refine aL (bW<|yx []) ?_
 refine aL (bW aD) ?_
 refine aL (jA (iQ<|bQ bF<|aB aD aM) bL<|aV<|jG (bY xA yA qa<|Ha<|jY (pl:=_) (ae.plain Ya) aD<|aB aD<|aB aD aM) (aL (by exact bW<|oF qa<|Ha<|bQ Td<|aB aD<|aB aD<|aB aD<|aB aD aM)<|by exact aV<|bW aD) eQ) ?_
 exact aV<|bK<|oF qa<|Ha<|bQ Td<|aB aD<|aB aD<|aB aD<|aB aD aM
variable(oR:Wd P w K mg base "rooms_reached" 2 1 oM)(md:Ga P w K mg base "round_in" 7 3 vB)
include cG oR md in
theorem ī(F:Pa K "nest_of" "nest_of" ZH dV fa fd):Aa P w K mg base Ib 8 fa fd ["machine","row"] (jc K 2 uU):=by
 refine dG F Ë λhr nd=>?_
 refine aL (zB (iQ<|uO (Wd.plain oR) hr (by decide)<|aB aD aM) (λ_ _ _ _ _=>bL) (λ_ _ _ _ _=>fK<|bQ cG<|aB (cV qa ub)<|aB (cV qa ub) aM)<|λ_ _ _ _ _=>aD) ?_
 refine aL (bW<|cV (Ha<|cV qa ub) ub) ?_
 refine aL (bW<|cV (Ha<|cV qa ub) ub) ?_
 exact aV<|bK<|YC<|aB aD<|aB (rB (iQ aD) (λ_ _ _ _ _=>bL)<|λ_ _ _ _ _=>bQ md<|aB aD<|aB aD<|aB aD aM) aM
variable(bH:mg "isinstance"=none)(sf:mg "int"=none)(dg:mg "bool"=none)
include bH sf dg in
theorem Ó(F:Pa K "is_whole" "is_whole" DH dV fa fd):Aa P w K mg base Ib 1 fa fd ["thing"] (jc K 1 qU):=by
 refine dG F ϐ λhr nd=>?_
 exact aV<|bK<|uB (vQ ty_int bH sf qa)<|pY<|ou<|vQ ty_bool bH dg qa
variable(pD:Ga P w K mg base "is_whole" 1 1 qU)
include pD in
theorem Ô(F:Pa K "is_below" "is_below" EH dV fa fd):Aa P w K mg base Ib 2 fa fd ["thing","limit"] (jc K 2 qW):=by
 refine dG F ϑ λhr nd=>?_
 exact aV<|bK<|uB (bQ pD<|aB aD aM)<|uB (fV TK HK qa ub)<|pY<|fV Xt Mt qa qa
variable(pF:Ga P w K mg base "is_below" 2 2 qW)
include ja bD pF in
theorem G8(F:Pa K "check_room" "Machine.check_room" mU dV fa fd):Aa P w K mg base Ib 3 fa fd ["self","thing"] (jc K 2 eE):=by
 refine dG F q8 λhr nd=>?_
 exact aV<|jG (oG<|fK<|bQ pF<|aB aD<|aB (jO ja bD qa) aM) (aV ir) eQ
variable(zD:mg "str"=none)
include Xb bH zD in
theorem Ĭ(F:Pa K "is_word" "is_word" aI dV fa fd):Aa P w K mg base Ib 1 fa fd ["thing","many"] (jc K 2 pH):=by
 refine dG F Ì λhr nd=>?_
 exact aV<|bK<|uB (vQ ty_str bH zD qa)<|pY<|fV cX cZ (Ha<|bIm qa<|aB (F2 (Ha<|FC [97,98,99] Xb) XZ<|YZ qa) aM)<|Ha<|yx []
variable(CA:Ga P w K mg base "is_word" 1 2 pH)(Ab:nM K Ra (ofString "letters"))
include ja CA Ab in
theorem H8(F:Pa K "check_word" "Machine.check_word" mV dV fa fd):Aa P w K mg base Ib 2 fa fd ["self","thing"] (jc K 2 eN):=by
 refine dG F r8 λhr nd=>?_
 exact aV<|jG (oG<|fK<|bQ CA<|aB aD<|aB (jO ja Ab qa) aM) (aV ir) eQ
variable(iB:uc P w K mg base "Machine" "check_room" 3 2 [] eE)(Sb:uc P w K mg base "Machine" "check_word" 2 2 [] eN)
include Ya iB Sb in
theorem H9(F:Pa K "after" "Machine.after" tV dV fa fd):Aa P w K mg base Ib 4 fa fd ["self","room","text"] (jc K 3 lC):=by
 refine dG F o9 λhr nd=>?_
 refine aL (Y0<|jY (pl:=_) iB aD<|aB aD aM) ?_
 refine aL (Y0<|jY (pl:=_) Sb aD<|aB aD aM) ?_
 exact aV<|bK<|cV (Ha<|jY (pl:=_) (ae.plain Ya) aD<|aB aD<|aB aD aM)<|Ha<|rL ub
variable(eV:Ga P w K mg base "seen_from" 4 2 iD)(Ia:Ga P w K mg base "loops_of_sort" 7 3 cT)(Kd:Ga P w K mg base "nest_of" 8 2 uU)(Oc:uc P w K mg base "Machine" "after" 4 3 [] lC)
include bF Td md eV Ia Kd Oc in
theorem χ(F:Pa K "bar_behind" "bar_behind" ZF dV fa fd):Aa P w K mg base Ib 9 fa fd ["machine","good"] (jc K 2 kW):=by
 refine dG F u_ λhr nd=>?_
 refine aL (bW<|bQ eV<|aB aD<|aB fH aM) ?_
 refine aL (bW<|bQ Ia<|aB aD<|aB aD<|aB aD aM) ?_
 refine aL (jA (iQ<|bQ Ia<|aB aD<|aB aD<|aB (ou aD) aM) bL<|aL (by exact bW<|bQ Kd<|aB aD<|aB (uC<|aB aD aM) aM)<|by exact aL (by exact bW<|jY (pl:=_) Oc aD<|aB fH<|aB (cV qa ub) aM)<|by exact aV<|jA (iQ aD) bL<|aL (by exact bW<|cV (Ha<|bQ bF<|aB aD aM) ub)<|by exact aL (by exact bW<|bQ Td<|aB aD<|aB aD<|aB aD<|aB aD aM)<|by exact aV<|jG (bY UH VH qa<|Ha nu) (aV<|bK<|YC<|aB (cV qa ub)<|aB (cV (Ha<|cV qa ub) ub)<|aB aD<|aB (bQ md<|aB aD<|aB aD<|aB aD aM) aM) eQ) ?_
 exact aV<|bK nu
variable(lA:Ga P w K mg base "bar_behind" 9 2 kW)
include lA in
theorem E_(F:Pa K "bar" "EarlyNo.bar" xW dV fa fd):Aa P w K mg base Ib 10 fa fd ["self","machine"] (jc K 2 iG):=by
 refine dG F S9 λhr nd=>?_
 exact aV<|bK<|bQ lA<|aB aD<|aB oE aM
include lA in
theorem a_(F:Pa K "bar" "EarlyYes.bar" vX dV fa fd):Aa P w K mg base Ib 10 fa fd ["self","machine"] (jc K 2 iV):=by
 refine dG F B9 λhr nd=>?_
 exact aV<|bK<|bQ lA<|aB aD<|aB oE aM
include bF pb ja aX gc in
theorem F_(F:Pa K "without_top" "without_top" xX dV fa fd):Aa P w K mg base Ib 4 fa fd ["machine","loop"] (jc K 2 rH):=by
 refine dG F T9 λhr nd=>?_
 refine aL (bW<|bQ gc<|aB aD<|aB aD aM) ?_
 exact aV<|bK<|bQ pb<|aB (oH (iQ<|bQ bF<|aB aD aM) (λ_ _ _ _ _=>bL) (λ_ _ _ _ _=>bY nP nQ (Ha<|cV (Ha<|jO ja aX qa) qa) qa)<|λ_ _ _ _ _=>aD) aM
include gc in
theorem ĭ(F:Pa K "is_good" "is_good" fI dV fa fd):Aa P w K mg base Ib 4 fa fd ["machine","bits"] (jc K 2 nF):=by
 refine dG F Í λhr nd=>?_
 exact aV<|bK<|fV cX cZ (Ha<|qL (Ha<|bQ gc<|aB aD<|aB aD aM) ub) ub
variable(sE:Ga P w K mg base "without_top" 4 2 rH)(sd:Ga P w K mg base "is_good" 4 2 nF)
include dI sE sd in
theorem G_(F:Pa K "inner_loops" "inner_loops" xY dV fa fd):Aa P w K mg base Ib 6 fa fd ["machine","loop"] (jc K 2 iH):=by
 refine dG F U9 λhr nd=>?_
 refine aL (qZ<|yZ aM) ?_
 refine aL (qZ<|yZ<|aB aD aM) ?_
 refine aL (LJ (bY nP nQ mQ<|Ha<|uC aM)<|aL (by exact bNi 4 3 sE hr (by decide) aD nd)<|by exact aV<|jA (iQ<|bQ dI<|aB aD<|aB aD aM) bL<|aV<|jG (bY cX cZ (Ha<|bQ sd<|aB aD<|aB aD aM)<|Ha<|bQ sd<|aB aD<|aB aD aM) (aV<|Bl 3 aD)<|aV<|Bl 2 aD) ?_
 exact aV<|Kl [2]<|bK aD
variable(jL:Ga P w K mg base "inner_loops" 6 2 iH)
include eV Ia Kd jL in
theorem ψ(F:Pa K "bar_within" "bar_within" kG dV fa fd):Aa P w K mg base Ib 9 fa fd ["machine","good"] (jc K 2 gB):=by
 refine dG F v_ λhr nd=>?_
 refine aL (jA (iQ<|bQ Ia<|aB aD<|aB (bQ eV<|aB aD<|aB fH aM)<|aB aD aM) bL<|aL (by exact bW<|bQ jL<|aB aD<|aB aD aM)<|by exact aV<|jG (bY nP nQ qa<|Ha<|uC aM) (aL (by exact bW<|bQ Kd<|aB aD<|aB (uC<|aB (cV qa ub)<|aB aD aM) aM)<|by exact aV<|bK<|YC<|aB (cV qa ub)<|aB (cV (Ha<|cV qa ub) ub)<|aB (yx [])<|aB (cV (Ha<|cV qa ub) ub) aM) eQ) ?_
 exact aV<|bK nu
variable(fC:Ga P w K mg base "bar_within" 9 2 gB)
include fC in
theorem H_(F:Pa K "bar" "Settled.bar" xZ dV fa fd):Aa P w K mg base Ib 10 fa fd ["self","machine"] (jc K 2 jH):=by
 refine dG F V9 λhr nd=>?_
 refine aL (bW<|bQ fC<|aB aD<|aB oE aM) ?_
 exact aV<|bK<|iL (bY UH VH qa<|Ha nu) aD<|bQ fC<|aB aD<|aB oE aM
include fC in
theorem ϝ(F:Pa K "bar" "Again.bar" RG dV fa fd):Aa P w K mg base Ib 10 fa fd ["self","machine"] (jc K 2 mG):=by
 refine dG F μ λhr nd=>?_
 exact aV<|bK<|bQ fC<|aB aD<|aB oE aM
include fC in
theorem I_(F:Pa K "bar" "Lasting.bar" yC dV fa fd):Aa P w K mg base Ib 10 fa fd ["self","machine"] (jc K 2 jJ):=by
 refine dG F W9 λhr nd=>?_
 exact aV<|bK<|bQ fC<|aB aD<|aB oE aM
include za cG ja bD in
theorem Õ(F:Pa K "ranks_by" "ranks_by" FH dV fa fd):Aa P w K mg base Ib 2 fa fd ["machine","bits","inside","outside"] (jc K 4 oZ):=by
 refine dG F ϒ λhr nd=>?_
 exact aV<|bK<|rB (wY za<|Ha<|jO ja bD qa) (λ_ _ _ _ _=>bL)<|λ_ _ _ _ _=>iL (fK<|bQ cG<|aB aD<|aB aD aM) aD aD
theorem bFz(F:Pa K "joined" "joined" JI dV fa fd):Aa P w K mg base Ib 1 fa fd ["sets"] (jc K 1 gw):=by
 refine dG F ħ λhr nd=>?_
 refine aL (bW fH) ?_
 refine aL (jA (iQ aD) bL<|aV<|bW<|yr qa qa) ?_
 exact aV<|bK aD
include za pb ja bD gC Tb ka in
theorem Ö(F:Pa K "reaching" "reaching" GH dV fa fd):Aa P w K mg base Ib 4 fa fd ["machine","goals"] (jc K 2 zQ):=by
 refine dG F ϓ λhr nd=>?_
 refine aL (bW<|bQ gC<|aB (jO ja ka qa)<|aB (bQ Tb<|aB aD aM) aM) ?_
 exact aV<|bK<|bQ pb<|aB (oH (wY za<|Ha<|jO ja bD qa) (λ_ _ _ _ _=>bL) (λ_ _ _ _ _=>bY nP nQ (Ha<|nR (Ha<|cV qa qa) qa) ub)<|λ_ _ _ _ _=>aD) aM
variable(wA:Ga P w K mg base "joined" 1 1 gw)(df:Ga P w K mg base "reaching" 4 2 zQ)
include Tb Ia wA df in
theorem e9(F:Pa K "never_coming_to" "never_coming_to" qF dV fa fd):Aa P w K mg base Ib 8 fa fd ["machine","wanted"] (jc K 2 jE):=by
 refine dG F R8 λhr nd=>?_
 refine aL (bW<|bQ Tb<|aB aD aM) ?_
 refine aL (bW<|bQ wA<|aB (bQ Ia<|aB aD<|aB aD<|aB aD aM) aM) ?_
 exact aV<|bK<|bNj qa<|Ha<|bQ df<|aB aD<|aB aD aM
variable(fD:Ga P w K mg base "never_coming_to" 8 2 jE)
include fD in
theorem ω(F:Pa K "dead_rooms" "dead_rooms" AG dV fa fd):Aa P w K mg base Ib 9 fa fd ["machine"] (jc K 1 uI):=by
 refine dG F w_ λhr nd=>?_
 exact aV<|bK<|bQ fD<|aB aD<|aB oE aM
variable(jM:Ga P w K mg base "ranks_by" 2 4 oZ)(pe:Ga P w K mg base "dead_rooms" 9 1 uI)
include jM pe in
theorem N8(F:Pa K "ranks_for" "EarlyNo.ranks_for" nU dV fa fd):Aa P w K mg base Ib 10 fa fd ["self","machine"] (jc K 2 fG):=by
 refine dG F C8 λhr nd=>?_
 exact aV<|bK<|bQ jM<|aB aD<|aB (bQ pe<|aB aD aM)<|aB fH<|aB fH aM
include fD in
theorem Α(F:Pa K "sure_rooms" "sure_rooms" BG dV fa fd):Aa P w K mg base Ib 9 fa fd ["machine"] (jc K 1 uJ):=by
 refine dG F x_ λhr nd=>?_
 exact aV<|bK<|bQ fD<|aB aD<|aB oE aM
variable(uQ:Ga P w K mg base "sure_rooms" 9 1 uJ)
include jM uQ in
theorem I8(F:Pa K "ranks_for" "EarlyYes.ranks_for" mW dV fa fd):Aa P w K mg base Ib 10 fa fd ["self","machine"] (jc K 2 gG):=by
 refine dG F t8 λhr nd=>?_
 exact aV<|bK<|bQ jM<|aB aD<|aB (bQ uQ<|aB aD aM)<|aB fH<|aB fH aM
include eV Ia wA jM in
theorem O8(F:Pa K "ranks_for" "Settled.ranks_for" nW dV fa fd):Aa P w K mg base Ib 8 fa fd ["self","machine"] (jc K 2 gW):=by
 refine dG F E8 λhr nd=>?_
 refine aL (bW<|bQ wA<|aB (bQ Ia<|aB aD<|aB (bQ eV<|aB aD<|aB fH aM)<|aB oE aM) aM) ?_
 exact aV<|bK<|bQ jM<|aB aD<|aB aD<|aB fH<|aB fH aM
include dI eV in
theorem J_(F:Pa K "outer_loops" "outer_loops" yD dV fa fd):Aa P w K mg base Ib 6 fa fd ["machine"] (jc K 1 rJ):=by
 refine dG F X9 λhr nd=>?_
 exact aV<|bK<|bQ dI<|aB aD<|aB (bQ eV<|aB aD<|aB fH aM) aM
theorem Β(F:Pa K "least_rank" "least_rank" CG dV fa fd):Aa P w K mg base Ib 1 fa fd ["base","good"] (jc K 2 uK):=by
 refine dG F y_ λhr nd=>?_
 exact aV<|bK<|iL (bY cX cZ (Ha<|fV cX cZ (Ha<|qL qa ub) ub) qa) aD<|oF qa ub
variable(uR:Ga P w K mg base "least_rank" 1 2 uK)
include wZ bF sd jL uR in
theorem b_{pr:List D->R D}{n:Nat}(My:Ga P w K mg base "ranks_within" (7+n) 3 pr)(F:Pa K "ranks_within" "ranks_within" vY dV fa fd):Aa P w K mg base Ib (7+n+1) fa fd ["machine","loop","base"] (jc K 3<|bV 3 8<|KQ pr):=by
 refine dG F DQ λhr nd=>?_
 refine aL OB ?_
 refine aL (bW<|uO uR hr (by omega)<|aB aD<|aB (uO sd hr (by omega)<|aB aD<|aB aD aM) aM) ?_
 refine aL (jA (iQ<|uO jL hr (by omega)<|aB aD<|aB aD aM) bL<|aL (by exact bW<|uO My hr (by omega)<|aB aD<|aB aD<|aB aD aM)<|by exact aL (by exact bW<|ZZ wZ rfl qa<|Ha<|oF (Ha<|bNn wZ rfl aD) ub)<|by exact aV<|J1 3 aD) ?_
 refine aL (jA (iQ<|uO bF hr (by omega)<|aB aD aM) bL<|aV<|bNm 3 aD aD) ?_
 exact aV<|Kl [3]<|bK aD
variable(sH:Ga P w K mg base "outer_loops" 6 1 rJ)(Dd:Ga P w K mg base "ranks_within" 19 3 pQ)
include za ja bD sH Dd in
theorem Γ(F:Pa K "ranks_from" "ranks_from" DG dV fa fd):Aa P w K mg base Ib 20 fa fd ["machine","base"] (vk K 2 pR):=by
 refine ML (k:=19) F XQ 2 5 TQ (cN [4] (jb 4) (tH<|e1 (dY "Machine" "many")<|aA 0) dB vC) rfl rfl λCc A outer s H E B hr=>?_
 have nd:=XQ.nd;exact TB (by exact OB) (by exact TB (by exact jA (iQ<|bQ sH<|aB aD aM) bL<|aV<|J1 2<|bQ Dd<|aB aD<|aB aD<|aB aD aM)<|by exact NK<|bN7 (wY za<|Ha<|jO ja bD qa) (λ_ _ _ _ _=>bL)<|λ_ _ _ _ _=>bNg hr.units mQ aD aD)
variable(lB:Wd P w K mg base "ranks_from" 20 2 pR)
include lB in
theorem f9(F:Pa K "ranks_for" "Again.ranks_for" qG dV fa fd):Aa P w K mg base Ib 21 fa fd ["self","machine"] (jc K 2 jF):=by
 refine dG F S8 λhr nd=>?_
 exact aV<|bK<|uO (Wd.plain lB) hr (by decide)<|aB aD<|aB fH aM
include lB in
theorem P8(F:Pa K "ranks_for" "Lasting.ranks_for" nY dV fa fd):Aa P w K mg base Ib 21 fa fd ["self","machine"] (jc K 2 gY):=by
 refine dG F F8 λhr nd=>?_
 exact aV<|bK<|uO (Wd.plain lB) hr (by decide)<|aB aD<|aB fH aM
include cQ Rb bH in
theorem q9(F:Pa K "is_filled_list" "is_filled_list" rE dV fa fd):Aa P w K mg base Ib 1 fa fd ["thing","most"] (jc K 2 fO):=by
 refine dG F d9 λhr nd=>?_
 exact aV<|bK<|uB (vQ ty_list bH Rb qa)<|uB (fV TK HK (Ha<|mR cQ qa) ub)<|pY<|fV Yt Vt (Ha<|mR cQ qa) qa
variable(um:mg "all"=none)
include cQ pF um in
theorem bG0(F:Pa K "is_row" "is_row" KI dV fa fd):Aa P w K mg base Ib 3 fa fd ["thing","letters","rooms"] (jc K 3 IA):=by
 refine dG F Ĩ λhr nd=>?_
 exact aV<|bK<|uB (fV cX cZ (Ha<|mR cQ qa) qa)<|pY<|eD um rfl<|Ha<|rB (iQ aD) (λ_ _ _ _ _=>bL)<|λ_ _ _ _ _=>bQ pF<|aB aD<|aB aD aM
variable(kE:Ga P w K mg base "is_filled_list" 1 2 fO)(rg:Ga P w K mg base "is_row" 3 3 IA)
variable{rf:Tok}(ie:mg "MOST_ROOMS"=some (.int 8 rf))
variable{ze:Tok}(zd:mg "MOST_LETTERS"=some (.int 3 ze))
include cQ um kE rg ie zd in
theorem Ϟ(F:Pa K "are_steps" "are_steps" SG dV fa fd):Aa P w K mg base Ib 4 fa fd ["thing"] (jc K 1 wK):=by
 refine dG F ν λhr nd=>?_
 refine aL (jG (oG<|fK<|bQ kE<|aB aD<|aB (UZ ie) aM) (aV<|bK oE) eQ) ?_
 refine aL (jG (oG<|fK<|eD um rfl<|Ha<|rB (iQ aD) (λ_ _ _ _ _=>bL)<|λ_ _ _ _ _=>bQ kE<|aB aD<|aB (UZ zd) aM) (aV<|bK oE) eQ) ?_
 exact aV<|bK<|eD um rfl<|Ha<|rB (iQ aD) (λ_ _ _ _ _=>bL)<|λ_ _ _ _ _=>bQ rg<|aB aD<|aB (mR cQ<|Ha<|cV qa ub)<|aB (mR cQ qa) aM
include cQ Rb bH pD um in
theorem ϟ(F:Pa K "are_ranks" "are_ranks" UG dV fa fd):Aa P w K mg base Ib 2 fa fd ["thing","rooms"] (jc K 2 wL):=by
 refine dG F ξ λhr nd=>?_
 refine aL (jG (PW.pt<|Qx (oG<|fK<|vQ ty_list bH Rb qa)<|gL<|bY nP nQ (Ha<|mR cQ qa) qa) (aV<|bK oE) eQ) ?_
 exact aV<|bK<|eD um rfl<|Ha<|rB (iQ aD) (λ_ _ _ _ _=>bL)<|λ_ _ _ _ _=>uB (bQ pD<|aB aD aM)<|pY<|fV TK HK qa ub
variable(xF:Ga P w K mg base "are_steps" 4 1 wK)(Ie:Ga P w K mg base "are_ranks" 2 2 wL)
include cQ ja bD Rb ka aX Ab xF Ie in
theorem T8(F:Zq K "__init__" "Machine.__init__" fW fa fd):Aa P w K mg base Ib 5 fa fd ["self","steps","ranks"] (CF K "Machine" 2 fP):=by
 refine bIo (k:=4) F uE "Machine" 2 4 iY rfl rfl λCc A outer s H E B hr=>?_
 have nd:=uE.nd;refine aL (jG (oG<|fK<|bQ xF<|aB aD aM) (aV ir) eQ) ?_
 refine aL (jG (oG<|fK<|bQ Ie<|aB aD<|aB (mR cQ qa) aM) (aV ir) eQ) ?_
 refine aL (LC 0 ja ka<|rB (iQ aD) (λ_ _ _ _ _=>bL)<|λ_ _ _ _ _=>Wt Rb qa) ?_
 refine aL (LC 0 ja aX<|Wt Rb qa) ?_
 refine aL (LC 0 ja bD<|mR cQ qa) ?_
 exact aV<|LC 0 ja Ab<|mR cQ<|Ha<|cV qa ub
variable(dX:uc P w K mg base "EarlyNo" "bar" 10 2 [] iG)(qb:uc P w K mg base "EarlyYes" "bar" 10 2 [] iV)(zb:uc P w K mg base "Settled" "bar" 10 2 [] jH)(Kb:uc P w K mg base "Again" "bar" 10 2 [] mG)(yb:uc P w K mg base "Lasting" "bar" 10 2 [] jJ)(La:uc P w K mg base "EarlyNo" "ranks_for" 10 2 [] fG)(Ea:uc P w K mg base "EarlyYes" "ranks_for" 10 2 [] gG)(Na:uc P w K mg base "Settled" "ranks_for" 8 2 [] gW)(Xa:uc P w K mg base "Again" "ranks_for" 21 2 [] jF)(Ma:uc P w K mg base "Lasting" "ranks_for" 21 2 [] gY)(Yb:Yg P w K mg base "Machine" 5 2 fP)
variable{Bb:Addr}{Jh:List Value}(Jc:ExcAt K "NoKind" Bb Jh)
variable(jC:mg (ofString "NoKind")=some (.ref Bb))
include ja ka dX qb zb Kb yb La Ea Na Xa Ma Yb Jc jC in
theorem lM(F:Pa K "marked" "Kind.marked" iI dV fa fd):Aa P w K mg base (kn P w) 22 fa fd ["self","machine"] (dt K 2 bT):=by
 refine bRv (k:=21) (sm:=false) F QQ 2 2 UQ rfl rfl λCc A outer s H E B W hr hL=>?_
 have nd:=QQ.nd;refine bMy (s1:=false) (s2:=false) ?_ ?_
 .exact G1 (bRu (s1:=false) (bY UH VH (Ha<|uD (jY (pl:=_) dX aD<|aB aD aM)<|uD (jY (pl:=_) qb aD<|aB aD aM)<|uD (jY (pl:=_) zb aD<|aB aD aM)<|uD (jY (pl:=_) Kb aD<|aB aD aM)<|jY (pl:=_) yb aD<|aB aD aM)<|Ha nu) (AL<|G1<|x_raise hL Jc jC rfl<|aB (yx [116,104,101,32,109,97,99,104,105,110,101,32,105,115,32,110,111,116,32,111,102,32,116,104,105,115,32,107,105,110,100]) aM) bQ7)
 exact AL<|bMx (s1:=false)<|bK<|LK Yb hr (by decide)<|aB (jO ja ka qa)<|aB (uD (jY (pl:=_) La aD<|aB aD aM)<|uD (jY (pl:=_) Ea aD<|aB aD aM)<|uD (jY (pl:=_) Na aD<|aB aD aM)<|uD (jY (pl:=_) Xa aD<|aB aD aM)<|jY (pl:=_) Ma aD<|aB aD aM) aM
variable(lG:cc P w K mg base "Kind" "marked" 22 2 [] bT)(Ua:cc P w K mg base "EarlyNo" "marked" 22 2 [] bT)(Qa:cc P w K mg base "EarlyYes" "marked" 22 2 [] bT)(Wa:cc P w K mg base "Settled" "marked" 22 2 [] bT)(Za:cc P w K mg base "Again" "marked" 22 2 [] bT)(Va:cc P w K mg base "Lasting" "marked" 22 2 [] bT)(Ld:zk K Bb true "NoKind")(Md:zk K Bb false "NoLoop")(Xc:zk K Bb false "NoMachine")(Nd:zk K Bb false "NoRoom")(Od:zk K Bb false "NoWord")
include Jc jC lG Ua Qa Wa Za Va Ld Md Xc Nd Od in
theorem c_(F:Pa K "_law_refused" "_law_refused" vZ dV fa fd):Aa P w K mg base Ib 23 fa fd ["_law_kind_here","_law_machine_here"] (jc K 2 pU):=by
 refine dG F C9 λhr nd=>?_
 refine aL (bW oE) ?_
 refine aL (bQ9 (λ_ _ _ Ly=>AL<|bQ8<|NC (Dw (pl:=_) Ua Ly hr (by decide) aD<|aB aD aM)<|NC (Dw (pl:=_) Qa Ly hr (by decide) aD<|aB aD aM)<|NC (Dw (pl:=_) Wa Ly hr (by decide) aD<|aB aD aM)<|NC (Dw (pl:=_) Za Ly hr (by decide) aD<|aB aD aM)<|Dw (pl:=_) Va Ly hr (by decide) aD<|aB aD aM)<|Ų Jc jC (by intro c hc;simp only[mem_cons,not_mem_nil,or_false]at hc;rcases hc with rfl<;>assumption) (by intro c hc;simp only[mem_cons,not_mem_nil,or_false]at hc;rcases hc with rfl|rfl|rfl|rfl<;>assumption) (λ_=>aV<|bW oE) bIv) ?_
 exact aV<|bK aD
include bH sf dg in
theorem Δ(F:Pa K "_law_whole" "_law_whole" EG dV fa fd):Aa P w K mg base Ib 1 fa fd ["_law_found"] (jc K 1 uL):=by
 refine dG F z_ λhr nd=>?_
 exact aV<|bK<|uB (vQ ty_int bH sf qa)<|pY<|ou<|vQ ty_bool bH dg qa
include cQ za dH eU sf in
theorem Ø(F:Pa K "_law_due" "_law_due" HH dV fa fd):Aa P w K mg base Ib 3 fa fd ["_law_goals_here","_law_loops","_law_ranks","_law_k"] (jc K 4 kY):=by
 refine dG F ϔ λhr nd=>?_
 refine aL (qZ<|yZ aM) ?_
 refine aL (jA (wY za<|Ha<|mR cQ qa) bL<|aV<|jG (bY cX cZ qa ub) (aV<|Bl 4<|QJ sf<|Ha<|fV cX cZ (Ha<|oH (iQ aD) (λ_ _ _ _ _=>bL) (λ_ _ _ _ _=>PW.pt<|so (bY cX cZ (Ha<|nR (Ha<|xr qa qa) ub) ub)<|zW<|fK<|bQ eU<|aB aD<|aB aD aM)<|λ_ _ _ _ _=>aD)<|Ha<|uC aM)<|aL (by exact bW<|bQ dH<|aB aD<|aB fH<|aB (sD ub qa) aM)<|by exact aL (by exact zB (iQ aD) (λ_ _ _ _ _=>bL) (λ_ _ _ _ _=>bY gx Xw (Ha<|nR qa qa) ub)<|λ_ _ _ _ _=>bQ eU<|aB aD<|aB aD aM)<|by exact aV<|Bl 4<|cV (Ha<|uC<|aB (QJ sf<|Ha<|fV xA yA (Ha oE) qa)<|aB (QJ sf<|Ha<|fV IK JK (Ha oE) qa) aM) qa) ?_
 exact aV<|Kl [4]<|bK aD
variable(gD:Ga P w K mg base "_law_goals" 1 1 mZ)(me:Ga P w K mg base "_law_whole" 1 1 uL)(ye:Ga P w K mg base "_law_due" 3 4 kY)(cf:mg (ofString "Machine")=some (.ref Ra))(mf:fi K Ra)
include cQ za eU ja ka aX bH gD me ye cf mf in
theorem Ε(F:Pa K "_law_right" "_law_right" FG dV fa fd):Aa P w K mg base Ib 4 fa fd ["_law_found","_law_steps","_law_ranks","_law_k","_law_loops"] (jc K 5 uM):=by
 refine dG F A_ λhr nd=>?_
 refine aL (bW<|bQ gD<|aB aD aM) ?_
 refine aL (jG (PW.pt<|Qx (oG<|fK<|bQb bH ja cf mf qa)<|Qx (bY nP nQ (Ha<|jO ja ka qa) qa)<|gL<|bY nP nQ (Ha<|mR cQ<|Ha<|jO ja aX qa)<|Ha<|mR cQ qa) (aV<|bK oE) eQ) ?_
 refine aL (jA (iQ<|jO ja aX qa) bL<|aV<|jG (PW.pt<|Qx (oG<|fK<|bQ me<|aB aD aM)<|Qx (PW.pt<|so (bY cX cZ qa ub)<|zW<|oG<|HY Yt Vt Yt Vt ub qa ub)<|gL<|PW.pt<|so (bY cX cZ qa ub)<|zW<|oG<|HY Yt Vt Yt Vt ub qa ub) (aV<|bK oE) eQ) ?_
 refine aL (jG (PW.pt<|so (bY Xt Mt qa ub)<|zW<|bY nP nQ (Ha<|jO ja aX qa)<|Ha<|bQ ye<|aB aD<|aB (cV qa ub)<|aB aD<|aB aD aM) (aV<|bK oE) eQ) ?_
 refine aL (jG (PW.pt<|so (bY cX cZ qa ub)<|zW<|bY nP nQ (Ha<|jO ja aX qa)<|Ha<|bQ ye<|aB aD<|aB (cV qa ub)<|aB aD<|aB aD aM) (aV<|bK oE) eQ) ?_
 refine aL (bW fH) ?_
 refine aL (jA (iQ<|cV qa ub) bL<|aL (by exact bW<|yr qa qa)<|by exact aV<|jG (bY nP nQ (Ha<|bQ eU<|aB aD<|aB aD aM)<|Ha<|bQ eU<|aB (jO ja aX qa)<|aB aD aM) (aV<|bK oE) eQ) ?_
 refine aL (zB (wY za<|Ha<|mR cQ qa) (λ_ _ _ _ _=>bL) (λ_ _ _ _ _=>bY cX cZ (Ha<|nR (Ha<|xr qa qa) ub) ub)<|λ_ _ _ _ _=>cV (Ha<|jO ja aX qa) qa) ?_
 exact aV<|bK<|C2 (fV Xt Mt qa ub)<|X0<|fV cX cZ (Ha<|oH (iQ aD) (λ_ _ _ _ _=>bL) (λ_ _ _ _ _=>bY nP nQ qa<|Ha<|Ax ub qa)<|λ_ _ _ _ _=>aD)<|Ha<|uC aM
variable(sI:Ga P w K mg base "_law_truths" 3 3 oA)(Ad:Ga P w K mg base "_law_refused" 23 2 pU)(je:Ga P w K mg base "_law_right" 4 5 uM)
include za ja ka aX lG Ua Qa Wa Za Va gD sI Ad je in
theorem U8(F:Pa K "_law_marks_right" "_law_marks_right" pC dV fa fd):Aa P w K mg base Ib 24 fa fd ["_law_kinds","_law_machine_here","_law_steps","_law_ranks","_law_loops"] (jc K 5 fQ):=by
 refine dG F M8 λhr nd=>?_
 refine aL (bW<|bQ sI<|aB (bQ gD<|aB aD aM)<|aB (cV qa ub)<|aB aD aM) ?_
 refine aL (jA (wY za ub) bL<|aV<|jG (oG<|fK<|cV qa qa) (aV<|jG (oG<|fK<|bQ Ad<|aB (cV qa qa)<|aB aD aM) (aV<|bK oE) eQ)<|aV<|jG (oG<|fK<|bQ je<|aB (uD (jY (pl:=_) (cc.calm Ua) (cV qa qa)<|aB aD aM)<|uD (jY (pl:=_) (cc.calm Qa) (cV qa qa)<|aB aD aM)<|uD (jY (pl:=_) (cc.calm Wa) (cV qa qa)<|aB aD aM)<|uD (jY (pl:=_) (cc.calm Za) (cV qa qa)<|aB aD aM)<|jY (pl:=_) (cc.calm Va) (cV qa qa)<|aB aD aM)<|aB aD<|aB aD<|aB aD<|aB aD aM) (aV<|bK oE) eQ) ?_
 exact aV<|bK<|uB (fV cX cZ (Ha<|jO ja ka qa) qa)<|pY<|fV cX cZ (Ha<|jO ja aX qa) qa
variable(qI:Ga P w K mg base "_law_machine" 2 3 lZ)(yc:Ga P w K mg base "_law_all_loops" 2 2 iJ)(He:Ga P w K mg base "_law_kind" 1 1 wI)(Hb:Ga P w K mg base "_law_marks_right" 24 5 fQ)
variable{Rc:Addr}(gh:ClsAt K "Kind" Rc)
variable(xG:mg (ofString "Kind")=some (.ref Rc))(kk_Lasting_Kind:kitOne K (.ref Vb) (.ref Rc)=some true)(kk_Again_Kind:kitOne K (.ref Vc) (.ref Rc)=some true)(kk_Settled_Kind:kitOne K (.ref Wb) (.ref Rc)=some true)(kk_EarlyYes_Kind:kitOne K (.ref Gb) (.ref Rc)=some true)(kk_EarlyNo_Kind:kitOne K (.ref Ub) (.ref Rc)=some true)(Yh:fi K Rc)(kf:fi K Vb)(vg:fi K Vc)(pf:fi K Wb)(Ke:fi K Gb)(jf:fi K Ub)
include cQ za dH yd vc bc wc xc zG Gd qd Hd Jd Rb bH Yb gD qI yc He Hb gh xG kk_Lasting_Kind kk_Again_Kind kk_Settled_Kind kk_EarlyYes_Kind kk_EarlyNo_Kind Yh kf vg pf Ke jf in
theorem bQe(F:Pa K "law" "law" uo dV fa fd):Aa P w K mg base Ib 25 fa fd ["_law_script"] (jc K 1 fu):=by
 refine dG F bNo λhr nd=>?_
 refine aL (bPw (bQ qI<|aB aD<|aB fH<|aB fH aM)<|Z0 rfl<|JB<|JB VZ) ?_
 refine aL (bW<|bQ gD<|aB aD aM) ?_
 refine aL (bW<|uC<|aB (bQ yc<|aB aD<|aB (bQ dH<|aB aD<|aB fH<|aB fH aM) aM)<|aB (bQ yc<|aB aD<|aB (xr (Ha<|Ax (Ha<|eL ub ub) ub)<|Ha<|Ax ub<|Ha<|mR cQ qa) aM) aM) ?_
 refine aL (bW<|LK Yb hr (by decide)<|aB (rB (iQ aD) (λ_ _ _ _ _=>bL)<|λ_ _ _ _ _=>Wt Rb qa)<|aB (Wt Rb qa) aM) ?_
 refine aL (MK (wY za ub) (λ_ _ _ _ _=>bL)<|λ_ _ _ _ _=>bQ He<|aB aD aM) ?_
 refine aL (jG (bY nP nQ (Ha<|oH (iQ aD) (λ_ _ _ _ _=>bL) (λ_ _ _ _ _=>oG<|fK<|uD (cx bH vc xG jf kk_EarlyNo_Kind qa)<|uD (cx bH bc xG Ke kk_EarlyYes_Kind qa)<|uD (cx bH xc xG pf kk_Settled_Kind qa)<|uD (cx bH yd xG vg kk_Again_Kind qa)<|cx bH wc xG kf kk_Lasting_Kind qa)<|λ_ _ _ _ _=>aD)<|Ha<|uC aM) (aV<|bK oE) eQ) ?_
 refine aL (jG (oG<|fK<|bQ Hb<|aB aD<|aB aD<|aB aD<|aB aD<|aB aD aM) (aV<|bK oE) eQ) ?_
 refine aL (MK (iQ aD) (λ_ _ _ _ _=>bL)<|λ_ _ _ _ _=>oF qa ub) ?_
 refine aL (jG (oG<|fK<|bQ Hb<|aB aD<|aB (LK Yb hr (by decide)<|aB (rB (iQ aD) (λ_ _ _ _ _=>bL)<|λ_ _ _ _ _=>Wt Rb qa)<|aB (Wt Rb qa) aM)<|aB aD<|aB aD<|aB aD aM) (aV<|bK oE) eQ) ?_
 exact aV<|bK<|bQ Hb<|aB aD<|aB aD<|aB aD<|aB aD<|aB aD aM
end
theorem all_mk {l : OpenLaw}  {K : Frag}    {BE Zk pz : String} {sv : List Value} (FE : ExcBaseFacts BE Zk pz sv) (X : K.In h) (G : h.Ns mainGlobals mg) (hfa : mg "law" = some (.ref fa))
            {Fi:Addr} {Gg:Addr} {Gi:Addr} {Hi:Addr} {QE:Addr} {XO RK:Option Addr} {BP:Array (Option Value)} {UO KO XM dP vy UM:Value} {RE:Addr} {YO SK:Option Addr} {CP:Array (Option Value)} {VO LO YM eP wy VM:Value} {fN:Addr} {ZO Gx:Option Addr} {DP:Array (Option Value)} {WO qz zy zz Nr yy:Value}
  (yd:ClsAt K "Again" Vc)
  (vg:fi K Vc)
  (Ug:lm K Vc)
  (vc:ClsAt K "EarlyNo" Ub)
  (jf:fi K Ub)
  (Hf:lm K Ub)
  (bc:ClsAt K "EarlyYes" Gb)
  (Ke:fi K Gb)
  (qf:lm K Gb)
  (gh:ClsAt K "Kind" Rc)
  (Yh:fi K Rc)
  (wc:ClsAt K "Lasting" Vb)
  (kf:fi K Vb)
  (Jf:lm K Vb)
  (ja:ClsAt K "Machine" Ra)
  (mf:fi K Ra)
  (x5_Machine:makesIn K Ra=true)
  (x6_Machine:keepIn K (.ref Ra)=true)
  (xc:ClsAt K "Settled" Wb)
  (pf:fi K Wb)
  (Kf:lm K Wb)
  (kk_Again_Kind:kitOne K (.ref Vc) (.ref Rc)=some true)
  (kk_EarlyNo_Kind:kitOne K (.ref Ub) (.ref Rc)=some true)
  (kk_EarlyYes_Kind:kitOne K (.ref Gb) (.ref Rc)=some true)
  (kk_Lasting_Kind:kitOne K (.ref Vb) (.ref Rc)=some true)
  (kk_Settled_Kind:kitOne K (.ref Wb) (.ref Rc)=some true)
  (w_Machine_letters:findIn K (.ref Ra) (ofString "letters")=some none)
  (w_Machine_many:findIn K (.ref Ra) (ofString "many")=some none)
  (w_Machine_ranks:findIn K (.ref Ra) (ofString "ranks")=some none)
  (w_Machine_steps:findIn K (.ref Ra) (ofString "steps")=some none)
  (y3:specialIn K (.builtin "object.__class__") "__get__"=some (some<|.builtin "getset_descriptor.__get__"))
  (y4:takesIn K (.builtin "object.__class__")=some true)
  (Ii:XA K "NoKind" Bb sv Zk)
  (Ji:XA K "NoLoop" Fi sv Zk)
  (Hg:XA K "NoMachine" Gg sv Zk)
  (Ki:XA K "NoRoom" Gi sv Zk)
  (Li:XA K "NoWord" Hi sv Zk)
  (ja_NoKind_NoKind:mroIn K Bb (.ref Bb)=some true)
  (ja_NoKind_NoLoop:mroIn K Fi (.ref Bb)=some false)
  (ja_NoKind_NoMachine:mroIn K Gg (.ref Bb)=some false)
  (ja_NoKind_NoRoom:mroIn K Gi (.ref Bb)=some false)
  (ja_NoKind_NoWord:mroIn K Hi (.ref Bb)=some false)
  (D1:DA K "_law_cell" IG)
  (D2:DA K "_law_pick" JG)
  (D3:DA K "_law_digits" xT)
  (D4:DA K "_law_goal" KG)
  (D5:DA K "_law_machine" vV)
  (D6:DA K "_law_goals" SF)
  (D7:DA K "_law_close" TF)
  (D8:DA K "_law_all_loops" rD)
  (D9:DA K "_law_kind" LG)
  (p6:DA K "_law_top" ZG)
  (t6:DA K "_law_good" MG)
  (u6:DA K "_law_truths" xU)
  (w6:DA K "has_room" kH)
  (A6:DA K "rooms_of" AH)
  (B6:DA K "bits_of" XH)
  (C6:DA K "seen_among" VF)
  (E6:DA K "all_rooms" NG)
  (F6:DA K "seen_from" OG)
  (G6:DA K "ranks_of_sort" tQ)
  (J6:DA K "goes_round" XF)
  (K6:DA K "parts_among" xV)
  (L6:DA K "loop_parts" YF)
  (M6:DA K "top_rank" BH)
  (N6:DA K "parts_topped" vW)
  (O6:DA K "loops_of_sort" tR)
  (P6:DA K "ways_from" QG)
  (Q6:DA K "rooms_reached" tU)
  (R6:DA K "is_loop" YH)
  (S6:DA K "way_in" II)
  (a30:findIn K (.ref Ra) (ofString "rooms_along")=some (some<|.ref QE))
  (e30:isFn K (.ref QE)=true)
  (l30:K.lookup QE=some ⟨UO,XO,.func<|fnOf "rooms_along" "Machine.rooms_along" (jQ dO) (eX dO) (bM dO) .none KO XM dP RK vy UM,BP⟩)
  (c30:codeIn K vy "Machine.rooms_along"=true)
  (k30:keepIn K (.ref QE)=true)
  (T6:DA K "round_in" CH)
  (U6:DA K "nest_of" ZH)
  (V6:DA K "is_whole" DH)
  (W6:DA K "is_below" EH)
  (O7:MA K Ra "check_room" "check_room" "Machine.check_room" mU)
  (X6:DA K "is_word" aI)
  (P7:MA K Ra "check_word" "check_word" "Machine.check_word" mV)
  (Q7:MA K Ra "after" "after" "Machine.after" tV)
  (Y6:DA K "bar_behind" ZF)
  (R7:MA K Ub "bar" "bar" "EarlyNo.bar" xW)
  (S7:MA K Gb "bar" "bar" "EarlyYes.bar" vX)
  (Z6:DA K "without_top" xX)
  (b7:DA K "is_good" fI)
  (d7:DA K "inner_loops" xY)
  (f7:DA K "bar_within" kG)
  (T7:MA K Wb "bar" "bar" "Settled.bar" xZ)
  (U7:MA K Vc "bar" "bar" "Again.bar" RG)
  (V7:MA K Vb "bar" "bar" "Lasting.bar" yC)
  (i7:DA K "ranks_by" FH)
  (j7:DA K "joined" JI)
  (m7:DA K "reaching" GH)
  (o7:DA K "never_coming_to" qF)
  (p7:DA K "dead_rooms" AG)
  (W7:MA K Ub "ranks_for" "ranks_for" "EarlyNo.ranks_for" nU)
  (t7:DA K "sure_rooms" BG)
  (X7:MA K Gb "ranks_for" "ranks_for" "EarlyYes.ranks_for" mW)
  (Y7:MA K Wb "ranks_for" "ranks_for" "Settled.ranks_for" nW)
  (u7:DA K "outer_loops" yD)
  (v7:DA K "least_rank" CG)
  (HP:DA K "ranks_within" vY)
  (A7:DA K "ranks_from" DG)
  (Z7:MA K Vc "ranks_for" "ranks_for" "Again.ranks_for" qG)
  (b8:MA K Vb "ranks_for" "ranks_for" "Lasting.ranks_for" nY)
  (B7:DA K "is_filled_list" rE)
  (C7:DA K "is_row" KI)
  (E7:DA K "are_steps" SG)
  (F7:DA K "are_ranks" UG)
  (a68:findIn K (.ref Ra) (ofString "__init__")=some (some<|.ref RE))
  (e68:isFn K (.ref RE)=true)
  (l68:K.lookup RE=some ⟨VO,YO,.func<|fnOf "__init__" "Machine.__init__" (jQ fW) (eX fW) (bM fW) .none LO YM eP SK wy VM,CP⟩)
  (c68:codeIn K wy "Machine.__init__"=true)
  (k68:keepIn K (.ref RE)=true)
  (d8:MA K Rc "marked" "marked" "Kind.marked" iI)
  (G7:DA K "_law_refused" vZ)
  (J7:DA K "_law_whole" EG)
  (K7:DA K "_law_due" HH)
  (L7:DA K "_law_right" FG)
  (M7:DA K "_law_marks_right" pC)
  (a75:nsIn K mainGlobals "law"=some (some<|.ref fN))
  (l75:K.lookup fN=some ⟨WO,ZO,.func<|fnOf "law" "law" (jQ uo) (eX uo) (bM uo) .none qz zy zz Gx Nr yy,DP⟩)
  (c75:codeIn K Nr "law"=true)
  (k75:keepIn K (.ref fN)=true)
  (e8:MA K Vc "marked" "marked" "Kind.marked" iI)
  (g8:MA K Ub "marked" "marked" "Kind.marked" iI)
  (i8:MA K Gb "marked" "marked" "Kind.marked" iI)
  (j8:MA K Vb "marked" "marked" "Kind.marked" iI)
  (m8:MA K Wb "marked" "marked" "Kind.marked" iI)
  (v_LETTERS:nsIn K mainGlobals "LETTERS"=some (some<|.str "abc" Eg))
  (v_MOST_LETTERS:nsIn K mainGlobals "MOST_LETTERS"=some (some<|.int 3 ze))
  (v_MOST_ROOMS:nsIn K mainGlobals "MOST_ROOMS"=some (some<|.int 8 rf))
  (z_all:nsIn K mainGlobals "all"=some none)
  (z_bool:nsIn K mainGlobals "bool"=some none)
  (z_int:nsIn K mainGlobals "int"=some none)
  (z_isinstance:nsIn K mainGlobals "isinstance"=some none)
  (z_len:nsIn K mainGlobals "len"=some none)
  (z_list:nsIn K mainGlobals "list"=some none)
  (z_max:nsIn K mainGlobals "max"=some none)
  (z_min:nsIn K mainGlobals "min"=some none)
  (z_range:nsIn K mainGlobals "range"=some none)
  (z_set:nsIn K mainGlobals "set"=some none)
  (z_sorted:nsIn K mainGlobals "sorted"=some none)
  (z_str:nsIn K mainGlobals "str"=some none)
  (z_zip:nsIn K mainGlobals "zip"=some none) :
  ∃fd:FuncData,(∀(s:Shared)(v:Value),BindsTo s fd ⟨[v],[]⟩ [("_law_script",v)])/\∀base:Heap,K.In base->base.Ns mainGlobals mg->Aa l.prog w K mg base Ib 25 fa fd ["_law_script"] (jc K 1 fu):=by
 have e:=hfa.symm.trans<|si X G a75;cases e;have zG:=si X G yd.ns;have Gd:=si X G vc.ns;have qd:=si X G bc.ns;have xG:=si X G gh.ns;have Hd:=si X G wc.ns;have cf:=si X G ja.ns;have Jd:=si X G xc.ns;have Ab:nM K Ra (ofString "letters"):=w_Machine_letters;have bD:nM K Ra (ofString "many"):=w_Machine_many;have aX:nM K Ra (ofString "ranks"):=w_Machine_ranks;have ka:nM K Ra (ofString "steps"):=w_Machine_steps;obtain⟨Jh,Jc⟩:=Ii.at FE y3 y4;have y_NoKind:=Ii.a;have jC:=si X G y_NoKind;obtain⟨uv,By⟩:=Ji.at FE y3 y4;have y_NoLoop:=Ji.a;have Cv:=si X G y_NoLoop;obtain⟨Ro,Hq⟩:=Hg.at FE y3 y4;have y_NoMachine:=Hg.a;have ap:=si X G y_NoMachine;obtain⟨vv,Cy⟩:=Ki.at FE y3 y4;have y_NoRoom:=Ki.a;have Dv:=si X G y_NoRoom;obtain⟨xv,Dy⟩:=Li.at FE y3 y4;have y_NoWord:=Li.a;have Fv:=si X G y_NoWord;have Ld:zk K Bb true "NoKind":=ax X y_NoKind ja_NoKind_NoKind;have Md:zk K Bb false "NoLoop":=ax X y_NoLoop ja_NoKind_NoLoop;have Xc:zk K Bb false "NoMachine":=ax X y_NoMachine ja_NoKind_NoMachine;have Nd:zk K Bb false "NoRoom":=ax X y_NoRoom ja_NoKind_NoRoom;have Od:zk K Bb false "NoWord":=ax X y_NoWord ja_NoKind_NoWord;have IP:=PB (st:=dO) l30 c30 k30;have ò:=IP.fh (ps:=["self","room","text"]) λ_ _ _ _ _ _=>RB<|λ_ _ _=>rfl
 have JP:=bLe (st:=fW) l68 c68 k68;have ó:=JP.binds (ps:=["self","steps","ranks"]) λ_ _ _ _ _ _=>RB<|λ_ _ _=>rfl
 have KP:=PB (st:=uo) l75 c75 k75;have b75:=KP.fh (ps:=["_law_script"]) λ_ _ _ _ _ _=>OJ<|λ_=>rfl
 have um:=Lk X G z_all;have dg:=Lk X G z_bool;have sf:=Lk X G z_int;have bH:=Lk X G z_isinstance;have cQ:=Lk X G z_len;have Rb:=Lk X G z_list;have wZ:=Lk X G z_max;have Tj:=Lk X G z_min;have za:=Lk X G z_range;have Uj:=Lk X G z_set;have ng:=Lk X G z_sorted;have zD:=Lk X G z_str;have xD:=Lk X G z_zip;have Xb:=si X G v_LETTERS;have zd:=si X G v_MOST_LETTERS;have ie:=si X G v_MOST_ROOMS;refine⟨fnOf "law" "law" (jQ uo) (eX uo) (bM uo) .none qz zy zz Gx Nr yy,λs v=>.of_eq rfl,λbase _ _=>?_⟩
 have C:Ct l.prog w K mg base h:=⟨X,G⟩;have tD:=D1.ok C<|ϕ cQ;have Sd:=D2.ok C ϖ;have gd:=D3.ok C B_;have Ge:=D4.ok C<|ϗ wZ Tj;have qI:=D5.ok C<|Y9 cQ tD Sd gd Ge za;have gD:=D6.ok C ο;have dH:=D7.ok C<|π cQ za;have yc:=D8.ok C<|p9 cQ za dH;have He:=D9.ok C<|Ϙ yd vc bc wc xc zG Gd qd Hd Jd Hf qf Kf Ug Jf;have Yz:=p6.ok C<|Î cQ wZ za;have eU:=t6.ok C<|ϙ Yz;have sI:=u6.ok C<|C_ dH eU;have cG:=w6.ok C Ï;have bF:=A6.ok C<|Ð za cG;have pb:=B6.ok C ĩ;have gC:=C6.ok C<|ρ cG bF pb;have Tb:=E6.ok C<|Ϛ za pb ja bD Rb;have eV:=F6.ok C<|ϛ ja gC Tb ka;have oO:=G6.ok C<|E9 bF ja aX ng Uj;have uP:=J6.ok C<|ς cQ bF;have rZ:=K6.ok C<|D_ cG bF pb gC uP;have dI:=L6.ok C<|υ ja ka rZ;have gc:=M6.ok C<|Ñ wZ bF ja aX;have Cd:=N6.bP C<|Z9 bF pb ja aX dI gc;have Ia:=O6.ok C<|F9 oO Cd;have mX:=P6.ok C<|Ϝ cQ xD Xb;have oR:=Q6.bP C<|G9 za ja bD Rb ka mX;have BA:=R6.ok C<|Ī dI;have Td:=S6.ok C<|bFy cG bF ja ka mX;have vf:=v8 (P:=l.prog) (w:=w) (mg:=mg) (base:=base) ja ka Xb IP;have Ya:ae l.prog w K mg base "Machine" "rooms_along" 1 3 [] cW:=ae.of (Xd:=[]) ja ⟨a30,e30,k30⟩ vf ò (.nil) λ_=>.nil
 have md:=T6.ok C<|Ò cG bF ja ka Xb BA Td Ya;have Kd:=U6.ok C<|ī cG oR md;have pD:=V6.ok C<|Ó bH sf dg;have pF:=W6.ok C<|Ô pD;have iB:=O7.ok C ja<|G8 ja bD pF;have CA:=X6.ok C<|Ĭ Xb bH zD;have Sb:=P7.ok C ja<|H8 ja CA Ab;have Oc:=Q7.ok C ja<|H9 Ya iB Sb;have lA:=Y6.ok C<|χ bF Td md eV Ia Kd Oc;have dX:=R7.ok C vc<|E_ lA;have qb:=S7.ok C bc<|a_ lA;have sE:=Z6.ok C<|F_ bF pb ja aX gc;have sd:=b7.ok C<|ĭ gc;have jL:=d7.ok C<|G_ dI sE sd;have fC:=f7.ok C<|ψ eV Ia Kd jL;have zb:=T7.ok C xc<|H_ fC;have Kb:=U7.ok C yd<|ϝ fC;have yb:=V7.ok C wc<|I_ fC;have jM:=i7.ok C<|Õ za cG ja bD;have wA:=j7.ok C bFz;have df:=m7.ok C<|Ö za pb ja bD gC Tb ka;have fD:=o7.ok C<|e9 Tb Ia wA df;have pe:=p7.ok C<|ω fD;have La:=W7.ok C vc<|N8 jM pe;have uQ:=t7.ok C<|Α fD;have Ea:=X7.ok C bc<|I8 jM uQ;have Na:=Y7.ok C xc<|O8 eV Ia wA jM;have sH:=u7.ok C<|J_ dI eV;have uR:=v7.ok C Β;have Rg:∀n,Ga l.prog w K mg base "ranks_within" (7+n) 3 (lD n):=by
  intro n
  induction n with
  |zero=>exact HP.ok C<|λF=>E1 (k:=6) F DQ 3 8 qO rfl rfl λ_ _ _ _ _ _ _ _=>bFx
  |succ n ih=>exact HP.ok C<|b_ wZ bF sd jL uR ih
 have Dd:Ga l.prog w K mg base "ranks_within" 19 3 pQ:=Rg 12;have lB:=A7.bP C<|Γ za ja bD sH Dd;have Xa:=Z7.ok C yd<|f9 lB;have Ma:=b8.ok C wc<|P8 lB;have kE:=B7.ok C<|q9 cQ Rb bH;have rg:=C7.ok C<|bG0 cQ pF um;have xF:=E7.ok C<|Ϟ cQ um kE rg ie zd;have Ie:=F7.ok C<|ϟ cQ Rb bH pD um;have fg:=T8 (P:=l.prog) (w:=w) (mg:=mg) (base:=base) cQ ja bD Rb ka aX Ab xF Ie JP;have Yb:=Yg.of ja ⟨x5_Machine,a68,e68,x6_Machine⟩ fg ó<|si X G ja.ns;have lG:=d8.Tn C gh<|lM ja ka dX qb zb Kb yb La Ea Na Xa Ma Yb Jc jC;have Za:=e8.Tn C yd<|lM ja ka dX qb zb Kb yb La Ea Na Xa Ma Yb Jc jC;have Ua:=g8.Tn C vc<|lM ja ka dX qb zb Kb yb La Ea Na Xa Ma Yb Jc jC;have Qa:=i8.Tn C bc<|lM ja ka dX qb zb Kb yb La Ea Na Xa Ma Yb Jc jC;have Va:=j8.Tn C wc<|lM ja ka dX qb zb Kb yb La Ea Na Xa Ma Yb Jc jC;have Wa:=m8.Tn C xc<|lM ja ka dX qb zb Kb yb La Ea Na Xa Ma Yb Jc jC;have Ad:=G7.ok C<|c_ Jc jC lG Ua Qa Wa Za Va Ld Md Xc Nd Od;have me:=J7.ok C<|Δ bH sf dg;have ye:=K7.ok C<|Ø cQ za dH eU sf;have je:=L7.ok C<|Ε cQ za eU ja ka aX bH gD me ye cf mf;have Hb:=M7.ok C<|U8 za ja ka aX lG Ua Qa Wa Za Va gD sI Ad je;have Fy:=bQe (P:=l.prog) (w:=w) (mg:=mg) (base:=base) cQ za dH yd vc bc wc xc zG Gd qd Hd Jd Rb bH Yb gD qI yc He Hb gh xG kk_Lasting_Kind kk_Again_Kind kk_Settled_Kind kk_EarlyYes_Kind kk_EarlyNo_Kind Yh kf vg pf Ke jf KP;exact Fy
theorem bJk{q:Program} {K:Params->Frag} {as:List Addr} {t:Nat} {r:PySem.W.RowW} {d:DefRec} {G5:List (Str×Expr)} {run:Value->List Value->Sem Value} (e:∀P,as=(K P).map (·.1)) (h:WalkO q loose XP (InK K) r d G5 run):PySem.W.WalkX q loose XP (PySem.W.X.obsZ as) (PySem.W.X.valZ K n t) r d G5 run:=
 λw Ba Lb mg mb G y a o pm cd doc dV kV h1 h2 h3 h4 h5 h6 args vals as' L h7 h8 h9 h10 h11=>h w Ba Lb mg mb G (PySem.W.InK.keeps w _ _ (PySem.W.X.z_facts e y).2.1 L.keeps) a o pm cd doc dV kV h1 h2 h3 h4 h5 h6 args vals as' h7 h8 h9 h10 h11
theorem walk{l:OpenLaw}{q:Program} {YP:World->Heap->Prop} {d:DefRec} {K:Params->Frag} (hn:l.most=some 63) (Ry:d.params.defaults=[])
  (hY:∀(w:World)(h:Heap),YP w h->(K w.params).In h)
  (hlaw:∀ns:List Int,ns.length<=63->fu [.lst<|ns.map D.int]=.ok (.bl true))
  (F:∀(w:World)(mg:Str->Option Value)(fa:Addr)(h:Heap),(K w.params).In h->h.Ns mainGlobals mg->mg d.name=some (.ref fa)->
   ∃fd:FuncData,(∀(s:Shared)(u:Value),BindsTo s fd ⟨[u],[]⟩ [("_law_script",u)])/\∀base:Heap,(K w.params).In base->base.Ns mainGlobals mg->Aa l.prog w (K w.params) mg base Ib 25 fa fd ["_law_script"] (jc (K w.params) 1 fu)) :
  WalkO q loose XP YP l.row.toRowW d [] (λf vs=>PySem.call f vs):=
 L2.Np (n:=63) (k:=25) (x:="_law_script") (CX:=λ_=>Ib) (sp:=λw=>jc (K w.params) 1 fu) hn (by decide) Ry ⟨rfl,by decide,by decide⟩ hY F (λ_ _ a ns hl _ hS=>bMp hS<|hlaw ns hl) λ_ _ _ _ _ z=>z
end Pu
structure PySem.W.Fast where (tw1850917770647118075 tw1900594345549470600 tw2108539369443790869 tw12327292977446853689 tw14961464010924327720 tw18028013495465256896 tw2855894221727412302 tw8791097598254990384 tw2793150959684245967 tw17936381886636652132 tw18006497571588757407 tw17511107313082608783 tw3590495731508601136 tw914930783615716129 tw10319050988534406055 tw18441962243926458965 tw13982917687649836298 tw1866113658470389 tw2380679809912198435 tw17419010967473675122 tw4825611576218803650 tw17487476009492164787 tw12207811927011192818 tw313876991196238765 tw7068840426921457286 tw12777813888232201420 tw17398638768512713394 tw7374799013990645036 tw5348067151329741514 tw17876822073197119936 tw17270012591920371085 tw3424324617177553602 tw9069854092216354434 tw8983388825525244208 tw12467077083832634091 tw4177424642819537126 tw4611321452699143318 tw6125389721045970869 tw14096641321625248584 tw2532757078990505353 tw10542651440574467204 tw12605910997034298212 tw15272993627031975910 tw10111157435613522728 tw10150921646548958200 tw5933924308919937141 tw10814402157266207871 tw12738813041351686278 tw9959235000999870860 tw8778466850629788288 tw2014464499160977687 tw3292517902940284423 tw10991450796564151492 tw14029154319322707513 tw7233715152225812290 tw16569241496360837031 tw4028277648490882001 tw6585926958703263698 tw13883222972228051015 tw10760690600474516264 tw8890624721005386828 tw12608422809320678602 tw2626891689279696014 tw1567911863346178843 tw14795184815571309667 tw17047636484976330136 tw2055536569793833032 tw9985866579419268716 tw7148165129585332858 tw6018717974176327685 tw3825465456697409122 tw14299445795086841885 tw10504880414417604749 tw5124849808309541625 tw10548635908871666311 tw17911339679086548248 tw1965220011603248083 tw10103504543435614381 tw14576913004278396388 tw17954478786809464348 tw6966580601707572695 tw8796286651185263759 tw8694957139741530602 tw12896733215660938117 tw12735864409266015401 tw13511957650647982212 tw14530344598480107175 tw3732691036868353725 tw9572300501323720991 tw6234393639200649251 tw5427787306484117931 tw9411266903497124231 tw7827971168025456023 tw15431880451773650874 tw17750538756134916461 tw7319722026702512459 tw12244028960883108350 tw5743690339874899657 tw17029414646960144102 tw15500694155522938873 tw12424328222326301195 tw15483006117893199836 tw6969711547702844997 tw16451973066297481049 tw12170286554633405587 tw2987108550968476505 tw12118233464632939955 tw8171388111256540610 tw12258000028731645164 tw2038091395122224469 tw4815748891369542530 tw16437302416379954049 tw11431581113577801229 tw16447117959932269536 tw17760944563075386062 tw15295217784748857853 tw12149977183845534902 tw4221283818432473289 tw5979082376849442682 tw17157826318953518782 tw8335935153531197979 tw13886239730414926767 tw700335876727392128 tw7224802683390746692 tw290473813826750791 tw6564650620527033749 tw13497530919639218292 tw11429069437286221003 tw16763213359464839726 tw3344625155991115334 tw4569833654593162991 tw14425355437831542905 tw3670592656696008516 tw15857418478886246489 tw14441464816652761490 tw444506584425250933 tw5922149186109905719 tw761319676478960471 tw17193902745483857006:Nat)
open PySem PySem.W PyProof.Rows
set_option maxRecDepth 100000 in
set_option maxHeartbeats 0 in
theorem PySem.Challenge.cw_looprank_k41_marked_holds : PySem.Challenge.rw_looprank_k41_marked.Holds := by
 w_on;o_law;z_head;(case hw=>w_witness2)
 k_fill
 refine Pu.bJk (λP=>by kernel_rfl) (Pu.walk (l:=PySem.Challenge.rw_looprank_k41_marked) rfl rfl (λw h Y=>Y) Pu.law_true ?F)
 case F=>
  intro w mg fa h KX G hmg;refine' Pu.all_mk PySem.F.excBase_ValueError KX G hmg ⟨?x_Again,?x1_Again,?x2_Again,?x3_Again,?x4_Again⟩ ⟨?x8_Again,?x9_Again,?y3,?y4,?xo_Again⟩ ⟨?x5_Again,?x7_Again,?x6_Again⟩ ⟨?x_EarlyNo,?x1_EarlyNo,?x2_EarlyNo,?x3_EarlyNo,?x4_EarlyNo⟩ ⟨?x8_EarlyNo,?x9_EarlyNo,?y3,?y4,?xo_EarlyNo⟩ ⟨?x5_EarlyNo,?x7_EarlyNo,?x6_EarlyNo⟩ ⟨?x_EarlyYes,?x1_EarlyYes,?x2_EarlyYes,?x3_EarlyYes,?x4_EarlyYes⟩ ⟨?x8_EarlyYes,?x9_EarlyYes,?y3,?y4,?xo_EarlyYes⟩ ⟨?x5_EarlyYes,?x7_EarlyYes,?x6_EarlyYes⟩ ⟨?x_Kind,?x1_Kind,?x2_Kind,?x3_Kind,?x4_Kind⟩ ⟨?x8_Kind,?x9_Kind,?y3,?y4,?xo_Kind⟩ ⟨?x_Lasting,?x1_Lasting,?x2_Lasting,?x3_Lasting,?x4_Lasting⟩ ⟨?x8_Lasting,?x9_Lasting,?y3,?y4,?xo_Lasting⟩ ⟨?x5_Lasting,?x7_Lasting,?x6_Lasting⟩ ⟨?x_Machine,?x1_Machine,?x2_Machine,?x3_Machine,?x4_Machine⟩ ⟨?x8_Machine,?x9_Machine,?y3,?y4,?xo_Machine⟩ ?x5_Machine ?x6_Machine ⟨?x_Settled,?x1_Settled,?x2_Settled,?x3_Settled,?x4_Settled⟩ ⟨?x8_Settled,?x9_Settled,?y3,?y4,?xo_Settled⟩ ⟨?x5_Settled,?x7_Settled,?x6_Settled⟩ ?kk_Again_Kind ?kk_EarlyNo_Kind ?kk_EarlyYes_Kind ?kk_Lasting_Kind ?kk_Settled_Kind ?w_Machine_letters ?w_Machine_many ?w_Machine_ranks ?w_Machine_steps ?y3 ?y4 (Pu.XA.mk ?y_NoKind ?y0_NoKind ?y1_NoKind ?y6_NoKind ?y7_NoKind ?y2_NoKind ?y5_NoKind) (Pu.XA.mk ?y_NoLoop ?y0_NoLoop ?y1_NoLoop ?y6_NoLoop ?y7_NoLoop ?y2_NoLoop ?y5_NoLoop) (Pu.XA.mk ?y_NoMachine ?y0_NoMachine ?y1_NoMachine ?y6_NoMachine ?y7_NoMachine ?y2_NoMachine ?y5_NoMachine) (Pu.XA.mk ?y_NoRoom ?y0_NoRoom ?y1_NoRoom ?y6_NoRoom ?y7_NoRoom ?y2_NoRoom ?y5_NoRoom) (Pu.XA.mk ?y_NoWord ?y0_NoWord ?y1_NoWord ?y6_NoWord ?y7_NoWord ?y2_NoWord ?y5_NoWord) ?ja_NoKind_NoKind ?ja_NoKind_NoLoop ?ja_NoKind_NoMachine ?ja_NoKind_NoRoom ?ja_NoKind_NoWord (Pu.cI ?a1 ?l1 ?c1 ?k1) (Pu.cI ?a2 ?l2 ?c2 ?k2) (Pu.cI ?a3 ?l3 ?c3 ?k3) (Pu.cI ?a4 ?l4 ?c4 ?k4) (Pu.cI ?a5 ?l5 ?c5 ?k5) (Pu.cI ?a6 ?l6 ?c6 ?k6) (Pu.cI ?a7 ?l7 ?c7 ?k7) (Pu.cI ?a8 ?l8 ?c8 ?k8) (Pu.cI ?a9 ?l9 ?c9 ?k9) (Pu.cI ?a10 ?l10 ?c10 ?k10) (Pu.cI ?a11 ?l11 ?c11 ?k11) (Pu.cI ?a12 ?l12 ?c12 ?k12) (Pu.cI ?a13 ?l13 ?c13 ?k13) (Pu.cI ?a14 ?l14 ?c14 ?k14) (Pu.cI ?a15 ?l15 ?c15 ?k15) (Pu.cI ?a16 ?l16 ?c16 ?k16) (Pu.cI ?a17 ?l17 ?c17 ?k17) (Pu.cI ?a18 ?l18 ?c18 ?k18) (Pu.cI ?a19 ?l19 ?c19 ?k19) (Pu.cI ?a20 ?l20 ?c20 ?k20) (Pu.cI ?a21 ?l21 ?c21 ?k21) (Pu.cI ?a22 ?l22 ?c22 ?k22) (Pu.cI ?a23 ?l23 ?c23 ?k23) (Pu.cI ?a24 ?l24 ?c24 ?k24) (Pu.cI ?a25 ?l25 ?c25 ?k25) (Pu.cI ?a26 ?l26 ?c26 ?k26) (Pu.cI ?a27 ?l27 ?c27 ?k27) (Pu.cI ?a28 ?l28 ?c28 ?k28) (Pu.cI ?a29 ?l29 ?c29 ?k29) ?a30 ?e30 ?l30 ?c30 ?k30 (Pu.cI ?a31 ?l31 ?c31 ?k31) (Pu.cI ?a32 ?l32 ?c32 ?k32) (Pu.cI ?a33 ?l33 ?c33 ?k33) (Pu.cI ?a34 ?l34 ?c34 ?k34) (Pu.qD ?a35 ?e35 ?l35 ?c35 ?k35) (Pu.cI ?a36 ?l36 ?c36 ?k36) (Pu.qD ?a37 ?e37 ?l37 ?c37 ?k37) (Pu.qD ?a38 ?e38 ?l38 ?c38 ?k38) (Pu.cI ?a39 ?l39 ?c39 ?k39) (Pu.qD ?a40 ?e40 ?l40 ?c40 ?k40) (Pu.qD ?a41 ?e41 ?l41 ?c41 ?k41) (Pu.cI ?a42 ?l42 ?c42 ?k42) (Pu.cI ?a43 ?l43 ?c43 ?k43) (Pu.cI ?a44 ?l44 ?c44 ?k44) (Pu.cI ?a45 ?l45 ?c45 ?k45) (Pu.qD ?a46 ?e46 ?l46 ?c46 ?k46) (Pu.qD ?a47 ?e47 ?l47 ?c47 ?k47) (Pu.qD ?a48 ?e48 ?l48 ?c48 ?k48) (Pu.cI ?a49 ?l49 ?c49 ?k49) (Pu.cI ?a50 ?l50 ?c50 ?k50) (Pu.cI ?a51 ?l51 ?c51 ?k51) (Pu.cI ?a52 ?l52 ?c52 ?k52) (Pu.cI ?a53 ?l53 ?c53 ?k53) (Pu.qD ?a54 ?e54 ?l54 ?c54 ?k54) (Pu.cI ?a55 ?l55 ?c55 ?k55) (Pu.qD ?a56 ?e56 ?l56 ?c56 ?k56) (Pu.qD ?a57 ?e57 ?l57 ?c57 ?k57) (Pu.cI ?a58 ?l58 ?c58 ?k58) (Pu.cI ?a59 ?l59 ?c59 ?k59) (Pu.cI ?a60 ?l60 ?c60 ?k60) (Pu.cI ?a61 ?l61 ?c61 ?k61) (Pu.qD ?a62 ?e62 ?l62 ?c62 ?k62) (Pu.qD ?a63 ?e63 ?l63 ?c63 ?k63) (Pu.cI ?a64 ?l64 ?c64 ?k64) (Pu.cI ?a65 ?l65 ?c65 ?k65) (Pu.cI ?a66 ?l66 ?c66 ?k66) (Pu.cI ?a67 ?l67 ?c67 ?k67) ?a68 ?e68 ?l68 ?c68 ?k68 (Pu.qD ?a69 ?e69 ?l69 ?c69 ?k69) (Pu.cI ?a70 ?l70 ?c70 ?k70) (Pu.cI ?a71 ?l71 ?c71 ?k71) (Pu.cI ?a72 ?l72 ?c72 ?k72) (Pu.cI ?a73 ?l73 ?c73 ?k73) (Pu.cI ?a74 ?l74 ?c74 ?k74) ?a75 ?l75 ?c75 ?k75 (Pu.qD ?aI0 ?eI0 ?lI0 ?cI0 ?kI0) (Pu.qD ?aI1 ?eI1 ?lI1 ?cI1 ?kI1) (Pu.qD ?aI2 ?eI2 ?lI2 ?cI2 ?kI2) (Pu.qD ?aI3 ?eI3 ?lI3 ?cI3 ?kI3) (Pu.qD ?aI4 ?eI4 ?lI4 ?cI4 ?kI4) ?v_LETTERS ?v_MOST_LETTERS ?v_MOST_ROOMS ?z_all ?z_bool ?z_int ?z_isinstance ?z_len ?z_list ?z_max ?z_min ?z_range ?z_set ?z_sorted ?z_str ?z_zip
  (case x_Again|x1_Again|x2_Again|x3_Again|x4_Again=>k_is)
  (case x8_Again=>kit_is)
  (case x9_Again|y3|y4|xo_Again|x5_Again|x7_Again|x6_Again|x_EarlyNo|x1_EarlyNo|x2_EarlyNo|x3_EarlyNo|x4_EarlyNo=>k_is)
  (case x8_EarlyNo=>kit_is)
  (case x9_EarlyNo|xo_EarlyNo|x5_EarlyNo|x7_EarlyNo|x6_EarlyNo|x_EarlyYes|x1_EarlyYes|x2_EarlyYes|x3_EarlyYes|x4_EarlyYes=>k_is)
  (case x8_EarlyYes=>kit_is)
  (case x9_EarlyYes|xo_EarlyYes|x5_EarlyYes|x7_EarlyYes|x6_EarlyYes|x_Kind|x1_Kind|x2_Kind|x3_Kind|x4_Kind=>k_is)
  (case x8_Kind=>kit_is)
  (case x9_Kind|xo_Kind|x_Lasting|x1_Lasting|x2_Lasting|x3_Lasting|x4_Lasting=>k_is)
  (case x8_Lasting=>kit_is)
  (case x9_Lasting|xo_Lasting|x5_Lasting|x7_Lasting|x6_Lasting|x_Machine|x1_Machine|x2_Machine|x3_Machine|x4_Machine=>k_is)
  (case x8_Machine=>kit_is)
  (case x9_Machine|xo_Machine|x5_Machine|x6_Machine|x_Settled|x1_Settled|x2_Settled|x3_Settled|x4_Settled=>k_is)
  (case x8_Settled=>kit_is)
  (case x9_Settled|xo_Settled|x5_Settled|x7_Settled|x6_Settled=>k_is)
  (case kk_Again_Kind|kk_EarlyNo_Kind|kk_EarlyYes_Kind|kk_Lasting_Kind|kk_Settled_Kind=>kit_is)
  (case w_Machine_letters|w_Machine_many|w_Machine_ranks|w_Machine_steps|y_NoKind=>k_is)
  (case y0_NoKind=>k_exc)
  (case y1_NoKind|y6_NoKind|y7_NoKind|y2_NoKind|y5_NoKind|y_NoLoop=>k_is)
  (case y0_NoLoop=>k_exc)
  (case y1_NoLoop|y6_NoLoop|y7_NoLoop|y2_NoLoop|y5_NoLoop|y_NoMachine=>k_is)
  (case y0_NoMachine=>k_exc)
  (case y1_NoMachine|y6_NoMachine|y7_NoMachine|y2_NoMachine|y5_NoMachine|y_NoRoom=>k_is)
  (case y0_NoRoom=>k_exc)
  (case y1_NoRoom|y6_NoRoom|y7_NoRoom|y2_NoRoom|y5_NoRoom|y_NoWord=>k_is)
  (case y0_NoWord=>k_exc)
  (case y1_NoWord|y6_NoWord|y7_NoWord|y2_NoWord|y5_NoWord|ja_NoKind_NoKind|ja_NoKind_NoLoop|ja_NoKind_NoMachine|ja_NoKind_NoRoom|ja_NoKind_NoWord|a1|l1|c1|k1|a2|l2|c2|k2|a3|l3|c3|k3|a4|l4=>k_is)
  (case c4|k4|a5|l5|c5|k5|a6|l6|c6|k6|a7|l7|c7|k7|a8|l8|c8|k8|a9|l9|c9|k9|a10|l10=>k_is)
  (case c10|k10|a11|l11|c11|k11|a12|l12|c12|k12|a13|l13|c13|k13|a14|l14|c14|k14|a15|l15|c15|k15|a16|l16=>k_is)
  (case c16|k16|a17|l17|c17|k17|a18|l18|c18|k18|a19|l19|c19|k19|a20|l20|c20|k20|a21|l21|c21|k21|a22|l22=>k_is)
  (case c22|k22|a23|l23|c23|k23|a24|l24|c24|k24|a25|l25|c25|k25|a26|l26|c26|k26|a27|l27|c27|k27|a28|l28=>k_is)
  (case c28|k28|a29|l29|c29|k29|a30|e30|l30|c30|k30|a31|l31|c31|k31|a32|l32|c32|k32|a33|l33|c33|k33|a34=>k_is)
  (case l34|c34|k34|a35|e35|l35|c35|k35|a36|l36|c36|k36|a37|e37|l37|c37|k37|a38|e38|l38|c38|k38|a39|l39=>k_is)
  (case c39|k39|a40|e40|l40|c40|k40|a41|e41|l41|c41|k41|a42|l42|c42|k42|a43|l43|c43|k43|a44|l44|c44|k44=>k_is)
  (case a45|l45|c45|k45|a46|e46|l46|c46|k46|a47|e47|l47|c47|k47|a48|e48|l48|c48|k48|a49|l49|c49|k49|a50=>k_is)
  (case l50|c50|k50|a51|l51|c51|k51|a52|l52|c52|k52|a53|l53|c53|k53|a54|e54|l54|c54|k54|a55|l55|c55|k55=>k_is)
  (case a56|e56|l56|c56|k56|a57|e57|l57|c57|k57|a58|l58|c58|k58|a59|l59|c59|k59|a60|l60|c60|k60|a61|l61=>k_is)
  (case c61|k61|a62|e62|l62|c62|k62|a63|e63|l63|c63|k63|a64|l64|c64|k64|a65|l65|c65|k65|a66|l66|c66|k66=>k_is)
  (case a67|l67|c67|k67|a68|e68|l68|c68|k68|a69|e69|l69|c69|k69|a70|l70|c70|k70|a71|l71|c71|k71|a72|l72=>k_is)
  (case c72|k72|a73|l73|c73|k73|a74|l74|c74|k74|a75|l75|c75|k75|aI0|eI0|lI0|cI0|kI0|aI1|eI1|lI1|cI1|kI1=>k_is)
  (case aI2|eI2|lI2|cI2|kI2|aI3|eI3|lI3|cI3|kI3|aI4|eI4|lI4|cI4|kI4|v_LETTERS|v_MOST_LETTERS|v_MOST_ROOMS|z_all|z_bool|z_int|z_isinstance|z_len|z_list=>k_is)
  (case z_max|z_min|z_range|z_set|z_sorted|z_str|z_zip=>k_is)
